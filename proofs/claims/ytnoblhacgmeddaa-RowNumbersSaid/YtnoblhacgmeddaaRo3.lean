/-
  The document's own Same of rows.
-/
import Derived.Test.YtnoblhacgmeddaaRo2
set_option linter.unusedVariables false
set_option linter.unusedSimpArgs false
namespace Go.Proofs.Ytnoblhacgmeddaa
open Go Go.RowKit

def Ro.same (x y : Ro) : Bool := x.key.toList == y.key.toList && (x.live.same y.live && (x.gone == y.gone && (x.shade == y.shade && decide (x.cols = y.cols))))
theorem rosame_iff (x y : Ro) : x.same y = true ↔ x = y := by
  unfold Ro.same
  rw [Bool.and_eq_true, Bool.and_eq_true, Bool.and_eq_true, Bool.and_eq_true, eqB_iff, same_iff, beq_iff_eq, beq_iff_eq, decide_eq_true_iff]
  constructor
  · rintro ⟨h1, h2, h3, h4, h5⟩
    cases x; cases y; simp_all
  · rintro rfl
    simp

set_option maxHeartbeats 4000000 in
theorem rsamerow_any (k s k' s' : ByteArray) (d d' : Bool) (a e g h a' e' g' h' : Int) (A A' : Option Addr) (n c n' c' B B' : Nat) (l l' : Cols) (w : World) (hr : RdK w B A n l) (hr' : RdK w B' A' n' l') (hB : B ≤ w.heap.size) (hB' : B' ≤ w.heap.size) (hn : n ≤ 1000000) (hn' : n' ≤ 1000000) :
    Calls Try.prog 15 #[.agg #[.string k, .string s, .bool d, .int .i64 a, .int .i64 e, .int .i64 g, .int .i64 h, .slice A n c], .agg #[.string k', .string s', .bool d', .int .i64 a', .int .i64 e', .int .i64 g', .int .i64 h', .slice A' n' c']] w fun x w' => x = .returned (.bool (Ro.same ⟨k, ⟨s, d, a, e⟩, g, h, l⟩ ⟨k', ⟨s', d', a', e'⟩, g', h', l'⟩)) ∧ Below w.heap.size w w' := by
  obtain ⟨r, hrr⟩ : ∃ r, Ro.same ⟨k, ⟨s, d, a, e⟩, g, h, l⟩ ⟨k', ⟨s', d', a', e'⟩, g', h', l'⟩ = r := ⟨_, rfl⟩
  rw [hrr]
  have bz := ((Below.refl w.heap.size w).alloc (Nat.le_refl _) (.cells #[.string k, .string s, .bool d, .int .i64 a, .int .i64 e, .int .i64 g, .int .i64 h, .slice A n c] 26)).alloc (by simp) (.cells #[.string k', .string s', .bool d', .int .i64 a', .int .i64 e', .int .i64 g', .int .i64 h', .slice A' n' c'] 26)
  have ro := (RoAt.new w k s d a e g h A n c).below ((Below.refl (w.heap.size + 1) _).alloc (by simp) (.cells #[.string k', .string s', .bool d', .int .i64 a', .int .i64 e', .int .i64 g', .int .i64 h', .slice A' n' c'] 26)) (by omega)
  have ro' := RoAt.new (w.alloc (.cells #[.string k, .string s, .bool d, .int .i64 a, .int .i64 e, .int .i64 g, .int .i64 h, .slice A n c] 26)) k' s' d' a' e' g' h' A' n' c'
  simp only [World.size_alloc] at ro'
  have hall := fun w' (hb : Below ((w.alloc (.cells #[.string k, .string s, .bool d, .int .i64 a, .int .i64 e, .int .i64 g, .int .i64 h, .slice A n c] 26)).alloc (.cells #[.string k', .string s', .bool d', .int .i64 a', .int .i64 e', .int .i64 g', .int .i64 h', .slice A' n' c'] 26)).heap.size ((w.alloc (.cells #[.string k, .string s, .bool d, .int .i64 a, .int .i64 e, .int .i64 g, .int .i64 h, .slice A n c] 26)).alloc (.cells #[.string k', .string s', .bool d', .int .i64 a', .int .i64 e', .int .i64 g', .int .i64 h', .slice A' n' c'] 26)) w') =>
    And.intro (And.intro (ro.below hb (by simp; omega)) (ro'.below hb (by simp))) (And.intro ((hr.below (bz.mono hB)).below (hb.mono (by simp; omega))) ((hr'.below (bz.mono hB')).below (hb.mono (by simp; omega))))
  have HALL := Lib.hid hall; have BZ := Lib.hid bz; have HR := Lib.hid hrr
  clear hrr bz ro ro' hall hr hr'
  cases h1 : (k.toList == k'.toList)
  · have hv : r = false := by rw [← HR.out]; unfold Ro.same; simp only; rw [h1]; rfl
    subst hv
    go_enter Try.func15, Try.ntmps15
    go_wp2
    go_ret
    exact ⟨rfl, BZ.out⟩
  · obtain ⟨u, hu⟩ : ∃ u, Ce.same ⟨s, d, a, e⟩ ⟨s', d', a', e'⟩ = u := ⟨_, rfl⟩
    have HU := Lib.hid hu
    clear hu
    cases u
    · have hv : r = false := by rw [← HR.out]; unfold Ro.same; simp only; rw [h1, HU.out]; rfl
      subst hv
      go_enter Try.func15, Try.ntmps15
      go_wp2_with fail
      refine (rsame_any _ _ _ _ _ _ _ _ _).mono ?_
      rintro x w1 ⟨rfl, b1⟩
      rw [HU.out]
      go_wp2
      go_ret
      exact ⟨rfl, next BZ.out b1⟩
    · cases h3 : (g == g')
      · have hv : r = false := by rw [← HR.out]; unfold Ro.same; simp only; rw [h1, HU.out, h3]; rfl
        subst hv
        go_enter Try.func15, Try.ntmps15
        go_wp2_with fail
        refine (rsame_any _ _ _ _ _ _ _ _ _).mono ?_
        rintro x w1 ⟨rfl, b1⟩
        rw [HU.out]
        obtain ⟨⟨⟨_, _, _, _, _, _, _, _⟩, ⟨_, _, _, _, _, _, _, _⟩⟩, _⟩ := HALL.out _ b1
        go_wp2
        go_ret
        exact ⟨rfl, next BZ.out b1⟩
      · cases h4 : (h == h')
        · have hv : r = false := by rw [← HR.out]; unfold Ro.same; simp only; rw [h1, HU.out, h3, h4]; rfl
          subst hv
          go_enter Try.func15, Try.ntmps15
          go_wp2_with fail
          refine (rsame_any _ _ _ _ _ _ _ _ _).mono ?_
          rintro x w1 ⟨rfl, b1⟩
          rw [HU.out]
          obtain ⟨⟨⟨_, _, _, _, _, _, _, _⟩, ⟨_, _, _, _, _, _, _, _⟩⟩, _⟩ := HALL.out _ b1
          go_wp2
          go_ret
          exact ⟨rfl, next BZ.out b1⟩
        · have hv : decide (l = l') = r := by rw [← HR.out]; unfold Ro.same; simp only; rw [h1, HU.out, h3, h4]; simp
          have HV := Lib.hid hv
          clear hv
          go_enter Try.func15, Try.ntmps15
          go_wp2_with fail
          refine (rsame_any _ _ _ _ _ _ _ _ _).mono ?_
          rintro x w1 ⟨rfl, b1⟩
          rw [HU.out]
          obtain ⟨⟨⟨_, _, _, _, _, _, _, _⟩, ⟨_, _, _, _, _, _, _, _⟩⟩, hk1, hk2⟩ := HALL.out _ b1
          have HK1 := Lib.hid hk1; have HK2 := Lib.hid hk2
          clear hk1 hk2
          have hs1 := (next BZ.out b1).size
          go_wp2_with fail
          refine (rsamecols_any A A' n n' c c' B B' l l' _ HK1.out HK2.out (by omega) (by omega) hn hn').mono ?_
          rintro x w2 ⟨rfl, b2⟩
          rw [HV.out]
          go_wp2
          go_ret
          exact ⟨rfl, next (next BZ.out b1) b2⟩
end Go.Proofs.Ytnoblhacgmeddaa
