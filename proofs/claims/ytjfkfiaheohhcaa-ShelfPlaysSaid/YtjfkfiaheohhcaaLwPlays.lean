/-
  The walk of ShelfPlays.
-/
import Derived.Test.YtjfkfiaheohhcaaDo
import Derived.Test.YtjfkfiaheohhcaaSame
import Derived.Test.YtjfkfiaheohhcaaOpnO
set_option linter.unusedVariables false
set_option linter.unusedSimpArgs false
namespace Go.Proofs.Ytjfkfiaheohhcaa
open Go Go.RowKit

/-- The two copies: there are none yet, or both are there, alike, apart from what goes on. -/
def Copies (W0 w : World) (F G : Nat → Prop) (v8 v9 : Value) : Prop :=
  (v8 = .pointer none ∧ v9 = .pointer none) ∨
  ∃ a b H K T, v8 = .pointer (some ⟨a, 0, none⟩) ∧ v9 = .pointer (some ⟨b, 0, none⟩) ∧ Two W0 w H K a b T T ∧ Off (Un F G) (Un H K)
theorem Copies.step {W0 w w' : World} {F G F' G' : Nat → Prop} {v8 v9 : Value} {p q : Nat} {S R : Sh} (h : Copies W0 w F G v8 v9) (hm : Two W0 w F G p q S R) (st : Step (Un F G) w (Un F' G') w') : Copies W0 w' F' G' v8 v9 := by
  rcases h with h | ⟨a, b, H, K, T, e1, e2, h3, h4⟩
  · exact Or.inl h
  · exact Or.inr ⟨a, b, H, K, T, e1, e2, h3.beside hm st h4, st.off h4 h3.in_⟩
theorem Copies.read {W0 w w' : World} {F G : Nat → Prop} {v8 v9 : Value} {p q : Nat} {S R : Sh} (h : Copies W0 w F G v8 v9) (hm : Two W0 w F G p q S R) (hb : Below w.heap.size w w') : Copies W0 w' F G v8 v9 :=
  h.step hm (Step.same (Kept.of_below hb _))

set_option maxRecDepth 100000 in
set_option maxHeartbeats 8000000 in
theorem plays_law (A : Option Addr) (n c : Nat) (L : Ops) (at' : Int) (w : World) (hr : RdO w w.heap.size A n L) (hn : n ≤ c) (hc : c ≤ maxLen) (hL : ∀ x ∈ L, (Lit.int .i64 x.1).wf = true ∧ (Lit.int .i64 x.2.1).wf = true ∧ x.2.2.size ≤ maxLen) (ha : (Lit.int .i64 at').wf = true) :
    Calls Try.prog 3 #[.slice A n c, .int .i64 at'] w fun e w' => e = .returned (.bool true) ∧ Below w.heap.size w w' := by
  obtain ⟨al, ah⟩ := bounds_i64 ha
  obtain ⟨z, hz⟩ : ∃ z : Nat, at' % 30 = z := ⟨(at' % 30).toNat, by omega⟩
  have HZ := Lib.hid hz
  have HL := Lib.hid hL
  have HR := Lib.hid hr
  have HLN := Lib.hid hr.1
  unfold maxLen at hc
  clear hz hL hr ha
  go_enter Try.func3, Try.ntmps3
  go_wp2_with fail
  refine (new_my w _ (Below.refl _ _)).mono ?_
  rintro e w1 ⟨p, F, rfl, m1, b1, _⟩
  go_wp2_with fail
  refine (place_any at' 30 _ (by omega) (by omega) ⟨al, ah⟩).mono ?_
  rintro e w2 ⟨rfl, rfl⟩
  rw [HZ.out]
  obtain ⟨q0, hq0⟩ : ∃ q0, w1.heap.size = q0 := ⟨_, rfl⟩
  have hbn := (Below.refl w1.heap.size w1).alloc (Nat.le_refl _) (.cells #[.string ⟨#[]⟩, .int .i64 0, .slice none 0 0, .string ⟨#[]⟩] 28)
  have hnewr : RfAt (w1.alloc (.cells #[.string ⟨#[]⟩, .int .i64 0, .slice none 0 0, .string ⟨#[]⟩] 28)) (fun k => k = w1.heap.size) w1.heap.size (.slice none 0 0) ⟨#[]⟩ Sh.new :=
    ⟨heap_alloc_new w1 _, rfl, own_nilF _ _, rfl, fun g hg => (by cases hg), Sh.Ok.new⟩
  have two0 : Two w (w1.alloc (.cells #[.string ⟨#[]⟩, .int .i64 0, .slice none 0 0, .string ⟨#[]⟩] 28)) F (fun k => k = w1.heap.size) p w1.heap.size Sh.new Sh.new :=
    ⟨m1.read hbn, ⟨_, _, hnewr⟩, fun k hk => by subst hk; simp, fun k hk => by subst hk; exact m1.below.size, fun k hk hh => by have := m1.in_ k hk; omega⟩
  have T0 := Lib.hid two0
  clear hbn hnewr two0 hq0
  go_wp2_with fail
  go_loopw [8, 9, 10] (fun v8 v9 v10 wr => ∃ (i : Nat) (F G : Nat → Prop) (S : Sh), v10 = .int .i64 (i : Nat) ∧ i ≤ n ∧ i ≤ 40 ∧ Two w wr F G p w1.heap.size S S ∧ Copies w wr F G v8 v9) (fun _ _ v10 _ => n - (intOf v10).toNat)
  case atStart => exact ⟨0, F, _, _, rfl, Nat.zero_le _, by omega, T0.out, Or.inl ⟨rfl, rfl⟩⟩
  case round =>
    obtain ⟨i, F, G, S, rfl, hin, hi40, two, hcp⟩ := hrel
    by_cases hgo : i < n ∧ i < 40
    · obtain ⟨hlt, hlt40⟩ := hgo
      have x1 : decide (i < n) = true := by simpa using hlt
      have x2 : decide ((i : Int) < (n : Nat)) = true := by simp; omega
      have x3 : decide (i < 40) = true := by simpa using hlt40
      have x4 : decide ((i : Int) < 40) = true := by simp; omega
      have hil : i < L.length := by rw [HLN.out]; exact hlt
      obtain ⟨go, oo, rfl, hgo, hco⟩ := (HR.out.below two.below).2 (by omega)
      obtain ⟨hc0, hc1, hc2⟩ := hco i hil
      obtain ⟨hk, hnn, hsz⟩ := HL.out _ (List.getElem_mem hil)
      obtain ⟨kd, hkd⟩ : ∃ x, (L[i]'hil).1 = x := ⟨_, rfl⟩
      obtain ⟨nn, hnd⟩ : ∃ x, (L[i]'hil).2.1 = x := ⟨_, rfl⟩
      obtain ⟨s, hsd⟩ : ∃ x, (L[i]'hil).2.2 = x := ⟨_, rfl⟩
      rw [hkd] at hc0 hk
      rw [hnd] at hc1 hnn
      rw [hsd] at hc2 hsz
      have hkb := bounds_i64 hk
      clear hco hkd hnd hsd hk
      unfold maxLen at hsz
      have hb2 := (Below.refl wr.heap.size wr).alloc (Nat.le_refl _) (.cells #[.int .i64 kd, .int .i64 nn, .string s] 31)
      have hob := heap_alloc_new wr (.cells #[.int .i64 kd, .int .i64 nn, .string s] 31)
      have two2 := two.read hb2
      have cp2 := hcp.read two hb2
      have HOB := Lib.hid hob
      have T2 := Lib.hid two2
      have C2 := Lib.hid cp2
      have HNN := Lib.hid hnn
      have HKB := Lib.hid hkb
      clear hob two2 cp2 hb2 hcp hnn hkb
      by_cases h300 : 300 < s.size
      · have x5 : decide (300 < s.size) = true := by simpa using h300
        have x6 : decide ((300 : Int) < (s.size : Nat)) = true := by simp; omega
        go_wp2_with (go_at_call 9; refine (awake_any _).mono ?_; rintro e w3 ⟨rfl, b3⟩)
        go_ret
        exact ⟨rfl, T2.out.below.trans (b3.mono T2.out.below.size)⟩
      · have x5 : decide (300 < s.size) = false := by simpa using h300
        have x6 : decide ((300 : Int) < (s.size : Nat)) = false := by simp; omega
        obtain ⟨gt, hgt⟩ : ∃ x, getF S.fs nn = x := ⟨_, rfl⟩
        obtain ⟨gr, hgr⟩ : ∃ x : Int, (if hasF S.fs nn = true then (0 : Int) else 9) = x := ⟨_, rfl⟩
        have HGT := Lib.hid hgt
        have HGR := Lib.hid hgr
        clear hgt hgr
        go_wp2_with fail
        refine (get_my T2.out.s nn HNN.out gt gr HGT.out HGR.out).mono ?_
        rintro e w3 ⟨rfl, b3⟩
        have two3 := T2.out.read b3
        have cp3 := C2.out.read T2.out b3
        have hol : wr.heap.size < (wr.alloc (.cells #[.int .i64 kd, .int .i64 nn, .string s] 31)).heap.size := by simp
        have ho3 := (b3.block _ hol).trans HOB.out
        have d1 : w3.cell? ⟨wr.heap.size, 1, none⟩ = some (.int .i64 nn) := cell_at ho3 rfl
        have rg := rget_any G w1.heap.size S nn w3 two3.r HNN.out
        rw [HGT.out, HGR.out] at rg
        have HO3 := Lib.hid ho3
        have T3 := Lib.hid two3
        have C3 := Lib.hid cp3
        clear ho3 two3 cp3 hol
        go_wp2_with fail
        refine rg.mono ?_
        rintro e w4 ⟨rfl, b4⟩
        have two4 := T3.out.read b4
        have cp4 := C3.out.read T3.out b4
        have ho4 := (b4.block _ (Array.getElem?_eq_some_iff.1 HO3.out).1).trans HO3.out
        have e0 : w4.cell? ⟨wr.heap.size, 0, none⟩ = some (.int .i64 kd) := cell_at ho4 rfl
        have e1 : w4.cell? ⟨wr.heap.size, 1, none⟩ = some (.int .i64 nn) := cell_at ho4 rfl
        have e2 : w4.cell? ⟨wr.heap.size, 2, none⟩ = some (.string s) := cell_at ho4 rfl
        have T4 := Lib.hid two4
        have C4 := Lib.hid cp4
        clear ho4 two4 cp4 rg
        go_wp2_with fail
        refine (do_any w w4 F G p w1.heap.size S kd nn s T4.out HKB.out HNN.out (by omega)).mono ?_
        rintro e w5 ⟨rfl, F5, G5, S5, two5, st5⟩
        have cp5 := C4.out.step T4.out st5
        go_wp2_with fail
        refine (same_any w w5 F5 G5 p w1.heap.size S5 two5).mono ?_
        rintro e w6 ⟨rfl, b6⟩
        have two6 := two5.read b6
        have cp6 := cp5.read two5 b6
        have T6 := Lib.hid two6
        have C6 := Lib.hid cp6
        clear two5 cp5 two6 cp6 st5 two
        by_cases hiz : i = z
        · have x7 : ((i : Int) == (z : Nat)) = true := by rw [beq_iff_eq]; omega
          go_wp2_with fail
          refine (copy_any F5 p S5 w6 T6.out.s.is).mono ?_
          rintro e w7 ⟨a, Fc, rfl, hs7, b7, hFc⟩
          have two7 := T6.out.read b7
          go_wp2_with fail
          refine (rcopy_any G5 w1.heap.size S5 w7 two7.r).mono ?_
          rintro e w8 ⟨b, Gc, rfl, hr8, b8, hGc⟩
          have two8 := two7.read b8
          have hz6 := T6.out.below.size
          have hz7 := b7.size
          have twoc : Two w w8 Fc Gc a b S5 S5 :=
            ⟨⟨hs7.below b8, fun k hk => by have := (hFc k hk).2; have := b8.size; omega, fun k hk => by have := (hFc k hk).1; omega, two8.below⟩, hr8, fun k hk => (hGc k hk).2, fun k hk => by have := (hGc k hk).1; omega, fun k hk hh => by have := (hFc k hk).2; have := (hGc k hh).1; omega⟩
          have hoff : Off (Un F5 G5) (Un Fc Gc) := fun k hk hh => by
            have h1 := T6.out.in_ k hk
            rcases hh with hh | hh
            · have := (hFc k hh).1; omega
            · have := (hGc k hh).1; omega
          have T8 := Lib.hid two8
          have TC := Lib.hid twoc
          have HOFF := Lib.hid hoff
          clear two7 two8 twoc hoff hs7 hr8
          go_wp2
          go_roundw
          case rel => exact ⟨i + 1, F5, G5, S5, by go_num, by omega, by omega, T8.out, Or.inr ⟨a, b, Fc, Gc, S5, rfl, rfl, TC.out, HOFF.out⟩⟩
          case measure => simp [intOf]; omega
        · have x7 : ((i : Int) == (z : Nat)) = false := by rw [beq_eq_false_iff_ne]; omega
          go_wp2
          go_roundw
          case rel => exact ⟨i + 1, F5, G5, S5, by go_num, by omega, by omega, T6.out, C6.out⟩
          case measure => simp [intOf]; omega
    · have HT := Lib.hid two
      have hx : (decide (i < n) = false ∧ decide ((i : Int) < (n : Nat)) = false) ∨ (decide (i < n) = true ∧ decide ((i : Int) < (n : Nat)) = true ∧ decide (i < 40) = false ∧ decide ((i : Int) < 40) = false) := by
        by_cases h1 : i < n
        · exact Or.inr ⟨by simpa using h1, by simp; omega, by simp; omega, by simp; omega⟩
        · exact Or.inl ⟨by simpa using h1, by simp; omega⟩
      clear two hgo hin hi40
      rcases hcp with ⟨rfl, rfl⟩ | ⟨a, b, H, K, T, rfl, rfl, twoc, _⟩
      · rcases hx with ⟨x1, x2⟩ | ⟨x1, x2, x3, x4⟩
        all_goals
          go_wp2_with (go_at_call 9; refine (awake_any _).mono ?_; rintro e w3 ⟨rfl, b3⟩)
          go_ret
          exact ⟨rfl, HT.out.below.trans (b3.mono HT.out.below.size)⟩
      · have HC := Lib.hid twoc
        clear twoc
        rcases hx with ⟨x1, x2⟩ | ⟨x1, x2, x3, x4⟩
        all_goals
          go_wp2_with fail
          refine (same_any w wr H K a b T HC.out).mono ?_
          rintro e w3 ⟨rfl, b3⟩
          go_wp2_with fail
          refine (awake_any _).mono ?_
          rintro e w4 ⟨rfl, b4⟩
          go_wp2
          go_ret
          exact ⟨rfl, HT.out.below.trans ((b3.trans (b4.mono b3.size)).mono HT.out.below.size)⟩
end Go.Proofs.Ytjfkfiaheohhcaa
