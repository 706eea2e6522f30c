/-
  The document's own calls, a row as one thing; not too much? (law 0).
-/
import Derived.Test.YtnoblhacgmeddaaRoV
import Derived.Test.YtnoblhacgmeddaaRo6
import Derived.Test.YtnoblhacgmeddaaRo7
import Derived.Test.YtnoblhacgmeddaaRo3
set_option linter.unusedVariables false
set_option linter.unusedSimpArgs false
namespace Go.Proofs.Ytnoblhacgmeddaa
open Go Go.RowKit

theorem rcheck_ro (R : Ro) (A : Option Addr) (c B : Nat) (w : World) (h : RoIn w B R A c) (hB : B ≤ w.heap.size) (hn : R.cols.length ≤ 1000) (hf : Few R.cols) (hs : R.live.s.size ≤ maxLen) :
    Calls Try.prog 11 #[R.val A c] w fun x w' => x = .returned (.bool R.ok) ∧ Below w.heap.size w w' :=
  rcheckrow_any R.key R.live.s R.live.d R.live.a R.live.e R.gone R.shade A R.cols.length c B R.cols w h.rd hB (by omega) hf hs
theorem rjoin_ro (R R' X : Ro) (A A' : Option Addr) (c c' B B' : Nat) (w : World) (h : RoIn w B R A c) (h' : RoIn w B' R' A' c') (hB : B ≤ w.heap.size) (hB' : B' ≤ w.heap.size) (hn : R.cols.length + R'.cols.length ≤ 1000) (hX : R.join R' = X) :
    Calls Try.prog 20 #[R.val A c, R'.val A' c'] w fun x w' => ∃ Aj cj, x = .returned (X.val Aj cj) ∧ Cur w w' (.slice Aj X.cols.length cj) X.cols := by
  subst hX
  refine (rjoinrow_any R.key R.live.s R'.key R'.live.s R.live.d R'.live.d R.live.a R.live.e R.gone R.shade R'.live.a R'.live.e R'.gone R'.shade A A' R.cols.length c R'.cols.length c' B B' R.cols R'.cols w h.rd h'.rd hB hB' h.cap h'.cap hn).mono ?_
  rintro x w' ⟨js, jd, ja, je, Aj, cj, hj, rfl, hc⟩
  refine ⟨Aj, cj, ?_, hc⟩
  have hj' : R.live.join R'.live = ⟨js, jd, ja, je⟩ := hj
  unfold Ro.val Ro.join
  simp only
  rw [hj']
theorem rsame_ro (R R' : Ro) (A A' : Option Addr) (c c' B B' : Nat) (w : World) (h : RoIn w B R A c) (h' : RoIn w B' R' A' c') (hB : B ≤ w.heap.size) (hB' : B' ≤ w.heap.size) (hn : R.cols.length ≤ 1000) (hn' : R'.cols.length ≤ 1000) :
    Calls Try.prog 15 #[R.val A c, R'.val A' c'] w fun x w' => x = .returned (.bool (R.same R')) ∧ Below w.heap.size w w' :=
  rsamerow_any R.key R.live.s R'.key R'.live.s R.live.d R'.live.d R.live.a R.live.e R.gone R.shade R'.live.a R'.live.e R'.gone R'.shade A A' R.cols.length c R'.cols.length c' B B' R.cols R'.cols w h.rd h'.rd hB hB' (by omega) (by omega)
theorem up_of_ok {R : Ro} (h : R.ok = true) : R.Up := by
  unfold Ro.ok at h
  simp only [Bool.and_eq_true] at h
  exact ⟨colsB_rise h.2.2.2.2.2, colsB_full h.2.2.2.2.2⟩
/-- What holds of all columns of two holds of what is joined. -/
theorem few_join {R R' : Ro} (h : Few R.cols) (h' : Few R'.cols) : Few (R.join R').cols := by
  unfold Few Ro.join
  simp only
  refine mrg_all (fun n c d hc hd => ?_) h h'
  rcases join_or d c with e | e <;> rw [e] <;> assumption
theorem len_join (R R' : Ro) : (R.join R').cols.length ≤ R.cols.length + R'.cols.length := mrg_length _ _
theorem live_join (R R' : Ro) {m : Nat} (h : R.live.s.size ≤ m) (h' : R'.live.s.size ≤ m) : (R.join R').live.s.size ≤ m := by
  show (R.live.join R'.live).s.size ≤ m
  rcases join_or R.live R'.live with e | e <;> rw [e] <;> assumption
def fewC (x : ByteArray × Ce) : Bool := decide (x.1.size ≤ 300) && decide (x.2.s.size ≤ 300)
def fewB (R : Ro) : Bool := decide (R.key.size ≤ 1000) && (decide (R.cols.length ≤ 20) && (decide (R.live.s.size ≤ 1000) && R.cols.all fewC))
structure Ro.IsFew (R : Ro) : Prop where
  key : R.key.size ≤ 1000
  len : R.cols.length ≤ 20
  live : R.live.s.size ≤ 1000
  cols : ∀ x ∈ R.cols, x.1.size ≤ 300 ∧ x.2.s.size ≤ 300
theorem few_of {R : Ro} (h : fewB R = true) : R.IsFew := by
  unfold fewB at h
  rw [Bool.and_eq_true, Bool.and_eq_true, Bool.and_eq_true, decide_eq_true_iff, decide_eq_true_iff, decide_eq_true_iff, List.all_eq_true] at h
  refine ⟨h.1, h.2.1, h.2.2.1, fun x hx => ?_⟩
  have h1 := h.2.2.2 x hx
  unfold fewC at h1
  rw [Bool.and_eq_true, decide_eq_true_iff, decide_eq_true_iff] at h1
  exact h1
theorem Ro.IsFew.few {R : Ro} (h : R.IsFew) : Few R.cols := fun x hx => by
  have h1 := h.cols x hx
  refine ⟨by omega, by unfold maxLen; omega⟩

set_option maxHeartbeats 4000000 in
theorem fewrow_ro (R : Ro) (A : Option Addr) (c B : Nat) (w : World) (hi : RoIn w B R A c) (hB : B ≤ w.heap.size) :
    Calls Try.prog 8 #[R.val A c] w fun x w' => x = .returned (.bool (fewB R)) ∧ Below w.heap.size w w' := by
  obtain ⟨k, ⟨s, d, a, e⟩, g, h, l⟩ := R
  unfold Ro.val
  simp only
  obtain ⟨r, hrr⟩ : ∃ r, fewB ⟨k, ⟨s, d, a, e⟩, g, h, l⟩ = r := ⟨_, rfl⟩
  rw [hrr]
  unfold fewB at hrr
  simp only at hrr
  obtain ⟨n, hn⟩ : ∃ n, l.length = n := ⟨_, rfl⟩
  have hr := hi.rd
  simp only at hr
  rw [hn] at hrr hr ⊢
  have RR := Lib.hid hrr; have HN := Lib.hid hn
  have bz := (Below.refl w.heap.size w).alloc (Nat.le_refl _) (.cells #[.string k, .string s, .bool d, .int .i64 a, .int .i64 e, .int .i64 g, .int .i64 h, .slice A n c] 26)
  have ro := RoAt.new w k s d a e g h A n c
  have BZ := Lib.hid bz; have RO_ := Lib.hid ro; have HR0 := Lib.hid (hr.below (bz.mono hB))
  clear hrr bz ro hr hi hn
  obtain ⟨Z, hZ⟩ : ∃ U, U = w.alloc (.cells #[.string k, .string s, .bool d, .int .i64 a, .int .i64 e, .int .i64 g, .int .i64 h, .slice A n c] 26) := ⟨_, rfl⟩
  have hZs : Z.heap.size = w.heap.size + 1 := by rw [hZ]; simp
  rw [← hZ] at BZ RO_ HR0
  obtain ⟨_, _, _, _, _, _, _, _⟩ := RO_.out
  have HZS := Lib.hid hZs
  clear hZs
  go_enter Try.func8, Try.ntmps8
  by_cases h1 : k.size ≤ 1000
  · have x1 : decide (1000 < k.size) = false := decide_eq_false (by omega)
    have y1 : decide ((1000 : Int) < ((k.size : Nat) : Int)) = false := decide_eq_false (by omega)
    by_cases h2 : n ≤ 20
    · have x2 : decide (20 < n) = false := decide_eq_false (by omega)
      have y2 : decide ((20 : Int) < (n : Int)) = false := decide_eq_false (by omega)
      by_cases h3 : s.size ≤ 1000
      · have x3 : decide (1000 < s.size) = false := decide_eq_false (by omega)
        have y3 : decide ((1000 : Int) < ((s.size : Nat) : Int)) = false := decide_eq_false (by omega)
        have hr2 : l.all fewC = r := by rw [← RR.out, decide_eq_true h1, decide_eq_true h2, decide_eq_true h3]; rfl
        have HR2 := Lib.hid hr2
        clear hr2
        go_wp2_with fail
        rw [← hZ]
        clear hZ
        go_loopw [3] (fun i wr => ∃ t : Nat, t ≤ n ∧ i = .int .i64 t ∧ (l.take t).all fewC = true ∧ wr = Z) (fun i _ => n - (intOf i).toNat)
        case atStart => exact ⟨0, Nat.zero_le _, rfl, rfl, rfl⟩
        case round =>
          obtain ⟨t, ht, rfl, hg, rfl⟩ := hrel
          have HG := Lib.hid hg
          clear hg
          by_cases hlt : t < n
          · have i1 : (t : Int) < n := by omega
            have i0 : (0 : Int) ≤ t := by omega
            have htl : t < l.length := by rw [HN.out]; exact hlt
            obtain ⟨g0, o0, rfl, hgB, hc⟩ := HR0.out.2 (by omega)
            obtain ⟨e0, e1, e2, e3, e4⟩ := hc t htl
            clear hc
            obtain ⟨⟨m, ⟨cs, cd, ca, ce⟩⟩, hx⟩ : ∃ x, l[t] = x := ⟨_, rfl⟩
            rw [hx] at e0 e1 e2 e3 e4
            simp only at e0 e1 e2 e3 e4
            have htk : l.take (t + 1) = l.take t ++ [(m, ⟨cs, cd, ca, ce⟩)] := by rw [List.take_succ_eq_append_getElem htl, hx]
            have hmem : (m, (⟨cs, cd, ca, ce⟩ : Ce)) ∈ l := by rw [← hx]; exact List.getElem_mem htl
            have HTK := Lib.hid htk; have HMEM := Lib.hid hmem
            clear htk hmem hx
            by_cases h4 : m.size ≤ 300
            · have x4 : decide (300 < m.size) = false := decide_eq_false (by omega)
              have y4 : decide ((300 : Int) < ((m.size : Nat) : Int)) = false := decide_eq_false (by omega)
              by_cases h5 : cs.size ≤ 300
              · have x5 : decide (300 < cs.size) = false := decide_eq_false (by omega)
                have y5 : decide ((300 : Int) < ((cs.size : Nat) : Int)) = false := decide_eq_false (by omega)
                go_wp2
                go_roundw
                case rel =>
                  refine ⟨t + 1, by omega, by go_num, ?_, by first | rfl | trivial⟩
                  rw [HTK.out, List.all_append, HG.out]
                  simp [fewC, h4, h5]
                case measure => simp [intOf]; omega
              · have hv : r = false := by
                  rw [← HR2.out, List.all_eq_false]
                  exact ⟨_, HMEM.out, by simp [fewC]; omega⟩
                subst hv
                go_wp2
                go_ret
                exact ⟨rfl, BZ.out⟩
            · have hv : r = false := by
                rw [← HR2.out, List.all_eq_false]
                exact ⟨_, HMEM.out, by simp [fewC]; omega⟩
              subst hv
              go_wp2
              go_ret
              exact ⟨rfl, BZ.out⟩
          · obtain rfl : t = n := by omega
            have d0 : decide ((t : Int) < (t : Int)) = false := by simp
            have hv : r = true := by
              rw [← HR2.out, ← HG.out, List.take_of_length_le (by rw [HN.out]; exact Nat.le_refl _)]
            subst hv
            go_wp2
            go_ret
            exact ⟨rfl, BZ.out⟩
      · have hv : r = false := by rw [← RR.out, decide_eq_false h3]; simp
        subst hv
        subst hZ
        go_wp2
        go_ret
        exact ⟨rfl, BZ.out⟩
    · have hv : r = false := by rw [← RR.out, decide_eq_false h2]; simp
      subst hv
      subst hZ
      go_wp2
      go_ret
      exact ⟨rfl, BZ.out⟩
  · have hv : r = false := by rw [← RR.out, decide_eq_false h1]; simp
    subst hv
    subst hZ
    go_wp2
    go_ret
    exact ⟨rfl, BZ.out⟩
end Go.Proofs.Ytnoblhacgmeddaa
