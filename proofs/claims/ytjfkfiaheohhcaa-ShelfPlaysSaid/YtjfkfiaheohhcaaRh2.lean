/-
  The document's own calls of a shelf: Crash, at, Get.
-/
import Derived.Test.YtjfkfiaheohhcaaRh1
set_option linter.unusedVariables false
set_option linter.unusedSimpArgs false
namespace Go.Proofs.Ytjfkfiaheohhcaa
open Go Go.RowKit

set_option maxHeartbeats 2000000 in
theorem rcrash_any (F : Nat → Prop) (q : Nat) (S : Sh) (n : Int) (w : World) (h : RfIs w F q S) (hn : -9223372036854775808 ≤ n ∧ n ≤ 9223372036854775807) :
    Calls Try.prog 33 #[.pointer (some ⟨q, 0, none⟩), .int .i64 n] w fun e w' => e = .returned (.tuple #[]) ∧ RfIs w' F q (S.crash n) ∧ Kept F w w' := by
  have hR := h
  obtain ⟨v, T, h⟩ := h
  have hz := h.size
  have hl := h.ok.log
  have hy := h.ok.syn
  obtain ⟨c0, c1, c2, c3, fz⟩ := h.cells
  obtain ⟨k, hk⟩ : ∃ k, clip n (S.log.length - S.syn) = k := ⟨_, rfl⟩
  have hkl : k ≤ S.log.length - S.syn := by rw [← hk]; exact clip_le _ _
  unfold Sh.crash
  rw [hk]
  have hw1 : IntKind.i64.wrap ((T.size : Int) - (S.syn : Nat)) = ((T.size - S.syn : Nat) : Int) := by
    rw [IntKind.wrap_i64]
    omega
  have hmin : min (max n 0) ((T.size - S.syn : Nat) : Int) = (k : Nat) := by rw [← hk, hz]; unfold clip; omega
  have hw2 : IntKind.i64.wrap ((S.syn : Int) + (k : Nat)) = ((S.syn + k : Nat) : Int) := by
    rw [IntKind.wrap_i64]
    omega
  have hb : S.syn + k ≤ 1000000 := by omega
  have HR := Lib.hid hR
  clear h hR fz hk hz
  go_enter Try.func33, Try.ntmps33
  go_wp2_with fail
  go_region_law (go_simp; go_at_call 29; refine (rcut_any F q S ((S.syn + k : Nat) : Int) _ (by first | exact HR.out | exact HR.out.below (Below.refl _ _).drew) (by omega)).mono ?_; rintro e w2 ⟨rfl, hs2, hk2⟩)
  all_goals go_wp2
  all_goals go_end0
  all_goals exact ⟨rfl, hs2, (by first | exact hk2 | exact hk2.undrew)⟩

set_option maxHeartbeats 2000000 in
theorem rat_any (F : Nat → Prop) (q : Nat) (S : Sh) (n : Int) (w : World) (h : RfIs w F q S) (hn : (Lit.int .i64 n).wf = true) :
    Calls Try.prog 27 #[.pointer (some ⟨q, 0, none⟩), .int .i64 n] w fun e w' => e = .returned (.tuple #[.int .i64 (idxF S.fs n : Nat), .bool (hasF S.fs n)]) ∧ Below w.heap.size w w' := by
  have hlen := h.ok.len
  have hup := h.ok.up
  have hwf := h.ok.wf
  obtain ⟨nl, nh⟩ := bounds_i64 hn
  obtain ⟨v, T, h⟩ := h
  obtain ⟨c0, c1, c2, c3, fz⟩ := h.cells
  obtain ⟨A, c, rfl, hnc, hc, hA⟩ := own_slice h.2.2.1
  have hr := RdF.of_own h.2.2.1
  obtain ⟨i, hi⟩ : ∃ i, idxF S.fs n = i := ⟨_, rfl⟩
  obtain ⟨b, hb⟩ : ∃ b, hasF S.fs n = b := ⟨_, rfl⟩
  obtain ⟨m, hm⟩ : ∃ m, S.fs.length = m := ⟨_, rfl⟩
  rw [hi, hb]
  rw [hm] at c2 hlen hnc hr
  have hil : i ≤ m := by rw [← hi, ← hm]; exact idxF_le _ _
  have HI := Lib.hid hi
  have HB := Lib.hid hb
  have HM := Lib.hid hm
  have HW := Lib.hid hwf
  have HU := Lib.hid hup
  clear h fz hi hb hm hwf hup hn
  go_enter Try.func27, Try.ntmps27
  go_wp2_with fail
  go_loop [6] (fun v6 => ∃ k : Nat, v6 = .int .i64 (k : Nat) ∧ k ≤ i) (fun v6 => m - (intOf v6).toNat)
  case atStart => exact ⟨0, rfl, Nat.zero_le _⟩
  case round =>
    obtain ⟨k, rfl, hki⟩ := hrel
    by_cases hkm : k < m
    · have hkl : k < S.fs.length := by rw [HM.out]; exact hkm
      obtain ⟨g, o, rfl, hg, hcell⟩ := hr.2 (by omega)
      have hc0 := hcell _ _ (fRow_get0 S.fs k hkl)
      obtain ⟨x, hx⟩ : ∃ x, (S.fs[k]'hkl).1 = x := ⟨_, rfl⟩
      rw [hx] at hc0
      have hxb := HW.out _ (List.getElem_mem hkl)
      rw [hx] at hxb
      obtain ⟨hx1, hx2⟩ := hxb
      have HX := Lib.hid hx
      have c1' : decide (k < m) = true := by simpa using hkm
      have c2' : decide ((k : Int) < (m : Nat)) = true := by simp; omega
      by_cases hlt : x < n
      · have d1 : decide (x < n) = true := by simpa using hlt
        have hki2 : k < i := by
          rcases Nat.lt_or_ge k i with h1 | h1
          · exact h1
          · have e : k = idxF S.fs n := by rw [HI.out]; omega
            have := idxF_ge (fs := S.fs) (n := n) (by rw [← e]; exact hkl)
            simp only [← e] at this
            rw [HX.out] at this
            omega
        clear hcell hx
        go_wp2
        go_round
        case rel => exact ⟨k + 1, by go_num, by omega⟩
        case measure => simp [intOf]; omega
      · have d1 : decide (x < n) = false := by simpa using hlt
        have hki2 : k = i := by
          rcases Nat.lt_or_ge k i with h1 | h1
          · have := idxF_lt (fs := S.fs) (n := n) (j := k) (by rw [HI.out]; exact h1)
            rw [HX.out] at this
            omega
          · omega
        subst hki2
        have hbx : b = (x == n) := by
          rw [← HB.out, Bool.eq_iff_iff, hasF_iff HU.out, beq_iff_eq]
          simp only [HI.out, HX.out]
          exact ⟨fun ⟨_, h⟩ => h, fun h => ⟨hkl, h⟩⟩
        have HBX := Lib.hid hbx
        clear hcell hx hbx
        go_wp2_with fail
        go_quiet (fail)
        go_wp2
        go_ret2
        exact ⟨by rw [HBX.out]; rfl, ⟨rfl, rfl, rfl, Nat.le_refl _, fun _ _ => rfl⟩⟩
    · have c1' : decide (k < m) = false := by simpa using hkm
      have c2' : decide ((k : Int) < (m : Nat)) = false := by simp; omega
      obtain rfl : k = i := by omega
      have hbx : b = false := by
        rw [← HB.out, Bool.eq_false_iff]
        intro hh
        obtain ⟨h1, _⟩ := (hasF_iff HU.out n).1 hh
        rw [HI.out, HM.out] at h1
        omega
      have HBX := Lib.hid hbx
      clear hbx
      go_wp2_with fail
      go_quiet (fail)
      go_wp2
      go_ret2
      exact ⟨by rw [HBX.out]; rfl, ⟨rfl, rfl, rfl, Nat.le_refl _, fun _ _ => rfl⟩⟩
end Go.Proofs.Ytjfkfiaheohhcaa
