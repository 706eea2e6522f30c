/-
  The document's own calls of a shelf: Append, Cut, Turn, Crash, at, Get.
-/
import Derived.Test.YtjfkfiaheohhcaaRf05
import Derived.Test.YtjfkfiaheohhcaaLwKeeps
import Derived.BigRegion
set_option linter.unusedVariables false
set_option linter.unusedSimpArgs false
namespace Go.Proofs.Ytjfkfiaheohhcaa
open Go Go.RowKit

set_option maxHeartbeats 1000000 in
theorem rappend_any (F : Nat → Prop) (q : Nat) (S : Sh) (s : ByteArray) (w : World) (h : RfIs w F q S) (hs : s.size ≤ 1099511627776) :
    Calls Try.prog 34 #[.pointer (some ⟨q, 0, none⟩), .string s] w fun e w' => e = .returned (.int .i64 (S.app s).2) ∧ RfIs w' F q (S.app s).1 ∧ Kept F w w' := by
  have hok := h.ok.app s
  have hl := h.ok.log
  obtain ⟨v, T, h⟩ := h
  have hz := h.size
  have hTs : T.size ≤ 262144 := by omega
  obtain ⟨c0, c1, c2, c3, fz⟩ := h.cells
  have f0 := fz 0
  have H := Lib.hid h
  unfold Sh.app at hok ⊢
  by_cases hbig : 262144 < S.log.length + s.size
  · have d1 : decide ((262144 : Int) < (T.size : Int) + (s.size : Nat)) = true := by simp; omega
    rw [if_pos hbig]
    clear h hok hbig hz
    go_enter Try.func34, Try.ntmps34
    go_wp2
    go_ret
    exact ⟨rfl, ⟨v, T, H.out⟩, Kept.refl F _⟩
  · have d1 : decide ((262144 : Int) < (T.size : Int) + (s.size : Nat)) = false := by simp; omega
    rw [if_neg hbig] at hok ⊢
    obtain ⟨U, hU⟩ : ∃ U, T ++ s = U := ⟨_, rfl⟩
    have hadd : ∀ wx : World, (Op.stringOp .add T s).run Try.prog wx = .ok (.string U) wx := fun wx => by rw [← hU]; exact run_string_add_sum wx T s (by omega)
    have hUd : U.data.toList = S.log ++ s.data.toList := by rw [← hU, app_data, h.2.1]
    have hfin : RfAt (w.setCell ⟨q, 0, none⟩ (.string U)) F q v U { S with log := S.log ++ s.data.toList } :=
      h.put (by rw [heap_setCell_same w q 0 _ _ _ h.1]; rfl) hUd rfl (fun j hj => set_other (a := ⟨q, 0, none⟩) w hj) hok
    have HF := Lib.hid hfin
    clear h hok hbig hz hfin hUd hU
    go_enter Try.func34, Try.ntmps34
    go_wp2
    go_ret
    exact ⟨rfl, ⟨v, U, HF.out⟩, Kept.setCell F w _ _ H.out.2.2.2.1⟩

set_option maxHeartbeats 1000000 in
theorem rturn_any (F : Nat → Prop) (q : Nat) (S : Sh) (s : ByteArray) (w : World) (h : RfIs w F q S) (hs : s.size ≤ 1099511627776) :
    Calls Try.prog 32 #[.pointer (some ⟨q, 0, none⟩), .string s] w fun e w' => e = .returned (.int .i64 (S.turn s).2) ∧ RfIs w' F q (S.turn s).1 ∧ Kept F w w' := by
  have hok := h.ok.turn s
  obtain ⟨v, T, h⟩ := h
  obtain ⟨c0, c1, c2, c3, fz⟩ := h.cells
  have H := Lib.hid h
  unfold Sh.turn at hok ⊢
  by_cases hbig : 262144 < s.size
  · have d1 : decide ((262144 : Int) < (s.size : Nat)) = true := by simp; omega
    rw [if_pos hbig]
    clear h hok hbig
    go_enter Try.func32, Try.ntmps32
    go_wp2
    go_ret
    exact ⟨rfl, ⟨v, T, H.out⟩, Kept.refl F _⟩
  · have d1 : decide ((262144 : Int) < (s.size : Nat)) = false := by simp; omega
    rw [if_neg hbig] at hok ⊢
    have f0 := fz 0
    have f1 := fz 1
    have f3 := fz 3
    have hfin : RfAt (((w.setCell ⟨q, 3, none⟩ (.string s)).setCell ⟨q, 0, none⟩ (.string ⟨#[]⟩)).setCell ⟨q, 1, none⟩ (.int .i64 0)) F q v ⟨#[]⟩ ⟨[], 0, S.fs, s⟩ :=
      h.put (by rw [heap_setCell_same _ q 1 _ _ _ (heap_setCell_same _ q 0 _ _ _ (heap_setCell_same w q 3 _ _ _ h.1))]; rfl) rfl rfl (fun j hj => (set_other (a := ⟨q, 1, none⟩) _ hj).trans ((set_other (a := ⟨q, 0, none⟩) _ hj).trans (set_other (a := ⟨q, 3, none⟩) w hj))) hok
    have HF := Lib.hid hfin
    clear h hok hbig hfin fz
    go_enter Try.func32, Try.ntmps32
    go_wp2
    go_ret
    exact ⟨rfl, ⟨v, _, HF.out⟩, (((Kept.setCell F w _ _ H.out.2.2.2.1).trans (Kept.setCell F _ _ _ H.out.2.2.2.1) fun k hk => Or.inl hk).trans (Kept.setCell F _ _ _ H.out.2.2.2.1) fun k hk => Or.inl hk)⟩

set_option maxHeartbeats 1000000 in
theorem rcut_any (F : Nat → Prop) (q : Nat) (S : Sh) (n : Int) (w : World) (h : RfIs w F q S) (hn : -9223372036854775808 ≤ n ∧ n ≤ 9223372036854775807) :
    Calls Try.prog 29 #[.pointer (some ⟨q, 0, none⟩), .int .i64 n] w fun e w' => e = .returned (.tuple #[]) ∧ RfIs w' F q (S.cut n) ∧ Kept F w w' := by
  have hok := h.ok.cut n
  obtain ⟨v, T, h⟩ := h
  have hz := h.size
  have hl := h.ok.log
  obtain ⟨c0, c1, c2, c3, fz⟩ := h.cells
  have H := Lib.hid h
  unfold Sh.cut at hok ⊢
  obtain ⟨k, hk⟩ : ∃ k, clip n S.log.length = k := ⟨_, rfl⟩
  have hkl : k ≤ S.log.length := by rw [← hk]; exact clip_le _ _
  have hmin : min (max n 0) (T.size : Int) = (k : Nat) := by rw [← hk, hz]; unfold clip; omega
  rw [hk] at hok ⊢
  obtain ⟨U, hU⟩ : ∃ U, T.extract 0 k = U := ⟨_, rfl⟩
  have hsl : ∀ wx : World, (Instr.slice 9 (.string T) none (some (.int .i64 (k : Nat))) none).run Try.prog wx = .ok (.string U) wx := fun wx => by rw [← hU]; exact sl_strh T k (by omega) wx
  have hUd : U.data.toList = S.log.take k := by rw [← hU, ext_take, h.2.1]
  have hUs : (U.size : Int) = (k : Nat) := by rw [Lib.size_eq, hUd, List.length_take]; omega
  have f0 := fz 0
  have hb1 := heap_setCell_same w q 0 _ _ (.string U) h.1
  have f1 : (w.setCell ⟨q, 0, none⟩ (.string U)).frozen? ⟨q, 1, none⟩ = false := thawed_at hb1
  have g0 : (w.setCell ⟨q, 0, none⟩ (.string U)).cell? ⟨q, 0, none⟩ = some (.string U) := cell_at hb1 rfl
  have g1 : (w.setCell ⟨q, 0, none⟩ (.string U)).cell? ⟨q, 1, none⟩ = some (.int .i64 (S.syn : Nat)) := cell_at hb1 rfl
  have hfin : RfAt ((w.setCell ⟨q, 0, none⟩ (.string U)).setCell ⟨q, 1, none⟩ (.int .i64 (k : Nat))) F q v U { S with log := S.log.take k, syn := k } :=
    h.put (by rw [heap_setCell_same _ q 1 _ _ _ hb1]; rfl) hUd rfl (fun j hj => (set_other (a := ⟨q, 1, none⟩) _ hj).trans (set_other (a := ⟨q, 0, none⟩) w hj)) hok
  have HF := Lib.hid hfin
  clear h hok hfin fz hU hUd hk hz hb1
  go_enter Try.func29, Try.ntmps29
  go_wp2_with fail
  go_region_law (fail)
  all_goals go_wp2
  all_goals go_end0
  all_goals exact ⟨rfl, ⟨v, U, HF.out.drew⟩, (((Kept.setCell F w _ _ H.out.2.2.2.1).trans (Kept.setCell F _ _ _ H.out.2.2.2.1) fun k hk => Or.inl hk)).drew⟩
end Go.Proofs.Ytjfkfiaheohhcaa
