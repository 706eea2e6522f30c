/-
  The calls of a shelf: Append, Cut, Turn, Crash, Wipe.
-/
import Derived.Test.YtjfkfiaheohhcaaSh1
import Derived.Deep.RegionLaw
import Derived.Deep.RegionHeld3
set_option linter.unusedVariables false
set_option linter.unusedSimpArgs false
namespace Go.Proofs.Ytjfkfiaheohhcaa
open Go Go.RowKit

theorem ok_inj {α : Type} {a b : α} {w w' : World} (h : (Result.ok a w : Result α) = .ok b w') : a = b ∧ w = w' := by
  injection h with h1 h2
  exact ⟨h1, h2⟩
/-- append(own, text...): where the new slice lies. GENERAL. -/
theorem run_appStr_at {w : World} (base : Nat) {v : Value} {n : Nat} {l : List UInt8} (hown : w.ownsRow base 5 1 v n (Lib.byteCells l)) (s : ByteArray)
    (hsz : n + s.size ≤ 140737488355328) (hbase : base ≤ w.heap.size) (ty : TypeId) :
    ∃ v' w', (Builtin.append_ #[48, 9] ty #[v, .string s]).run Try.prog w = .ok v' w' ∧ (w'.ownsRow base 5 1 v' (n + s.size) (Lib.byteCells (l ++ s.data.toList)) ∧ (w.grownBy w' v.ownBlock ∧ (v'.ownBlock = v.ownBlock ∨ v'.ownBlock = some w.heap.size))) := by
  obtain ⟨i, hi, hz0, hz1, hz2⟩ := info_parts infoB
  obtain ⟨v', w', h1, h2, h3, h4⟩ := Lib.run_append_own_string (P := Try.prog) w base 48 9 ty 5 i Try.underlying48 Try.underlying9 hi hz0 hz1 hz2 v n (Lib.byteCells l) hown s (by unfold maxLen; omega) hsz hbase
  refine ⟨v', w', h1, by rw [Lib.byteCells_append]; exact h2, h3, ?_⟩
  rcases hown.2 with ⟨rfl, rfl⟩ | ⟨g, cap, cur, rfl, hbg, hg, hnc, hcm, hcs, htake⟩
  · by_cases h0 : s.size = 0
    · rw [h4.2 ⟨rfl, h0⟩]
      exact Or.inl rfl
    · have hr := run_append_nil_string (P := Try.prog) w 48 9 ty 5 i (.int .u8 0) Try.underlying48 Try.underlying9 hi hz0 s (by omega) (by omega) (by rw [hz2]; omega)
      rw [h1] at hr
      rw [(ok_inj hr).1]
      exact Or.inr rfl
  · by_cases hroom : n + s.size ≤ cap
    · have hr := Lib.run_append_room_string (P := Try.prog) w 48 9 ty 5 i Try.underlying48 Try.underlying9 hi hz1 g n cap cur hg s hroom (by omega)
      rw [h1] at hr
      rw [(ok_inj hr).1]
      exact Or.inl rfl
    · have holds : ∀ j u, (Lib.byteCells l)[j]? = some u → w.cell? ((⟨g, 0, none⟩ : Addr).add j) = some u := hown.cells (g := g) rfl
      have hr := Lib.run_append_grow_string (P := Try.prog) w 48 9 ty 5 i (.int .u8 0) Try.underlying48 Try.underlying9 hi hz0 ⟨g, 0, none⟩ n cap (Lib.byteCells l) (by rw [hz1]; exact hown.1) holds s (by omega) (by omega) (by rw [hz2]; exact growslice_fits (by omega) (by omega))
      rw [h1] at hr
      rw [(ok_inj hr).1]
      exact Or.inr rfl

set_option maxHeartbeats 1000000 in
theorem append_any (F : Nat → Prop) (p : Nat) (S : Sh) (s : ByteArray) (w : World) (h : ShIs w F p S) (hs : s.size ≤ 1099511627776) :
    Calls Try.prog 16 #[.pointer (some ⟨p, 0, none⟩), .string s] w fun e w' => e = .returned (.int .i64 (S.app s).2) ∧ ∃ F', ShIs w' F' p (S.app s).1 ∧ Step F w F' w' := by
  have hok := h.ok
  have hl := hok.log
  obtain ⟨v, m, h⟩ := h
  obtain ⟨c0, c1, c2, c3, fz⟩ := h.cells
  obtain ⟨A, c, rfl, hn, hc, hA, hr⟩ := Rd.of_own h.2.1
  have f0 := fz 0
  have H := Lib.hid h
  unfold Sh.app
  by_cases hbig : 262144 < S.log.length + s.size
  · have d1 : decide ((262144 : Int) < (S.log.length : Int) + (s.size : Nat)) = true := by simp; omega
    rw [if_pos hbig]
    clear h hr hok hbig
    go_enter Try.func16, Try.ntmps16
    go_wp2
    go_ret
    exact ⟨rfl, F, ⟨_, m, H.out⟩, Step.refl F _⟩
  · have d1 : decide ((262144 : Int) < (S.log.length : Int) + (s.size : Nat)) = false := by simp; omega
    have hsz : S.log.length + s.size ≤ 140737488355328 := by omega
    have hoke : Sh.Ok { S with log := S.log ++ s.data.toList } := by
      have := hok.app s
      unfold Sh.app at this
      rw [if_neg hbig] at this
      exact this
    rw [if_neg hbig]
    have HO := Lib.hid hoke
    have HB := Lib.hid hbig
    clear h hr hok hbig hoke
    go_enter Try.func16, Try.ntmps16
    go_wp2_with (at_builtin; refine list_ex rfl (.tmp 18) (.tmp 19) _ _ rfl (.slice A S.log.length c) (.string s) rfl rfl (run_appStr_at 0 H.out.2.1 s hsz (Nat.zero_le _)) ?_)
    intro v' w1 ho hg hloc
    obtain ⟨A', c', rfl, _⟩ := own_slice ho
    obtain ⟨a1, a2, a3, a4, a5, a6, a7⟩ := H.out
    have np := H.out.ne_log
    have nm := H.out.log_ne_map
    have hp1 : w1.heap[p]? = w.heap[p]? := hg.block p (Array.getElem?_eq_some_iff.1 a1).1 (fun e => np e.symm)
    have hm1 : w1.heap[m]? = w.heap[m]? := hg.block m a3.lt (fun e => nm e.symm)
    have f1 : w1.frozen? ⟨p, 0, none⟩ = false := thawed_at (hp1.trans a1)
    have g1 : w1.cell? ⟨p, 0, none⟩ = some (.slice A S.log.length c) := cell_at (hp1.trans a1) rfl
    have e0 : (w1.setCell ⟨p, 0, none⟩ (.slice A' (S.log.length + s.size) c')).heap.size = w1.heap.size := by simp [World.setCell]
    have hsize := hg.size
    have hlast := own_block_lt ho
    have hF : ∀ g, (Value.slice A' (S.log.length + s.size) c').ownBlock = some g → Plus F w w1 g := by
      intro g hgg
      rcases hloc with hl | hl
      · exact Or.inl (a6 g (by rw [← hl]; exact hgg))
      · rw [hl] at hgg
        injection hgg with hgg
        subst hgg
        exact Or.inr ⟨Nat.le_refl _, hlast _ hl⟩
    have hfin : ShAt (w1.setCell ⟨p, 0, none⟩ (.slice A' (S.log.length + s.size) c')) (Plus F w w1) p (.slice A' (S.log.length + s.size) c') m { S with log := S.log ++ s.data.toList } :=
      ShAt.set_log (S := S) (hp1.trans a1) ho (by rw [List.length_append, ← Lib.size_eq]) (map_kept a3 hm1) (Or.inl a4) (Or.inl a5) hF HO.out
    have hkept : Kept F w (w1.setCell ⟨p, 0, none⟩ (.slice A' (S.log.length + s.size) c')) := (Kept.of_grown hg a6).trans (Kept.setCell F w1 _ _ a4) fun k hk => Or.inl hk
    have HF := Lib.hid hfin
    have HK := Lib.hid hkept
    clear hfin hkept a1 a2 a3 a7 hF hlast hloc hg ho hp1 hm1
    go_wp2
    go_ret
    exact ⟨rfl, _, ⟨_, m, HF.out⟩, HK.out, fun k hk => by rw [e0]; exact hk⟩

set_option maxHeartbeats 1000000 in
theorem cut_any (F : Nat → Prop) (p : Nat) (S : Sh) (n : Int) (w : World) (h : ShIs w F p S) (hn : -9223372036854775808 ≤ n ∧ n ≤ 9223372036854775807) :
    Calls Try.prog 28 #[.pointer (some ⟨p, 0, none⟩), .int .i64 n] w fun e w' => e = .returned (.tuple #[]) ∧ ShIs w' F p (S.cut n) ∧ Kept F w w' := by
  have hok := h.ok
  have hl := hok.log
  obtain ⟨v, m, h⟩ := h
  obtain ⟨c0, c1, c2, c3, fz⟩ := h.cells
  obtain ⟨A, c, rfl, hnc, hc, hA, hr⟩ := Rd.of_own h.2.1
  have f0 := fz 0
  obtain ⟨k, hk⟩ : ∃ k, clip n S.log.length = k := ⟨_, rfl⟩
  have hkl : k ≤ S.log.length := by rw [← hk]; exact clip_le _ _
  obtain ⟨hsl, hr2⟩ := sl_h hr hnc hA (k : Nat) k rfl hkl
  have hfin := h.set_cut hkl
  have HF := Lib.hid hfin
  have HK := Lib.hid hk
  have H := Lib.hid h
  have f1 : (w.setCell ⟨p, 0, none⟩ (.slice A k c)).frozen? ⟨p, 1, none⟩ = false := thawed_at (heap_setCell_same w p 0 _ _ _ h.1)
  have b0 : (w.setCell ⟨p, 0, none⟩ (.slice A k c)).cell? ⟨p, 0, none⟩ = some (.slice A k c) := cell_at (heap_setCell_same w p 0 _ _ _ h.1) rfl
  have b1 : (w.setCell ⟨p, 0, none⟩ (.slice A k c)).cell? ⟨p, 1, none⟩ = some (.int .i64 (S.syn : Nat)) := cell_at (heap_setCell_same w p 0 _ _ _ h.1) rfl
  unfold Sh.cut
  rw [hk]
  clear h hfin hk hr hok fz
  go_enter Try.func28, Try.ntmps28
  go_wp2_with fail
  go_region_law (go_simp; go_at_call 37; refine (within_any n (S.log.length : Nat) _ (by omega) (by omega) hn).mono ?_; rintro e w' ⟨rfl, rfl⟩; rw [Int.toNat_natCast, HK.out])
  all_goals go_wp2
  all_goals go_end0
  all_goals go_wp2
  all_goals go_end0
  all_goals exact ⟨rfl, ⟨_, m, HF.out.drew⟩, ((Kept.setCell F w _ _ H.out.2.2.2.1).trans (Kept.setCell F _ _ _ H.out.2.2.2.1) fun k hk => Or.inl hk).drew⟩

set_option maxHeartbeats 1000000 in
theorem turn_any (F : Nat → Prop) (p : Nat) (S : Sh) (s : ByteArray) (w : World) (h : ShIs w F p S) (hs : s.size ≤ 1099511627776) :
    Calls Try.prog 22 #[.pointer (some ⟨p, 0, none⟩), .string s] w fun e w' => e = .returned (.int .i64 (S.turn s).2) ∧ ShIs w' F p (S.turn s).1 ∧ Kept F w w' := by
  obtain ⟨v, m, h⟩ := h
  obtain ⟨c0, c1, c2, c3, fz⟩ := h.cells
  have f3 := fz 3
  have H := Lib.hid h
  unfold Sh.turn
  by_cases hbig : 262144 < s.size
  · have d1 : decide ((262144 : Int) < (s.size : Nat)) = true := by simp; omega
    rw [if_pos hbig]
    clear h hbig
    go_enter Try.func22, Try.ntmps22
    go_wp2
    go_ret
    exact ⟨rfl, ⟨_, m, H.out⟩, Kept.refl F _⟩
  · have d1 : decide ((262144 : Int) < (s.size : Nat)) = false := by simp; omega
    rw [if_neg hbig]
    have hman := h.set_man s
    have hz : ShIs (w.setCell ⟨p, 3, none⟩ (.string s)) F p { S with man := s } := ⟨v, m, hman⟩
    clear h hbig hman
    go_enter Try.func22, Try.ntmps22
    go_wp2_with (go_at_call 28; refine (cut_any F p _ 0 _ hz (by omega)).mono ?_; rintro e w' ⟨rfl, hs1, hk1⟩)
    go_ret
    have e1 : Sh.cut { S with man := s } 0 = ⟨[], 0, S.fs, s⟩ := by simp [Sh.cut, clip]
    rw [e1] at hs1
    exact ⟨rfl, hs1, (Kept.setCell F w _ _ H.out.2.2.2.1).trans hk1 fun k hk => Or.inl hk⟩

set_option maxHeartbeats 1000000 in
theorem crash_any (F : Nat → Prop) (p : Nat) (S : Sh) (n : Int) (w : World) (h : ShIs w F p S) (hn : -9223372036854775808 ≤ n ∧ n ≤ 9223372036854775807) :
    Calls Try.prog 20 #[.pointer (some ⟨p, 0, none⟩), .int .i64 n] w fun e w' => e = .returned (.tuple #[]) ∧ ShIs w' F p (S.crash n) ∧ Kept F w w' := by
  have hok := h.ok
  have hl := hok.log
  have hy := hok.syn
  have hz := h
  obtain ⟨v, m, h⟩ := h
  obtain ⟨c0, c1, c2, c3, fz⟩ := h.cells
  obtain ⟨k, hk⟩ : ∃ k, clip n (S.log.length - S.syn) = k := ⟨_, rfl⟩
  have hkl : k ≤ S.log.length - S.syn := by rw [← hk]; exact clip_le _ _
  unfold Sh.crash
  rw [hk]
  have hwr : IntKind.i64.wrap ((S.syn : Int) + (k : Nat)) = ((S.syn + k : Nat) : Int) := by
    have e : ((S.syn + k : Nat) : Int) = (S.syn : Int) + (k : Nat) := by omega
    rw [e]
    rw [IntKind.wrap_i64]
    omega
  have HK := Lib.hid hk
  have HZ := Lib.hid hz
  clear h hk hz hok fz
  go_enter Try.func20, Try.ntmps20
  go_wp2_with fail
  go_region_law (go_simp; first
    | (go_at_call 19; refine (unsynced_any F p S _ (by first | exact HZ.out | exact HZ.out.drew)).mono ?_; rintro e w1 ⟨rfl, hk1, hh1⟩; have c1' := (World.cell?_of_block (w := w) (w' := w1) (a := ⟨p, 1, none⟩) (by rw [hh1]; rfl)).trans c1)
    | (go_at_call 37; refine (within_any n ((S.log.length - S.syn : Nat) : Int) _ (by omega) (by omega) hn).mono ?_; rintro e w' ⟨rfl, rfl⟩; rw [Int.toNat_natCast, HK.out])
    | (go_at_call 28; refine (cut_any F p S ((S.syn + k : Nat) : Int) _ (HZ.out.heap hh1) (by omega)).mono ?_; rintro e w2 ⟨rfl, hs2, hk2⟩))
  all_goals go_wp2
  all_goals go_end0
  all_goals exact ⟨rfl, hs2, (((hk1.mono fun _ h => h.elim).undrew).trans (by first | exact hk2 | exact hk2.undrew) fun k hk => Or.inl hk)⟩
end Go.Proofs.Ytjfkfiaheohhcaa
