/-
  The document's own reader: signs.
-/
import Derived.Test.YtdbdlgmejddbhaaDoorLxz
import Derived.RegionTactic
import Derived.ChangeAlike
import Derived.BigRegion
import Derived.Laws.IdiomStrings
import Derived.Lib.SmallJoins
set_option linter.unusedVariables false
namespace Go.Proofs.YtdbdlgmejddbhaaDoor
open Go Go.RowKit Go.Proofs

set_option maxHeartbeats 4000000 in
set_option maxRecDepth 100000 in
theorem psg44_any {B q I0 p0 : Nat} {s : ByteArray} {v : Value} (w : World) (h : PSt B w q s v I0 p0) (hs : s.size ≤ 1000) (hp0 : p0 < s.size) (hc0 : (Utf8.decode s p0).1 = 44) :
    Calls Tryd.prog 19 #[.pointer (some ⟨q, 0, none⟩)] w fun e w' => POut B q s v I0 p0 (tok (s.data.toList.drop p0)) w e w' := by
  have hlen := cps_length s
  have hI0 : I0 ≤ 1000 := by have := h.pos.2.1; omega
  obtain ⟨W, hW⟩ : ∃ W, w.alloc refZ = W := ⟨_, rfl⟩
  have b0 : Below w.heap.size w W := by rw [← hW]; exact (Below.refl _ _).alloc (Nat.le_refl _) _
  have n0 : W.heap[w.heap.size]? = some refZ := by rw [← hW]; exact heap_alloc_new w _
  have hsz : W.heap.size = w.heap.size + 1 := by rw [← hW]; simp
  have PW := h.below b0
  have hqw : q ≠ w.heap.size := by have := h.lt; omega
  have HPW := Lib.hid PW
  have HB0 := Lib.hid b0
  have N0 := Lib.hid n0
  have hrv : rV s p0 = ((Utf8.decode s p0).1 : Nat) := if_pos hp0
  have hdl : Lib.decodeL (s.data.toList.drop p0) = Utf8.decode s p0 := Lib.decodeL_drop ..
  have HRV := Lib.hid hrv
  have HDL := Lib.hid hdl
  clear h PW b0 n0 hrv hdl
  go_enter Tryd.func19, Tryd.ntmps19
  go_wp2_with fail
  refine (pr0_any _ HPW.out hs).mono ?_
  rintro e w1 ⟨rfl, n1, hw1⟩
  have P1 : PSt B w1 q s v I0 p0 := by rw [hw1]; exact HPW.out.drewN n1
  have K1 : Kept (fun k => k = q) W w1 := Kept.of_below (by rw [hw1]; exact below_drewN2 _ _) (fun k => k = q)
  have HP1 := Lib.hid P1
  have HK1 := Lib.hid K1
  clear P1 K1 hw1
  rw [HRV.out, hc0]
  go_wp2_with fail
  refine (plet_any false _ HP1.out hs).mono ?_
  rintro e w2 ⟨rfl, b2⟩
  rw [Bool.false_and, Bool.or_false]
  have P2 := HP1.out.below b2
  have K2 : Kept (fun k => k = q) W w2 := HK1.out.trans (Kept.of_below b2 (fun k => k = q)) (fun k hk => Or.inl hk)
  have HP2 := Lib.hid P2
  have HK2 := Lib.hid K2
  clear P2 K2 b2
  rw [HDL.out, show ltrC (Utf8.decode s p0) = false from by
    unfold ltrC letterB
    rw [hc0]
    simp]
  have ht : tok (s.data.toList.drop p0) = some (4, [44], 0, 1) := by
    unfold tok
    rw [HDL.out, hc0, if_neg (by decide), if_neg (by unfold dgtC; rw [hc0]; decide), if_neg (by unfold ltrC letterB; rw [hc0]; simp), if_pos (by decide)]
    rfl
  have HT := Lib.hid ht
  obtain ⟨g1, _, g3⟩ := HP2.out.pos.get hp0
  have hwd : (Utf8.decode s p0).2 = 1 := ((low_width s p0 44 (by omega)).1 hc0).1
  rw [hwd] at g3
  have hlx : lx (s.data.toList.drop p0) I0 1 = lx (s.data.toList.drop (p0 + 1)) (I0 + 1) 0 := by
    rw [lx_skip (drop_ne s p0 hp0) (by omega), List.drop_drop, Lib.decodeL_drop, hwd]
  have S2 := HP2.out.step g3
  have hs2 : PSt B (w2.setCell ⟨q, 2, none⟩ (.int .i64 ((I0 : Int) + 1))) q s v (I0 + 1) (p0 + 1) := S2.1
  have hk2 : Kept (fun k => k = q) W (w2.setCell ⟨q, 2, none⟩ (.int .i64 ((I0 : Int) + 1))) := HK2.out.trans S2.2 (fun k hk => Or.inl hk)
  have c2 := cell_at (i := 2) HP2.out.blk rfl
  have f2 := thawed_at (i := 2) HP2.out.blk
  have HS2 := Lib.hid hs2
  have HKS := Lib.hid hk2
  have HLX := Lib.hid hlx
  clear S2 hs2 hk2 hlx g3 ht
  go_wp2_with fail
  refine (pdig_any _ _).mono ?_
  rintro e w9 ⟨rfl, hw9⟩
  subst hw9
  go_wp2_with fail
  clear c2 f2
  generalize w9.setCell ⟨q, 2, none⟩ (.int .i64 ((I0 : Int) + 1)) = w5 at *
  have c2 := cell_at (i := 2) HS2.out.blk rfl
  have hn : I0 + 1 ≤ 1001 := by omega
  have hb5 : Below w5.heap.size w5 ((w5.alloc (.cells #[.int .u8 44] 5)).drew) := ((Below.refl _ _).alloc (Nat.le_refl _) _).drew
  have z3 : ((w5.alloc (.cells #[.int .u8 44] 5)).drew).heap[w.heap.size]? = some refZ := (hb5.block _ (by have := HKS.out.size; omega)).trans ((HKS.out.block _ (by omega) (fun e => hqw e.symm)).trans N0.out)
  have P5 := HS2.out.below hb5
  have K5 : Kept (fun k => k = q) w ((w5.alloc (.cells #[.int .u8 44] 5)).drew) := ((Kept.of_below HB0.out (fun k => k = q)).trans HKS.out (fun k hk => Or.inl hk)).trans (Kept.of_below hb5 (fun k => k = q)) (fun k hk => Or.inl hk)
  have z3x : w5.heap[w.heap.size]? = some refZ := (HKS.out.block _ (by omega) (fun e => hqw e.symm)).trans N0.out
  have z3y : (w5.alloc (.cells #[.int .u8 44] 5)).heap[w.heap.size]? = some refZ := z3
  have hlt5 : w.heap.size < w5.heap.size := by have := HKS.out.size; omega
  have hne5 : w.heap.size ≠ w5.heap.size := by omega
  have hqy : (w5.alloc (.cells #[.int .u8 44] 5)).heap[q]? = some _ := P5.blk
  have c2v := cell_at (i := 2) P5.blk rfl
  have c2y := cell_at (i := 2) hqy rfl
  clear hqy
  have xd0 := cell_at (i := 0) z3x rfl
  have xf0 := thawed_at (i := 0) z3x
  have xd1 := cell_at (i := 1) z3x rfl
  have xf1 := thawed_at (i := 1) z3x
  have xd2 := cell_at (i := 2) z3x rfl
  have xf2 := thawed_at (i := 2) z3x
  have xd3 := cell_at (i := 3) z3x rfl
  have xf3 := thawed_at (i := 3) z3x
  have yd0 := cell_at (i := 0) z3y rfl
  have yf0 := thawed_at (i := 0) z3y
  have yd1 := cell_at (i := 1) z3y rfl
  have yf1 := thawed_at (i := 1) z3y
  have yd2 := cell_at (i := 2) z3y rfl
  have yf2 := thawed_at (i := 2) z3y
  have yd3 := cell_at (i := 3) z3y rfl
  have yf3 := thawed_at (i := 3) z3y
  obtain ⟨y4, P4, K4⟩ := ref_end (N := w.heap.size) HS2.out ((Kept.of_below HB0.out (fun k => k = q)).trans HKS.out (fun k hk => Or.inl hk)) (Nat.le_refl _) hqw z3x (.int .i64 4) (.string ⟨#[44]⟩) (.int .i64 0) (.int .i64 (I0 : Nat))
  have hb6 := (((Below.refl _ ((((w5.setCell ⟨w.heap.size, 0, none⟩ (.int .i64 4)).setCell ⟨w.heap.size, 1, none⟩ (.string ⟨#[44]⟩)).setCell ⟨w.heap.size, 2, none⟩ (.int .i64 0)).setCell ⟨w.heap.size, 3, none⟩ (.int .i64 (I0 : Nat)))).alloc (Nat.le_refl _) (.cells #[.int .u8 44] 5)).drew)
  have HY := Lib.hid ((hb6.block _ (Array.getElem?_eq_some_iff.1 y4).1).trans y4)
  have HPY := Lib.hid (P4.below hb6)
  have HKY := Lib.hid (K4.trans (Kept.of_below hb6 (fun k => k = q)) (fun k hk => Or.inl hk))
  clear P5 K5 z3 z3x z3y hb5 hb6 y4 P4 K4
  have hcv : (convert 64 9 (.slice (some ⟨w5.heap.size, 0, none⟩) 1 1)).run Tryd.prog ((w5.alloc (.cells #[.int .u8 44] 5)).drew) = .ok (.string ⟨#[44]⟩) ((w5.alloc (.cells #[.int .u8 44] 5)).drew) :=
    run_convert_bytes_back (P := Tryd.prog) _ 64 9 5 ⟨w5.heap.size, 0, none⟩ 1 [44] Tryd.underlying64 Tryd.underlying5 Tryd.underlying9 (fun j hj => by
      have : j = 0 := by simpa using hj
      subst this
      exact (World.cell?_alloc_mark w5 #[.int .u8 44] 5 (0, 0) 0).trans rfl)
  go_region
  clear hcv
  go_wp2
  try simp only [Exit.inBlock, Exit.then]
  refine bodyPost_ret (results_c2 rfl _ _ w.heap.size _ _ _ _ rfl HY.out Tryd.underlying32 rfl (by kernel_rfl)) rfl ⟨true, _, _, _, _, I0 + 1, p0 + 1, rfl, HPY.out, HKY.out, (fun _ => ⟨_, HT.out, rfl, rfl, rfl, rfl, HLX.out⟩), (fun h => by cases h), fun _ => Nat.lt_succ_self _⟩
set_option maxHeartbeats 4000000 in
set_option maxRecDepth 100000 in
theorem psg59_any {B q I0 p0 : Nat} {s : ByteArray} {v : Value} (w : World) (h : PSt B w q s v I0 p0) (hs : s.size ≤ 1000) (hp0 : p0 < s.size) (hc0 : (Utf8.decode s p0).1 = 59) :
    Calls Tryd.prog 19 #[.pointer (some ⟨q, 0, none⟩)] w fun e w' => POut B q s v I0 p0 (tok (s.data.toList.drop p0)) w e w' := by
  have hlen := cps_length s
  have hI0 : I0 ≤ 1000 := by have := h.pos.2.1; omega
  obtain ⟨W, hW⟩ : ∃ W, w.alloc refZ = W := ⟨_, rfl⟩
  have b0 : Below w.heap.size w W := by rw [← hW]; exact (Below.refl _ _).alloc (Nat.le_refl _) _
  have n0 : W.heap[w.heap.size]? = some refZ := by rw [← hW]; exact heap_alloc_new w _
  have hsz : W.heap.size = w.heap.size + 1 := by rw [← hW]; simp
  have PW := h.below b0
  have hqw : q ≠ w.heap.size := by have := h.lt; omega
  have HPW := Lib.hid PW
  have HB0 := Lib.hid b0
  have N0 := Lib.hid n0
  have hrv : rV s p0 = ((Utf8.decode s p0).1 : Nat) := if_pos hp0
  have hdl : Lib.decodeL (s.data.toList.drop p0) = Utf8.decode s p0 := Lib.decodeL_drop ..
  have HRV := Lib.hid hrv
  have HDL := Lib.hid hdl
  clear h PW b0 n0 hrv hdl
  go_enter Tryd.func19, Tryd.ntmps19
  go_wp2_with fail
  refine (pr0_any _ HPW.out hs).mono ?_
  rintro e w1 ⟨rfl, n1, hw1⟩
  have P1 : PSt B w1 q s v I0 p0 := by rw [hw1]; exact HPW.out.drewN n1
  have K1 : Kept (fun k => k = q) W w1 := Kept.of_below (by rw [hw1]; exact below_drewN2 _ _) (fun k => k = q)
  have HP1 := Lib.hid P1
  have HK1 := Lib.hid K1
  clear P1 K1 hw1
  rw [HRV.out, hc0]
  go_wp2_with fail
  refine (plet_any false _ HP1.out hs).mono ?_
  rintro e w2 ⟨rfl, b2⟩
  rw [Bool.false_and, Bool.or_false]
  have P2 := HP1.out.below b2
  have K2 : Kept (fun k => k = q) W w2 := HK1.out.trans (Kept.of_below b2 (fun k => k = q)) (fun k hk => Or.inl hk)
  have HP2 := Lib.hid P2
  have HK2 := Lib.hid K2
  clear P2 K2 b2
  rw [HDL.out, show ltrC (Utf8.decode s p0) = false from by
    unfold ltrC letterB
    rw [hc0]
    simp]
  have ht : tok (s.data.toList.drop p0) = some (4, [59], 0, 1) := by
    unfold tok
    rw [HDL.out, hc0, if_neg (by decide), if_neg (by unfold dgtC; rw [hc0]; decide), if_neg (by unfold ltrC letterB; rw [hc0]; simp), if_pos (by decide)]
    rfl
  have HT := Lib.hid ht
  obtain ⟨g1, _, g3⟩ := HP2.out.pos.get hp0
  have hwd : (Utf8.decode s p0).2 = 1 := ((low_width s p0 59 (by omega)).1 hc0).1
  rw [hwd] at g3
  have hlx : lx (s.data.toList.drop p0) I0 1 = lx (s.data.toList.drop (p0 + 1)) (I0 + 1) 0 := by
    rw [lx_skip (drop_ne s p0 hp0) (by omega), List.drop_drop, Lib.decodeL_drop, hwd]
  have S2 := HP2.out.step g3
  have hs2 : PSt B (w2.setCell ⟨q, 2, none⟩ (.int .i64 ((I0 : Int) + 1))) q s v (I0 + 1) (p0 + 1) := S2.1
  have hk2 : Kept (fun k => k = q) W (w2.setCell ⟨q, 2, none⟩ (.int .i64 ((I0 : Int) + 1))) := HK2.out.trans S2.2 (fun k hk => Or.inl hk)
  have c2 := cell_at (i := 2) HP2.out.blk rfl
  have f2 := thawed_at (i := 2) HP2.out.blk
  have HS2 := Lib.hid hs2
  have HKS := Lib.hid hk2
  have HLX := Lib.hid hlx
  clear S2 hs2 hk2 hlx g3 ht
  go_wp2_with fail
  refine (pdig_any _ _).mono ?_
  rintro e w9 ⟨rfl, hw9⟩
  subst hw9
  go_wp2_with fail
  clear c2 f2
  generalize w9.setCell ⟨q, 2, none⟩ (.int .i64 ((I0 : Int) + 1)) = w5 at *
  have c2 := cell_at (i := 2) HS2.out.blk rfl
  have hn : I0 + 1 ≤ 1001 := by omega
  have hb5 : Below w5.heap.size w5 ((w5.alloc (.cells #[.int .u8 59] 5)).drew) := ((Below.refl _ _).alloc (Nat.le_refl _) _).drew
  have z3 : ((w5.alloc (.cells #[.int .u8 59] 5)).drew).heap[w.heap.size]? = some refZ := (hb5.block _ (by have := HKS.out.size; omega)).trans ((HKS.out.block _ (by omega) (fun e => hqw e.symm)).trans N0.out)
  have P5 := HS2.out.below hb5
  have K5 : Kept (fun k => k = q) w ((w5.alloc (.cells #[.int .u8 59] 5)).drew) := ((Kept.of_below HB0.out (fun k => k = q)).trans HKS.out (fun k hk => Or.inl hk)).trans (Kept.of_below hb5 (fun k => k = q)) (fun k hk => Or.inl hk)
  have z3x : w5.heap[w.heap.size]? = some refZ := (HKS.out.block _ (by omega) (fun e => hqw e.symm)).trans N0.out
  have z3y : (w5.alloc (.cells #[.int .u8 59] 5)).heap[w.heap.size]? = some refZ := z3
  have hlt5 : w.heap.size < w5.heap.size := by have := HKS.out.size; omega
  have hne5 : w.heap.size ≠ w5.heap.size := by omega
  have hqy : (w5.alloc (.cells #[.int .u8 59] 5)).heap[q]? = some _ := P5.blk
  have c2v := cell_at (i := 2) P5.blk rfl
  have c2y := cell_at (i := 2) hqy rfl
  clear hqy
  have xd0 := cell_at (i := 0) z3x rfl
  have xf0 := thawed_at (i := 0) z3x
  have xd1 := cell_at (i := 1) z3x rfl
  have xf1 := thawed_at (i := 1) z3x
  have xd2 := cell_at (i := 2) z3x rfl
  have xf2 := thawed_at (i := 2) z3x
  have xd3 := cell_at (i := 3) z3x rfl
  have xf3 := thawed_at (i := 3) z3x
  have yd0 := cell_at (i := 0) z3y rfl
  have yf0 := thawed_at (i := 0) z3y
  have yd1 := cell_at (i := 1) z3y rfl
  have yf1 := thawed_at (i := 1) z3y
  have yd2 := cell_at (i := 2) z3y rfl
  have yf2 := thawed_at (i := 2) z3y
  have yd3 := cell_at (i := 3) z3y rfl
  have yf3 := thawed_at (i := 3) z3y
  obtain ⟨y4, P4, K4⟩ := ref_end (N := w.heap.size) HS2.out ((Kept.of_below HB0.out (fun k => k = q)).trans HKS.out (fun k hk => Or.inl hk)) (Nat.le_refl _) hqw z3x (.int .i64 4) (.string ⟨#[59]⟩) (.int .i64 0) (.int .i64 (I0 : Nat))
  have hb6 := (((Below.refl _ ((((w5.setCell ⟨w.heap.size, 0, none⟩ (.int .i64 4)).setCell ⟨w.heap.size, 1, none⟩ (.string ⟨#[59]⟩)).setCell ⟨w.heap.size, 2, none⟩ (.int .i64 0)).setCell ⟨w.heap.size, 3, none⟩ (.int .i64 (I0 : Nat)))).alloc (Nat.le_refl _) (.cells #[.int .u8 59] 5)).drew)
  have HY := Lib.hid ((hb6.block _ (Array.getElem?_eq_some_iff.1 y4).1).trans y4)
  have HPY := Lib.hid (P4.below hb6)
  have HKY := Lib.hid (K4.trans (Kept.of_below hb6 (fun k => k = q)) (fun k hk => Or.inl hk))
  clear P5 K5 z3 z3x z3y hb5 hb6 y4 P4 K4
  have hcv : (convert 64 9 (.slice (some ⟨w5.heap.size, 0, none⟩) 1 1)).run Tryd.prog ((w5.alloc (.cells #[.int .u8 59] 5)).drew) = .ok (.string ⟨#[59]⟩) ((w5.alloc (.cells #[.int .u8 59] 5)).drew) :=
    run_convert_bytes_back (P := Tryd.prog) _ 64 9 5 ⟨w5.heap.size, 0, none⟩ 1 [59] Tryd.underlying64 Tryd.underlying5 Tryd.underlying9 (fun j hj => by
      have : j = 0 := by simpa using hj
      subst this
      exact (World.cell?_alloc_mark w5 #[.int .u8 59] 5 (0, 0) 0).trans rfl)
  go_region
  clear hcv
  go_wp2
  try simp only [Exit.inBlock, Exit.then]
  refine bodyPost_ret (results_c2 rfl _ _ w.heap.size _ _ _ _ rfl HY.out Tryd.underlying32 rfl (by kernel_rfl)) rfl ⟨true, _, _, _, _, I0 + 1, p0 + 1, rfl, HPY.out, HKY.out, (fun _ => ⟨_, HT.out, rfl, rfl, rfl, rfl, HLX.out⟩), (fun h => by cases h), fun _ => Nat.lt_succ_self _⟩
set_option maxHeartbeats 4000000 in
set_option maxRecDepth 100000 in
theorem psg61_any {B q I0 p0 : Nat} {s : ByteArray} {v : Value} (w : World) (h : PSt B w q s v I0 p0) (hs : s.size ≤ 1000) (hp0 : p0 < s.size) (hc0 : (Utf8.decode s p0).1 = 61) :
    Calls Tryd.prog 19 #[.pointer (some ⟨q, 0, none⟩)] w fun e w' => POut B q s v I0 p0 (tok (s.data.toList.drop p0)) w e w' := by
  have hlen := cps_length s
  have hI0 : I0 ≤ 1000 := by have := h.pos.2.1; omega
  obtain ⟨W, hW⟩ : ∃ W, w.alloc refZ = W := ⟨_, rfl⟩
  have b0 : Below w.heap.size w W := by rw [← hW]; exact (Below.refl _ _).alloc (Nat.le_refl _) _
  have n0 : W.heap[w.heap.size]? = some refZ := by rw [← hW]; exact heap_alloc_new w _
  have hsz : W.heap.size = w.heap.size + 1 := by rw [← hW]; simp
  have PW := h.below b0
  have hqw : q ≠ w.heap.size := by have := h.lt; omega
  have HPW := Lib.hid PW
  have HB0 := Lib.hid b0
  have N0 := Lib.hid n0
  have hrv : rV s p0 = ((Utf8.decode s p0).1 : Nat) := if_pos hp0
  have hdl : Lib.decodeL (s.data.toList.drop p0) = Utf8.decode s p0 := Lib.decodeL_drop ..
  have HRV := Lib.hid hrv
  have HDL := Lib.hid hdl
  clear h PW b0 n0 hrv hdl
  go_enter Tryd.func19, Tryd.ntmps19
  go_wp2_with fail
  refine (pr0_any _ HPW.out hs).mono ?_
  rintro e w1 ⟨rfl, n1, hw1⟩
  have P1 : PSt B w1 q s v I0 p0 := by rw [hw1]; exact HPW.out.drewN n1
  have K1 : Kept (fun k => k = q) W w1 := Kept.of_below (by rw [hw1]; exact below_drewN2 _ _) (fun k => k = q)
  have HP1 := Lib.hid P1
  have HK1 := Lib.hid K1
  clear P1 K1 hw1
  rw [HRV.out, hc0]
  go_wp2_with fail
  refine (plet_any false _ HP1.out hs).mono ?_
  rintro e w2 ⟨rfl, b2⟩
  rw [Bool.false_and, Bool.or_false]
  have P2 := HP1.out.below b2
  have K2 : Kept (fun k => k = q) W w2 := HK1.out.trans (Kept.of_below b2 (fun k => k = q)) (fun k hk => Or.inl hk)
  have HP2 := Lib.hid P2
  have HK2 := Lib.hid K2
  clear P2 K2 b2
  rw [HDL.out, show ltrC (Utf8.decode s p0) = false from by
    unfold ltrC letterB
    rw [hc0]
    simp]
  have ht : tok (s.data.toList.drop p0) = some (4, [61], 0, 1) := by
    unfold tok
    rw [HDL.out, hc0, if_neg (by decide), if_neg (by unfold dgtC; rw [hc0]; decide), if_neg (by unfold ltrC letterB; rw [hc0]; simp), if_pos (by decide)]
    rfl
  have HT := Lib.hid ht
  obtain ⟨g1, _, g3⟩ := HP2.out.pos.get hp0
  have hwd : (Utf8.decode s p0).2 = 1 := ((low_width s p0 61 (by omega)).1 hc0).1
  rw [hwd] at g3
  have hlx : lx (s.data.toList.drop p0) I0 1 = lx (s.data.toList.drop (p0 + 1)) (I0 + 1) 0 := by
    rw [lx_skip (drop_ne s p0 hp0) (by omega), List.drop_drop, Lib.decodeL_drop, hwd]
  have S2 := HP2.out.step g3
  have hs2 : PSt B (w2.setCell ⟨q, 2, none⟩ (.int .i64 ((I0 : Int) + 1))) q s v (I0 + 1) (p0 + 1) := S2.1
  have hk2 : Kept (fun k => k = q) W (w2.setCell ⟨q, 2, none⟩ (.int .i64 ((I0 : Int) + 1))) := HK2.out.trans S2.2 (fun k hk => Or.inl hk)
  have c2 := cell_at (i := 2) HP2.out.blk rfl
  have f2 := thawed_at (i := 2) HP2.out.blk
  have HS2 := Lib.hid hs2
  have HKS := Lib.hid hk2
  have HLX := Lib.hid hlx
  clear S2 hs2 hk2 hlx g3 ht
  go_wp2_with fail
  refine (pdig_any _ _).mono ?_
  rintro e w9 ⟨rfl, hw9⟩
  subst hw9
  go_wp2_with fail
  clear c2 f2
  generalize w9.setCell ⟨q, 2, none⟩ (.int .i64 ((I0 : Int) + 1)) = w5 at *
  have c2 := cell_at (i := 2) HS2.out.blk rfl
  have hn : I0 + 1 ≤ 1001 := by omega
  have hb5 : Below w5.heap.size w5 ((w5.alloc (.cells #[.int .u8 61] 5)).drew) := ((Below.refl _ _).alloc (Nat.le_refl _) _).drew
  have z3 : ((w5.alloc (.cells #[.int .u8 61] 5)).drew).heap[w.heap.size]? = some refZ := (hb5.block _ (by have := HKS.out.size; omega)).trans ((HKS.out.block _ (by omega) (fun e => hqw e.symm)).trans N0.out)
  have P5 := HS2.out.below hb5
  have K5 : Kept (fun k => k = q) w ((w5.alloc (.cells #[.int .u8 61] 5)).drew) := ((Kept.of_below HB0.out (fun k => k = q)).trans HKS.out (fun k hk => Or.inl hk)).trans (Kept.of_below hb5 (fun k => k = q)) (fun k hk => Or.inl hk)
  have z3x : w5.heap[w.heap.size]? = some refZ := (HKS.out.block _ (by omega) (fun e => hqw e.symm)).trans N0.out
  have z3y : (w5.alloc (.cells #[.int .u8 61] 5)).heap[w.heap.size]? = some refZ := z3
  have hlt5 : w.heap.size < w5.heap.size := by have := HKS.out.size; omega
  have hne5 : w.heap.size ≠ w5.heap.size := by omega
  have hqy : (w5.alloc (.cells #[.int .u8 61] 5)).heap[q]? = some _ := P5.blk
  have c2v := cell_at (i := 2) P5.blk rfl
  have c2y := cell_at (i := 2) hqy rfl
  clear hqy
  have xd0 := cell_at (i := 0) z3x rfl
  have xf0 := thawed_at (i := 0) z3x
  have xd1 := cell_at (i := 1) z3x rfl
  have xf1 := thawed_at (i := 1) z3x
  have xd2 := cell_at (i := 2) z3x rfl
  have xf2 := thawed_at (i := 2) z3x
  have xd3 := cell_at (i := 3) z3x rfl
  have xf3 := thawed_at (i := 3) z3x
  have yd0 := cell_at (i := 0) z3y rfl
  have yf0 := thawed_at (i := 0) z3y
  have yd1 := cell_at (i := 1) z3y rfl
  have yf1 := thawed_at (i := 1) z3y
  have yd2 := cell_at (i := 2) z3y rfl
  have yf2 := thawed_at (i := 2) z3y
  have yd3 := cell_at (i := 3) z3y rfl
  have yf3 := thawed_at (i := 3) z3y
  obtain ⟨y4, P4, K4⟩ := ref_end (N := w.heap.size) HS2.out ((Kept.of_below HB0.out (fun k => k = q)).trans HKS.out (fun k hk => Or.inl hk)) (Nat.le_refl _) hqw z3x (.int .i64 4) (.string ⟨#[61]⟩) (.int .i64 0) (.int .i64 (I0 : Nat))
  have hb6 := (((Below.refl _ ((((w5.setCell ⟨w.heap.size, 0, none⟩ (.int .i64 4)).setCell ⟨w.heap.size, 1, none⟩ (.string ⟨#[61]⟩)).setCell ⟨w.heap.size, 2, none⟩ (.int .i64 0)).setCell ⟨w.heap.size, 3, none⟩ (.int .i64 (I0 : Nat)))).alloc (Nat.le_refl _) (.cells #[.int .u8 61] 5)).drew)
  have HY := Lib.hid ((hb6.block _ (Array.getElem?_eq_some_iff.1 y4).1).trans y4)
  have HPY := Lib.hid (P4.below hb6)
  have HKY := Lib.hid (K4.trans (Kept.of_below hb6 (fun k => k = q)) (fun k hk => Or.inl hk))
  clear P5 K5 z3 z3x z3y hb5 hb6 y4 P4 K4
  have hcv : (convert 64 9 (.slice (some ⟨w5.heap.size, 0, none⟩) 1 1)).run Tryd.prog ((w5.alloc (.cells #[.int .u8 61] 5)).drew) = .ok (.string ⟨#[61]⟩) ((w5.alloc (.cells #[.int .u8 61] 5)).drew) :=
    run_convert_bytes_back (P := Tryd.prog) _ 64 9 5 ⟨w5.heap.size, 0, none⟩ 1 [61] Tryd.underlying64 Tryd.underlying5 Tryd.underlying9 (fun j hj => by
      have : j = 0 := by simpa using hj
      subst this
      exact (World.cell?_alloc_mark w5 #[.int .u8 61] 5 (0, 0) 0).trans rfl)
  go_region
  clear hcv
  go_wp2
  try simp only [Exit.inBlock, Exit.then]
  refine bodyPost_ret (results_c2 rfl _ _ w.heap.size _ _ _ _ rfl HY.out Tryd.underlying32 rfl (by kernel_rfl)) rfl ⟨true, _, _, _, _, I0 + 1, p0 + 1, rfl, HPY.out, HKY.out, (fun _ => ⟨_, HT.out, rfl, rfl, rfl, rfl, HLX.out⟩), (fun h => by cases h), fun _ => Nat.lt_succ_self _⟩
end Go.Proofs.YtdbdlgmejddbhaaDoor
