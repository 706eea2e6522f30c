/-
  pack's putMut, putNote, their lists, numbers' lists.
-/
import Derived.Test.YtbfkbfbcaileoaaTkl
import Derived.Test.YtbfkbfbcaileoaaPt4
import Derived.Test.YtbfkbfbcaileoaaMu
set_option linter.unusedVariables false
set_option linter.unusedSimpArgs false
namespace Go.Proofs.Ytbfkbfbcaileoaa
open Go Go.RowKit

def bsB (l : Bs) : ByteArray := ⟨l.toArray⟩
theorem tE_bsB (l : Bs) : tE (bsB l) = numL l.length ++ l := rfl
theorem bsB_size (l : Bs) : (bsB l).size = l.length := rfl
theorem Rd.of_own1 {w : World} {base n : Nat} {A : Option Addr} {c : Nat} {l : Bs} (h : w.ownsRow base 5 1 (.slice A n c) n (Lib.byteCells l)) : Rd w w.heap.size A n l := by
  obtain ⟨A', c', e, _, _, _, h4⟩ := Rd.of_own h
  injection e with e1 e2 e3
  subst e1
  exact h4
set_option maxRecDepth 8000 in
set_option maxHeartbeats 1000000 in
theorem putMut_any (B : Nat) (v : Value) (l : Bs) (tb k : ByteArray) (g : Int) (A : Option Addr) (n c Bk : Nat) (L : List RA) (w : World) (h : OwnY B w v l) (hB : B ≤ w.heap.size) (hr : Lies w Bk A n c L) (hBk : Bk ≤ B) (htb : tb.size ≤ 1000000) (hs : PaS k g L) (htot : (l ++ mE (tb, ⟨k, g, ros L⟩)).length ≤ 400000000) :
    Calls Try.prog 55 #[v, .agg #[.string tb, .string k, .int .i64 g, .slice A n c]] w (Lays B w v (l ++ mE (tb, ⟨k, g, ros L⟩))) := by
  obtain ⟨P, hP⟩ : ∃ P, pE ⟨k, g, ros L⟩ = P := ⟨_, rfl⟩
  have hE : l ++ mE (tb, ⟨k, g, ros L⟩) = l ++ tE tb ++ tE (bsB P) := by
    unfold mE
    dsimp only
    rw [hP, tE_bsB, List.append_assoc]
  rw [hE] at htot ⊢
  have ht4 := htot
  simp only [List.length_append] at ht4
  have hpl : (pE ⟨k, g, ros L⟩).length ≤ 400000000 := by rw [hP]; rw [tE_bsB, List.length_append] at ht4; omega
  have HT1 : Hid ((l ++ tE tb).length ≤ 500000000) := Lib.hid (by simp only [List.length_append]; omega)
  have HT0 : Hid (l.length ≤ 500000000) := Lib.hid (by omega)
  have bz := (Below.refl w.heap.size w).alloc (Nat.le_refl _) (.cells #[.string tb, .string k, .int .i64 g, .slice A n c] 49)
  have hz := heap_alloc_new w (.cells #[.string tb, .string k, .int .i64 g, .slice A n c] 49)
  have l0 := (Ly.refl h).below bz
  obtain ⟨V, hV⟩ : ∃ V, V = w.alloc (.cells #[.string tb, .string k, .int .i64 g, .slice A n c] 49) := ⟨_, rfl⟩
  rw [← hV] at bz hz l0
  have L0 := Lib.hid l0.drew; have HZ := Lib.hid hz; have HB := Lib.hid hB; have HK := Lib.hid hs; have HO := Lib.hid h; have HR := Lib.hid hr; have HBK := Lib.hid hBk; have HTB := Lib.hid htb; have HPL := Lib.hid hpl; have HPP := Lib.hid hP
  clear bz hz l0 hB hs h htot ht4 hE hr hBk htb hpl hP
  go_enter Try.func55, Try.ntmps55
  go_wp2_with fail
  rw [← hV]
  clear hV
  refine wp_region_held_drew (S := fun w' => w'.heap[w.heap.size]? = some (.cells #[.string tb, .string k, .int .i64 g, .slice A n c] 49 (0, 0))) (by kernel_rfl) ?_ (fun hHeld => ?_)
  · exact HZ.out
  refine takesH [0, 1, 2, 4, 5] ?_
  repeat
    refine takesH_one (v := ?_) ?_ ?_
    rotate_left
    · first | (refine Or.inr ⟨by rfl, ?_⟩; with_reducible rfl) | (refine Or.inl ⟨by rfl, ?_⟩; intro wx hSw; (try dsimp only at hSw); first | (go_simp; first | done | with_reducible rfl) | (have hc0 := cell_at (i := 0) hSw rfl; go_simp; first | done | with_reducible rfl) | (have hc1 := cell_at (i := 1) hSw rfl; have hc2 := cell_at (i := 2) hSw rfl; have hc3 := cell_at (i := 3) hSw rfl; go_simp; first | done | with_reducible rfl))
    try simp only [Act.put, List.getElem_toArray, List.getElem_cons_succ, List.getElem_cons_zero, List.setIfInBounds_toArray, List.set_cons_zero, List.set_cons_succ]
  refine takesH_nil ?_
  refine wpAnyH_ready (rs := [3]) (by kernel_rfl) (by simp) (AllReadyH.cons rfl (fun K hK => ?_) AllReadyH.nil)
  go_simp
  refine (putText_any B v l tb V.drew L0.out.own (Nat.le_trans HB.out L0.out.size) (by have := HTB.out; omega) (by have := HT0.out; omega)).mono ?_
  rintro x w1 ⟨v1, rfl, l1⟩
  have HZ1 := Lib.hid (l1.at_ L0.out.own HZ.out (by decide))
  have L1 := Lib.hid (L0.out.on l1)
  clear l1
  try go_wp2_with fail
  refine hK.out _ _ ?_ (fun hHeld => ?_)
  · first | exact HZ3.out | exact HZ2.out | exact HZ1.out
  clear hK K
  try simp only [Act.put, List.getElem_toArray, List.getElem_cons_succ, List.getElem_cons_zero, List.setIfInBounds_toArray, List.set_cons_zero, List.set_cons_succ]
  refine wpAnyH_ready (rs := [6]) (by kernel_rfl) (by simp) (AllReadyH.cons rfl (fun K hK => ?_) AllReadyH.nil)
  go_simp
  refine (putPart_any w1.heap.size (.slice none 0 0) [] k g A n c Bk L w1 (own_nilY _ _) (Nat.le_refl _) (HR.out.below ((L1.out.base HO.out HB.out).mono HBK.out)) (by have := HBK.out; have := HB.out; have := L1.out.size; omega) HK.out (by rw [List.nil_append]; have := HPL.out; omega)).mono ?_
  rintro x w2 ⟨v2, rfl, l2⟩
  have hb2 := l2.base (own_nilY _ _) (Nat.le_refl _)
  have HZ2 := Lib.hid ((hb2.block _ (Array.getElem?_eq_some_iff.1 HZ1.out).1).trans HZ1.out)
  have L2 := Lib.hid (L1.out.below hb2)
  have ho2 := l2.own
  rw [List.nil_append, HPP.out] at ho2
  obtain ⟨A2, n2, c2, rfl, hl2, _, _, _, ho2⟩ := ho2.slice
  have hcv := cv_string (Rd.of_own1 ho2) c2
  clear l2 hb2
  try go_wp2_with fail
  refine hK.out _ _ ?_ (fun hHeld => ?_)
  · first | exact HZ3.out | exact HZ2.out | exact HZ1.out
  clear hK K
  try simp only [Act.put, List.getElem_toArray, List.getElem_cons_succ, List.getElem_cons_zero, List.setIfInBounds_toArray, List.set_cons_zero, List.set_cons_succ]
  refine wpAnyH_ready (rs := [7]) (by kernel_rfl) (by simp) (AllReadyH.cons rfl (fun K hK => ?_) AllReadyH.nil)
  go_simp
  refine hK.out _ _ ?_ (fun hHeld => ?_)
  · exact HZ2.out
  clear hK K
  try simp only [Act.put, List.getElem_toArray, List.getElem_cons_succ, List.getElem_cons_zero, List.setIfInBounds_toArray, List.set_cons_zero, List.set_cons_succ]
  refine wpAnyH_ready (rs := [8]) (by kernel_rfl) (by simp) (AllReadyH.cons rfl (fun K hK => ?_) AllReadyH.nil)
  go_simp
  refine (putText_any B v1 (l ++ tE tb) (bsB P) w2 L2.out.own (Nat.le_trans HB.out L2.out.size) (by rw [bsB_size]; have := HPL.out; rw [HPP.out] at this; omega) (by have := HT1.out; omega)).mono ?_
  rintro x w3 ⟨v3, rfl, l3⟩
  have HZ3 := Lib.hid (l3.at_ L2.out.own HZ2.out (by decide))
  have L3 := Lib.hid (L2.out.on l3)
  clear l3
  try go_wp2_with fail
  refine hK.out _ _ ?_ (fun hHeld => ?_)
  · first | exact HZ3.out | exact HZ2.out | exact HZ1.out
  clear hK K
  try simp only [Act.put, List.getElem_toArray, List.getElem_cons_succ, List.getElem_cons_zero, List.setIfInBounds_toArray, List.set_cons_zero, List.set_cons_succ]
  refine takesH [9] ?_
  repeat
    refine takesH_one (v := ?_) ?_ ?_
    rotate_left
    · first | (refine Or.inr ⟨by rfl, ?_⟩; with_reducible rfl) | (refine Or.inl ⟨by rfl, ?_⟩; intro wx hSw; (try dsimp only at hSw); first | (go_simp; first | done | with_reducible rfl))
    try simp only [Act.put, List.getElem_toArray, List.getElem_cons_succ, List.getElem_cons_zero, List.setIfInBounds_toArray, List.set_cons_zero, List.set_cons_succ]
  refine takesH_nil ?_
  refine wpAnyH_done (by kernel_rfl) ?_ _
  go_wp2
  go_ret
  exact ⟨v3, rfl, L3.out⟩
set_option maxHeartbeats 1000000 in
theorem putNote_any (B : Nat) (v : Value) (l : Bs) (i : Int) (s : ByteArray) (w : World) (h : OwnY B w v l) (hB : B ≤ w.heap.size) (hi : Stm i) (hs : s.size ≤ 1000000) (hl : l.length ≤ 500000000) :
    Calls Try.prog 58 #[v, .agg #[.int .i64 i, .string s]] w (Lays B w v (l ++ aE (i, s))) := by
  have hE : l ++ aE (i, s) = l ++ numL i.toNat ++ tE s := by
    unfold aE
    rw [List.append_assoc]
  rw [hE]
  have hnl : (numL i.toNat).length ≤ 9 := stm_num hi
  have HT1 : Hid ((l ++ numL i.toNat).length ≤ 500000009) := Lib.hid (by simp only [List.length_append]; omega)
  have HT0 : Hid (l.length ≤ 500000000) := Lib.hid (by omega)
  have bz := (Below.refl w.heap.size w).alloc (Nat.le_refl _) (.cells #[.int .i64 i, .string s] 51)
  have hz := heap_alloc_new w (.cells #[.int .i64 i, .string s] 51)
  have l0 := (Ly.refl h).below bz
  obtain ⟨V, hV⟩ : ∃ V, V = w.alloc (.cells #[.int .i64 i, .string s] 51) := ⟨_, rfl⟩
  rw [← hV] at bz hz l0
  have L0 := Lib.hid l0.drew; have HZ := Lib.hid hz; have HB := Lib.hid hB; have HI := Lib.hid hi; have HS := Lib.hid hs
  clear bz hz l0 hB hs h hE hl hi hnl
  go_enter Try.func58, Try.ntmps58
  go_wp2_with fail
  rw [← hV]
  clear hV
  refine wp_region_held_drew (S := fun w' => w'.heap[w.heap.size]? = some (.cells #[.int .i64 i, .string s] 51 (0, 0))) (by kernel_rfl) ?_ (fun hHeld => ?_)
  · exact HZ.out
  refine takesH [0, 1, 2, 4, 5] ?_
  repeat
    refine takesH_one (v := ?_) ?_ ?_
    rotate_left
    · first | (refine Or.inr ⟨by rfl, ?_⟩; with_reducible rfl) | (refine Or.inl ⟨by rfl, ?_⟩; intro wx hSw; (try dsimp only at hSw); first | (go_simp; first | done | with_reducible rfl) | (have hc0 := cell_at (i := 0) hSw rfl; go_simp; first | done | with_reducible rfl) | (have hc1 := cell_at (i := 1) hSw rfl; go_simp; first | done | with_reducible rfl))
    try simp only [Act.put, List.getElem_toArray, List.getElem_cons_succ, List.getElem_cons_zero, List.setIfInBounds_toArray, List.set_cons_zero, List.set_cons_succ]
  refine takesH_nil ?_
  refine wpAnyH_ready (rs := [3]) (by kernel_rfl) (by simp) (AllReadyH.cons rfl (fun K hK => ?_) AllReadyH.nil)
  go_simp
  refine (putNum_any B v l i V.drew L0.out.own (Nat.le_trans HB.out L0.out.size) HI.out.1 (by have := HI.out.2; omega) (by have := HT0.out; omega)).mono ?_
  rintro x w1 ⟨v1, rfl, l1⟩
  have HZ1 := Lib.hid (l1.at_ L0.out.own HZ.out (by decide))
  have L1 := Lib.hid (L0.out.on l1)
  clear l1
  try go_wp2_with fail
  refine hK.out _ _ ?_ (fun hHeld => ?_)
  · first | exact HZ2.out | exact HZ1.out
  clear hK K
  try simp only [Act.put, List.getElem_toArray, List.getElem_cons_succ, List.getElem_cons_zero, List.setIfInBounds_toArray, List.set_cons_zero, List.set_cons_succ]
  refine wpAnyH_ready (rs := [6]) (by kernel_rfl) (by simp) (AllReadyH.cons rfl (fun K hK => ?_) AllReadyH.nil)
  go_simp
  refine (putText_any B v1 (l ++ numL i.toNat) s w1 L1.out.own (Nat.le_trans HB.out L1.out.size) (by have := HS.out; omega) (by have := HT1.out; omega)).mono ?_
  rintro x w2 ⟨v2, rfl, l2⟩
  have HZ2 := Lib.hid (l2.at_ L1.out.own HZ1.out (by decide))
  have L2 := Lib.hid (L1.out.on l2)
  clear l2
  try go_wp2_with fail
  refine hK.out _ _ ?_ (fun hHeld => ?_)
  · first | exact HZ2.out | exact HZ1.out
  clear hK K
  try simp only [Act.put, List.getElem_toArray, List.getElem_cons_succ, List.getElem_cons_zero, List.setIfInBounds_toArray, List.set_cons_zero, List.set_cons_succ]
  refine takesH [7] ?_
  repeat
    refine takesH_one (v := ?_) ?_ ?_
    rotate_left
    · first | (refine Or.inr ⟨by rfl, ?_⟩; with_reducible rfl) | (refine Or.inl ⟨by rfl, ?_⟩; intro wx hSw; (try dsimp only at hSw); first | (go_simp; first | done | with_reducible rfl))
    try simp only [Act.put, List.getElem_toArray, List.getElem_cons_succ, List.getElem_cons_zero, List.setIfInBounds_toArray, List.set_cons_zero, List.set_cons_succ]
  refine takesH_nil ?_
  refine wpAnyH_done (by kernel_rfl) ?_ _
  go_wp2
  go_ret
  exact ⟨v2, rfl, L2.out⟩
end Go.Proofs.Ytbfkbfbcaileoaa
