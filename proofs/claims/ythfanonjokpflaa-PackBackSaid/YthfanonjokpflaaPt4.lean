/-
  pack's putRow, rows, putPart.
-/
import Derived.Test.YthfanonjokpflaaTkl
import Derived.Test.YthfanonjokpflaaPt3
import Derived.Test.YthfanonjokpflaaPo
import Derived.Test.YthfanonjokpflaaPp
set_option linter.unusedVariables false
set_option linter.unusedSimpArgs false
namespace Go.Proofs.Ythfanonjokpflaa
open Go Go.RowKit

/-- A row that is put. -/
structure RoS (r : Ro) : Prop where
  key : r.key.size ≤ 1000000
  live : r.live.Gd
  val : r.live.s.size ≤ 1000000
  gone : Stm r.gone
  shade : Stm r.shade
  len : r.cols.length ≤ 1000000
  cols : ∀ x ∈ r.cols, ColS x
theorem Ly.step {B : Nat} {w w1 w2 : World} {v v1 v2 : Value} {l1 l2 : Bs} (h : Ly B w v w1 v1 l1) (h' : Ly B w1.drew v1 w2 v2 l2) : Ly B w v w2 v2 l2 := h.drew.on h'
set_option maxRecDepth 8000 in
set_option maxHeartbeats 1000000 in
theorem putRow_any (B : Nat) (v : Value) (l : Bs) (key ls : ByteArray) (ld : Bool) (la le g sh : Int) (A : Option Addr) (n c Bk : Nat) (Ks : Cols) (w : World) (h : OwnY B w v l) (hB : B ≤ w.heap.size) (hr : RdK w Bk A n Ks) (hBk : Bk ≤ B) (hs : RoS ⟨key, ⟨ls, ld, la, le⟩, g, sh, Ks⟩) (htot : (l ++ rE ⟨key, ⟨ls, ld, la, le⟩, g, sh, Ks⟩).length ≤ 500000000) :
    Calls Try.prog 47 #[v, .agg #[.string key, .string ls, .bool ld, .int .i64 la, .int .i64 le, .int .i64 g, .int .i64 sh, .slice A n c]] w (Lays B w v (l ++ rE ⟨key, ⟨ls, ld, la, le⟩, g, sh, Ks⟩)) := by
  have hkn : Ks.length = n := hr.1
  have hnn : n ≤ 1000000 := by have := hs.len; dsimp only at this; omega
  have hE : l ++ rE ⟨key, ⟨ls, ld, la, le⟩, g, sh, Ks⟩ = l ++ tE key ++ cE ⟨ls, ld, la, le⟩ ++ numL g.toNat ++ numL sh.toNat ++ (numL n ++ Ks.flatMap kE) := by
    unfold rE
    dsimp only
    rw [hkn]
    simp only [List.append_assoc]
  rw [hE] at htot ⊢
  have ht4 := htot
  simp only [List.length_append] at ht4
  have HT4 := Lib.hid htot
  have HT3 : Hid ((l ++ tE key ++ cE ⟨ls, ld, la, le⟩ ++ numL g.toNat).length ≤ 500000000) := Lib.hid (by simp only [List.length_append]; omega)
  have HT2 : Hid ((l ++ tE key ++ cE ⟨ls, ld, la, le⟩).length ≤ 500000000) := Lib.hid (by simp only [List.length_append]; omega)
  have HT1 : Hid ((l ++ tE key).length ≤ 500000000) := Lib.hid (by simp only [List.length_append]; omega)
  have HT0 : Hid (l.length ≤ 500000000) := Lib.hid (by omega)
  have bz := (Below.refl w.heap.size w).alloc (Nat.le_refl _) (.cells #[.string key, .string ls, .bool ld, .int .i64 la, .int .i64 le, .int .i64 g, .int .i64 sh, .slice A n c] 61)
  have hz := heap_alloc_new w (.cells #[.string key, .string ls, .bool ld, .int .i64 la, .int .i64 le, .int .i64 g, .int .i64 sh, .slice A n c] 61)
  have l0 := (Ly.refl h).below bz
  obtain ⟨V, hV⟩ : ∃ V, V = w.alloc (.cells #[.string key, .string ls, .bool ld, .int .i64 la, .int .i64 le, .int .i64 g, .int .i64 sh, .slice A n c] 61) := ⟨_, rfl⟩
  rw [← hV] at bz hz l0
  have L0 := Lib.hid l0.drew; have HZ := Lib.hid hz; have HB := Lib.hid hB; have HK := Lib.hid hs; have HO := Lib.hid h; have HR := Lib.hid hr; have HBK := Lib.hid hBk; have HNN := Lib.hid hnn
  clear bz hz l0 hB hs h htot ht4 hE hkn hr hBk hnn
  go_enter Try.func47, Try.ntmps47
  go_wp2_with fail
  rw [← hV]
  clear hV
  refine wp_region_held_drew (S := fun w' => w'.heap[w.heap.size]? = some (.cells #[.string key, .string ls, .bool ld, .int .i64 la, .int .i64 le, .int .i64 g, .int .i64 sh, .slice A n c] 61)) (by kernel_rfl) ?_ (fun hHeld => ?_)
  · exact HZ.out
  refine takesH [0, 1, 2, 4, 5] ?_
  repeat
    refine takesH_one (v := ?_) ?_ ?_
    rotate_left
    · first | (refine Or.inr ⟨by rfl, ?_⟩; with_reducible rfl) | (refine Or.inl ⟨by rfl, ?_⟩; intro wx hSw; (try dsimp only at hSw); first | (go_simp; first | done | with_reducible rfl) | (have hc0 := cell_at (i := 0) hSw rfl; go_simp; first | done | with_reducible rfl) | (have hc1 := cell_at (i := 1) hSw rfl; have hc2 := cell_at (i := 2) hSw rfl; have hc3 := cell_at (i := 3) hSw rfl; have hc4 := cell_at (i := 4) hSw rfl; go_simp; first | done | with_reducible rfl))
    try simp only [Act.put, List.getElem_toArray, List.getElem_cons_succ, List.getElem_cons_zero, List.setIfInBounds_toArray, List.set_cons_zero, List.set_cons_succ]
  refine takesH_nil ?_
  refine wpAnyH_ready (rs := [3]) (by kernel_rfl) (by simp) (AllReadyH.cons rfl (fun K hK => ?_) AllReadyH.nil)
  go_simp
  refine (putText_any B v l key V.drew L0.out.own (Nat.le_trans HB.out L0.out.size) (by have := HK.out.key; dsimp only at this; omega) (by have := HT0.out; omega)).mono ?_
  rintro x w1 ⟨v1, rfl, l1⟩
  have HZ1 := Lib.hid (l1.at_ L0.out.own HZ.out (by decide))
  have L1 := Lib.hid (L0.out.on l1)
  clear l1
  try go_wp2_with fail
  refine hK.out _ _ ?_ (fun hHeld => ?_)
  · first | exact HZ2.out | exact HZ1.out
  clear hK K
  try simp only [Act.put, List.getElem_toArray, List.getElem_cons_succ, List.getElem_cons_zero, List.setIfInBounds_toArray, List.set_cons_zero, List.set_cons_succ]
  refine wpAnyH_ready (rs := [6]) (by kernel_rfl) (by simp) (AllReadyH.cons rfl (fun K hK => ?_) AllReadyH.nil)
  go_simp
  refine (putCell_any B v1 (l ++ tE key) ls ld la le w1 L1.out.own (Nat.le_trans HB.out L1.out.size) HK.out.live (by have := HK.out.val; dsimp only at this; omega) (by have := HT1.out; omega)).mono ?_
  rintro x w2 ⟨v2, rfl, l2⟩
  have HZ2 := Lib.hid (l2.at_ L1.out.own HZ1.out (by decide))
  have L2 := Lib.hid (L1.out.on l2)
  clear l2
  try go_wp2_with fail
  refine hK.out _ _ ?_ (fun hHeld => ?_)
  · first | exact HZ2.out | exact HZ1.out
  clear hK K
  try simp only [Act.put, List.getElem_toArray, List.getElem_cons_succ, List.getElem_cons_zero, List.setIfInBounds_toArray, List.set_cons_zero, List.set_cons_succ]
  refine takesH [7] ?_
  repeat
    refine takesH_one (v := ?_) ?_ ?_
    rotate_left
    · first | (refine Or.inr ⟨by rfl, ?_⟩; with_reducible rfl) | (refine Or.inl ⟨by rfl, ?_⟩; intro wx hSw; (try dsimp only at hSw); first | (go_simp; first | done | with_reducible rfl))
    try simp only [Act.put, List.getElem_toArray, List.getElem_cons_succ, List.getElem_cons_zero, List.setIfInBounds_toArray, List.set_cons_zero, List.set_cons_succ]
  refine takesH_nil ?_
  refine wpAnyH_done (by kernel_rfl) ?_ _
  go_wp2_with fail
  refine wp_region_held_drew (S := fun w' => w'.heap[w.heap.size]? = some (.cells #[.string key, .string ls, .bool ld, .int .i64 la, .int .i64 le, .int .i64 g, .int .i64 sh, .slice A n c] 61)) (by kernel_rfl) ?_ (fun hHeld => ?_)
  · exact HZ2.out
  refine takesH [0, 1, 2, 4, 5, 7, 8] ?_
  repeat
    refine takesH_one (v := ?_) ?_ ?_
    rotate_left
    · first | (refine Or.inr ⟨by rfl, ?_⟩; with_reducible rfl) | (refine Or.inl ⟨by rfl, ?_⟩; intro wx hSw; (try dsimp only at hSw); first | (go_simp; first | done | with_reducible rfl) | (have hc5 := cell_at (i := 5) hSw rfl; go_simp; first | done | with_reducible rfl) | (have hc6 := cell_at (i := 6) hSw rfl; go_simp; first | done | with_reducible rfl) | (have hc7 := cell_at (i := 7) hSw rfl; go_simp; first | done | with_reducible rfl))
    try simp only [Act.put, List.getElem_toArray, List.getElem_cons_succ, List.getElem_cons_zero, List.setIfInBounds_toArray, List.set_cons_zero, List.set_cons_succ]
  refine takesH_nil ?_
  refine wpAnyH_ready (rs := [3]) (by kernel_rfl) (by simp) (AllReadyH.cons rfl (fun K hK => ?_) AllReadyH.nil)
  go_simp
  refine (putNum_any B v2 (l ++ tE key ++ cE ⟨ls, ld, la, le⟩) g w2.drew L2.out.drew.own (Nat.le_trans HB.out L2.out.size) HK.out.gone.1 (by have := HK.out.gone.2; dsimp only at this; omega) (by have := HT2.out; omega)).mono ?_
  rintro x w3 ⟨v3, rfl, l3⟩
  have HZ3 := Lib.hid (l3.at_ L2.out.drew.own HZ2.out (by decide))
  have L3 := Lib.hid (L2.out.step l3)
  clear l3
  try go_wp2_with fail
  refine hK.out _ _ ?_ (fun hHeld => ?_)
  · first | exact HZ5.out | exact HZ4.out | exact HZ3.out
  clear hK K
  try simp only [Act.put, List.getElem_toArray, List.getElem_cons_succ, List.getElem_cons_zero, List.setIfInBounds_toArray, List.set_cons_zero, List.set_cons_succ]
  refine wpAnyH_ready (rs := [6]) (by kernel_rfl) (by simp) (AllReadyH.cons rfl (fun K hK => ?_) AllReadyH.nil)
  go_simp
  refine (putNum_any B v3 (l ++ tE key ++ cE ⟨ls, ld, la, le⟩ ++ numL g.toNat) sh w3 L3.out.own (Nat.le_trans HB.out L3.out.size) HK.out.shade.1 (by have := HK.out.shade.2; dsimp only at this; omega) (by have := HT3.out; omega)).mono ?_
  rintro x w4 ⟨v4, rfl, l4⟩
  have HZ4 := Lib.hid (l4.at_ L3.out.own HZ3.out (by decide))
  have L4 := Lib.hid (L3.out.on l4)
  clear l4
  try go_wp2_with fail
  refine hK.out _ _ ?_ (fun hHeld => ?_)
  · first | exact HZ5.out | exact HZ4.out | exact HZ3.out
  clear hK K
  try simp only [Act.put, List.getElem_toArray, List.getElem_cons_succ, List.getElem_cons_zero, List.setIfInBounds_toArray, List.set_cons_zero, List.set_cons_succ]
  refine wpAnyH_ready (rs := [9]) (by kernel_rfl) (by simp) (AllReadyH.cons rfl (fun K hK => ?_) AllReadyH.nil)
  go_simp
  refine (putCols_any B v4 (l ++ tE key ++ cE ⟨ls, ld, la, le⟩ ++ numL g.toNat ++ numL sh.toNat) A n c Bk Ks w4 L4.out.own (Nat.le_trans HB.out L4.out.size) (HR.out.below ((L4.out.base HO.out HB.out).mono HBK.out)) HBK.out HK.out.cols HNN.out HT4.out).mono ?_
  rintro x w5 ⟨v5, rfl, l5⟩
  have HZ5 := Lib.hid (l5.at_ L4.out.own HZ4.out (by decide))
  have L5 := Lib.hid (L4.out.on l5)
  clear l5
  try go_wp2_with fail
  refine hK.out _ _ ?_ (fun hHeld => ?_)
  · first | exact HZ5.out | exact HZ4.out | exact HZ3.out
  clear hK K
  try simp only [Act.put, List.getElem_toArray, List.getElem_cons_succ, List.getElem_cons_zero, List.setIfInBounds_toArray, List.set_cons_zero, List.set_cons_succ]
  refine takesH [10] ?_
  repeat
    refine takesH_one (v := ?_) ?_ ?_
    rotate_left
    · first | (refine Or.inr ⟨by rfl, ?_⟩; with_reducible rfl) | (refine Or.inl ⟨by rfl, ?_⟩; intro wx hSw; (try dsimp only at hSw); first | (go_simp; first | done | with_reducible rfl))
    try simp only [Act.put, List.getElem_toArray, List.getElem_cons_succ, List.getElem_cons_zero, List.setIfInBounds_toArray, List.set_cons_zero, List.set_cons_succ]
  refine takesH_nil ?_
  refine wpAnyH_done (by kernel_rfl) ?_ _
  go_wp2
  go_ret
  exact ⟨v5, rfl, L5.out⟩
theorem drop_rosP {L : List RA} {t : Nat} (h : t < L.length) : ros (L.drop t) = L[t].ro :: ros (L.drop (t + 1)) := by rw [List.drop_eq_getElem_cons h]; rfl
set_option maxRecDepth 8000 in
set_option maxHeartbeats 1000000 in
theorem putRows_any (B : Nat) (v : Value) (l : Bs) (A : Option Addr) (n c Bk : Nat) (L : List RA) (w : World) (h : OwnY B w v l) (hB : B ≤ w.heap.size) (hr : Lies w Bk A n c L) (hBk : Bk ≤ B) (hx : ∀ x ∈ L, RoS x.ro) (hn : n ≤ 1000000) (htot : (l ++ (numL n ++ (ros L).flatMap rE)).length ≤ 500000000) :
    Calls Try.prog 44 #[v, .slice A n c, .func (.func 47) #[] #[]] w (Lays B w v (l ++ (numL n ++ (ros L).flatMap rE))) := by
  have hl := hr.len
  obtain ⟨P, hP⟩ : ∃ P, l ++ (numL n ++ (ros L).flatMap rE) = P := ⟨_, rfl⟩
  obtain ⟨P0, hP0⟩ : ∃ X, l ++ numL n = X := ⟨_, rfl⟩
  rw [hP] at htot ⊢
  have hst : P0 ++ (ros (L.drop 0)).flatMap rE = P := by rw [← hP, ← hP0, List.drop_zero, List.append_assoc]
  have hl0 : l.length ≤ 500000000 := by have := congrArg List.length hP; rw [List.length_append] at this; omega
  have N := putNum_any B v l (n : Int) w h hB (by omega) (by omega) (by omega)
  rw [Int.toNat_natCast, hP0] at N
  have HN := Lib.hid N; have HB := Lib.hid hB; have HO := Lib.hid h; have HR := Lib.hid hr; have HX := Lib.hid hx; have HT := Lib.hid htot; have HL := Lib.hid hl; have HST := Lib.hid hst; have HBK := Lib.hid hBk; have HNN := Lib.hid hn
  clear N hB h hr hx htot hl hst hBk hP hP0 hl0 hn
  go_enter Try.func44, Try.ntmps44
  go_wp2_with fail
  refine (HN.out).mono ?_
  rintro e w1 ⟨v1, rfl, l1⟩
  have L1 := Lib.hid l1
  clear l1
  go_wp2_with fail
  go_loopw [0, 15] (fun b i wr => ∃ (t : Nat) (X : Bs) (b' : Value), t ≤ n ∧ i = .int .i64 t ∧ b' = b ∧ X ++ (ros (L.drop t)).flatMap rE = P ∧ Ly B w v wr b' X) (fun _ i _ => n - (intOf i).toNat)
  case atStart => exact ⟨0, P0, v1, Nat.zero_le _, rfl, rfl, HST.out, L1.out⟩
  case round =>
    obtain ⟨t, X, b, ht, rfl, rfl, hX, hly⟩ := hrel
    by_cases hlt : t < n
    · have i1 : (t : Int) < n := by omega
      have i0 : (0 : Int) ≤ t := by omega
      have i8 : n ≤ 1000000 := HNN.out
      have htl : t < L.length := by rw [HL.out]; exact hlt
      have hrd := HR.out.below ((hly.base HO.out HB.out).mono HBK.out)
      obtain ⟨g0, o0, rfl, hg0⟩ := hrd.rd.ex (by omega)
      have hrow := hrd.rd.row htl
      have hs := HX.out L[t] (List.getElem_mem htl)
      have hin := hrd.held L[t] (List.getElem_mem htl)
      rw [drop_rosP htl, List.flatMap_cons] at hX
      obtain ⟨x, hcx⟩ : ∃ y, L[t] = y := ⟨_, rfl⟩
      rw [hcx] at hrow hs hX hin
      have hxl : (X ++ rE x.ro).length ≤ 500000000 := by have := congrArg List.length hX; rw [← List.append_assoc, List.length_append] at this; have := HT.out; omega
      obtain ⟨_, _, _, _, _, _, _, _⟩ := hrow
      have ba := (Below.refl wr.heap.size wr).alloc (Nat.le_refl _) (.cells #[.string x.ro.key, .string x.ro.live.s, .bool x.ro.live.d, .int .i64 x.ro.live.a, .int .i64 x.ro.live.e, .int .i64 x.ro.gone, .int .i64 x.ro.shade, .slice x.A x.ro.cols.length x.c] 61)
      have lb := hly.below ba
      have HLB := Lib.hid lb; have HX3 := Lib.hid hX; have S1 := Lib.hid hs; have HXL := Lib.hid hxl
      have HIN := Lib.hid (RoIn.below hin (ba.mono (by have := HBK.out; have := HB.out; have := hly.size; omega)))
      clear hrd hX hxl hs ba lb hly hcx hin
      go_wp2_with fail
      refine (putRow_any B b X x.ro.key x.ro.live.s x.ro.live.d x.ro.live.a x.ro.live.e x.ro.gone x.ro.shade x.A x.ro.cols.length x.c Bk x.ro.cols _ HLB.out.own (Nat.le_trans HB.out HLB.out.size) HIN.out.rd HBK.out S1.out HXL.out).mono ?_
      rintro e w2 ⟨v2, rfl, l2⟩
      have L2 := Lib.hid (HLB.out.on l2)
      clear l2
      go_wp2
      go_roundw
      case rel => exact ⟨t + 1, X ++ rE x.ro, v2, by omega, by go_num, rfl, by rw [List.append_assoc]; exact HX3.out, L2.out⟩
      case measure => simp [intOf]; omega
    · obtain rfl : t = n := by omega
      rw [List.drop_of_length_le (by rw [HL.out]; exact Nat.le_refl _)] at hX
      have HLY := Lib.hid (hly.same (by rw [← hX]; simp : X = P))
      clear hX hly
      go_wp2
      go_ret
      exact ⟨b, rfl, HLY.out⟩
/-- A partition that is put. -/
structure PaS (k : ByteArray) (g : Int) (L : List RA) : Prop where
  key : k.size ≤ 1000000
  gone : Stm g
  len : L.length ≤ 1000000
  rows : ∀ x ∈ L, RoS x.ro
set_option maxRecDepth 8000 in
set_option maxHeartbeats 1000000 in
theorem putPart_any (B : Nat) (v : Value) (l : Bs) (k : ByteArray) (g : Int) (A : Option Addr) (n c Bk : Nat) (L : List RA) (w : World) (h : OwnY B w v l) (hB : B ≤ w.heap.size) (hr : Lies w Bk A n c L) (hBk : Bk ≤ B) (hs : PaS k g L) (htot : (l ++ pE ⟨k, g, ros L⟩).length ≤ 500000000) :
    Calls Try.prog 24 #[v, .agg #[.string k, .int .i64 g, .slice A n c]] w (Lays B w v (l ++ pE ⟨k, g, ros L⟩)) := by
  have hkn : L.length = n := hr.len
  have hnn : n ≤ 1000000 := by have := hs.len; omega
  have hE : l ++ pE ⟨k, g, ros L⟩ = l ++ tE k ++ numL g.toNat ++ (numL n ++ (ros L).flatMap rE) := by
    unfold pE
    dsimp only
    rw [List.length_map, hkn]
    simp only [List.append_assoc]
  rw [hE] at htot ⊢
  have ht4 := htot
  simp only [List.length_append] at ht4
  have HT4 := Lib.hid htot
  have HT1 : Hid ((l ++ tE k).length ≤ 500000000) := Lib.hid (by simp only [List.length_append]; omega)
  have HT0 : Hid (l.length ≤ 500000000) := Lib.hid (by omega)
  have bz := (Below.refl w.heap.size w).alloc (Nat.le_refl _) (.cells #[.string k, .int .i64 g, .slice A n c] 24)
  have hz := heap_alloc_new w (.cells #[.string k, .int .i64 g, .slice A n c] 24)
  have l0 := (Ly.refl h).below bz
  obtain ⟨V, hV⟩ : ∃ V, V = w.alloc (.cells #[.string k, .int .i64 g, .slice A n c] 24) := ⟨_, rfl⟩
  rw [← hV] at bz hz l0
  have L0 := Lib.hid l0.drew; have HZ := Lib.hid hz; have HB := Lib.hid hB; have HK := Lib.hid hs; have HO := Lib.hid h; have HR := Lib.hid hr; have HBK := Lib.hid hBk; have HNN := Lib.hid hnn
  clear bz hz l0 hB hs h htot ht4 hE hkn hr hBk hnn
  go_enter Try.func24, Try.ntmps24
  go_wp2_with fail
  rw [← hV]
  clear hV
  refine wp_region_held_drew (S := fun w' => w'.heap[w.heap.size]? = some (.cells #[.string k, .int .i64 g, .slice A n c] 24)) (by kernel_rfl) ?_ (fun hHeld => ?_)
  · exact HZ.out
  refine takesH [0, 1, 2, 4, 5, 7, 8] ?_
  repeat
    refine takesH_one (v := ?_) ?_ ?_
    rotate_left
    · first | (refine Or.inr ⟨by rfl, ?_⟩; with_reducible rfl) | (refine Or.inl ⟨by rfl, ?_⟩; intro wx hSw; (try dsimp only at hSw); first | (go_simp; first | done | with_reducible rfl) | (have hc0 := cell_at (i := 0) hSw rfl; go_simp; first | done | with_reducible rfl) | (have hc1 := cell_at (i := 1) hSw rfl; go_simp; first | done | with_reducible rfl) | (have hc2 := cell_at (i := 2) hSw rfl; go_simp; first | done | with_reducible rfl))
    try simp only [Act.put, List.getElem_toArray, List.getElem_cons_succ, List.getElem_cons_zero, List.setIfInBounds_toArray, List.set_cons_zero, List.set_cons_succ]
  refine takesH_nil ?_
  refine wpAnyH_ready (rs := [3]) (by kernel_rfl) (by simp) (AllReadyH.cons rfl (fun K hK => ?_) AllReadyH.nil)
  go_simp
  refine (putText_any B v l k V.drew L0.out.own (Nat.le_trans HB.out L0.out.size) (by have := HK.out.key; omega) (by have := HT0.out; omega)).mono ?_
  rintro x w1 ⟨v1, rfl, l1⟩
  have HZ1 := Lib.hid (l1.at_ L0.out.own HZ.out (by decide))
  have L1 := Lib.hid (L0.out.on l1)
  clear l1
  try go_wp2_with fail
  refine hK.out _ _ ?_ (fun hHeld => ?_)
  · first | exact HZ3.out | exact HZ2.out | exact HZ1.out
  clear hK K
  try simp only [Act.put, List.getElem_toArray, List.getElem_cons_succ, List.getElem_cons_zero, List.setIfInBounds_toArray, List.set_cons_zero, List.set_cons_succ]
  refine wpAnyH_ready (rs := [6]) (by kernel_rfl) (by simp) (AllReadyH.cons rfl (fun K hK => ?_) AllReadyH.nil)
  go_simp
  refine (putNum_any B v1 (l ++ tE k) g w1 L1.out.own (Nat.le_trans HB.out L1.out.size) HK.out.gone.1 (by have := HK.out.gone.2; omega) (by have := HT1.out; omega)).mono ?_
  rintro x w2 ⟨v2, rfl, l2⟩
  have HZ2 := Lib.hid (l2.at_ L1.out.own HZ1.out (by decide))
  have L2 := Lib.hid (L1.out.on l2)
  clear l2
  try go_wp2_with fail
  refine hK.out _ _ ?_ (fun hHeld => ?_)
  · first | exact HZ3.out | exact HZ2.out | exact HZ1.out
  clear hK K
  try simp only [Act.put, List.getElem_toArray, List.getElem_cons_succ, List.getElem_cons_zero, List.setIfInBounds_toArray, List.set_cons_zero, List.set_cons_succ]
  refine wpAnyH_ready (rs := [9]) (by kernel_rfl) (by simp) (AllReadyH.cons rfl (fun K hK => ?_) AllReadyH.nil)
  go_simp
  refine (putRows_any B v2 (l ++ tE k ++ numL g.toNat) A n c Bk L w2 L2.out.own (Nat.le_trans HB.out L2.out.size) (HR.out.below ((L2.out.base HO.out HB.out).mono HBK.out)) HBK.out HK.out.rows HNN.out HT4.out).mono ?_
  rintro x w3 ⟨v3, rfl, l3⟩
  have HZ3 := Lib.hid (l3.at_ L2.out.own HZ2.out (by decide))
  have L3 := Lib.hid (L2.out.on l3)
  clear l3
  try go_wp2_with fail
  refine hK.out _ _ ?_ (fun hHeld => ?_)
  · first | exact HZ3.out | exact HZ2.out | exact HZ1.out
  clear hK K
  try simp only [Act.put, List.getElem_toArray, List.getElem_cons_succ, List.getElem_cons_zero, List.setIfInBounds_toArray, List.set_cons_zero, List.set_cons_succ]
  refine takesH [10] ?_
  repeat
    refine takesH_one (v := ?_) ?_ ?_
    rotate_left
    · first | (refine Or.inr ⟨by rfl, ?_⟩; with_reducible rfl) | (refine Or.inl ⟨by rfl, ?_⟩; intro wx hSw; (try dsimp only at hSw); first | (go_simp; first | done | with_reducible rfl))
    try simp only [Act.put, List.getElem_toArray, List.getElem_cons_succ, List.getElem_cons_zero, List.setIfInBounds_toArray, List.set_cons_zero, List.set_cons_succ]
  refine takesH_nil ?_
  refine wpAnyH_done (by kernel_rfl) ?_ _
  go_wp2
  go_ret
  exact ⟨v3, rfl, L3.out⟩
end Go.Proofs.Ythfanonjokpflaa
