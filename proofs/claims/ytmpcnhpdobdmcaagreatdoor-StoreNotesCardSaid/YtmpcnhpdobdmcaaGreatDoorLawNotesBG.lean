import Derived.Test.YtmpcnhpdobdmcaaGreatDoorLawNotesU
import Derived.Test.YtmpcnhpdobdmcaaGreatDoorLawNotesBD
import Derived.Test.YtmpcnhpdobdmcaaGreatDoorLawNotesY
open Go.Lib (hid)
open List renaming getElem_toArray -> zq1,getElem_cons_succ -> zq2,getElem_cons_zero -> zq3,setIfInBounds_toArray -> zq4,set_cons_zero -> zq5,set_cons_succ -> zq6
set_option linter.unusedVariables false
set_option linter.unusedSimpArgs false
set_option maxHeartbeats 2000000
set_option maxRecDepth 8000
namespace Go.Proofs.YtmpcnhpdobdmcaaGreatDoor
open Go Go.RowKit
structure RoS (r : Ro) : Prop where
 key : r.key.size <= 1000000
 live : r.live.Gd
 val : r.live.s.size <= 1000000
 gone : Stm r.gone
 shade : Stm r.shade
 len : r.cols.length <= 1000000
 cols : ∀ x ∈ r.cols,ColS x
theorem Ly.step {B : Nat} {w w1 w2 : World} {v v1 v2 : Value} {l1 l2 : Bs} (h : Ly B w v w1 v1 l1) (h' : Ly B w1.drew v1 w2 v2 l2) : Ly B w v w2 v2 l2 := h.drew.on h'
theorem putRow_any (B : Nat) (v : Value) (l : Bs) (key ls : ByteArray) (ld : Bool) (la le g sh : Int) (A : Option Addr) (n c Bk : Nat) (Ks : Cols) (w : World) (h : OwnY B w v l) (hB : B <= w.heap.size) (hr : RdK w Bk A n Ks) (hBk : Bk <= B) (hs : RoS ⟨key,⟨ls,ld,la,le⟩,g,sh,Ks⟩) (htot : (l ++ rE ⟨key,⟨ls,ld,la,le⟩,g,sh,Ks⟩).length <= 500000000) :
    Calls Tryz.prog 223 #[v,.agg #[.string key,.string ls,.bool ld,.int .i64 la,.int .i64 le,.int .i64 g,.int .i64 sh,.slice A n c]] w (Lays B w v (l ++ rE ⟨key,⟨ls,ld,la,le⟩,g,sh,Ks⟩)) := by
 have hkn : Ks.length = n := hr.1
 have hnn : n <= 1000000 := by have := hs.len; dsimp only at this; omega
 have hE : l ++ rE ⟨key,⟨ls,ld,la,le⟩,g,sh,Ks⟩ = l ++ tE key ++ cE ⟨ls,ld,la,le⟩ ++ numL g.toNat ++ numL sh.toNat ++ (numL n ++ Ks.flatMap kE) := by
  unfold rE
  dsimp only
  rw [hkn]
  simp only [List.append_assoc]
 rw [hE] at htot ⊢
 have ht4 := htot
 simp only [List.length_append] at ht4
 have HT4 := hid htot
 have HT3 : Hid ((l ++ tE key ++ cE ⟨ls,ld,la,le⟩ ++ numL g.toNat).length <= 500000000) := hid (by simp only [List.length_append]; omega)
 have HT2 : Hid ((l ++ tE key ++ cE ⟨ls,ld,la,le⟩).length <= 500000000) := hid (by simp only [List.length_append]; omega)
 have HT1 : Hid ((l ++ tE key).length <= 500000000) := hid (by simp only [List.length_append]; omega)
 have HT0 : Hid (l.length <= 500000000) := hid (by omega)
 have bz := (Below.refl w.heap.size w).alloc (Nat.le_refl _) (.cells #[.string key,.string ls,.bool ld,.int .i64 la,.int .i64 le,.int .i64 g,.int .i64 sh,.slice A n c] 45)
 have hz := heap_alloc_new w (.cells #[.string key,.string ls,.bool ld,.int .i64 la,.int .i64 le,.int .i64 g,.int .i64 sh,.slice A n c] 45)
 have l0 := (Ly.refl h).below bz
 obtain ⟨V,hV⟩ : ∃ V,V = w.alloc (.cells #[.string key,.string ls,.bool ld,.int .i64 la,.int .i64 le,.int .i64 g,.int .i64 sh,.slice A n c] 45) := ⟨_,rfl⟩
 rw [<- hV] at bz hz l0
 have L0 := hid l0.drew; have HZ := hid hz; have HB := hid hB; have HK := hid hs; have HO := hid h; have HR := hid hr; have HBK := hid hBk; have HNN := hid hnn
 clear bz hz l0 hB hs h htot ht4 hE hkn hr hBk hnn
 go_enter Tryz.func223,Tryz.ntmps223
 go_wp2_with fail
 rw [<- hV]
 clear hV
 refine wp_region_held_drew (S := fun w' => w'.heap[w.heap.size]? = some (.cells #[.string key,.string ls,.bool ld,.int .i64 la,.int .i64 le,.int .i64 g,.int .i64 sh,.slice A n c] 45)) (by kernel_rfl) ?_ (fun hHeld => ?_)
 ·exact HZ.out
 refine takesH [0,1,2,4,5] ?_
 repeat
  refine takesH_one (v := ?_) ?_ ?_
  rotate_left
  ·first | (refine Or.inr ⟨by rfl,?_⟩; with_reducible rfl) | (refine Or.inl ⟨by rfl,?_⟩; intro wx hSw; (try dsimp only at hSw); first | (go_simp; first | done | with_reducible rfl) | (have hc0 := cell_at (i := 0) hSw rfl; go_simp; first | done | with_reducible rfl) | (have hc1 := cell_at (i := 1) hSw rfl; have hc2 := cell_at (i := 2) hSw rfl; have hc3 := cell_at (i := 3) hSw rfl; have hc4 := cell_at (i := 4) hSw rfl; go_simp; first | done | with_reducible rfl))
  try simp only [Act.put,zq1,zq2,zq3,zq4,zq5,zq6]
 refine takesH_nil ?_
 refine wpAnyH_ready (rs := [3]) (by kernel_rfl) (by simp) (AllReadyH.cons rfl (fun K hK => ?_) AllReadyH.nil)
 go_simp
 refine (putText_any B v l key V.drew L0.out.own (Nat.le_trans HB.out L0.out.size) (by have := HK.out.key; dsimp only at this; omega) (by have := HT0.out; omega)).mono ?_
 rintro x w1 ⟨v1,rfl,l1⟩
 have HZ1 := hid (l1.at_ L0.out.own HZ.out (by decide))
 have L1 := hid (L0.out.on l1)
 clear l1
 try go_wp2_with fail
 refine hK.out _ _ ?_ (fun hHeld => ?_)
 ·first | exact HZ2.out | exact HZ1.out
 clear hK K
 try simp only [Act.put,zq1,zq2,zq3,zq4,zq5,zq6]
 refine wpAnyH_ready (rs := [6]) (by kernel_rfl) (by simp) (AllReadyH.cons rfl (fun K hK => ?_) AllReadyH.nil)
 go_simp
 refine (putCell_any B v1 (l ++ tE key) ls ld la le w1 L1.out.own (Nat.le_trans HB.out L1.out.size) HK.out.live (by have := HK.out.val; dsimp only at this; omega) (by have := HT1.out; omega)).mono ?_
 rintro x w2 ⟨v2,rfl,l2⟩
 have HZ2 := hid (l2.at_ L1.out.own HZ1.out (by decide))
 have L2 := hid (L1.out.on l2)
 clear l2
 try go_wp2_with fail
 refine hK.out _ _ ?_ (fun hHeld => ?_)
 ·first | exact HZ2.out | exact HZ1.out
 clear hK K
 try simp only [Act.put,zq1,zq2,zq3,zq4,zq5,zq6]
 refine takesH [7] ?_
 repeat
  refine takesH_one (v := ?_) ?_ ?_
  rotate_left
  ·first | (refine Or.inr ⟨by rfl,?_⟩; with_reducible rfl) | (refine Or.inl ⟨by rfl,?_⟩; intro wx hSw; (try dsimp only at hSw); first | (go_simp; first | done | with_reducible rfl))
  try simp only [Act.put,zq1,zq2,zq3,zq4,zq5,zq6]
 refine takesH_nil ?_
 refine wpAnyH_done (by kernel_rfl) ?_ _
 go_wp2_with fail
 refine wp_region_held_drew (S := fun w' => w'.heap[w.heap.size]? = some (.cells #[.string key,.string ls,.bool ld,.int .i64 la,.int .i64 le,.int .i64 g,.int .i64 sh,.slice A n c] 45)) (by kernel_rfl) ?_ (fun hHeld => ?_)
 ·exact HZ2.out
 refine takesH [0,1,2,4,5,7,8] ?_
 repeat
  refine takesH_one (v := ?_) ?_ ?_
  rotate_left
  ·first | (refine Or.inr ⟨by rfl,?_⟩; with_reducible rfl) | (refine Or.inl ⟨by rfl,?_⟩; intro wx hSw; (try dsimp only at hSw); first | (go_simp; first | done | with_reducible rfl) | (have hc5 := cell_at (i := 5) hSw rfl; go_simp; first | done | with_reducible rfl) | (have hc6 := cell_at (i := 6) hSw rfl; go_simp; first | done | with_reducible rfl) | (have hc7 := cell_at (i := 7) hSw rfl; go_simp; first | done | with_reducible rfl))
  try simp only [Act.put,zq1,zq2,zq3,zq4,zq5,zq6]
 refine takesH_nil ?_
 refine wpAnyH_ready (rs := [3]) (by kernel_rfl) (by simp) (AllReadyH.cons rfl (fun K hK => ?_) AllReadyH.nil)
 go_simp
 refine (putNum_any B v2 (l ++ tE key ++ cE ⟨ls,ld,la,le⟩) g w2.drew L2.out.drew.own (Nat.le_trans HB.out L2.out.size) HK.out.gone.1 (by have := HK.out.gone.2; dsimp only at this; omega) (by have := HT2.out; omega)).mono ?_
 rintro x w3 ⟨v3,rfl,l3⟩
 have HZ3 := hid (l3.at_ L2.out.drew.own HZ2.out (by decide))
 have L3 := hid (L2.out.step l3)
 clear l3
 try go_wp2_with fail
 refine hK.out _ _ ?_ (fun hHeld => ?_)
 ·first | exact HZ5.out | exact HZ4.out | exact HZ3.out
 clear hK K
 try simp only [Act.put,zq1,zq2,zq3,zq4,zq5,zq6]
 refine wpAnyH_ready (rs := [6]) (by kernel_rfl) (by simp) (AllReadyH.cons rfl (fun K hK => ?_) AllReadyH.nil)
 go_simp
 refine (putNum_any B v3 (l ++ tE key ++ cE ⟨ls,ld,la,le⟩ ++ numL g.toNat) sh w3 L3.out.own (Nat.le_trans HB.out L3.out.size) HK.out.shade.1 (by have := HK.out.shade.2; dsimp only at this; omega) (by have := HT3.out; omega)).mono ?_
 rintro x w4 ⟨v4,rfl,l4⟩
 have HZ4 := hid (l4.at_ L3.out.own HZ3.out (by decide))
 have L4 := hid (L3.out.on l4)
 clear l4
 try go_wp2_with fail
 refine hK.out _ _ ?_ (fun hHeld => ?_)
 ·first | exact HZ5.out | exact HZ4.out | exact HZ3.out
 clear hK K
 try simp only [Act.put,zq1,zq2,zq3,zq4,zq5,zq6]
 refine wpAnyH_ready (rs := [9]) (by kernel_rfl) (by simp) (AllReadyH.cons rfl (fun K hK => ?_) AllReadyH.nil)
 go_simp
 refine (putCols_any B v4 (l ++ tE key ++ cE ⟨ls,ld,la,le⟩ ++ numL g.toNat ++ numL sh.toNat) A n c Bk Ks w4 L4.out.own (Nat.le_trans HB.out L4.out.size) (HR.out.below ((L4.out.base HO.out HB.out).mono HBK.out)) HBK.out HK.out.cols HNN.out HT4.out).mono ?_
 rintro x w5 ⟨v5,rfl,l5⟩
 have HZ5 := hid (l5.at_ L4.out.own HZ4.out (by decide))
 have L5 := hid (L4.out.on l5)
 clear l5
 try go_wp2_with fail
 refine hK.out _ _ ?_ (fun hHeld => ?_)
 ·first | exact HZ5.out | exact HZ4.out | exact HZ3.out
 clear hK K
 try simp only [Act.put,zq1,zq2,zq3,zq4,zq5,zq6]
 refine takesH [10] ?_
 repeat
  refine takesH_one (v := ?_) ?_ ?_
  rotate_left
  ·first | (refine Or.inr ⟨by rfl,?_⟩; with_reducible rfl) | (refine Or.inl ⟨by rfl,?_⟩; intro wx hSw; (try dsimp only at hSw); first | (go_simp; first | done | with_reducible rfl))
  try simp only [Act.put,zq1,zq2,zq3,zq4,zq5,zq6]
 refine takesH_nil ?_
 refine wpAnyH_done (by kernel_rfl) ?_ _
 go_wp2
 go_ret
 exact ⟨v5,rfl,L5.out⟩
theorem drop_rosP {L : List RA} {t : Nat} (h : t < L.length) : ros (L.drop t) = L[t].ro :: ros (L.drop (t + 1)) := by rw [List.drop_eq_getElem_cons h]; rfl
theorem putRows_any (B : Nat) (v : Value) (l : Bs) (A : Option Addr) (n c Bk : Nat) (L : List RA) (w : World) (h : OwnY B w v l) (hB : B <= w.heap.size) (hr : Lies w Bk A n c L) (hBk : Bk <= B) (hx : ∀ x ∈ L,RoS x.ro) (hn : n <= 1000000) (htot : (l ++ (numL n ++ (ros L).flatMap rE)).length <= 500000000) :
    Calls Tryz.prog 222 #[v,.slice A n c,.func (.func 223) #[] #[]] w (Lays B w v (l ++ (numL n ++ (ros L).flatMap rE))) := by
 have hl := hr.len
 obtain ⟨P,hP⟩ : ∃ P,l ++ (numL n ++ (ros L).flatMap rE) = P := ⟨_,rfl⟩
 obtain ⟨P0,hP0⟩ : ∃ X,l ++ numL n = X := ⟨_,rfl⟩
 rw [hP] at htot ⊢
 have hst : P0 ++ (ros (L.drop 0)).flatMap rE = P := by rw [<- hP,<- hP0,List.drop_zero,List.append_assoc]
 have hl0 : l.length <= 500000000 := by have := congrArg List.length hP; rw [List.length_append] at this; omega
 have N := putNum_any B v l (n : Int) w h hB (by omega) (by omega) (by omega)
 rw [Int.toNat_natCast,hP0] at N
 have HN := hid N; have HB := hid hB; have HO := hid h; have HR := hid hr; have HX := hid hx; have HT := hid htot; have HL := hid hl; have HST := hid hst; have HBK := hid hBk; have HNN := hid hn
 clear N hB h hr hx htot hl hst hBk hP hP0 hl0 hn
 go_enter Tryz.func222,Tryz.ntmps222
 go_wp2_with fail
 refine (HN.out).mono ?_
 rintro e w1 ⟨v1,rfl,l1⟩
 have L1 := hid l1
 clear l1
 go_wp2_with fail
 go_loopw [0,15] (fun b i wr => ∃ (t : Nat) (X : Bs) (b' : Value),t <= n /\ i = .int .i64 t /\ b' = b /\ X ++ (ros (L.drop t)).flatMap rE = P /\ Ly B w v wr b' X) (fun _ i _ => n - (intOf i).toNat)
 case atStart => exact ⟨0,P0,v1,Nat.zero_le _,rfl,rfl,HST.out,L1.out⟩
 case round =>
  obtain ⟨t,X,b,ht,rfl,rfl,hX,hly⟩ := hrel
  by_cases hlt : t < n
  ·have i1 : (t : Int) < n := by omega
   have i0 : (0 : Int) <= t := by omega
   have i8 : n <= 1000000 := HNN.out
   have htl : t < L.length := by rw [HL.out]; exact hlt
   have hrd := HR.out.below ((hly.base HO.out HB.out).mono HBK.out)
   obtain ⟨g0,o0,rfl,hg0⟩ := hrd.rd.ex (by omega)
   have hrow := hrd.rd.row htl
   have hs := HX.out L[t] (List.getElem_mem htl)
   have hin := hrd.held L[t] (List.getElem_mem htl)
   rw [drop_rosP htl,List.flatMap_cons] at hX
   obtain ⟨x,hcx⟩ : ∃ y,L[t] = y := ⟨_,rfl⟩
   rw [hcx] at hrow hs hX hin
   have hxl : (X ++ rE x.ro).length <= 500000000 := by have := congrArg List.length hX; rw [<- List.append_assoc,List.length_append] at this; have := HT.out; omega
   obtain ⟨_,_,_,_,_,_,_,_⟩ := hrow
   have ba := (Below.refl wr.heap.size wr).alloc (Nat.le_refl _) (.cells #[.string x.ro.key,.string x.ro.live.s,.bool x.ro.live.d,.int .i64 x.ro.live.a,.int .i64 x.ro.live.e,.int .i64 x.ro.gone,.int .i64 x.ro.shade,.slice x.A x.ro.cols.length x.c] 45)
   have lb := hly.below ba
   have HLB := hid lb; have HX3 := hid hX; have S1 := hid hs; have HXL := hid hxl
   have HIN := hid (RoIn.below hin (ba.mono (by have := HBK.out; have := HB.out; have := hly.size; omega)))
   clear hrd hX hxl hs ba lb hly hcx hin
   go_wp2_with fail
   refine (putRow_any B b X x.ro.key x.ro.live.s x.ro.live.d x.ro.live.a x.ro.live.e x.ro.gone x.ro.shade x.A x.ro.cols.length x.c Bk x.ro.cols _ HLB.out.own (Nat.le_trans HB.out HLB.out.size) HIN.out.rd HBK.out S1.out HXL.out).mono ?_
   rintro e w2 ⟨v2,rfl,l2⟩
   have L2 := hid (HLB.out.on l2)
   clear l2
   go_wp2
   go_roundw
   case rel => exact ⟨t + 1,X ++ rE x.ro,v2,by omega,by go_num,rfl,by rw [List.append_assoc]; exact HX3.out,L2.out⟩
   case measure => simp [intOf]; omega
  ·obtain rfl : t = n := by omega
   rw [List.drop_of_length_le (by rw [HL.out]; exact Nat.le_refl _)] at hX
   have HLY := hid (hly.same (by rw [<- hX]; simp : X = P))
   clear hX hly
   go_wp2
   go_ret
   exact ⟨b,rfl,HLY.out⟩
structure PaS (k : ByteArray) (g : Int) (L : List RA) : Prop where
 key : k.size <= 1000000
 gone : Stm g
 len : L.length <= 1000000
 rows : ∀ x ∈ L,RoS x.ro
theorem putPart_any (B : Nat) (v : Value) (l : Bs) (k : ByteArray) (g : Int) (A : Option Addr) (n c Bk : Nat) (L : List RA) (w : World) (h : OwnY B w v l) (hB : B <= w.heap.size) (hr : Lies w Bk A n c L) (hBk : Bk <= B) (hs : PaS k g L) (htot : (l ++ pE ⟨k,g,ros L⟩).length <= 500000000) :
    Calls Tryz.prog 182 #[v,.agg #[.string k,.int .i64 g,.slice A n c]] w (Lays B w v (l ++ pE ⟨k,g,ros L⟩)) := by
 have hkn : L.length = n := hr.len
 have hnn : n <= 1000000 := by have := hs.len; omega
 have hE : l ++ pE ⟨k,g,ros L⟩ = l ++ tE k ++ numL g.toNat ++ (numL n ++ (ros L).flatMap rE) := by
  unfold pE
  dsimp only
  rw [List.length_map,hkn]
  simp only [List.append_assoc]
 rw [hE] at htot ⊢
 have ht4 := htot
 simp only [List.length_append] at ht4
 have HT4 := hid htot
 have HT1 : Hid ((l ++ tE k).length <= 500000000) := hid (by simp only [List.length_append]; omega)
 have HT0 : Hid (l.length <= 500000000) := hid (by omega)
 have bz := (Below.refl w.heap.size w).alloc (Nat.le_refl _) (.cells #[.string k,.int .i64 g,.slice A n c] 33)
 have hz := heap_alloc_new w (.cells #[.string k,.int .i64 g,.slice A n c] 33)
 have l0 := (Ly.refl h).below bz
 obtain ⟨V,hV⟩ : ∃ V,V = w.alloc (.cells #[.string k,.int .i64 g,.slice A n c] 33) := ⟨_,rfl⟩
 rw [<- hV] at bz hz l0
 have L0 := hid l0.drew; have HZ := hid hz; have HB := hid hB; have HK := hid hs; have HO := hid h; have HR := hid hr; have HBK := hid hBk; have HNN := hid hnn
 clear bz hz l0 hB hs h htot ht4 hE hkn hr hBk hnn
 go_enter Tryz.func182,Tryz.ntmps182
 go_wp2_with fail
 rw [<- hV]
 clear hV
 refine wp_region_held_drew (S := fun w' => w'.heap[w.heap.size]? = some (.cells #[.string k,.int .i64 g,.slice A n c] 33)) (by kernel_rfl) ?_ (fun hHeld => ?_)
 ·exact HZ.out
 refine takesH [0,1,2,4,5,7,8] ?_
 repeat
  refine takesH_one (v := ?_) ?_ ?_
  rotate_left
  ·first | (refine Or.inr ⟨by rfl,?_⟩; with_reducible rfl) | (refine Or.inl ⟨by rfl,?_⟩; intro wx hSw; (try dsimp only at hSw); first | (go_simp; first | done | with_reducible rfl) | (have hc0 := cell_at (i := 0) hSw rfl; go_simp; first | done | with_reducible rfl) | (have hc1 := cell_at (i := 1) hSw rfl; go_simp; first | done | with_reducible rfl) | (have hc2 := cell_at (i := 2) hSw rfl; go_simp; first | done | with_reducible rfl))
  try simp only [Act.put,zq1,zq2,zq3,zq4,zq5,zq6]
 refine takesH_nil ?_
 refine wpAnyH_ready (rs := [3]) (by kernel_rfl) (by simp) (AllReadyH.cons rfl (fun K hK => ?_) AllReadyH.nil)
 go_simp
 refine (putText_any B v l k V.drew L0.out.own (Nat.le_trans HB.out L0.out.size) (by have := HK.out.key; omega) (by have := HT0.out; omega)).mono ?_
 rintro x w1 ⟨v1,rfl,l1⟩
 have HZ1 := hid (l1.at_ L0.out.own HZ.out (by decide))
 have L1 := hid (L0.out.on l1)
 clear l1
 try go_wp2_with fail
 refine hK.out _ _ ?_ (fun hHeld => ?_)
 ·first | exact HZ3.out | exact HZ2.out | exact HZ1.out
 clear hK K
 try simp only [Act.put,zq1,zq2,zq3,zq4,zq5,zq6]
 refine wpAnyH_ready (rs := [6]) (by kernel_rfl) (by simp) (AllReadyH.cons rfl (fun K hK => ?_) AllReadyH.nil)
 go_simp
 refine (putNum_any B v1 (l ++ tE k) g w1 L1.out.own (Nat.le_trans HB.out L1.out.size) HK.out.gone.1 (by have := HK.out.gone.2; omega) (by have := HT1.out; omega)).mono ?_
 rintro x w2 ⟨v2,rfl,l2⟩
 have HZ2 := hid (l2.at_ L1.out.own HZ1.out (by decide))
 have L2 := hid (L1.out.on l2)
 clear l2
 try go_wp2_with fail
 refine hK.out _ _ ?_ (fun hHeld => ?_)
 ·first | exact HZ3.out | exact HZ2.out | exact HZ1.out
 clear hK K
 try simp only [Act.put,zq1,zq2,zq3,zq4,zq5,zq6]
 refine wpAnyH_ready (rs := [9]) (by kernel_rfl) (by simp) (AllReadyH.cons rfl (fun K hK => ?_) AllReadyH.nil)
 go_simp
 refine (putRows_any B v2 (l ++ tE k ++ numL g.toNat) A n c Bk L w2 L2.out.own (Nat.le_trans HB.out L2.out.size) (HR.out.below ((L2.out.base HO.out HB.out).mono HBK.out)) HBK.out HK.out.rows HNN.out HT4.out).mono ?_
 rintro x w3 ⟨v3,rfl,l3⟩
 have HZ3 := hid (l3.at_ L2.out.own HZ2.out (by decide))
 have L3 := hid (L2.out.on l3)
 clear l3
 try go_wp2_with fail
 refine hK.out _ _ ?_ (fun hHeld => ?_)
 ·first | exact HZ3.out | exact HZ2.out | exact HZ1.out
 clear hK K
 try simp only [Act.put,zq1,zq2,zq3,zq4,zq5,zq6]
 refine takesH [10] ?_
 repeat
  refine takesH_one (v := ?_) ?_ ?_
  rotate_left
  ·first | (refine Or.inr ⟨by rfl,?_⟩; with_reducible rfl) | (refine Or.inl ⟨by rfl,?_⟩; intro wx hSw; (try dsimp only at hSw); first | (go_simp; first | done | with_reducible rfl))
  try simp only [Act.put,zq1,zq2,zq3,zq4,zq5,zq6]
 refine takesH_nil ?_
 refine wpAnyH_done (by kernel_rfl) ?_ _
 go_wp2
 go_ret
 exact ⟨v3,rfl,L3.out⟩
theorem ce_sizeD {c : Ce} (h : c.ok = true) : c.s.size <= 100 := by
 unfold Ce.ok at h
 split at h
 ·rw [(same_iff _ _).1 h]; simp [ByteArray.size]
 ·split at h
  ·cases h
  ·split at h
   ·rw [(same_iff _ _).1 h]; simp [ByteArray.size]
   ·simp only [Bool.and_eq_true,decide_eq_true_iff] at h
    exact h.1
theorem roS_of {r : Ro} (h : r.ok = true) : RoS r := by
 have hg := Ro.gd_of h
 have hc := cols_each h
 unfold Ro.ok liveB at h
 simp only [Bool.and_eq_true,decide_eq_true_iff] at h
 refine ⟨by omega,hg.2.1,?_,hg.2.2.1,hg.2.2.2.1,by omega,fun x hx => ?_⟩
 ·have := ce_sizeD h.2.1.1; omega
 ·have h1 := hc x hx
  unfold colB nameB at h1
  simp only [Bool.and_eq_true,decide_eq_true_iff] at h1
  have := ce_sizeD h1.2.1
  exact ⟨by omega,Ce.gd_of h1.2.1,by omega⟩
theorem paS_of {k : ByteArray} {g : Int} {L : List RA} (h : Pa.ok ⟨k,g,ros L⟩ = true) : PaS k g L := by
 obtain ⟨hk1,hk2,hk3,hk4⟩ := Pa.ok_of h
 have hgd := Pa.gd_of h
 simp only [List.length_map] at hk3
 dsimp only at hk1
 exact ⟨by omega,hgd.2.1,by omega,fun x hx => roS_of (rowsB_each hk4 x.ro (List.mem_map.2 ⟨x,hx,rfl⟩))⟩
def GivesP (w : World) (r : Except Int Bs) (e : Ending) (w' : World) : Prop := match r with
 | .ok b => ∃ A n c,e = .returned (.tuple #[.slice A n c,.int .i64 0]) /\ b.length = n /\ n <= c /\ c <= maxLen /\ (A = none -> c = 0) /\ w'.ownsRow w.heap.size 5 1 (.slice A n c) n (Lib.byteCells b) /\ Below w.heap.size w w'
 | .error x => e = .returned (.tuple #[.slice none 0 0,.int .i64 x]) /\ Below w.heap.size w w'
theorem OwnY.base {b b' : Nat} {w : World} {v : Value} {l : Bs} (h : OwnY b w v l) (hb : b' <= b) : OwnY b' w v l := own_down h hb
def paOf (x : PA) : Pa := ⟨x.k,x.g,ros x.L⟩
def pas (L : List PA) : List Pa := L.map paOf
def bsB (l : Bs) : ByteArray := ⟨l.toArray⟩
theorem tE_bsB (l : Bs) : tE (bsB l) = numL l.length ++ l := rfl
theorem bsB_size (l : Bs) : (bsB l).size = l.length := rfl
theorem Rd.of_own1 {w : World} {base n : Nat} {A : Option Addr} {c : Nat} {l : Bs} (h : w.ownsRow base 5 1 (.slice A n c) n (Lib.byteCells l)) : Rd w w.heap.size A n l := by
 obtain ⟨A',c',e,_,_,_,h4⟩ := Rd.of_own h
 injection e with e1 e2 e3
 subst e1
 exact h4
theorem putMut_any (B : Nat) (v : Value) (l : Bs) (tb k : ByteArray) (g : Int) (A : Option Addr) (n c Bk : Nat) (L : List RA) (w : World) (h : OwnY B w v l) (hB : B <= w.heap.size) (hr : Lies w Bk A n c L) (hBk : Bk <= B) (htb : tb.size <= 1000000) (hs : PaS k g L) (htot : (l ++ mE (tb,⟨k,g,ros L⟩)).length <= 400000000) :
    Calls Tryz.prog 139 #[v,.agg #[.string tb,.string k,.int .i64 g,.slice A n c]] w (Lays B w v (l ++ mE (tb,⟨k,g,ros L⟩))) := by
 obtain ⟨P,hP⟩ : ∃ P,pE ⟨k,g,ros L⟩ = P := ⟨_,rfl⟩
 have hE : l ++ mE (tb,⟨k,g,ros L⟩) = l ++ tE tb ++ tE (bsB P) := by
  unfold mE
  dsimp only
  rw [hP,tE_bsB,List.append_assoc]
 rw [hE] at htot ⊢
 have ht4 := htot
 simp only [List.length_append] at ht4
 have hpl : (pE ⟨k,g,ros L⟩).length <= 400000000 := by rw [hP]; rw [tE_bsB,List.length_append] at ht4; omega
 have HT1 : Hid ((l ++ tE tb).length <= 500000000) := hid (by simp only [List.length_append]; omega)
 have HT0 : Hid (l.length <= 500000000) := hid (by omega)
 have bz := (Below.refl w.heap.size w).alloc (Nat.le_refl _) (.cells #[.string tb,.string k,.int .i64 g,.slice A n c] 35)
 have hz := heap_alloc_new w (.cells #[.string tb,.string k,.int .i64 g,.slice A n c] 35)
 have l0 := (Ly.refl h).below bz
 obtain ⟨V,hV⟩ : ∃ V,V = w.alloc (.cells #[.string tb,.string k,.int .i64 g,.slice A n c] 35) := ⟨_,rfl⟩
 rw [<- hV] at bz hz l0
 have L0 := hid l0.drew; have HZ := hid hz; have HB := hid hB; have HK := hid hs; have HO := hid h; have HR := hid hr; have HBK := hid hBk; have HTB := hid htb; have HPL := hid hpl; have HPP := hid hP
 clear bz hz l0 hB hs h htot ht4 hE hr hBk htb hpl hP
 go_enter Tryz.func139,Tryz.ntmps139
 go_wp2_with fail
 rw [<- hV]
 clear hV
 refine wp_region_held_drew (S := fun w' => w'.heap[w.heap.size]? = some (.cells #[.string tb,.string k,.int .i64 g,.slice A n c] 35 (0,0))) (by kernel_rfl) ?_ (fun hHeld => ?_)
 ·exact HZ.out
 refine takesH [0,1,2,4,5] ?_
 repeat
  refine takesH_one (v := ?_) ?_ ?_
  rotate_left
  ·first | (refine Or.inr ⟨by rfl,?_⟩; with_reducible rfl) | (refine Or.inl ⟨by rfl,?_⟩; intro wx hSw; (try dsimp only at hSw); first | (go_simp; first | done | with_reducible rfl) | (have hc0 := cell_at (i := 0) hSw rfl; go_simp; first | done | with_reducible rfl) | (have hc1 := cell_at (i := 1) hSw rfl; have hc2 := cell_at (i := 2) hSw rfl; have hc3 := cell_at (i := 3) hSw rfl; go_simp; first | done | with_reducible rfl))
  try simp only [Act.put,zq1,zq2,zq3,zq4,zq5,zq6]
 refine takesH_nil ?_
 refine wpAnyH_ready (rs := [3]) (by kernel_rfl) (by simp) (AllReadyH.cons rfl (fun K hK => ?_) AllReadyH.nil)
 go_simp
 refine (putText_any B v l tb V.drew L0.out.own (Nat.le_trans HB.out L0.out.size) (by have := HTB.out; omega) (by have := HT0.out; omega)).mono ?_
 rintro x w1 ⟨v1,rfl,l1⟩
 have HZ1 := hid (l1.at_ L0.out.own HZ.out (by decide))
 have L1 := hid (L0.out.on l1)
 clear l1
 try go_wp2_with fail
 refine hK.out _ _ ?_ (fun hHeld => ?_)
 ·first | exact HZ3.out | exact HZ2.out | exact HZ1.out
 clear hK K
 try simp only [Act.put,zq1,zq2,zq3,zq4,zq5,zq6]
 refine wpAnyH_ready (rs := [6]) (by kernel_rfl) (by simp) (AllReadyH.cons rfl (fun K hK => ?_) AllReadyH.nil)
 go_simp
 refine (putPart_any w1.heap.size (.slice none 0 0) [] k g A n c Bk L w1 (own_nilY _ _) (Nat.le_refl _) (HR.out.below ((L1.out.base HO.out HB.out).mono HBK.out)) (by have := HBK.out; have := HB.out; have := L1.out.size; omega) HK.out (by rw [List.nil_append]; have := HPL.out; omega)).mono ?_
 rintro x w2 ⟨v2,rfl,l2⟩
 have hb2 := l2.base (own_nilY _ _) (Nat.le_refl _)
 have HZ2 := hid ((hb2.block _ (Array.getElem?_eq_some_iff.1 HZ1.out).1).trans HZ1.out)
 have L2 := hid (L1.out.below hb2)
 have ho2 := l2.own
 rw [List.nil_append,HPP.out] at ho2
 obtain ⟨A2,n2,c2,rfl,hl2,_,_,_,ho2⟩ := ho2.slice
 have hcv := cv_string (Rd.of_own1 ho2) c2
 clear l2 hb2
 try go_wp2_with fail
 refine hK.out _ _ ?_ (fun hHeld => ?_)
 ·first | exact HZ3.out | exact HZ2.out | exact HZ1.out
 clear hK K
 try simp only [Act.put,zq1,zq2,zq3,zq4,zq5,zq6]
 refine wpAnyH_ready (rs := [7]) (by kernel_rfl) (by simp) (AllReadyH.cons rfl (fun K hK => ?_) AllReadyH.nil)
 go_simp
 refine hK.out _ _ ?_ (fun hHeld => ?_)
 ·exact HZ2.out
 clear hK K
 try simp only [Act.put,zq1,zq2,zq3,zq4,zq5,zq6]
 refine wpAnyH_ready (rs := [8]) (by kernel_rfl) (by simp) (AllReadyH.cons rfl (fun K hK => ?_) AllReadyH.nil)
 go_simp
 refine (putText_any B v1 (l ++ tE tb) (bsB P) w2 L2.out.own (Nat.le_trans HB.out L2.out.size) (by rw [bsB_size]; have := HPL.out; rw [HPP.out] at this; omega) (by have := HT1.out; omega)).mono ?_
 rintro x w3 ⟨v3,rfl,l3⟩
 have HZ3 := hid (l3.at_ L2.out.own HZ2.out (by decide))
 have L3 := hid (L2.out.on l3)
 clear l3
 try go_wp2_with fail
 refine hK.out _ _ ?_ (fun hHeld => ?_)
 ·first | exact HZ3.out | exact HZ2.out | exact HZ1.out
 clear hK K
 try simp only [Act.put,zq1,zq2,zq3,zq4,zq5,zq6]
 refine takesH [9] ?_
 repeat
  refine takesH_one (v := ?_) ?_ ?_
  rotate_left
  ·first | (refine Or.inr ⟨by rfl,?_⟩; with_reducible rfl) | (refine Or.inl ⟨by rfl,?_⟩; intro wx hSw; (try dsimp only at hSw); first | (go_simp; first | done | with_reducible rfl))
  try simp only [Act.put,zq1,zq2,zq3,zq4,zq5,zq6]
 refine takesH_nil ?_
 refine wpAnyH_done (by kernel_rfl) ?_ _
 go_wp2
 go_ret
 exact ⟨v3,rfl,L3.out⟩
theorem putNote_any (B : Nat) (v : Value) (l : Bs) (i : Int) (s : ByteArray) (w : World) (h : OwnY B w v l) (hB : B <= w.heap.size) (hi : Stm i) (hs : s.size <= 1000000) (hl : l.length <= 500000000) :
    Calls Tryz.prog 142 #[v,.agg #[.int .i64 i,.string s]] w (Lays B w v (l ++ aE (i,s))) := by
 have hE : l ++ aE (i,s) = l ++ numL i.toNat ++ tE s := by
  unfold aE
  rw [List.append_assoc]
 rw [hE]
 have hnl : (numL i.toNat).length <= 9 := stm_num hi
 have HT1 : Hid ((l ++ numL i.toNat).length <= 500000009) := hid (by simp only [List.length_append]; omega)
 have HT0 : Hid (l.length <= 500000000) := hid (by omega)
 have bz := (Below.refl w.heap.size w).alloc (Nat.le_refl _) (.cells #[.int .i64 i,.string s] 57)
 have hz := heap_alloc_new w (.cells #[.int .i64 i,.string s] 57)
 have l0 := (Ly.refl h).below bz
 obtain ⟨V,hV⟩ : ∃ V,V = w.alloc (.cells #[.int .i64 i,.string s] 57) := ⟨_,rfl⟩
 rw [<- hV] at bz hz l0
 have L0 := hid l0.drew; have HZ := hid hz; have HB := hid hB; have HI := hid hi; have HS := hid hs
 clear bz hz l0 hB hs h hE hl hi hnl
 go_enter Tryz.func142,Tryz.ntmps142
 go_wp2_with fail
 rw [<- hV]
 clear hV
 refine wp_region_held_drew (S := fun w' => w'.heap[w.heap.size]? = some (.cells #[.int .i64 i,.string s] 57 (0,0))) (by kernel_rfl) ?_ (fun hHeld => ?_)
 ·exact HZ.out
 refine takesH [0,1,2,4,5] ?_
 repeat
  refine takesH_one (v := ?_) ?_ ?_
  rotate_left
  ·first | (refine Or.inr ⟨by rfl,?_⟩; with_reducible rfl) | (refine Or.inl ⟨by rfl,?_⟩; intro wx hSw; (try dsimp only at hSw); first | (go_simp; first | done | with_reducible rfl) | (have hc0 := cell_at (i := 0) hSw rfl; go_simp; first | done | with_reducible rfl) | (have hc1 := cell_at (i := 1) hSw rfl; go_simp; first | done | with_reducible rfl))
  try simp only [Act.put,zq1,zq2,zq3,zq4,zq5,zq6]
 refine takesH_nil ?_
 refine wpAnyH_ready (rs := [3]) (by kernel_rfl) (by simp) (AllReadyH.cons rfl (fun K hK => ?_) AllReadyH.nil)
 go_simp
 refine (putNum_any B v l i V.drew L0.out.own (Nat.le_trans HB.out L0.out.size) HI.out.1 (by have := HI.out.2; omega) (by have := HT0.out; omega)).mono ?_
 rintro x w1 ⟨v1,rfl,l1⟩
 have HZ1 := hid (l1.at_ L0.out.own HZ.out (by decide))
 have L1 := hid (L0.out.on l1)
 clear l1
 try go_wp2_with fail
 refine hK.out _ _ ?_ (fun hHeld => ?_)
 ·first | exact HZ2.out | exact HZ1.out
 clear hK K
 try simp only [Act.put,zq1,zq2,zq3,zq4,zq5,zq6]
 refine wpAnyH_ready (rs := [6]) (by kernel_rfl) (by simp) (AllReadyH.cons rfl (fun K hK => ?_) AllReadyH.nil)
 go_simp
 refine (putText_any B v1 (l ++ numL i.toNat) s w1 L1.out.own (Nat.le_trans HB.out L1.out.size) (by have := HS.out; omega) (by have := HT1.out; omega)).mono ?_
 rintro x w2 ⟨v2,rfl,l2⟩
 have HZ2 := hid (l2.at_ L1.out.own HZ1.out (by decide))
 have L2 := hid (L1.out.on l2)
 clear l2
 try go_wp2_with fail
 refine hK.out _ _ ?_ (fun hHeld => ?_)
 ·first | exact HZ2.out | exact HZ1.out
 clear hK K
 try simp only [Act.put,zq1,zq2,zq3,zq4,zq5,zq6]
 refine takesH [7] ?_
 repeat
  refine takesH_one (v := ?_) ?_ ?_
  rotate_left
  ·first | (refine Or.inr ⟨by rfl,?_⟩; with_reducible rfl) | (refine Or.inl ⟨by rfl,?_⟩; intro wx hSw; (try dsimp only at hSw); first | (go_simp; first | done | with_reducible rfl))
  try simp only [Act.put,zq1,zq2,zq3,zq4,zq5,zq6]
 refine takesH_nil ?_
 refine wpAnyH_done (by kernel_rfl) ?_ _
 go_wp2
 go_ret
 exact ⟨v2,rfl,L2.out⟩
structure LiesM (w : World) (B : Nat) (A : Option Addr) (n c : Nat) (L : List MA) : Prop where
 rd : RdM w B A n L
 parts : ∀ x ∈ L,Lies w B x.p.A x.p.L.length x.p.c x.p.L
 cap : n <= c
theorem LiesM.below {w w' : World} {B n c : Nat} {A : Option Addr} {L : List MA} (h : LiesM w B A n c L) (hb : Below B w w') : LiesM w' B A n c L := ⟨h.rd.below hb,fun x hx => (h.parts x hx).below hb,h.cap⟩
theorem LiesM.up {w : World} {B B' n c : Nat} {A : Option Addr} {L : List MA} (h : LiesM w B A n c L) (hB : B <= B') : LiesM w B' A n c L := ⟨h.rd.up hB,fun x hx => (h.parts x hx).up hB,h.cap⟩
def mutOf (x : MA) : ByteArray × Pa := (x.tb,⟨x.p.k,x.p.g,ros x.p.L⟩)
abbrev muts (L : List MA) : List (ByteArray × Pa) := L.map mutOf
theorem drop_muts {L : List MA} {t : Nat} (h : t < L.length) : muts (L.drop t) = mutOf L[t] :: muts (L.drop (t + 1)) := by rw [List.drop_eq_getElem_cons h]; rfl
def MuS (x : MA) : Prop := x.tb.size <= 1000000 /\ PaS x.p.k x.p.g x.p.L
def NoS (x : NA) : Prop := Stm x.1 /\ x.2.size <= 1000000
theorem putMuts_any (B : Nat) (v : Value) (l : Bs) (A : Option Addr) (n c Bk : Nat) (L : List MA) (w : World) (h : OwnY B w v l) (hB : B <= w.heap.size) (hr : LiesM w Bk A n c L) (hBk : Bk <= B) (hx : ∀ x ∈ L,MuS x) (hn : n <= 1000000) (htot : (l ++ (numL n ++ (muts L).flatMap mE)).length <= 400000000) :
    Calls Tryz.prog 138 #[v,.slice A n c,.func (.func 139) #[] #[]] w (Lays B w v (l ++ (numL n ++ (muts L).flatMap mE))) := by
 have hl := hr.rd.1
 obtain ⟨P,hP⟩ : ∃ P,l ++ (numL n ++ (muts L).flatMap mE) = P := ⟨_,rfl⟩
 obtain ⟨P0,hP0⟩ : ∃ X,l ++ numL n = X := ⟨_,rfl⟩
 rw [hP] at htot ⊢
 have hst : P0 ++ (muts (L.drop 0)).flatMap mE = P := by rw [<- hP,<- hP0,List.drop_zero,List.append_assoc]
 have hl0 : l.length <= 400000000 := by have := congrArg List.length hP; rw [List.length_append] at this; omega
 have N := putNum_any B v l (n : Int) w h hB (by omega) (by omega) (by omega)
 rw [Int.toNat_natCast,hP0] at N
 have HN := hid N; have HB := hid hB; have HO := hid h; have HR := hid hr; have HX := hid hx; have HT := hid htot; have HL := hid hl; have HST := hid hst; have HBK := hid hBk; have HNN := hid hn
 clear N hB h hr hx htot hl hst hBk hP hP0 hl0 hn
 go_enter Tryz.func138,Tryz.ntmps138
 go_wp2_with fail
 refine (HN.out).mono ?_
 rintro e w1 ⟨v1,rfl,l1⟩
 have L1 := hid l1
 clear l1
 go_wp2_with fail
 go_loopw [0,15] (fun b i wr => ∃ (t : Nat) (X : Bs) (b' : Value),t <= n /\ i = .int .i64 t /\ b' = b /\ X ++ (muts (L.drop t)).flatMap mE = P /\ Ly B w v wr b' X) (fun _ i _ => n - (intOf i).toNat)
 case atStart => exact ⟨0,P0,v1,Nat.zero_le _,rfl,rfl,HST.out,L1.out⟩
 case round =>
  obtain ⟨t,X,b,ht,rfl,rfl,hX,hly⟩ := hrel
  by_cases hlt : t < n
  ·have i1 : (t : Int) < n := by omega
   have i0 : (0 : Int) <= t := by omega
   have i8 : n <= 1000000 := HNN.out
   have htl : t < L.length := by rw [HL.out]; exact hlt
   have hrd := HR.out.below ((hly.base HO.out HB.out).mono HBK.out)
   obtain ⟨g0,o0,rfl,hg0⟩ := hrd.rd.ex (by omega)
   have hcol := hrd.rd.part htl
   have hs := HX.out L[t] (List.getElem_mem htl)
   have hin := hrd.parts L[t] (List.getElem_mem htl)
   rw [drop_muts htl,List.flatMap_cons] at hX
   obtain ⟨x,hcx⟩ : ∃ y,L[t] = y := ⟨_,rfl⟩
   rw [hcx] at hcol hs hX hin
   have hxl : (X ++ mE (mutOf x)).length <= 400000000 := by have := congrArg List.length hX; rw [<- List.append_assoc,List.length_append] at this; have := HT.out; omega
   obtain ⟨_,_,_,_⟩ := hcol
   have ba := (Below.refl wr.heap.size wr).alloc (Nat.le_refl _) (.cells #[.string x.tb,.string x.p.k,.int .i64 x.p.g,.slice x.p.A x.p.L.length x.p.c] 35)
   have lb := hly.below ba
   have HLB := hid lb; have HX3 := hid hX; have S1 := hid hs; have HXL := hid hxl
   have HIN := hid (Lies.below hin (ba.mono (by have := HBK.out; have := HB.out; have := hly.size; omega)))
   clear hrd hX hxl hs lb hly hcx hin ba
   go_wp2_with fail
   refine (putMut_any B b X x.tb x.p.k x.p.g x.p.A x.p.L.length x.p.c Bk x.p.L _ HLB.out.own (Nat.le_trans HB.out HLB.out.size) HIN.out HBK.out S1.out.1 S1.out.2 HXL.out).mono ?_
   rintro e w2 ⟨v2,rfl,l2⟩
   have L2 := hid (HLB.out.on l2)
   clear l2
   go_wp2
   go_roundw
   case rel => exact ⟨t + 1,X ++ mE (mutOf x),v2,by omega,by go_num,rfl,by rw [List.append_assoc]; exact HX3.out,L2.out⟩
   case measure => simp [intOf]; omega
  ·obtain rfl : t = n := by omega
   rw [List.drop_of_length_le (by rw [HL.out]; exact Nat.le_refl _)] at hX
   have HLY := hid (hly.same (by rw [<- hX]; simp [muts] : X = P))
   clear hX hly
   go_wp2
   go_ret
   exact ⟨b,rfl,HLY.out⟩
theorem putNotes_any (B : Nat) (v : Value) (l : Bs) (A : Option Addr) (n c Bk : Nat) (L : List NA) (w : World) (h : OwnY B w v l) (hB : B <= w.heap.size) (hr : RdN w Bk A n L) (hBk : Bk <= B) (hx : ∀ x ∈ L,NoS x) (hn : n <= 1000000) (htot : (l ++ (numL n ++ L.flatMap aE)).length <= 400000000) :
    Calls Tryz.prog 141 #[v,.slice A n c,.func (.func 142) #[] #[]] w (Lays B w v (l ++ (numL n ++ L.flatMap aE))) := by
 have hl := hr.1
 obtain ⟨P,hP⟩ : ∃ P,l ++ (numL n ++ L.flatMap aE) = P := ⟨_,rfl⟩
 obtain ⟨P0,hP0⟩ : ∃ X,l ++ numL n = X := ⟨_,rfl⟩
 rw [hP] at htot ⊢
 have hst : P0 ++ (L.drop 0).flatMap aE = P := by rw [<- hP,<- hP0,List.drop_zero,List.append_assoc]
 have hl0 : l.length <= 400000000 := by have := congrArg List.length hP; rw [List.length_append] at this; omega
 have N := putNum_any B v l (n : Int) w h hB (by omega) (by omega) (by omega)
 rw [Int.toNat_natCast,hP0] at N
 have HN := hid N; have HB := hid hB; have HO := hid h; have HR := hid hr; have HX := hid hx; have HT := hid htot; have HL := hid hl; have HST := hid hst; have HBK := hid hBk; have HNN := hid hn
 clear N hB h hr hx htot hl hst hBk hP hP0 hl0 hn
 go_enter Tryz.func141,Tryz.ntmps141
 go_wp2_with fail
 refine (HN.out).mono ?_
 rintro e w1 ⟨v1,rfl,l1⟩
 have L1 := hid l1
 clear l1
 go_wp2_with fail
 go_loopw [0,15] (fun b i wr => ∃ (t : Nat) (X : Bs) (b' : Value),t <= n /\ i = .int .i64 t /\ b' = b /\ X ++ (L.drop t).flatMap aE = P /\ Ly B w v wr b' X) (fun _ i _ => n - (intOf i).toNat)
 case atStart => exact ⟨0,P0,v1,Nat.zero_le _,rfl,rfl,HST.out,L1.out⟩
 case round =>
  obtain ⟨t,X,b,ht,rfl,rfl,hX,hly⟩ := hrel
  by_cases hlt : t < n
  ·have i1 : (t : Int) < n := by omega
   have i0 : (0 : Int) <= t := by omega
   have i8 : n <= 1000000 := HNN.out
   have htl : t < L.length := by rw [HL.out]; exact hlt
   have hrd := HR.out.below ((hly.base HO.out HB.out).mono HBK.out)
   obtain ⟨g0,o0,rfl,hg0⟩ := hrd.ex (by omega)
   have hcol := hrd.part htl
   have hs := HX.out L[t] (List.getElem_mem htl)
   rw [List.drop_eq_getElem_cons htl,List.flatMap_cons] at hX
   obtain ⟨x,hcx⟩ : ∃ y,L[t] = y := ⟨_,rfl⟩
   rw [hcx] at hcol hs hX
   have hxl : (X ++ aE x).length <= 400000000 := by have := congrArg List.length hX; rw [<- List.append_assoc,List.length_append] at this; have := HT.out; omega
   obtain ⟨_,_⟩ := hcol
   have ba := (Below.refl wr.heap.size wr).alloc (Nat.le_refl _) (.cells #[.int .i64 x.1,.string x.2] 57)
   have lb := hly.below ba
   have HLB := hid lb; have HX3 := hid hX; have S1 := hid hs; have HXL := hid hxl
   clear hrd hX hxl hs lb hly hcx ba
   go_wp2_with fail
   refine (putNote_any B b X x.1 x.2 _ HLB.out.own (Nat.le_trans HB.out HLB.out.size) S1.out.1 S1.out.2 (by have := HXL.out; rw [List.length_append] at this; omega)).mono ?_
   rintro e w2 ⟨v2,rfl,l2⟩
   have L2 := hid (HLB.out.on l2)
   clear l2
   go_wp2
   go_roundw
   case rel => exact ⟨t + 1,X ++ aE x,v2,by omega,by go_num,rfl,by rw [List.append_assoc]; exact HX3.out,L2.out⟩
   case measure => simp [intOf]; omega
  ·obtain rfl : t = n := by omega
   rw [List.drop_of_length_le (by rw [HL.out]; exact Nat.le_refl _)] at hX
   have HLY := hid (hly.same (by rw [<- hX]; simp : X = P))
   clear hX hly
   go_wp2
   go_ret
   exact ⟨b,rfl,HLY.out⟩
theorem putInts_any (B : Nat) (v : Value) (l : Bs) (A : Option Addr) (n c Bk : Nat) (L : List Int) (w : World) (h : OwnY B w v l) (hB : B <= w.heap.size) (hr : RdZ w Bk A n L) (hBk : Bk <= B) (hx : ∀ x ∈ L,Stm x) (hn : n <= 1000000) (htot : (l ++ (numL n ++ L.flatMap (fun v : Int => numL v.toNat))).length <= 400000000) :
    Calls Tryz.prog 140 #[v,.slice A n c,.func (.func 143) #[] #[]] w (Lays B w v (l ++ (numL n ++ L.flatMap (fun v : Int => numL v.toNat)))) := by
 have hl := hr.1
 obtain ⟨P,hP⟩ : ∃ P,l ++ (numL n ++ L.flatMap (fun v : Int => numL v.toNat)) = P := ⟨_,rfl⟩
 obtain ⟨P0,hP0⟩ : ∃ X,l ++ numL n = X := ⟨_,rfl⟩
 rw [hP] at htot ⊢
 have hst : P0 ++ (L.drop 0).flatMap (fun v : Int => numL v.toNat) = P := by rw [<- hP,<- hP0,List.drop_zero,List.append_assoc]
 have hl0 : l.length <= 400000000 := by have := congrArg List.length hP; rw [List.length_append] at this; omega
 have N := putNum_any B v l (n : Int) w h hB (by omega) (by omega) (by omega)
 rw [Int.toNat_natCast,hP0] at N
 have HN := hid N; have HB := hid hB; have HO := hid h; have HR := hid hr; have HX := hid hx; have HT := hid htot; have HL := hid hl; have HST := hid hst; have HBK := hid hBk; have HNN := hid hn
 clear N hB h hr hx htot hl hst hBk hP hP0 hl0 hn
 go_enter Tryz.func140,Tryz.ntmps140
 go_wp2_with fail
 refine (HN.out).mono ?_
 rintro e w1 ⟨v1,rfl,l1⟩
 have L1 := hid l1
 clear l1
 go_wp2_with fail
 go_loopw [0,15] (fun b i wr => ∃ (t : Nat) (X : Bs) (b' : Value),t <= n /\ i = .int .i64 t /\ b' = b /\ X ++ (L.drop t).flatMap (fun v : Int => numL v.toNat) = P /\ Ly B w v wr b' X) (fun _ i _ => n - (intOf i).toNat)
 case atStart => exact ⟨0,P0,v1,Nat.zero_le _,rfl,rfl,HST.out,L1.out⟩
 case round =>
  obtain ⟨t,X,b,ht,rfl,rfl,hX,hly⟩ := hrel
  by_cases hlt : t < n
  ·have i1 : (t : Int) < n := by omega
   have i0 : (0 : Int) <= t := by omega
   have i8 : n <= 1000000 := HNN.out
   have htl : t < L.length := by rw [HL.out]; exact hlt
   have hrd := HR.out.below ((hly.base HO.out HB.out).mono HBK.out)
   obtain ⟨g0,o0,rfl,hg0,hc⟩ := hrd.2 (by omega)
   have hcol := hc t htl
   have hs := HX.out L[t] (List.getElem_mem htl)
   rw [List.drop_eq_getElem_cons htl,List.flatMap_cons] at hX
   obtain ⟨x,hcx⟩ : ∃ y,L[t] = y := ⟨_,rfl⟩
   rw [hcx] at hcol hs hX
   have hxl : (X ++ numL x.toNat).length <= 400000000 := by have := congrArg List.length hX; rw [<- List.append_assoc,List.length_append] at this; have := HT.out; omega
   have lb := hly
   have HLB := hid lb; have HX3 := hid hX; have S1 := hid hs; have HXL := hid hxl
   clear hrd hX hxl hs lb hly hcx hc
   go_wp2_with fail
   refine (putNum_any B b X x _ HLB.out.own (Nat.le_trans HB.out HLB.out.size) S1.out.1 (by have := S1.out.2; omega) (by have := HXL.out; rw [List.length_append] at this; omega)).mono ?_
   rintro e w2 ⟨v2,rfl,l2⟩
   have L2 := hid (HLB.out.on l2)
   clear l2
   go_wp2
   go_roundw
   case rel => exact ⟨t + 1,X ++ numL x.toNat,v2,by omega,by go_num,rfl,by rw [List.append_assoc]; exact HX3.out,L2.out⟩
   case measure => simp [intOf]; omega
  ·obtain rfl : t = n := by omega
   rw [List.drop_of_length_le (by rw [HL.out]; exact Nat.le_refl _)] at hX
   have HLY := hid (hly.same (by rw [<- hX]; simp : X = P))
   clear hX hly
   go_wp2
   go_ret
   exact ⟨b,rfl,HLY.out⟩
structure BA where
 AM : Option Addr
 cM : Nat
 M : List MA
 AN : Option Addr
 cN : Nat
 N : List NA
 AD : Option Addr
 cD : Nat
 D : List Int
def BA.bt (x : BA) : Bt := ⟨muts x.M,x.N,x.D⟩
structure LiesB (w : World) (B : Nat) (x : BA) : Prop where
 muts : LiesM w B x.AM x.M.length x.cM x.M
 notes : RdN w B x.AN x.N.length x.N
 drops : RdZ w B x.AD x.D.length x.D
 capN : x.N.length <= x.cN
 capD : x.D.length <= x.cD
theorem LiesB.below {w w' : World} {B : Nat} {x : BA} (h : LiesB w B x) (hb : Below B w w') : LiesB w' B x := ⟨h.muts.below hb,h.notes.below hb,h.drops.below hb,h.capN,h.capD⟩
structure BtS (x : BA) : Prop where
 muts : ∀ y ∈ x.M,MuS y
 notes : ∀ y ∈ x.N,NoS y
 drops : ∀ y ∈ x.D,Stm y
 lm : x.M.length <= 1000000
 ln : x.N.length <= 1000000
 ld : x.D.length <= 1000000
theorem putBatch_any (B : Nat) (v : Value) (l : Bs) (AM AN AD : Option Addr) (m cM n cN d cD Bk : Nat) (M : List MA) (N : List NA) (D : List Int) (w : World) (h : OwnY B w v l) (hB : B <= w.heap.size) (hr : LiesM w Bk AM m cM M /\ RdN w Bk AN n N /\ RdZ w Bk AD d D) (hBk : Bk <= B)
    (hs : (∀ y ∈ M,MuS y) /\ (∀ y ∈ N,NoS y) /\ ∀ y ∈ D,Stm y) (hln : m <= 1000000 /\ n <= 1000000 /\ d <= 1000000) (htot : (l ++ bE ⟨muts M,N,D⟩).length <= 400000000) :
    Calls Tryz.prog 86 #[v,.agg #[.slice AM m cM,.slice AN n cN,.slice AD d cD]] w (Lays B w v (l ++ bE ⟨muts M,N,D⟩)) := by
 have e1 : (muts M).length = m := by rw [List.length_map]; exact hr.1.rd.1
 have e2 : N.length = n := hr.2.1.1
 have e3 : D.length = d := hr.2.2.1
 have hE : l ++ bE ⟨muts M,N,D⟩ = l ++ (numL m ++ (muts M).flatMap mE) ++ (numL n ++ N.flatMap aE) ++ (numL d ++ D.flatMap fun v => numL v.toNat) := by
  unfold bE
  dsimp only
  rw [e1,e2,e3]
  simp only [List.append_assoc]
 rw [hE] at htot ⊢
 have ht4 := htot
 simp only [List.length_append] at ht4
 have HT2 := hid htot
 have HT1 : Hid ((l ++ (numL m ++ (muts M).flatMap mE) ++ (numL n ++ N.flatMap aE)).length <= 400000000) := hid (by simp only [List.length_append]; omega)
 have HT0 : Hid ((l ++ (numL m ++ (muts M).flatMap mE)).length <= 400000000) := hid (by simp only [List.length_append]; omega)
 have bz := (Below.refl w.heap.size w).alloc (Nat.le_refl _) (.cells #[.slice AM m cM,.slice AN n cN,.slice AD d cD] 40)
 have hz := heap_alloc_new w (.cells #[.slice AM m cM,.slice AN n cN,.slice AD d cD] 40)
 have l0 := (Ly.refl h).below bz
 obtain ⟨V,hV⟩ : ∃ V,V = w.alloc (.cells #[.slice AM m cM,.slice AN n cN,.slice AD d cD] 40) := ⟨_,rfl⟩
 rw [<- hV] at bz hz l0
 have hc0 := cell_at (i := 0) hz rfl
 have L0 := hid l0; have HZ := hid hz; have HB := hid hB; have HO := hid h; have HR := hid hr; have HBK := hid hBk; have HS := hid hs; have HLN := hid hln
 clear bz hz l0 hB hs h htot ht4 hE hr hBk hln e1 e2 e3
 go_enter Tryz.func86,Tryz.ntmps86
 go_wp2_with fail
 rw [<- hV]
 clear hV
 refine (putMuts_any B v l AM m cM Bk M V L0.out.own (Nat.le_trans HB.out L0.out.size) (HR.out.1.below ((L0.out.base HO.out HB.out).mono HBK.out)) HBK.out HS.out.1 HLN.out.1 HT0.out).mono ?_
 rintro e w1 ⟨v1,rfl,l1⟩
 have HZ1 := hid (l1.at_ L0.out.own HZ.out (by decide))
 have L1 := hid (L0.out.on l1)
 clear l1 hc0
 go_wp2_with fail
 refine wp_region_held_drew (S := fun w' => w'.heap[w.heap.size]? = some (.cells #[.slice AM m cM,.slice AN n cN,.slice AD d cD] 40 (0,0))) (by kernel_rfl) ?_ (fun hHeld => ?_)
 ·exact HZ1.out
 refine takesH [0,1,2,4,5] ?_
 repeat
  refine takesH_one (v := ?_) ?_ ?_
  rotate_left
  ·first | (refine Or.inr ⟨by rfl,?_⟩; with_reducible rfl) | (refine Or.inl ⟨by rfl,?_⟩; intro wx hSw; (try dsimp only at hSw); first | (go_simp; first | done | with_reducible rfl) | (have hc1 := cell_at (i := 1) hSw rfl; go_simp; first | done | with_reducible rfl) | (have hc2 := cell_at (i := 2) hSw rfl; go_simp; first | done | with_reducible rfl))
  try simp only [Act.put,zq1,zq2,zq3,zq4,zq5,zq6]
 refine takesH_nil ?_
 refine wpAnyH_ready (rs := [3]) (by kernel_rfl) (by simp) (AllReadyH.cons rfl (fun K hK => ?_) AllReadyH.nil)
 go_simp
 refine (putNotes_any B v1 (l ++ (numL m ++ (Go.Proofs.YtmpcnhpdobdmcaaGreatDoor.muts M).flatMap mE)) AN n cN Bk N w1.drew L1.out.drew.own (Nat.le_trans HB.out L1.out.size) (HR.out.2.1.below ((L1.out.drew.base HO.out HB.out).mono HBK.out)) HBK.out HS.out.2.1 HLN.out.2.1 HT1.out).mono ?_
 rintro x w2 ⟨v2,rfl,l2⟩
 have HZ2 := hid (l2.at_ L1.out.drew.own HZ1.out (by decide))
 have L2 := hid (L1.out.step l2)
 clear l2
 try go_wp2_with fail
 refine hK.out _ _ ?_ (fun hHeld => ?_)
 ·first | exact HZ3.out | exact HZ2.out
 clear hK K
 try simp only [Act.put,zq1,zq2,zq3,zq4,zq5,zq6]
 refine wpAnyH_ready (rs := [6]) (by kernel_rfl) (by simp) (AllReadyH.cons rfl (fun K hK => ?_) AllReadyH.nil)
 go_simp
 refine (putInts_any B v2 (l ++ (numL m ++ (Go.Proofs.YtmpcnhpdobdmcaaGreatDoor.muts M).flatMap mE) ++ (numL n ++ N.flatMap aE)) AD d cD Bk D w2 L2.out.own (Nat.le_trans HB.out L2.out.size) (HR.out.2.2.below ((L2.out.base HO.out HB.out).mono HBK.out)) HBK.out HS.out.2.2 HLN.out.2.2 HT2.out).mono ?_
 rintro x w3 ⟨v3,rfl,l3⟩
 have HZ3 := hid (l3.at_ L2.out.own HZ2.out (by decide))
 have L3 := hid (L2.out.on l3)
 clear l3
 try go_wp2_with fail
 refine hK.out _ _ ?_ (fun hHeld => ?_)
 ·first | exact HZ3.out | exact HZ2.out
 clear hK K
 try simp only [Act.put,zq1,zq2,zq3,zq4,zq5,zq6]
 refine takesH [7] ?_
 repeat
  refine takesH_one (v := ?_) ?_ ?_
  rotate_left
  ·first | (refine Or.inr ⟨by rfl,?_⟩; with_reducible rfl) | (refine Or.inl ⟨by rfl,?_⟩; intro wx hSw; (try dsimp only at hSw); first | (go_simp; first | done | with_reducible rfl))
  try simp only [Act.put,zq1,zq2,zq3,zq4,zq5,zq6]
 refine takesH_nil ?_
 refine wpAnyH_done (by kernel_rfl) ?_ _
 go_wp2
 go_ret
 exact ⟨v3,rfl,L3.out⟩
theorem id_any (x : Int) (w : World) : Calls Tryz.prog 121 #[.int .i64 x] w fun e w' => e = .returned (.bool (dropB x)) /\ Below w.heap.size w w' := by
 by_cases h1 : 1 <= x
 ·have e1 : decide (1 <= x) = true := decide_eq_true h1
  by_cases h2 : x <= 1099511627776
  ·have e2 : decide (x <= 1099511627776) = true := decide_eq_true h2
   have hv : dropB x = true := by unfold dropB; rw [e1,e2]; rfl
   rw [hv]
   clear hv
   go_enter Tryz.func121,Tryz.ntmps121
   go_wp2
   go_ret
   exact ⟨rfl,Below.refl _ _⟩
  ·have e2 : decide (x <= 1099511627776) = false := decide_eq_false h2
   have hv : dropB x = false := by unfold dropB; rw [e1,e2]; rfl
   rw [hv]
   clear hv
   go_enter Tryz.func121,Tryz.ntmps121
   go_wp2
   go_ret
   exact ⟨rfl,Below.refl _ _⟩
 ·have e1 : decide (1 <= x) = false := decide_eq_false h1
  have hv : dropB x = false := by unfold dropB; rw [e1]; rfl
  rw [hv]
  clear hv
  go_enter Tryz.func121,Tryz.ntmps121
  go_wp2
  go_ret
  exact ⟨rfl,Below.refl _ _⟩
theorem note_any (i : Int) (s : ByteArray) (w : World) (hs : s.size <= maxLen) : Calls Tryz.prog 119 #[.agg #[.int .i64 i,.string s]] w fun e w' => e = .returned (.bool (addB (i,s))) /\ Below w.heap.size w w' := by
 have hv : addB (i,s) = (dropB i && decide (s.size <= 4096)) := by unfold addB dropB; rw [Bool.and_assoc]
 rw [hv]
 have bz := (Below.refl w.heap.size w).alloc (Nat.le_refl _) (.cells #[.int .i64 i,.string s] 57)
 have hz := heap_alloc_new w (.cells #[.int .i64 i,.string s] 57)
 obtain ⟨V,hV⟩ : ∃ V,V = w.alloc (.cells #[.int .i64 i,.string s] 57) := ⟨_,rfl⟩
 rw [<- hV] at bz hz
 have hc0 := cell_at (i := 0) hz rfl
 have HZ := hid hz; have BZ := hid bz
 obtain ⟨u,hu⟩ : ∃ u,dropB i = u := ⟨_,rfl⟩
 have HU := hid hu
 rw [hu]
 clear hz bz hv hu
 go_enter Tryz.func119,Tryz.ntmps119
 go_wp2_with fail
 rw [<- hV]
 clear hV
 refine (id_any i V).mono ?_
 rintro e w1 ⟨rfl,b1⟩
 rw [HU.out]
 have hz1 := (b1.block _ (Array.getElem?_eq_some_iff.1 HZ.out).1).trans HZ.out
 have B1 := hid (next BZ.out b1)
 have hc1 := cell_at (i := 1) hz1 rfl
 clear hz1 b1 hc0
 cases u with
 | false =>
   go_wp2
   go_ret
   exact ⟨rfl,B1.out⟩
 | true =>
   by_cases h4 : s.size <= 4096
   ·have e1 : decide (s.size <= 4096) = true := decide_eq_true h4
    have e2 : decide ((s.size : Int) <= 4096) = true := decide_eq_true (by omega)
    go_wp2
    go_ret
    exact ⟨by rw [e1]; rfl,B1.out⟩
   ·have e1 : decide (s.size <= 4096) = false := decide_eq_false h4
    have e2 : decide ((s.size : Int) <= 4096) = false := decide_eq_false (by omega)
    go_wp2
    go_ret
    exact ⟨by rw [e1]; rfl,B1.out⟩
theorem mut_any (tb k : ByteArray) (g : Int) (A : Option Addr) (n c B : Nat) (L : List RA) (w : World) (hr : Lies w B A n c L) (hB : B <= w.heap.size) (htb : tb.size <= 1099511627776) (hn : n <= 1000000000) (hf : FewR L) :
    Calls Tryz.prog 117 #[.agg #[.string tb,.string k,.int .i64 g,.slice A n c]] w fun e w' => e = .returned (.bool (mutB (tb,⟨k,g,ros L⟩))) /\ Below w.heap.size w w' := by
 have bz := (Below.refl w.heap.size w).alloc (Nat.le_refl _) (.cells #[.string tb,.string k,.int .i64 g,.slice A n c] 35)
 have hz := heap_alloc_new w (.cells #[.string tb,.string k,.int .i64 g,.slice A n c] 35)
 obtain ⟨V,hV⟩ : ∃ V,V = w.alloc (.cells #[.string tb,.string k,.int .i64 g,.slice A n c] 35) := ⟨_,rfl⟩
 rw [<- hV] at bz hz
 have hc0 := cell_at (i := 0) hz rfl
 have HZ := hid hz; have BZ := hid bz; have HR := hid hr; have HF := hid hf; have HB := hid hB; have HN := hid hn
 obtain ⟨u,hu⟩ : ∃ u,nameB tb = u := ⟨_,rfl⟩
 obtain ⟨u2,hu2⟩ : ∃ u,Pa.ok ⟨k,g,ros L⟩ = u := ⟨_,rfl⟩
 have hv : mutB (tb,⟨k,g,ros L⟩) = (u && u2) := by unfold mutB; rw [hu,hu2]
 have HU := hid hu; have HU2 := hid hu2
 rw [hv]
 clear hz bz hv hu hu2 hr hf hB hn
 go_enter Tryz.func117,Tryz.ntmps117
 go_wp2_with fail
 rw [<- hV]
 clear hV
 refine (name_any tb V htb).mono ?_
 rintro e w1 ⟨rfl,b1⟩
 rw [HU.out]
 have hz1 := (b1.block _ (Array.getElem?_eq_some_iff.1 HZ.out).1).trans HZ.out
 have B1 := hid (next BZ.out b1)
 have hc1 := cell_at (i := 1) hz1 rfl
 have hc2 := cell_at (i := 2) hz1 rfl
 have hc3 := cell_at (i := 3) hz1 rfl
 clear hz1 b1 hc0
 cases u with
 | false =>
   go_wp2
   go_ret
   exact ⟨rfl,B1.out⟩
 | true =>
   go_wp2_with fail
   refine (pcheck_any k g A n c B L w1 (HR.out.below (B1.out.mono HB.out)) (Nat.le_trans HB.out B1.out.size) HN.out HF.out).mono ?_
   rintro e w2 ⟨rfl,b2⟩
   rw [HU2.out]
   have B2 := hid (next B1.out b2)
   clear b2
   go_wp2
   go_ret
   exact ⟨rfl,B2.out⟩
theorem all_no {α : Type} {p : α -> Bool} {L : List α} {t : Nat} (h : t < L.length) : p L[t] = false -> L.all p = false := fun hp => by
 rw [List.all_eq_false]
 exact ⟨L[t],List.getElem_mem h,by rw [hp]; simp⟩
theorem all_yes {α : Type} {p : α -> Bool} {L : List α} {t : Nat} (h : t < L.length) (ha : (L.take t).all p = true) : p L[t] = true -> (L.take (t + 1)).all p = true := fun hp => by
 rw [List.take_succ_eq_append_getElem h,List.all_append,ha,Bool.true_and]
 simp [hp]
def MuF (x : MA) : Prop := x.tb.size <= 1099511627776 /\ x.p.L.length <= 1000000000 /\ FewR x.p.L
theorem list_muts (A : Option Addr) (n c B m : Nat) (L : List MA) (w : World) (hr : LiesM w B A n c L) (hB : B <= w.heap.size) (hx : ∀ x ∈ L,MuF x) (hn : n <= 1000000) (hm : m <= 1000000) :
    Calls Tryz.prog 116 #[.slice A n c,.int .i64 (m : Nat),.func (.func 117) #[] #[]] w fun e w' => e = .returned (.bool (decide (n <= m) && L.all (fun x : MA => mutB (mutOf x)))) /\ Below w.heap.size w w' := by
 have hl := hr.rd.1
 by_cases h0 : n <= m
 ·have d1 : decide ((m : Int) < (n : Int)) = false := by simp; omega
  have d2 : decide (m < n) = false := by simp; omega
  obtain ⟨r,hr0⟩ : ∃ r,L.all (fun x : MA => mutB (mutOf x)) = r := ⟨_,rfl⟩
  rw [decide_eq_true h0,Bool.true_and,hr0]
  have HR0 := hid hr0; have HR := hid hr; have HB := hid hB; have HX := hid hx; have HL := hid hl; have HNN := hid hn
  clear hr0 hr hB hx hl hn hm h0
  go_enter Tryz.func116,Tryz.ntmps116
  go_wp2_with fail
  go_loopw [15] (fun i wr => ∃ (t : Nat),t <= n /\ i = .int .i64 t /\ (L.take t).all (fun x : MA => mutB (mutOf x)) = true /\ Below w.heap.size w wr) (fun i _ => n - (intOf i).toNat)
  case atStart => exact ⟨0,Nat.zero_le _,rfl,rfl,Below.refl _ _⟩
  case round =>
   obtain ⟨t,ht,rfl,hall,hb⟩ := hrel
   by_cases hlt : t < n
   ·have i1 : (t : Int) < n := by omega
    have i0 : (0 : Int) <= t := by omega
    have i8 : n <= 1000000 := HNN.out
    have htl : t < L.length := by rw [HL.out]; exact hlt
    have hrd := HR.out.below (hb.mono HB.out)
    obtain ⟨g0,o0,rfl,hg0⟩ := hrd.rd.ex (by omega)
    have hcol := hrd.rd.part htl
    have hs := HX.out L[t] (List.getElem_mem htl)
    have hin := hrd.parts L[t] (List.getElem_mem htl)
    have hno := all_no (p := (fun x : MA => mutB (mutOf x))) htl
    have hyes := all_yes (p := (fun x : MA => mutB (mutOf x))) htl hall
    obtain ⟨x,hcx⟩ : ∃ y,L[t] = y := ⟨_,rfl⟩
    rw [hcx] at hcol hno hyes hin
    try rw [hcx] at hs
    obtain ⟨u,hu⟩ : ∃ u,mutB (x.tb,⟨x.p.k,x.p.g,ros x.p.L⟩) = u := ⟨_,rfl⟩
    have hno : u = false -> L.all (fun x : MA => mutB (mutOf x)) = false := fun e => hno (hu.trans e)
    have hyes : u = true -> (L.take (t + 1)).all (fun x : MA => mutB (mutOf x)) = true := fun e => hyes (hu.trans e)
    obtain ⟨_,_,_,_⟩ := hcol
    have ba := (Below.refl wr.heap.size wr).alloc (Nat.le_refl _) (.cells #[.string x.tb,.string x.p.k,.int .i64 x.p.g,.slice x.p.A x.p.L.length x.p.c] 35)
    have hb2 := hb.trans (ba.mono hb.size)
    have HB2 := hid hb2; have S1 := hid hs; have HU : Hid (mutB (x.tb,⟨x.p.k,x.p.g,ros x.p.L⟩) = u) := hid hu; have HNO := hid hno; have HYES := hid hyes
    have HIN := hid (Lies.below hin (ba.mono (by have := HB.out; have := hb.size; omega)))
    clear hrd hs hb hall hb2 hno hyes hu hcx hin ba
    go_wp2_with fail
    refine (mut_any x.tb x.p.k x.p.g x.p.A x.p.L.length x.p.c B x.p.L _ HIN.out (Nat.le_trans HB.out HB2.out.size) S1.out.1 S1.out.2.1 S1.out.2.2).mono ?_
    rintro e w2 ⟨rfl,b2⟩
    rw [HU.out]
    have B2 := hid (next HB2.out b2)
    clear b2
    cases u with
    | false =>
      have hrf : r = false := HR0.out.symm.trans (HNO.out rfl)
      subst hrf
      go_wp2
      go_ret
      exact ⟨rfl,B2.out⟩
    | true =>
      go_wp2
      go_roundw
      case rel => exact ⟨t + 1,by omega,by go_num,HYES.out (by simp),B2.out⟩
      case measure => simp [intOf]; omega
   ·obtain rfl : t = n := by omega
    rw [List.take_of_length_le (by rw [HL.out]; exact Nat.le_refl _)] at hall
    have hrt : r = true := HR0.out.symm.trans hall
    subst hrt
    have HBB := hid hb
    clear hall hb
    go_wp2
    go_ret
    exact ⟨rfl,HBB.out⟩
 ·have d1 : decide ((m : Int) < (n : Int)) = true := by simp; omega
  have d2 : decide (m < n) = true := by simp; omega
  rw [decide_eq_false h0,Bool.false_and]
  clear hr hB hx hl hn hm h0
  go_enter Tryz.func116,Tryz.ntmps116
  go_wp2
  go_ret
  exact ⟨rfl,Below.refl _ _⟩
theorem list_notes (A : Option Addr) (n c B m : Nat) (L : List NA) (w : World) (hr : RdN w B A n L) (hB : B <= w.heap.size) (hx : ∀ x ∈ L,x.2.size <= maxLen) (hn : n <= 1000000) (hm : m <= 1000000) :
    Calls Tryz.prog 118 #[.slice A n c,.int .i64 (m : Nat),.func (.func 119) #[] #[]] w fun e w' => e = .returned (.bool (decide (n <= m) && L.all addB)) /\ Below w.heap.size w w' := by
 have hl := hr.1
 by_cases h0 : n <= m
 ·have d1 : decide ((m : Int) < (n : Int)) = false := by simp; omega
  have d2 : decide (m < n) = false := by simp; omega
  obtain ⟨r,hr0⟩ : ∃ r,L.all addB = r := ⟨_,rfl⟩
  rw [decide_eq_true h0,Bool.true_and,hr0]
  have HR0 := hid hr0; have HR := hid hr; have HB := hid hB; have HX := hid hx; have HL := hid hl; have HNN := hid hn
  clear hr0 hr hB hx hl hn hm h0
  go_enter Tryz.func118,Tryz.ntmps118
  go_wp2_with fail
  go_loopw [15] (fun i wr => ∃ (t : Nat),t <= n /\ i = .int .i64 t /\ (L.take t).all addB = true /\ Below w.heap.size w wr) (fun i _ => n - (intOf i).toNat)
  case atStart => exact ⟨0,Nat.zero_le _,rfl,rfl,Below.refl _ _⟩
  case round =>
   obtain ⟨t,ht,rfl,hall,hb⟩ := hrel
   by_cases hlt : t < n
   ·have i1 : (t : Int) < n := by omega
    have i0 : (0 : Int) <= t := by omega
    have i8 : n <= 1000000 := HNN.out
    have htl : t < L.length := by rw [HL.out]; exact hlt
    have hrd := HR.out.below (hb.mono HB.out)
    obtain ⟨g0,o0,rfl,hg0⟩ := hrd.ex (by omega)
    have hcol := hrd.part htl
    have hs := HX.out L[t] (List.getElem_mem htl)
    have hno := all_no (p := addB) htl
    have hyes := all_yes (p := addB) htl hall
    obtain ⟨x,hcx⟩ : ∃ y,L[t] = y := ⟨_,rfl⟩
    rw [hcx] at hcol hno hyes
    try rw [hcx] at hs
    obtain ⟨u,hu⟩ : ∃ u,addB (x.1,x.2) = u := ⟨_,rfl⟩
    have hno : u = false -> L.all addB = false := fun e => hno (hu.trans e)
    have hyes : u = true -> (L.take (t + 1)).all addB = true := fun e => hyes (hu.trans e)
    obtain ⟨_,_⟩ := hcol
    have ba := (Below.refl wr.heap.size wr).alloc (Nat.le_refl _) (.cells #[.int .i64 x.1,.string x.2] 57)
    have hb2 := hb.trans (ba.mono hb.size)
    have HB2 := hid hb2; have S1 := hid hs; have HU : Hid (addB (x.1,x.2) = u) := hid hu; have HNO := hid hno; have HYES := hid hyes
    clear hrd hs hb hall hb2 hno hyes hu hcx ba
    go_wp2_with fail
    refine (note_any x.1 x.2 _ S1.out).mono ?_
    rintro e w2 ⟨rfl,b2⟩
    rw [HU.out]
    have B2 := hid (next HB2.out b2)
    clear b2
    cases u with
    | false =>
      have hrf : r = false := HR0.out.symm.trans (HNO.out rfl)
      subst hrf
      go_wp2
      go_ret
      exact ⟨rfl,B2.out⟩
    | true =>
      go_wp2
      go_roundw
      case rel => exact ⟨t + 1,by omega,by go_num,HYES.out (by simp),B2.out⟩
      case measure => simp [intOf]; omega
   ·obtain rfl : t = n := by omega
    rw [List.take_of_length_le (by rw [HL.out]; exact Nat.le_refl _)] at hall
    have hrt : r = true := HR0.out.symm.trans hall
    subst hrt
    have HBB := hid hb
    clear hall hb
    go_wp2
    go_ret
    exact ⟨rfl,HBB.out⟩
 ·have d1 : decide ((m : Int) < (n : Int)) = true := by simp; omega
  have d2 : decide (m < n) = true := by simp; omega
  rw [decide_eq_false h0,Bool.false_and]
  clear hr hB hx hl hn hm h0
  go_enter Tryz.func118,Tryz.ntmps118
  go_wp2
  go_ret
  exact ⟨rfl,Below.refl _ _⟩
theorem list_ints (A : Option Addr) (n c B m : Nat) (L : List Int) (w : World) (hr : RdZ w B A n L) (hB : B <= w.heap.size) (hx : ∀ x ∈ L,True) (hn : n <= 1000000) (hm : m <= 1000000) :
    Calls Tryz.prog 120 #[.slice A n c,.int .i64 (m : Nat),.func (.func 121) #[] #[]] w fun e w' => e = .returned (.bool (decide (n <= m) && L.all dropB)) /\ Below w.heap.size w w' := by
 have hl := hr.1
 by_cases h0 : n <= m
 ·have d1 : decide ((m : Int) < (n : Int)) = false := by simp; omega
  have d2 : decide (m < n) = false := by simp; omega
  obtain ⟨r,hr0⟩ : ∃ r,L.all dropB = r := ⟨_,rfl⟩
  rw [decide_eq_true h0,Bool.true_and,hr0]
  have HR0 := hid hr0; have HR := hid hr; have HB := hid hB; have HX := hid hx; have HL := hid hl; have HNN := hid hn
  clear hr0 hr hB hx hl hn hm h0
  go_enter Tryz.func120,Tryz.ntmps120
  go_wp2_with fail
  go_loopw [15] (fun i wr => ∃ (t : Nat),t <= n /\ i = .int .i64 t /\ (L.take t).all dropB = true /\ Below w.heap.size w wr) (fun i _ => n - (intOf i).toNat)
  case atStart => exact ⟨0,Nat.zero_le _,rfl,rfl,Below.refl _ _⟩
  case round =>
   obtain ⟨t,ht,rfl,hall,hb⟩ := hrel
   by_cases hlt : t < n
   ·have i1 : (t : Int) < n := by omega
    have i0 : (0 : Int) <= t := by omega
    have i8 : n <= 1000000 := HNN.out
    have htl : t < L.length := by rw [HL.out]; exact hlt
    have hrd := HR.out.below (hb.mono HB.out)
    obtain ⟨g0,o0,rfl,hg0,hc⟩ := hrd.2 (by omega)
    have hcol := hc t htl
    have hs := HX.out L[t] (List.getElem_mem htl)
    have hno := all_no (p := dropB) htl
    have hyes := all_yes (p := dropB) htl hall
    obtain ⟨x,hcx⟩ : ∃ y,L[t] = y := ⟨_,rfl⟩
    rw [hcx] at hcol hno hyes
    try rw [hcx] at hs
    obtain ⟨u,hu⟩ : ∃ u,dropB x = u := ⟨_,rfl⟩
    have hno : u = false -> L.all dropB = false := fun e => hno (hu.trans e)
    have hyes : u = true -> (L.take (t + 1)).all dropB = true := fun e => hyes (hu.trans e)
    have hb2 := hb
    have HB2 := hid hb2; have S1 := hid hs; have HU : Hid (dropB x = u) := hid hu; have HNO := hid hno; have HYES := hid hyes
    clear hrd hs hb hall hb2 hno hyes hu hcx hc
    go_wp2_with fail
    refine (id_any x _).mono ?_
    rintro e w2 ⟨rfl,b2⟩
    rw [HU.out]
    have B2 := hid (next HB2.out b2)
    clear b2
    cases u with
    | false =>
      have hrf : r = false := HR0.out.symm.trans (HNO.out rfl)
      subst hrf
      go_wp2
      go_ret
      exact ⟨rfl,B2.out⟩
    | true =>
      go_wp2
      go_roundw
      case rel => exact ⟨t + 1,by omega,by go_num,HYES.out (by simp),B2.out⟩
      case measure => simp [intOf]; omega
   ·obtain rfl : t = n := by omega
    rw [List.take_of_length_le (by rw [HL.out]; exact Nat.le_refl _)] at hall
    have hrt : r = true := HR0.out.symm.trans hall
    subst hrt
    have HBB := hid hb
    clear hall hb
    go_wp2
    go_ret
    exact ⟨rfl,HBB.out⟩
 ·have d1 : decide ((m : Int) < (n : Int)) = true := by simp; omega
  have d2 : decide (m < n) = true := by simp; omega
  rw [decide_eq_false h0,Bool.false_and]
  clear hr hB hx hl hn hm h0
  go_enter Tryz.func120,Tryz.ntmps120
  go_wp2
  go_ret
  exact ⟨rfl,Below.refl _ _⟩
theorem bt_ok (x : BA) : x.bt.ok = (decide (x.M.length <= 64) && x.M.all (fun x : MA => mutB (mutOf x)) && (decide (x.N.length <= 300) && x.N.all addB) && (decide (x.D.length <= 300) && x.D.all dropB)) := by
 unfold Bt.ok BA.bt muts
 dsimp only
 rw [List.length_map,List.all_map]
 simp only [Bool.and_assoc]
 rfl
structure BtF (x : BA) : Prop where
 muts : ∀ y ∈ x.M,MuF y
 notes : ∀ y ∈ x.N,y.2.size <= maxLen
 lm : x.M.length <= 1000000
 ln : x.N.length <= 1000000
 ld : x.D.length <= 1000000
abbrev bV (x : BA) : Value := .agg #[.slice x.AM x.M.length x.cM,.slice x.AN x.N.length x.cN,.slice x.AD x.D.length x.cD]
abbrev bO (x : BA) : Obj := .cells #[.slice x.AM x.M.length x.cM,.slice x.AN x.N.length x.cN,.slice x.AD x.D.length x.cD] 40
theorem checkBatch_any (x : BA) (B : Nat) (w : World) (hr : LiesB w B x) (hB : B <= w.heap.size) (hf : BtF x) :
    Calls Tryz.prog 76 #[bV x] w fun e w' => e = .returned (.bool x.bt.ok) /\ Below w.heap.size w w' := by
 have bz := (Below.refl w.heap.size w).alloc (Nat.le_refl _) (bO x)
 have hz := heap_alloc_new w (bO x)
 obtain ⟨V,hV⟩ : ∃ V,V = w.alloc (bO x) := ⟨_,rfl⟩
 rw [<- hV] at bz hz
 have hc0 := cell_at (i := 0) hz rfl
 have N1 := list_muts x.AM x.M.length x.cM B 64 x.M V (hr.muts.below (bz.mono hB)) (Nat.le_trans hB bz.size) hf.muts hf.lm (by omega)
 obtain ⟨u1,hu1⟩ : ∃ u,(decide (x.M.length <= 64) && x.M.all (fun x : MA => mutB (mutOf x))) = u := ⟨_,rfl⟩
 obtain ⟨u2,hu2⟩ : ∃ u,(decide (x.N.length <= 300) && x.N.all addB) = u := ⟨_,rfl⟩
 obtain ⟨u3,hu3⟩ : ∃ u,(decide (x.D.length <= 300) && x.D.all dropB) = u := ⟨_,rfl⟩
 have hv : x.bt.ok = (u1 && u2 && u3) := by rw [bt_ok,hu1,hu2,hu3]
 rw [hu1] at N1
 have HZ := hid hz; have BZ := hid bz; have HR := hid hr; have HF := hid hf; have HB := hid hB; have HN1 := hid N1; have HV := hid hv; have U2 := hid hu2; have U3 := hid hu3
 obtain ⟨r,hrr⟩ : ∃ r,x.bt.ok = r := ⟨_,rfl⟩
 rw [hrr] at HV ⊢
 clear hz bz hv hu1 hu2 hu3 hr hf hB N1 hrr
 go_enter Tryz.func76,Tryz.ntmps76
 go_wp2_with fail
 try unfold bO at hV
 rw [<- hV]
 clear hV
 refine (HN1.out).mono ?_
 rintro e w1 ⟨rfl,b1⟩
 have hz1 := (b1.block _ (Array.getElem?_eq_some_iff.1 HZ.out).1).trans HZ.out
 have B1 := hid (next BZ.out b1)
 have hc1 := cell_at (i := 1) hz1 rfl
 have HZ1 := hid hz1
 clear hz1 b1 hc0
 cases u1 with
 | false =>
   have hrf : r = false := HV.out
   subst hrf
   go_wp2
   go_ret
   exact ⟨rfl,B1.out⟩
 | true =>
   have N2 := list_notes x.AN x.N.length x.cN B 300 x.N w1 (HR.out.notes.below (B1.out.mono HB.out)) (Nat.le_trans HB.out B1.out.size) HF.out.notes HF.out.ln (by omega)
   rw [U2.out] at N2
   have HN2 := hid N2
   clear N2
   go_wp2_with fail
   refine (HN2.out).mono ?_
   rintro e w2 ⟨rfl,b2⟩
   have hz2 := (b2.block _ (Array.getElem?_eq_some_iff.1 HZ1.out).1).trans HZ1.out
   have B2 := hid (next B1.out b2)
   have hc2 := cell_at (i := 2) hz2 rfl
   clear hz2 b2 hc1
   cases u2 with
   | false =>
     have hrf : r = false := HV.out
     subst hrf
     go_wp2
     go_ret
     exact ⟨rfl,B2.out⟩
   | true =>
     have N3 := list_ints x.AD x.D.length x.cD B 300 x.D w2 (HR.out.drops.below (B2.out.mono HB.out)) (Nat.le_trans HB.out B2.out.size) (fun _ _ => trivial) HF.out.ld (by omega)
     rw [U3.out] at N3
     have HN3 := hid N3
     clear N3
     go_wp2_with fail
     refine (HN3.out).mono ?_
     rintro e w3 ⟨rfl,b3⟩
     have B3 := hid (next B2.out b3)
     have hrf : r = u3 := by rw [HV.out]; cases u3 <;> rfl
     subst hrf
     clear b3
     go_wp2
     go_ret
     exact ⟨rfl,B3.out⟩
theorem ystamp (q i n c : Nat) (e : Int) (A : Option Addr) (l : Bs) (w : World) (h : RY w q A n c l i e) (hi : i <= n) (hs : n <= 1000000000) :
    Calls Tryz.prog 115 #[.pointer (some ⟨q,0,none⟩)] w fun x w' => ∃ (v : Int) (j : Nat) (f : Int),x = .returned (.int .i64 v) /\ Stm v /\ (f ≠ 0 -> v = 0) /\ j <= n /\ RY w' q A n c l j f /\ KeptQ q w w' /\ Went numP l i e v j f := by
 have hl := h.len
 go_enter Tryz.func115,Tryz.ntmps115
 go_wp2_with fail
 refine (ynum q i n c e A l w h hi hs).mono ?_
 rintro x w1 ⟨v,j,f,rfl,hv,hf0,hj,h1,k1,hw⟩
 by_cases hb : 1099511627776 < v
 ·have hf : f = 0 := Decidable.byContradiction fun hf => by have := hf0 hf; omega
  subst hf
  have d1 : decide ((1099511627776 : Int) < (v : Int)) = true := by simp; omega
  have d2 : decide (1099511627776 < v) = true := by simp; omega
  have hw2 : Went numP l i e (0 : Int) j 6 := by
   have h2 := hw.bind (q := fun (v : Nat) (l : Bs) => if 1099511627776 < v then (.error 6 : Except Int (Int × Bs)) else .ok ((v : Int),l)) (Went.wrong (0 : Int) 6 (by decide) hw.len fun _ => if_pos hb)
   rw [if_pos rfl] at h2
   exact h2
  obtain ⟨_,_,c2⟩ := h1.cells
  have f2 := h1.thaw 2
  have HW := hid hw2; have H2 := hid (h1.put2 6); have K2 := hid (k1.on (Kept.setCell (fun k => k = q) w1 ⟨q,2,none⟩ (.int .i64 6) rfl)); have HJ := hid hj
  clear hw hw2 h1 k1 h hi hs hl hf0 hj hb
  go_wp2
  go_ret
  exact ⟨0,j,6,rfl,⟨by omega,by omega⟩,fun _ => rfl,HJ.out,H2.out,K2.out,HW.out⟩
 ·have d1 : decide ((1099511627776 : Int) < (v : Int)) = false := by simp; omega
  have d2 : decide (1099511627776 < v) = false := by simp; omega
  have hc : IntKind.i64.wrap (v : Int) = (v : Int) := by rw [IntKind.wrap_i64]; omega
  have hw2 : Went numP l i e (v : Int) j f := by
   have h3 := hw.bind (q := fun (v : Nat) (l : Bs) => if 1099511627776 < v then (.error 6 : Except Int (Int × Bs)) else .ok ((v : Int),l)) (y := (v : Int)) (k := j) (g := f) ⟨fun _ => Nat.le_refl _,hw.len,fun _ => rfl,fun _ _ => if_neg hb,fun h h' => absurd h h'⟩
   exact h3
  have HW := hid hw2; have H1 := hid h1; have K1 := hid k1; have HJ := hid hj
  have HF : Hid (f ≠ 0 -> (v : Int) = 0) := hid fun h => by have := hf0 h; omega
  clear hw hw2 h1 k1 h hi hs hl hf0 hj
  go_wp2
  go_ret
  exact ⟨v,j,f,rfl,⟨by omega,by omega⟩,HF.out,HJ.out,H1.out,K1.out,HW.out⟩
theorem ycount (q i n c : Nat) (e : Int) (A : Option Addr) (l : Bs) (w : World) (h : RY w q A n c l i e) (hi : i <= n) (hs : n <= 1000000000) :
    Calls Tryz.prog 165 #[.pointer (some ⟨q,0,none⟩)] w fun x w' => ∃ (v j : Nat) (f : Int),x = .returned (.int .i64 v) /\ v <= n - j /\ (f ≠ 0 -> v = 0) /\ j <= n /\ RY w' q A n c l j f /\ KeptQ q w w' /\ Went cntP l i e v j f := by
 have hl := h.len
 go_enter Tryz.func165,Tryz.ntmps165
 go_wp2_with fail
 refine (ynum q i n c e A l w h hi hs).mono ?_
 rintro x w1 ⟨v,j,f,rfl,hv,hf0,hj,h1,k1,hw⟩
 obtain ⟨m,hm⟩ : ∃ m,j + m = n := ⟨n - j,by omega⟩
 have hdl : (l.drop j).length = m := by rw [List.length_drop]; omega
 have x1 : IntKind.i64.wrap ((n : Int) - (j : Int)) = (m : Int) := by rw [IntKind.wrap_i64]; omega
 have x2 : IntKind.u64.wrap (m : Int) = (m : Int) := by rw [IntKind.wrap_u64]; omega
 have hc : ∀ w',Below w1.heap.size w1 w' -> w'.cell? ⟨q,0,none⟩ = some (.slice A n c) /\ w'.cell? ⟨q,1,none⟩ = some (.int .i64 j) /\ w'.cell? ⟨q,2,none⟩ = some (.int .i64 f) := fun w' hb => (h1.below hb).cells
 have HC := hid hc; have H1 := hid h1; have K1 := hid k1; have HM := hid hm; have HJ := hid hj
 by_cases hb : m < v
 ·have hf : f = 0 := Decidable.byContradiction fun hf => by have := hf0 hf; omega
  subst hf
  have d1 : decide ((m : Int) < (v : Int)) = true := by simp; omega
  have d2 : decide (m < v) = true := by simp; omega
  have hw2 : Went cntP l i e (0 : Nat) j 8 := by
   have h2 := hw.bind (q := fun (v : Nat) (l : Bs) => if l.length < v then (.error 8 : Except Int (Nat × Bs)) else .ok (v,l)) (Went.wrong (0 : Nat) 8 (by decide) hw.len fun _ => by rw [hdl,if_pos hb])
   rw [if_pos rfl] at h2
   exact h2
  have HW := hid hw2
  clear hw hw2 h1 k1 h hi hs hc hm hdl hj hb hl hf0
  go_wp2_with fail
  refine wp_region_held_drew (S := fun w' => Below w1.heap.size w1 w') (by kernel_rfl) ?_ (fun hHeld => ?_)
  ·exact (Below.refl _ _).drew
  refine takesH [0,1,2,3,4,5,6,7,8,9,10,11,12] ?_
  repeat
   refine takesH_one (v := ?_) ?_ ?_
   rotate_left
   ·first | (refine Or.inr ⟨by rfl,?_⟩; with_reducible rfl) | (refine Or.inl ⟨by rfl,?_⟩; intro wx hSw; (try dsimp only at hSw); first | (go_simp; first | done | with_reducible rfl) | (obtain ⟨_,_,_⟩ := HC.out _ hSw; go_simp; first | done | with_reducible rfl))
   try simp only [Act.put,zq1,zq2,zq3,zq4,zq5,zq6]
  refine takesH_nil ?_
  refine wpAnyH_done (by kernel_rfl) ?_ _
  have h2 := H1.out.below hHeld
  obtain ⟨U,hU⟩ : ∃ U,U = w1.drew := ⟨_,rfl⟩
  have hkU : KeptQ q w1 U := by rw [hU]; exact (Kept.refl _ _).drew
  have h2 : RY U q A n c l j 0 := by rw [hU]; exact H1.out.drew
  rw [<- hU]
  obtain ⟨_,_,c2⟩ := h2.cells
  have f2 := h2.thaw 2
  have H3 := hid (h2.put2 8)
  have K3 := hid ((K1.out.on hkU).on (Kept.setCell (fun k => k = q) U ⟨q,2,none⟩ (.int .i64 8) rfl))
  clear hHeld h2 hU hkU
  go_wp2
  go_ret
  exact ⟨0,j,8,rfl,Nat.zero_le _,fun _ => rfl,HJ.out,H3.out,K3.out,HW.out⟩
 ·have d1 : decide ((m : Int) < (v : Int)) = false := by simp; omega
  have d2 : decide (m < v) = false := by simp; omega
  have x3 : IntKind.i64.wrap (v : Int) = (v : Int) := by rw [IntKind.wrap_i64]; omega
  have hw2 : Went cntP l i e v j f := by
   have h3 := hw.bind (q := fun (v : Nat) (l : Bs) => if l.length < v then (.error 8 : Except Int (Nat × Bs)) else .ok (v,l)) (y := v) (k := j) (g := f) ⟨fun _ => Nat.le_refl _,hw.len,fun _ => rfl,fun _ _ => by rw [hdl]; exact if_neg hb,fun h h' => absurd h h'⟩
   exact h3
  have HW := hid hw2
  have HV : Hid (v <= n - j) := hid (by omega)
  have HF := hid hf0
  clear hw hw2 h1 k1 h hi hs hc hm hdl hj hb hl hf0
  go_wp2_with fail
  refine wp_region_held_drew (S := fun w' => Below w1.heap.size w1 w') (by kernel_rfl) ?_ (fun hHeld => ?_)
  ·exact (Below.refl _ _).drew
  refine takesH [0,1,2,3,4,5,6,7,8,9,10,11,12] ?_
  repeat
   refine takesH_one (v := ?_) ?_ ?_
   rotate_left
   ·first | (refine Or.inr ⟨by rfl,?_⟩; with_reducible rfl) | (refine Or.inl ⟨by rfl,?_⟩; intro wx hSw; (try dsimp only at hSw); first | (go_simp; first | done | with_reducible rfl) | (obtain ⟨_,_,_⟩ := HC.out _ hSw; go_simp; first | done | with_reducible rfl))
   try simp only [Act.put,zq1,zq2,zq3,zq4,zq5,zq6]
  refine takesH_nil ?_
  refine wpAnyH_done (by kernel_rfl) ?_ _
  have H2 := hid (H1.out.below hHeld)
  have K2 := hid (K1.out.on (show KeptQ q w1 w1.drew from Kept.of_below hHeld _))
  clear hHeld
  go_wp2
  go_ret
  exact ⟨v,j,f,rfl,HV.out,HF.out,HJ.out,H2.out,K2.out,HW.out⟩
theorem sl_lhm {w : World} {B n : Nat} {A : Option Addr} {l : List UInt8} (h : Rd w B A n l) {c : Nat} (hn : n <= c) (x y z : Int) (lo hi : Nat) (ex : x = (lo : Nat)) (ey : y = (hi : Nat)) (ez : z = (hi : Nat)) (h1 : lo <= hi) (h2 : hi <= n) :
    ∃ A',(∀ wx : World,(Instr.slice 29 (.slice A n c) (some (.int .i64 x)) (some (.int .i64 y)) (some (.int .i64 z))).run Tryz.prog wx = .ok (.slice A' (hi - lo) (hi - lo)) wx) /\ Rd w B A' (hi - lo) ((l.take hi).drop lo) /\ (A' = none -> hi - lo = 0 \/ A = none) := by
 refine ⟨if hi = lo then A else A.map (·.add lo),fun wx => ?_,h.cut h1 h2 (Nat.le_refl _),fun hA => ?_⟩
 ·obtain ⟨i,hi',hz0,hz1,hz2⟩ := info_parts infoB
  subst ex
  subst ey
  subst ez
  rw [run_slice_lhm (P := Tryz.prog) (t := 29) (ht := by rw [sizeB]; exact Tryz.underlying29) (h0 := by omega) (h1 := by omega) (h2 := by omega) (h3 := by omega),sizeB]
  simp [sizeOf,typeInfo,hi',hz1,sliced,Result.andThen]
 ·split at hA
  ·exact Or.inr hA
  ·cases A with
   | none => exact Or.inr rfl
   | some a => cases hA
theorem ybytes (q i n c : Nat) (e : Int) (A : Option Addr) (l : Bs) (w : World) (h : RY w q A n c l i e) (hi : i <= n) (hs : n <= 1000000000) :
    Calls Tryz.prog 211 #[.pointer (some ⟨q,0,none⟩)] w fun x w' => ∃ (A' : Option Addr) (m : Nat) (k : Bs) (j : Nat) (f : Int),x = .returned (.slice A' m m) /\ m <= n /\ Rd w' q A' m k /\ (A' = none -> m = 0) /\ (f ≠ 0 -> m = 0) /\ j <= n /\ RY w' q A n c l j f /\ KeptQ q w w' /\ Went bodyP l i e k j f := by
 have hl := h.len
 go_enter Tryz.func211,Tryz.ntmps211
 go_wp2_with fail
 refine (ycount q i n c e A l w h hi hs).mono ?_
 rintro x w1 ⟨v,j,f,rfl,hv,hf0,hj,h1,k1,hw⟩
 have hjv : j + v <= n := by omega
 have x1 : IntKind.i64.wrap ((j : Int) + (v : Int)) = (j : Int) + (v : Int) := by rw [IntKind.wrap_i64]; omega
 obtain ⟨c0,c1,c2⟩ := h1.cells
 have f1 := h1.thaw 1
 have h2 := h1.put1 (j + v)
 have D1 := hid (show (j : Int) + (v : Int) = ((j + v : Nat) : Int) by omega)
 have h2 : RY (w1.setCell ⟨q,1,none⟩ (.int .i64 ((j : Int) + (v : Int)))) q A n c l (j + v) f := by rw [D1.out]; exact h2
 have k2 : KeptQ q w (w1.setCell ⟨q,1,none⟩ (.int .i64 ((j : Int) + (v : Int)))) := k1.on (Kept.setCell (fun k => k = q) w1 _ _ rfl)
 have hw2 : Went bodyP l i e ((l.drop j).take v) (j + v) f := by
  by_cases hf : f = 0
  ·subst hf
   exact hw.bind (q := fun (n : Nat) (l : Bs) => (.ok (l.take n,l.drop n) : Except Int (Bs × Bs))) (y := (l.drop j).take v) (k := j + v) (g := 0) ⟨fun _ => by omega,by omega,fun h => absurd rfl h,fun _ _ => by rw [List.drop_drop],fun _ h => absurd rfl h⟩
  ·exact hw.bind (Went.lost _ hf (by omega))
 have H2 := hid h2; have K2 := hid k2; have HW := hid hw2; have HJV := hid hjv; have HV := hid hv; have HF := hid hf0
 clear h1 k1 hw hv hf0 hj h hi hs hl h2 k2 hw2 hjv
 go_wp2_with fail
 obtain ⟨U,hU⟩ : ∃ U,U = w1.setCell ⟨q,1,none⟩ (.int .i64 ((j : Int) + (v : Int))) := ⟨_,rfl⟩
 rw [<- hU] at H2 K2 ⊢
 clear hU c0 c1 c2 f1
 obtain ⟨A',hsl,hrd,hA⟩ := sl_lhm H2.out.rd H2.out.cap (j : Int) ((j : Int) + (v : Int)) ((j : Int) + (v : Int)) j (j + v) rfl D1.out D1.out (by omega) HJV.out
 have hvv : j + v - j = v := by omega
 rw [hvv] at hsl hrd hA
 rw [List.take_add,List.drop_append_of_le_length (by rw [List.length_take]; have := H2.out.len; have := HJV.out; omega)] at hrd
 have hcells : ∀ w',Below U.heap.size U w' -> w'.cell? ⟨q,0,none⟩ = some (.slice A n c) /\ w'.cell? ⟨q,1,none⟩ = some (.int .i64 ((j : Int) + (v : Int))) /\ w'.cell? ⟨q,2,none⟩ = some (.int .i64 f) := fun w' hb => by
  have h := (H2.out.below hb).cells
  rw [<- D1.out] at h
  exact h
 have hnl : (List.drop j (List.take j l)) = [] := List.drop_eq_nil_of_le (by rw [List.length_take]; omega)
 rw [hnl,List.nil_append] at hrd
 have HC := hid hcells; have HRD := hid hrd; have HA := hid hA
 clear hcells hrd hA hvv hnl x1
 refine wp_region_held_drew (S := fun w' => Below U.heap.size U w') (by kernel_rfl) ?_ (fun hHeld => ?_)
 ·exact (Below.refl _ _).drew
 refine takesH [0,1,2,3,4,5,6,7,8,9,10,11,12,13,14] ?_
 repeat
  refine takesH_one (v := ?_) ?_ ?_
  rotate_left
  ·first | (refine Or.inr ⟨by rfl,?_⟩; with_reducible rfl) | (refine Or.inl ⟨by rfl,?_⟩; intro wx hSw; (try dsimp only at hSw); first | (go_simp; first | done | with_reducible rfl) | (obtain ⟨_,_,_⟩ := HC.out _ hSw; go_simp; first | done | with_reducible rfl))
  try simp only [Act.put,zq1,zq2,zq3,zq4,zq5,zq6]
 refine takesH_nil ?_
 refine wpAnyH_done (by kernel_rfl) ?_ _
 have H3 := hid (H2.out.below hHeld)
 have HRD3 := hid (HRD.out.below (hHeld.mono (Nat.le_of_lt H2.out.lt)))
 have K3 := hid (K2.out.on (show KeptQ q U U.drew from Kept.of_below hHeld _))
 clear hHeld hsl
 go_wp2
 go_ret
 refine ⟨A',v,(l.drop j).take v,j + v,f,rfl,by have := HJV.out; omega,HRD3.out,fun hn => ?_,HF.out,HJV.out,H3.out,K3.out,HW.out⟩
 rcases HA.out hn with h | h
 ·exact h
 ·have h1 := H2.out.nil h
  have h2 := H2.out.cap
  have h3 := HJV.out
  omega
theorem ytext (q i n c : Nat) (e : Int) (A : Option Addr) (l : Bs) (w : World) (h : RY w q A n c l i e) (hi : i <= n) (hs : n <= 1000000000) :
    Calls Tryz.prog 166 #[.pointer (some ⟨q,0,none⟩)] w fun x w' => ∃ (v : ByteArray) (j : Nat) (f : Int),x = .returned (.string v) /\ v.size <= n /\ j <= n /\ RY w' q A n c l j f /\ KeptQ q w w' /\ Went txtP l i e v j f := by
 go_enter Tryz.func166,Tryz.ntmps166
 go_wp2_with fail
 refine (ybytes q i n c e A l w h hi hs).mono ?_
 rintro x w1 ⟨A',m,k,j,f,rfl,hm,hrd,hA,hf0,hj,h1,k1,hw⟩
 have hcv := cv_string hrd m
 have hsz : (⟨k.toArray⟩ : ByteArray).size = m := by
  have := hrd.1
  show k.toArray.size = m
  simpa using this
 have hw2 : Went txtP l i e (⟨k.toArray⟩ : ByteArray) j f := hw.map (q := bsB)
 obtain ⟨T,hT⟩ : ∃ T : ByteArray,(⟨k.toArray⟩ : ByteArray) = T := ⟨_,rfl⟩
 rw [hT] at hcv hsz hw2
 have H1 := hid h1; have K1 := hid k1; have HW := hid hw2; have HJ := hid hj; have HSZ := hid (show T.size <= n by omega)
 clear hrd hA hf0 hj h1 k1 hw hw2 hT hsz h hi hs hm
 go_wp2
 go_ret
 exact ⟨T,j,f,rfl,HSZ.out,HJ.out,H1.out,K1.out,HW.out⟩
theorem yend (q i n c : Nat) (e : Int) (A : Option Addr) (l : Bs) (w : World) (h : RY w q A n c l i e) (hi : i <= n) :
    Calls Tryz.prog 109 #[.pointer (some ⟨q,0,none⟩)] w fun x w' => x = .returned (.tuple #[]) /\ RY w' q A n c l i (if e = 0 /\ i < n then 6 else e) /\ KeptQ q w w' := by
 have hc : ∀ w',Below w.heap.size w w' -> w'.cell? ⟨q,0,none⟩ = some (.slice A n c) /\ w'.cell? ⟨q,1,none⟩ = some (.int .i64 i) /\ w'.cell? ⟨q,2,none⟩ = some (.int .i64 e) := fun w' hb => (h.below hb).cells
 have HC := hid hc; have H := hid h
 clear hc h
 by_cases he : e = 0
 ·subst he
  by_cases hlt : i < n
  ·rw [if_pos ⟨rfl,hlt⟩]
   have d1 : decide ((i : Int) < (n : Int)) = true := by simp; omega
   have d2 : decide (i < n) = true := by simp; omega
   clear hi hlt
   go_enter Tryz.func109,Tryz.ntmps109
   go_wp2_with fail
   refine wp_region_held_drew (S := fun w' => Below w.heap.size w w') (by kernel_rfl) ?_ (fun hHeld => ?_)
   ·exact (Below.refl _ _).drew
   refine takesH [0,1,2,3,4,5,6,7,8,9,10,11,12,13,14,15,16] ?_
   repeat
    refine takesH_one (v := ?_) ?_ ?_
    rotate_left
    ·first | (refine Or.inr ⟨by rfl,?_⟩; with_reducible rfl) | (refine Or.inl ⟨by rfl,?_⟩; intro wx hSw; (try dsimp only at hSw); first | (go_simp; first | done | with_reducible rfl) | (obtain ⟨_,_,_⟩ := HC.out _ hSw; go_simp; first | done | with_reducible rfl))
    try simp only [Act.put,zq1,zq2,zq3,zq4,zq5,zq6]
   refine takesH_nil ?_
   refine wpAnyH_done (by kernel_rfl) ?_ _
   obtain ⟨U,hU⟩ : ∃ U,U = w.drew := ⟨_,rfl⟩
   have hkU : KeptQ q w U := by rw [hU]; exact (Kept.refl _ _).drew
   have h2 : RY U q A n c l i 0 := by rw [hU]; exact H.out.drew
   rw [<- hU]
   obtain ⟨_,_,c2⟩ := h2.cells
   have f2 := h2.thaw 2
   have H3 := hid (h2.put2 6)
   have K3 := hid (hkU.on (Kept.setCell (fun k => k = q) U ⟨q,2,none⟩ (.int .i64 6) rfl))
   clear hHeld h2 hU hkU
   go_wp2
   go_end0
   exact ⟨rfl,H3.out,K3.out⟩
  ·rw [if_neg (fun h => hlt h.2)]
   have d1 : decide ((i : Int) < (n : Int)) = false := by simp; omega
   have d2 : decide (i < n) = false := by simp; omega
   clear hi hlt
   go_enter Tryz.func109,Tryz.ntmps109
   go_wp2_with fail
   refine wp_region_held_drew (S := fun w' => Below w.heap.size w w') (by kernel_rfl) ?_ (fun hHeld => ?_)
   ·exact (Below.refl _ _).drew
   refine takesH [0,1,2,3,4,5,6,7,8,9,10,11,12,13,14,15,16] ?_
   repeat
    refine takesH_one (v := ?_) ?_ ?_
    rotate_left
    ·first | (refine Or.inr ⟨by rfl,?_⟩; with_reducible rfl) | (refine Or.inl ⟨by rfl,?_⟩; intro wx hSw; (try dsimp only at hSw); first | (go_simp; first | done | with_reducible rfl) | (obtain ⟨_,_,_⟩ := HC.out _ hSw; go_simp; first | done | with_reducible rfl))
    try simp only [Act.put,zq1,zq2,zq3,zq4,zq5,zq6]
   refine takesH_nil ?_
   refine wpAnyH_done (by kernel_rfl) ?_ _
   have H3 := hid (H.out.below hHeld)
   have K3 := hid (show KeptQ q w w.drew from Kept.of_below hHeld _)
   clear hHeld
   go_wp2
   go_end0
   exact ⟨rfl,H3.out,K3.out⟩
 ·rw [if_neg (fun h => he h.1)]
  have e0 : (e == 0) = false := by simp; exact he
  have e1 : decide (e = 0) = false := by simp; exact he
  clear hi
  go_enter Tryz.func109,Tryz.ntmps109
  go_wp2_with fail
  refine wp_region_held_drew (S := fun w' => Below w.heap.size w w') (by kernel_rfl) ?_ (fun hHeld => ?_)
  ·exact (Below.refl _ _).drew
  refine takesH [0,1,2,3,4,5,6,7,8,9,10,11,12,13,14,15,16] ?_
  repeat
   refine takesH_one (v := ?_) ?_ ?_
   rotate_left
   ·first | (refine Or.inr ⟨by rfl,?_⟩; with_reducible rfl) | (refine Or.inl ⟨by rfl,?_⟩; intro wx hSw; (try dsimp only at hSw); first | (go_simp; first | done | with_reducible rfl) | (obtain ⟨_,_,_⟩ := HC.out _ hSw; go_simp; first | done | with_reducible rfl))
   try simp only [Act.put,zq1,zq2,zq3,zq4,zq5,zq6]
  refine takesH_nil ?_
  refine wpAnyH_done (by kernel_rfl) ?_ _
  have H3 := hid (H.out.below hHeld)
  have K3 := hid (show KeptQ q w w.drew from Kept.of_below hHeld _)
  clear hHeld
  go_wp2
  go_end0
  exact ⟨rfl,H3.out,K3.out⟩
def deadF (b : UInt8) : Int := if b = 0 \/ b = 1 then 0 else 6
theorem ydead (q i n c : Nat) (A : Option Addr) (l : Bs) (w : World) (h : RY w q A n c l i 0) (hi : i <= n) (hs : n <= 1000000000) :
    Calls Tryz.prog 267 #[.pointer (some ⟨q,0,none⟩)] w fun x w' => ∃ (d : Bool) (j : Nat) (f : Int),x = .returned (.bool d) /\ j <= n /\ RY w' q A n c l j f /\ KeptQ q w w' /\ ((l.drop i = [] /\ d = false /\ f = 8 /\ j = i) \/ (∃ b r,l.drop i = b :: r /\ j = i + 1 /\ d = decide (b = 1) /\ f = deadF b)) := by
 have hl := h.len
 have hc : ∀ w',Below w.heap.size w w' -> w'.cell? ⟨q,0,none⟩ = some (.slice A n c) /\ w'.cell? ⟨q,1,none⟩ = some (.int .i64 i) /\ w'.cell? ⟨q,2,none⟩ = some (.int .i64 0) := fun w' hb => (h.below hb).cells
 obtain ⟨_,_,_⟩ := h.cells
 have HC := hid hc; have H := hid h; have HL := hid hl
 clear hc
 by_cases hin : i = n
 ·subst hin
  have hd : l.drop i = [] := List.drop_eq_nil_of_le (by omega)
  have HD := hid hd
  have d1 : ((i : Int) == (i : Int)) = true := by simp
  clear hd hi hl h
  go_enter Tryz.func267,Tryz.ntmps267
  go_wp2_with fail
  refine wp_region_held_drew (S := fun w' => Below w.heap.size w w') (by kernel_rfl) ?_ (fun hHeld => ?_)
  ·exact (Below.refl _ _).drew
  refine takesH [0,1,2,3,4,5,6,7,8,9] ?_
  repeat
   refine takesH_one (v := ?_) ?_ ?_
   rotate_left
   ·first | (refine Or.inr ⟨by rfl,?_⟩; with_reducible rfl) | (refine Or.inl ⟨by rfl,?_⟩; intro wx hSw; (try dsimp only at hSw); first | (go_simp; first | done | with_reducible rfl) | (obtain ⟨_,_,_⟩ := HC.out _ hSw; go_simp; first | done | with_reducible rfl))
   try simp only [Act.put,zq1,zq2,zq3,zq4,zq5,zq6]
  refine takesH_nil ?_
  refine wpAnyH_done (by kernel_rfl) ?_ _
  obtain ⟨U,hU⟩ : ∃ U,U = w.drew := ⟨_,rfl⟩
  have hkU : KeptQ q w U := by rw [hU]; exact (Kept.refl _ _).drew
  have h2 : RY U q A i c l i 0 := by rw [hU]; exact H.out.drew
  rw [<- hU]
  obtain ⟨_,_,c2⟩ := h2.cells
  have f2 := h2.thaw 2
  have H3 := hid (h2.put2 8)
  have K3 := hid (hkU.on (Kept.setCell (fun k => k = q) U ⟨q,2,none⟩ (.int .i64 8) rfl))
  clear hHeld h2 hU hkU
  go_wp2
  go_ret
  exact ⟨false,i,8,rfl,Nat.le_refl _,H3.out,K3.out,Or.inl ⟨HD.out,rfl,rfl,rfl⟩⟩
 ·have hlt : i < n := by omega
  have hil : i < l.length := by omega
  have i0 : (0 : Int) <= i := by omega
  have i1 : (i : Int) < n := by omega
  have d1 : ((i : Int) == (n : Int)) = false := by simp; omega
  have d2 : decide ((i : Int) = (n : Int)) = false := by simp; omega
  have d3 : (i == n) = false := by simp; omega
  have wi : IntKind.i64.wrap ((i : Int) + 1) = (i : Int) + 1 := by rw [IntKind.wrap_i64]; omega
  have hcons := List.drop_eq_getElem_cons hil
  obtain ⟨g,o,hA,hg,hcb⟩ := h.rd.at2 hlt
  have hby := hcb i hil
  obtain ⟨b,hb⟩ : ∃ b,l[i] = b := ⟨_,rfl⟩
  rw [hb] at hby hcons
  obtain ⟨x,hx⟩ : ∃ x : Int,((b.toNat : Nat) : Int) = x := ⟨_,rfl⟩
  rw [hx] at hby
  have HX := hid hx
  subst hA
  have hc6 : ∀ w',Below w.heap.size w w' -> (w'.cell? ⟨q,0,none⟩ = some (.slice (some ⟨g,o,none⟩) n c) /\ w'.cell? ⟨q,1,none⟩ = some (.int .i64 i) /\ w'.cell? ⟨q,2,none⟩ = some (.int .i64 0)) /\ w'.cell? ⟨g,o + i,none⟩ = some (.int .u8 x) := fun w' hb => ⟨(h.below hb).cells,(hb.cell (p := ⟨g,o + i,none⟩) (by have := h.lt; show g < w.heap.size; omega)).trans hby⟩
  have HC6 := hid hc6; have HCONS := hid hcons; have HIN := hid (show i + 1 <= n by omega)
  clear hc6 hcons hby hcb hb hl h hi hin hlt hil hg hx
  go_enter Tryz.func267,Tryz.ntmps267
  go_wp2_with fail
  refine wp_region_held_drew (S := fun w' => Below w.heap.size w w') (by kernel_rfl) ?_ (fun hHeld => ?_)
  ·exact (Below.refl _ _).drew
  refine takesH [0,1,2,3,4,5,6,7,8,9] ?_
  repeat
   refine takesH_one (v := ?_) ?_ ?_
   rotate_left
   ·first | (refine Or.inr ⟨by rfl,?_⟩; with_reducible rfl) | (refine Or.inl ⟨by rfl,?_⟩; intro wx hSw; (try dsimp only at hSw); first | (go_simp; first | done | with_reducible rfl) | (obtain ⟨_,_,_⟩ := HC.out _ hSw; go_simp; first | done | with_reducible rfl))
   try simp only [Act.put,zq1,zq2,zq3,zq4,zq5,zq6]
  refine takesH_nil ?_
  refine wpAnyH_done (by kernel_rfl) ?_ _
  by_cases h0 : x = 0
  ·subst h0
   have hb0 : b = 0 := UInt8.toNat_inj.1 (by have := HX.out; show b.toNat = 0; omega)
   subst hb0
   go_wp2_with fail
   refine wp_region_held_drew (S := fun w' => Below w.heap.size w w') (by kernel_rfl) ?_ (fun hHeld => ?_)
   ·exact hHeld.drew
   refine takesH [0,1,2,3,4,5,6,7,8,9,10] ?_
   repeat
    refine takesH_one (v := ?_) ?_ ?_
    rotate_left
    ·first | (refine Or.inr ⟨by rfl,?_⟩; with_reducible rfl) | (refine Or.inl ⟨by rfl,?_⟩; intro wx hSw; (try dsimp only at hSw); first | (go_simp; first | done | with_reducible rfl) | (obtain ⟨⟨_,_,_⟩,_⟩ := HC6.out _ hSw; go_simp; first | done | with_reducible rfl))
    try simp only [Act.put,zq1,zq2,zq3,zq4,zq5,zq6]
   refine takesH_nil ?_
   refine wpAnyH_done (by kernel_rfl) ?_ _
   obtain ⟨U,hU⟩ : ∃ U,U = w.drew.drew := ⟨_,rfl⟩
   have hkU : KeptQ q w U := by rw [hU]; exact (Kept.refl _ _).drew.drew
   have h2 : RY U q (some ⟨g,o,none⟩) n c l i 0 := by rw [hU]; exact H.out.drew.drew
   try rw [<- hU]
   obtain ⟨_,c1,c2⟩ := h2.cells
   have f1 := h2.thaw 1
   have h3 : RY (U.setCell ⟨q,1,none⟩ (.int .i64 ((i : Int) + 1))) q (some ⟨g,o,none⟩) n c l (i + 1) 0 := h2.put1 (i + 1)
   have k3 := hkU.on (Kept.setCell (fun k => k = q) U ⟨q,1,none⟩ (.int .i64 ((i : Int) + 1)) rfl)
   have c5 := h3.cells.2.2
   have f5 := h3.thaw 2
   have H3 := hid h3; have K3 := hid k3
   clear hHeld h2 h3 k3 hU hkU
   go_wp2
   go_ret
   exact ⟨false,i + 1,0,rfl,HIN.out,H3.out,K3.out,Or.inr ⟨0,_,HCONS.out,rfl,rfl,rfl⟩⟩
  ·by_cases h1 : x = 1
   ·subst h1
    have hb0 : b = 1 := UInt8.toNat_inj.1 (by have := HX.out; show b.toNat = 1; omega)
    subst hb0
    clear h0
    go_wp2_with fail
    refine wp_region_held_drew (S := fun w' => Below w.heap.size w w') (by kernel_rfl) ?_ (fun hHeld => ?_)
    ·exact hHeld.drew
    refine takesH [0,1,2,3,4,5,6,7,8,9,10] ?_
    repeat
     refine takesH_one (v := ?_) ?_ ?_
     rotate_left
     ·first | (refine Or.inr ⟨by rfl,?_⟩; with_reducible rfl) | (refine Or.inl ⟨by rfl,?_⟩; intro wx hSw; (try dsimp only at hSw); first | (go_simp; first | done | with_reducible rfl) | (obtain ⟨⟨_,_,_⟩,_⟩ := HC6.out _ hSw; go_simp; first | done | with_reducible rfl))
     try simp only [Act.put,zq1,zq2,zq3,zq4,zq5,zq6]
    refine takesH_nil ?_
    refine wpAnyH_done (by kernel_rfl) ?_ _
    obtain ⟨U,hU⟩ : ∃ U,U = w.drew.drew := ⟨_,rfl⟩
    have hkU : KeptQ q w U := by rw [hU]; exact (Kept.refl _ _).drew.drew
    have h2 : RY U q (some ⟨g,o,none⟩) n c l i 0 := by rw [hU]; exact H.out.drew.drew
    try rw [<- hU]
    obtain ⟨_,c1,c2⟩ := h2.cells
    have f1 := h2.thaw 1
    have h3 : RY (U.setCell ⟨q,1,none⟩ (.int .i64 ((i : Int) + 1))) q (some ⟨g,o,none⟩) n c l (i + 1) 0 := h2.put1 (i + 1)
    have k3 := hkU.on (Kept.setCell (fun k => k = q) U ⟨q,1,none⟩ (.int .i64 ((i : Int) + 1)) rfl)
    have c5 := h3.cells.2.2
    have f5 := h3.thaw 2
    have H3 := hid h3; have K3 := hid k3
    clear hHeld h2 h3 k3 hU hkU
    go_wp2
    go_ret
    exact ⟨true,i + 1,0,rfl,HIN.out,H3.out,K3.out,Or.inr ⟨1,_,HCONS.out,rfl,rfl,rfl⟩⟩
   ·have e0 : (x == 0) = false := by simp; exact h0
    have e1 : (x == 1) = false := by simp; exact h1
    have n0 : (x != 0) = true := by simp; exact h0
    have n1 : (x != 1) = true := by simp; exact h1
    have nb0 : b ≠ 0 := fun e => h0 (by rw [<- HX.out,e]; rfl)
    have nb1 : b ≠ 1 := fun e => h1 (by rw [<- HX.out,e]; rfl)
    have HNB : Hid (false = decide (b = 1) /\ (6 : Int) = deadF b) := hid ⟨(decide_eq_false nb1).symm,by unfold deadF; rw [if_neg (fun h => h.elim nb0 nb1)]⟩
    clear nb0 nb1
    go_wp2_with fail
    refine wp_region_held_drew (S := fun w' => Below w.heap.size w w') (by kernel_rfl) ?_ (fun hHeld => ?_)
    ·exact hHeld.drew
    refine takesH [0,1,2,3,4,5,6,7,8,9,10] ?_
    repeat
     refine takesH_one (v := ?_) ?_ ?_
     rotate_left
     ·first | (refine Or.inr ⟨by rfl,?_⟩; with_reducible rfl) | (refine Or.inl ⟨by rfl,?_⟩; intro wx hSw; (try dsimp only at hSw); first | (go_simp; first | done | with_reducible rfl) | (obtain ⟨⟨_,_,_⟩,_⟩ := HC6.out _ hSw; go_simp; first | done | with_reducible rfl))
     try simp only [Act.put,zq1,zq2,zq3,zq4,zq5,zq6]
    refine takesH_nil ?_
    refine wpAnyH_done (by kernel_rfl) ?_ _
    obtain ⟨U,hU⟩ : ∃ U,U = w.drew.drew := ⟨_,rfl⟩
    have hkU : KeptQ q w U := by rw [hU]; exact (Kept.refl _ _).drew.drew
    have h2 : RY U q (some ⟨g,o,none⟩) n c l i 0 := by rw [hU]; exact H.out.drew.drew
    try rw [<- hU]
    obtain ⟨_,c1,c2⟩ := h2.cells
    have f1 := h2.thaw 1
    have h3 : RY (U.setCell ⟨q,1,none⟩ (.int .i64 ((i : Int) + 1))) q (some ⟨g,o,none⟩) n c l (i + 1) 0 := h2.put1 (i + 1)
    have k3 := hkU.on (Kept.setCell (fun k => k = q) U ⟨q,1,none⟩ (.int .i64 ((i : Int) + 1)) rfl)
    have c5 := h3.cells.2.2
    have f5 := h3.thaw 2
    have H3 := hid h3; have K3 := hid k3
    clear hHeld h2 h3 k3 hU hkU
    have H4 := hid (H3.out.put2 6)
    have K4 := hid (K3.out.on (Kept.setCell (fun k => k = q) _ ⟨q,2,none⟩ (.int .i64 6) rfl))
    go_wp2
    go_ret
    exact ⟨false,i + 1,6,rfl,HIN.out,H4.out,K4.out,Or.inr ⟨b,_,HCONS.out,rfl,HNB.out.1,HNB.out.2⟩⟩
theorem KeptQ.own {q p : Nat} {w w1 w2 : World} (h : KeptQ q w w1) (h' : Kept (fun k => k = p) w1 w2) (hp : w.heap.size <= p) : KeptQ q w w2 := Kept.trans h h' fun k hk => Or.inr (by subst hk; exact hp)
theorem KeptQ.new {q : Nat} {w w1 w2 : World} (h : KeptQ q w w1) (h' : Below w1.heap.size w1 w2) : KeptQ q w w2 := h.on (Kept.of_below h' _)
theorem Kept.atQ {F : Nat -> Prop} {w w' : World} {k : Nat} {o : Obj} (h : Kept F w w') (hk : w.heap[k]? = some o) (hf : ¬ F k) : w'.heap[k]? = some o := (h.block k (Array.getElem?_eq_some_iff.1 hk).1 hf).trans hk
theorem Went.skipQ {α : Type} {p : Pz α} {q : Pz α} {l : Bs} {i k : Nat} {f : Int} {x : α} (h : Went q l (i + 1) 0 x k f) (hp : p (l.drop i) = q (l.drop (i + 1))) : Went p l i 0 x k f :=
 ⟨fun e => Nat.le_of_succ_le (h.le e),h.len,fun h => absurd rfl h,fun a b => hp.trans (h.ok a b),fun a b => hp.trans (h.no a b)⟩
theorem set4q_block {w : World} {q : Nat} {v0 v1 v2 v3 : Value} (h : w.heap[q]? = some (.cells #[v0,v1,v2,v3] 42 (0,0))) (u0 u1 u2 u3 : Value) :
    ((((w.setCell ⟨q,0,none⟩ u0).setCell ⟨q,1,none⟩ u1).setCell ⟨q,2,none⟩ u2).setCell ⟨q,3,none⟩ u3).heap[q]? = some (.cells #[u0,u1,u2,u3] 42 (0,0)) := by
 have m := Joins.block_setCell (i := 0) h u0
 simp only [zq4,zq5,zq6] at m
 have m1 := Joins.block_setCell (i := 1) m u1
 simp only [zq4,zq5,zq6] at m1
 have m2 := Joins.block_setCell (i := 2) m1 u2
 simp only [zq4,zq5,zq6] at m2
 have m3 := Joins.block_setCell (i := 3) m2 u3
 simp only [zq4,zq5,zq6] at m3
 exact m3
theorem one4q {w : World} {q : Nat} {v0 v1 v2 v3 : Value} (h : w.heap[q]? = some (.cells #[v0,v1,v2,v3] 42 (0,0))) (u : Value) :
    (w.setCell ⟨q,0,none⟩ u).heap[q]? = some (.cells #[u,v1,v2,v3] 42 (0,0)) /\ (w.setCell ⟨q,1,none⟩ u).heap[q]? = some (.cells #[v0,u,v2,v3] 42 (0,0)) /\ (w.setCell ⟨q,3,none⟩ u).heap[q]? = some (.cells #[v0,v1,v2,u] 42 (0,0)) := by
 have m := Joins.block_setCell (i := 0) h u
 have m1 := Joins.block_setCell (i := 1) h u
 have m3 := Joins.block_setCell (i := 3) h u
 simp only [zq4,zq5,zq6] at m m1 m3
 exact ⟨m,m1,m3⟩
theorem kept_set4q {w : World} (q : Nat) (u0 u1 u2 u3 : Value) : Kept (fun k => k = q) w ((((w.setCell ⟨q,0,none⟩ u0).setCell ⟨q,1,none⟩ u1).setCell ⟨q,2,none⟩ u2).setCell ⟨q,3,none⟩ u3) :=
 (((Kept.setCell (fun k => k = q) w ⟨q,0,none⟩ u0 rfl).trans (Kept.setCell (fun k => k = q) _ ⟨q,1,none⟩ u1 rfl) fun _ h => Or.inl h).trans (Kept.setCell (fun k => k = q) _ ⟨q,2,none⟩ u2 rfl) fun _ h => Or.inl h).trans (Kept.setCell (fun k => k = q) _ ⟨q,3,none⟩ u3 rfl) fun _ h => Or.inl h
theorem tail_went {a ev : Int} (ha : a ≠ 0) {l : Bs} {j j2 j3 j4 : Nat} {f2 f3 f4 : Int} {v : ByteArray} (hj4 : j4 <= l.length)
    (hd : (l.drop j = [] /\ false = false /\ f2 = 8 /\ j2 = j) \/ (∃ b r,l.drop j = b :: r /\ j2 = j + 1 /\ false = decide (b = 1) /\ f2 = deadF b))
    (h1 : Went txtP l j2 f2 v j3 f3) (h2 : Went numP l j3 f3 ev j4 f4) : Went (tailP a) l j 0 (⟨v,false,a,ev⟩ : Ce) j4 f4 := by
 have hcons : ∀ b r,l.drop j = b :: r -> r = l.drop (j + 1) := fun b r hb => by
  rw [<- List.drop_drop,hb]
  rfl
 rcases hd with ⟨h0,_,rfl,rfl⟩ | ⟨b,r,hb,rfl,hb1,rfl⟩
 ·have e3 := h1.stays (by decide)
  have e4 := h2.stays (by rw [e3]; decide)
  rw [e4,e3]
  refine Went.bad _ 8 (by decide) hj4 ?_
  unfold tailP
  rw [if_neg ha,h0]
 ·have hn1 : b ≠ 1 := fun e => by rw [e] at hb1; cases hb1
  by_cases h0 : b = 0
  ·subst h0
   have hf : deadF 0 = 0 := rfl
   rw [hf] at h1
   have h3 := h1.bind (q := fun s => bindP numP fun e => retP (⟨s,false,a,e⟩ : Ce)) (h2.bind (q := fun e => retP (⟨v,false,a,e⟩ : Ce)) (Went.ret (⟨v,false,a,ev⟩ : Ce) h2.len f4))
   refine h3.skipQ ?_
   unfold tailP
   rw [if_neg ha,hb]
   dsimp only
   rw [if_pos rfl,hcons _ _ hb]
  ·have hf : deadF b = 6 := by unfold deadF; rw [if_neg (fun h => h.elim h0 hn1)]
   rw [hf] at h1
   have e3 := h1.stays (by decide)
   have e4 := h2.stays (by rw [e3]; decide)
   rw [e4,e3]
   refine Went.bad _ 6 (by decide) hj4 ?_
   unfold tailP
   rw [if_neg ha,hb]
   dsimp only
   rw [if_neg h0,if_neg hn1]
theorem ycell (q i n c : Nat) (e : Int) (A : Option Addr) (l : Bs) (w : World) (h : RY w q A n c l i e) (hi : i <= n) (hs : n <= 1000000000) :
    Calls Tryz.prog 253 #[.pointer (some ⟨q,0,none⟩)] w fun x w' => ∃ (y : Ce) (j : Nat) (f : Int),x = .returned (.agg #[.string y.s,.bool y.d,.int .i64 y.a,.int .i64 y.e]) /\ y.s.size <= n /\ j <= n /\ RY w' q A n c l j f /\ KeptQ q w w' /\ Went cellP l i e y j f := by
 have hqw := h.lt
 have hl := h.len
 have bz := (Below.refl w.heap.size w).alloc (Nat.le_refl _) (.cells #[.string ⟨#[]⟩,.bool false,.int .i64 0,.int .i64 0] 42)
 have hz := heap_alloc_new w (.cells #[.string ⟨#[]⟩,.bool false,.int .i64 0,.int .i64 0] 42)
 have h0 := h.below bz
 obtain ⟨V,hV⟩ : ∃ V,V = w.alloc (.cells #[.string ⟨#[]⟩,.bool false,.int .i64 0,.int .i64 0] 42) := ⟨_,rfl⟩
 have hVs : V.heap.size = w.heap.size + 1 := by rw [hV]; simp
 rw [<- hV] at bz hz h0
 have H0 := hid h0; have HZ0 := hid hz; have BZ := hid bz; have HVS := hid hVs; have HQ := hid hqw; have HS := hid hs; have HL := hid hl
 clear h bz hz h0 hVs hqw hs hl
 go_enter Tryz.func253,Tryz.ntmps253
 go_wp2_with fail
 rw [<- hV]
 clear hV
 refine (ystamp q i n c e A l _ H0.out hi HS.out).mono ?_
 rintro x w1 ⟨a,j,f,rfl,ha,hf0,hj,h1,k1,hw⟩
 have hw1s : V.heap.size <= w1.heap.size := k1.size
 have hz1 := Kept.atQ k1 HZ0.out (by have := HQ.out; omega)
 have ba := (Below.refl w1.heap.size w1).alloc (Nat.le_refl _) (.cells #[.string ⟨#[]⟩,.bool false,.int .i64 a,.int .i64 0] 42)
 have hpu := heap_alloc_new w1 (.cells #[.string ⟨#[]⟩,.bool false,.int .i64 a,.int .i64 0] 42)
 have hzu := (ba.block w.heap.size (by have := HVS.out; omega)).trans hz1
 have hru := h1.below ba
 have hku : KeptQ q w (w1.alloc (.cells #[.string ⟨#[]⟩,.bool false,.int .i64 a,.int .i64 0] 42)) := KeptQ.new (KeptQ.on (Kept.of_below BZ.out _) k1) ba
 have hus : (w1.alloc (.cells #[.string ⟨#[]⟩,.bool false,.int .i64 a,.int .i64 0] 42)).heap.size = w1.heap.size + 1 := by simp
 have HSZ : Hid ((⟨#[]⟩ : ByteArray).size <= n) := hid (Nat.zero_le _)
 have l2 := cell_at (i := 2) hpu rfl
 by_cases ha0 : a = 0
 ·have e1 : (a == 0) = true := by rw [ha0]; rfl
  have hw2 : Went cellP l i e (⟨⟨#[]⟩,false,a,0⟩ : Ce) j f := hw.bind ((Went.ret (⟨⟨#[]⟩,false,a,0⟩ : Ce) hw.len f).same fun _ => by rw [ha0]; rfl)
  have HW := hid hw2; have HP := hid hpu; have HZ := hid hzu; have HRB := hid hru; have HK := hid hku; have HJN := hid hj
  clear hw hw2 hpu hzu hru hku hus h1 k1 hz1 ba hi hw1s ha0 hf0
  have k0 := cell_at (i := 0) HP.out rfl
  have k1 := cell_at (i := 1) HP.out rfl
  have k2 := cell_at (i := 2) HP.out rfl
  have k3 := cell_at (i := 3) HP.out rfl
  have z0 := cell_at (i := 0) HZ.out rfl
  have z1 := cell_at (i := 1) HZ.out rfl
  have z2 := cell_at (i := 2) HZ.out rfl
  have z3 := cell_at (i := 3) HZ.out rfl
  have y0 := thawed_at (i := 0) HZ.out
  have y1 := thawed_at (i := 1) HZ.out
  have y2 := thawed_at (i := 2) HZ.out
  have y3 := thawed_at (i := 3) HZ.out
  have m9 := set4q_block HZ.out (.string (⟨#[]⟩ : ByteArray)) (.bool false) (.int .i64 a) (.int .i64 0)
  have n9 := kept_set4q (w := (w1.alloc (.cells #[.string ⟨#[]⟩,.bool false,.int .i64 a,.int .i64 0] 42))) w.heap.size (.string (⟨#[]⟩ : ByteArray)) (.bool false) (.int .i64 a) (.int .i64 0)
  have K9 := hid (HK.out.own n9 (Nat.le_refl _))
  have R9 := hid (RY.other HRB.out n9 HQ.out)
  clear n9
  go_wp2
  generalize (((World.setCell (w1.alloc (.cells #[.string ⟨#[]⟩,.bool false,.int .i64 a,.int .i64 0] 42)) ⟨w.heap.size,0,none⟩ (.string (⟨#[]⟩ : ByteArray))).setCell ⟨w.heap.size,1,none⟩ (.bool false)).setCell ⟨w.heap.size,2,none⟩ (.int .i64 a)).setCell ⟨w.heap.size,3,none⟩ (.int .i64 0) = w9 at m9 K9 R9 ⊢
  clear z0 z1 z2 z3 y0 y1 y2 y3 k0 k1 k2 k3
  have q0 := cell_at (i := 0) m9 rfl
  have q1 := cell_at (i := 1) m9 rfl
  have q2 := cell_at (i := 2) m9 rfl
  have q3 := cell_at (i := 3) m9 rfl
  refine bodyPost_ret (v := .agg #[.string (⟨#[]⟩ : ByteArray),.bool false,.int .i64 a,.int .i64 0]) ?_ rfl ?_
  ·simp [results,Tryz.results253,go_sem,q0,q1,q2,q3]
  ·exact ⟨⟨(⟨#[]⟩ : ByteArray),false,a,0⟩,_,_,rfl,HSZ.out,HJN.out,R9.out,K9.out,HW.out⟩
 ·have e1 : (a == 0) = false := by simp; exact ha0
  have hf : f = 0 := Decidable.byContradiction fun hf => ha0 (hf0 hf)
  subst hf
  obtain ⟨U,hU⟩ : ∃ U,U = w1.alloc (.cells #[.string ⟨#[]⟩,.bool false,.int .i64 a,.int .i64 0] 42) := ⟨_,rfl⟩
  rw [<- hU] at hpu hzu hru hku hus
  have HPU := hid hpu; have HZU := hid hzu; have HRU := hid hru; have HKU := hid hku; have HUS := hid hus; have HWN := hid hw; have HA := hid ha; have HA0 := hid ha0
  have HWQ : Hid (w.heap.size < w1.heap.size /\ q < w1.heap.size) := hid ⟨by have := HVS.out; omega,h1.lt⟩
  have HJ := hid hj
  clear hw hpu hzu hru hku hus h1 k1 hz1 ba hi hw1s ha hj hf0
  go_wp2_with fail
  try rw [<- hU]
  clear hU l2
  refine (ydead q j n c A l U HRU.out HJ.out HS.out).mono ?_
  rintro x w2 ⟨d,j2,f2,rfl,hj2,h2,k2,hd⟩
  have hp2 := Kept.atQ k2 HPU.out (by have := HWQ.out; omega)
  have hz2 := Kept.atQ k2 HZU.out (by have := HQ.out; omega)
  have hc1 := cell_at (i := 1) hp2 rfl
  have hf1 := thawed_at (i := 1) hp2
  have m1 := (one4q hp2 (.bool d)).2.1
  have n1 := Kept.setCell (fun k => k = w1.heap.size) w2 ⟨w1.heap.size,1,none⟩ (.bool d) rfl
  have HP3 := hid m1
  have HZ3 := hid (Kept.atQ n1 hz2 (by have := HWQ.out; omega))
  have HR3 := hid (RY.other h2 n1 HWQ.out.2)
  have HK3 := hid ((HKU.out.on k2).own n1 (by have := HWQ.out; omega))
  have HD := hid hd; have HJ2 := hid hj2
  clear hp2 hz2 m1 n1 h2 k2 hd hj2 HPU HZU HRU HKU
  cases d with
  | true =>
    have hw2 : Went cellP l i e (⟨⟨#[]⟩,true,a,0⟩ : Ce) j2 f2 := by
     refine HWN.out.bind ?_
     rcases HD.out with ⟨_,h,_⟩ | ⟨b,r,hb,rfl,hb1,rfl⟩
     ·cases h
     ·have hb1 : b = 1 := of_decide_eq_true hb1.symm
      subst hb1
      have hf : deadF 1 = 0 := rfl
      rw [hf]
      refine ⟨fun _ => Nat.le_succ _,by have := HL.out; have := HJ2.out; omega,fun h => absurd rfl h,fun _ _ => ?_,fun _ h => absurd rfl h⟩
      have hr : r = l.drop (j + 1) := by rw [<- List.drop_drop,hb]; rfl
      unfold tailP
      rw [if_neg HA0.out,hb]
      dsimp only
      rw [if_neg (by decide),if_pos rfl,hr]
    have HW := hid hw2
    clear hw2 HD
    have HP := HP3; have HZ := HZ3; have HRB := HR3; have HK := HK3; have HJN := HJ2
    have k0 := cell_at (i := 0) HP.out rfl
    have k1 := cell_at (i := 1) HP.out rfl
    have k2 := cell_at (i := 2) HP.out rfl
    have k3 := cell_at (i := 3) HP.out rfl
    have z0 := cell_at (i := 0) HZ.out rfl
    have z1 := cell_at (i := 1) HZ.out rfl
    have z2 := cell_at (i := 2) HZ.out rfl
    have z3 := cell_at (i := 3) HZ.out rfl
    have y0 := thawed_at (i := 0) HZ.out
    have y1 := thawed_at (i := 1) HZ.out
    have y2 := thawed_at (i := 2) HZ.out
    have y3 := thawed_at (i := 3) HZ.out
    have m9 := set4q_block HZ.out (.string (⟨#[]⟩ : ByteArray)) (.bool true) (.int .i64 a) (.int .i64 0)
    have n9 := kept_set4q (w := (w2.setCell ⟨w1.heap.size,1,none⟩ (.bool true))) w.heap.size (.string (⟨#[]⟩ : ByteArray)) (.bool true) (.int .i64 a) (.int .i64 0)
    have K9 := hid (HK.out.own n9 (Nat.le_refl _))
    have R9 := hid (RY.other HRB.out n9 HQ.out)
    clear n9
    go_wp2
    generalize (((World.setCell (w2.setCell ⟨w1.heap.size,1,none⟩ (.bool true)) ⟨w.heap.size,0,none⟩ (.string (⟨#[]⟩ : ByteArray))).setCell ⟨w.heap.size,1,none⟩ (.bool true)).setCell ⟨w.heap.size,2,none⟩ (.int .i64 a)).setCell ⟨w.heap.size,3,none⟩ (.int .i64 0) = w9 at m9 K9 R9 ⊢
    clear z0 z1 z2 z3 y0 y1 y2 y3 k0 k1 k2 k3
    have q0 := cell_at (i := 0) m9 rfl
    have q1 := cell_at (i := 1) m9 rfl
    have q2 := cell_at (i := 2) m9 rfl
    have q3 := cell_at (i := 3) m9 rfl
    refine bodyPost_ret (v := .agg #[.string (⟨#[]⟩ : ByteArray),.bool true,.int .i64 a,.int .i64 0]) ?_ rfl ?_
    ·simp [results,Tryz.results253,go_sem,q0,q1,q2,q3]
    ·exact ⟨⟨(⟨#[]⟩ : ByteArray),true,a,0⟩,_,_,rfl,HSZ.out,HJN.out,R9.out,K9.out,HW.out⟩
  | false =>
    go_wp2_with fail
    clear hc1 hf1
    obtain ⟨X,hX⟩ : ∃ X,X = w2.setCell ⟨w1.heap.size,1,none⟩ (.bool false) := ⟨_,rfl⟩
    rw [<- hX] at HP3 HZ3 HR3 HK3 ⊢
    clear hX
    refine (ytext q j2 n c f2 A l X HR3.out HJ2.out HS.out).mono ?_
    rintro x w3 ⟨v,j3,f3,rfl,hvs,hj3,h3,k3,hw3⟩
    have hp4 := Kept.atQ k3 HP3.out (by have := HWQ.out; omega)
    have hz4 := Kept.atQ k3 HZ3.out (by have := HQ.out; omega)
    have hc0 := cell_at (i := 0) hp4 rfl
    have hf0 := thawed_at (i := 0) hp4
    have m0 := (one4q hp4 (.string v)).1
    have n0 := Kept.setCell (fun k => k = w1.heap.size) w3 ⟨w1.heap.size,0,none⟩ (.string v) rfl
    have HP4 := hid m0
    have HZ4 := hid (Kept.atQ n0 hz4 (by have := HWQ.out; omega))
    have HR4 := hid (RY.other h3 n0 HWQ.out.2)
    have HK4 := hid ((HK3.out.on k3).own n0 (by have := HWQ.out; omega))
    have HW3 := hid hw3; have HJ3 := hid hj3
    have HSZ2 := hid hvs
    clear hp4 hz4 m0 n0 h3 k3 hw3 hj3 hvs HP3 HZ3 HR3 HK3
    go_wp2_with fail
    clear hc0 hf0
    obtain ⟨Y,hY⟩ : ∃ Y,Y = w3.setCell ⟨w1.heap.size,0,none⟩ (.string v) := ⟨_,rfl⟩
    rw [<- hY] at HP4 HZ4 HR4 HK4 ⊢
    clear hY
    refine (ystamp q j3 n c f3 A l Y HR4.out HJ3.out HS.out).mono ?_
    rintro x w4 ⟨ev,j4,f4,rfl,_,_,hj4,h4,k4,hw4⟩
    have hp5 := Kept.atQ k4 HP4.out (by have := HWQ.out; omega)
    have hz5 := Kept.atQ k4 HZ4.out (by have := HQ.out; omega)
    have hc3 := cell_at (i := 3) hp5 rfl
    have hf3 := thawed_at (i := 3) hp5
    have m3 := (one4q hp5 (.int .i64 ev)).2.2
    have n3 := Kept.setCell (fun k => k = w1.heap.size) w4 ⟨w1.heap.size,3,none⟩ (.int .i64 ev) rfl
    have HP := hid m3
    have HZ := hid (Kept.atQ n3 hz5 (by have := HWQ.out; omega))
    have HRB := hid (RY.other h4 n3 HWQ.out.2)
    have HK := hid ((HK4.out.on k4).own n3 (by have := HWQ.out; omega))
    have HW : Hid (Went cellP l i e (⟨v,false,a,ev⟩ : Ce) j4 f4) := hid (HWN.out.bind (tail_went HA0.out (by have := HL.out; omega) (HD.out.imp (fun h => ⟨h.1,rfl,h.2.2⟩) id) HW3.out hw4))
    have HJN := hid hj4
    clear hp5 hz5 m3 n3 h4 k4 hw4 hj4 HP4 HZ4 HR4 HK4 HW3 HWN HD HSZ
    have HSZ := HSZ2
    have k0 := cell_at (i := 0) HP.out rfl
    have k1 := cell_at (i := 1) HP.out rfl
    have k2 := cell_at (i := 2) HP.out rfl
    have k3 := cell_at (i := 3) HP.out rfl
    have z0 := cell_at (i := 0) HZ.out rfl
    have z1 := cell_at (i := 1) HZ.out rfl
    have z2 := cell_at (i := 2) HZ.out rfl
    have z3 := cell_at (i := 3) HZ.out rfl
    have y0 := thawed_at (i := 0) HZ.out
    have y1 := thawed_at (i := 1) HZ.out
    have y2 := thawed_at (i := 2) HZ.out
    have y3 := thawed_at (i := 3) HZ.out
    have m9 := set4q_block HZ.out (.string v) (.bool false) (.int .i64 a) (.int .i64 ev)
    have n9 := kept_set4q (w := (w4.setCell ⟨w1.heap.size,3,none⟩ (.int .i64 ev))) w.heap.size (.string v) (.bool false) (.int .i64 a) (.int .i64 ev)
    have K9 := hid (HK.out.own n9 (Nat.le_refl _))
    have R9 := hid (RY.other HRB.out n9 HQ.out)
    clear n9
    go_wp2
    generalize (((World.setCell (w4.setCell ⟨w1.heap.size,3,none⟩ (.int .i64 ev)) ⟨w.heap.size,0,none⟩ (.string v)).setCell ⟨w.heap.size,1,none⟩ (.bool false)).setCell ⟨w.heap.size,2,none⟩ (.int .i64 a)).setCell ⟨w.heap.size,3,none⟩ (.int .i64 ev) = w9 at m9 K9 R9 ⊢
    clear z0 z1 z2 z3 y0 y1 y2 y3 k0 k1 k2 k3
    have q0 := cell_at (i := 0) m9 rfl
    have q1 := cell_at (i := 1) m9 rfl
    have q2 := cell_at (i := 2) m9 rfl
    have q3 := cell_at (i := 3) m9 rfl
    refine bodyPost_ret (v := .agg #[.string v,.bool false,.int .i64 a,.int .i64 ev]) ?_ rfl ?_
    ·simp [results,Tryz.results253,go_sem,q0,q1,q2,q3]
    ·exact ⟨⟨v,false,a,ev⟩,_,_,rfl,HSZ.out,HJN.out,R9.out,K9.out,HW.out⟩
theorem Went.any {α : Type} {p : Pz α} {l : Bs} {i j : Nat} {e f : Int} {x : α} (h : Went p l i e x j f) (hf : f ≠ 0) (y : α) : Went p l i e y j f := ⟨fun e => absurd e hf,h.len,h.stays,fun _ e => absurd e hf,h.no⟩
theorem own_geQ {w : World} {b n size : Nat} {e : TypeId} {v : Value} {xs : List Value} (h : w.ownsRow b e size v n xs) : ∀ g,v.ownBlock = some g -> b <= g := fun g hg => (World.ownsRow.lt h g hg).1
theorem KeptQ.grown {q : Nat} {w w1 w2 : World} {n size : Nat} {e : TypeId} {v : Value} {xs : List Value} (h : KeptQ q w w1) (ho : w1.ownsRow w.heap.size e size v n xs) (hg : w1.grownBy w2 v.ownBlock) : KeptQ q w w2 :=
 Kept.trans h (Kept.of_grown (F := fun k => v.ownBlock = some k) hg fun k hk => hk) fun k hk => Or.inr (own_geQ ho k hk)
theorem own_neQ {w : World} {b n size : Nat} {e e' : TypeId} {v : Value} {xs : List Value} {r : Nat} {cs : Array Value} (h : w.ownsRow b e size v n xs) (hr : w.heap[r]? = some (.cells cs e' (0,0))) (he : e ≠ e') : ∀ g,v.ownBlock = some g -> g ≠ r := fun g hg hgr => by
 subst hgr
 obtain ⟨cs',h1⟩ := own_tag h g hg
 rw [h1] at hr
 injection hr with hr
 injection hr with _ h2
 exact he h2
theorem own_keptQ {w w' : World} {b n size : Nat} {e e' : TypeId} {v : Value} {xs : List Value} {r : Nat} {cs : Array Value} (h : w.ownsRow b e size v n xs) (hk : Kept (fun k => k = r) w w') (hr : w.heap[r]? = some (.cells cs e' (0,0))) (he : e ≠ e') : w'.ownsRow b e size v n xs :=
 own_kept h fun g hg => hk.block g (own_block_lt h g hg) fun hf => own_neQ h hr he g hg hf
theorem RY.grown {w w' : World} {q n c i m size : Nat} {A : Option Addr} {l : Bs} {e : Int} {ty : TypeId} {v : Value} {xs : List Value} {B : Nat} (h : RY w q A n c l i e) (ho : w.ownsRow B ty size v m xs) (hq : q < B) (hg : w.grownBy w' v.ownBlock) : RY w' q A n c l i e :=
 have hk : ∀ k,k <= q -> w'.heap[k]? = w.heap[k]? := fun k hk => hg.block k (by have := h.lt; omega) fun hp => by
  have := own_geQ ho k hp.symm
  omega
 ⟨(hk q (Nat.le_refl _)).trans h.blk,h.rd.keep fun p hp => by
   have := hk p.block (by omega)
   unfold World.cell?
   rw [this],h.cap,h.max,h.nil⟩
theorem set5_block {w : World} {q : Nat} {v0 v1 v2 v3 v4 : Value} {T : TypeId} (h : w.heap[q]? = some (.cells #[v0,v1,v2,v3,v4] T (0,0))) (u0 u1 u2 u3 u4 : Value) :
    (((((w.setCell ⟨q,0,none⟩ u0).setCell ⟨q,1,none⟩ u1).setCell ⟨q,2,none⟩ u2).setCell ⟨q,3,none⟩ u3).setCell ⟨q,4,none⟩ u4).heap[q]? = some (.cells #[u0,u1,u2,u3,u4] T (0,0)) := by
 have m := Joins.block_setCell (i := 0) h u0
 simp only [zq4,zq5,zq6] at m
 have m1 := Joins.block_setCell (i := 1) m u1
 simp only [zq4,zq5,zq6] at m1
 have m2 := Joins.block_setCell (i := 2) m1 u2
 simp only [zq4,zq5,zq6] at m2
 have m3 := Joins.block_setCell (i := 3) m2 u3
 simp only [zq4,zq5,zq6] at m3
 have m4 := Joins.block_setCell (i := 4) m3 u4
 simp only [zq4,zq5,zq6] at m4
 exact m4
theorem kept_set5 {w : World} (q : Nat) (u0 u1 u2 u3 u4 : Value) : Kept (fun k => k = q) w (((((w.setCell ⟨q,0,none⟩ u0).setCell ⟨q,1,none⟩ u1).setCell ⟨q,2,none⟩ u2).setCell ⟨q,3,none⟩ u3).setCell ⟨q,4,none⟩ u4) :=
 (kept_set4q q u0 u1 u2 u3).trans (Kept.setCell (fun k => k = q) _ ⟨q,4,none⟩ u4 rfl) fun _ h => Or.inl h
theorem ycol (q i n c : Nat) (e : Int) (A : Option Addr) (l : Bs) (w : World) (h : RY w q A n c l i e) (hi : i <= n) (hs : n <= 1000000000) :
    Calls Tryz.prog 255 #[.pointer (some ⟨q,0,none⟩)] w fun x w' => ∃ (y : ByteArray × Ce) (j : Nat) (f : Int),x = .returned (.agg #[.string y.1,.string y.2.s,.bool y.2.d,.int .i64 y.2.a,.int .i64 y.2.e]) /\ y.1.size <= n /\ y.2.s.size <= n /\ j <= n /\ RY w' q A n c l j f /\ KeptQ q w w' /\ Went colP l i e y j f := by
 have hqw := h.lt
 have bz := (Below.refl w.heap.size w).alloc (Nat.le_refl _) (.cells #[.string ⟨#[]⟩,.string ⟨#[]⟩,.bool false,.int .i64 0,.int .i64 0] 282)
 have hz := heap_alloc_new w (.cells #[.string ⟨#[]⟩,.string ⟨#[]⟩,.bool false,.int .i64 0,.int .i64 0] 282)
 have h0 := h.below bz
 obtain ⟨V,hV⟩ : ∃ V,V = w.alloc (.cells #[.string ⟨#[]⟩,.string ⟨#[]⟩,.bool false,.int .i64 0,.int .i64 0] 282) := ⟨_,rfl⟩
 rw [<- hV] at bz hz h0
 have H0 := hid h0; have HZ0 := hid hz; have BZ := hid bz; have HQ := hid hqw; have HS := hid hs
 clear h bz hz h0 hqw hs
 go_enter Tryz.func255,Tryz.ntmps255
 go_wp2_with fail
 rw [<- hV]
 clear hV
 refine (ytext q i n c e A l _ H0.out hi HS.out).mono ?_
 rintro x w1 ⟨v,j1,f1,rfl,hv,hj1,h1,k1,hw1⟩
 have H1 := hid h1; have HZ1 := hid (Kept.atQ k1 HZ0.out (by have := HQ.out; omega)); have K1 := hid (KeptQ.on (Kept.of_below BZ.out _) k1); have HW1 := hid hw1; have HV := hid hv; have HJ1 := hid hj1
 clear h1 k1 hw1 hv hj1 hi
 go_wp2_with fail
 refine (ycell q j1 n c f1 A l _ H1.out HJ1.out HS.out).mono ?_
 rintro x w2 ⟨⟨cs,cd,ca,ce⟩,j2,f2,rfl,hcs,hj2,h2,k2,hw2⟩
 have HZ2 := hid (Kept.atQ k2 HZ1.out (by have := HQ.out; omega))
 have z0 := cell_at (i := 0) HZ2.out rfl
 have z1 := cell_at (i := 1) HZ2.out rfl
 have z2 := cell_at (i := 2) HZ2.out rfl
 have z3 := cell_at (i := 3) HZ2.out rfl
 have z4 := cell_at (i := 4) HZ2.out rfl
 have y0 := thawed_at (i := 0) HZ2.out
 have y1 := thawed_at (i := 1) HZ2.out
 have y2 := thawed_at (i := 2) HZ2.out
 have y3 := thawed_at (i := 3) HZ2.out
 have y4 := thawed_at (i := 4) HZ2.out
 have m9 := set5_block HZ2.out (.string v) (.string cs) (.bool cd) (.int .i64 ca) (.int .i64 ce)
 have n9 := kept_set5 (w := w2) w.heap.size (.string v) (.string cs) (.bool cd) (.int .i64 ca) (.int .i64 ce)
 have R9 := hid (RY.other h2 n9 HQ.out)
 have K9 := hid ((K1.out.on k2).own n9 (Nat.le_refl _))
 have HW : Hid (Went colP l i e ((v,⟨cs,cd,ca,ce⟩) : ByteArray × Ce) j2 f2) := hid (HW1.out.bind (hw2.bind (Went.ret _ hw2.len f2)))
 have HC := hid hcs; have HJ := hid hj2
 clear n9 h2 k2 hw2 hcs hj2
 go_wp2
 generalize ((((World.setCell w2 ⟨w.heap.size,0,none⟩ (.string v)).setCell ⟨w.heap.size,1,none⟩ (.string cs)).setCell ⟨w.heap.size,2,none⟩ (.bool cd)).setCell ⟨w.heap.size,3,none⟩ (.int .i64 ca)).setCell ⟨w.heap.size,4,none⟩ (.int .i64 ce) = w9 at m9 K9 R9 ⊢
 clear z0 z1 z2 z3 z4 y0 y1 y2 y3 y4
 have q0 := cell_at (i := 0) m9 rfl
 have q1 := cell_at (i := 1) m9 rfl
 have q2 := cell_at (i := 2) m9 rfl
 have q3 := cell_at (i := 3) m9 rfl
 have q4 := cell_at (i := 4) m9 rfl
 refine bodyPost_ret (v := .agg #[.string v,.string cs,.bool cd,.int .i64 ca,.int .i64 ce]) ?_ rfl ?_
 ·simp [results,Tryz.results255,go_sem,q0,q1,q2,q3,q4]
 ·exact ⟨(v,⟨cs,cd,ca,ce⟩),j2,f2,rfl,HV.out,HC.out,HJ.out,R9.out,K9.out,HW.out⟩
def OwnKQ (w0 w : World) (A : Option Addr) (t c : Nat) (K : Cols) : Prop := w.ownsRow w0.heap.size 282 5 (.slice A t c) t (kRow K)
theorem OwnKQ.on {w0 w w' : World} {A : Option Addr} {t c : Nat} {K : Cols} (h : OwnKQ w0 w A t c K) (hb : Below w.heap.size w w') : OwnKQ w0 w' A t c K := own_below h hb
theorem OwnKQ.kept1 {w0 w w' : World} {A : Option Addr} {t c r : Nat} {K : Cols} {cs : Array Value} {e : TypeId} (h : OwnKQ w0 w A t c K) (hk : Kept (fun k => k = r) w w') (hr : w.heap[r]? = some (.cells cs e (0,0))) (he : 282 ≠ e) : OwnKQ w0 w' A t c K := own_keptQ h hk hr he
theorem ycols (q i n c : Nat) (e : Int) (A : Option Addr) (l : Bs) (w : World) (h : RY w q A n c l i e) (hi : i <= n) (hs : n <= 900000) :
    Calls Tryz.prog 254 #[.pointer (some ⟨q,0,none⟩),.func (.func 255) #[] #[]] w fun x w' => ∃ (Ks : List (ByteArray × Ce)) (A' : Option Addr) (m c' j : Nat) (f : Int),x = .returned (.slice A' m c') /\ OwnKQ w w' A' m c' Ks /\ Ks.length = m /\ m <= n /\ j <= n /\ RY w' q A n c l j f /\ KeptQ q w w' /\ Went (listP colP) l i e (Ks) j f := by
 have hqw := h.lt
 have HQ := hid hqw; have HS := hid hs
 go_enter Tryz.func254,Tryz.ntmps254
 go_wp2_with fail
 refine (ycount q i n c e A l w h hi (by omega)).mono ?_
 rintro x w1 ⟨m,j0,f0,rfl,hm,hf00,hj0,h1,k1,hw1⟩
 have hmn : m <= n := by omega
 have HM := hid hmn; have HF0 := hid hf00; have HJ0 := hid hj0; have H1 := hid h1; have K1 := hid k1; have HW1 := hid hw1
 clear hm hf00 hj0 h1 k1 hw1 h hi hs hqw hmn
 go_wp2_with fail
 go_loopw [5,9] (fun a i' wr => ∃ (t : Nat) (Ks : List (ByteArray × Ce)) (A' : Option Addr) (c' j : Nat) (f : Int),a = .slice A' t c' /\ i' = .int .i64 t /\ Ks.length = t /\ t <= m /\ (f ≠ 0 -> m = 0) /\ j <= n /\ RY wr q A n c l j f /\ KeptQ q w wr /\ (OwnKQ w wr A' t c' Ks) /\ Loops colP l m j0 f0 (Ks) j f) (fun _ i' _ => m - (intOf i').toNat)
 case atStart => exact ⟨0,[],none,0,j0,f0,rfl,rfl,rfl,Nat.zero_le _,HF0.out,HJ0.out,H1.out,K1.out,own_nilK _ _,Loops.start _ _ HW1.out.len _⟩
 case round =>
  obtain ⟨t,Ks,A3,c3,j,f,rfl,rfl,ht,htm,hfm,hj,hr,hk,hmine,hl⟩ := hrel
  have i8 : m <= 900000 := by have := HM.out; have := HS.out; omega
  have HRY := hid hr; have HKR := hid hk; have HLR := hid hl; have HT := hid ht; have HJ := hid hj; have HFM := hid hfm
  clear hr hk hl ht hj hfm
  by_cases hlt : t < m
  ·have i1 : (t : Int) < m := by omega
   have hf : f = 0 := Decidable.byContradiction fun hf => by have := HFM.out hf; omega
   subst hf
   have HMI := hid hmine
   clear hmine
   go_wp2_with fail
   refine (ycol q j n c 0 A l wr HRY.out HJ.out (by have := HS.out; omega)).mono ?_
   rintro x w2 ⟨y,j2,f2,rfl,hy1,hy2,hj2,h2,k2,hw2⟩
   have hmine := HMI.out
   have hm2 := hmine.kept1 k2 HRY.out.blk (by decide)
   have hk2 := HKR.out.on k2
   have ba := (Below.refl w2.heap.size w2).alloc (Nat.le_refl _) (.cells #[.string y.1,.string y.2.s,.bool y.2.d,.int .i64 y.2.a,.int .i64 y.2.e] 282)
   have hstep := HLR.out.step (by rw [HT.out]; exact hlt) hw2
   by_cases hf2 : f2 = 0
   ·subst hf2
    obtain ⟨U,hU⟩ : ∃ U,U = w2.alloc (.cells #[.string y.1,.string y.2.s,.bool y.2.d,.int .i64 y.2.a,.int .i64 y.2.e] 282) := ⟨_,rfl⟩
    have ba2 := (Below.refl (w2.alloc (.cells #[.string y.1,.string y.2.s,.bool y.2.d,.int .i64 y.2.a,.int .i64 y.2.e] 282)).heap.size (w2.alloc (.cells #[.string y.1,.string y.2.s,.bool y.2.d,.int .i64 y.2.a,.int .i64 y.2.e] 282))).alloc (Nat.le_refl _) (.cells #[.string y.1,.string y.2.s,.bool y.2.d,.int .i64 y.2.a,.int .i64 y.2.e] 282)
    have hm8 := (hm2.on ba).on ba2
    have h8 := (h2.below ba).below ba2
    have hk8 := (hk2.new ba).new ba2
    have hsz8 : (w2.alloc (.cells #[.string y.1,.string y.2.s,.bool y.2.d,.int .i64 y.2.a,.int .i64 y.2.e] 282)).heap.size = w2.heap.size + 1 := by simp
    have hrd8 := RdK.one (w2.alloc (.cells #[.string y.1,.string y.2.s,.bool y.2.d,.int .i64 y.2.a,.int .i64 y.2.e] 282)) y (w2.heap.size + 1) (by simp)
    try rw [hsz8] at hrd8
    have HRD8 := hid hrd8
    clear hU hsz8 hrd8
    have HM8 := hid hm8; have H8 := hid h8; have HK8 := hid hk8; have HST := hid hstep; have HJ2 := hid hj2
    obtain ⟨_,_,_⟩ := (h2.below ba).cells
    clear hm8 h8 hk8 hstep hj2 hw2 h2 k2 hm2 hk2 hmine hy1 hy2 ba ba2
    go_wp2_with (at_builtin; refine list_ex rfl (.tmp 19) (.tmp 21) _ _ rfl (.slice A3 t c3) (.slice (some ⟨w2.heap.size + 1,0,none⟩) 1 1) rfl rfl (run_appK w.heap.size HM8.out HRD8.out ?s3 ?s4) ?_)
    case s3 => omega
    case s4 => exact HK8.out.size
    intro v9 w9 ho9 hg9 _
    obtain ⟨A9,c9,rfl,_⟩ := own_slice ho9
    have h9 := H8.out.grown HM8.out HQ.out hg9
    have hk9 := HK8.out.grown HM8.out hg9
    have hm9 : OwnKQ w w9 A9 (t + 1) c9 (Ks ++ [y]) := ho9
    have H9 := hid h9; have HK9 := hid hk9; have HM9 := hid hm9
    clear h9 hk9 hm9 ho9 hg9
    go_wp2
    go_roundw
    case rel => exact ⟨t + 1,Ks ++ [y],A9,c9,j2,0,rfl,by go_num,by rw [List.length_append,HT.out]; rfl,by omega,fun h => absurd rfl h,HJ2.out,H9.out,HK9.out,HM9.out,by exact HST.out⟩
    case measure => simp [intOf]; omega
   ·have e0 : (f2 == 0) = false := by simp; exact hf2
    have hw := (Loops.list HW1.out hstep (fun e => absurd e hf2)).any hf2 ([] : List (ByteArray × Ce))
    have HW := hid hw; have HJ2 := hid hj2; have HH := hid (h2.below ba); have HKK := hid (hk2.new ba)
    obtain ⟨_,_,_⟩ := HH.out.cells
    clear hw hstep hw2 h2 k2 hm2 hk2 hmine hj2 hf2 hy1 hy2 ba
    go_wp2
    go_ret
    exact ⟨[],none,0,0,j2,f2,rfl,own_nilK _ _,rfl,Nat.zero_le _,HJ2.out,HH.out,HKK.out,HW.out⟩
  ·obtain rfl : t = m := by omega
   have hw := Loops.list HW1.out HLR.out (fun _ => by rw [HT.out])
   have HW := hid hw; have HMI := hid hmine
   clear hw hmine
   go_wp2
   go_ret
   exact ⟨Ks,A3,t,c3,j,f,rfl,HMI.out,HT.out,HM.out,HJ.out,HRY.out,HKR.out,HW.out⟩
theorem btS_of {x : BA} (h : x.bt.ok = true) : BtS x := by
 have hg := Bt.gd_of h
 rw [bt_ok] at h
 simp only [Bool.and_eq_true,decide_eq_true_iff,List.all_eq_true] at h
 obtain ⟨⟨⟨h1,h2⟩,h3,h4⟩,h5,h6⟩ := h
 refine ⟨fun y hy => ?_,fun y hy => ?_,fun y hy => ?_,by omega,by omega,by omega⟩
 ·have h7 := h2 y hy
  unfold mutB nameB mutOf at h7
  simp only [Bool.and_eq_true,decide_eq_true_iff] at h7
  exact ⟨by omega,paS_of h7.2⟩
 ·have h7 := h4 y hy
  unfold addB at h7
  simp only [Bool.and_eq_true,decide_eq_true_iff] at h7
  exact ⟨⟨by omega,h7.2.1⟩,by omega⟩
 ·have h7 := h6 y hy
  unfold dropB at h7
  simp only [Bool.and_eq_true,decide_eq_true_iff] at h7
  exact ⟨by omega,by omega⟩
theorem bt_len {b : Bt} (h : b.ok = true) : (bE b).length <= 30000000 := by
 unfold Bt.ok at h
 simp only [Bool.and_eq_true,decide_eq_true_iff,List.all_eq_true] at h
 obtain ⟨h1,h2,h3,h4,h5,h6⟩ := h
 have l1 : (b.muts.flatMap mE).length <= b.muts.length * 246300 := flat_le fun m hm => by
  have h7 := h2 m hm
  unfold mutB nameB at h7
  simp only [Bool.and_eq_true,decide_eq_true_iff] at h7
  have := pa_len h7.2
  have h8 : (tE m.1).length <= 9 + 100 := tE_le h7.1.1.2 (by omega)
  have h9 : (numL (pE m.2).length).length <= 9 := numL_le (by omega)
  unfold mE
  simp only [List.length_append]
  omega
 have l2 : (b.add.flatMap aE).length <= b.add.length * 4200 := flat_le fun m hm => by
  have h7 := h4 m hm
  unfold addB at h7
  simp only [Bool.and_eq_true,decide_eq_true_iff] at h7
  have h8 : (tE m.2).length <= 9 + 4096 := tE_le h7.2.2 (by omega)
  have h9 : (numL m.1.toNat).length <= 9 := numL_le (by omega)
  unfold aE
  simp only [List.length_append]
  omega
 have l3 : (b.drop.flatMap fun v => numL v.toNat).length <= b.drop.length * 9 := flat_le fun m hm => by
  have h7 := h6 m hm
  unfold dropB at h7
  simp only [Bool.and_eq_true,decide_eq_true_iff] at h7
  exact numL_le (by omega)
 have n1 : (numL b.muts.length).length <= 9 := numL_le (by omega)
 have n2 : (numL b.add.length).length <= 9 := numL_le (by omega)
 have n3 : (numL b.drop.length).length <= 9 := numL_le (by omega)
 have m1 : b.muts.length * 246300 <= 64 * 246300 := Nat.mul_le_mul_right _ h1
 have m2 : b.add.length * 4200 <= 300 * 4200 := Nat.mul_le_mul_right _ h3
 have m3 : b.drop.length * 9 <= 300 * 9 := Nat.mul_le_mul_right _ h5
 unfold bE
 simp only [List.length_append]
 omega
theorem putBatch_no {b : Bt} (h : b.ok = false) : putBatch b = .error 1 := by
 unfold putBatch putP
 rw [if_neg (by rw [h]; simp)]
theorem put_batch (x : BA) (B : Nat) (w : World) (hr : LiesB w B x) (hB : B <= w.heap.size) (hf : BtF x) :
    Calls Tryz.prog 85 #[bV x,.func (.func 76) #[] #[],.func (.func 86) #[] #[]] w (GivesP w (putBatch x.bt)) := by
 have bz := (Below.refl w.heap.size w).alloc (Nat.le_refl _) (bO x)
 have hz := heap_alloc_new w (bO x)
 obtain ⟨V,hV⟩ : ∃ V,V = w.alloc (bO x) := ⟨_,rfl⟩
 rw [<- hV] at bz hz
 have hVs := bz.size
 have hc0 := cell_at (i := 0) hz rfl
 have hc1 := cell_at (i := 1) hz rfl
 have hc2 := cell_at (i := 2) hz rfl
 obtain ⟨u,hu⟩ : ∃ u,x.bt.ok = u := ⟨_,rfl⟩
 have C1 := checkBatch_any x B V (hr.below (bz.mono hB)) (by omega) hf
 rw [hu] at C1
 have HU := hid hu; have HZ := hid hz; have BZ := hid bz; have HC1 := hid C1; have HR := hid hr; have HB := hid hB; have HVS := hid hVs
 obtain ⟨R,hR⟩ : ∃ R,putBatch x.bt = R := ⟨_,rfl⟩
 rw [hR]
 have HRR := hid hR
 clear hu hz bz C1 hr hf hVs hR
 go_enter Tryz.func85,Tryz.ntmps85
 go_wp2_with fail
 try unfold bO at hV
 rw [<- hV]
 clear hV
 refine (HC1.out).mono ?_
 rintro e w1 ⟨rfl,b1⟩
 have hz1 := (b1.block _ (Array.getElem?_eq_some_iff.1 HZ.out).1).trans HZ.out
 have B1 := hid b1
 clear hc0 hc1 hc2 b1
 have hc0 := cell_at (i := 0) hz1 rfl
 have hc1 := cell_at (i := 1) hz1 rfl
 have hc2 := cell_at (i := 2) hz1 rfl
 have HZ1 := hid hz1
 clear hz1
 cases u with
 | false =>
   go_wp2
   go_ret2
   rw [<- HRR.out,putBatch_no HU.out]
   exact ⟨rfl,next BZ.out B1.out⟩
 | true =>
   have hps := btS_of HU.out
   have hle := bt_len HU.out
   obtain ⟨P,hP⟩ : ∃ P,bE x.bt = P := ⟨_,rfl⟩
   have hb1 := next BZ.out B1.out
   have N := putBatch_any w1.heap.size (.slice none 0 0) [] x.AM x.AN x.AD x.M.length x.cM x.N.length x.cN x.D.length x.cD B x.M x.N x.D w1 (own_nilY _ _) (Nat.le_refl _) (by have h := HR.out.below (hb1.mono HB.out); exact ⟨h.muts,h.notes,h.drops⟩) (by have := hb1.size; have := HB.out; omega) ⟨hps.muts,hps.notes,hps.drops⟩ ⟨hps.lm,hps.ln,hps.ld⟩ (by rw [List.nil_append]; show (bE x.bt).length <= _; omega)
   rw [List.nil_append] at N
   have e : bE ⟨muts x.M,x.N,x.D⟩ = P := hP
   rw [e] at N
   rw [hP] at hle
   have HP : putBatch x.bt = (if 262144 < P.length then .error 2 else .ok P) := by
    unfold putBatch putP
    rw [if_pos HU.out,hP]
   rw [HRR.out] at HP
   have HN := hid N; have HPP := hid HP; have HB1 := hid hb1; have HLE := hid hle
   clear hps hle HP hP hb1 N e
   go_wp2_with fail
   refine (HN.out).mono ?_
   rintro e w2 ⟨v2,rfl,l2⟩
   have hb2 := l2.base (own_nilY _ _) (Nat.le_refl _)
   obtain ⟨A2,n2,c2,rfl,hl2,g1,g2,g3,ho⟩ := l2.own.slice
   have hn2 : n2 <= 30000000 := by have := HLE.out; omega
   have HG : Hid (P.length = n2 /\ n2 <= c2 /\ c2 <= maxLen /\ (A2 = none -> c2 = 0) /\ w2.ownsRow w.heap.size 5 1 (.slice A2 n2 c2) n2 (Lib.byteCells P) /\ Below w.heap.size w w2) := hid ⟨hl2,g1,g2,g3,own_down ho HB1.out.size,next HB1.out hb2⟩
   clear hl2 g1 g2 g3 ho hb2 l2 hc0 hc1 hc2
   by_cases h8 : 262144 < n2
   ·have d1 : decide ((262144 : Int) < (n2 : Int)) = true := by simp; omega
    have d2 : decide (262144 < n2) = true := by simp; omega
    have hRe : R = .error 2 := by rw [HPP.out,HG.out.1,if_pos h8]
    subst hRe
    clear h8
    go_wp2
    go_ret2
    exact ⟨rfl,HG.out.2.2.2.2.2⟩
   ·have d1 : decide ((262144 : Int) < (n2 : Int)) = false := by simp; omega
    have d2 : decide (262144 < n2) = false := by simp; omega
    have hRe : R = .ok P := by rw [HPP.out,HG.out.1,if_neg h8]
    subst hRe
    clear h8
    go_wp2
    go_ret2
    exact ⟨A2,n2,c2,rfl,HG.out⟩
theorem pack_batch (x : BA) (B : Nat) (w : World) (hr : LiesB w B x) (hB : B <= w.heap.size) (hf : BtF x) :
    Calls Tryz.prog 52 #[bV x] w (GivesP w (putBatch x.bt)) := by
 have bz := (Below.refl w.heap.size w).alloc (Nat.le_refl _) (bO x)
 have hz := heap_alloc_new w (bO x)
 obtain ⟨V,hV⟩ : ∃ V,V = w.alloc (bO x) := ⟨_,rfl⟩
 rw [<- hV] at bz hz
 have hVs := bz.size
 have hc0 := cell_at (i := 0) hz rfl
 have hc1 := cell_at (i := 1) hz rfl
 have hc2 := cell_at (i := 2) hz rfl
 have N := put_batch x B V (hr.below (bz.mono hB)) (by omega) hf
 have BZ := hid bz; have HN := hid N
 obtain ⟨R,hR⟩ : ∃ R,putBatch x.bt = R := ⟨_,rfl⟩
 rw [hR] at HN ⊢
 clear hz bz hr hf hVs N hR hB
 go_enter Tryz.func52,Tryz.ntmps52
 go_wp2_with fail
 try unfold bO at hV
 rw [<- hV]
 clear hV
 refine (HN.out).mono ?_
 intro e w1 hg
 cases R with
 | error y =>
   obtain ⟨rfl,b1⟩ := hg
   have B1 := hid b1
   clear b1
   go_wp2
   go_ret2
   exact ⟨rfl,next BZ.out B1.out⟩
 | ok b =>
   obtain ⟨A2,n2,c2,rfl,h1,h2,h3,h4,h5,h6⟩ := hg
   have HG : Hid (b.length = n2 /\ n2 <= c2 /\ c2 <= maxLen /\ (A2 = none -> c2 = 0) /\ w1.ownsRow w.heap.size 5 1 (.slice A2 n2 c2) n2 (Lib.byteCells b) /\ Below w.heap.size w w1) := hid ⟨h1,h2,h3,h4,own_down h5 BZ.out.size,next BZ.out h6⟩
   clear h1 h2 h3 h4 h5 h6
   go_wp2
   go_ret2
   exact ⟨A2,n2,c2,rfl,HG.out⟩
end Go.Proofs.YtmpcnhpdobdmcaaGreatDoor
