import Derived.Lib.SmallJoins
import Derived.Deep.CutBlock
import Derived.Test.YtmpcnhpdobdmcaaGreatDoorLawNotesT
open Go.Lib (hid)
open List renaming getElem_toArray -> zq1,getElem_cons_succ -> zq2,getElem_cons_zero -> zq3,setIfInBounds_toArray -> zq4,set_cons_zero -> zq5,set_cons_succ -> zq6
set_option linter.unusedVariables false
set_option linter.unusedSimpArgs false
set_option maxHeartbeats 16000000
namespace Go.Proofs.YtmpcnhpdobdmcaaGreatDoor
open Go Go.RowKit
def lenS : Value -> Nat
 | .slice _ n _ => n
 | _ => 0
theorem run_makeK (w : World) (n : Nat) (hn : n <= 1000000) :
    (Instr.makeSlice 43 (.int .i64 0) (.int .i64 (n : Nat))).run Tryz.prog w = .ok (.slice (some ⟨w.heap.size,0,none⟩) 0 n) (w.alloc (.cells (madeCells #[.string ⟨#[]⟩,.string ⟨#[]⟩,.bool false,.int .i64 0,.int .i64 0] (n * 5)) 282)) := by
 obtain ⟨i,hi,hz0,hz1,hz2⟩ := info_parts infoK
 have h := run_make (P := Tryz.prog) w 43 282 i _ Tryz.underlying43 hi hz0 .i64 .i64 0 (n : Int) (by omega) (by omega) (by rw [hz2]; omega) (by omega)
 rw [hz1,Int.toNat_natCast] at h
 exact h
theorem cur_made (w : World) (n : Nat) (hn : n <= 1000000) : Cur w (w.alloc (.cells (madeCells #[.string ⟨#[]⟩,.string ⟨#[]⟩,.bool false,.int .i64 0,.int .i64 0] (n * 5)) 282)) (.slice (some ⟨w.heap.size,0,none⟩) 0 n) [] :=
 ⟨World.ownsRow_made w _ n (Nat.le_refl _) (by unfold maxLen; omega) (size_madeCells _ _),(Below.refl w.heap.size w).alloc (Nat.le_refl _) _⟩
theorem kRow_put (L : Cols) (y x : ByteArray × Ce) :
    (((((kRow (L ++ [y])).set (L.length * 5) (.string x.1)).set (L.length * 5 + 1) (.string x.2.s)).set (L.length * 5 + 2) (.bool x.2.d)).set (L.length * 5 + 3) (.int .i64 x.2.a)).set (L.length * 5 + 4) (.int .i64 x.2.e) = kRow (L ++ [x]) := by
 have hl := kRow_length L
 rw [kRow_append,kRow_append]
 have e : ∀ (k : List Value) (i : Nat) (v : Value),(kRow L ++ k).set (L.length * 5 + i) v = kRow L ++ k.set i v := fun k i v => by
  rw [List.set_append_right _ _ (by omega)]
  congr 1
  rw [show L.length * 5 + i - (kRow L).length = i by omega]
 have e0 := e (kRow [y]) 0
 rw [Nat.add_zero] at e0
 rw [e0,e,e,e,e]
 simp [kRow,kcs]
theorem Cur.put {w0 w : World} {g m cap u : Nat} {L M : Cols} {y : ByteArray × Ce} (h : Cur w0 w (.slice (some ⟨g,0,none⟩) m cap) M) (hM : M = L ++ [y]) (hu : L.length = u) (m' : ByteArray) (s' : ByteArray) (d' : Bool) (a' e' : Int) :
    Cur w0 (((((w.setCell ⟨g,u * 5,none⟩ (.string m')).setCell ⟨g,u * 5 + 1,none⟩ (.string s')).setCell ⟨g,u * 5 + 2,none⟩ (.bool d')).setCell ⟨g,u * 5 + 3,none⟩ (.int .i64 a')).setCell ⟨g,u * 5 + 4,none⟩ (.int .i64 e')) (.slice (some ⟨g,0,none⟩) m cap) (L ++ [(m',⟨s',d',a',e'⟩)]) := by
 subst hM
 have hm : m = (L ++ [y]).length := by
  obtain ⟨A,c,e,_⟩ := own_slice h.own
  injection e
 subst hm
 subst hu
 have h0 := h.own
 have h1 := (h0.stored (L.length * 5) (.string m')).1
 have h2 := (h1.stored (L.length * 5 + 1) (.string s')).1
 have h3 := (h2.stored (L.length * 5 + 2) (.bool d')).1
 have h4 := (h3.stored (L.length * 5 + 3) (.int .i64 a')).1
 have h5 := (h4.stored (L.length * 5 + 4) (.int .i64 e')).1
 rw [show _ = _ from kRow_put L y (m',⟨s',d',a',e'⟩)] at h5
 have hg := (h0.lt g rfl).1
 refine ⟨?_,((((h.below.setCell hg _).setCell hg _).setCell hg _).setCell hg _).setCell hg _⟩
 have e : (L ++ [(m',(⟨s',d',a',e'⟩ : Ce))]).length = (L ++ [y]).length := by simp
 rw [e]
 exact h5
theorem Cur.appN {w0 w w' : World} {v v' : Value} {C k : Cols} {N : Nat} (h : Cur w0 w v C) (ho : w'.ownsRow w0.heap.size 282 5 v' N (kRow (C ++ k))) (hg : w.grownBy w' v.ownBlock) : ∃ A m c,v' = .slice A m c /\ Cur w0 w' (.slice A m c) (C ++ k) := by
 have hN : N = (C ++ k).length := by have := ho.1; rw [kRow_length] at this; omega
 subst hN
 obtain ⟨A,c,rfl,_⟩ := own_slice ho
 exact ⟨A,_,c,rfl,ho,grown_ownN h.below (Nat.le_refl _) h.own hg⟩
theorem Cur.last {w0 w : World} {A : Option Addr} {m c : Nat} {L M : Cols} {y : ByteArray × Ce} (h : Cur w0 w (.slice A m c) M) (hM : M = L ++ [y]) : ∃ g,A = some ⟨g,0,none⟩ /\ w0.heap.size <= g /\ g < w.heap.size /\ (w.cell? ⟨g,(L.length * 5),none⟩ = some (.string y.1) /\ w.cell? ⟨g,(L.length * 5) + 1,none⟩ = some (.string y.2.s) /\ w.cell? ⟨g,(L.length * 5) + 2,none⟩ = some (.bool y.2.d) /\ w.cell? ⟨g,(L.length * 5) + 3,none⟩ = some (.int .i64 y.2.a) /\ w.cell? ⟨g,(L.length * 5) + 4,none⟩ = some (.int .i64 y.2.e)) /\ ∀ i,w.frozen? ⟨g,i,none⟩ = false := by
 subst hM
 have hown := h.own
 rcases h.own.2 with ⟨_,e⟩ | ⟨g,cap,cur,e,hb,hh,hn,hm,hs,ht⟩
 ·simp at e
 ·injection e with e1 e2 e3
  subst e1; subst e2; subst e3
  have hl : L.length < (L ++ [y]).length := by simp
  have hy : (L ++ [y])[L.length]'hl = y := by simp
  have key : ∀ i (hi : i < 5) u,(kcs y)[i]? = some u -> w.cell? ⟨g,L.length * 5 + i,none⟩ = some u := fun i hi u hu => by
   have := hown.cells (g := g) rfl (L.length * 5 + i) u (by rw [kRow_at _ _ _ hl hi,hy]; exact hu)
   rw [Addr.add_lit,Nat.zero_add] at this
   exact this
  exact ⟨g,rfl,hb,(Array.getElem?_eq_some_iff.1 hh).1,⟨key 0 (by omega) _ rfl,key 1 (by omega) _ rfl,key 2 (by omega) _ rfl,key 3 (by omega) _ rfl,key 4 (by omega) _ rfl⟩,fun i => hown.frozenAt i⟩
theorem merge_any (A A' : Option Addr) (n n' c c' B B' : Nat) (l k : Cols) (w : World) (h : RdK w B A n l) (h' : RdK w B' A' n' k) (hB : B <= w.heap.size) (hB' : B' <= w.heap.size) (hc : n <= c) (hc' : n' <= c') (hn : n + n' <= 1000000) :
    Calls Tryz.prog 218 #[.slice A n c,.slice A' n' c',.func (.func 219) #[] #[],.func (.func 220) #[] #[]] w fun e w' => ∃ v,e = .returned v /\ Cur w w' v (runC [] l k) := by
 obtain ⟨R,hR⟩ : ∃ R,runC [] l k = R := ⟨_,rfl⟩
 rw [hR]
 have hadd : IntKind.i64.wrap ((n : Int) + (n' : Int)) = ((n + n' : Nat) : Int) := by rw [IntKind.wrap_i64]; push_cast; omega
 have hadd2 : wrap64 ((n : Int) + (n' : Int)) = ((n + n' : Nat) : Int) := by unfold wrap64; push_cast; omega
 have hmk := fun wx : World => run_makeK wx (n + n') (by omega)
 have hcm := cur_made w (n + n') (by omega)
 have HR := hid hR; have HA := hid h; have HA' := hid h'; have HCM := hid hcm; have HN := hid hn; have HC := hid hc; have HC' := hid hc'
 obtain ⟨N,hN⟩ : ∃ N,N = n + n' := ⟨_,rfl⟩
 rw [<- hN] at hadd hadd2 hmk HCM
 have HNN := hid hN
 clear hR h h' hcm hn hc hc' hN
 go_enter Tryz.func218,Tryz.ntmps218
 go_wp2
 obtain ⟨W1,hW1⟩ : ∃ W1,W1 = w.alloc (.cells (madeCells #[.string ⟨#[]⟩,.string ⟨#[]⟩,.bool false,.int .i64 0,.int .i64 0] (N * 5)) 282) := ⟨_,rfl⟩
 rw [<- hW1] at HCM ⊢
 clear hW1 hmk hadd hadd2
 go_loopw [0,1,9] (fun va vb vm wr => ∃ (A1 A2 : Option Addr) (n1 n2 c1 c2 : Nat) (la lb M : Cols),va = .slice A1 n1 c1 /\ vb = .slice A2 n2 c2 /\ RdK w B A1 n1 la /\ RdK w B' A2 n2 lb /\ n1 <= c1 /\ n2 <= c2 /\ M.length + (n1 + n2) <= 1000000 /\ runC M la lb = R /\ Cur w wr vm M) (fun va vb _ _ => lenS va + lenS vb)
 case atStart => exact ⟨A,A',n,n',c,c',l,k,[],rfl,rfl,HA.out,HA'.out,HC.out,HC'.out,by have := HN.out; simpa using this,HR.out,HCM.out⟩
 case round =>
  obtain ⟨A1,A2,n1,n2,c1,c2,la,lb,M,rfl,rfl,r1,r2,hc1,hc2,hsum,hrun,hcur⟩ := hrel
  obtain ⟨A0,c0,rfl,_⟩ := hcur.slice
  obtain ⟨m,hm⟩ : ∃ m,M.length = m := ⟨_,rfl⟩
  rw [hm] at hsum ⊢
  have HM := hid hm
  clear hm
  have l1 := r1.1
  have l2 := r2.1
  have W1_ := hid (show IntKind.i64.wrap ((n1 : Int) + (n2 : Int)) = (n1 : Int) + n2 by rw [IntKind.wrap_i64]; omega)
  have W2_ := hid (show wrap64 ((n1 : Int) + (n2 : Int)) = (n1 : Int) + n2 by unfold wrap64; omega)
  have HSUM := hid hsum; have HRUN := hid hrun; have HCUR := hid hcur; have R1 := hid r1; have R2 := hid r2; have L1 := hid l1; have L2 := hid l2
  have hws := hcur.below.size
  clear hrun hcur r1 r2 l1 l2
  by_cases h0 : n1 + n2 = 0
  ·have d0 : decide ((0 : Int) < (n1 : Int) + (n2 : Int)) = false := by simp; omega
   have d1 : decide (0 < n1 + n2) = false := by simp; omega
   have d2 : decide ((0 : Int) < ((n1 + n2 : Nat) : Int)) = false := by simp; omega
   have d3 : ¬ (0 < n1 + n2) := by omega
   have d4 : ¬ ((0 : Int) < (n1 : Int) + (n2 : Int)) := by omega
   have hf : M = R := by
    have e1 : la = [] := List.eq_nil_of_length_eq_zero (by rw [L1.out]; omega)
    have e2 : lb = [] := List.eq_nil_of_length_eq_zero (by rw [L2.out]; omega)
    rw [<- HRUN.out,e1,e2,runC_nil]
   have HF := hid hf
   have w1 := W1_.out
   have w2 := W2_.out
   clear hf h0
   go_wp2
   go_ret
   refine ⟨_,rfl,?_⟩
   rw [<- HF.out,<- HM.out]
   exact HCUR.out
  ·have d0 : decide ((0 : Int) < (n1 : Int) + (n2 : Int)) = true := by simp; omega
   have d1 : decide (0 < n1 + n2) = true := by simp; omega
   have d2 : decide ((0 : Int) < ((n1 + n2 : Nat) : Int)) = true := by simp; omega
   have d3 : 0 < n1 + n2 := by omega
   have d4 : (0 : Int) < (n1 : Int) + (n2 : Int) := by omega
   have hz := heap_alloc_new wr (.cells #[.string ⟨#[]⟩,.string ⟨#[]⟩,.bool false,.int .i64 0,.int .i64 0] 282)
   have ha := (Below.refl wr.heap.size wr).alloc (Nat.le_refl _) (.cells #[.string ⟨#[]⟩,.string ⟨#[]⟩,.bool false,.int .i64 0,.int .i64 0] 282)
   have HZ := hid hz; have HAL := hid ha; have H0 := hid h0; have HWS := hid hws
   clear hz ha h0 hws
   obtain ⟨U,hU⟩ : ∃ U,U = wr.alloc (.cells #[.string ⟨#[]⟩,.string ⟨#[]⟩,.bool false,.int .i64 0,.int .i64 0] 282) := ⟨_,rfl⟩
   have hUs : U.heap.size = wr.heap.size + 1 := by rw [hU]; simp
   have HUS := hid hUs
   rw [<- hU] at HZ HAL
   clear hUs
   by_cases e2 : n2 = 0
   ·have hpos : 0 < n1 := by omega
    obtain ⟨x,la',hla⟩ : ∃ x la',la = x :: la' := by
     match la,L1.out with
     | [],h => simp at h; omega
     | x :: la',_ => exact ⟨x,la',rfl⟩
    have hlb : lb = [] := List.eq_nil_of_length_eq_zero (by rw [L2.out]; exact e2)
    have hrun2 : runC (pushC M x) la' lb = R := by rw [<- HRUN.out,hla,hlb,runC_a]
    have q1 : ((n2 : Int) == 0) = true := by rw [beq_iff_eq]; omega
    have q2 : (n2 == 0) = true := by rw [beq_iff_eq]; omega
    have d0 : decide ((0 : Int) < (n1 : Int) + (n2 : Int)) = true := by simp; omega
    have d1 : decide (0 < n1 + n2) = true := by simp; omega
    have i1 : (0 : Int) < n1 := by omega
    obtain ⟨A1',hsl,r1'⟩ := slK_l R1.out hc1 (1 : Int) 1 rfl (by omega)
    rw [hla] at r1'
    obtain ⟨g1,o1,rfl,hgB,hcc⟩ := (R1.out.below (HCUR.out.below.mono hB)).2 hpos
    have hc0 := hcc 0 (by rw [hla]; simp)
    obtain ⟨xm,⟨xs,xd,xa,xe⟩⟩ := x
    have hx0 : la[0]'(by rw [hla]; simp) = (xm,⟨xs,xd,xa,xe⟩) := by simp [hla]
    rw [hx0] at hc0
    simp only [Nat.zero_mul,Nat.add_zero] at hc0
    obtain ⟨e0,e1,e2',e3,e4⟩ := hc0
    have hgw : g1 < wr.heap.size := by have := HWS.out; omega
    have hall : ∀ w',Below U.heap.size U w' -> w'.cell? ⟨g1,o1,none⟩ = some (.string xm) /\ w'.cell? ⟨g1,o1 + 1,none⟩ = some (.string xs) /\ w'.cell? ⟨g1,o1 + 2,none⟩ = some (.bool xd) /\ w'.cell? ⟨g1,o1 + 3,none⟩ = some (.int .i64 xa) /\ w'.cell? ⟨g1,o1 + 4,none⟩ = some (.int .i64 xe) := fun w' hb => by
     have hb2 : Below wr.heap.size wr w' := HAL.out.trans (hb.mono (by have := HUS.out; omega))
     exact ⟨(hb2.cell (p := ⟨g1,_,none⟩) hgw).trans e0,(hb2.cell (p := ⟨g1,_,none⟩) hgw).trans e1,(hb2.cell (p := ⟨g1,_,none⟩) hgw).trans e2',(hb2.cell (p := ⟨g1,_,none⟩) hgw).trans e3,(hb2.cell (p := ⟨g1,_,none⟩) hgw).trans e4⟩
    have HALL := hid hall; have HRUN2 := hid hrun2; have RA := hid r1'
    have RB := R2
    have HSUM2 := hid (show (pushC M (xm,⟨xs,xd,xa,xe⟩)).length + (n1 - 1 + n2) <= 1000000 by have := pushC_length M (xm,⟨xs,xd,xa,xe⟩); have := HM.out; omega)
    have w1 := W1_.out
    have w2 := W2_.out
    clear hla hlb hrun2 r1' hcc e0 e1 e2' e3 e4 hx0 hall e2
    go_wp2_with fail
    rw [<- hU]
    clear hU
    refine wp_region_held_drew (S := fun w' => Below U.heap.size U w') (by kernel_rfl) ?_ (fun hHeld => ?_)
    ·exact (Below.refl _ _).drew
    refine takesH [0,1,2,3,4,5,6,7,8,9,10,11,12,13,14,15,16,17,18] ?_
    repeat
     refine takesH_one (v := ?_) ?_ ?_
     rotate_left
     ·first | (refine Or.inr ⟨by rfl,?_⟩; with_reducible rfl) | (refine Or.inl ⟨by rfl,?_⟩; intro wx hSw; (try dsimp only at hSw); first | (go_simp; first | done | with_reducible rfl))
     try simp only [Act.put,zq1,zq2,zq3,zq4,zq5,zq6]
    refine takesH_nil ?_
    refine wpAnyH_done (by kernel_rfl) ?_ _
    clear w1 w2
    have hlow : Below U.heap.size U U := (Below.refl _ _)
    obtain ⟨_,_,_,_,_⟩ := HALL.out _ hlow
    have hq := (hlow.block wr.heap.size (by have := HUS.out; omega)).trans HZ.out
    have z0 := cell_at (i := 0) hq rfl
    have z1 := cell_at (i := 1) hq rfl
    have z2 := cell_at (i := 2) hq rfl
    have z3 := cell_at (i := 3) hq rfl
    have z4 := cell_at (i := 4) hq rfl
    have y0 := thawed_at (i := 0) hq
    have y1 := thawed_at (i := 1) hq
    have y2 := thawed_at (i := 2) hq
    have y3 := thawed_at (i := 3) hq
    have y4 := thawed_at (i := 4) hq
    have hq4 := Joins.block_setCell (i := 4) (Joins.block_setCell (i := 3) (Joins.block_setCell (i := 2) (Joins.block_setCell (i := 1) (Joins.block_setCell (i := 0) hq (.string xm)) (.string xs)) (.bool xd)) (.int .i64 xa)) (.int .i64 xe)
    have hle : wr.heap.size <= wr.heap.size := Nat.le_refl _
    have hb4 := (((((HAL.out.trans (hlow.mono (by have := HUS.out; omega))).setCell (p := ⟨wr.heap.size,0,none⟩) hle (.string xm)).setCell (p := ⟨wr.heap.size,1,none⟩) hle (.string xs)).setCell (p := ⟨wr.heap.size,2,none⟩) hle (.bool xd)).setCell (p := ⟨wr.heap.size,3,none⟩) hle (.int .i64 xa)).setCell (p := ⟨wr.heap.size,4,none⟩) hle (.int .i64 xe)
    have HQ4_ := hid hq4; have HB4_ := hid hb4
    clear hq hq4 hb4 hle
    go_wp2_with fail
    go_region
    obtain ⟨w4,hw4⟩ : ∃ w4,w4 = (((((World.setCell U ⟨wr.heap.size,0,none⟩ (.string xm)).setCell ⟨wr.heap.size,1,none⟩ (.string xs)).setCell ⟨wr.heap.size,2,none⟩ (.bool xd)).setCell ⟨wr.heap.size,3,none⟩ (.int .i64 xa)).setCell ⟨wr.heap.size,4,none⟩ (.int .i64 xe)).drew.drew := ⟨_,rfl⟩
    rw [<- hw4]
    have HQ4 : Hid (w4.heap[wr.heap.size]? = some (.cells #[.string xm,.string xs,.bool xd,.int .i64 xa,.int .i64 xe] 282 (0,0))) := hid (by rw [hw4]; exact HQ4_.out)
    have HB4 : Hid (Below wr.heap.size wr w4) := hid (by rw [hw4]; first | exact HB4_.out.drew.drew | exact HB4_.out.drew)
    clear hw4 HQ4_ HB4_ z0 z1 z2 z3 z4 y0 y1 y2 y3 y4
    have hcv := HCUR.out.on HB4.out
    rw [HM.out] at hcv
    have HCV := hid hcv
    have HS4 := hid HB4.out.size
    clear hcv
    rcases List.eq_nil_or_concat M with hM | ⟨L,⟨ym,⟨ys,yd,ya,ye⟩⟩,hM⟩
    ·have hp : pushC M (xm,⟨xs,xd,xa,xe⟩) = M ++ [(xm,⟨xs,xd,xa,xe⟩)] := by rw [hM]; rfl
     have hm0 : m = 0 := by rw [<- HM.out,hM]; rfl
     have S1 := hid (show IntKind.i64.wrap ((m : Int) - 1) = -1 by rw [IntKind.wrap_i64]; omega)
     have S2 := hid (show wrap64 ((m : Int) - 1) = -1 by unfold wrap64; omega)
     have HP := hid hp
     have hall4 : ∀ w',Below w4.heap.size w4 w' -> w'.cell? ⟨wr.heap.size,0,none⟩ = some (.string xm) /\ w'.cell? ⟨wr.heap.size,0 + 1,none⟩ = some (.string xs) /\ w'.cell? ⟨wr.heap.size,0 + 2,none⟩ = some (.bool xd) /\ w'.cell? ⟨wr.heap.size,0 + 3,none⟩ = some (.int .i64 xa) /\ w'.cell? ⟨wr.heap.size,0 + 4,none⟩ = some (.int .i64 xe) := fun w' hb => by
      have hq := (hb.block wr.heap.size (Array.getElem?_eq_some_iff.1 HQ4.out).1).trans HQ4.out
      exact ⟨cell_at hq rfl,cell_at hq rfl,cell_at hq rfl,cell_at hq rfl,cell_at hq rfl⟩
     have HALL4 := hid hall4
     have s1 := S1.out
     have s2 := S2.out
     clear hm0 hM hp hall4
     go_wp2_with fail
     refine wp_region_held_drew (S := fun w' => Below w4.heap.size w4 w') (by kernel_rfl) ?_ (fun hHeld => ?_)
     ·exact (Below.refl _ _).drew
     refine takesH [0,1,2,3,4,5,6,7,8,9,10,11] ?_
     repeat
      refine takesH_one (v := ?_) ?_ ?_
      rotate_left
      ·first | (refine Or.inr ⟨by rfl,?_⟩; with_reducible rfl) | (refine Or.inl ⟨by rfl,?_⟩; intro wx hSw; (try dsimp only at hSw); first | (go_simp; first | done | with_reducible rfl))
      try simp only [Act.put,zq1,zq2,zq3,zq4,zq5,zq6]
     refine takesH_nil ?_
     refine wpAnyH_done (by kernel_rfl) ?_ _
     have hl8 : Below w4.heap.size w4 w4.drew := (Below.refl _ _).drew
     generalize w4.drew = w8 at hl8 ⊢
     obtain ⟨_,_,_,_,_⟩ := HALL4.out _ hl8
     clear s1 s2
     have hcw := (HCV.out.on hl8).on ((Below.refl _ _).alloc (Nat.le_refl _) (.cells #[.string xm,.string xs,.bool xd,.int .i64 xa,.int .i64 xe] 282))
     have hk1 := RdK.one w8 (xm,⟨xs,xd,xa,xe⟩) (w8).heap.size rfl
     have HCW := hid hcw; have HK1 := hid hk1
     clear hcw hk1 hl8
     go_wp2_with (at_builtin; refine list_ex rfl (.tmp 78) (.tmp 80) _ _ rfl (.slice A0 m c0) (.slice (some ⟨(w8).heap.size,0,none⟩) 1 1) rfl rfl (run_appK w.heap.size HCW.out.own HK1.out ?s1 ?s2) ?_)
     case s1 => have h9 := HM.out; (try simp at h9); (try simp); omega
     case s2 => simpa using HCW.out.below.size
     intro v3 w3 ho3 hg3 hloc3
     obtain ⟨A3,m3,c3,rfl,hc3⟩ := HCW.out.appN ho3 hg3
     have HC3 := hid hc3
     clear hc3 ho3 hg3 hloc3
     go_wp2
     go_roundw
     case rel => exact ⟨_,_,_,_,_,_,_,_,_,rfl,rfl,RA.out,RB.out,by omega,by omega,HSUM2.out,HRUN2.out,by rw [HP.out]; exact HC3.out⟩
     case measure => simp [lenS]; omega
    ·rw [List.concat_eq_append] at hM
     have HMM := hid hM
     clear hM
     obtain ⟨u,hu⟩ : ∃ u,L.length = u := ⟨_,rfl⟩
     have hm1 : m = u + 1 := by rw [<- HM.out,HMM.out,<- hu]; simp
     have S1 := hid (show IntKind.i64.wrap ((m : Int) - 1) = (u : Int) by rw [IntKind.wrap_i64]; omega)
     have S2 := hid (show wrap64 ((m : Int) - 1) = (u : Int) by unfold wrap64; omega)
     obtain ⟨g5,rfl,hg5,hg5',hy5,hf5⟩ := HCV.out.last HMM.out
     rw [hu] at hy5
     have hall4 : ∀ w',Below w4.heap.size w4 w' -> (w'.cell? ⟨g5,u * 5,none⟩ = some (.string ym) /\ w'.cell? ⟨g5,u * 5 + 1,none⟩ = some (.string ys) /\ w'.cell? ⟨g5,u * 5 + 2,none⟩ = some (.bool yd) /\ w'.cell? ⟨g5,u * 5 + 3,none⟩ = some (.int .i64 ya) /\ w'.cell? ⟨g5,u * 5 + 4,none⟩ = some (.int .i64 ye)) /\ w'.cell? ⟨wr.heap.size,0,none⟩ = some (.string xm) /\ w'.cell? ⟨wr.heap.size,0 + 1,none⟩ = some (.string xs) /\ w'.cell? ⟨wr.heap.size,0 + 2,none⟩ = some (.bool xd) /\ w'.cell? ⟨wr.heap.size,0 + 3,none⟩ = some (.int .i64 xa) /\ w'.cell? ⟨wr.heap.size,0 + 4,none⟩ = some (.int .i64 xe) := fun w' hb => by
      have hq := (hb.block wr.heap.size (Array.getElem?_eq_some_iff.1 HQ4.out).1).trans HQ4.out
      obtain ⟨a0,a1,a2,a3,a4⟩ := hy5
      exact ⟨⟨(hb.cell (p := ⟨g5,_,none⟩) hg5').trans a0,(hb.cell (p := ⟨g5,_,none⟩) hg5').trans a1,(hb.cell (p := ⟨g5,_,none⟩) hg5').trans a2,(hb.cell (p := ⟨g5,_,none⟩) hg5').trans a3,(hb.cell (p := ⟨g5,_,none⟩) hg5').trans a4⟩,cell_at hq rfl,cell_at hq rfl,cell_at hq rfl,cell_at hq rfl,cell_at hq rfl⟩
     have HALL4 := hid hall4
     have i5 : (u : Int) < m := by omega
     have i6 : (0 : Int) <= u := by omega
     have i7 : decide ((0 : Int) <= (u : Int)) = true := by simp
     have HU := hid hu; have HM1 := hid hm1
     clear hall4 hu hm1 hy5 hf5
     by_cases hn : ym = xm
     ·have t0 : (tcmp ym xm == 0) = true := by rw [beq_iff_eq]; exact tcmp_zero.2 hn
      have hp : pushC M (xm,⟨xs,xd,xa,xe⟩) = L ++ [(ym,Ce.join ⟨ys,yd,ya,ye⟩ ⟨xs,xd,xa,xe⟩)] := by rw [HMM.out,pushC_last]; exact if_pos hn
      have HP := hid hp
      have s1 := S1.out
      have s2 := S2.out
      clear hp hn
      go_wp2_with fail
      refine wp_region_held_drew (S := fun w' => Below w4.heap.size w4 w') (by kernel_rfl) ?_ (fun hHeld => ?_)
      ·exact (Below.refl _ _).drew
      refine takesH [0,1,2,3,4,5,6,7,8] ?_
      repeat
       refine takesH_one (v := ?_) ?_ ?_
       rotate_left
       ·first | (refine Or.inr ⟨by rfl,?_⟩; with_reducible rfl) | (refine Or.inl ⟨by rfl,?_⟩; intro wx hSw; (try dsimp only at hSw); first | (go_simp; first | done | with_reducible rfl) | (obtain ⟨⟨_,_,_,_,_⟩,_,_,_,_,_⟩ := HALL4.out _ hSw; go_simp; first | done | with_reducible rfl))
       try simp only [Act.put,zq1,zq2,zq3,zq4,zq5,zq6]
      refine takesH_nil ?_
      refine wpAnyH_ready (rs := [9]) (by kernel_rfl) (by simp) (AllReadyH.cons rfl (fun K hK => ?_) AllReadyH.nil)
      go_simp
      refine (byname_any _ _ _ _ _ _ _ _ _ _ _).mono ?_
      rintro x v1 ⟨rfl,b1⟩
      try go_wp2_with fail
      refine hK.out _ _ ?_ (fun hHeld => ?_)
      ·exact next (by assumption) b1
      clear hK K
      try simp only [Act.put,zq1,zq2,zq3,zq4,zq5,zq6]
      refine takesH [10,11] ?_
      repeat
       refine takesH_one (v := ?_) ?_ ?_
       rotate_left
       ·first | (refine Or.inr ⟨by rfl,?_⟩; with_reducible rfl) | (refine Or.inl ⟨by rfl,?_⟩; intro wx hSw; (try dsimp only at hSw); first | (go_simp; first | done | with_reducible rfl))
       try simp only [Act.put,zq1,zq2,zq3,zq4,zq5,zq6]
      refine takesH_nil ?_
      refine wpAnyH_done (by kernel_rfl) ?_ _
      obtain ⟨⟨_,_,_,_,_⟩,_,_,_,_,_⟩ := HALL4.out _ hHeld
      clear s1 s2
      have HH := hid hHeld
      clear hHeld
      go_wp2_with fail
      go_region_with (first
       | (go_at_call 220; refine (joincols_any _ _ _ _ _ _ _ _ _ _ _).mono ?_; rintro x v5 ⟨js,jd,ja,je,hje,rfl,b5⟩
          have b5' := next HH.out (next (w := v1) (by first | exact (Below.refl _ _).drew | exact below_draws _ _ _ | exact Below.refl _ _) b5)
          obtain ⟨⟨_,_,_,_,_⟩,_,_,_,_,_⟩ := HALL4.out _ b5'
          have hcl := HCV.out.on b5'
          obtain ⟨g6,e6,_,_,_,hfz⟩ := hcl.last HMM.out
          cases e6
          have f0 := hfz (u * 5)
          have f1 := hfz (u * 5 + 1)
          have f2 := hfz (u * 5 + 2)
          have f3 := hfz (u * 5 + 3)
          have f4 := hfz (u * 5 + 4)
          have HCL := hid hcl
          have HJE := hid hje
          clear hcl hfz hje))
      all_goals
       have hput := HCL.out.put HMM.out HU.out ym js jd ja je
       rw [<- HJE.out] at hput
       generalize hw6 : (((((v5.setCell ⟨g5,u * 5,none⟩ (.string ym)).setCell ⟨g5,u * 5 + 1,none⟩ (.string js)).setCell ⟨g5,u * 5 + 2,none⟩ (.bool jd)).setCell ⟨g5,u * 5 + 3,none⟩ (.int .i64 ja)).setCell ⟨g5,u * 5 + 4,none⟩ (.int .i64 je)) = w6 at hput ⊢
       have HPUT := hid hput
       clear hput f0 f1 f2 f3 f4 b5 b5' hw6
       go_wp2
       go_roundw
       case rel => exact ⟨_,_,_,_,_,_,_,_,_,rfl,rfl,RA.out,RB.out,by omega,by omega,HSUM2.out,HRUN2.out,by rw [HP.out]; exact HPUT.out⟩
       case measure => simp [lenS]; omega
     ·have t0 : (tcmp ym xm == 0) = false := by rw [beq_eq_false_iff_ne]; exact fun h => hn (tcmp_zero.1 h)
      have hp : pushC M (xm,⟨xs,xd,xa,xe⟩) = M ++ [(xm,⟨xs,xd,xa,xe⟩)] := by rw [HMM.out,pushC_last]; exact if_neg hn
      have HP := hid hp
      have s1 := S1.out
      have s2 := S2.out
      clear hp hn
      go_wp2_with fail
      refine wp_region_held_drew (S := fun w' => Below w4.heap.size w4 w') (by kernel_rfl) ?_ (fun hHeld => ?_)
      ·exact (Below.refl _ _).drew
      refine takesH [0,1,2,3,4,5,6,7,8] ?_
      repeat
       refine takesH_one (v := ?_) ?_ ?_
       rotate_left
       ·first | (refine Or.inr ⟨by rfl,?_⟩; with_reducible rfl) | (refine Or.inl ⟨by rfl,?_⟩; intro wx hSw; (try dsimp only at hSw); first | (go_simp; first | done | with_reducible rfl) | (obtain ⟨⟨_,_,_,_,_⟩,_,_,_,_,_⟩ := HALL4.out _ hSw; go_simp; first | done | with_reducible rfl))
       try simp only [Act.put,zq1,zq2,zq3,zq4,zq5,zq6]
      refine takesH_nil ?_
      refine wpAnyH_ready (rs := [9]) (by kernel_rfl) (by simp) (AllReadyH.cons rfl (fun K hK => ?_) AllReadyH.nil)
      go_simp
      refine (byname_any _ _ _ _ _ _ _ _ _ _ _).mono ?_
      rintro x v1 ⟨rfl,b1⟩
      try go_wp2_with fail
      refine hK.out _ _ ?_ (fun hHeld => ?_)
      ·exact next (by assumption) b1
      clear hK K
      try simp only [Act.put,zq1,zq2,zq3,zq4,zq5,zq6]
      refine takesH [10,11] ?_
      repeat
       refine takesH_one (v := ?_) ?_ ?_
       rotate_left
       ·first | (refine Or.inr ⟨by rfl,?_⟩; with_reducible rfl) | (refine Or.inl ⟨by rfl,?_⟩; intro wx hSw; (try dsimp only at hSw); first | (go_simp; first | done | with_reducible rfl))
       try simp only [Act.put,zq1,zq2,zq3,zq4,zq5,zq6]
      refine takesH_nil ?_
      refine wpAnyH_done (by kernel_rfl) ?_ _
      have hl8 := hHeld
      obtain ⟨⟨_,_,_,_,_⟩,_,_,_,_,_⟩ := HALL4.out _ hHeld
      clear s1 s2
      have hcw := (HCV.out.on hl8).on ((Below.refl _ _).alloc (Nat.le_refl _) (.cells #[.string xm,.string xs,.bool xd,.int .i64 xa,.int .i64 xe] 282))
      have hk1 := RdK.one v1 (xm,⟨xs,xd,xa,xe⟩) (v1).heap.size rfl
      have HCW := hid hcw; have HK1 := hid hk1
      clear hcw hk1 hl8
      go_wp2_with (at_builtin; refine list_ex rfl (.tmp 78) (.tmp 80) _ _ rfl (.slice (some ⟨g5,0,none⟩) m c0) (.slice (some ⟨(v1).heap.size,0,none⟩) 1 1) rfl rfl (run_appK w.heap.size HCW.out.own HK1.out ?s1 ?s2) ?_)
      case s1 => have h9 := HM.out; (try simp at h9); (try simp); omega
      case s2 => simpa using HCW.out.below.size
      intro v3 w3 ho3 hg3 hloc3
      obtain ⟨A3,m3,c3,rfl,hc3⟩ := HCW.out.appN ho3 hg3
      have HC3 := hid hc3
      clear hc3 ho3 hg3 hloc3
      go_wp2
      go_roundw
      case rel => exact ⟨_,_,_,_,_,_,_,_,_,rfl,rfl,RA.out,RB.out,by omega,by omega,HSUM2.out,HRUN2.out,by rw [HP.out]; exact HC3.out⟩
      case measure => simp [lenS]; omega
   ·have hpos2 : 0 < n2 := by omega
    have q1 : ((n2 : Int) == 0) = false := by rw [beq_eq_false_iff_ne]; omega
    have q2 : (n2 == 0) = false := by rw [beq_eq_false_iff_ne]; omega
    have d0 : decide ((0 : Int) < (n1 : Int) + (n2 : Int)) = true := by simp; omega
    have d1 : decide (0 < n1 + n2) = true := by simp; omega
    obtain ⟨y,lb',hlb⟩ : ∃ y lb',lb = y :: lb' := by
     match lb,L2.out with
     | [],h => simp at h; omega
     | y :: lb',_ => exact ⟨y,lb',rfl⟩
    obtain ⟨A2',hsl2,r2'⟩ := slK_l R2.out hc2 (1 : Int) 1 rfl (by omega)
    rw [hlb] at r2'
    obtain ⟨g2,o2,rfl,hgB2,hcc2⟩ := (R2.out.below (HCUR.out.below.mono hB')).2 hpos2
    have hc02 := hcc2 0 (by rw [hlb]; simp)
    have hy0 : lb[0]'(by rw [hlb]; simp) = y := by simp [hlb]
    rw [hy0] at hc02
    simp only [Nat.zero_mul,Nat.add_zero] at hc02
    have hgw2 : g2 < wr.heap.size := by have := HWS.out; omega
    have i2 : (0 : Int) < n2 := by omega
    by_cases e1 : n1 = 0
    ·have hla : la = [] := List.eq_nil_of_length_eq_zero (by rw [L1.out]; exact e1)
     have hrun2 : runC (pushC M y) la lb' = R := by rw [<- HRUN.out,hlb,hla,runC_b]
     obtain ⟨xm,⟨xs,xd,xa,xe⟩⟩ := y
     obtain ⟨e0,e1',e2',e3,e4⟩ := hc02
     have hall : ∀ w',Below U.heap.size U w' -> w'.cell? ⟨g2,o2,none⟩ = some (.string xm) /\ w'.cell? ⟨g2,o2 + 1,none⟩ = some (.string xs) /\ w'.cell? ⟨g2,o2 + 2,none⟩ = some (.bool xd) /\ w'.cell? ⟨g2,o2 + 3,none⟩ = some (.int .i64 xa) /\ w'.cell? ⟨g2,o2 + 4,none⟩ = some (.int .i64 xe) := fun w' hb => by
      have hb2 : Below wr.heap.size wr w' := HAL.out.trans (hb.mono (by have := HUS.out; omega))
      exact ⟨(hb2.cell (p := ⟨g2,_,none⟩) hgw2).trans e0,(hb2.cell (p := ⟨g2,_,none⟩) hgw2).trans e1',(hb2.cell (p := ⟨g2,_,none⟩) hgw2).trans e2',(hb2.cell (p := ⟨g2,_,none⟩) hgw2).trans e3,(hb2.cell (p := ⟨g2,_,none⟩) hgw2).trans e4⟩
     have HALL := hid hall; have HRUN2 := hid hrun2; have RB := hid r2'
     have RA := R1
     have HSUM2 := hid (show (pushC M (xm,⟨xs,xd,xa,xe⟩)).length + (n1 + (n2 - 1)) <= 1000000 by have := pushC_length M (xm,⟨xs,xd,xa,xe⟩); have := HM.out; omega)
     have j1 : decide ((0 : Int) < (n1 : Int)) = false := by simp; omega
     have j2 : decide (0 < n1) = false := by simp; omega
     have w1 := W1_.out
     have w2 := W2_.out
     clear hla hlb hrun2 r2' hcc2 e0 e1' e2' e3 e4 hy0 hall e1 e2
     go_wp2_with fail
     rw [<- hU]
     clear hU
     refine wp_region_held_drew (S := fun w' => Below U.heap.size U w') (by kernel_rfl) ?_ (fun hHeld => ?_)
     ·exact (Below.refl _ _).drew
     refine takesH [0,1,2,3,4,5,6,7,8,9,10,11,12,13,14,15,16,17,18] ?_
     repeat
      refine takesH_one (v := ?_) ?_ ?_
      rotate_left
      ·first | (refine Or.inr ⟨by rfl,?_⟩; with_reducible rfl) | (refine Or.inl ⟨by rfl,?_⟩; intro wx hSw; (try dsimp only at hSw); first | (go_simp; first | done | with_reducible rfl))
      try simp only [Act.put,zq1,zq2,zq3,zq4,zq5,zq6]
     refine takesH_nil ?_
     refine wpAnyH_done (by kernel_rfl) ?_ _
     clear w1 w2
     have hlow : Below U.heap.size U U := (Below.refl _ _)
     obtain ⟨_,_,_,_,_⟩ := HALL.out _ hlow
     have hq := (hlow.block wr.heap.size (by have := HUS.out; omega)).trans HZ.out
     have z0 := cell_at (i := 0) hq rfl
     have z1 := cell_at (i := 1) hq rfl
     have z2 := cell_at (i := 2) hq rfl
     have z3 := cell_at (i := 3) hq rfl
     have z4 := cell_at (i := 4) hq rfl
     have y0 := thawed_at (i := 0) hq
     have y1 := thawed_at (i := 1) hq
     have y2 := thawed_at (i := 2) hq
     have y3 := thawed_at (i := 3) hq
     have y4 := thawed_at (i := 4) hq
     have hq4 := Joins.block_setCell (i := 4) (Joins.block_setCell (i := 3) (Joins.block_setCell (i := 2) (Joins.block_setCell (i := 1) (Joins.block_setCell (i := 0) hq (.string xm)) (.string xs)) (.bool xd)) (.int .i64 xa)) (.int .i64 xe)
     have hle : wr.heap.size <= wr.heap.size := Nat.le_refl _
     have hb4 := (((((HAL.out.trans (hlow.mono (by have := HUS.out; omega))).setCell (p := ⟨wr.heap.size,0,none⟩) hle (.string xm)).setCell (p := ⟨wr.heap.size,1,none⟩) hle (.string xs)).setCell (p := ⟨wr.heap.size,2,none⟩) hle (.bool xd)).setCell (p := ⟨wr.heap.size,3,none⟩) hle (.int .i64 xa)).setCell (p := ⟨wr.heap.size,4,none⟩) hle (.int .i64 xe)
     have HQ4_ := hid hq4; have HB4_ := hid hb4
     clear hq hq4 hb4 hle
     go_wp2_with fail
     go_region
     obtain ⟨w4,hw4⟩ : ∃ w4,w4 = (((((World.setCell U ⟨wr.heap.size,0,none⟩ (.string xm)).setCell ⟨wr.heap.size,1,none⟩ (.string xs)).setCell ⟨wr.heap.size,2,none⟩ (.bool xd)).setCell ⟨wr.heap.size,3,none⟩ (.int .i64 xa)).setCell ⟨wr.heap.size,4,none⟩ (.int .i64 xe)).drew.drew := ⟨_,rfl⟩
     rw [<- hw4]
     have HQ4 : Hid (w4.heap[wr.heap.size]? = some (.cells #[.string xm,.string xs,.bool xd,.int .i64 xa,.int .i64 xe] 282 (0,0))) := hid (by rw [hw4]; exact HQ4_.out)
     have HB4 : Hid (Below wr.heap.size wr w4) := hid (by rw [hw4]; first | exact HB4_.out.drew.drew | exact HB4_.out.drew)
     clear hw4 HQ4_ HB4_ z0 z1 z2 z3 z4 y0 y1 y2 y3 y4
     have hcv := HCUR.out.on HB4.out
     rw [HM.out] at hcv
     have HCV := hid hcv
     have HS4 := hid HB4.out.size
     clear hcv
     rcases List.eq_nil_or_concat M with hM | ⟨L,⟨ym,⟨ys,yd,ya,ye⟩⟩,hM⟩
     ·have hp : pushC M (xm,⟨xs,xd,xa,xe⟩) = M ++ [(xm,⟨xs,xd,xa,xe⟩)] := by rw [hM]; rfl
      have hm0 : m = 0 := by rw [<- HM.out,hM]; rfl
      have S1 := hid (show IntKind.i64.wrap ((m : Int) - 1) = -1 by rw [IntKind.wrap_i64]; omega)
      have S2 := hid (show wrap64 ((m : Int) - 1) = -1 by unfold wrap64; omega)
      have HP := hid hp
      have hall4 : ∀ w',Below w4.heap.size w4 w' -> w'.cell? ⟨wr.heap.size,0,none⟩ = some (.string xm) /\ w'.cell? ⟨wr.heap.size,0 + 1,none⟩ = some (.string xs) /\ w'.cell? ⟨wr.heap.size,0 + 2,none⟩ = some (.bool xd) /\ w'.cell? ⟨wr.heap.size,0 + 3,none⟩ = some (.int .i64 xa) /\ w'.cell? ⟨wr.heap.size,0 + 4,none⟩ = some (.int .i64 xe) := fun w' hb => by
       have hq := (hb.block wr.heap.size (Array.getElem?_eq_some_iff.1 HQ4.out).1).trans HQ4.out
       exact ⟨cell_at hq rfl,cell_at hq rfl,cell_at hq rfl,cell_at hq rfl,cell_at hq rfl⟩
      have HALL4 := hid hall4
      have s1 := S1.out
      have s2 := S2.out
      clear hm0 hM hp hall4
      go_wp2_with fail
      refine wp_region_held_drew (S := fun w' => Below w4.heap.size w4 w') (by kernel_rfl) ?_ (fun hHeld => ?_)
      ·exact (Below.refl _ _).drew
      refine takesH [0,1,2,3,4,5,6,7,8,9,10,11] ?_
      repeat
       refine takesH_one (v := ?_) ?_ ?_
       rotate_left
       ·first | (refine Or.inr ⟨by rfl,?_⟩; with_reducible rfl) | (refine Or.inl ⟨by rfl,?_⟩; intro wx hSw; (try dsimp only at hSw); first | (go_simp; first | done | with_reducible rfl))
       try simp only [Act.put,zq1,zq2,zq3,zq4,zq5,zq6]
      refine takesH_nil ?_
      refine wpAnyH_done (by kernel_rfl) ?_ _
      have hl8 : Below w4.heap.size w4 w4.drew := (Below.refl _ _).drew
      generalize w4.drew = w8 at hl8 ⊢
      obtain ⟨_,_,_,_,_⟩ := HALL4.out _ hl8
      clear s1 s2
      have hcw := (HCV.out.on hl8).on ((Below.refl _ _).alloc (Nat.le_refl _) (.cells #[.string xm,.string xs,.bool xd,.int .i64 xa,.int .i64 xe] 282))
      have hk1 := RdK.one w8 (xm,⟨xs,xd,xa,xe⟩) (w8).heap.size rfl
      have HCW := hid hcw; have HK1 := hid hk1
      clear hcw hk1 hl8
      go_wp2_with (at_builtin; refine list_ex rfl (.tmp 78) (.tmp 80) _ _ rfl (.slice A0 m c0) (.slice (some ⟨(w8).heap.size,0,none⟩) 1 1) rfl rfl (run_appK w.heap.size HCW.out.own HK1.out ?s1 ?s2) ?_)
      case s1 => have h9 := HM.out; (try simp at h9); (try simp); omega
      case s2 => simpa using HCW.out.below.size
      intro v3 w3 ho3 hg3 hloc3
      obtain ⟨A3,m3,c3,rfl,hc3⟩ := HCW.out.appN ho3 hg3
      have HC3 := hid hc3
      clear hc3 ho3 hg3 hloc3
      go_wp2
      go_roundw
      case rel => exact ⟨_,_,_,_,_,_,_,_,_,rfl,rfl,RA.out,RB.out,by omega,by omega,HSUM2.out,HRUN2.out,by rw [HP.out]; exact HC3.out⟩
      case measure => simp [lenS]; omega
     ·rw [List.concat_eq_append] at hM
      have HMM := hid hM
      clear hM
      obtain ⟨u,hu⟩ : ∃ u,L.length = u := ⟨_,rfl⟩
      have hm1 : m = u + 1 := by rw [<- HM.out,HMM.out,<- hu]; simp
      have S1 := hid (show IntKind.i64.wrap ((m : Int) - 1) = (u : Int) by rw [IntKind.wrap_i64]; omega)
      have S2 := hid (show wrap64 ((m : Int) - 1) = (u : Int) by unfold wrap64; omega)
      obtain ⟨g5,rfl,hg5,hg5',hy5,hf5⟩ := HCV.out.last HMM.out
      rw [hu] at hy5
      have hall4 : ∀ w',Below w4.heap.size w4 w' -> (w'.cell? ⟨g5,u * 5,none⟩ = some (.string ym) /\ w'.cell? ⟨g5,u * 5 + 1,none⟩ = some (.string ys) /\ w'.cell? ⟨g5,u * 5 + 2,none⟩ = some (.bool yd) /\ w'.cell? ⟨g5,u * 5 + 3,none⟩ = some (.int .i64 ya) /\ w'.cell? ⟨g5,u * 5 + 4,none⟩ = some (.int .i64 ye)) /\ w'.cell? ⟨wr.heap.size,0,none⟩ = some (.string xm) /\ w'.cell? ⟨wr.heap.size,0 + 1,none⟩ = some (.string xs) /\ w'.cell? ⟨wr.heap.size,0 + 2,none⟩ = some (.bool xd) /\ w'.cell? ⟨wr.heap.size,0 + 3,none⟩ = some (.int .i64 xa) /\ w'.cell? ⟨wr.heap.size,0 + 4,none⟩ = some (.int .i64 xe) := fun w' hb => by
       have hq := (hb.block wr.heap.size (Array.getElem?_eq_some_iff.1 HQ4.out).1).trans HQ4.out
       obtain ⟨a0,a1,a2,a3,a4⟩ := hy5
       exact ⟨⟨(hb.cell (p := ⟨g5,_,none⟩) hg5').trans a0,(hb.cell (p := ⟨g5,_,none⟩) hg5').trans a1,(hb.cell (p := ⟨g5,_,none⟩) hg5').trans a2,(hb.cell (p := ⟨g5,_,none⟩) hg5').trans a3,(hb.cell (p := ⟨g5,_,none⟩) hg5').trans a4⟩,cell_at hq rfl,cell_at hq rfl,cell_at hq rfl,cell_at hq rfl,cell_at hq rfl⟩
      have HALL4 := hid hall4
      have i5 : (u : Int) < m := by omega
      have i6 : (0 : Int) <= u := by omega
      have i7 : decide ((0 : Int) <= (u : Int)) = true := by simp
      have HU := hid hu; have HM1 := hid hm1
      clear hall4 hu hm1 hy5 hf5
      by_cases hn : ym = xm
      ·have t0 : (tcmp ym xm == 0) = true := by rw [beq_iff_eq]; exact tcmp_zero.2 hn
       have hp : pushC M (xm,⟨xs,xd,xa,xe⟩) = L ++ [(ym,Ce.join ⟨ys,yd,ya,ye⟩ ⟨xs,xd,xa,xe⟩)] := by rw [HMM.out,pushC_last]; exact if_pos hn
       have HP := hid hp
       have s1 := S1.out
       have s2 := S2.out
       clear hp hn
       go_wp2_with fail
       refine wp_region_held_drew (S := fun w' => Below w4.heap.size w4 w') (by kernel_rfl) ?_ (fun hHeld => ?_)
       ·exact (Below.refl _ _).drew
       refine takesH [0,1,2,3,4,5,6,7,8] ?_
       repeat
        refine takesH_one (v := ?_) ?_ ?_
        rotate_left
        ·first | (refine Or.inr ⟨by rfl,?_⟩; with_reducible rfl) | (refine Or.inl ⟨by rfl,?_⟩; intro wx hSw; (try dsimp only at hSw); first | (go_simp; first | done | with_reducible rfl) | (obtain ⟨⟨_,_,_,_,_⟩,_,_,_,_,_⟩ := HALL4.out _ hSw; go_simp; first | done | with_reducible rfl))
        try simp only [Act.put,zq1,zq2,zq3,zq4,zq5,zq6]
       refine takesH_nil ?_
       refine wpAnyH_ready (rs := [9]) (by kernel_rfl) (by simp) (AllReadyH.cons rfl (fun K hK => ?_) AllReadyH.nil)
       go_simp
       refine (byname_any _ _ _ _ _ _ _ _ _ _ _).mono ?_
       rintro x v1 ⟨rfl,b1⟩
       try go_wp2_with fail
       refine hK.out _ _ ?_ (fun hHeld => ?_)
       ·exact next (by assumption) b1
       clear hK K
       try simp only [Act.put,zq1,zq2,zq3,zq4,zq5,zq6]
       refine takesH [10,11] ?_
       repeat
        refine takesH_one (v := ?_) ?_ ?_
        rotate_left
        ·first | (refine Or.inr ⟨by rfl,?_⟩; with_reducible rfl) | (refine Or.inl ⟨by rfl,?_⟩; intro wx hSw; (try dsimp only at hSw); first | (go_simp; first | done | with_reducible rfl))
        try simp only [Act.put,zq1,zq2,zq3,zq4,zq5,zq6]
       refine takesH_nil ?_
       refine wpAnyH_done (by kernel_rfl) ?_ _
       obtain ⟨⟨_,_,_,_,_⟩,_,_,_,_,_⟩ := HALL4.out _ hHeld
       clear s1 s2
       have HH := hid hHeld
       clear hHeld
       go_wp2_with fail
       go_region_with (first
        | (go_at_call 220; refine (joincols_any _ _ _ _ _ _ _ _ _ _ _).mono ?_; rintro x v5 ⟨js,jd,ja,je,hje,rfl,b5⟩
           have b5' := next HH.out (next (w := v1) (by first | exact (Below.refl _ _).drew | exact below_draws _ _ _ | exact Below.refl _ _) b5)
           obtain ⟨⟨_,_,_,_,_⟩,_,_,_,_,_⟩ := HALL4.out _ b5'
           have hcl := HCV.out.on b5'
           obtain ⟨g6,e6,_,_,_,hfz⟩ := hcl.last HMM.out
           cases e6
           have f0 := hfz (u * 5)
           have f1 := hfz (u * 5 + 1)
           have f2 := hfz (u * 5 + 2)
           have f3 := hfz (u * 5 + 3)
           have f4 := hfz (u * 5 + 4)
           have HCL := hid hcl
           have HJE := hid hje
           clear hcl hfz hje))
       all_goals
        have hput := HCL.out.put HMM.out HU.out ym js jd ja je
        rw [<- HJE.out] at hput
        generalize hw6 : (((((v5.setCell ⟨g5,u * 5,none⟩ (.string ym)).setCell ⟨g5,u * 5 + 1,none⟩ (.string js)).setCell ⟨g5,u * 5 + 2,none⟩ (.bool jd)).setCell ⟨g5,u * 5 + 3,none⟩ (.int .i64 ja)).setCell ⟨g5,u * 5 + 4,none⟩ (.int .i64 je)) = w6 at hput ⊢
        have HPUT := hid hput
        clear hput f0 f1 f2 f3 f4 b5 b5' hw6
        go_wp2
        go_roundw
        case rel => exact ⟨_,_,_,_,_,_,_,_,_,rfl,rfl,RA.out,RB.out,by omega,by omega,HSUM2.out,HRUN2.out,by rw [HP.out]; exact HPUT.out⟩
        case measure => simp [lenS]; omega
      ·have t0 : (tcmp ym xm == 0) = false := by rw [beq_eq_false_iff_ne]; exact fun h => hn (tcmp_zero.1 h)
       have hp : pushC M (xm,⟨xs,xd,xa,xe⟩) = M ++ [(xm,⟨xs,xd,xa,xe⟩)] := by rw [HMM.out,pushC_last]; exact if_neg hn
       have HP := hid hp
       have s1 := S1.out
       have s2 := S2.out
       clear hp hn
       go_wp2_with fail
       refine wp_region_held_drew (S := fun w' => Below w4.heap.size w4 w') (by kernel_rfl) ?_ (fun hHeld => ?_)
       ·exact (Below.refl _ _).drew
       refine takesH [0,1,2,3,4,5,6,7,8] ?_
       repeat
        refine takesH_one (v := ?_) ?_ ?_
        rotate_left
        ·first | (refine Or.inr ⟨by rfl,?_⟩; with_reducible rfl) | (refine Or.inl ⟨by rfl,?_⟩; intro wx hSw; (try dsimp only at hSw); first | (go_simp; first | done | with_reducible rfl) | (obtain ⟨⟨_,_,_,_,_⟩,_,_,_,_,_⟩ := HALL4.out _ hSw; go_simp; first | done | with_reducible rfl))
        try simp only [Act.put,zq1,zq2,zq3,zq4,zq5,zq6]
       refine takesH_nil ?_
       refine wpAnyH_ready (rs := [9]) (by kernel_rfl) (by simp) (AllReadyH.cons rfl (fun K hK => ?_) AllReadyH.nil)
       go_simp
       refine (byname_any _ _ _ _ _ _ _ _ _ _ _).mono ?_
       rintro x v1 ⟨rfl,b1⟩
       try go_wp2_with fail
       refine hK.out _ _ ?_ (fun hHeld => ?_)
       ·exact next (by assumption) b1
       clear hK K
       try simp only [Act.put,zq1,zq2,zq3,zq4,zq5,zq6]
       refine takesH [10,11] ?_
       repeat
        refine takesH_one (v := ?_) ?_ ?_
        rotate_left
        ·first | (refine Or.inr ⟨by rfl,?_⟩; with_reducible rfl) | (refine Or.inl ⟨by rfl,?_⟩; intro wx hSw; (try dsimp only at hSw); first | (go_simp; first | done | with_reducible rfl))
        try simp only [Act.put,zq1,zq2,zq3,zq4,zq5,zq6]
       refine takesH_nil ?_
       refine wpAnyH_done (by kernel_rfl) ?_ _
       have hl8 := hHeld
       obtain ⟨⟨_,_,_,_,_⟩,_,_,_,_,_⟩ := HALL4.out _ hHeld
       clear s1 s2
       have hcw := (HCV.out.on hl8).on ((Below.refl _ _).alloc (Nat.le_refl _) (.cells #[.string xm,.string xs,.bool xd,.int .i64 xa,.int .i64 xe] 282))
       have hk1 := RdK.one v1 (xm,⟨xs,xd,xa,xe⟩) (v1).heap.size rfl
       have HCW := hid hcw; have HK1 := hid hk1
       clear hcw hk1 hl8
       go_wp2_with (at_builtin; refine list_ex rfl (.tmp 78) (.tmp 80) _ _ rfl (.slice (some ⟨g5,0,none⟩) m c0) (.slice (some ⟨(v1).heap.size,0,none⟩) 1 1) rfl rfl (run_appK w.heap.size HCW.out.own HK1.out ?s1 ?s2) ?_)
       case s1 => have h9 := HM.out; (try simp at h9); (try simp); omega
       case s2 => simpa using HCW.out.below.size
       intro v3 w3 ho3 hg3 hloc3
       obtain ⟨A3,m3,c3,rfl,hc3⟩ := HCW.out.appN ho3 hg3
       have HC3 := hid hc3
       clear hc3 ho3 hg3 hloc3
       go_wp2
       go_roundw
       case rel => exact ⟨_,_,_,_,_,_,_,_,_,rfl,rfl,RA.out,RB.out,by omega,by omega,HSUM2.out,HRUN2.out,by rw [HP.out]; exact HC3.out⟩
       case measure => simp [lenS]; omega
    ·have hpos1 : 0 < n1 := by omega
     obtain ⟨x,la',hla⟩ : ∃ x la',la = x :: la' := by
      match la,L1.out with
      | [],h => simp at h; omega
      | x :: la',_ => exact ⟨x,la',rfl⟩
     obtain ⟨A1',hsl1,r1'⟩ := slK_l R1.out hc1 (1 : Int) 1 rfl (by omega)
     rw [hla] at r1'
     obtain ⟨g1,o1,rfl,hgB1,hcc1⟩ := (R1.out.below (HCUR.out.below.mono hB)).2 hpos1
     have hc01 := hcc1 0 (by rw [hla]; simp)
     have hx0 : la[0]'(by rw [hla]; simp) = x := by simp [hla]
     rw [hx0] at hc01
     simp only [Nat.zero_mul,Nat.add_zero] at hc01
     have hgw1 : g1 < wr.heap.size := by have := HWS.out; omega
     have i1 : (0 : Int) < n1 := by omega
     have j1 : decide ((0 : Int) < (n1 : Int)) = true := by simp; omega
     have j2 : decide (0 < n1) = true := by simp; omega
     by_cases hyx : nlt y.1 x.1
     ·have hrun2 : runC (pushC M y) la lb' = R := by rw [<- HRUN.out,hlb,hla,runC_ba _ _ _ _ _ hyx]
      obtain ⟨xm,⟨xs,xd,xa,xe⟩⟩ := y
      obtain ⟨zm,⟨zs,zd,za,ze⟩⟩ := x
      have t1 : decide (tcmp zm xm <= 0) = false := decide_eq_false fun h => tcmp_le.1 h hyx
      have RA := R1
      have RB := hid r2'
      have HSUM2 := hid (show (pushC M (xm,⟨xs,xd,xa,xe⟩)).length + (n1 + (n2 - 1)) <= 1000000 by have := pushC_length M (xm,⟨xs,xd,xa,xe⟩); have := HM.out; omega)
      obtain ⟨a0,a1,a2,a3,a4⟩ := hc01
      obtain ⟨b0,b1,b2,b3,b4⟩ := hc02
      have hall2 : ∀ w',Below U.heap.size U w' -> (w'.cell? ⟨g1,o1,none⟩ = some (.string zm) /\ w'.cell? ⟨g1,o1 + 1,none⟩ = some (.string zs) /\ w'.cell? ⟨g1,o1 + 2,none⟩ = some (.bool zd) /\ w'.cell? ⟨g1,o1 + 3,none⟩ = some (.int .i64 za) /\ w'.cell? ⟨g1,o1 + 4,none⟩ = some (.int .i64 ze)) /\ w'.cell? ⟨g2,o2,none⟩ = some (.string xm) /\ w'.cell? ⟨g2,o2 + 1,none⟩ = some (.string xs) /\ w'.cell? ⟨g2,o2 + 2,none⟩ = some (.bool xd) /\ w'.cell? ⟨g2,o2 + 3,none⟩ = some (.int .i64 xa) /\ w'.cell? ⟨g2,o2 + 4,none⟩ = some (.int .i64 xe) := fun w' hb => by
       have hb2 : Below wr.heap.size wr w' := HAL.out.trans (hb.mono (by have := HUS.out; omega))
       exact ⟨⟨(hb2.cell (p := ⟨g1,_,none⟩) hgw1).trans a0,(hb2.cell (p := ⟨g1,_,none⟩) hgw1).trans a1,(hb2.cell (p := ⟨g1,_,none⟩) hgw1).trans a2,(hb2.cell (p := ⟨g1,_,none⟩) hgw1).trans a3,(hb2.cell (p := ⟨g1,_,none⟩) hgw1).trans a4⟩,(hb2.cell (p := ⟨g2,_,none⟩) hgw2).trans b0,(hb2.cell (p := ⟨g2,_,none⟩) hgw2).trans b1,(hb2.cell (p := ⟨g2,_,none⟩) hgw2).trans b2,(hb2.cell (p := ⟨g2,_,none⟩) hgw2).trans b3,(hb2.cell (p := ⟨g2,_,none⟩) hgw2).trans b4⟩
      have HALL2 := hid hall2; have HRUN2 := hid hrun2
      have w1 := W1_.out
      have w2 := W2_.out
      clear hla hlb hrun2 r1' r2' hcc1 hcc2 hx0 hy0 hall2 e1 e2 a0 a1 a2 a3 a4 b0 b1 b2 b3 b4 hyx
      go_wp2_with fail
      rw [<- hU]
      clear hU
      have HALL := hid (fun w' hb => (HALL2.out w' hb).2)
      refine wp_region_held_drew (S := fun w' => Below U.heap.size U w') (by kernel_rfl) ?_ (fun hHeld => ?_)
      ·exact (Below.refl _ _).drew
      refine takesH [0,1,2,3,4,5,6,7,8,9,10,11,12,13,14] ?_
      repeat
       refine takesH_one (v := ?_) ?_ ?_
       rotate_left
       ·first | (refine Or.inr ⟨by rfl,?_⟩; with_reducible rfl) | (refine Or.inl ⟨by rfl,?_⟩; intro wx hSw; (try dsimp only at hSw); first | (go_simp; first | done | with_reducible rfl) | (obtain ⟨⟨_,_,_,_,_⟩,_,_,_,_,_⟩ := HALL2.out _ hSw; go_simp; first | done | with_reducible rfl))
       try simp only [Act.put,zq1,zq2,zq3,zq4,zq5,zq6]
      refine takesH_nil ?_
      refine wpAnyH_ready (rs := [15]) (by kernel_rfl) (by simp) (AllReadyH.cons rfl (fun K hK => ?_) AllReadyH.nil)
      go_simp
      refine (byname_any _ _ _ _ _ _ _ _ _ _ _).mono ?_
      rintro x v1 ⟨rfl,b1⟩
      try go_wp2_with fail
      refine hK.out _ _ ?_ (fun hHeld => ?_)
      ·exact next (by assumption) b1
      clear hK K
      try simp only [Act.put,zq1,zq2,zq3,zq4,zq5,zq6]
      refine takesH [16,17,18] ?_
      repeat
       refine takesH_one (v := ?_) ?_ ?_
       rotate_left
       ·first | (refine Or.inr ⟨by rfl,?_⟩; with_reducible rfl) | (refine Or.inl ⟨by rfl,?_⟩; intro wx hSw; (try dsimp only at hSw); first | (go_simp; first | done | with_reducible rfl))
       try simp only [Act.put,zq1,zq2,zq3,zq4,zq5,zq6]
      refine takesH_nil ?_
      refine wpAnyH_done (by kernel_rfl) ?_ _
      clear t1
      clear w1 w2
      have hlow : Below U.heap.size U v1 := hHeld
      obtain ⟨_,_,_,_,_⟩ := HALL.out _ hlow
      have hq := (hlow.block wr.heap.size (by have := HUS.out; omega)).trans HZ.out
      have z0 := cell_at (i := 0) hq rfl
      have z1 := cell_at (i := 1) hq rfl
      have z2 := cell_at (i := 2) hq rfl
      have z3 := cell_at (i := 3) hq rfl
      have z4 := cell_at (i := 4) hq rfl
      have y0 := thawed_at (i := 0) hq
      have y1 := thawed_at (i := 1) hq
      have y2 := thawed_at (i := 2) hq
      have y3 := thawed_at (i := 3) hq
      have y4 := thawed_at (i := 4) hq
      have hq4 := Joins.block_setCell (i := 4) (Joins.block_setCell (i := 3) (Joins.block_setCell (i := 2) (Joins.block_setCell (i := 1) (Joins.block_setCell (i := 0) hq (.string xm)) (.string xs)) (.bool xd)) (.int .i64 xa)) (.int .i64 xe)
      have hle : wr.heap.size <= wr.heap.size := Nat.le_refl _
      have hb4 := (((((HAL.out.trans (hlow.mono (by have := HUS.out; omega))).setCell (p := ⟨wr.heap.size,0,none⟩) hle (.string xm)).setCell (p := ⟨wr.heap.size,1,none⟩) hle (.string xs)).setCell (p := ⟨wr.heap.size,2,none⟩) hle (.bool xd)).setCell (p := ⟨wr.heap.size,3,none⟩) hle (.int .i64 xa)).setCell (p := ⟨wr.heap.size,4,none⟩) hle (.int .i64 xe)
      have HQ4_ := hid hq4; have HB4_ := hid hb4
      clear hq hq4 hb4 hle
      go_wp2_with fail
      go_region
      obtain ⟨w4,hw4⟩ : ∃ w4,w4 = (((((World.setCell v1 ⟨wr.heap.size,0,none⟩ (.string xm)).setCell ⟨wr.heap.size,1,none⟩ (.string xs)).setCell ⟨wr.heap.size,2,none⟩ (.bool xd)).setCell ⟨wr.heap.size,3,none⟩ (.int .i64 xa)).setCell ⟨wr.heap.size,4,none⟩ (.int .i64 xe)).drew := ⟨_,rfl⟩
      rw [<- hw4]
      have HQ4 : Hid (w4.heap[wr.heap.size]? = some (.cells #[.string xm,.string xs,.bool xd,.int .i64 xa,.int .i64 xe] 282 (0,0))) := hid (by rw [hw4]; exact HQ4_.out)
      have HB4 : Hid (Below wr.heap.size wr w4) := hid (by rw [hw4]; first | exact HB4_.out.drew.drew | exact HB4_.out.drew)
      clear hw4 HQ4_ HB4_ z0 z1 z2 z3 z4 y0 y1 y2 y3 y4
      have hcv := HCUR.out.on HB4.out
      rw [HM.out] at hcv
      have HCV := hid hcv
      have HS4 := hid HB4.out.size
      clear hcv
      rcases List.eq_nil_or_concat M with hM | ⟨L,⟨ym,⟨ys,yd,ya,ye⟩⟩,hM⟩
      ·have hp : pushC M (xm,⟨xs,xd,xa,xe⟩) = M ++ [(xm,⟨xs,xd,xa,xe⟩)] := by rw [hM]; rfl
       have hm0 : m = 0 := by rw [<- HM.out,hM]; rfl
       have S1 := hid (show IntKind.i64.wrap ((m : Int) - 1) = -1 by rw [IntKind.wrap_i64]; omega)
       have S2 := hid (show wrap64 ((m : Int) - 1) = -1 by unfold wrap64; omega)
       have HP := hid hp
       have hall4 : ∀ w',Below w4.heap.size w4 w' -> w'.cell? ⟨wr.heap.size,0,none⟩ = some (.string xm) /\ w'.cell? ⟨wr.heap.size,0 + 1,none⟩ = some (.string xs) /\ w'.cell? ⟨wr.heap.size,0 + 2,none⟩ = some (.bool xd) /\ w'.cell? ⟨wr.heap.size,0 + 3,none⟩ = some (.int .i64 xa) /\ w'.cell? ⟨wr.heap.size,0 + 4,none⟩ = some (.int .i64 xe) := fun w' hb => by
        have hq := (hb.block wr.heap.size (Array.getElem?_eq_some_iff.1 HQ4.out).1).trans HQ4.out
        exact ⟨cell_at hq rfl,cell_at hq rfl,cell_at hq rfl,cell_at hq rfl,cell_at hq rfl⟩
       have HALL4 := hid hall4
       have s1 := S1.out
       have s2 := S2.out
       clear hm0 hM hp hall4
       go_wp2_with fail
       refine wp_region_held_drew (S := fun w' => Below w4.heap.size w4 w') (by kernel_rfl) ?_ (fun hHeld => ?_)
       ·exact (Below.refl _ _).drew
       refine takesH [0,1,2,3,4,5,6,7,8,9,10,11] ?_
       repeat
        refine takesH_one (v := ?_) ?_ ?_
        rotate_left
        ·first | (refine Or.inr ⟨by rfl,?_⟩; with_reducible rfl) | (refine Or.inl ⟨by rfl,?_⟩; intro wx hSw; (try dsimp only at hSw); first | (go_simp; first | done | with_reducible rfl))
        try simp only [Act.put,zq1,zq2,zq3,zq4,zq5,zq6]
       refine takesH_nil ?_
       refine wpAnyH_done (by kernel_rfl) ?_ _
       have hl8 : Below w4.heap.size w4 w4.drew := (Below.refl _ _).drew
       generalize w4.drew = w8 at hl8 ⊢
       obtain ⟨_,_,_,_,_⟩ := HALL4.out _ hl8
       clear s1 s2
       have hcw := (HCV.out.on hl8).on ((Below.refl _ _).alloc (Nat.le_refl _) (.cells #[.string xm,.string xs,.bool xd,.int .i64 xa,.int .i64 xe] 282))
       have hk1 := RdK.one w8 (xm,⟨xs,xd,xa,xe⟩) (w8).heap.size rfl
       have HCW := hid hcw; have HK1 := hid hk1
       clear hcw hk1 hl8
       go_wp2_with (at_builtin; refine list_ex rfl (.tmp 78) (.tmp 80) _ _ rfl (.slice A0 m c0) (.slice (some ⟨(w8).heap.size,0,none⟩) 1 1) rfl rfl (run_appK w.heap.size HCW.out.own HK1.out ?s1 ?s2) ?_)
       case s1 => have h9 := HM.out; (try simp at h9); (try simp); omega
       case s2 => simpa using HCW.out.below.size
       intro v3 w3 ho3 hg3 hloc3
       obtain ⟨A3,m3,c3,rfl,hc3⟩ := HCW.out.appN ho3 hg3
       have HC3 := hid hc3
       clear hc3 ho3 hg3 hloc3
       go_wp2
       go_roundw
       case rel => exact ⟨_,_,_,_,_,_,_,_,_,rfl,rfl,RA.out,RB.out,by omega,by omega,HSUM2.out,HRUN2.out,by rw [HP.out]; exact HC3.out⟩
       case measure => simp [lenS]; omega
      ·rw [List.concat_eq_append] at hM
       have HMM := hid hM
       clear hM
       obtain ⟨u,hu⟩ : ∃ u,L.length = u := ⟨_,rfl⟩
       have hm1 : m = u + 1 := by rw [<- HM.out,HMM.out,<- hu]; simp
       have S1 := hid (show IntKind.i64.wrap ((m : Int) - 1) = (u : Int) by rw [IntKind.wrap_i64]; omega)
       have S2 := hid (show wrap64 ((m : Int) - 1) = (u : Int) by unfold wrap64; omega)
       obtain ⟨g5,rfl,hg5,hg5',hy5,hf5⟩ := HCV.out.last HMM.out
       rw [hu] at hy5
       have hall4 : ∀ w',Below w4.heap.size w4 w' -> (w'.cell? ⟨g5,u * 5,none⟩ = some (.string ym) /\ w'.cell? ⟨g5,u * 5 + 1,none⟩ = some (.string ys) /\ w'.cell? ⟨g5,u * 5 + 2,none⟩ = some (.bool yd) /\ w'.cell? ⟨g5,u * 5 + 3,none⟩ = some (.int .i64 ya) /\ w'.cell? ⟨g5,u * 5 + 4,none⟩ = some (.int .i64 ye)) /\ w'.cell? ⟨wr.heap.size,0,none⟩ = some (.string xm) /\ w'.cell? ⟨wr.heap.size,0 + 1,none⟩ = some (.string xs) /\ w'.cell? ⟨wr.heap.size,0 + 2,none⟩ = some (.bool xd) /\ w'.cell? ⟨wr.heap.size,0 + 3,none⟩ = some (.int .i64 xa) /\ w'.cell? ⟨wr.heap.size,0 + 4,none⟩ = some (.int .i64 xe) := fun w' hb => by
        have hq := (hb.block wr.heap.size (Array.getElem?_eq_some_iff.1 HQ4.out).1).trans HQ4.out
        obtain ⟨a0,a1,a2,a3,a4⟩ := hy5
        exact ⟨⟨(hb.cell (p := ⟨g5,_,none⟩) hg5').trans a0,(hb.cell (p := ⟨g5,_,none⟩) hg5').trans a1,(hb.cell (p := ⟨g5,_,none⟩) hg5').trans a2,(hb.cell (p := ⟨g5,_,none⟩) hg5').trans a3,(hb.cell (p := ⟨g5,_,none⟩) hg5').trans a4⟩,cell_at hq rfl,cell_at hq rfl,cell_at hq rfl,cell_at hq rfl,cell_at hq rfl⟩
       have HALL4 := hid hall4
       have i5 : (u : Int) < m := by omega
       have i6 : (0 : Int) <= u := by omega
       have i7 : decide ((0 : Int) <= (u : Int)) = true := by simp
       have HU := hid hu; have HM1 := hid hm1
       clear hall4 hu hm1 hy5 hf5
       by_cases hn : ym = xm
       ·have t0 : (tcmp ym xm == 0) = true := by rw [beq_iff_eq]; exact tcmp_zero.2 hn
        have hp : pushC M (xm,⟨xs,xd,xa,xe⟩) = L ++ [(ym,Ce.join ⟨ys,yd,ya,ye⟩ ⟨xs,xd,xa,xe⟩)] := by rw [HMM.out,pushC_last]; exact if_pos hn
        have HP := hid hp
        have s1 := S1.out
        have s2 := S2.out
        clear hp hn
        go_wp2_with fail
        refine wp_region_held_drew (S := fun w' => Below w4.heap.size w4 w') (by kernel_rfl) ?_ (fun hHeld => ?_)
        ·exact (Below.refl _ _).drew
        refine takesH [0,1,2,3,4,5,6,7,8] ?_
        repeat
         refine takesH_one (v := ?_) ?_ ?_
         rotate_left
         ·first | (refine Or.inr ⟨by rfl,?_⟩; with_reducible rfl) | (refine Or.inl ⟨by rfl,?_⟩; intro wx hSw; (try dsimp only at hSw); first | (go_simp; first | done | with_reducible rfl) | (obtain ⟨⟨_,_,_,_,_⟩,_,_,_,_,_⟩ := HALL4.out _ hSw; go_simp; first | done | with_reducible rfl))
         try simp only [Act.put,zq1,zq2,zq3,zq4,zq5,zq6]
        refine takesH_nil ?_
        refine wpAnyH_ready (rs := [9]) (by kernel_rfl) (by simp) (AllReadyH.cons rfl (fun K hK => ?_) AllReadyH.nil)
        go_simp
        refine (byname_any _ _ _ _ _ _ _ _ _ _ _).mono ?_
        rintro x v1 ⟨rfl,b1⟩
        try go_wp2_with fail
        refine hK.out _ _ ?_ (fun hHeld => ?_)
        ·exact next (by assumption) b1
        clear hK K
        try simp only [Act.put,zq1,zq2,zq3,zq4,zq5,zq6]
        refine takesH [10,11] ?_
        repeat
         refine takesH_one (v := ?_) ?_ ?_
         rotate_left
         ·first | (refine Or.inr ⟨by rfl,?_⟩; with_reducible rfl) | (refine Or.inl ⟨by rfl,?_⟩; intro wx hSw; (try dsimp only at hSw); first | (go_simp; first | done | with_reducible rfl))
         try simp only [Act.put,zq1,zq2,zq3,zq4,zq5,zq6]
        refine takesH_nil ?_
        refine wpAnyH_done (by kernel_rfl) ?_ _
        obtain ⟨⟨_,_,_,_,_⟩,_,_,_,_,_⟩ := HALL4.out _ hHeld
        clear s1 s2
        have HH := hid hHeld
        clear hHeld
        go_wp2_with fail
        go_region_with (first
         | (go_at_call 220; refine (joincols_any _ _ _ _ _ _ _ _ _ _ _).mono ?_; rintro x v5 ⟨js,jd,ja,je,hje,rfl,b5⟩
            have b5' := next HH.out (next (w := v1) (by first | exact (Below.refl _ _).drew | exact below_draws _ _ _ | exact Below.refl _ _) b5)
            obtain ⟨⟨_,_,_,_,_⟩,_,_,_,_,_⟩ := HALL4.out _ b5'
            have hcl := HCV.out.on b5'
            obtain ⟨g6,e6,_,_,_,hfz⟩ := hcl.last HMM.out
            cases e6
            have f0 := hfz (u * 5)
            have f1 := hfz (u * 5 + 1)
            have f2 := hfz (u * 5 + 2)
            have f3 := hfz (u * 5 + 3)
            have f4 := hfz (u * 5 + 4)
            have HCL := hid hcl
            have HJE := hid hje
            clear hcl hfz hje))
        all_goals
         have hput := HCL.out.put HMM.out HU.out ym js jd ja je
         rw [<- HJE.out] at hput
         generalize hw6 : (((((v5.setCell ⟨g5,u * 5,none⟩ (.string ym)).setCell ⟨g5,u * 5 + 1,none⟩ (.string js)).setCell ⟨g5,u * 5 + 2,none⟩ (.bool jd)).setCell ⟨g5,u * 5 + 3,none⟩ (.int .i64 ja)).setCell ⟨g5,u * 5 + 4,none⟩ (.int .i64 je)) = w6 at hput ⊢
         have HPUT := hid hput
         clear hput f0 f1 f2 f3 f4 b5 b5' hw6
         go_wp2
         go_roundw
         case rel => exact ⟨_,_,_,_,_,_,_,_,_,rfl,rfl,RA.out,RB.out,by omega,by omega,HSUM2.out,HRUN2.out,by rw [HP.out]; exact HPUT.out⟩
         case measure => simp [lenS]; omega
       ·have t0 : (tcmp ym xm == 0) = false := by rw [beq_eq_false_iff_ne]; exact fun h => hn (tcmp_zero.1 h)
        have hp : pushC M (xm,⟨xs,xd,xa,xe⟩) = M ++ [(xm,⟨xs,xd,xa,xe⟩)] := by rw [HMM.out,pushC_last]; exact if_neg hn
        have HP := hid hp
        have s1 := S1.out
        have s2 := S2.out
        clear hp hn
        go_wp2_with fail
        refine wp_region_held_drew (S := fun w' => Below w4.heap.size w4 w') (by kernel_rfl) ?_ (fun hHeld => ?_)
        ·exact (Below.refl _ _).drew
        refine takesH [0,1,2,3,4,5,6,7,8] ?_
        repeat
         refine takesH_one (v := ?_) ?_ ?_
         rotate_left
         ·first | (refine Or.inr ⟨by rfl,?_⟩; with_reducible rfl) | (refine Or.inl ⟨by rfl,?_⟩; intro wx hSw; (try dsimp only at hSw); first | (go_simp; first | done | with_reducible rfl) | (obtain ⟨⟨_,_,_,_,_⟩,_,_,_,_,_⟩ := HALL4.out _ hSw; go_simp; first | done | with_reducible rfl))
         try simp only [Act.put,zq1,zq2,zq3,zq4,zq5,zq6]
        refine takesH_nil ?_
        refine wpAnyH_ready (rs := [9]) (by kernel_rfl) (by simp) (AllReadyH.cons rfl (fun K hK => ?_) AllReadyH.nil)
        go_simp
        refine (byname_any _ _ _ _ _ _ _ _ _ _ _).mono ?_
        rintro x v1 ⟨rfl,b1⟩
        try go_wp2_with fail
        refine hK.out _ _ ?_ (fun hHeld => ?_)
        ·exact next (by assumption) b1
        clear hK K
        try simp only [Act.put,zq1,zq2,zq3,zq4,zq5,zq6]
        refine takesH [10,11] ?_
        repeat
         refine takesH_one (v := ?_) ?_ ?_
         rotate_left
         ·first | (refine Or.inr ⟨by rfl,?_⟩; with_reducible rfl) | (refine Or.inl ⟨by rfl,?_⟩; intro wx hSw; (try dsimp only at hSw); first | (go_simp; first | done | with_reducible rfl))
         try simp only [Act.put,zq1,zq2,zq3,zq4,zq5,zq6]
        refine takesH_nil ?_
        refine wpAnyH_done (by kernel_rfl) ?_ _
        have hl8 := hHeld
        obtain ⟨⟨_,_,_,_,_⟩,_,_,_,_,_⟩ := HALL4.out _ hHeld
        clear s1 s2
        have hcw := (HCV.out.on hl8).on ((Below.refl _ _).alloc (Nat.le_refl _) (.cells #[.string xm,.string xs,.bool xd,.int .i64 xa,.int .i64 xe] 282))
        have hk1 := RdK.one v1 (xm,⟨xs,xd,xa,xe⟩) (v1).heap.size rfl
        have HCW := hid hcw; have HK1 := hid hk1
        clear hcw hk1 hl8
        go_wp2_with (at_builtin; refine list_ex rfl (.tmp 78) (.tmp 80) _ _ rfl (.slice (some ⟨g5,0,none⟩) m c0) (.slice (some ⟨(v1).heap.size,0,none⟩) 1 1) rfl rfl (run_appK w.heap.size HCW.out.own HK1.out ?s1 ?s2) ?_)
        case s1 => have h9 := HM.out; (try simp at h9); (try simp); omega
        case s2 => simpa using HCW.out.below.size
        intro v3 w3 ho3 hg3 hloc3
        obtain ⟨A3,m3,c3,rfl,hc3⟩ := HCW.out.appN ho3 hg3
        have HC3 := hid hc3
        clear hc3 ho3 hg3 hloc3
        go_wp2
        go_roundw
        case rel => exact ⟨_,_,_,_,_,_,_,_,_,rfl,rfl,RA.out,RB.out,by omega,by omega,HSUM2.out,HRUN2.out,by rw [HP.out]; exact HC3.out⟩
        case measure => simp [lenS]; omega
     ·have hrun2 : runC (pushC M x) la' lb = R := by rw [<- HRUN.out,hlb,hla,runC_ab _ _ _ _ _ hyx]
      obtain ⟨zm,⟨zs,zd,za,ze⟩⟩ := y
      obtain ⟨xm,⟨xs,xd,xa,xe⟩⟩ := x
      have t1 : decide (tcmp xm zm <= 0) = true := decide_eq_true (tcmp_le.2 hyx)
      have RA := hid r1'
      have RB := R2
      have HSUM2 := hid (show (pushC M (xm,⟨xs,xd,xa,xe⟩)).length + (n1 - 1 + n2) <= 1000000 by have := pushC_length M (xm,⟨xs,xd,xa,xe⟩); have := HM.out; omega)
      obtain ⟨a0,a1,a2,a3,a4⟩ := hc01
      obtain ⟨b0,b1,b2,b3,b4⟩ := hc02
      have hall2 : ∀ w',Below U.heap.size U w' -> (w'.cell? ⟨g1,o1,none⟩ = some (.string xm) /\ w'.cell? ⟨g1,o1 + 1,none⟩ = some (.string xs) /\ w'.cell? ⟨g1,o1 + 2,none⟩ = some (.bool xd) /\ w'.cell? ⟨g1,o1 + 3,none⟩ = some (.int .i64 xa) /\ w'.cell? ⟨g1,o1 + 4,none⟩ = some (.int .i64 xe)) /\ w'.cell? ⟨g2,o2,none⟩ = some (.string zm) /\ w'.cell? ⟨g2,o2 + 1,none⟩ = some (.string zs) /\ w'.cell? ⟨g2,o2 + 2,none⟩ = some (.bool zd) /\ w'.cell? ⟨g2,o2 + 3,none⟩ = some (.int .i64 za) /\ w'.cell? ⟨g2,o2 + 4,none⟩ = some (.int .i64 ze) := fun w' hb => by
       have hb2 : Below wr.heap.size wr w' := HAL.out.trans (hb.mono (by have := HUS.out; omega))
       exact ⟨⟨(hb2.cell (p := ⟨g1,_,none⟩) hgw1).trans a0,(hb2.cell (p := ⟨g1,_,none⟩) hgw1).trans a1,(hb2.cell (p := ⟨g1,_,none⟩) hgw1).trans a2,(hb2.cell (p := ⟨g1,_,none⟩) hgw1).trans a3,(hb2.cell (p := ⟨g1,_,none⟩) hgw1).trans a4⟩,(hb2.cell (p := ⟨g2,_,none⟩) hgw2).trans b0,(hb2.cell (p := ⟨g2,_,none⟩) hgw2).trans b1,(hb2.cell (p := ⟨g2,_,none⟩) hgw2).trans b2,(hb2.cell (p := ⟨g2,_,none⟩) hgw2).trans b3,(hb2.cell (p := ⟨g2,_,none⟩) hgw2).trans b4⟩
      have HALL2 := hid hall2; have HRUN2 := hid hrun2
      have w1 := W1_.out
      have w2 := W2_.out
      clear hla hlb hrun2 r1' r2' hcc1 hcc2 hx0 hy0 hall2 e1 e2 a0 a1 a2 a3 a4 b0 b1 b2 b3 b4 hyx
      go_wp2_with fail
      rw [<- hU]
      clear hU
      have HALL := hid (fun w' hb => (HALL2.out w' hb).1)
      refine wp_region_held_drew (S := fun w' => Below U.heap.size U w') (by kernel_rfl) ?_ (fun hHeld => ?_)
      ·exact (Below.refl _ _).drew
      refine takesH [0,1,2,3,4,5,6,7,8,9,10,11,12,13,14] ?_
      repeat
       refine takesH_one (v := ?_) ?_ ?_
       rotate_left
       ·first | (refine Or.inr ⟨by rfl,?_⟩; with_reducible rfl) | (refine Or.inl ⟨by rfl,?_⟩; intro wx hSw; (try dsimp only at hSw); first | (go_simp; first | done | with_reducible rfl) | (obtain ⟨⟨_,_,_,_,_⟩,_,_,_,_,_⟩ := HALL2.out _ hSw; go_simp; first | done | with_reducible rfl))
       try simp only [Act.put,zq1,zq2,zq3,zq4,zq5,zq6]
      refine takesH_nil ?_
      refine wpAnyH_ready (rs := [15]) (by kernel_rfl) (by simp) (AllReadyH.cons rfl (fun K hK => ?_) AllReadyH.nil)
      go_simp
      refine (byname_any _ _ _ _ _ _ _ _ _ _ _).mono ?_
      rintro x v1 ⟨rfl,b1⟩
      try go_wp2_with fail
      refine hK.out _ _ ?_ (fun hHeld => ?_)
      ·exact next (by assumption) b1
      clear hK K
      try simp only [Act.put,zq1,zq2,zq3,zq4,zq5,zq6]
      refine takesH [16,17,18] ?_
      repeat
       refine takesH_one (v := ?_) ?_ ?_
       rotate_left
       ·first | (refine Or.inr ⟨by rfl,?_⟩; with_reducible rfl) | (refine Or.inl ⟨by rfl,?_⟩; intro wx hSw; (try dsimp only at hSw); first | (go_simp; first | done | with_reducible rfl))
       try simp only [Act.put,zq1,zq2,zq3,zq4,zq5,zq6]
      refine takesH_nil ?_
      refine wpAnyH_done (by kernel_rfl) ?_ _
      clear t1
      clear w1 w2
      have hlow : Below U.heap.size U v1 := hHeld
      obtain ⟨_,_,_,_,_⟩ := HALL.out _ hlow
      have hq := (hlow.block wr.heap.size (by have := HUS.out; omega)).trans HZ.out
      have z0 := cell_at (i := 0) hq rfl
      have z1 := cell_at (i := 1) hq rfl
      have z2 := cell_at (i := 2) hq rfl
      have z3 := cell_at (i := 3) hq rfl
      have z4 := cell_at (i := 4) hq rfl
      have y0 := thawed_at (i := 0) hq
      have y1 := thawed_at (i := 1) hq
      have y2 := thawed_at (i := 2) hq
      have y3 := thawed_at (i := 3) hq
      have y4 := thawed_at (i := 4) hq
      have hq4 := Joins.block_setCell (i := 4) (Joins.block_setCell (i := 3) (Joins.block_setCell (i := 2) (Joins.block_setCell (i := 1) (Joins.block_setCell (i := 0) hq (.string xm)) (.string xs)) (.bool xd)) (.int .i64 xa)) (.int .i64 xe)
      have hle : wr.heap.size <= wr.heap.size := Nat.le_refl _
      have hb4 := (((((HAL.out.trans (hlow.mono (by have := HUS.out; omega))).setCell (p := ⟨wr.heap.size,0,none⟩) hle (.string xm)).setCell (p := ⟨wr.heap.size,1,none⟩) hle (.string xs)).setCell (p := ⟨wr.heap.size,2,none⟩) hle (.bool xd)).setCell (p := ⟨wr.heap.size,3,none⟩) hle (.int .i64 xa)).setCell (p := ⟨wr.heap.size,4,none⟩) hle (.int .i64 xe)
      have HQ4_ := hid hq4; have HB4_ := hid hb4
      clear hq hq4 hb4 hle
      go_wp2_with fail
      go_region
      obtain ⟨w4,hw4⟩ : ∃ w4,w4 = (((((World.setCell v1 ⟨wr.heap.size,0,none⟩ (.string xm)).setCell ⟨wr.heap.size,1,none⟩ (.string xs)).setCell ⟨wr.heap.size,2,none⟩ (.bool xd)).setCell ⟨wr.heap.size,3,none⟩ (.int .i64 xa)).setCell ⟨wr.heap.size,4,none⟩ (.int .i64 xe)).drew := ⟨_,rfl⟩
      rw [<- hw4]
      have HQ4 : Hid (w4.heap[wr.heap.size]? = some (.cells #[.string xm,.string xs,.bool xd,.int .i64 xa,.int .i64 xe] 282 (0,0))) := hid (by rw [hw4]; exact HQ4_.out)
      have HB4 : Hid (Below wr.heap.size wr w4) := hid (by rw [hw4]; first | exact HB4_.out.drew.drew | exact HB4_.out.drew)
      clear hw4 HQ4_ HB4_ z0 z1 z2 z3 z4 y0 y1 y2 y3 y4
      have hcv := HCUR.out.on HB4.out
      rw [HM.out] at hcv
      have HCV := hid hcv
      have HS4 := hid HB4.out.size
      clear hcv
      rcases List.eq_nil_or_concat M with hM | ⟨L,⟨ym,⟨ys,yd,ya,ye⟩⟩,hM⟩
      ·have hp : pushC M (xm,⟨xs,xd,xa,xe⟩) = M ++ [(xm,⟨xs,xd,xa,xe⟩)] := by rw [hM]; rfl
       have hm0 : m = 0 := by rw [<- HM.out,hM]; rfl
       have S1 := hid (show IntKind.i64.wrap ((m : Int) - 1) = -1 by rw [IntKind.wrap_i64]; omega)
       have S2 := hid (show wrap64 ((m : Int) - 1) = -1 by unfold wrap64; omega)
       have HP := hid hp
       have hall4 : ∀ w',Below w4.heap.size w4 w' -> w'.cell? ⟨wr.heap.size,0,none⟩ = some (.string xm) /\ w'.cell? ⟨wr.heap.size,0 + 1,none⟩ = some (.string xs) /\ w'.cell? ⟨wr.heap.size,0 + 2,none⟩ = some (.bool xd) /\ w'.cell? ⟨wr.heap.size,0 + 3,none⟩ = some (.int .i64 xa) /\ w'.cell? ⟨wr.heap.size,0 + 4,none⟩ = some (.int .i64 xe) := fun w' hb => by
        have hq := (hb.block wr.heap.size (Array.getElem?_eq_some_iff.1 HQ4.out).1).trans HQ4.out
        exact ⟨cell_at hq rfl,cell_at hq rfl,cell_at hq rfl,cell_at hq rfl,cell_at hq rfl⟩
       have HALL4 := hid hall4
       have s1 := S1.out
       have s2 := S2.out
       clear hm0 hM hp hall4
       go_wp2_with fail
       refine wp_region_held_drew (S := fun w' => Below w4.heap.size w4 w') (by kernel_rfl) ?_ (fun hHeld => ?_)
       ·exact (Below.refl _ _).drew
       refine takesH [0,1,2,3,4,5,6,7,8,9,10,11] ?_
       repeat
        refine takesH_one (v := ?_) ?_ ?_
        rotate_left
        ·first | (refine Or.inr ⟨by rfl,?_⟩; with_reducible rfl) | (refine Or.inl ⟨by rfl,?_⟩; intro wx hSw; (try dsimp only at hSw); first | (go_simp; first | done | with_reducible rfl))
        try simp only [Act.put,zq1,zq2,zq3,zq4,zq5,zq6]
       refine takesH_nil ?_
       refine wpAnyH_done (by kernel_rfl) ?_ _
       have hl8 : Below w4.heap.size w4 w4.drew := (Below.refl _ _).drew
       generalize w4.drew = w8 at hl8 ⊢
       obtain ⟨_,_,_,_,_⟩ := HALL4.out _ hl8
       clear s1 s2
       have hcw := (HCV.out.on hl8).on ((Below.refl _ _).alloc (Nat.le_refl _) (.cells #[.string xm,.string xs,.bool xd,.int .i64 xa,.int .i64 xe] 282))
       have hk1 := RdK.one w8 (xm,⟨xs,xd,xa,xe⟩) (w8).heap.size rfl
       have HCW := hid hcw; have HK1 := hid hk1
       clear hcw hk1 hl8
       go_wp2_with (at_builtin; refine list_ex rfl (.tmp 78) (.tmp 80) _ _ rfl (.slice A0 m c0) (.slice (some ⟨(w8).heap.size,0,none⟩) 1 1) rfl rfl (run_appK w.heap.size HCW.out.own HK1.out ?s1 ?s2) ?_)
       case s1 => have h9 := HM.out; (try simp at h9); (try simp); omega
       case s2 => simpa using HCW.out.below.size
       intro v3 w3 ho3 hg3 hloc3
       obtain ⟨A3,m3,c3,rfl,hc3⟩ := HCW.out.appN ho3 hg3
       have HC3 := hid hc3
       clear hc3 ho3 hg3 hloc3
       go_wp2
       go_roundw
       case rel => exact ⟨_,_,_,_,_,_,_,_,_,rfl,rfl,RA.out,RB.out,by omega,by omega,HSUM2.out,HRUN2.out,by rw [HP.out]; exact HC3.out⟩
       case measure => simp [lenS]; omega
      ·rw [List.concat_eq_append] at hM
       have HMM := hid hM
       clear hM
       obtain ⟨u,hu⟩ : ∃ u,L.length = u := ⟨_,rfl⟩
       have hm1 : m = u + 1 := by rw [<- HM.out,HMM.out,<- hu]; simp
       have S1 := hid (show IntKind.i64.wrap ((m : Int) - 1) = (u : Int) by rw [IntKind.wrap_i64]; omega)
       have S2 := hid (show wrap64 ((m : Int) - 1) = (u : Int) by unfold wrap64; omega)
       obtain ⟨g5,rfl,hg5,hg5',hy5,hf5⟩ := HCV.out.last HMM.out
       rw [hu] at hy5
       have hall4 : ∀ w',Below w4.heap.size w4 w' -> (w'.cell? ⟨g5,u * 5,none⟩ = some (.string ym) /\ w'.cell? ⟨g5,u * 5 + 1,none⟩ = some (.string ys) /\ w'.cell? ⟨g5,u * 5 + 2,none⟩ = some (.bool yd) /\ w'.cell? ⟨g5,u * 5 + 3,none⟩ = some (.int .i64 ya) /\ w'.cell? ⟨g5,u * 5 + 4,none⟩ = some (.int .i64 ye)) /\ w'.cell? ⟨wr.heap.size,0,none⟩ = some (.string xm) /\ w'.cell? ⟨wr.heap.size,0 + 1,none⟩ = some (.string xs) /\ w'.cell? ⟨wr.heap.size,0 + 2,none⟩ = some (.bool xd) /\ w'.cell? ⟨wr.heap.size,0 + 3,none⟩ = some (.int .i64 xa) /\ w'.cell? ⟨wr.heap.size,0 + 4,none⟩ = some (.int .i64 xe) := fun w' hb => by
        have hq := (hb.block wr.heap.size (Array.getElem?_eq_some_iff.1 HQ4.out).1).trans HQ4.out
        obtain ⟨a0,a1,a2,a3,a4⟩ := hy5
        exact ⟨⟨(hb.cell (p := ⟨g5,_,none⟩) hg5').trans a0,(hb.cell (p := ⟨g5,_,none⟩) hg5').trans a1,(hb.cell (p := ⟨g5,_,none⟩) hg5').trans a2,(hb.cell (p := ⟨g5,_,none⟩) hg5').trans a3,(hb.cell (p := ⟨g5,_,none⟩) hg5').trans a4⟩,cell_at hq rfl,cell_at hq rfl,cell_at hq rfl,cell_at hq rfl,cell_at hq rfl⟩
       have HALL4 := hid hall4
       have i5 : (u : Int) < m := by omega
       have i6 : (0 : Int) <= u := by omega
       have i7 : decide ((0 : Int) <= (u : Int)) = true := by simp
       have HU := hid hu; have HM1 := hid hm1
       clear hall4 hu hm1 hy5 hf5
       by_cases hn : ym = xm
       ·have t0 : (tcmp ym xm == 0) = true := by rw [beq_iff_eq]; exact tcmp_zero.2 hn
        have hp : pushC M (xm,⟨xs,xd,xa,xe⟩) = L ++ [(ym,Ce.join ⟨ys,yd,ya,ye⟩ ⟨xs,xd,xa,xe⟩)] := by rw [HMM.out,pushC_last]; exact if_pos hn
        have HP := hid hp
        have s1 := S1.out
        have s2 := S2.out
        clear hp hn
        go_wp2_with fail
        refine wp_region_held_drew (S := fun w' => Below w4.heap.size w4 w') (by kernel_rfl) ?_ (fun hHeld => ?_)
        ·exact (Below.refl _ _).drew
        refine takesH [0,1,2,3,4,5,6,7,8] ?_
        repeat
         refine takesH_one (v := ?_) ?_ ?_
         rotate_left
         ·first | (refine Or.inr ⟨by rfl,?_⟩; with_reducible rfl) | (refine Or.inl ⟨by rfl,?_⟩; intro wx hSw; (try dsimp only at hSw); first | (go_simp; first | done | with_reducible rfl) | (obtain ⟨⟨_,_,_,_,_⟩,_,_,_,_,_⟩ := HALL4.out _ hSw; go_simp; first | done | with_reducible rfl))
         try simp only [Act.put,zq1,zq2,zq3,zq4,zq5,zq6]
        refine takesH_nil ?_
        refine wpAnyH_ready (rs := [9]) (by kernel_rfl) (by simp) (AllReadyH.cons rfl (fun K hK => ?_) AllReadyH.nil)
        go_simp
        refine (byname_any _ _ _ _ _ _ _ _ _ _ _).mono ?_
        rintro x v1 ⟨rfl,b1⟩
        try go_wp2_with fail
        refine hK.out _ _ ?_ (fun hHeld => ?_)
        ·exact next (by assumption) b1
        clear hK K
        try simp only [Act.put,zq1,zq2,zq3,zq4,zq5,zq6]
        refine takesH [10,11] ?_
        repeat
         refine takesH_one (v := ?_) ?_ ?_
         rotate_left
         ·first | (refine Or.inr ⟨by rfl,?_⟩; with_reducible rfl) | (refine Or.inl ⟨by rfl,?_⟩; intro wx hSw; (try dsimp only at hSw); first | (go_simp; first | done | with_reducible rfl))
         try simp only [Act.put,zq1,zq2,zq3,zq4,zq5,zq6]
        refine takesH_nil ?_
        refine wpAnyH_done (by kernel_rfl) ?_ _
        obtain ⟨⟨_,_,_,_,_⟩,_,_,_,_,_⟩ := HALL4.out _ hHeld
        clear s1 s2
        have HH := hid hHeld
        clear hHeld
        go_wp2_with fail
        go_region_with (first
         | (go_at_call 220; refine (joincols_any _ _ _ _ _ _ _ _ _ _ _).mono ?_; rintro x v5 ⟨js,jd,ja,je,hje,rfl,b5⟩
            have b5' := next HH.out (next (w := v1) (by first | exact (Below.refl _ _).drew | exact below_draws _ _ _ | exact Below.refl _ _) b5)
            obtain ⟨⟨_,_,_,_,_⟩,_,_,_,_,_⟩ := HALL4.out _ b5'
            have hcl := HCV.out.on b5'
            obtain ⟨g6,e6,_,_,_,hfz⟩ := hcl.last HMM.out
            cases e6
            have f0 := hfz (u * 5)
            have f1 := hfz (u * 5 + 1)
            have f2 := hfz (u * 5 + 2)
            have f3 := hfz (u * 5 + 3)
            have f4 := hfz (u * 5 + 4)
            have HCL := hid hcl
            have HJE := hid hje
            clear hcl hfz hje))
        all_goals
         have hput := HCL.out.put HMM.out HU.out ym js jd ja je
         rw [<- HJE.out] at hput
         generalize hw6 : (((((v5.setCell ⟨g5,u * 5,none⟩ (.string ym)).setCell ⟨g5,u * 5 + 1,none⟩ (.string js)).setCell ⟨g5,u * 5 + 2,none⟩ (.bool jd)).setCell ⟨g5,u * 5 + 3,none⟩ (.int .i64 ja)).setCell ⟨g5,u * 5 + 4,none⟩ (.int .i64 je)) = w6 at hput ⊢
         have HPUT := hid hput
         clear hput f0 f1 f2 f3 f4 b5 b5' hw6
         go_wp2
         go_roundw
         case rel => exact ⟨_,_,_,_,_,_,_,_,_,rfl,rfl,RA.out,RB.out,by omega,by omega,HSUM2.out,HRUN2.out,by rw [HP.out]; exact HPUT.out⟩
         case measure => simp [lenS]; omega
       ·have t0 : (tcmp ym xm == 0) = false := by rw [beq_eq_false_iff_ne]; exact fun h => hn (tcmp_zero.1 h)
        have hp : pushC M (xm,⟨xs,xd,xa,xe⟩) = M ++ [(xm,⟨xs,xd,xa,xe⟩)] := by rw [HMM.out,pushC_last]; exact if_neg hn
        have HP := hid hp
        have s1 := S1.out
        have s2 := S2.out
        clear hp hn
        go_wp2_with fail
        refine wp_region_held_drew (S := fun w' => Below w4.heap.size w4 w') (by kernel_rfl) ?_ (fun hHeld => ?_)
        ·exact (Below.refl _ _).drew
        refine takesH [0,1,2,3,4,5,6,7,8] ?_
        repeat
         refine takesH_one (v := ?_) ?_ ?_
         rotate_left
         ·first | (refine Or.inr ⟨by rfl,?_⟩; with_reducible rfl) | (refine Or.inl ⟨by rfl,?_⟩; intro wx hSw; (try dsimp only at hSw); first | (go_simp; first | done | with_reducible rfl) | (obtain ⟨⟨_,_,_,_,_⟩,_,_,_,_,_⟩ := HALL4.out _ hSw; go_simp; first | done | with_reducible rfl))
         try simp only [Act.put,zq1,zq2,zq3,zq4,zq5,zq6]
        refine takesH_nil ?_
        refine wpAnyH_ready (rs := [9]) (by kernel_rfl) (by simp) (AllReadyH.cons rfl (fun K hK => ?_) AllReadyH.nil)
        go_simp
        refine (byname_any _ _ _ _ _ _ _ _ _ _ _).mono ?_
        rintro x v1 ⟨rfl,b1⟩
        try go_wp2_with fail
        refine hK.out _ _ ?_ (fun hHeld => ?_)
        ·exact next (by assumption) b1
        clear hK K
        try simp only [Act.put,zq1,zq2,zq3,zq4,zq5,zq6]
        refine takesH [10,11] ?_
        repeat
         refine takesH_one (v := ?_) ?_ ?_
         rotate_left
         ·first | (refine Or.inr ⟨by rfl,?_⟩; with_reducible rfl) | (refine Or.inl ⟨by rfl,?_⟩; intro wx hSw; (try dsimp only at hSw); first | (go_simp; first | done | with_reducible rfl))
         try simp only [Act.put,zq1,zq2,zq3,zq4,zq5,zq6]
        refine takesH_nil ?_
        refine wpAnyH_done (by kernel_rfl) ?_ _
        have hl8 := hHeld
        obtain ⟨⟨_,_,_,_,_⟩,_,_,_,_,_⟩ := HALL4.out _ hHeld
        clear s1 s2
        have hcw := (HCV.out.on hl8).on ((Below.refl _ _).alloc (Nat.le_refl _) (.cells #[.string xm,.string xs,.bool xd,.int .i64 xa,.int .i64 xe] 282))
        have hk1 := RdK.one v1 (xm,⟨xs,xd,xa,xe⟩) (v1).heap.size rfl
        have HCW := hid hcw; have HK1 := hid hk1
        clear hcw hk1 hl8
        go_wp2_with (at_builtin; refine list_ex rfl (.tmp 78) (.tmp 80) _ _ rfl (.slice (some ⟨g5,0,none⟩) m c0) (.slice (some ⟨(v1).heap.size,0,none⟩) 1 1) rfl rfl (run_appK w.heap.size HCW.out.own HK1.out ?s1 ?s2) ?_)
        case s1 => have h9 := HM.out; (try simp at h9); (try simp); omega
        case s2 => simpa using HCW.out.below.size
        intro v3 w3 ho3 hg3 hloc3
        obtain ⟨A3,m3,c3,rfl,hc3⟩ := HCW.out.appN ho3 hg3
        have HC3 := hid hc3
        clear hc3 ho3 hg3 hloc3
        go_wp2
        go_roundw
        case rel => exact ⟨_,_,_,_,_,_,_,_,_,rfl,rfl,RA.out,RB.out,by omega,by omega,HSUM2.out,HRUN2.out,by rw [HP.out]; exact HC3.out⟩
        case measure => simp [lenS]; omega
end Go.Proofs.YtmpcnhpdobdmcaaGreatDoor
namespace Go.Proofs.YtmpcnhpdobdmcaaGreatDoor
open Go Go.RowKit Go.Joins
theorem joinrow_any (k s k' s' : ByteArray) (d d' : Bool) (a e g h a' e' g' h' : Int) (A A' : Option Addr) (n c n' c' B B' : Nat) (l l' : Cols) (w : World) (hr : RdK w B A n l) (hr' : RdK w B' A' n' l') (hB : B <= w.heap.size) (hB' : B' <= w.heap.size) (hnc : n <= c) (hnc' : n' <= c') (hn : n + n' <= 1000000) (rl : Rise l) (fl : Full l) (rl' : Rise l') (fl' : Full l') :
    Calls Tryz.prog 173 #[.agg #[.string k,.string s,.bool d,.int .i64 a,.int .i64 e,.int .i64 g,.int .i64 h,.slice A n c],.agg #[.string k',.string s',.bool d',.int .i64 a',.int .i64 e',.int .i64 g',.int .i64 h',.slice A' n' c']] w fun x w' => ∃ js jd ja je Aj cj,Ce.join ⟨s,d,a,e⟩ ⟨s',d',a',e'⟩ = ⟨js,jd,ja,je⟩ /\ x = .returned (.agg #[.string k,.string js,.bool jd,.int .i64 ja,.int .i64 je,.int .i64 (max g g'),.int .i64 (max h h'),.slice Aj (mrg l l').length cj]) /\ Cur w w' (.slice Aj (mrg l l').length cj) (mrg l l') := by
 obtain ⟨⟨js,jd,ja,je⟩,hj⟩ : ∃ c,Ce.join ⟨s,d,a,e⟩ ⟨s',d',a',e'⟩ = c := ⟨_,rfl⟩
 have J1 := hid (congrArg Ce.v hj)
 unfold Ce.v at J1
 have HJ := hid hj
 obtain ⟨mg,hmg⟩ : ∃ m,max g g' = m := ⟨_,rfl⟩
 obtain ⟨mh,hmh⟩ : ∃ m,max h h' = m := ⟨_,rfl⟩
 rw [hmg,hmh]
 have bz := (((Below.refl w.heap.size w).alloc (Nat.le_refl _) (.cells #[.string k,.string s,.bool d,.int .i64 a,.int .i64 e,.int .i64 g,.int .i64 h,.slice A n c] 45)).alloc (by simp) (.cells #[.string k',.string s',.bool d',.int .i64 a',.int .i64 e',.int .i64 g',.int .i64 h',.slice A' n' c'] 45)).alloc (by (simp <;> omega)) (.cells #[.string ⟨#[]⟩,.string ⟨#[]⟩,.bool false,.int .i64 0,.int .i64 0,.int .i64 0,.int .i64 0,.slice none 0 0] 45)
 have ro := (RoAt.new w k s d a e g h A n c).below (((Below.refl (w.heap.size + 1) _).alloc (by simp) (.cells #[.string k',.string s',.bool d',.int .i64 a',.int .i64 e',.int .i64 g',.int .i64 h',.slice A' n' c'] 45)).alloc (by (simp <;> omega)) (.cells #[.string ⟨#[]⟩,.string ⟨#[]⟩,.bool false,.int .i64 0,.int .i64 0,.int .i64 0,.int .i64 0,.slice none 0 0] 45)) (by omega)
 have ro' := (RoAt.new (w.alloc (.cells #[.string k,.string s,.bool d,.int .i64 a,.int .i64 e,.int .i64 g,.int .i64 h,.slice A n c] 45)) k' s' d' a' e' g' h' A' n' c').below ((Below.refl (w.heap.size + 2) _).alloc (by simp) (.cells #[.string ⟨#[]⟩,.string ⟨#[]⟩,.bool false,.int .i64 0,.int .i64 0,.int .i64 0,.int .i64 0,.slice none 0 0] 45)) (by simp)
 simp only [World.size_alloc] at ro'
 have hz := heap_alloc_new ((w.alloc (.cells #[.string k,.string s,.bool d,.int .i64 a,.int .i64 e,.int .i64 g,.int .i64 h,.slice A n c] 45)).alloc (.cells #[.string k',.string s',.bool d',.int .i64 a',.int .i64 e',.int .i64 g',.int .i64 h',.slice A' n' c'] 45)) (.cells #[.string ⟨#[]⟩,.string ⟨#[]⟩,.bool false,.int .i64 0,.int .i64 0,.int .i64 0,.int .i64 0,.slice none 0 0] 45)
 simp only [World.size_alloc] at hz
 obtain ⟨U,hU⟩ : ∃ U,U = ((w.alloc (.cells #[.string k,.string s,.bool d,.int .i64 a,.int .i64 e,.int .i64 g,.int .i64 h,.slice A n c] 45)).alloc (.cells #[.string k',.string s',.bool d',.int .i64 a',.int .i64 e',.int .i64 g',.int .i64 h',.slice A' n' c'] 45)).alloc (.cells #[.string ⟨#[]⟩,.string ⟨#[]⟩,.bool false,.int .i64 0,.int .i64 0,.int .i64 0,.int .i64 0,.slice none 0 0] 45) := ⟨_,rfl⟩
 have hUs : U.heap.size = w.heap.size + 3 := by rw [hU]; simp
 rw [<- hU] at bz ro ro' hz
 have hall : ∀ w',Below (w.heap.size + 2) U w' -> (w'.cell? ⟨w.heap.size,0,none⟩ = some (.string k) /\ w'.cell? ⟨w.heap.size,1,none⟩ = some (.string s) /\ w'.cell? ⟨w.heap.size,2,none⟩ = some (.bool d) /\ w'.cell? ⟨w.heap.size,3,none⟩ = some (.int .i64 a) /\ w'.cell? ⟨w.heap.size,4,none⟩ = some (.int .i64 e) /\ w'.cell? ⟨w.heap.size,5,none⟩ = some (.int .i64 g) /\ w'.cell? ⟨w.heap.size,6,none⟩ = some (.int .i64 h) /\ w'.cell? ⟨w.heap.size,7,none⟩ = some (.slice A n c)) /\ (w'.cell? ⟨w.heap.size + 1,0,none⟩ = some (.string k') /\ w'.cell? ⟨w.heap.size + 1,1,none⟩ = some (.string s') /\ w'.cell? ⟨w.heap.size + 1,2,none⟩ = some (.bool d') /\ w'.cell? ⟨w.heap.size + 1,3,none⟩ = some (.int .i64 a') /\ w'.cell? ⟨w.heap.size + 1,4,none⟩ = some (.int .i64 e') /\ w'.cell? ⟨w.heap.size + 1,5,none⟩ = some (.int .i64 g') /\ w'.cell? ⟨w.heap.size + 1,6,none⟩ = some (.int .i64 h') /\ w'.cell? ⟨w.heap.size + 1,7,none⟩ = some (.slice A' n' c')) /\ RdK w' B A n l /\ RdK w' B' A' n' l' := fun w' hb =>
  ⟨ro.below hb (by omega),ro'.below hb (by omega),(hr.below (bz.mono hB)).below (hb.mono (by omega)),(hr'.below (bz.mono hB')).below (hb.mono (by omega))⟩
 have HALL := hid hall; have BZ := hid bz; have HUS := hid hUs; have HZ := hid hz; have HB := hid hB; have HB' := hid hB'; have MG := hid hmg; have MH := hid hmh
 clear hj hmg hmh bz ro ro' hz hUs hall hr hr' hB hB'
 have HLE := hid (show w.heap.size + 2 <= w.heap.size + 1 + 1 by omega)
 have HLE2 := hid (show w.heap.size <= w.heap.size + 1 + 1 by omega)
 have mg1 := MG.out
 have mh1 := MH.out
 go_enter Tryz.func173,Tryz.ntmps173
 go_wp2_with fail
 rw [<- hU]
 clear hU
 refine wp_region_held_drew (S := fun w' => Below (w.heap.size + 2) U w') (by kernel_rfl) ?_ (fun hHeld => ?_)
 ·exact (Below.refl _ _).drew
 refine takesH [0,1,2,3,4,5,7,8,9,10,11,12,13,14,15,16,17,18,19,20] ?_
 repeat
  refine takesH_one (v := ?_) ?_ ?_
  rotate_left
  ·first | (refine Or.inr ⟨by rfl,?_⟩; with_reducible rfl) | (refine Or.inl ⟨by rfl,?_⟩; intro wx hSw; (try dsimp only at hSw); first | (go_simp; first | done | with_reducible rfl) | (obtain ⟨⟨_,_,_,_,_,_,_,_⟩,⟨_,_,_,_,_,_,_,_⟩,_⟩ := HALL.out _ hSw; go_simp; first | done | with_reducible rfl))
  try simp only [Act.put,zq1,zq2,zq3,zq4,zq5,zq6]
 refine takesH_nil ?_
 refine wpAnyH_ready (rs := [6]) (by kernel_rfl) (by simp) (AllReadyH.cons rfl (fun K hK => ?_) AllReadyH.nil)
 go_simp
 refine (join_any _ _ _ _ _ _ _ _ _).mono ?_
 rintro x v1 ⟨rfl,b1⟩
 unfold Ce.v
 rw [J1.out]
 have c1 := hid (next (w := U) (w1 := U.drew) ((Below.refl _ _).drew) b1)
 clear b1
 try go_wp2_with fail
 refine hK.out _ _ ?_ (fun hHeld => ?_)
 ·first | exact (b2.out.mono (by have := HUS.out; omega)) | exact (c1.out.mono (by have := HUS.out; omega))
 clear hK K
 try simp only [Act.put,zq1,zq2,zq3,zq4,zq5,zq6]
 refine wpAnyH_ready (rs := [21]) (by kernel_rfl) (by simp) (AllReadyH.cons rfl (fun K hK => ?_) AllReadyH.nil)
 go_simp
 obtain ⟨_,hk1,hk2⟩ := (HALL.out _ (c1.out.mono (by have := HUS.out; omega))).2
 refine (merge_any A A' n n' c c' B B' l l' v1 hk1 hk2 (by have := c1.out.size; have := HUS.out; have := HB.out; omega) (by have := c1.out.size; have := HUS.out; have := HB'.out; omega) hnc hnc' hn).mono ?_
 rintro x v2 ⟨mv,rfl,hcur⟩
 rw [runC_mrg rl fl rl' fl'] at hcur
 obtain ⟨A2,c2,rfl,_⟩ := hcur.slice
 have HCUR := hid hcur
 have b2 := hid (next c1.out hcur.below)
 have T2 : v2.heap[w.heap.size + 1 + 1]? = _ := (b2.out.block (w.heap.size + 1 + 1) (by have := HUS.out; omega)).trans HZ.out
 have T3 := hid T2
 have k0 := cell_at (i := 0) T2 rfl
 have k1 := cell_at (i := 1) T2 rfl
 have k2 := cell_at (i := 2) T2 rfl
 have k3 := cell_at (i := 3) T2 rfl
 have k4 := cell_at (i := 4) T2 rfl
 have k5 := cell_at (i := 5) T2 rfl
 have k6 := cell_at (i := 6) T2 rfl
 have k7 := cell_at (i := 7) T2 rfl
 have f0 := thawed_at (i := 0) T2
 have f1 := thawed_at (i := 1) T2
 have f2 := thawed_at (i := 2) T2
 have f3 := thawed_at (i := 3) T2
 have f4 := thawed_at (i := 4) T2
 have f5 := thawed_at (i := 5) T2
 have f6 := thawed_at (i := 6) T2
 have f7 := thawed_at (i := 7) T2
 clear T2 hcur hk1 hk2
 try go_wp2_with fail
 refine hK.out _ _ ?_ (fun hHeld => ?_)
 ·first | exact (b2.out.mono (by have := HUS.out; omega)) | exact (c1.out.mono (by have := HUS.out; omega))
 clear hK K
 try simp only [Act.put,zq1,zq2,zq3,zq4,zq5,zq6]
 refine takesH [22] ?_
 repeat
  refine takesH_one (v := ?_) ?_ ?_
  rotate_left
  ·first | (refine Or.inr ⟨by rfl,?_⟩; with_reducible rfl) | (refine Or.inl ⟨by rfl,?_⟩; intro wx hSw; (try dsimp only at hSw); first | (go_simp; first | done | with_reducible rfl))
  try simp only [Act.put,zq1,zq2,zq3,zq4,zq5,zq6]
 refine takesH_nil ?_
 refine wpAnyH_ready (rs := [23]) (by kernel_rfl) (by simp) (AllReadyH.cons rfl (fun K hK => ?_) AllReadyH.nil)
 go_simp
 refine hK.out _ _ ?_ (fun hHeld => ?_)
 ·exact (((((((((b2.out.mono (by have := HUS.out; omega)).setCell HLE.out _).setCell HLE.out _).setCell HLE.out _).setCell HLE.out _).setCell HLE.out _).setCell HLE.out _).setCell HLE.out _).setCell HLE.out _)
 clear hK K
 try simp only [Act.put,zq1,zq2,zq3,zq4,zq5,zq6]
 refine wpAnyH_done (by kernel_rfl) ?_ _
 have BL := hid (((((((((next BZ.out b2.out).setCell (p := ⟨w.heap.size + 1 + 1,0,none⟩) HLE2.out (.string k)).setCell (p := ⟨w.heap.size + 1 + 1,1,none⟩) HLE2.out (.string js)).setCell (p := ⟨w.heap.size + 1 + 1,2,none⟩) HLE2.out (.bool jd)).setCell (p := ⟨w.heap.size + 1 + 1,3,none⟩) HLE2.out (.int .i64 ja)).setCell (p := ⟨w.heap.size + 1 + 1,4,none⟩) HLE2.out (.int .i64 je)).setCell (p := ⟨w.heap.size + 1 + 1,5,none⟩) HLE2.out (.int .i64 mg)).setCell (p := ⟨w.heap.size + 1 + 1,6,none⟩) HLE2.out (.int .i64 mh)).setCell (p := ⟨w.heap.size + 1 + 1,7,none⟩) HLE2.out (.slice A2 (mrg l l').length c2))
 have M8 := hid (block_setCell (i := 7) (block_setCell (i := 6) (block_setCell (i := 5) (block_setCell (i := 4) (block_setCell (i := 3) (block_setCell (i := 2) (block_setCell (i := 1) (block_setCell (i := 0) T3.out (.string k)) (.string js)) (.bool jd)) (.int .i64 ja)) (.int .i64 je)) (.int .i64 mg)) (.int .i64 mh)) (.slice A2 (mrg l l').length c2))
 obtain ⟨w9,hw9⟩ : ∃ w9,w9 = ((((((((v2.setCell ⟨w.heap.size + 1 + 1,0,none⟩ (.string k)).setCell ⟨w.heap.size + 1 + 1,1,none⟩ (.string js)).setCell ⟨w.heap.size + 1 + 1,2,none⟩ (.bool jd)).setCell ⟨w.heap.size + 1 + 1,3,none⟩ (.int .i64 ja)).setCell ⟨w.heap.size + 1 + 1,4,none⟩ (.int .i64 je)).setCell ⟨w.heap.size + 1 + 1,5,none⟩ (.int .i64 mg)).setCell ⟨w.heap.size + 1 + 1,6,none⟩ (.int .i64 mh)).setCell ⟨w.heap.size + 1 + 1,7,none⟩ (.slice A2 (mrg l l').length c2)) := ⟨_,rfl⟩
 rw [<- hw9] at BL M8 ⊢
 have hk9 : ∀ j,j ≠ w.heap.size + 1 + 1 -> w9.heap[j]? = v2.heap[j]? := fun j hj => by
  rw [hw9]
  iterate 8 rw [Below.heap_setCell _ _ _ _ hj]
 have HK9 := hid hk9
 clear hw9 hk9 k0 k1 k2 k3 k4 k5 k6 k7 f0 f1 f2 f3 f4 f5 f6 f7
 have m9 := M8.out
 simp only [zq4,zq5,zq6] at m9
 have z0 := cell_at (i := 0) m9 rfl
 have z1 := cell_at (i := 1) m9 rfl
 have z2 := cell_at (i := 2) m9 rfl
 have z3 := cell_at (i := 3) m9 rfl
 have z4 := cell_at (i := 4) m9 rfl
 have z5 := cell_at (i := 5) m9 rfl
 have z6 := cell_at (i := 6) m9 rfl
 have z7 := cell_at (i := 7) m9 rfl
 clear m9
 have hs1 : w.heap.size + 3 <= v1.heap.size := by have := c1.out.size; have := HUS.out; omega
 have ho1 := HCUR.out.own
 have ho2 : w9.ownsRow v1.heap.size 282 5 (.slice A2 (mrg l l').length c2) (mrg l l').length (kRow (mrg l l')) := own_kept ho1 fun g hg => HK9.out g (by
  have h1 := (ho1.lt g hg).1
  omega)
 have hown := own_base ho2 (b' := w.heap.size) (by omega)
 clear ho1 ho2
 have HOWN := hid hown
 clear hown
 go_wp2
 refine bodyPost_ret (v := .agg #[.string k,.string js,.bool jd,.int .i64 ja,.int .i64 je,.int .i64 mg,.int .i64 mh,.slice A2 (mrg l l').length c2]) (by simp [results,Tryz.results173,go_sem,z0,z1,z2,z3,z4,z5,z6,z7]) rfl ⟨js,jd,ja,je,A2,c2,HJ.out,rfl,HOWN.out,BL.out⟩
end Go.Proofs.YtmpcnhpdobdmcaaGreatDoor
namespace Go.Proofs.YtmpcnhpdobdmcaaGreatDoor
open Go Go.RowKit
def Ro.val (R : Ro) (A : Option Addr) (c : Nat) : Value := .agg #[.string R.key,.string R.live.s,.bool R.live.d,.int .i64 R.live.a,.int .i64 R.live.e,.int .i64 R.gone,.int .i64 R.shade,.slice A R.cols.length c]
structure RoIn (w : World) (B : Nat) (R : Ro) (A : Option Addr) (c : Nat) : Prop where
 rd : RdK w B A R.cols.length R.cols
 cap : R.cols.length <= c
theorem RoIn.below {w w' : World} {B : Nat} {R : Ro} {A : Option Addr} {c : Nat} (h : RoIn w B R A c) (hb : Below B w w') : RoIn w' B R A c := ⟨h.rd.below hb,h.cap⟩
theorem RoIn.up {w : World} {B B' : Nat} {R : Ro} {A : Option Addr} {c : Nat} (h : RoIn w B R A c) (hB : B <= B') : RoIn w B' R A c :=
 ⟨⟨h.rd.1,fun hn => by
   obtain ⟨g,o,e,hg,hc⟩ := h.rd.2 hn
   exact ⟨g,o,e,by omega,hc⟩⟩,h.cap⟩
theorem check_ro (R : Ro) (A : Option Addr) (c B : Nat) (w : World) (h : RoIn w B R A c) (hB : B <= w.heap.size) (hn : R.cols.length <= 1000000) (hf : Few R.cols) (hs : R.live.s.size <= maxLen) :
    Calls Tryz.prog 244 #[R.val A c] w fun x w' => x = .returned (.bool R.ok) /\ Below w.heap.size w w' :=
 checkrow_any R.key R.live.s R.live.d R.live.a R.live.e R.gone R.shade A R.cols.length c B R.cols w h.rd hB (by omega) hf hs
theorem join_ro (R R' X : Ro) (A A' : Option Addr) (c c' B B' : Nat) (w : World) (h : RoIn w B R A c) (h' : RoIn w B' R' A' c') (hB : B <= w.heap.size) (hB' : B' <= w.heap.size) (hn : R.cols.length + R'.cols.length <= 1000000) (hu : R.Up) (hu' : R'.Up) (hX : R.join R' = X) :
    Calls Tryz.prog 173 #[R.val A c,R'.val A' c'] w fun x w' => ∃ Aj cj,x = .returned (X.val Aj cj) /\ Cur w w' (.slice Aj X.cols.length cj) X.cols := by
 subst hX
 refine (joinrow_any R.key R.live.s R'.key R'.live.s R.live.d R'.live.d R.live.a R.live.e R.gone R.shade R'.live.a R'.live.e R'.gone R'.shade A A' R.cols.length c R'.cols.length c' B B' R.cols R'.cols w h.rd h'.rd hB hB' h.cap h'.cap hn hu.rise hu.full hu'.rise hu'.full).mono ?_
 rintro x w' ⟨js,jd,ja,je,Aj,cj,hj,rfl,hc⟩
 refine ⟨Aj,cj,?_,hc⟩
 have hj' : R.live.join R'.live = ⟨js,jd,ja,je⟩ := hj
 unfold Ro.val Ro.join
 simp only
 rw [hj']
structure RA where
 ro : Ro
 A : Option Addr
 c : Nat
def RA.v (x : RA) : Value := x.ro.val x.A x.c
def racs (x : RA) : List Value := [.string x.ro.key,.string x.ro.live.s,.bool x.ro.live.d,.int .i64 x.ro.live.a,.int .i64 x.ro.live.e,.int .i64 x.ro.gone,.int .i64 x.ro.shade,.slice x.A x.ro.cols.length x.c]
def rRow (l : List RA) : List Value := l.flatMap racs
theorem rRow_length (l : List RA) : (rRow l).length = l.length * 8 := by
 unfold rRow
 induction l with
 | nil => rfl
 | cons c l ih => rw [List.flatMap_cons,List.length_append,ih,List.length_cons]; simp [racs]; omega
theorem rRow_append (l k : List RA) : rRow (l ++ k) = rRow l ++ rRow k := by unfold rRow; rw [List.flatMap_append]
theorem rRow_at : ∀ (l : List RA) (j i : Nat) (hj : j < l.length) (hi : i < 8),(rRow l)[j * 8 + i]? = (racs l[j])[i]?
 | [],j,i,hj,hi => by cases hj
 | c :: l,0,i,hj,hi => by
   simp only [rRow,List.flatMap_cons,Nat.zero_mul,Nat.zero_add,zq3]
   exact List.getElem?_append_left (by simpa [racs] using hi)
 | c :: l,j + 1,i,hj,hi => by
   have ih := rRow_at l j i (by simpa using hj) hi
   simp only [rRow,List.flatMap_cons,zq2] at ih ⊢
   rw [List.getElem?_append_right (by simp [racs]; omega),<- ih]
   congr 1
   simp [racs]
   omega
theorem rRow_one (l : List RA) : ∀ u ∈ rRow l,u.oneCell' = true := by
 intro u hu
 obtain ⟨c,_,hc⟩ := List.mem_flatMap.1 hu
 unfold racs at hc
 simp only [List.mem_cons,List.not_mem_nil,or_false] at hc
 rcases hc with rfl | rfl | rfl | rfl | rfl | rfl | rfl | rfl <;> rfl
def RdR (w : World) (B : Nat) (A : Option Addr) (n : Nat) (l : List RA) : Prop :=
 l.length = n /\ (0 < n -> ∃ g o,A = some ⟨g,o,none⟩ /\ g < B /\ ∀ j (hj : j < l.length) i u,(racs l[j])[i]? = some u -> w.cell? ⟨g,o + j * 8 + i,none⟩ = some u)
def HeldR (w : World) (B : Nat) (l : List RA) : Prop := ∀ x ∈ l,RoIn w B x.ro x.A x.c
theorem HeldR.below {w w' : World} {B : Nat} {l : List RA} (h : HeldR w B l) (hb : Below B w w') : HeldR w' B l := fun x hx => (h x hx).below hb
theorem HeldR.up {w : World} {B B' : Nat} {l : List RA} (h : HeldR w B l) (hB : B <= B') : HeldR w B' l := fun x hx => (h x hx).up hB
theorem RdR.below {w w' : World} {B n : Nat} {A : Option Addr} {l : List RA} (h : RdR w B A n l) (hb : Below B w w') : RdR w' B A n l :=
 ⟨h.1,fun hn => by
   obtain ⟨g,o,e,hg,hc⟩ := h.2 hn
   exact ⟨g,o,e,hg,fun j hj i u hu => (hb.cell (p := ⟨g,_,none⟩) hg).trans (hc j hj i u hu)⟩⟩
theorem RdR.up {w : World} {B B' n : Nat} {A : Option Addr} {l : List RA} (h : RdR w B A n l) (hB : B <= B') : RdR w B' A n l :=
 ⟨h.1,fun hn => by
   obtain ⟨g,o,e,hg,hc⟩ := h.2 hn
   exact ⟨g,o,e,by omega,hc⟩⟩
theorem RdR.nil (w : World) (B : Nat) (A : Option Addr) : RdR w B A 0 [] := ⟨rfl,fun h => absurd h (by omega)⟩
theorem RdR.all {w : World} {B n : Nat} {ad : Addr} {l : List RA} (h : RdR w B (some ad) n l) : ∀ j u,(rRow l)[j]? = some u -> w.cell? (ad.add j) = some u := by
 intro j u hu
 have hj : j < (rRow l).length := by
  rcases Nat.lt_or_ge j (rRow l).length with h1 | h1
  ·exact h1
  ·rw [List.getElem?_eq_none h1] at hu; cases hu
 rw [rRow_length] at hj
 have hq : j / 8 < l.length := by omega
 obtain ⟨g,o,e,_,hc⟩ := h.2 (by have := h.1; omega)
 injection e with e
 subst e
 have hm : j = j / 8 * 8 + j % 8 := by omega
 rw [hm,rRow_at l (j / 8) (j % 8) hq (by omega)] at hu
 rw [Addr.add_lit,hm,<- Nat.add_assoc]
 exact hc (j / 8) hq (j % 8) u hu
theorem RdR.of_all {w : World} {B n g o : Nat} {l : List RA} (hl : l.length = n) (hg : g < B) (h : ∀ j u,(rRow l)[j]? = some u -> w.cell? ⟨g,o + j,none⟩ = some u) : RdR w B (some ⟨g,o,none⟩) n l := by
 refine ⟨hl,fun _ => ⟨g,o,rfl,hg,fun j hj i u hu => ?_⟩⟩
 have hi : i < 8 := by
  rcases Nat.lt_or_ge i 8 with h1 | h1
  ·exact h1
  ·rw [List.getElem?_eq_none (by simpa [racs] using h1)] at hu; cases hu
 rw [Nat.add_assoc]
 exact h _ u ((rRow_at l j i hj hi).trans hu)
theorem RdR.cut {w : World} {B n : Nat} {A : Option Addr} {l : List RA} (h : RdR w B A n l) {k c : Nat} (hk : k <= n) (hn : n <= c) : RdR w B (if c = k then A else A.map (·.add (k * 8))) (n - k) (l.drop k) := by
 refine ⟨by rw [List.length_drop,h.1],fun h0 => ?_⟩
 obtain ⟨g,o,rfl,hb,hc⟩ := h.2 (by omega)
 rw [if_neg (by omega)]
 refine ⟨g,o + k * 8,by rw [Option.map_some,Addr.add_lit],hb,fun j hj i u hu => ?_⟩
 rw [List.length_drop] at hj
 rw [List.getElem_drop] at hu
 have := hc (k + j) (by omega) i u hu
 rwa [show o + (k + j) * 8 + i = o + k * 8 + j * 8 + i by omega] at this
theorem RdR.of_own {w : World} {base n : Nat} {A : Option Addr} {c : Nat} {l : List RA} (h : w.ownsRow base 45 8 (.slice A n c) n (rRow l)) : RdR w w.heap.size A n l := by
 have hl : l.length = n := by have := h.1; rw [rRow_length] at this; omega
 rcases h.2 with ⟨e,rfl⟩ | ⟨g,cap,cur,e,hb,hh,hn,hm,hs,ht⟩
 ·exact ⟨hl,fun h => absurd h (by omega)⟩
 ·injection e with e1 e2 e3
  subst e1
  refine RdR.of_all hl (Array.getElem?_eq_some_iff.1 hh).1 fun j u hu => ?_
  have := h.cells (g := g) rfl j u hu
  rw [Addr.add_lit] at this
  exact this
theorem infoR : (Tryz.prog.info? 45).map (fun i => (i.zero,i.size,i.bytes)) = some (some (.agg #[.string ⟨#[]⟩,.string ⟨#[]⟩,.bool false,.int .i64 0,.int .i64 0,.int .i64 0,.int .i64 0,.slice none 0 0]),8,96) := by kernel_rfl
theorem elemR : Tryz.prog.elem 31 = 45 := by kernel_rfl
theorem run_appR {w : World} (base : Nat) {v : Value} {n : Nat} {l : List RA} (hown : w.ownsRow base 45 8 v n (rRow l)) {B m c : Nat} {A : Option Addr} {k : List RA} (hr : RdR w B A m k)
    (hsz : n + m <= 1000000) (hbase : base <= w.heap.size) (ty : TypeId) :
    ∃ v' w',(Builtin.append_ #[31,31] ty #[v,.slice A m c]).run Tryz.prog w = .ok v' w' /\ (w'.ownsRow base 45 8 v' (n + m) (rRow (l ++ k)) /\ (w.grownBy w' v.ownBlock /\ (v'.ownBlock = v.ownBlock \/ v'.ownBlock = some w.heap.size))) := by
 obtain ⟨i,hi,hz0,hz1,hz2⟩ := info_parts infoR
 cases A with
 | none =>
   have h0 : m = 0 := by
    rcases Nat.eq_zero_or_pos m with h1 | h1
    ·exact h1
    ·obtain ⟨g,o,e,_⟩ := hr.2 h1; cases e
   subst h0
   obtain rfl : k = [] := List.eq_nil_of_length_eq_zero hr.1
   refine ⟨v,w,?_,by simpa using hown,⟨rfl,rfl,rfl,Nat.le_refl _,fun _ _ _ => rfl⟩,Or.inl rfl⟩
   rcases hown.2 with ⟨rfl,rfl⟩ | ⟨g,cap,cur,rfl,_,_,hnc,_⟩
   ·simp [Builtin.append_,run_underlying Tryz.underlying31,sizeOf,typeInfo,hi,Builtin.lenOf,Builtin.firstCells]
   ·simp [Builtin.append_,run_underlying Tryz.underlying31,sizeOf,typeInfo,hi,Builtin.lenOf,Builtin.firstCells,hnc,storeCells]
 | some ad =>
   obtain ⟨v',w',h1,h2,h3,_,h5⟩ := run_append_own_at (P := Tryz.prog) w base 31 ty 45 i (.agg #[.string ⟨#[]⟩,.string ⟨#[]⟩,.bool false,.int .i64 0,.int .i64 0,.int .i64 0,.int .i64 0,.slice none 0 0]) 8 96 Tryz.underlying31 hi hz0 hz1 hz2 rfl (by decide) v n (rRow l) hown ad m c (rRow k)
    (by rw [rRow_length,hr.1]) hr.all (rRow_one k) (by unfold maxLen; omega) (by omega) hbase
   exact ⟨v',w',h1,by rw [rRow_append]; exact h2,h3,h5⟩
theorem own_nilR (w : World) (b : Nat) : w.ownsRow b 45 8 (.slice none 0 0) 0 (rRow []) := World.ownsRow_nil w b _ _
theorem slR_l {w : World} {B n : Nat} {A : Option Addr} {l : List RA} (h : RdR w B A n l) {c : Nat} (hn : n <= c) (x : Int) (lo : Nat) (ex : x = (lo : Nat)) (h1 : lo <= n) :
    ∃ A',(∀ wx : World,(Instr.slice 31 (.slice A n c) (some (.int .i64 x)) none none).run Tryz.prog wx = .ok (.slice A' (n - lo) (c - lo)) wx) /\ RdR w B A' (n - lo) (l.drop lo) := by
 refine ⟨if c = lo then A else A.map (·.add (lo * 8)),fun wx => ?_,h.cut h1 hn⟩
 obtain ⟨i,hi',hz0,hz1,hz2⟩ := info_parts infoR
 subst ex
 rw [run_slice_l (P := Tryz.prog) (t := 31) (ht := by rw [elemR]; exact Tryz.underlying31) (h0 := by omega) (h1 := by omega),elemR]
 simp [sizeOf,typeInfo,hi',hz1,sliced,Result.andThen]
theorem RdR.one (w : World) (x : RA) (g : Nat) (hg : g = w.heap.size) : RdR (w.alloc (.cells #[.string x.ro.key,.string x.ro.live.s,.bool x.ro.live.d,.int .i64 x.ro.live.a,.int .i64 x.ro.live.e,.int .i64 x.ro.gone,.int .i64 x.ro.shade,.slice x.A x.ro.cols.length x.c] 45)) (g + 1) (some ⟨g,0,none⟩) 1 [x] := by
 subst hg
 refine RdR.of_all rfl (by omega) fun j u hu => ?_
 have : (rRow [x]) = racs x := by simp [rRow]
 rw [this] at hu
 rw [Nat.zero_add]
 simpa [racs] using hu
theorem RdR.at_ {w : World} {B n : Nat} {g o : Nat} {l : List RA} (h : RdR w B (some ⟨g,o,none⟩) n l) {j : Nat} (hj : j < l.length) :
    w.cell? ⟨g,o + j * 8,none⟩ = some (.string l[j].ro.key) /\ w.cell? ⟨g,o + j * 8 + 1,none⟩ = some (.string l[j].ro.live.s) /\ w.cell? ⟨g,o + j * 8 + 2,none⟩ = some (.bool l[j].ro.live.d) /\ w.cell? ⟨g,o + j * 8 + 3,none⟩ = some (.int .i64 l[j].ro.live.a) /\ w.cell? ⟨g,o + j * 8 + 4,none⟩ = some (.int .i64 l[j].ro.live.e) /\ w.cell? ⟨g,o + j * 8 + 5,none⟩ = some (.int .i64 l[j].ro.gone) /\ w.cell? ⟨g,o + j * 8 + 6,none⟩ = some (.int .i64 l[j].ro.shade) /\ w.cell? ⟨g,o + j * 8 + 7,none⟩ = some (.slice l[j].A l[j].ro.cols.length l[j].c) := by
 obtain ⟨g',o',e,_,hc⟩ := h.2 (by have := h.1; omega)
 injection e with e
 injection e with e1 e2 _
 subst e1; subst e2
 exact ⟨hc j hj 0 _ rfl,hc j hj 1 _ rfl,hc j hj 2 _ rfl,hc j hj 3 _ rfl,hc j hj 4 _ rfl,hc j hj 5 _ rfl,hc j hj 6 _ rfl,hc j hj 7 _ rfl⟩
structure CurR (w0 w : World) (v : Value) (L : List RA) : Prop where
 own : w.ownsRow w0.heap.size 45 8 v L.length (rRow L)
 below : Below w0.heap.size w0 w
theorem CurR.on {w0 w w' : World} {v : Value} {L : List RA} (h : CurR w0 w v L) (hb : Below w.heap.size w w') : CurR w0 w' v L := ⟨own_below h.own hb,next h.below hb⟩
theorem CurR.slice {w0 w : World} {v : Value} {L : List RA} (h : CurR w0 w v L) : ∃ A c,v = .slice A L.length c /\ L.length <= c /\ c <= maxLen /\ (A = none -> c = 0) /\ RdR w w.heap.size A L.length L := by
 obtain ⟨A,c,rfl,h1,h2,h3⟩ := own_slice h.own
 exact ⟨A,c,rfl,h1,h2,h3,RdR.of_own h.own⟩
theorem CurR.appN {w0 w w' : World} {v v' : Value} {C k : List RA} {N : Nat} (h : CurR w0 w v C) (ho : w'.ownsRow w0.heap.size 45 8 v' N (rRow (C ++ k))) (hg : w.grownBy w' v.ownBlock) : ∃ A m c,v' = .slice A m c /\ CurR w0 w' (.slice A m c) (C ++ k) := by
 have hN : N = (C ++ k).length := by have := ho.1; rw [rRow_length] at this; omega
 subst hN
 obtain ⟨A,c,rfl,_⟩ := own_slice ho
 exact ⟨A,_,c,rfl,ho,grown_ownN h.below (Nat.le_refl _) h.own hg⟩
theorem CurR.lower {w V w9 : World} {v : Value} {C : List RA} (h : CurR V w9 v C) (hV : Below w.heap.size w V) : CurR w w9 v C := ⟨own_base h.own hV.size,next hV h.below⟩
def RowAt (w : World) (g o : Nat) (x : RA) : Prop := w.cell? ⟨g,o,none⟩ = some (.string x.ro.key) /\ w.cell? ⟨g,o + 1,none⟩ = some (.string x.ro.live.s) /\ w.cell? ⟨g,o + 2,none⟩ = some (.bool x.ro.live.d) /\ w.cell? ⟨g,o + 3,none⟩ = some (.int .i64 x.ro.live.a) /\ w.cell? ⟨g,o + 4,none⟩ = some (.int .i64 x.ro.live.e) /\ w.cell? ⟨g,o + 5,none⟩ = some (.int .i64 x.ro.gone) /\ w.cell? ⟨g,o + 6,none⟩ = some (.int .i64 x.ro.shade) /\ w.cell? ⟨g,o + 7,none⟩ = some (.slice x.A x.ro.cols.length x.c)
def BlkAt (w : World) (q : Nat) (x : RA) : Prop := w.cell? ⟨q,0,none⟩ = some (.string x.ro.key) /\ w.cell? ⟨q,1,none⟩ = some (.string x.ro.live.s) /\ w.cell? ⟨q,2,none⟩ = some (.bool x.ro.live.d) /\ w.cell? ⟨q,3,none⟩ = some (.int .i64 x.ro.live.a) /\ w.cell? ⟨q,4,none⟩ = some (.int .i64 x.ro.live.e) /\ w.cell? ⟨q,5,none⟩ = some (.int .i64 x.ro.gone) /\ w.cell? ⟨q,6,none⟩ = some (.int .i64 x.ro.shade) /\ w.cell? ⟨q,7,none⟩ = some (.slice x.A x.ro.cols.length x.c)
theorem RowAt.below {w w' : World} {g o B : Nat} {x : RA} (r : RowAt w g o x) (hb : Below B w w') (hg : g < B) : RowAt w' g o x := by
 obtain ⟨c0,c1,c2,c3,c4,c5,c6,c7⟩ := r
 exact ⟨(hb.cell (p := ⟨g,_,none⟩) hg).trans c0,(hb.cell (p := ⟨g,_,none⟩) hg).trans c1,(hb.cell (p := ⟨g,_,none⟩) hg).trans c2,(hb.cell (p := ⟨g,_,none⟩) hg).trans c3,(hb.cell (p := ⟨g,_,none⟩) hg).trans c4,(hb.cell (p := ⟨g,_,none⟩) hg).trans c5,(hb.cell (p := ⟨g,_,none⟩) hg).trans c6,(hb.cell (p := ⟨g,_,none⟩) hg).trans c7⟩
theorem BlkAt.of {w : World} {q : Nat} {x : RA} (h : w.heap[q]? = some (.cells #[.string x.ro.key,.string x.ro.live.s,.bool x.ro.live.d,.int .i64 x.ro.live.a,.int .i64 x.ro.live.e,.int .i64 x.ro.gone,.int .i64 x.ro.shade,.slice x.A x.ro.cols.length x.c] 45 (0,0))) : BlkAt w q x :=
 ⟨cell_at h rfl,cell_at h rfl,cell_at h rfl,cell_at h rfl,cell_at h rfl,cell_at h rfl,cell_at h rfl,cell_at h rfl⟩
theorem BlkAt.below {w w' : World} {q B : Nat} {x : RA} (r : BlkAt w q x) (hb : Below B w w') (hg : q < B) : BlkAt w' q x := by
 obtain ⟨c0,c1,c2,c3,c4,c5,c6,c7⟩ := r
 exact ⟨(hb.cell (p := ⟨q,_,none⟩) hg).trans c0,(hb.cell (p := ⟨q,_,none⟩) hg).trans c1,(hb.cell (p := ⟨q,_,none⟩) hg).trans c2,(hb.cell (p := ⟨q,_,none⟩) hg).trans c3,(hb.cell (p := ⟨q,_,none⟩) hg).trans c4,(hb.cell (p := ⟨q,_,none⟩) hg).trans c5,(hb.cell (p := ⟨q,_,none⟩) hg).trans c6,(hb.cell (p := ⟨q,_,none⟩) hg).trans c7⟩
theorem RdR.row {w : World} {B n : Nat} {g o : Nat} {l : List RA} (h : RdR w B (some ⟨g,o,none⟩) n l) {j : Nat} (hj : j < l.length) : RowAt w g (o + j * 8) l[j] := h.at_ hj
theorem RdR.ex {w : World} {B n : Nat} {A : Option Addr} {l : List RA} (h : RdR w B A n l) (hn : 0 < n) : ∃ g o,A = some ⟨g,o,none⟩ /\ g < B := by
 obtain ⟨g,o,e,hg,_⟩ := h.2 hn
 exact ⟨g,o,e,hg⟩
abbrev RaIn (w : World) (B : Nat) (x : RA) : Prop := RoIn w B x.ro x.A x.c
abbrev ros (L : List RA) : List Ro := L.map RA.ro
structure Lies (w : World) (B : Nat) (A : Option Addr) (n c : Nat) (L : List RA) : Prop where
 rd : RdR w B A n L
 held : HeldR w B L
 cap : n <= c
theorem Lies.below {w w' : World} {B n c : Nat} {A : Option Addr} {L : List RA} (h : Lies w B A n c L) (hb : Below B w w') : Lies w' B A n c L := ⟨h.rd.below hb,h.held.below hb,h.cap⟩
theorem Lies.up {w : World} {B B' n c : Nat} {A : Option Addr} {L : List RA} (h : Lies w B A n c L) (hB : B <= B') : Lies w B' A n c L := ⟨h.rd.up hB,h.held.up hB,h.cap⟩
theorem Lies.len {w : World} {B n c : Nat} {A : Option Addr} {L : List RA} (h : Lies w B A n c L) : L.length = n := h.rd.1
def Safe (w0 w : World) (x : RA) : Prop := RaIn w0 w0.heap.size x \/ (w.ownsRow w0.heap.size 282 5 (.slice x.A x.ro.cols.length x.c) x.ro.cols.length (kRow x.ro.cols))
theorem Safe.ra {w0 w : World} {x : RA} (h : Safe w0 w x) (hb : Below w0.heap.size w0 w) : RaIn w w.heap.size x := by
 rcases h with h | h
 ·exact (h.below hb).up hb.size
 ·obtain ⟨A,c,e,h1,_⟩ := own_slice h
  injection e with e1 e2 e3
  subst e3
  exact ⟨RdK.of_own h,h1⟩
theorem Safe.on {w0 w w' : World} {x : RA} (h : Safe w0 w x) (hb : Below w.heap.size w w') : Safe w0 w' x := h.imp id fun h => own_below h hb
theorem Safe.kept {w0 w w' : World} {x : RA} {F : Nat -> Prop} (h : Safe w0 w x) (hk : Kept F w w') (hF : ∀ k,F k -> ∃ cs,w.heap[k]? = some (.cells cs 45 (0,0))) : Safe w0 w' x :=
 h.imp id fun h => own_kept h fun g hg => hk.block g (own_block_lt h g hg) fun hf => by
  obtain ⟨cs,h1⟩ := hF g hf
  obtain ⟨cs',h2⟩ := own_tag h g hg
  rw [h1] at h2
  injection h2 with h2
  injection h2 with _ h3 _
  exact absurd h3 (by decide)
theorem Safe.grown {w0 w w' : World} {x : RA} {b n : Nat} {v : Value} {xs : List Value} (h : Safe w0 w x) (ho : w.ownsRow b 45 8 v n xs) (hg : w.grownBy w' v.ownBlock) : Safe w0 w' x :=
 h.kept (F := fun k => v.ownBlock = some k) (Kept.of_grown hg fun k hk => hk) fun k hk => own_tag ho k hk
theorem Safe.of_cur {w0 w w' : World} {x : RA} (hb : Below w0.heap.size w0 w) (h : Cur w w' (.slice x.A x.ro.cols.length x.c) x.ro.cols) : Safe w0 w' x := Or.inr (own_base h.own hb.size)
structure Own (w0 w : World) (v : Value) (L : List RA) : Prop where
 cur : CurR w0 w v L
 safe : ∀ x ∈ L,Safe w0 w x
theorem Own.below {w0 w : World} {v : Value} {L : List RA} (h : Own w0 w v L) : Below w0.heap.size w0 w := h.cur.below
theorem Own.on {w0 w w' : World} {v : Value} {L : List RA} (h : Own w0 w v L) (hb : Below w.heap.size w w') : Own w0 w' v L := ⟨h.cur.on hb,fun x hx => (h.safe x hx).on hb⟩
theorem Own.held {w0 w : World} {v : Value} {L : List RA} (h : Own w0 w v L) : HeldR w w.heap.size L := fun x hx => (h.safe x hx).ra h.below
theorem Own.slice {w0 w : World} {v : Value} {L : List RA} (h : Own w0 w v L) : ∃ A c,v = .slice A L.length c /\ L.length <= c /\ c <= maxLen /\ (A = none -> c = 0) /\ Lies w w.heap.size A L.length c L := by
 obtain ⟨A,c,rfl,h1,h2,h3,h4⟩ := h.cur.slice
 exact ⟨A,c,rfl,h1,h2,h3,h4,h.held,h1⟩
theorem Own.nil {w V : World} (hb : Below w.heap.size w V) : Own w V (.slice none 0 0) [] := ⟨⟨own_nilR _ _,hb⟩,fun x hx => by cases hx⟩
theorem Own.app {w0 w w' : World} {v v' : Value} {L k : List RA} {N : Nat} (h : Own w0 w v L) (hk : ∀ x ∈ k,Safe w0 w x) (ho : w'.ownsRow w0.heap.size 45 8 v' N (rRow (L ++ k))) (hg : w.grownBy w' v.ownBlock) : ∃ A m c,v' = .slice A m c /\ m = (L ++ k).length /\ Own w0 w' (.slice A m c) (L ++ k) := by
 obtain ⟨A,m,c,rfl,h1⟩ := h.cur.appN ho hg
 refine ⟨A,m,c,rfl,?_,h1,fun x hx => ?_⟩
 ·obtain ⟨A',c',e,_⟩ := own_slice h1.own
  injection e
 ·rcases List.mem_append.1 hx with h2 | h2
  ·exact (h.safe x h2).grown h.cur.own hg
  ·exact (hk x h2).grown h.cur.own hg
theorem rRow_put : ∀ (L : List RA) (j : Nat) (hj : j < L.length) (x : RA),
    ((((((((rRow L).set (j * 8) (.string x.ro.key)).set (j * 8 + 1) (.string x.ro.live.s)).set (j * 8 + 2) (.bool x.ro.live.d)).set (j * 8 + 3) (.int .i64 x.ro.live.a)).set (j * 8 + 4) (.int .i64 x.ro.live.e)).set (j * 8 + 5) (.int .i64 x.ro.gone)).set (j * 8 + 6) (.int .i64 x.ro.shade)).set (j * 8 + 7) (.slice x.A x.ro.cols.length x.c) = rRow (L.set j x)
 | [],j,hj,x => by cases hj
 | y :: L,0,_,x => by simp [rRow,racs]
 | y :: L,j + 1,hj,x => by
   have ih := rRow_put L j (by simpa using hj) x
   have e : ∀ (k : List Value) (i : Nat) (v : Value),(racs y ++ k).set ((j + 1) * 8 + i) v = racs y ++ k.set (j * 8 + i) v := fun k i v => by
    rw [List.set_append_right _ _ (by simp [racs]; omega)]
    congr 2
    simp [racs]
    omega
   have e0 := fun k v => e k 0 v
   simp only [Nat.add_zero] at e0
   have hc : rRow (y :: L) = racs y ++ rRow L := by simp [rRow]
   rw [hc,e0,e,e,e,e,e,e,e,ih,zq6]
   simp [rRow]
theorem CurR.put {w0 w : World} {g m cap : Nat} {M : List RA} (h : CurR w0 w (.slice (some ⟨g,0,none⟩) m cap) M) {j : Nat} (hj : j < M.length) (x : RA) :
    CurR w0 (World.setCell (World.setCell (World.setCell (World.setCell (World.setCell (World.setCell (World.setCell (World.setCell w ⟨g,j * 8,none⟩ (.string x.ro.key)) ⟨g,j * 8 + 1,none⟩ (.string x.ro.live.s)) ⟨g,j * 8 + 2,none⟩ (.bool x.ro.live.d)) ⟨g,j * 8 + 3,none⟩ (.int .i64 x.ro.live.a)) ⟨g,j * 8 + 4,none⟩ (.int .i64 x.ro.live.e)) ⟨g,j * 8 + 5,none⟩ (.int .i64 x.ro.gone)) ⟨g,j * 8 + 6,none⟩ (.int .i64 x.ro.shade)) ⟨g,j * 8 + 7,none⟩ (.slice x.A x.ro.cols.length x.c)) (.slice (some ⟨g,0,none⟩) m cap) (M.set j x) := by
 have hm : m = M.length := by
  obtain ⟨A,c,e,_⟩ := own_slice h.own
  injection e
 subst hm
 have h0 := h.own
 have h1 := (h0.stored (j * 8) (.string x.ro.key)).1
 have h2 := (h1.stored (j * 8 + 1) (.string x.ro.live.s)).1
 have h3 := (h2.stored (j * 8 + 2) (.bool x.ro.live.d)).1
 have h4 := (h3.stored (j * 8 + 3) (.int .i64 x.ro.live.a)).1
 have h5 := (h4.stored (j * 8 + 4) (.int .i64 x.ro.live.e)).1
 have h6 := (h5.stored (j * 8 + 5) (.int .i64 x.ro.gone)).1
 have h7 := (h6.stored (j * 8 + 6) (.int .i64 x.ro.shade)).1
 have h8 := (h7.stored (j * 8 + 7) (.slice x.A x.ro.cols.length x.c)).1
 rw [show _ = _ from rRow_put M j hj x] at h8
 have hg := (h0.lt g rfl).1
 refine ⟨?_,(((((((h.below.setCell hg _).setCell hg _).setCell hg _).setCell hg _).setCell hg _).setCell hg _).setCell hg _).setCell hg _⟩
 rw [List.length_set]
 exact h8
theorem kept_set8 {w : World} (g o : Nat) (x : RA) : Kept (fun k => k = g) w (World.setCell (World.setCell (World.setCell (World.setCell (World.setCell (World.setCell (World.setCell (World.setCell w ⟨g,o,none⟩ (.string x.ro.key)) ⟨g,o + 1,none⟩ (.string x.ro.live.s)) ⟨g,o + 2,none⟩ (.bool x.ro.live.d)) ⟨g,o + 3,none⟩ (.int .i64 x.ro.live.a)) ⟨g,o + 4,none⟩ (.int .i64 x.ro.live.e)) ⟨g,o + 5,none⟩ (.int .i64 x.ro.gone)) ⟨g,o + 6,none⟩ (.int .i64 x.ro.shade)) ⟨g,o + 7,none⟩ (.slice x.A x.ro.cols.length x.c)) :=
 (((((((((Kept.refl (fun k => k = g) w).trans (Kept.setCell (fun k => k = g) _ ⟨g,o,none⟩ _ rfl) fun _ h => Or.inl h).trans (Kept.setCell (fun k => k = g) _ ⟨g,o + 1,none⟩ _ rfl) fun _ h => Or.inl h).trans (Kept.setCell (fun k => k = g) _ ⟨g,o + 2,none⟩ _ rfl) fun _ h => Or.inl h).trans (Kept.setCell (fun k => k = g) _ ⟨g,o + 3,none⟩ _ rfl) fun _ h => Or.inl h).trans (Kept.setCell (fun k => k = g) _ ⟨g,o + 4,none⟩ _ rfl) fun _ h => Or.inl h).trans (Kept.setCell (fun k => k = g) _ ⟨g,o + 5,none⟩ _ rfl) fun _ h => Or.inl h).trans (Kept.setCell (fun k => k = g) _ ⟨g,o + 6,none⟩ _ rfl) fun _ h => Or.inl h).trans (Kept.setCell (fun k => k = g) _ ⟨g,o + 7,none⟩ _ rfl) fun _ h => Or.inl h)
theorem mem_set_or {α : Type} {L : List α} {j : Nat} {x y : α} (h : y ∈ L.set j x) : y ∈ L \/ y = x := List.mem_or_eq_of_mem_set h
theorem Own.put {w0 w : World} {g m cap : Nat} {M : List RA} (h : Own w0 w (.slice (some ⟨g,0,none⟩) m cap) M) {j : Nat} (hj : j < M.length) (x : RA) (hx : Safe w0 w x) :
    Own w0 (World.setCell (World.setCell (World.setCell (World.setCell (World.setCell (World.setCell (World.setCell (World.setCell w ⟨g,j * 8,none⟩ (.string x.ro.key)) ⟨g,j * 8 + 1,none⟩ (.string x.ro.live.s)) ⟨g,j * 8 + 2,none⟩ (.bool x.ro.live.d)) ⟨g,j * 8 + 3,none⟩ (.int .i64 x.ro.live.a)) ⟨g,j * 8 + 4,none⟩ (.int .i64 x.ro.live.e)) ⟨g,j * 8 + 5,none⟩ (.int .i64 x.ro.gone)) ⟨g,j * 8 + 6,none⟩ (.int .i64 x.ro.shade)) ⟨g,j * 8 + 7,none⟩ (.slice x.A x.ro.cols.length x.c)) (.slice (some ⟨g,0,none⟩) m cap) (M.set j x) := by
 refine ⟨h.cur.put hj x,fun y hy => ?_⟩
 have hF : ∀ k,k = g -> ∃ cs,w.heap[k]? = some (.cells cs 45 (0,0)) := fun k e => by subst e; exact own_tag h.cur.own k rfl
 rcases mem_set_or hy with h1 | rfl
 ·exact (h.safe y h1).kept (kept_set8 g (j * 8) x) hF
 ·exact hx.kept (kept_set8 g (j * 8) y) hF
theorem Own.row {w0 w : World} {A : Option Addr} {m c : Nat} {M : List RA} (h : Own w0 w (.slice A m c) M) {j : Nat} (hj : j < M.length) : ∃ g,A = some ⟨g,0,none⟩ /\ w0.heap.size <= g /\ g < w.heap.size /\ RowAt w g (j * 8) M[j] /\ ∀ i,w.frozen? ⟨g,i,none⟩ = false := by
 have hown := h.cur.own
 rcases hown.2 with ⟨_,e⟩ | ⟨g,cap,cur,e,hb,hh,hn,hm,hs,ht⟩
 ·omega
 ·have hown := h.cur.own
  injection e with e1 e2 e3
  subst e1; subst e2; subst e3
  have key : ∀ i (hi : i < 8) u,(racs M[j])[i]? = some u -> w.cell? ⟨g,j * 8 + i,none⟩ = some u := fun i hi u hu => by
   have := hown.cells (g := g) rfl (j * 8 + i) u (by rw [rRow_at _ _ _ hj hi]; exact hu)
   rw [Addr.add_lit,Nat.zero_add] at this
   exact this
  exact ⟨g,rfl,hb,(Array.getElem?_eq_some_iff.1 hh).1,⟨key 0 (by omega) _ rfl,key 1 (by omega) _ rfl,key 2 (by omega) _ rfl,key 3 (by omega) _ rfl,key 4 (by omega) _ rfl,key 5 (by omega) _ rfl,key 6 (by omega) _ rfl,key 7 (by omega) _ rfl⟩,fun i => hown.frozenAt i⟩
theorem set8_block {w : World} {q : Nat} {v0 v1 v2 v3 v4 v5 v6 v7 : Value} (h : w.heap[q]? = some (.cells #[v0,v1,v2,v3,v4,v5,v6,v7] 45 (0,0))) (x : RA) :
    ((World.setCell (World.setCell (World.setCell (World.setCell (World.setCell (World.setCell (World.setCell (World.setCell w ⟨q,0,none⟩ (.string x.ro.key)) ⟨q,1,none⟩ (.string x.ro.live.s)) ⟨q,2,none⟩ (.bool x.ro.live.d)) ⟨q,3,none⟩ (.int .i64 x.ro.live.a)) ⟨q,4,none⟩ (.int .i64 x.ro.live.e)) ⟨q,5,none⟩ (.int .i64 x.ro.gone)) ⟨q,6,none⟩ (.int .i64 x.ro.shade)) ⟨q,7,none⟩ (.slice x.A x.ro.cols.length x.c))).heap[q]? = some (.cells #[.string x.ro.key,.string x.ro.live.s,.bool x.ro.live.d,.int .i64 x.ro.live.a,.int .i64 x.ro.live.e,.int .i64 x.ro.gone,.int .i64 x.ro.shade,.slice x.A x.ro.cols.length x.c] 45 (0,0)) := by
 have h0 := Joins.block_setCell (i := 0) h (.string x.ro.key)
 simp only [zq4,zq5,zq6] at h0
 have h1 := Joins.block_setCell (i := 1) h0 (.string x.ro.live.s)
 simp only [zq4,zq5,zq6] at h1
 have h2 := Joins.block_setCell (i := 2) h1 (.bool x.ro.live.d)
 simp only [zq4,zq5,zq6] at h2
 have h3 := Joins.block_setCell (i := 3) h2 (.int .i64 x.ro.live.a)
 simp only [zq4,zq5,zq6] at h3
 have h4 := Joins.block_setCell (i := 4) h3 (.int .i64 x.ro.live.e)
 simp only [zq4,zq5,zq6] at h4
 have h5 := Joins.block_setCell (i := 5) h4 (.int .i64 x.ro.gone)
 simp only [zq4,zq5,zq6] at h5
 have h6 := Joins.block_setCell (i := 6) h5 (.int .i64 x.ro.shade)
 simp only [zq4,zq5,zq6] at h6
 have h7 := Joins.block_setCell (i := 7) h6 (.slice x.A x.ro.cols.length x.c)
 simpa only [zq4,zq5,zq6] using h7
theorem below_set80 {B : Nat} {w0 w : World} (hb : Below B w0 w) {q : Nat} (hq : B <= q) (x : RA) : Below B w0 (World.setCell (World.setCell (World.setCell (World.setCell (World.setCell (World.setCell (World.setCell (World.setCell w ⟨q,0,none⟩ (.string x.ro.key)) ⟨q,1,none⟩ (.string x.ro.live.s)) ⟨q,2,none⟩ (.bool x.ro.live.d)) ⟨q,3,none⟩ (.int .i64 x.ro.live.a)) ⟨q,4,none⟩ (.int .i64 x.ro.live.e)) ⟨q,5,none⟩ (.int .i64 x.ro.gone)) ⟨q,6,none⟩ (.int .i64 x.ro.shade)) ⟨q,7,none⟩ (.slice x.A x.ro.cols.length x.c)) :=
 (((((((hb.setCell (p := ⟨q,_,none⟩) hq _).setCell (p := ⟨q,_,none⟩) hq _).setCell (p := ⟨q,_,none⟩) hq _).setCell (p := ⟨q,_,none⟩) hq _).setCell (p := ⟨q,_,none⟩) hq _).setCell (p := ⟨q,_,none⟩) hq _).setCell (p := ⟨q,_,none⟩) hq _).setCell (p := ⟨q,_,none⟩) hq _
theorem Lies.head {w : World} {B n c g o : Nat} {x : RA} {l : List RA} (h : Lies w B (some ⟨g,o,none⟩) n c (x :: l)) : RowAt w g o x := by
 have h1 := h.rd.row (j := 0) (by simp)
 rwa [Nat.zero_mul,Nat.add_zero] at h1
theorem Lies.tail {w : World} {B n c : Nat} {A : Option Addr} {x : RA} {l : List RA} (h : Lies w B A n c (x :: l)) :
    ∃ A',(∀ wx : World,(Instr.slice 31 (.slice A n c) (some (.int .i64 1)) none none).run Tryz.prog wx = .ok (.slice A' (n - 1) (c - 1)) wx) /\ Lies w B A' (n - 1) (c - 1) l := by
 have hn : 1 <= n := by have := h.len; simp at this; omega
 obtain ⟨A',h1,h2⟩ := slR_l h.rd h.cap 1 1 rfl hn
 exact ⟨A',h1,h2,fun y hy => h.held y (List.mem_cons_of_mem _ hy),by have := h.cap; omega⟩
def zeroR : RA := ⟨⟨⟨#[]⟩,⟨⟨#[]⟩,false,0,0⟩,0,0,[]⟩,none,0⟩
theorem run_makeR (w : World) (l n : Nat) (hl : l <= n) (hn : n <= 1000000) :
    (Instr.makeSlice 31 (.int .i64 (l : Nat)) (.int .i64 (n : Nat))).run Tryz.prog w = .ok (.slice (some ⟨w.heap.size,0,none⟩) l n) (w.alloc (.cells (madeCells #[.string ⟨#[]⟩,.string ⟨#[]⟩,.bool false,.int .i64 0,.int .i64 0,.int .i64 0,.int .i64 0,.slice none 0 0] (n * 8)) 45)) := by
 obtain ⟨i,hi,hz0,hz1,hz2⟩ := info_parts infoR
 have h := run_make (P := Tryz.prog) w 31 45 i _ Tryz.underlying31 hi hz0 .i64 .i64 (l : Int) (n : Int) (by omega) (by omega) (by rw [hz2]; omega) (by omega)
 rw [hz1,Int.toNat_natCast,Int.toNat_natCast] at h
 exact h
theorem run_makeR0 (w : World) (n : Nat) (hn : n <= 1000000) :
    (Instr.makeSlice 31 (.int .i64 0) (.int .i64 (n : Nat))).run Tryz.prog w = .ok (.slice (some ⟨w.heap.size,0,none⟩) 0 n) (w.alloc (.cells (madeCells #[.string ⟨#[]⟩,.string ⟨#[]⟩,.bool false,.int .i64 0,.int .i64 0,.int .i64 0,.int .i64 0,.slice none 0 0] (n * 8)) 45)) := run_makeR w 0 n (Nat.zero_le _) hn
theorem own_madeR (w : World) (n : Nat) (hn : n <= 1000000) : Own w (w.alloc (.cells (madeCells #[.string ⟨#[]⟩,.string ⟨#[]⟩,.bool false,.int .i64 0,.int .i64 0,.int .i64 0,.int .i64 0,.slice none 0 0] (n * 8)) 45)) (.slice (some ⟨w.heap.size,0,none⟩) 0 n) [] :=
 ⟨⟨World.ownsRow_made w _ n (Nat.le_refl _) (by unfold maxLen; omega) (size_madeCells _ _),(Below.refl w.heap.size w).alloc (Nat.le_refl _) _⟩,fun x hx => by cases hx⟩
theorem rRow_zero : ∀ n i,i < n * 8 -> (rRow (List.replicate n zeroR))[i]? = (madeCells #[.string ⟨#[]⟩,.string ⟨#[]⟩,.bool false,.int .i64 0,.int .i64 0,.int .i64 0,.int .i64 0,.slice none 0 0] (n * 8))[i]? := fun n i hi => by
 have h := rRow_at (List.replicate n zeroR) (i / 8) (i % 8) (by simp; omega) (by omega)
 rw [show i / 8 * 8 + i % 8 = i by omega] at h
 rw [h,List.getElem_replicate]
 unfold madeCells
 rw [Array.getElem?_map,Array.getElem?_range,if_pos hi]
 simp only [Option.map_some]
 have hm : i % 8 < 8 := by omega
 show (racs zeroR)[i % 8]? = some (#[Value.string ⟨#[]⟩,.string ⟨#[]⟩,.bool false,.int .i64 0,.int .i64 0,.int .i64 0,.int .i64 0,.slice none 0 0][i % 8]!)
 generalize i % 8 = r at hm
 match r,hm with
 | 0,_ => rfl
 | 1,_ => rfl
 | 2,_ => rfl
 | 3,_ => rfl
 | 4,_ => rfl
 | 5,_ => rfl
 | 6,_ => rfl
 | 7,_ => rfl
theorem own_fullR (w : World) (n : Nat) (hn : n <= 1000000) : Own w (w.alloc (.cells (madeCells #[.string ⟨#[]⟩,.string ⟨#[]⟩,.bool false,.int .i64 0,.int .i64 0,.int .i64 0,.int .i64 0,.slice none 0 0] (n * 8)) 45)) (.slice (some ⟨w.heap.size,0,none⟩) n n) (List.replicate n zeroR) := by
 refine ⟨⟨?_,(Below.refl w.heap.size w).alloc (Nat.le_refl _) _⟩,fun x hx => ?_⟩
 ·rw [List.length_replicate]
  refine ⟨by rw [rRow_length,List.length_replicate],Or.inr ⟨w.heap.size,n,_,rfl,Nat.le_refl _,heap_alloc_new w _,Nat.le_refl _,by unfold maxLen; omega,size_madeCells _ _,?_⟩⟩
  refine List.ext_getElem? fun i => ?_
  rcases Nat.lt_or_ge i (n * 8) with h1 | h1
  ·rw [List.getElem?_take_of_lt h1,rRow_zero n i h1,Array.getElem?_toList]
  ·rw [List.getElem?_eq_none (by rw [List.length_take]; omega),List.getElem?_eq_none (by rw [rRow_length,List.length_replicate]; omega)]
 ·rw [List.eq_of_mem_replicate hx]
  exact Or.inl ⟨RdK.nil _ _ _,Nat.le_refl _⟩
theorem RdR.laid (w : World) (x : RA) : RdR (w.alloc (.cells #[.string x.ro.key,.string x.ro.live.s,.bool x.ro.live.d,.int .i64 x.ro.live.a,.int .i64 x.ro.live.e,.int .i64 x.ro.gone,.int .i64 x.ro.shade,.slice x.A x.ro.cols.length x.c] 45)) (w.heap.size + 1) (some ⟨w.heap.size,0,none⟩) 1 [x] := RdR.one w x w.heap.size rfl
structure PA where
 k : ByteArray
 g : Int
 L : List RA
 A : Option Addr
 c : Nat
end Go.Proofs.YtmpcnhpdobdmcaaGreatDoor
