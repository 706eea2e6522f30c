import Derived.Test.YtmpcnhpdobdmcaaGreatDoorLawNotesD
import Derived.Test.YtmpcnhpdobdmcaaGreatDoorLawNotesN
import Derived.Test.YtmpcnhpdobdmcaaGreatDoorLawNotesK
import Derived.Lib.SmallJoins
open Go.Lib (hid)
open List renaming getElem_toArray -> zq1,getElem_cons_succ -> zq2,getElem_cons_zero -> zq3,setIfInBounds_toArray -> zq4,set_cons_zero -> zq5,set_cons_succ -> zq6
set_option linter.unusedVariables false
set_option linter.unusedSimpArgs false
set_option maxHeartbeats 1000000
set_option maxRecDepth 8000
namespace Go.Proofs.YtmpcnhpdobdmcaaGreatDoor
open Go Go.RowKit
structure RY (w : World) (q : Nat) (A : Option Addr) (n c : Nat) (l : Bs) (i : Nat) (e : Int) : Prop where
 blk : w.heap[q]? = some (.cells #[.slice A n c,.int .i64 i,.int .i64 e] 184 (0,0))
 rd : Rd w q A n l
 cap : n <= c
 max : c <= maxLen
 nil : A = none -> c = 0
section
variable {w w' w'' : World} {q n c i : Nat} {A : Option Addr} {l : Bs} {e : Int}
theorem RY.lt (h : RY w q A n c l i e) : q < w.heap.size := (Array.getElem?_eq_some_iff.1 h.blk).1
theorem RY.len (h : RY w q A n c l i e) : l.length = n := h.rd.1
theorem RY.cells (h : RY w q A n c l i e) : w.cell? ⟨q,0,none⟩ = some (.slice A n c) /\ w.cell? ⟨q,1,none⟩ = some (.int .i64 i) /\ w.cell? ⟨q,2,none⟩ = some (.int .i64 e) := ⟨cell_at h.blk rfl,cell_at h.blk rfl,cell_at h.blk rfl⟩
theorem RY.thaw (h : RY w q A n c l i e) (j : Nat) : w.frozen? ⟨q,j,none⟩ = false := thawed_at h.blk
abbrev KeptQ (q : Nat) (w w' : World) : Prop := Kept (fun k => k = q) w w'
theorem KeptQ.on (h : KeptQ q w w') (h' : KeptQ q w' w'') : KeptQ q w w'' := Kept.trans h h' fun _ h => Or.inl h
theorem RY.below (h : RY w q A n c l i e) (hb : Below w.heap.size w w') : RY w' q A n c l i e := ⟨(hb.block q h.lt).trans h.blk,h.rd.below (hb.mono (Nat.le_of_lt h.lt)),h.cap,h.max,h.nil⟩
theorem RY.drew (h : RY w q A n c l i e) : RY w.drew q A n c l i e := ⟨h.blk,h.rd,h.cap,h.max,h.nil⟩
theorem RY.put1 (h : RY w q A n c l i e) (j : Nat) : RY (w.setCell ⟨q,1,none⟩ (.int .i64 j)) q A n c l j e := by
 have m := Joins.block_setCell (i := 1) h.blk (.int .i64 (j : Int))
 simp only [zq4,zq5,zq6] at m
 exact ⟨m,h.rd.below ((Below.refl q w).setCell (p := ⟨q,1,none⟩) (Nat.le_refl _) _),h.cap,h.max,h.nil⟩
theorem RY.put2 (h : RY w q A n c l i e) (f : Int) : RY (w.setCell ⟨q,2,none⟩ (.int .i64 f)) q A n c l i f := by
 have m := Joins.block_setCell (i := 2) h.blk (.int .i64 f)
 simp only [zq4,zq5,zq6] at m
 exact ⟨m,h.rd.below ((Below.refl q w).setCell (p := ⟨q,2,none⟩) (Nat.le_refl _) _),h.cap,h.max,h.nil⟩
theorem RY.other {r : Nat} (h : RY w q A n c l i e) (hk : KeptQ r w w') (hr : q < r) : RY w' q A n c l i e :=
 ⟨(hk.block q h.lt (fun e => by omega)).trans h.blk,h.rd.keep fun p hp => by
   have := hk.block p.block (by have := h.lt; omega) (fun e => by omega)
   unfold World.cell?
   rw [this],h.cap,h.max,h.nil⟩
end
theorem ynum (q i n c : Nat) (e : Int) (A : Option Addr) (l : Bs) (w : World) (h : RY w q A n c l i e) (hi : i <= n) (hs : n <= 1000000000) :
    Calls Tryz.prog 168 #[.pointer (some ⟨q,0,none⟩)] w fun x w' => ∃ (v j : Nat) (f : Int),x = .returned (.int .u64 v) /\ v < 18446744073709551616 /\ (f ≠ 0 -> v = 0) /\ j <= n /\ RY w' q A n c l j f /\ KeptQ q w w' /\ Went rawP l i e v j f := by
 have hl := h.len
 by_cases he : e = 0
 ·subst he
  have hg := gnum_raw l i (by omega)
  obtain ⟨gv,gj,gc,hgn⟩ : ∃ gv gj gc,gnum l i = (gv,gj,gc) := ⟨_,_,_,rfl⟩
  have hres : ∃ (v j : Nat) (f : Int),numV (gnum l i) = .tuple #[.int .u64 (v : Nat),.int .i64 (j : Nat),.int .i64 f] /\ v < 18446744073709551616 /\ (f ≠ 0 -> v = 0) /\ j <= n /\ Went rawP l i 0 v j f := by
   cases hr : rawP (l.drop i) with
   | error c =>
     rw [hr] at hg
     have hc0 : c ≠ 0 := by rcases raw_errs hr with rfl | rfl <;> decide
     exact ⟨0,0,c,by rw [hg]; rfl,by omega,fun _ => rfl,by omega,Went.bad 0 c hc0 (by omega) hr⟩
   | ok z =>
     obtain ⟨v,r⟩ := z
     rw [hr] at hg
     have hat := raw_at (by omega : i <= l.length) hr
     exact ⟨v,l.length - r.length,0,by rw [hg]; rfl,(raw_canon hr).2,fun h => absurd rfl h,by omega,⟨fun _ => hat.1,hat.2.1,fun h => absurd rfl h,fun _ _ => by rw [hr,<- hat.2.2],fun _ h => absurd rfl h⟩⟩
  obtain ⟨v,j,f,hgv,hv,hf0,hj,hw⟩ := hres
  obtain ⟨c0,c1,c2⟩ := h.cells
  have HGV := hid hgv; have HV := hid hv; have HJ := hid hj; have HW := hid hw; have H := hid h; have HS := hid hs; have HF0 := hid hf0
  have HC := hid (⟨c0,c1,c2⟩ : w.cell? ⟨q,0,none⟩ = some (.slice A n c) /\ w.cell? ⟨q,1,none⟩ = some (.int .i64 i) /\ w.cell? ⟨q,2,none⟩ = some (.int .i64 0))
  clear hg hgn hgv hv hj hw h hs hi hl c0 c1 hf0 gv gj gc
  go_enter Tryz.func168,Tryz.ntmps168
  go_wp2_with fail
  clear c2
  refine wp_region_z (S := fun w' => w' = w.drew) 18 (by kernel_rfl) ?_ (fun hHeld => ?_)
  ·rfl
  refine takesZ [0,2,3,4,5,6,7,8,9] ?_
  repeat
   refine takesZ_one (v := ?_) ?_ ?_
   rotate_left
   ·first | (refine Or.inr ⟨by rfl,?_⟩; with_reducible rfl) | (refine Or.inl ⟨by rfl,?_⟩; intro wx hSw; (try dsimp only at hSw); subst hSw; first | (go_simp; first | done | with_reducible rfl) | (obtain ⟨_,_,_⟩ := HC.out; go_simp; first | done | with_reducible rfl))
   try simp only [Act.put,zq1,zq2,zq3,zq4,zq5,zq6]
  refine takesZ_nil ?_
  refine takesZ [1] ?_
  refine takesZ_oneT (v := ?_) ?_ ?_ (fun _ => hHeld)
  rotate_left
  ·refine Or.inl ⟨by rfl,?_⟩; intro wx _; go_simp; first | done | with_reducible rfl
  try simp only [Act.put,zq1,zq2,zq3,zq4,zq5,zq6]
  refine takesZ_nil ?_
  refine wpAnyZ_one (i := 10) (by kernel_rfl) rfl (fun K hK => ?_)
  go_simp
  refine (getNum_any A n c q l i w.drew H.out.drew.rd H.out.cap H.out.max (by have := HS.out; omega)).mono ?_
  rintro x w1 ⟨rfl,hw1⟩
  rw [HGV.out]
  subst hw1
  try go_wp2_with fail
  refine hK.out _ _ rfl (fun hHeld => ?_)
  clear hK K
  try simp only [Act.put,zq1,zq2,zq3,zq4,zq5,zq6]
  refine takesZ [11,12,13,14,15,16,17] ?_
  repeat
   refine takesZ_oneT (v := ?_) ?_ ?_ (fun _ => hHeld)
   rotate_left
   ·refine Or.inl ⟨by rfl,?_⟩; intro wx _; go_simp; first | done | with_reducible rfl
   try simp only [Act.put,zq1,zq2,zq3,zq4,zq5,zq6]
  refine takesZ_nil ?_
  have h1 : RY w.drew q A n c l i 0 := H.out.drew
  obtain ⟨U,hU⟩ : ∃ U,U = w.drew := ⟨_,rfl⟩
  have hkU : KeptQ q w U := by rw [hU]; exact (Kept.refl _ _).drew
  rw [<- hU] at h1 ⊢
  clear hU hHeld H HC
  obtain ⟨_,c1,c2⟩ := h1.cells
  have f1 := h1.thaw 1
  have h2 := h1.put1 j
  have c2' := h2.cells.2.2
  have f2 := h2.thaw 2
  have h3 := h2.put2 f
  have hk3 := (hkU.on (Kept.setCell (fun k => k = q) U ⟨q,1,none⟩ (.int .i64 (j : Int)) rfl)).on (Kept.setCell (fun k => k = q) _ ⟨q,2,none⟩ (.int .i64 f) rfl)
  have H3 := hid h3; have K3 := hid hk3
  clear h1 h2 h3 hk3 hkU
  refine wpAnyZ_last (by kernel_rfl) rfl (fun K hK => ?_)
  go_simp
  refine hK.out _ _ ?_
  clear hK K c1 f1 c2
  try simp only [Act.put,zq1,zq2,zq3,zq4,zq5,zq6]
  refine takesZ [19,20] ?_
  repeat
   refine takesZ_oneT (v := ?_) ?_ ?_ (fun h => by cases h)
   rotate_left
   ·refine Or.inl ⟨by rfl,?_⟩; intro wx _; go_simp; first | done | with_reducible rfl
   try simp only [Act.put,zq1,zq2,zq3,zq4,zq5,zq6]
  refine takesZ_nil ?_
  refine wpAnyZ_past (i := 21) (by kernel_rfl) rfl rfl (fun K hK => ?_)
  go_simp
  refine hK.out _ _ ?_
  clear hK K c2' f2
  try simp only [Act.put,zq1,zq2,zq3,zq4,zq5,zq6]
  refine wpAnyZ_done (by kernel_rfl) ?_ _
  go_wp2
  go_ret
  exact ⟨v,j,f,rfl,HV.out,HF0.out,HJ.out,H3.out,K3.out,HW.out⟩
 ·have e0 : (e == 0) = false := by simp; exact he
  obtain ⟨c0,c1,c2⟩ := h.cells
  have HE := hid he; have H := hid h; have HI := hid hi
  clear he h hi hs hl c0 c1
  go_enter Tryz.func168,Tryz.ntmps168
  go_wp2
  go_ret
  exact ⟨0,i,e,rfl,by omega,fun _ => rfl,HI.out,H.out,Kept.refl _ _,Went.off 0 HE.out (Nat.le_refl _) (by rw [H.out.len]; exact HI.out)⟩
end Go.Proofs.YtmpcnhpdobdmcaaGreatDoor
