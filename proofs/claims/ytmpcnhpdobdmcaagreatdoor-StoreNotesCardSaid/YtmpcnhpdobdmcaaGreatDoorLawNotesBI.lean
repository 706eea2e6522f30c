import Derived.Sort.KeysCollected
import Derived.Test.YtmpcnhpdobdmcaaGreatDoorLawNotesBG
import Derived.Test.YtmpcnhpdobdmcaaGreatDoorLawNotesBH
open Go.Lib (hid)
open List renaming getElem_toArray -> zq1,getElem_cons_succ -> zq2,getElem_cons_zero -> zq3,setIfInBounds_toArray -> zq4,set_cons_zero -> zq5,set_cons_succ -> zq6
set_option linter.unusedVariables false
set_option linter.unusedSimpArgs false
set_option maxHeartbeats 4000000
set_option maxRecDepth 20000
namespace Go.Proofs.YtmpcnhpdobdmcaaGreatDoor
open Go Go.RowKit
def BlkOf (A : Option Addr) (k : Nat) : Prop := ∃ o,A = some ⟨k,o,none⟩
def rowsF (A : Option Addr) (L : List RA) (k : Nat) : Prop := (L ≠ [] /\ BlkOf A k) \/ ∃ x ∈ L,x.ro.cols ≠ [] /\ BlkOf x.A k
theorem cell_agree {w w' : World} {g : Nat} (h : w'.heap[g]? = w.heap[g]?) (o : Nat) : w'.cell? ⟨g,o,none⟩ = w.cell? ⟨g,o,none⟩ := by
 unfold World.cell?
 rw [h]
theorem cell_cells {w : World} {g o : Nat} {v : Value} (h : w.cell? ⟨g,o,none⟩ = some v) : ∃ cs t fr,w.heap[g]? = some (.cells cs t fr) := by
 unfold World.cell? at h
 cases e : w.heap[g]? with
 | none => rw [e] at h; cases h
 | some x =>
   rw [e] at h
   cases x with
   | cells cs t fr => exact ⟨cs,t,fr,rfl⟩
   | _ => cases h
section
variable {w w' : World} {B n c : Nat} {A : Option Addr} {L : List RA}
theorem RdK.agree {l : Cols} (h : RdK w B A n l) (ha : ∀ k,l ≠ [] -> BlkOf A k -> w'.heap[k]? = w.heap[k]?) : RdK w' B A n l :=
 ⟨h.1,fun hn => by
   obtain ⟨g,o,e,hg,hc⟩ := h.2 hn
   have hne : l ≠ [] := fun h0 => by rw [<- h.1,h0] at hn; exact absurd hn (by simp)
   have hk := ha g hne ⟨o,e⟩
   refine ⟨g,o,e,hg,fun j hj => ?_⟩
   obtain ⟨h0,h1,h2,h3,h4⟩ := hc j hj
   exact ⟨(cell_agree hk _).trans h0,(cell_agree hk _).trans h1,(cell_agree hk _).trans h2,(cell_agree hk _).trans h3,(cell_agree hk _).trans h4⟩⟩
theorem Lies.agree (h : Lies w B A n c L) (ha : ∀ k,rowsF A L k -> w'.heap[k]? = w.heap[k]?) : Lies w' B A n c L :=
 ⟨⟨h.rd.1,fun hn => by
     obtain ⟨g,o,e,hg,hc⟩ := h.rd.2 hn
     have hne : L ≠ [] := fun h0 => by rw [<- h.rd.1,h0] at hn; exact absurd hn (by simp)
     have hk := ha g (Or.inl ⟨hne,o,e⟩)
     exact ⟨g,o,e,hg,fun j hj i u hu => (cell_agree hk _).trans (hc j hj i u hu)⟩⟩,
   fun x hx => ⟨(h.held x hx).rd.agree fun k hne hb => ha k (Or.inr ⟨x,hx,hne,hb⟩),(h.held x hx).cap⟩,h.cap⟩
theorem Lies.cells (h : Lies w B A n c L) {k : Nat} (hk : rowsF A L k) : k < B /\ ∃ cs t fr,w.heap[k]? = some (.cells cs t fr) := by
 rcases hk with ⟨hne,o,rfl⟩ | ⟨x,hx,hne,o,e⟩
 ·have hn : 0 < n := by rw [<- h.rd.1]; exact List.length_pos_iff.2 hne
  obtain ⟨g,o',e,hg,hc⟩ := h.rd.2 hn
  injection e with e; injection e with e1 e2
  subst e1
  exact ⟨hg,cell_cells (hc 0 (by rw [h.rd.1]; exact hn) 0 _ rfl)⟩
 ·have hr := (h.held x hx).rd
  have hn : 0 < x.ro.cols.length := List.length_pos_iff.2 hne
  obtain ⟨g,o',e',hg,hc⟩ := hr.2 hn
  rw [e] at e'
  injection e' with e'; injection e' with e1 e2
  subst e1
  exact ⟨hg,cell_cells (hc 0 hn).1⟩
end
theorem Fresh.rowsF {w w' : World} {A : Option Addr} {n c : Nat} {M : List RA} (h : Fresh w w' (.slice A n c) M) {k : Nat} (hk : Go.Proofs.YtmpcnhpdobdmcaaGreatDoor.rowsF A M k) : w.heap.size <= k := by
 rcases hk with ⟨hne,o,rfl⟩ | ⟨x,hx,hne,o,e⟩
 ·have h1 := h.cur.own
  rcases h1.2 with ⟨h2,h3⟩ | ⟨g,cap,cur,h2,h3,_⟩
  ·injection h2 with h2
   cases h2
  ·injection h2 with h2
   injection h2 with h2
   injection h2 with h2
   omega
 ·have h1 := h.cols x hx
  unfold OwnC at h1
  rw [e] at h1
  rcases h1.2 with ⟨h2,h3⟩ | ⟨g,cap,cur,h2,h3,_⟩
  ·injection h2 with h2
   cases h2
  ·injection h2 with h2
   injection h2 with h2
   injection h2 with h2
   omega
abbrev HdP := ByteArray × Int × Option Addr × Nat × Nat
def PA.hd (p : PA) : HdP := (p.k,p.g,p.A,p.L.length,p.c)
def hdV (h : HdP) : Value := .agg #[.string h.1,.int .i64 h.2.1,.slice h.2.2.1 h.2.2.2.1 h.2.2.2.2]
def pV (p : PA) : Value := hdV p.hd
def elemP (v : Value) : Option (DataW HdP × List MemPlace) :=
 match v with
 | .agg cs => match cs.toList with
   | [.string k,.int .i64 g,.slice A n c] => some (.held (k,g,A,n,c),[])
   | _ => none
 | _ => none
theorem elemP_mk (h : HdP) : elemP (hdV h) = some (.held h,[]) := rfl
theorem elemP_inv {v : Value} {z : DataW HdP × List MemPlace} (h : elemP v = some z) : ∃ x : HdP,v = hdV x /\ z = (.held x,[]) := by
 unfold elemP at h
 split at h
 ·rename_i cs
  split at h
  ·rename_i k g A n c hs
   injection h with h
   refine ⟨(k,g,A,n,c),?_,h.symm⟩
   unfold hdV
   congr 1
   apply Array.ext'
   rw [hs]
  ·cases h
 ·cases h
def zeroP : PA := ⟨⟨#[]⟩,0,[],none,0⟩
structure TA where
 nm : ByteArray
 g : Nat
 X : List PA
def mV (g : Option Nat) : Value := .map g
def elemM (v : Value) : Option (DataW Nat × List MemPlace) :=
 match v with
 | .map (some g) => some (.held g,[])
 | .map none => some (.nil,[])
 | _ => none
theorem elemM_inv {v : Value} {z : DataW Nat × List MemPlace} (h : elemM v = some z) : ∃ g : Option Nat,v = mV g /\ z = ((match g with | some g => .held g | none => .nil),[]) := by
 unfold elemM at h
 split at h
 ·rename_i g
  injection h with h
  exact ⟨some g,rfl,h.symm⟩
 ·injection h with h
  exact ⟨none,rfl,h.symm⟩
 ·cases h
def TA.tb (x : TA) : Tb := ⟨x.nm,pas x.X⟩
def tbs (T : List TA) : List Tb := T.map TA.tb
def xsOf (T : List TA) (t : ByteArray) : List PA := match getK TA.nm T t with | some x => x.X | none => []
def lookA (T : List TA) (t k : ByteArray) : Option PA := getK PA.k (xsOf T t) k
theorem getK_tbs (T : List TA) (t : ByteArray) : getK Tb.nm (tbs T) t = (getK TA.nm T t).map TA.tb := getK_map (fun _ => rfl) T t
theorem getK_pas (X : List PA) (k : ByteArray) : getK Pa.key (pas X) k = (getK PA.k X k).map paOf := getK_map (fun _ => rfl) X k
theorem psOf_tbs (T : List TA) (t : ByteArray) : psOf (tbs T) t = pas (xsOf T t) := by
 unfold psOf xsOf
 rw [getK_tbs]
 cases getK TA.nm T t <;> rfl
theorem look_tbs (T : List TA) (t k : ByteArray) : look (tbs T) t k = (lookA T t k).map paOf := by
 unfold look lookA
 rw [psOf_tbs,getK_pas]
structure TaOk (T : List TA) : Prop where
 rise : RiseK TA.nm T
 ps : ∀ x ∈ T,RiseK PA.k x.X /\ x.X ≠ []
 sz : ∀ x ∈ T,x.nm.size <= 1000 /\ ∀ p ∈ x.X,p.k.size <= 1000
theorem TaOk.tbs {T : List TA} (h : TaOk T) : TbOk (tbs T) := ⟨(riseK_map (fun _ => rfl)).2 h.rise,fun x hx => by
 obtain ⟨y,hy,rfl⟩ := List.mem_map.1 hx
 have := h.ps y hy
 exact ⟨(riseK_map (fun _ => rfl)).2 this.1,fun h0 => this.2 (List.map_eq_nil_iff.1 h0)⟩⟩
theorem xsOf_some {T : List TA} {t : ByteArray} {x : TA} (h : getK TA.nm T t = some x) : xsOf T t = x.X := by unfold xsOf; rw [h]
theorem xsOf_none {T : List TA} {t : ByteArray} (h : getK TA.nm T t = none) : xsOf T t = [] := by unfold xsOf; rw [h]
theorem lookA_mem {T : List TA} {t k : ByteArray} {p : PA} (h : lookA T t k = some p) : ∃ x ∈ T,x.nm = t /\ p ∈ x.X /\ p.k = k := by
 unfold lookA at h
 cases e : getK TA.nm T t with
 | none => rw [xsOf_none e] at h; cases h
 | some x =>
   rw [xsOf_some e] at h
   exact ⟨x,(getK_some e).1,(getK_some e).2,(getK_some h).1,(getK_some h).2⟩
theorem TaOk.look {T : List TA} (h : TaOk T) {x : TA} (hx : x ∈ T) {p : PA} (hp : p ∈ x.X) : lookA T x.nm p.k = some p := by
 unfold lookA
 rw [xsOf_some (getK_mem h.rise hx)]
 exact getK_mem (h.ps x hx).1 hp
structure TbAt (w : World) (m : Nat) (T : List TA) : Prop where
 ok : TaOk T
 own : w.ownsMap Tryz.prog 9 elemM m T.length (mapK TA.nm TA.g T)
 inn : ∀ x ∈ T,w.ownsMap Tryz.prog 9 elemP x.g x.X.length (mapK PA.k PA.hd x.X)
 lies : ∀ x ∈ T,∀ p ∈ x.X,Lies w w.heap.size p.A p.L.length p.c p.L
 apart : ∀ x ∈ T,∀ y ∈ T,x.g = y.g -> x.nm = y.nm
 off : ∀ x ∈ T,x.g ≠ m
def mapsF (m : Nat) (T : List TA) (k : Nat) : Prop := k = m \/ ∃ x ∈ T,k = x.g
def allRows (T : List TA) (k : Nat) : Prop := ∃ x ∈ T,∃ p ∈ x.X,rowsF p.A p.L k
section
variable {w w' : World} {m : Nat} {T : List TA}
theorem TbAt.isMap (h : TbAt w m T) {k : Nat} (hk : mapsF m T k) : ∃ es c,w.heap[k]? = some (.map es c) := by
 rcases hk with rfl | ⟨x,hx,rfl⟩
 ·obtain ⟨es,c,hb,_⟩ := h.own; exact ⟨es,c,hb⟩
 ·obtain ⟨es,c,hb,_⟩ := h.inn x hx; exact ⟨es,c,hb⟩
theorem TbAt.isCells (h : TbAt w m T) {k : Nat} (hk : allRows T k) : ∃ cs t fr,w.heap[k]? = some (.cells cs t fr) := by
 obtain ⟨x,hx,p,hp,hr⟩ := hk
 exact ((h.lies x hx p hp).cells hr).2
theorem TbAt.lt (h : TbAt w m T) {k : Nat} (hk : mapsF m T k) : k < w.heap.size := by
 obtain ⟨es,c,hb⟩ := h.isMap hk
 exact (Array.getElem?_eq_some_iff.1 hb).1
theorem TbAt.rows_lt (h : TbAt w m T) {k : Nat} (hk : allRows T k) : k < w.heap.size := by
 obtain ⟨cs,t,fr,hb⟩ := h.isCells hk
 exact (Array.getElem?_eq_some_iff.1 hb).1
theorem TbAt.agree (h : TbAt w m T) (hs : w.heap.size <= w'.heap.size) (hm : ∀ k,mapsF m T k -> w'.heap[k]? = w.heap[k]?) (hr : ∀ k,allRows T k -> w'.heap[k]? = w.heap[k]?) : TbAt w' m T :=
 ⟨h.ok,map_kept h.own (hm _ (Or.inl rfl)),fun x hx => map_kept (h.inn x hx) (hm _ (Or.inr ⟨x,hx,rfl⟩)),
   fun x hx p hp => ((h.lies x hx p hp).agree fun k hk => hr k ⟨x,hx,p,hp,hk⟩).up hs,h.apart,h.off⟩
theorem TbAt.below (h : TbAt w m T) (hb : Below w.heap.size w w') : TbAt w' m T := h.agree hb.size (fun k hk => hb.block k (h.lt hk)) fun k hk => hb.block k (h.rows_lt hk)
end
theorem held_inj {H : Type} {a b : H} (h : (DataW.held a : DataW H) = .held b) : a = b := by cases h; rfl
theorem held_nil {H : Type} {a : H} (h : (DataW.held a : DataW H) = .nil) : False := by cases h
theorem keyS : Maps.Keyed Tryz.prog 9 := Maps.string_keyed Tryz.underlying9
theorem keyOfS {s : ByteArray} (h : s.size <= maxLen) : keyOf Tryz.prog 9 (.string s) = some (.string s.data.toList) := by
 unfold keyOf
 rw [Tryz.underlying9]
 unfold mapKey
 rw [Tryz.underlying9]
 simp [h]
theorem look_out {w : World} {m n : Nat} {T : List TA} (h : w.ownsMap Tryz.prog 9 elemM m n (mapK TA.nm TA.g T)) {t : ByteArray} (ht : t.size <= maxLen) :
    (Instr.lookup 66 (.map (some m)) (.string t) false).run Tryz.prog w = .ok (.map ((getK TA.nm T t).map TA.g)) w := by
 have hz : (zeroValue 111).run Tryz.prog w = .ok (.map none) w := by kernel_rfl
 obtain ⟨v,ps,hr,hv⟩ := h.lookup keyS Tryz.underlying66 hz (zd := .nil) (zp := []) rfl (keyOfS ht)
 rw [hr]
 rw [atKey_mapK] at hv
 obtain ⟨g,rfl,hg⟩ := elemM_inv hv
 have hg := congrArg Prod.fst hg
 dsimp only at hg
 cases e : getK TA.nm T t with
 | none =>
   rw [e] at hg
   cases g with
   | none => rfl
   | some g => exact (held_nil (show (DataW.held g : DataW Nat) = .nil from hg.symm)).elim
 | some x =>
   rw [e] at hg
   cases g with
   | none => exact (held_nil (show (DataW.held x.g : DataW Nat) = .nil from hg)).elim
   | some g => rw [<- show x.g = g from held_inj (show (DataW.held x.g : DataW Nat) = .held g from hg)]; rfl
theorem look_inn {w : World} {g n : Nat} {X : List PA} (h : w.ownsMap Tryz.prog 9 elemP g n (mapK PA.k PA.hd X)) {k : ByteArray} (hk : k.size <= maxLen) :
    (Instr.lookup 111 (.map (some g)) (.string k) true).run Tryz.prog w = .ok (.tuple #[pV ((getK PA.k X k).getD zeroP),.bool (getK PA.k X k).isSome]) w := by
 have hz : (zeroValue 33).run Tryz.prog w = .ok (pV zeroP) w := by kernel_rfl
 obtain ⟨v,ps,hr,hv⟩ := h.look_ok keyS Tryz.underlying111 hz (zd := .held zeroP.hd) (zp := []) rfl (keyOfS hk)
 rw [hr]
 rw [atKey_mapK] at hv
 rw [has_mapK]
 obtain ⟨x,rfl,hg⟩ := elemP_inv hv
 have hg := congrArg Prod.fst hg
 dsimp only at hg
 cases e : getK PA.k X k with
 | none =>
   rw [e] at hg
   rw [<- show zeroP.hd = x from held_inj (show (DataW.held zeroP.hd : DataW HdP) = .held x from hg)]
   rfl
 | some y =>
   rw [e] at hg
   rw [<- show y.hd = x from held_inj (show (DataW.held y.hd : DataW HdP) = .held x from hg)]
   rfl
theorem look_nil {w : World} (k : ByteArray) (hk : k.size <= maxLen) : (Instr.lookup 111 (.map none) (.string k) true).run Tryz.prog w = .ok (.tuple #[pV zeroP,.bool false]) w := by
 have hz : (zeroValue 33).run Tryz.prog w = .ok (pV zeroP) w := by kernel_rfl
 simpa using Maps.look_nil (w := w) true keyS Tryz.underlying111 hz (keyOfS hk)
end Go.Proofs.YtmpcnhpdobdmcaaGreatDoor
namespace Go.Proofs.YtmpcnhpdobdmcaaGreatDoor
open Go Go.RowKit
theorem RdZ.agree {w w' : World} {B n : Nat} {A : Option Addr} {l : List Int} (h : RdZ w B A n l) (ha : ∀ k,l ≠ [] -> BlkOf A k -> w'.heap[k]? = w.heap[k]?) : RdZ w' B A n l :=
 ⟨h.1,fun hn => by
   obtain ⟨g,o,e,hg,hc⟩ := h.2 hn
   have hne : l ≠ [] := fun h0 => by rw [<- h.1,h0] at hn; exact absurd hn (by simp)
   exact ⟨g,o,e,hg,fun j hj => (cell_agree (ha g hne ⟨o,e⟩) _).trans (hc j hj)⟩⟩
theorem RdZ.higher {w : World} {B B' n : Nat} {A : Option Addr} {l : List Int} (h : RdZ w B A n l) (hB : B <= B') : RdZ w B' A n l :=
 ⟨h.1,fun hn => by
   obtain ⟨g,o,e,hg,hc⟩ := h.2 hn
   exact ⟨g,o,e,by omega,hc⟩⟩
def BA.blk (y : BA) (k : Nat) : Prop := (y.M ≠ [] /\ BlkOf y.AM k) \/ (y.N ≠ [] /\ BlkOf y.AN k) \/ (y.D ≠ [] /\ BlkOf y.AD k) \/ ∃ x ∈ y.M,rowsF x.p.A x.p.L k
section
variable {w w' : World} {B n c : Nat} {A : Option Addr}
theorem ne_of_len {α : Type} {l : List α} (h : l.length = n) (hn : 0 < n) : l ≠ [] := fun h0 => by rw [<- h,h0] at hn; exact absurd hn (by simp)
theorem RdM.agree {l : List MA} (h : RdM w B A n l) (ha : ∀ k,l ≠ [] -> BlkOf A k -> w'.heap[k]? = w.heap[k]?) : RdM w' B A n l :=
 ⟨h.1,fun hn => by
   obtain ⟨g,o,e,hg,hc⟩ := h.2 hn
   exact ⟨g,o,e,hg,fun j hj i u hu => (cell_agree (ha g (ne_of_len h.1 hn) ⟨o,e⟩) _).trans (hc j hj i u hu)⟩⟩
theorem RdN.agree {l : List NA} (h : RdN w B A n l) (ha : ∀ k,l ≠ [] -> BlkOf A k -> w'.heap[k]? = w.heap[k]?) : RdN w' B A n l :=
 ⟨h.1,fun hn => by
   obtain ⟨g,o,e,hg,hc⟩ := h.2 hn
   exact ⟨g,o,e,hg,fun j hj i u hu => (cell_agree (ha g (ne_of_len h.1 hn) ⟨o,e⟩) _).trans (hc j hj i u hu)⟩⟩
theorem LiesM.agree {L : List MA} (h : LiesM w B A n c L) (ha : ∀ k,((L ≠ [] /\ BlkOf A k) \/ ∃ x ∈ L,rowsF x.p.A x.p.L k) -> w'.heap[k]? = w.heap[k]?) : LiesM w' B A n c L :=
 ⟨h.rd.agree fun k hne hk => ha k (Or.inl ⟨hne,hk⟩),fun x hx => (h.parts x hx).agree fun k hk => ha k (Or.inr ⟨x,hx,hk⟩),h.cap⟩
theorem LiesB.agree {y : BA} (h : LiesB w B y) (ha : ∀ k,y.blk k -> w'.heap[k]? = w.heap[k]?) : LiesB w' B y :=
 ⟨h.muts.agree fun k hk => ha k (hk.elim Or.inl fun h => Or.inr (Or.inr (Or.inr h))),h.notes.agree fun k hne hk => ha k (Or.inr (Or.inl ⟨hne,hk⟩)),h.drops.agree fun k hne hk => ha k (Or.inr (Or.inr (Or.inl ⟨hne,hk⟩))),h.capN,h.capD⟩
theorem blkOf_lt {k : Nat} {P : Nat -> Nat -> Prop} (hn : 0 < n) (h : 0 < n -> ∃ g o,A = some ⟨g,o,none⟩ /\ g < B /\ P g o) (hk : BlkOf A k) : k < B := by
 obtain ⟨g,o,e,hg,_⟩ := h hn
 obtain ⟨o',e'⟩ := hk
 rw [e] at e'
 injection e' with e'; injection e' with e1
 omega
theorem LiesB.lt {y : BA} (h : LiesB w B y) {k : Nat} (hk : y.blk k) : k < B := by
 rcases hk with ⟨hne,hk⟩ | ⟨hne,hk⟩ | ⟨hne,hk⟩ | ⟨x,hx,hk⟩
 ·exact blkOf_lt (List.length_pos_iff.2 hne) h.muts.rd.2 hk
 ·exact blkOf_lt (List.length_pos_iff.2 hne) h.notes.2 hk
 ·exact blkOf_lt (List.length_pos_iff.2 hne) h.drops.2 hk
 ·exact ((h.muts.parts x hx).cells hk).1
theorem LiesB.kept {y : BA} {F : Nat -> Prop} (h : LiesB w B y) (hB : B <= w.heap.size) (hk : Kept F w w') (ho : ∀ k,y.blk k -> ¬ F k) : LiesB w' B y :=
 h.agree fun k hy => hk.block k (Nat.lt_of_lt_of_le (h.lt hy) hB) (ho k hy)
end
theorem blkOf_eq {b o k : Nat} (h : BlkOf (some ⟨b,o,none⟩) k) : k = b := by
 obtain ⟨o',e⟩ := h
 injection e with e; injection e with e1
 exact e1.symm
theorem BA.off {y : BA} {w : World} {F : Nat -> Prop} (hF : In F w) (h : ∀ k,y.blk k -> w.heap.size <= k) : ∀ k,y.blk k -> ¬ F k := fun k hk hf => by
 have h1 := h k hk
 have h2 := hF k hf
 omega
theorem no_rows {k : Nat} (h : rowsF none [] k) : False := by
 rcases h with ⟨h,_⟩ | ⟨x,hx,_⟩
 ·exact h rfl
 ·cases hx
end Go.Proofs.YtmpcnhpdobdmcaaGreatDoor
namespace Go.Proofs.YtmpcnhpdobdmcaaGreatDoor
open Go Go.RowKit
section
variable (w : World) {ops : Array Oper} {rest : List Oper} {o : Oper} {a : Act} {Q : Exit -> Act -> World -> Prop}
theorem wpList_lookE (hg : o.guard = none) (t : TypeId) (m x : Operand) (c : Bool) (hop : o.op = Op.lookup t m x c) (v : Value) (hrun : (Instr.lookup t (a.eval m) (a.eval x) c).run Tryz.prog w = .ok v w)
    (hK : wpList Tryz.prog ops Q rest (a.put o.dst v) w) : wpList Tryz.prog ops Q (o :: rest) a w := by
 refine wpList_plain hg fun K' hK' => ?_
 unfold Oper.wp
 simp [execOp,hop,hrun,Result.andThen]
 exact hK' _ _ hK
theorem lk_out (hg : o.guard = none) (m x : Operand) (hop : o.op = Op.lookup 66 m x false) (b n : Nat) (T : List TA) (hm : a.eval m = .map (some b))
    (hown : w.ownsMap Tryz.prog 9 elemM b n (mapK TA.nm TA.g T)) (t : ByteArray) (hx : a.eval x = .string t) (ht : t.size <= maxLen) (g : Option Nat) (hg' : (getK TA.nm T t).map TA.g = g)
    (hK : wpList Tryz.prog ops Q rest (a.put o.dst (.map g)) w) : wpList Tryz.prog ops Q (o :: rest) a w :=
 wpList_lookE w hg _ m x false hop (.map g) (by rw [hm,hx,<- hg']; exact look_out hown ht) hK
theorem lk_inn (hg : o.guard = none) (m x : Operand) (hop : o.op = Op.lookup 111 m x true) (b n : Nat) (X : List PA) (hm : a.eval m = .map (some b))
    (hown : w.ownsMap Tryz.prog 9 elemP b n (mapK PA.k PA.hd X)) (k : ByteArray) (hx : a.eval x = .string k) (hk : k.size <= maxLen) (p : PA) (hp : (getK PA.k X k).getD zeroP = p) (c : Bool) (hc : (getK PA.k X k).isSome = c)
    (hK : wpList Tryz.prog ops Q rest (a.put o.dst (.tuple #[.agg #[.string p.k,.int .i64 p.g,.slice p.A p.L.length p.c],.bool c])) w) : wpList Tryz.prog ops Q (o :: rest) a w :=
 wpList_lookE w hg _ m x true hop _ (by rw [hm,hx,look_inn hown hk,hp,hc]; rfl) hK
theorem lk_none (hg : o.guard = none) (m x : Operand) (hop : o.op = Op.lookup 111 m x true) (b n : Nat) (X : List PA) (hm : a.eval m = .map (some b))
    (hown : w.ownsMap Tryz.prog 9 elemP b n (mapK PA.k PA.hd X)) (k : ByteArray) (hx : a.eval x = .string k) (hk : k.size <= maxLen) (hp : getK PA.k X k = none)
    (hK : wpList Tryz.prog ops Q rest (a.put o.dst (.tuple #[.agg #[.string ⟨#[]⟩,.int .i64 0,.slice none 0 0],.bool false])) w) : wpList Tryz.prog ops Q (o :: rest) a w :=
 wpList_lookE w hg _ m x true hop _ (by rw [hm,hx,look_inn hown hk,hp]; rfl) hK
theorem lk_nil (hg : o.guard = none) (m x : Operand) (hop : o.op = Op.lookup 111 m x true) (hm : a.eval m = .map none)
    (k : ByteArray) (hx : a.eval x = .string k) (hk : k.size <= maxLen)
    (hK : wpList Tryz.prog ops Q rest (a.put o.dst (.tuple #[.agg #[.string ⟨#[]⟩,.int .i64 0,.slice none 0 0],.bool false])) w) : wpList Tryz.prog ops Q (o :: rest) a w :=
 wpList_lookE w hg _ m x true hop _ (by rw [hm,hx,look_nil k hk]; rfl) hK
end
def emptyP (k : ByteArray) : PA := ⟨k,0,[],none,0⟩
theorem get_t (m : Nat) (T : List TA) (t k : ByteArray) (w : World) (h : TbAt w m T) (ht : t.size <= maxLen) (hk : k.size <= maxLen) (p : PA) (hp : (lookA T t k).getD (emptyP k) = p) :
    Calls Tryz.prog 32 #[.map (some m),.string t,.string k] w fun e w' => e = .returned (.agg #[.string p.k,.int .i64 p.g,.slice p.A p.L.length p.c]) /\ Below w.heap.size w w' := by
 have hb0 := (Below.refl w.heap.size w).alloc (Nat.le_refl _) (.cells #[.string ⟨#[]⟩,.int .i64 0,.slice none 0 0] 33)
 have H1 := hid (h.below hb0)
 have HT := hid ht; have HK := hid hk
 cases e : getK TA.nm T t with
 | none =>
   have hl : lookA T t k = none := by unfold lookA; rw [xsOf_none e]; rfl
   rw [hl] at hp
   subst hp
   have E := hid (show (getK TA.nm T t).map TA.g = none by rw [e]; rfl)
   clear h ht hk e hl
   go_enter Tryz.func32,Tryz.ntmps32
   go_wp2_with (first
    | (at_lookup; refine lk_out _ rfl _ _ rfl m _ T rfl H1.out.own t rfl HT.out none E.out ?_)
    | (at_lookup; refine lk_nil _ rfl _ _ rfl rfl k rfl HK.out ?_))
   have n9 := new_at (heap_alloc_new w (.cells #[.string k,.int .i64 0,.slice none 0 0] 33)) (.cells #[.string ⟨#[]⟩,.int .i64 0,.slice none 0 0] 33)
   have q0 := cell_at (i := 0) n9 rfl
   have q1 := cell_at (i := 1) n9 rfl
   have q2 := cell_at (i := 2) n9 rfl
   exact bodyPost_ret (v := .agg #[.string k,.int .i64 0,.slice none 0 0]) (by simp [results,Tryz.results32,go_sem,q0,q1,q2]) rfl ⟨rfl,((Below.refl w.heap.size w).alloc (Nat.le_refl _) _).alloc (by simp) _⟩
 | some x =>
   obtain ⟨hx,hnm⟩ := getK_some e
   have E := hid (show (getK TA.nm T t).map TA.g = some x.g by rw [e]; rfl)
   have hl : lookA T t k = getK PA.k x.X k := by unfold lookA; rw [xsOf_some e]
   rw [hl] at hp
   have I := hid (H1.out.inn x hx)
   obtain ⟨q,hq⟩ : ∃ q,(getK PA.k x.X k).getD zeroP = q := ⟨_,rfl⟩
   obtain ⟨b,hb⟩ : ∃ b,(getK PA.k x.X k).isSome = b := ⟨_,rfl⟩
   have hres : p = if b = true then q else emptyP k := by
    rw [<- hp,<- hq,<- hb]
    cases getK PA.k x.X k <;> rfl
   have HQ := hid hq; have HB := hid hb
   clear h ht hk e hl hq hb hp hx hnm
   cases b with
   | true =>
     rw [if_pos rfl] at hres
     subst hres
     go_enter Tryz.func32,Tryz.ntmps32
     go_wp2_with (first
      | (at_lookup; refine lk_out _ rfl _ _ rfl m _ T rfl H1.out.own t rfl HT.out (some x.g) E.out ?_)
      | (at_lookup; refine lk_inn _ rfl _ _ rfl x.g _ x.X rfl I.out k rfl HK.out p HQ.out true HB.out ?_))
     have n9 := new_at (heap_alloc_new w (.cells #[.string p.k,.int .i64 p.g,.slice p.A p.L.length p.c] 33)) (.cells #[.string p.k,.int .i64 p.g,.slice p.A p.L.length p.c] 33)
     have q0 := cell_at (i := 0) n9 rfl
     have q1 := cell_at (i := 1) n9 rfl
     have q2 := cell_at (i := 2) n9 rfl
     exact bodyPost_ret (v := .agg #[.string p.k,.int .i64 p.g,.slice p.A p.L.length p.c]) (by simp [results,Tryz.results32,go_sem,q0,q1,q2]) rfl ⟨rfl,((Below.refl w.heap.size w).alloc (Nat.le_refl _) _).alloc (by simp) _⟩
   | false =>
     rw [if_neg (by decide)] at hres
     subst hres
     go_enter Tryz.func32,Tryz.ntmps32
     go_wp2_with (first
      | (at_lookup; refine lk_out _ rfl _ _ rfl m _ T rfl H1.out.own t rfl HT.out (some x.g) E.out ?_)
      | (at_lookup; refine lk_inn _ rfl _ _ rfl x.g _ x.X rfl I.out k rfl HK.out q HQ.out false HB.out ?_))
     have n9 := new_at (heap_alloc_new w (.cells #[.string k,.int .i64 0,.slice none 0 0] 33)) (.cells #[.string q.k,.int .i64 q.g,.slice q.A q.L.length q.c] 33)
     have q0 := cell_at (i := 0) n9 rfl
     have q1 := cell_at (i := 1) n9 rfl
     have q2 := cell_at (i := 2) n9 rfl
     exact bodyPost_ret (v := .agg #[.string k,.int .i64 0,.slice none 0 0]) (by simp [results,Tryz.results32,go_sem,q0,q1,q2]) rfl ⟨rfl,((Below.refl w.heap.size w).alloc (Nat.le_refl _) _).alloc (by simp) _⟩
def TA.put (x y : TA) : TA := ⟨x.nm,x.g,match y.X with | p :: _ => overK PA.k x.X p | [] => x.X⟩
def putA (T : List TA) (t : ByteArray) (g : Nat) (p : PA) : List TA := putK TA.nm TA.put T ⟨t,g,[p]⟩
theorem tput_key (x y : TA) (h : x.nm = y.nm) : (TA.put x y).nm = x.nm := rfl
theorem xsOf_put {T : List TA} (h : TaOk T) (t : ByteArray) (g : Nat) (p : PA) (t' : ByteArray) : xsOf (putA T t g p) t' = if t = t' then overK PA.k (xsOf T t') p else xsOf T t' := by
 unfold xsOf putA
 rw [getK_put tput_key ⟨t,g,[p]⟩ h.rise t']
 by_cases e : t = t'
 ·rw [if_pos (show TA.nm ⟨t,g,[p]⟩ = t' from e),if_pos e]
  cases getK TA.nm T t' <;> rfl
 ·rw [if_neg (show ¬ TA.nm ⟨t,g,[p]⟩ = t' from e),if_neg e]
theorem TaOk.xsRise {T : List TA} (h : TaOk T) (t : ByteArray) : RiseK PA.k (xsOf T t) := by
 cases e : getK TA.nm T t with
 | none => rw [xsOf_none e]; trivial
 | some x => rw [xsOf_some e]; exact (h.ps x (getK_some e).1).1
theorem lookA_put {T : List TA} (h : TaOk T) (t : ByteArray) (g : Nat) (p : PA) (t' k : ByteArray) : lookA (putA T t g p) t' k = if t = t' /\ p.k = k then some p else lookA T t' k := by
 unfold lookA
 rw [xsOf_put h]
 by_cases e : t = t'
 ·rw [if_pos e,getK_over (h.xsRise t') p k]
  by_cases e2 : p.k = k
  ·rw [if_pos e2,if_pos ⟨e,e2⟩]
  ·rw [if_neg e2,if_neg (fun h => e2 h.2)]
 ·rw [if_neg e,if_neg (fun h => e h.1)]
theorem TaOk.put {T : List TA} (h : TaOk T) {t : ByteArray} (g : Nat) {p : PA} (ht : t.size <= 1000) (hp : p.k.size <= 1000) : TaOk (putA T t g p) := by
 refine ⟨putK_rise tput_key _ h.rise,?_,?_⟩
 ·refine putK_all (p := fun (x : TA) => RiseK PA.k x.X /\ x.X ≠ []) (fun x _ hx => ?_) ?_ h.ps
  ·exact ⟨over_rise p hx.1,putK_ne _ _⟩
  ·exact ⟨⟨fun y hy => (by cases hy),trivial⟩,fun h => (by cases h)⟩
 ·refine putK_all (p := fun (x : TA) => x.nm.size <= 1000 /\ ∀ p ∈ x.X,p.k.size <= 1000) (fun x e hx => ?_) ?_ h.sz
  ·exact ⟨hx.1,over_all (p := fun (q : PA) => q.k.size <= 1000) hp hx.2⟩
  ·exact ⟨ht,fun q hq => by rw [List.mem_singleton.1 hq]; exact hp⟩
theorem mem_getK {α : Type} {key : α -> ByteArray} {l : List α} (hr : RiseK key l) {x : α} : x ∈ l ↔ getK key l (key x) = some x := ⟨fun h => getK_mem hr h,fun h => (getK_some h).1⟩
section
variable {T : List TA} {t : ByteArray} {g : Nat} {p : PA} {x y : TA}
theorem getK_putA (hr : RiseK TA.nm T) (n : ByteArray) : getK TA.nm (putA T t g p) n = if t = n then joinO TA.put (getK TA.nm T n) (some ⟨t,g,[p]⟩) else getK TA.nm T n := getK_put tput_key ⟨t,g,[p]⟩ hr n
theorem putA_rise (hr : RiseK TA.nm T) : RiseK TA.nm (putA T t g p) := putK_rise tput_key _ hr
theorem mem_putA_there (hr : RiseK TA.nm T) (e : getK TA.nm T t = some x) : y ∈ putA T t g p ↔ (y ∈ T /\ y.nm ≠ t) \/ y = ⟨t,x.g,overK PA.k x.X p⟩ := by
 have hx := (getK_some e).2
 rw [mem_getK (putA_rise hr),getK_putA hr]
 by_cases h : t = y.nm
 ·rw [if_pos h,<- h,e]
  have ep : joinO TA.put (some x) (some ⟨t,g,[p]⟩) = some ⟨t,x.g,overK PA.k x.X p⟩ := by
   show some (TA.put x ⟨t,g,[p]⟩) = _
   unfold TA.put
   rw [hx]
  rw [ep]
  constructor
  ·intro h1; injection h1 with h1; exact Or.inr h1.symm
  ·rintro (h1 | h1)
   ·exact absurd rfl h1.2
   ·rw [h1]
 ·rw [if_neg h,<- mem_getK hr]
  constructor
  ·exact fun h1 => Or.inl ⟨h1,fun h2 => h h2.symm⟩
  ·rintro (h1 | h1)
   ·exact h1.1
   ·rw [h1] at h; exact absurd rfl h
theorem mem_putA_new (hr : RiseK TA.nm T) (e : getK TA.nm T t = none) : y ∈ putA T t g p ↔ y ∈ T \/ y = ⟨t,g,[p]⟩ := by
 rw [mem_getK (putA_rise hr),getK_putA hr]
 by_cases h : t = y.nm
 ·rw [if_pos h,<- h,e]
  constructor
  ·intro h1; injection h1 with h1; exact Or.inr h1.symm
  ·rintro (h1 | h1)
   ·have h2 := getK_mem hr h1
    rw [<- h,e] at h2
    cases h2
   ·rw [h1]; rfl
 ·rw [if_neg h,<- mem_getK hr]
  constructor
  ·exact fun h1 => Or.inl h1
  ·rintro (h1 | h1)
   ·exact h1
   ·rw [h1] at h; exact absurd rfl h
theorem mapK_same {α H : Type} {key : α -> ByteArray} {enc : α -> H} {l k : List α} (hl : RiseK key l) (hk : RiseK key k) (h : ∀ n,(getK key l n).map (fun x => (key x,enc x)) = (getK key k n).map fun x => (key x,enc x)) : mapK key enc l = mapK key enc k := by
 have e : l.map (fun x => (key x,enc x)) = k.map fun x => (key x,enc x) :=
  listK_ext (key := Prod.fst) ((riseK_map (kb := Prod.fst) (fun _ => rfl)).2 hl) ((riseK_map (kb := Prod.fst) (fun _ => rfl)).2 hk) fun n => by rw [getK_map (key := key) (kb := Prod.fst) (f := fun x => (key x,enc x)) (fun _ => rfl),getK_map (key := key) (kb := Prod.fst) (f := fun x => (key x,enc x)) (fun _ => rfl)]; exact h n
 have e2 : ∀ l : List α,l.map (entK key enc) = (l.map fun x => (key x,enc x)).map fun y => ((Lit.string y.1.data.toList,DataW.held y.2) : Lit × DataW H) := fun l => by rw [List.map_map]; rfl
 unfold mapK
 rw [e2,e2,e]
theorem putA_out_there (hr : RiseK TA.nm T) (e : getK TA.nm T t = some x) : mapK TA.nm TA.g (putA T t g p) = mapK TA.nm TA.g T := mapK_same (putA_rise hr) hr fun n => by
 rw [getK_putA hr]
 by_cases h : t = n
 ·rw [if_pos h,<- h,e]
  rfl
 ·rw [if_neg h]
theorem putA_out_new (hr : RiseK TA.nm T) (e : getK TA.nm T t = none) : mapK TA.nm TA.g (putA T t g p) = mapK TA.nm TA.g (overK TA.nm T ⟨t,g,[p]⟩) := mapK_same (putA_rise hr) (over_rise _ hr) fun n => by
 rw [getK_putA hr,getK_over hr]
 by_cases h : t = n
 ·rw [if_pos h,if_pos (show TA.nm ⟨t,g,[p]⟩ = n from h),<- h,e]
  rfl
 ·rw [if_neg h,if_neg (show ¬ TA.nm ⟨t,g,[p]⟩ = n from h)]
end
theorem map_tightK {H α : Type} {key : α -> ByteArray} {enc : α -> H} {w : World} {P : Program} {k : TypeId} {R : Value -> Option (DataW H × List MemPlace)} {b n : Nat} {l : List α} (h : w.ownsMap P k R b n (mapK key enc l)) : w.ownsMap P k R b l.length (mapK key enc l) := by
 obtain ⟨es,clock,hb,F,hs,hD⟩ := h
 refine ⟨es,clock,hb,F,?_,hD⟩
 rw [<- size_mapK (key := key) (enc := enc) l,hD]
 simp [Maps.size,length_sorted]
theorem TbAt.not_row {w : World} {m : Nat} {T : List TA} (h : TbAt w m T) {b : Nat} {es : Array MapEntry} {c : Nat} (hb : w.heap[b]? = some (.map es c)) {k : Nat} (hk : allRows T k) : k ≠ b := by
 rintro rfl
 obtain ⟨cs,t,fr,h1⟩ := h.isCells hk
 rw [hb] at h1
 cases h1
theorem Lies.not_map {w : World} {B n c : Nat} {A : Option Addr} {L : List RA} (h : Lies w B A n c L) {b : Nat} {es : Array MapEntry} {cl : Nat} (hb : w.heap[b]? = some (.map es cl)) {k : Nat} (hk : rowsF A L k) : k ≠ b := by
 rintro rfl
 obtain ⟨_,cs,t,fr,h1⟩ := h.cells hk
 rw [hb] at h1
 cases h1
theorem TbAt.set_there {w w' : World} {m : Nat} {T : List TA} {t : ByteArray} {x : TA} {p : PA} (g : Nat) {n : Nat} (h : TbAt w m T) (e : getK TA.nm T t = some x) (ht : t.size <= 1000) (hp : p.k.size <= 1000) (hl : Lies w w.heap.size p.A p.L.length p.c p.L)
    (hg : w.grownBy w' (some x.g)) (ho : w'.ownsMap Tryz.prog 9 elemP x.g n (mapK PA.k PA.hd (overK PA.k x.X p))) : TbAt w' m (putA T t g p) := by
 obtain ⟨hx,hnm⟩ := getK_some e
 have hr := h.ok.rise
 obtain ⟨es,cl,hbx⟩ := h.isMap (Or.inr ⟨x,hx,rfl⟩)
 have hrow : ∀ {B n c : Nat} {A : Option Addr} {L : List RA},B = w.heap.size -> Lies w B A n c L -> Lies w' w'.heap.size A n c L := fun hB hq => by
  subst hB
  exact (hq.agree fun k hk => hg.block k (hq.cells hk).1 (fun e2 => hq.not_map hbx hk (by injection e2))).up hg.size
 refine ⟨h.ok.put g ht hp,?_,?_,?_,?_,?_⟩
 ·rw [putA_out_there hr e]
  have h1 : w'.ownsMap Tryz.prog 9 elemM m T.length (mapK TA.nm TA.g T) := h.own.kept hg (fun e2 => h.off x hx (by injection e2 with e2; exact e2.symm))
  rw [<- putA_out_there (g := g) (p := p) hr e] at h1 ⊢
  exact map_tightK h1
 ·intro y hy
  rcases (mem_putA_there hr e).1 hy with ⟨h1,h2⟩ | rfl
  ·exact (h.inn y h1).kept hg (fun e2 => h2 (by injection e2 with e2; rw [h.apart y h1 x hx e2,hnm]))
  ·exact map_tightK ho
 ·intro y hy q hq
  rcases (mem_putA_there hr e).1 hy with ⟨h1,h2⟩ | rfl
  ·exact hrow rfl (h.lies y h1 q hq)
  ·have : ∀ q ∈ overK PA.k x.X p,Lies w' w'.heap.size q.A q.L.length q.c q.L := over_all (p := fun (q : PA) => Lies w' w'.heap.size q.A q.L.length q.c q.L) (hrow rfl hl) fun q hq => hrow rfl (h.lies x hx q hq)
   exact this q hq
 ·intro y hy z hz e2
  rcases (mem_putA_there hr e).1 hy with ⟨h1,h2⟩ | rfl <;> rcases (mem_putA_there hr e).1 hz with ⟨h3,h4⟩ | rfl
  ·exact h.apart y h1 z h3 e2
  ·exact absurd ((h.apart y h1 x hx e2).trans hnm) h2
  ·exact absurd ((h.apart z h3 x hx e2.symm).trans hnm) h4
  ·rfl
 ·intro y hy
  rcases (mem_putA_there hr e).1 hy with ⟨h1,h2⟩ | rfl
  ·exact h.off y h1
  ·exact h.off x hx
theorem TbAt.set_new {w w1 w2 w' : World} {m : Nat} {T : List TA} {t : ByteArray} {p : PA} {g n n' : Nat} (h : TbAt w m T) (e : getK TA.nm T t = none) (ht : t.size <= 1000) (hp : p.k.size <= 1000) (hl : Lies w w.heap.size p.A p.L.length p.c p.L)
    (hb : Below w.heap.size w w1) (hgs : w.heap.size <= g) (hmg : w1.heap[g]? = some (.map #[] 0)) (hg : w1.grownBy w2 (some m)) (ho : w2.ownsMap Tryz.prog 9 elemM m n (mapK TA.nm TA.g (overK TA.nm T ⟨t,g,[p]⟩)))
    (hg' : w2.grownBy w' (some g)) (ho' : w'.ownsMap Tryz.prog 9 elemP g n' (mapK PA.k PA.hd [p])) : TbAt w' m (putA T t g p) := by
 have hr := h.ok.rise
 obtain ⟨es,cl,hbm⟩ := h.isMap (Or.inl rfl)
 have hml := h.lt (Or.inl rfl)
 have hg1 : g < w1.heap.size := (Array.getElem?_eq_some_iff.1 hmg).1
 have hne : m ≠ g := fun e2 => by omega
 have hkept : ∀ k,k < w.heap.size -> k ≠ m -> w'.heap[k]? = w.heap[k]? := fun k hk hkm => by
  rw [hg'.block k (by have := hb.size; have := hg.size; omega) (fun e2 => by injection e2 with e2; omega),hg.block k (by have := hb.size; omega) (fun e2 => by injection e2 with e2; omega),hb.block k hk]
 have hsz : w.heap.size <= w'.heap.size := by have := hb.size; have := hg.size; have := hg'.size; omega
 have hrow : ∀ {B n c : Nat} {A : Option Addr} {L : List RA},B = w.heap.size -> Lies w B A n c L -> Lies w' w'.heap.size A n c L := fun hB hq => by
  subst hB
  exact (hq.agree fun k hk => hkept k (hq.cells hk).1 (hq.not_map hbm hk)).up hsz
 refine ⟨h.ok.put g ht hp,?_,?_,?_,?_,?_⟩
 ·have h1 := ho.kept hg' (fun e2 => hne (by injection e2))
  rw [<- putA_out_new (p := p) hr e] at h1
  exact map_tightK h1
 ·intro y hy
  rcases (mem_putA_new hr e).1 hy with h1 | rfl
  ·exact map_kept (h.inn y h1) (hkept y.g (h.lt (Or.inr ⟨y,h1,rfl⟩)) (h.off y h1))
  ·exact map_tightK ho'
 ·intro y hy q hq
  rcases (mem_putA_new hr e).1 hy with h1 | rfl
  ·exact hrow rfl (h.lies y h1 q hq)
  ·rw [List.mem_singleton.1 hq]
   exact hrow rfl hl
 ·intro y hy z hz e2
  rcases (mem_putA_new hr e).1 hy with h1 | rfl <;> rcases (mem_putA_new hr e).1 hz with h3 | rfl
  ·exact h.apart y h1 z h3 e2
  ·have := h.lt (Or.inr ⟨y,h1,rfl⟩)
   exact absurd e2 (by show ¬ y.g = g; omega)
  ·have := h.lt (Or.inr ⟨z,h3,rfl⟩)
   exact absurd e2 (by show ¬ g = z.g; omega)
  ·rfl
 ·intro y hy
  rcases (mem_putA_new hr e).1 hy with h1 | rfl
  ·exact h.off y h1
  ·exact hne.symm
theorem mapsF_put {m : Nat} {T : List TA} {t : ByteArray} {g : Nat} {p : PA} (hr : RiseK TA.nm T) {k : Nat} (hk : mapsF m (putA T t g p) k) : mapsF m T k \/ (getK TA.nm T t = none /\ k = g) := by
 rcases hk with rfl | ⟨y,hy,rfl⟩
 ·exact Or.inl (Or.inl rfl)
 ·cases e : getK TA.nm T t with
  | none =>
    rcases (mem_putA_new hr e).1 hy with h1 | rfl
    ·exact Or.inl (Or.inr ⟨y,h1,rfl⟩)
    ·exact Or.inr ⟨rfl,rfl⟩
  | some x =>
    rcases (mem_putA_there hr e).1 hy with ⟨h1,h2⟩ | rfl
    ·exact Or.inl (Or.inr ⟨y,h1,rfl⟩)
    ·exact Or.inl (Or.inr ⟨x,(getK_some e).1,rfl⟩)
theorem allRows_look {T : List TA} (h : TaOk T) {k : Nat} : allRows T k ↔ ∃ t key p,lookA T t key = some p /\ rowsF p.A p.L k := by
 constructor
 ·rintro ⟨x,hx,p,hp,hk⟩
  exact ⟨x.nm,p.k,p,h.look hx hp,hk⟩
 ·rintro ⟨t,key,p,hp,hk⟩
  obtain ⟨x,hx,_,h1,_⟩ := lookA_mem hp
  exact ⟨x,hx,p,h1,hk⟩
end Go.Proofs.YtmpcnhpdobdmcaaGreatDoor
namespace Go.Proofs.YtmpcnhpdobdmcaaGreatDoor
open Go Go.RowKit
structure PIn (w : World) (p : PA) : Prop where
 lies : Lies w w.heap.size p.A p.L.length p.c p.L
 sz : p.k.size <= 1000
theorem PIn.below {w w' : World} {p : PA} (h : PIn w p) (hb : Below w.heap.size w w') : PIn w' p := ⟨(h.lies.below hb).up hb.size,h.sz⟩
structure PutT (w w' : World) (m : Nat) (T T' : List TA) (t : ByteArray) (p : PA) : Prop where
 at_ : TbAt w' m T'
 look : ∀ t' k,lookA T' t' k = if t = t' /\ p.k = k then some p else lookA T t' k
 step : Step (mapsF m T) w (mapsF m T') w'
 len : T'.length <= T.length + 1 /\ ∀ t',(xsOf T' t').length <= (xsOf T t').length + 1
theorem keySet (s : ByteArray) (h : s.size <= 1000) : keyOf Tryz.prog 9 (.string s) = some (.string s.data.toList) := keyOfS (by unfold maxLen; omega)
theorem putA_len {T : List TA} (h : TaOk T) {t : ByteArray} {g : Nat} {p : PA} : (putA T t g p).length <= T.length + 1 /\ ∀ t',(xsOf (putA T t g p) t').length <= (xsOf T t').length + 1 := by
 refine ⟨putK_length _ _,fun t' => ?_⟩
 rw [xsOf_put h]
 split
 ·exact putK_length _ _
 ·omega
theorem set_t (m : Nat) (T : List TA) (t : ByteArray) (p : PA) (w : World) (h : TbAt w m T) (ht : t.size <= 1000) (hp : PIn w p) (hn : T.length <= 1000000 /\ (xsOf T t).length <= 1000000) :
    Calls Tryz.prog 123 #[.map (some m),.string t,.agg #[.string p.k,.int .i64 p.g,.slice p.A p.L.length p.c]] w fun e w' => e = .returned (.tuple #[]) /\ ∃ T',PutT w w' m T T' t p := by
 have hmk := @run_makeMap Tryz.prog
 have heq : ∀ (w : World) (r : Option Nat),(binOp .eql 111 (.map r) (.map none)).run Tryz.prog w = .ok (.bool r.isNone) w := fun w r => run_eql_map_nil w _ _ _ r Tryz.underlying111
 have hb0 := (Below.refl w.heap.size w).alloc (Nat.le_refl _) (.cells #[.string p.k,.int .i64 p.g,.slice p.A p.L.length p.c] 33)
 have h1 := h.below hb0
 have p1 := hp.below hb0
 have n0 := heap_alloc_new w (.cells #[.string p.k,.int .i64 p.g,.slice p.A p.L.length p.c] 33)
 obtain ⟨W,hW⟩ : ∃ W,w.alloc (.cells #[.string p.k,.int .i64 p.g,.slice p.A p.L.length p.c] 33) = W := ⟨_,rfl⟩
 rw [hW] at hb0 h1 p1 n0
 have H1 := hid h1
 have P1 := hid p1
 have B0 := hid hb0
 have HT := hid ht
 have HTM := hid (show t.size <= maxLen by unfold maxLen; omega)
 have hpsz := hp.sz
 clear hb0 h1 p1
 cases e : getK TA.nm T t with
 | some x =>
   obtain ⟨hx,hnm⟩ := getK_some e
   have E := hid (show (getK TA.nm T t).map TA.g = some x.g by rw [e]; rfl)
   have I := hid (H1.out.inn x hx)
   have EX := hid e
   have KP := hid (keySet p.k hp.sz)
   have XR := hid (h.ok.ps x hx).1
   have c0 := cell_at (i := 0) n0 rfl
   have c1 := cell_at (i := 1) n0 rfl
   have c2 := cell_at (i := 2) n0 rfl
   have HN := hid (show x.X.length < maxLen by rw [xsOf_some e] at hn; unfold maxLen; omega)
   clear h ht hp e hx hnm hpsz hn
   go_enter Tryz.func123,Tryz.ntmps123
   go_wp2_with (first
    | (at_lookup; refine lk_out _ rfl _ _ rfl m _ T rfl H1.out.own t rfl HTM.out (some x.g) E.out ?_)
    | (at_mapUpdate; refine wpList_mapUpdate_own _ rfl _ _ _ 111 rfl 9 33 keyS Tryz.underlying111 elemP x.g _ _ rfl I.out HN.out _ _ _ rfl rfl KP.out (.held p.hd) [] rfl ?_; intro w2 ho2 hg2))
   rw [put_mapK XR.out p] at ho2
   have hat := H1.out.set_there 0 EX.out HT.out P1.out.sz P1.out.lies hg2 ho2
   have hk : Kept (mapsF m T) w w2 := (Kept.of_below B0.out _).trans (Kept.of_grown (F := mapsF m T) hg2 fun k hk => by injection hk with hk; exact Or.inr ⟨x,(getK_some EX.out).1,hk.symm⟩) fun k hk => Or.inl hk
   go_end0
   refine ⟨rfl,putA T t 0 p,hat,fun t' k => lookA_put H1.out.ok t 0 p t' k,⟨hk,fun k hk2 => ?_⟩,putA_len H1.out.ok⟩
   rcases mapsF_put H1.out.ok.rise hk2 with h3 | ⟨h3,_⟩
   ·exact Or.inl h3
   ·rw [EX.out] at h3; cases h3
 | none =>
   have E := hid (show (getK TA.nm T t).map TA.g = none by rw [e]; rfl)
   have EX := hid e
   have KP := hid (keySet p.k hp.sz)
   have KT := hid (keySet t ht)
   have hws : W.heap.size = w.heap.size + 1 := by rw [<- hW]; simp
   have hmk1 := (H1.out.own).alloc (.map #[] 0)
   have M1 := hid hmk1
   have HN := hid (show T.length < maxLen by have := hn.1; unfold maxLen; omega)
   have N0 := hid n0
   have hml := hid (h.lt (Or.inl rfl))
   have HWS := hid hws
   clear h ht hp e hpsz hn n0 hmk1
   go_enter Tryz.func123,Tryz.ntmps123
   go_wp2_with (first
    | (at_lookup; refine lk_out _ rfl _ _ rfl m _ T rfl H1.out.own t rfl HTM.out none E.out ?_)
    | (at_mapUpdate; refine wpList_mapUpdate_own _ rfl _ _ _ 66 rfl 9 111 keyS Tryz.underlying66 elemM m _ _ rfl M1.out HN.out _ _ _ rfl rfl KT.out (.held (w.heap.size + 1)) [] rfl ?_; intro w2 ho2 hg2
       have ho3 : w2.ownsMap Tryz.prog 9 elemM m (T.length + 1) (mapK TA.nm TA.g (overK TA.nm T ⟨t,w.heap.size + 1,[p]⟩)) := (put_mapK (key := TA.nm) (enc := TA.g) H1.out.ok.rise ⟨t,w.heap.size + 1,[p]⟩) ▸ ho2
       have O3 := hid ho3
       have G2 := hid hg2
       have hm1 : (W.alloc (.map #[] 0)).heap[w.heap.size + 1]? = some (.map #[] 0) := by rw [<- HWS.out]; exact heap_alloc_new W _
       have hin : w2.ownsMap Tryz.prog 9 elemP (w.heap.size + 1) 0 (mapK PA.k PA.hd []) := by
        have h9 : (W.alloc (.map #[] 0)).ownsMap Tryz.prog 9 elemP W.heap.size 0 (.map []) := World.ownsMap_made W _ _ _
        rw [HWS.out] at h9
        exact h9.kept hg2 (fun e2 => by injection e2 with e2; have := hml.out; omega)
       have HI := hid hin
       have HM1 := hid hm1
       have n2 : w2.heap[w.heap.size]? = some (.cells #[.string p.k,.int .i64 p.g,.slice p.A p.L.length p.c] 33 (0,0)) := by
        rw [hg2.block w.heap.size (by simp; have := HWS.out; omega) (fun e2 => by injection e2 with e2; have := hml.out; omega)]
        exact new_at N0.out _
       have c0 := cell_at (i := 0) n2 rfl
       have c1 := cell_at (i := 1) n2 rfl
       have c2 := cell_at (i := 2) n2 rfl
       have E3 : (getK TA.nm (overK TA.nm T ⟨t,w.heap.size + 1,[p]⟩) t).map TA.g = some (w.heap.size + 1) := by rw [getK_over H1.out.ok.rise,if_pos rfl]; rfl
       have HE3 := hid E3
       clear ho2 ho3 hg2 hm1 hin n2 E3)
    | (at_lookup; refine lk_out _ rfl _ _ rfl m _ _ rfl O3.out t rfl HTM.out (some (w.heap.size + 1)) HE3.out ?_)
    | (at_mapUpdate; refine wpList_mapUpdate_own _ rfl _ _ _ 111 rfl 9 33 keyS Tryz.underlying111 elemP (w.heap.size + 1) _ _ rfl HI.out (by decide) _ _ _ rfl rfl KP.out (.held p.hd) [] rfl ?_; intro w3 ho4 hg4))
   have ho5 : w3.ownsMap Tryz.prog 9 elemP (w.heap.size + 1) (0 + 1) (mapK PA.k PA.hd [p]) := ho4
   have b1 : Below W.heap.size W (W.alloc (.map #[] 0)) := (Below.refl _ W).alloc (Nat.le_refl _) _
   have hat := H1.out.set_new EX.out HT.out P1.out.sz P1.out.lies b1 (by have := HWS.out; omega) HM1.out G2.out O3.out hg4 ho5
   have hws2 : W.heap.size <= w3.heap.size /\ w.heap.size + 1 < w3.heap.size := by
    have h1 := G2.out.size
    have h2 := hg4.size
    rw [World.size_alloc] at h1
    have := HWS.out
    omega
   have hk : Kept (mapsF m T) w w3 := (((Kept.of_below B0.out (mapsF m T)).trans (Kept.alloc (mapsF m T) W (.map #[] 0)) fun k hk => Or.inl hk).trans (Kept.of_grown (F := mapsF m T) G2.out fun k hk => by injection hk with hk; exact Or.inl hk.symm) fun k hk => Or.inl hk).trans (Kept.of_grown (F := fun k => k = w.heap.size + 1) hg4 fun k hk => by injection hk with hk; exact hk.symm) fun k hk => Or.inr (by omega)
   go_end0
   refine ⟨rfl,putA T t (w.heap.size + 1) p,hat,fun t' k => lookA_put H1.out.ok t _ p t' k,⟨hk,fun k hk2 => ?_⟩,putA_len H1.out.ok⟩
   rcases mapsF_put H1.out.ok.rise hk2 with h3 | ⟨_,h3⟩
   ·exact Or.inl h3
   ·exact Or.inr (by omega)
theorem Went.rowL {l : Bs} {i j1 j2 j3 j4 j : Nat} {e f1 f2 f3 f4 f : Int} {k : ByteArray} {c : Ce} {g h : Int} {K : Cols} (H1 : Went txtP l i e k j1 f1) (H2 : Went cellP l j1 f1 c j2 f2) (H3 : Went numP l j2 f2 g j3 f3) (H4 : Went numP l j3 f3 h j4 f4)
    (H6 : Went (listP colP) l j4 f4 K j f) : Went rowP l i e (⟨k,c,g,h,K⟩ : Ro) j f := by
 have W1 : Went (bindP numP fun h => bindP (listP colP) fun l => retP (h,l)) l j3 f3 (h,K) j f := H4.bind (H6.bind (Went.ret (h,K) H6.len f))
 have W2 : Went (bindP numP fun g => bindP (bindP numP fun h => bindP (listP colP) fun l => retP (h,l)) fun y => retP (g,y)) l j2 f2 (g,(h,K)) j f := H3.bind (W1.bind (Went.ret (g,(h,K)) H6.len f))
 have W3 : Went (bindP cellP fun c => bindP (bindP numP fun g => bindP (bindP numP fun h => bindP (listP colP) fun l => retP (h,l)) fun y => retP (g,y)) fun y => retP (c,y)) l j1 f1 (c,(g,(h,K))) j f := H2.bind (W2.bind (Went.ret (c,(g,(h,K))) H6.len f))
 have W4 : Went rowT l i e (k,(c,(g,(h,K)))) j f := H1.bind (W3.bind (Went.ret (k,(c,(g,(h,K)))) H6.len f))
 exact W4.map (q := fun z => (⟨z.1,z.2.1,z.2.2.1,z.2.2.2.1,z.2.2.2.2⟩ : Ro))
theorem Went.partL {l : Bs} {i j1 j2 j : Nat} {e f1 f2 f : Int} {k : ByteArray} {g : Int} {R : List Ro} (H1 : Went txtP l i e k j1 f1) (H2 : Went numP l j1 f1 g j2 f2) (H6 : Went (listP rowP) l j2 f2 R j f) : Went partP l i e (⟨k,g,R⟩ : Pa) j f := by
 have W1 : Went (bindP numP fun g => bindP (listP rowP) fun l => retP (g,l)) l j1 f1 (g,R) j f := H2.bind (H6.bind (Went.ret (g,R) H6.len f))
 have W2 : Went partT l i e (k,(g,R)) j f := H1.bind (W1.bind (Went.ret (k,(g,R)) H6.len f))
 exact W2.map (q := fun z => (⟨z.1,z.2.1,z.2.2⟩ : Pa))
theorem kept_set8Q {w : World} (q : Nat) (u0 u1 u2 u3 u4 u5 u6 u7 : Value) : Kept (fun k => k = q) w ((((((((w.setCell ⟨q,0,none⟩ u0).setCell ⟨q,1,none⟩ u1).setCell ⟨q,2,none⟩ u2).setCell ⟨q,3,none⟩ u3).setCell ⟨q,4,none⟩ u4).setCell ⟨q,5,none⟩ u5).setCell ⟨q,6,none⟩ u6).setCell ⟨q,7,none⟩ u7) :=
 (((kept_set5 q u0 u1 u2 u3 u4).trans (Kept.setCell (fun k => k = q) _ ⟨q,5,none⟩ u5 rfl) fun _ h => Or.inl h).trans (Kept.setCell (fun k => k = q) _ ⟨q,6,none⟩ u6 rfl) fun _ h => Or.inl h).trans (Kept.setCell (fun k => k = q) _ ⟨q,7,none⟩ u7 rfl) fun _ h => Or.inl h
theorem set8Q_block {w : World} {q : Nat} {v0 v1 v2 v3 v4 v5 v6 v7 : Value} {T : TypeId} (h : w.heap[q]? = some (.cells #[v0,v1,v2,v3,v4,v5,v6,v7] T (0,0))) (u0 u1 u2 u3 u4 u5 u6 u7 : Value) :
    ((((((((w.setCell ⟨q,0,none⟩ u0).setCell ⟨q,1,none⟩ u1).setCell ⟨q,2,none⟩ u2).setCell ⟨q,3,none⟩ u3).setCell ⟨q,4,none⟩ u4).setCell ⟨q,5,none⟩ u5).setCell ⟨q,6,none⟩ u6).setCell ⟨q,7,none⟩ u7).heap[q]? = some (.cells #[u0,u1,u2,u3,u4,u5,u6,u7] T (0,0)) := by
 have m := Joins.block_setCell (i := 0) h u0
 simp only [zq4,zq5,zq6] at m
 have m1 := Joins.block_setCell (i := 1) m u1
 simp only [zq4,zq5,zq6] at m1
 have m2 := Joins.block_setCell (i := 2) m1 u2
 simp only [zq4,zq5,zq6] at m2
 have m3 := Joins.block_setCell (i := 3) m2 u3
 simp only [zq4,zq5,zq6] at m3
 have m4 := Joins.block_setCell (i := 4) m3 u4
 simp only [zq4,zq5,zq6] at m4
 have m5 := Joins.block_setCell (i := 5) m4 u5
 simp only [zq4,zq5,zq6] at m5
 have m6 := Joins.block_setCell (i := 6) m5 u6
 simp only [zq4,zq5,zq6] at m6
 have m7 := Joins.block_setCell (i := 7) m6 u7
 simp only [zq4,zq5,zq6] at m7
 exact m7
theorem OwnC.grownQ {w0 w w' : World} {x : RA} {b n size : Nat} {T : TypeId} {v : Value} {xs : List Value} (h : OwnC w0 w x) (ho : w.ownsRow b T size v n xs) (hT : 282 ≠ T) (hg : w.grownBy w' v.ownBlock) : OwnC w0 w' x :=
 own_kept h fun g hg2 => hg.block g (own_block_lt h g hg2) fun hp => by
  obtain ⟨cs,h1⟩ := own_tag h g hg2
  obtain ⟨cs',h2⟩ := own_tag ho g hp.symm
  rw [h1] at h2
  injection h2 with h2
  injection h2 with _ h3 _
  exact hT h3
structure RowsQ (w0 w : World) (A : Option Addr) (m c : Nat) (M : List RA) : Prop where
 own : w.ownsRow w0.heap.size 45 8 (.slice A m c) m (rRow M)
 cols : ∀ x ∈ M,OwnC w0 w x
theorem RowsQ.nil (w0 w : World) : RowsQ w0 w none 0 0 [] := ⟨own_nilR _ _,fun x hx => by cases hx⟩
theorem RowsQ.on {w0 w w' : World} {A : Option Addr} {m c : Nat} {M : List RA} (h : RowsQ w0 w A m c M) (hb : Below w.heap.size w w') : RowsQ w0 w' A m c M := ⟨own_below h.own hb,fun x hx => (h.cols x hx).on hb⟩
theorem RowsQ.kept1 {w0 w w' : World} {A : Option Addr} {m c r : Nat} {M : List RA} {cs : Array Value} {e : TypeId} (h : RowsQ w0 w A m c M) (hk : Kept (fun k => k = r) w w') (hr : w.heap[r]? = some (.cells cs e (0,0))) (he : 282 ≠ e) (he' : 45 ≠ e) : RowsQ w0 w' A m c M :=
 ⟨own_keptQ h.own hk hr he',fun x hx => own_keptQ (h.cols x hx) hk hr he⟩
theorem RowsQ.snoc {w0 w w' : World} {A A' : Option Addr} {m c c' : Nat} {M : List RA} {y : RA} (h : RowsQ w0 w A m c M) (hy : OwnC w0 w y) (ho : w'.ownsRow w0.heap.size 45 8 (.slice A' (m + 1) c') (m + 1) (rRow (M ++ [y]))) (hg : w.grownBy w' (Value.slice A m c).ownBlock) : RowsQ w0 w' A' (m + 1) c' (M ++ [y]) :=
 ⟨ho,fun x hx => by
   rcases List.mem_append.1 hx with h1 | h1
   ·exact (h.cols x h1).grownQ h.own (by decide) hg
   ·rw [List.mem_singleton.1 h1]; exact hy.grownQ h.own (by decide) hg⟩
theorem RowsQ.lower {w0 w1 w : World} {A : Option Addr} {m c : Nat} {M : List RA} (h : RowsQ w1 w A m c M) (hb : w0.heap.size <= w1.heap.size) : RowsQ w0 w A m c M := ⟨own_down h.own hb,fun x hx => own_down (h.cols x hx) hb⟩
theorem RowsQ.lies {w0 w : World} {A : Option Addr} {m c : Nat} {M : List RA} (h : RowsQ w0 w A m c M) : Lies w w.heap.size A m c M := by
 obtain ⟨_,_,e,h1,_⟩ := own_slice h.own
 injection e with _ _ e3
 subst e3
 exact ⟨RdR.of_own h.own,fun x hx => ⟨RdK.of_own (h.cols x hx),by
  obtain ⟨_,_,e,h2,_⟩ := own_slice (h.cols x hx)
  injection e with _ _ e3
  subst e3
  exact h2⟩,h1⟩
theorem yrow (q i n c : Nat) (e : Int) (A : Option Addr) (l : Bs) (w : World) (h : RY w q A n c l i e) (hi : i <= n) (hs : n <= 900000) :
    Calls Tryz.prog 240 #[.pointer (some ⟨q,0,none⟩)] w fun x w' => ∃ (z : RA) (j : Nat) (f : Int),x = .returned (.agg #[.string z.ro.key,.string z.ro.live.s,.bool z.ro.live.d,.int .i64 z.ro.live.a,.int .i64 z.ro.live.e,.int .i64 z.ro.gone,.int .i64 z.ro.shade,.slice z.A z.ro.cols.length z.c]) /\ OwnC w w' z /\ z.ro.cols.length <= n /\ j <= n /\ RY w' q A n c l j f /\ KeptQ q w w' /\ Went rowP l i e z.ro j f := by
 have hqw := h.lt
 have bz := (Below.refl w.heap.size w).alloc (Nat.le_refl _) (.cells #[.string ⟨#[]⟩,.string ⟨#[]⟩,.bool false,.int .i64 0,.int .i64 0,.int .i64 0,.int .i64 0,.slice none 0 0] 45)
 have hz := heap_alloc_new w (.cells #[.string ⟨#[]⟩,.string ⟨#[]⟩,.bool false,.int .i64 0,.int .i64 0,.int .i64 0,.int .i64 0,.slice none 0 0] 45)
 have h0 := h.below bz
 obtain ⟨V,hV⟩ : ∃ V,V = w.alloc (.cells #[.string ⟨#[]⟩,.string ⟨#[]⟩,.bool false,.int .i64 0,.int .i64 0,.int .i64 0,.int .i64 0,.slice none 0 0] 45) := ⟨_,rfl⟩
 rw [<- hV] at bz hz h0
 have H0 := hid h0; have HZ0 := hid hz; have BZ := hid bz; have HQ := hid hqw; have HS := hid hs
 clear h bz hz h0 hqw hs
 go_enter Tryz.func240,Tryz.ntmps240
 go_wp2_with fail
 rw [<- hV]
 clear hV
 refine (ytext q i n c e A l _ H0.out hi (by have := HS.out; omega)).mono ?_
 rintro x w1 ⟨v,j1,f1,rfl,hv,hj1,h1,k1,hw1⟩
 have H1 := hid h1; have HZ1 := hid (Kept.atQ k1 HZ0.out (by have := HQ.out; omega)); have K1 := hid (KeptQ.on (Kept.of_below BZ.out _) k1); have HW1 := hid hw1; have HJ1 := hid hj1
 clear h1 k1 hw1 hv hj1 hi
 go_wp2_with fail
 refine (ycell q j1 n c f1 A l _ H1.out HJ1.out (by have := HS.out; omega)).mono ?_
 rintro x w2 ⟨⟨cs,cd,ca,ce⟩,j2,f2,rfl,hcs,hj2,h2,k2,hw2⟩
 have H2 := hid h2; have HZ2 := hid (Kept.atQ k2 HZ1.out (by have := HQ.out; omega)); have K2 := hid (K1.out.on k2); have HW2 := hid hw2; have HJ2 := hid hj2
 clear h2 k2 hw2 hcs hj2
 go_wp2_with fail
 refine (ystamp q j2 n c f2 A l _ H2.out HJ2.out (by have := HS.out; omega)).mono ?_
 rintro x w3 ⟨g,j3,f3,rfl,_,_,hj3,h3,k3,hw3⟩
 have H3 := hid h3; have HZ3 := hid (Kept.atQ k3 HZ2.out (by have := HQ.out; omega)); have K3 := hid (K2.out.on k3); have HW3 := hid hw3; have HJ3 := hid hj3
 clear h3 k3 hw3 hj3
 go_wp2_with fail
 refine (ystamp q j3 n c f3 A l _ H3.out HJ3.out (by have := HS.out; omega)).mono ?_
 rintro x w4 ⟨sh,j4,f4,rfl,_,_,hj4,h4,k4,hw4⟩
 have H4 := hid h4; have HZ4 := hid (Kept.atQ k4 HZ3.out (by have := HQ.out; omega)); have K4 := hid (K3.out.on k4); have HW4 := hid hw4; have HJ4 := hid hj4
 clear h4 k4 hw4 hj4
 go_wp2_with fail
 refine (ycols q j4 n c f4 A l _ H4.out HJ4.out HS.out).mono ?_
 rintro x w5 ⟨Ks,A5,m5,c5,j5,f5,rfl,ho5,hlen,hm5,hj5,h5,k5,hw5⟩
 have HZ5 := hid (Kept.atQ k5 HZ4.out (by have := HQ.out; omega))
 have z0 := cell_at (i := 0) HZ5.out rfl
 have z1 := cell_at (i := 1) HZ5.out rfl
 have z2 := cell_at (i := 2) HZ5.out rfl
 have z3 := cell_at (i := 3) HZ5.out rfl
 have z4 := cell_at (i := 4) HZ5.out rfl
 have z5 := cell_at (i := 5) HZ5.out rfl
 have z6 := cell_at (i := 6) HZ5.out rfl
 have z7 := cell_at (i := 7) HZ5.out rfl
 have y0 := thawed_at (i := 0) HZ5.out
 have y1 := thawed_at (i := 1) HZ5.out
 have y2 := thawed_at (i := 2) HZ5.out
 have y3 := thawed_at (i := 3) HZ5.out
 have y4 := thawed_at (i := 4) HZ5.out
 have y5 := thawed_at (i := 5) HZ5.out
 have y6 := thawed_at (i := 6) HZ5.out
 have y7 := thawed_at (i := 7) HZ5.out
 have m9 := set8Q_block HZ5.out (.string v) (.string cs) (.bool cd) (.int .i64 ca) (.int .i64 ce) (.int .i64 g) (.int .i64 sh) (.slice A5 m5 c5)
 have n9 := kept_set8Q (w := w5) w.heap.size (.string v) (.string cs) (.bool cd) (.int .i64 ca) (.int .i64 ce) (.int .i64 g) (.int .i64 sh) (.slice A5 m5 c5)
 have R9 := hid (RY.other h5 n9 HQ.out)
 have K9 := hid ((K4.out.on k5).own n9 (Nat.le_refl _))
 have ho6 := own_down (show w5.ownsRow w4.heap.size 282 5 (.slice A5 m5 c5) m5 (kRow Ks) from ho5) (show w.heap.size <= w4.heap.size from K4.out.size)
 have O9 := hid (own_keptQ ho6 n9 HZ5.out (by decide))
 have HW : Hid (Went rowP l i e (⟨v,⟨cs,cd,ca,ce⟩,g,sh,Ks⟩ : Ro) j5 f5) := hid (HW1.out.rowL HW2.out HW3.out HW4.out hw5)
 have HM := hid hm5; have HJ := hid hj5; have HLEN := hid hlen
 clear n9 h5 k5 hw5 hm5 hj5 ho5 ho6 hlen
 go_wp2
 generalize World.setCell (World.setCell (World.setCell (World.setCell (World.setCell (World.setCell (World.setCell (World.setCell w5 ⟨w.heap.size,0,none⟩ (.string v)) ⟨w.heap.size,1,none⟩ (.string cs)) ⟨w.heap.size,2,none⟩ (.bool cd)) ⟨w.heap.size,3,none⟩ (.int .i64 ca)) ⟨w.heap.size,4,none⟩ (.int .i64 ce)) ⟨w.heap.size,5,none⟩ (.int .i64 g)) ⟨w.heap.size,6,none⟩ (.int .i64 sh)) ⟨w.heap.size,7,none⟩ (.slice A5 m5 c5) = w9 at m9 K9 R9 O9 ⊢
 clear z0 z1 z2 z3 z4 z5 z6 z7 y0 y1 y2 y3 y4 y5 y6 y7
 have q0 := cell_at (i := 0) m9 rfl
 have q1 := cell_at (i := 1) m9 rfl
 have q2 := cell_at (i := 2) m9 rfl
 have q3 := cell_at (i := 3) m9 rfl
 have q4 := cell_at (i := 4) m9 rfl
 have q5 := cell_at (i := 5) m9 rfl
 have q6 := cell_at (i := 6) m9 rfl
 have q7 := cell_at (i := 7) m9 rfl
 refine bodyPost_ret (v := .agg #[.string v,.string cs,.bool cd,.int .i64 ca,.int .i64 ce,.int .i64 g,.int .i64 sh,.slice A5 m5 c5]) ?_ rfl ?_
 ·simp [results,Tryz.results240,go_sem,q0,q1,q2,q3,q4,q5,q6,q7]
 ·have hl := HLEN.out
  subst hl
  exact ⟨⟨⟨v,⟨cs,cd,ca,ce⟩,g,sh,Ks⟩,A5,c5⟩,j5,f5,rfl,O9.out,HM.out,HJ.out,R9.out,K9.out,HW.out⟩
theorem yrows (q i n c : Nat) (e : Int) (A : Option Addr) (l : Bs) (w : World) (h : RY w q A n c l i e) (hi : i <= n) (hs : n <= 900000) :
    Calls Tryz.prog 239 #[.pointer (some ⟨q,0,none⟩),.func (.func 240) #[] #[]] w fun x w' => ∃ (Ks : List RA) (A' : Option Addr) (m c' j : Nat) (f : Int),x = .returned (.slice A' m c') /\ RowsQ w w' A' m c' Ks /\ Ks.length = m /\ m <= n /\ j <= n /\ RY w' q A n c l j f /\ KeptQ q w w' /\ Went (listP rowP) l i e (ros Ks) j f := by
 have hqw := h.lt
 have HQ := hid hqw; have HS := hid hs
 go_enter Tryz.func239,Tryz.ntmps239
 go_wp2_with fail
 refine (ycount q i n c e A l w h hi (by omega)).mono ?_
 rintro x w1 ⟨m,j0,f0,rfl,hm,hf00,hj0,h1,k1,hw1⟩
 have hmn : m <= n := by omega
 have HM := hid hmn; have HF0 := hid hf00; have HJ0 := hid hj0; have H1 := hid h1; have K1 := hid k1; have HW1 := hid hw1
 clear hm hf00 hj0 h1 k1 hw1 h hi hs hqw hmn
 go_wp2_with fail
 go_loopw [5,9] (fun a i' wr => ∃ (t : Nat) (Ks : List RA) (A' : Option Addr) (c' j : Nat) (f : Int),a = .slice A' t c' /\ i' = .int .i64 t /\ Ks.length = t /\ t <= m /\ (f ≠ 0 -> m = 0) /\ j <= n /\ RY wr q A n c l j f /\ KeptQ q w wr /\ (RowsQ w wr A' t c' Ks) /\ Loops rowP l m j0 f0 (ros Ks) j f) (fun _ i' _ => m - (intOf i').toNat)
 case atStart => exact ⟨0,[],none,0,j0,f0,rfl,rfl,rfl,Nat.zero_le _,HF0.out,HJ0.out,H1.out,K1.out,RowsQ.nil _ _,Loops.start _ _ HW1.out.len _⟩
 case round =>
  obtain ⟨t,Ks,A3,c3,j,f,rfl,rfl,ht,htm,hfm,hj,hr,hk,hmine,hl⟩ := hrel
  have i8 : m <= 900000 := by have := HM.out; have := HS.out; omega
  have HRY := hid hr; have HKR := hid hk; have HLR := hid hl; have HT := hid ht; have HJ := hid hj; have HFM := hid hfm
  clear hr hk hl ht hj hfm
  by_cases hlt : t < m
  ·have i1 : (t : Int) < m := by omega
   have hf : f = 0 := Decidable.byContradiction fun hf => by have := HFM.out hf; omega
   subst hf
   have HMI := hid hmine
   clear hmine
   go_wp2_with fail
   refine (yrow q j n c 0 A l wr HRY.out HJ.out (by have := HS.out; omega)).mono ?_
   rintro x w2 ⟨y,j2,f2,rfl,hoc,hyl,hj2,h2,k2,hw2⟩
   have hmine := HMI.out
   have hm2 := hmine.kept1 k2 HRY.out.blk (by decide) (by decide)
   have hk2 := HKR.out.on k2
   have ba := (Below.refl w2.heap.size w2).alloc (Nat.le_refl _) (.cells #[.string y.ro.key,.string y.ro.live.s,.bool y.ro.live.d,.int .i64 y.ro.live.a,.int .i64 y.ro.live.e,.int .i64 y.ro.gone,.int .i64 y.ro.shade,.slice y.A y.ro.cols.length y.c] 45)
   have hstep := HLR.out.step (by rw [List.length_map,HT.out]; exact hlt) hw2
   by_cases hf2 : f2 = 0
   ·subst hf2
    obtain ⟨U,hU⟩ : ∃ U,U = w2.alloc (.cells #[.string y.ro.key,.string y.ro.live.s,.bool y.ro.live.d,.int .i64 y.ro.live.a,.int .i64 y.ro.live.e,.int .i64 y.ro.gone,.int .i64 y.ro.shade,.slice y.A y.ro.cols.length y.c] 45) := ⟨_,rfl⟩
    have ba2 := (Below.refl (w2.alloc (.cells #[.string y.ro.key,.string y.ro.live.s,.bool y.ro.live.d,.int .i64 y.ro.live.a,.int .i64 y.ro.live.e,.int .i64 y.ro.gone,.int .i64 y.ro.shade,.slice y.A y.ro.cols.length y.c] 45)).heap.size (w2.alloc (.cells #[.string y.ro.key,.string y.ro.live.s,.bool y.ro.live.d,.int .i64 y.ro.live.a,.int .i64 y.ro.live.e,.int .i64 y.ro.gone,.int .i64 y.ro.shade,.slice y.A y.ro.cols.length y.c] 45))).alloc (Nat.le_refl _) (.cells #[.string y.ro.key,.string y.ro.live.s,.bool y.ro.live.d,.int .i64 y.ro.live.a,.int .i64 y.ro.live.e,.int .i64 y.ro.gone,.int .i64 y.ro.shade,.slice y.A y.ro.cols.length y.c] 45)
    have hm8 := (hm2.on ba).on ba2
    have h8 := (h2.below ba).below ba2
    have hk8 := (hk2.new ba).new ba2
    have hsz8 : (w2.alloc (.cells #[.string y.ro.key,.string y.ro.live.s,.bool y.ro.live.d,.int .i64 y.ro.live.a,.int .i64 y.ro.live.e,.int .i64 y.ro.gone,.int .i64 y.ro.shade,.slice y.A y.ro.cols.length y.c] 45)).heap.size = w2.heap.size + 1 := by simp
    have hrd8 := RdR.one (w2.alloc (.cells #[.string y.ro.key,.string y.ro.live.s,.bool y.ro.live.d,.int .i64 y.ro.live.a,.int .i64 y.ro.live.e,.int .i64 y.ro.gone,.int .i64 y.ro.shade,.slice y.A y.ro.cols.length y.c] 45)) y (w2.heap.size + 1) (by simp)
    try rw [hsz8] at hrd8
    have HRD8 := hid hrd8
    clear hU hsz8 hrd8
    have HOC := hid (((show OwnC w w2 y from own_base hoc HKR.out.size).on ba).on ba2)
    have HM8 := hid hm8; have H8 := hid h8; have HK8 := hid hk8; have HST := hid hstep; have HJ2 := hid hj2
    obtain ⟨_,_,_⟩ := (h2.below ba).cells
    clear hm8 h8 hk8 hstep hj2 hw2 h2 k2 hm2 hk2 hmine hyl hoc ba ba2
    go_wp2_with (at_builtin; refine list_ex rfl (.tmp 19) (.tmp 21) _ _ rfl (.slice A3 t c3) (.slice (some ⟨w2.heap.size + 1,0,none⟩) 1 1) rfl rfl (run_appR w.heap.size HM8.out.own HRD8.out ?s3 ?s4) ?_)
    case s3 => omega
    case s4 => exact HK8.out.size
    intro v9 w9 ho9 hg9 _
    obtain ⟨A9,c9,rfl,_⟩ := own_slice ho9
    have h9 := H8.out.grown HM8.out.own HQ.out hg9
    have hk9 := HK8.out.grown HM8.out.own hg9
    have hm9 : RowsQ w w9 A9 (t + 1) c9 (Ks ++ [y]) := HM8.out.snoc HOC.out ho9 hg9
    have H9 := hid h9; have HK9 := hid hk9; have HM9 := hid hm9
    clear h9 hk9 hm9 ho9 hg9
    go_wp2
    go_roundw
    case rel => exact ⟨t + 1,Ks ++ [y],A9,c9,j2,0,rfl,by go_num,by rw [List.length_append,HT.out]; rfl,by omega,fun h => absurd rfl h,HJ2.out,H9.out,HK9.out,HM9.out,by have := HST.out; simpa using this⟩
    case measure => simp [intOf]; omega
   ·have e0 : (f2 == 0) = false := by simp; exact hf2
    have hw := (Loops.list HW1.out hstep (fun e => absurd e hf2)).any hf2 ([] : List Ro)
    have HW := hid hw; have HJ2 := hid hj2; have HH := hid (h2.below ba); have HKK := hid (hk2.new ba)
    obtain ⟨_,_,_⟩ := HH.out.cells
    clear hw hstep hw2 h2 k2 hm2 hk2 hmine hj2 hf2 hyl hoc ba
    go_wp2
    go_ret
    exact ⟨[],none,0,0,j2,f2,rfl,RowsQ.nil _ _,rfl,Nat.zero_le _,HJ2.out,HH.out,HKK.out,HW.out⟩
  ·obtain rfl : t = m := by omega
   have hw := Loops.list HW1.out HLR.out (fun _ => by rw [List.length_map,HT.out])
   have HW := hid hw; have HMI := hid hmine
   clear hw hmine
   go_wp2
   go_ret
   exact ⟨Ks,A3,t,c3,j,f,rfl,HMI.out,HT.out,HM.out,HJ.out,HRY.out,HKR.out,HW.out⟩
theorem at_newQ {W : World} {r : Nat} {cs : Array Value} {t : TypeId} (h : W.heap[r]? = some (.cells cs t (0,0))) (o : Obj) : (W.alloc o).heap[r]? = some (.cells cs t (0,0)) :=
 (((Below.refl W.heap.size W).alloc (Nat.le_refl _) o).block r (Array.getElem?_eq_some_iff.1 h).1).trans h
theorem set3Q_block {w : World} {q : Nat} {v0 v1 v2 : Value} {T : TypeId} (h : w.heap[q]? = some (.cells #[v0,v1,v2] T (0,0))) (u0 u1 u2 : Value) :
    (((w.setCell ⟨q,0,none⟩ u0).setCell ⟨q,1,none⟩ u1).setCell ⟨q,2,none⟩ u2).heap[q]? = some (.cells #[u0,u1,u2] T (0,0)) := by
 have h0 := Joins.block_setCell (i := 0) h u0
 simp only [zq4,zq5,zq6] at h0
 have h1 := Joins.block_setCell (i := 1) h0 u1
 simp only [zq4,zq5,zq6] at h1
 have h2 := Joins.block_setCell (i := 2) h1 u2
 simpa only [zq4,zq5,zq6] using h2
theorem kept_set3Q {w : World} (q : Nat) (u0 u1 u2 : Value) : Kept (fun k => k = q) w (((w.setCell ⟨q,0,none⟩ u0).setCell ⟨q,1,none⟩ u1).setCell ⟨q,2,none⟩ u2) :=
 (((Kept.refl (fun k => k = q) w).trans (Kept.setCell (fun k => k = q) _ ⟨q,0,none⟩ u0 rfl) fun _ h => Or.inl h).trans (Kept.setCell (fun k => k = q) _ ⟨q,1,none⟩ u1 rfl) fun _ h => Or.inl h).trans (Kept.setCell (fun k => k = q) _ ⟨q,2,none⟩ u2 rfl) fun _ h => Or.inl h
theorem ypart (q i n c : Nat) (e : Int) (A : Option Addr) (l : Bs) (w : World) (h : RY w q A n c l i e) (hi : i <= n) (hs : n <= 900000) :
    Calls Tryz.prog 212 #[.pointer (some ⟨q,0,none⟩)] w fun x w' => ∃ (z : PA) (j : Nat) (f : Int),x = .returned (.agg #[.string z.k,.int .i64 z.g,.slice z.A z.L.length z.c]) /\ RowsQ w w' z.A z.L.length z.c z.L /\ j <= n /\ RY w' q A n c l j f /\ KeptQ q w w' /\ Went partP l i e ⟨z.k,z.g,ros z.L⟩ j f := by
 have hqw := h.lt
 have bz := (Below.refl w.heap.size w).alloc (Nat.le_refl _) (.cells #[.string ⟨#[]⟩,.int .i64 0,.slice none 0 0] 33)
 have hz := heap_alloc_new w (.cells #[.string ⟨#[]⟩,.int .i64 0,.slice none 0 0] 33)
 have h0 := h.below bz
 obtain ⟨V,hV⟩ : ∃ V,V = w.alloc (.cells #[.string ⟨#[]⟩,.int .i64 0,.slice none 0 0] 33) := ⟨_,rfl⟩
 rw [<- hV] at bz hz h0
 have H0 := hid h0; have HZ0 := hid hz; have BZ := hid bz; have HQ := hid hqw; have HS := hid hs
 clear h bz hz h0 hqw hs
 go_enter Tryz.func212,Tryz.ntmps212
 go_wp2_with fail
 rw [<- hV]
 clear hV
 refine (ytext q i n c e A l _ H0.out hi (by have := HS.out; omega)).mono ?_
 rintro x w1 ⟨v,j1,f1,rfl,hv,hj1,h1,k1,hw1⟩
 have H1 := hid h1; have HZ1 := hid (Kept.atQ k1 HZ0.out (by have := HQ.out; omega)); have K1 := hid (KeptQ.on (Kept.of_below BZ.out _) k1); have HW1 := hid hw1; have HJ1 := hid hj1
 clear h1 k1 hw1 hv hj1 hi
 go_wp2_with fail
 refine (ystamp q j1 n c f1 A l _ H1.out HJ1.out (by have := HS.out; omega)).mono ?_
 rintro x w3 ⟨g,j3,f3,rfl,_,_,hj3,h3,k3,hw3⟩
 have H3 := hid h3; have HZ3 := hid (Kept.atQ k3 HZ1.out (by have := HQ.out; omega)); have K3 := hid (K1.out.on k3); have HW3 := hid hw3; have HJ3 := hid hj3
 clear h3 k3 hw3 hj3
 go_wp2_with fail
 refine (yrows q j3 n c f3 A l _ H3.out HJ3.out HS.out).mono ?_
 rintro x w5 ⟨Ks,A5,m5,c5,j5,f5,rfl,ho5,hlen,hm5,hj5,h5,k5,hw5⟩
 have HZ5 := hid (Kept.atQ k5 HZ3.out (by have := HQ.out; omega))
 have z0 := cell_at (i := 0) HZ5.out rfl
 have z1 := cell_at (i := 1) HZ5.out rfl
 have z2 := cell_at (i := 2) HZ5.out rfl
 have y0 := thawed_at (i := 0) HZ5.out
 have y1 := thawed_at (i := 1) HZ5.out
 have y2 := thawed_at (i := 2) HZ5.out
 have m9 := set3Q_block HZ5.out (.string v) (.int .i64 g) (.slice A5 m5 c5)
 have n9 := kept_set3Q (w := w5) w.heap.size (.string v) (.int .i64 g) (.slice A5 m5 c5)
 have R9 := hid (RY.other h5 n9 HQ.out)
 have K9 := hid ((K3.out.on k5).own n9 (Nat.le_refl _))
 have O9 := hid ((ho5.lower (w0 := w) K3.out.size).kept1 n9 HZ5.out (by decide) (by decide))
 have HW : Hid (Went partP l i e (⟨v,g,ros Ks⟩ : Pa) j5 f5) := hid (HW1.out.partL HW3.out hw5)
 have HJ := hid hj5; have HLEN := hid hlen
 clear n9 h5 k5 hw5 hm5 hj5 ho5 hlen
 go_wp2
 generalize World.setCell (World.setCell (World.setCell w5 ⟨w.heap.size,0,none⟩ (.string v)) ⟨w.heap.size,1,none⟩ (.int .i64 g)) ⟨w.heap.size,2,none⟩ (.slice A5 m5 c5) = w9 at m9 K9 R9 O9 ⊢
 clear z0 z1 z2 y0 y1 y2
 have q0 := cell_at (i := 0) m9 rfl
 have q1 := cell_at (i := 1) m9 rfl
 have q2 := cell_at (i := 2) m9 rfl
 refine bodyPost_ret (v := .agg #[.string v,.int .i64 g,.slice A5 m5 c5]) ?_ rfl ?_
 ·simp [results,Tryz.results212,go_sem,q0,q1,q2]
 ·have hl := HLEN.out
  subst hl
  exact ⟨⟨v,g,Ks,A5,c5⟩,j5,f5,rfl,O9.out,HJ.out,R9.out,K9.out,HW.out⟩
theorem few_of_sizes {p : Pa} (h : p.Gd) {N : Nat} (hN : N <= 900000) (hn : (pE p).length <= N) {M : List RA} (hM : ros M = p.rows) : FewR M := fun x hx => by
 obtain ⟨_,_,h3⟩ := pa_sizes h hn
 have hr := h3 x.ro (by rw [<- hM]; exact List.mem_map.2 ⟨x,hx,rfl⟩)
 refine ⟨fun y hy => ?_,by have := hr.val; unfold maxLen; omega,by have := hr.len; omega⟩
 have := hr.cols y hy
 exact ⟨by omega,by unfold maxLen; omega⟩
theorem own_nilZ (w : World) (b : Nat) : w.ownsRow b 3 1 (.slice none 0 0) 0 (zRow []) := World.ownsRow_nil w b _ _
theorem zRow_one' (l : List Int) : ∀ u ∈ zRow l,u.oneCell' = true := fun u hu => by
 obtain ⟨x,_,rfl⟩ := List.mem_map.1 hu
 rfl
theorem RdZ.allZ {w : World} {B n : Nat} {ad : Addr} {l : List Int} (h : RdZ w B (some ad) n l) : ∀ j u,(zRow l)[j]? = some u -> w.cell? (ad.add j) = some u := by
 intro j u hu
 have hj : j < l.length := by
  rcases Nat.lt_or_ge j l.length with h1 | h1
  ·exact h1
  ·rw [List.getElem?_eq_none (by rw [List.length_map]; exact h1)] at hu; cases hu
 obtain ⟨g,o,e,_,hc⟩ := h.2 (by have := h.1; omega)
 injection e with e
 subst e
 rw [Addr.add_lit]
 have : u = .int .i64 l[j] := by
  rw [List.getElem?_map,List.getElem?_eq_getElem hj] at hu
  injection hu with hu
  exact hu.symm
 rw [this]
 exact hc j hj
theorem run_appZ {w : World} (base : Nat) {v : Value} {n : Nat} {l : List Int} (hown : w.ownsRow base 3 1 v n (zRow l)) {B m c : Nat} {A : Option Addr} {k : List Int} (hr : RdZ w B A m k)
    (hsz : n + m <= 1000000) (hbase : base <= w.heap.size) (ty : TypeId) :
    ∃ v' w',(Builtin.append_ #[38,38] ty #[v,.slice A m c]).run Tryz.prog w = .ok v' w' /\ (w'.ownsRow base 3 1 v' (n + m) (zRow (l ++ k)) /\ (w.grownBy w' v.ownBlock /\ (v'.ownBlock = v.ownBlock \/ v'.ownBlock = some w.heap.size))) := by
 obtain ⟨i,hi,hz0,hz1,hz2⟩ := info_parts infoZi
 cases A with
 | none =>
   have h0 : m = 0 := by
    rcases Nat.eq_zero_or_pos m with h1 | h1
    ·exact h1
    ·obtain ⟨g,o,e,_⟩ := hr.2 h1; cases e
   subst h0
   obtain rfl : k = [] := List.eq_nil_of_length_eq_zero hr.1
   refine ⟨v,w,?_,by simpa using hown,⟨rfl,rfl,rfl,Nat.le_refl _,fun _ _ _ => rfl⟩,Or.inl rfl⟩
   rcases hown.2 with ⟨rfl,rfl⟩ | ⟨g,cap,cur,rfl,_,_,hnc,_⟩
   ·simp [Builtin.append_,run_underlying Tryz.underlying38,sizeOf,typeInfo,hi,Builtin.lenOf,Builtin.firstCells]
   ·simp [Builtin.append_,run_underlying Tryz.underlying38,sizeOf,typeInfo,hi,Builtin.lenOf,Builtin.firstCells,hnc,storeCells]
 | some ad =>
   obtain ⟨v',w',h1,h2,h3,_,h5⟩ := run_append_own_at (P := Tryz.prog) w base 38 ty 3 i (.int .i64 0) 1 8 Tryz.underlying38 hi hz0 hz1 hz2 rfl (by decide) v n (zRow l) hown ad m c (zRow k)
    (by rw [List.length_map,hr.1]; omega) hr.allZ (zRow_one' k) (by unfold maxLen; omega) (by omega) hbase
   exact ⟨v',w',h1,by unfold zRow; rw [List.map_append]; exact h2,h3,h5⟩
theorem set2Q_block {w : World} {q : Nat} {v0 v1 : Value} {T : TypeId} (h : w.heap[q]? = some (.cells #[v0,v1] T (0,0))) (u0 u1 : Value) :
    ((w.setCell ⟨q,0,none⟩ u0).setCell ⟨q,1,none⟩ u1).heap[q]? = some (.cells #[u0,u1] T (0,0)) := by
 have h0 := Joins.block_setCell (i := 0) h u0
 simp only [zq4,zq5,zq6] at h0
 have h1 := Joins.block_setCell (i := 1) h0 u1
 simpa only [zq4,zq5,zq6] using h1
theorem kept_set2Q {w : World} (q : Nat) (u0 u1 : Value) : Kept (fun k => k = q) w ((w.setCell ⟨q,0,none⟩ u0).setCell ⟨q,1,none⟩ u1) :=
 (Kept.setCell (fun k => k = q) w ⟨q,0,none⟩ u0 rfl).trans (Kept.setCell (fun k => k = q) _ ⟨q,1,none⟩ u1 rfl) fun _ h => Or.inl h
theorem set4T_block {w : World} {q : Nat} {v0 v1 v2 v3 : Value} {T : TypeId} (h : w.heap[q]? = some (.cells #[v0,v1,v2,v3] T (0,0))) (u0 u1 u2 u3 : Value) :
    ((((w.setCell ⟨q,0,none⟩ u0).setCell ⟨q,1,none⟩ u1).setCell ⟨q,2,none⟩ u2).setCell ⟨q,3,none⟩ u3).heap[q]? = some (.cells #[u0,u1,u2,u3] T (0,0)) := by
 have m := Joins.block_setCell (i := 0) h u0
 simp only [zq4,zq5,zq6] at m
 have m1 := Joins.block_setCell (i := 1) m u1
 simp only [zq4,zq5,zq6] at m1
 have m2 := Joins.block_setCell (i := 2) m1 u2
 simp only [zq4,zq5,zq6] at m2
 have m3 := Joins.block_setCell (i := 3) m2 u3
 simp only [zq4,zq5,zq6] at m3
 exact m3
theorem ynote (q i n c : Nat) (e : Int) (A : Option Addr) (l : Bs) (w : World) (h : RY w q A n c l i e) (hi : i <= n) (hs : n <= 1000000000) :
    Calls Tryz.prog 113 #[.pointer (some ⟨q,0,none⟩)] w fun x w' => ∃ (y : NA) (j : Nat) (f : Int),x = .returned (.agg #[.int .i64 y.1,.string y.2]) /\ y.2.size <= n /\ j <= n /\ RY w' q A n c l j f /\ KeptQ q w w' /\ Went addP l i e y j f := by
 have hqw := h.lt
 have bz := (Below.refl w.heap.size w).alloc (Nat.le_refl _) (.cells #[.int .i64 0,.string ⟨#[]⟩] 57)
 have hz := heap_alloc_new w (.cells #[.int .i64 0,.string ⟨#[]⟩] 57)
 have h0 := h.below bz
 obtain ⟨V,hV⟩ : ∃ V,V = w.alloc (.cells #[.int .i64 0,.string ⟨#[]⟩] 57) := ⟨_,rfl⟩
 rw [<- hV] at bz hz h0
 have H0 := hid h0; have HZ0 := hid hz; have BZ := hid bz; have HQ := hid hqw; have HS := hid hs
 clear h bz hz h0 hqw hs
 go_enter Tryz.func113,Tryz.ntmps113
 go_wp2_with fail
 rw [<- hV]
 clear hV
 refine (ystamp q i n c e A l _ H0.out hi HS.out).mono ?_
 rintro x w1 ⟨g,j1,f1,rfl,_,_,hj1,h1,k1,hw1⟩
 have H1 := hid h1; have HZ1 := hid (Kept.atQ k1 HZ0.out (by have := HQ.out; omega)); have K1 := hid (KeptQ.on (Kept.of_below BZ.out _) k1); have HW1 := hid hw1; have HJ1 := hid hj1
 clear h1 k1 hw1 hj1 hi
 go_wp2_with fail
 refine (ytext q j1 n c f1 A l _ H1.out HJ1.out HS.out).mono ?_
 rintro x w2 ⟨v,j2,f2,rfl,hv,hj2,h2,k2,hw2⟩
 have HZ2 := hid (Kept.atQ k2 HZ1.out (by have := HQ.out; omega))
 have z0 := cell_at (i := 0) HZ2.out rfl
 have z1 := cell_at (i := 1) HZ2.out rfl
 have y0 := thawed_at (i := 0) HZ2.out
 have y1 := thawed_at (i := 1) HZ2.out
 have m9 := set2Q_block HZ2.out (.int .i64 g) (.string v)
 have n9 := kept_set2Q (w := w2) w.heap.size (.int .i64 g) (.string v)
 have R9 := hid (RY.other h2 n9 HQ.out)
 have K9 := hid ((K1.out.on k2).own n9 (Nat.le_refl _))
 have HW : Hid (Went addP l i e ((g,v) : Int × ByteArray) j2 f2) := hid (HW1.out.bind (hw2.bind (Went.ret _ hw2.len f2)))
 have HV := hid hv; have HJ := hid hj2
 clear n9 h2 k2 hw2 hv hj2
 go_wp2
 generalize (World.setCell w2 ⟨w.heap.size,0,none⟩ (.int .i64 g)).setCell ⟨w.heap.size,1,none⟩ (.string v) = w9 at m9 K9 R9 ⊢
 clear z0 z1 y0 y1
 have q0 := cell_at (i := 0) m9 rfl
 have q1 := cell_at (i := 1) m9 rfl
 refine bodyPost_ret (v := .agg #[.int .i64 g,.string v]) ?_ rfl ?_
 ·simp [results,Tryz.results113,go_sem,q0,q1]
 ·exact ⟨(g,v),j2,f2,rfl,HV.out,HJ.out,R9.out,K9.out,HW.out⟩
def InnerOk : Prop := ∀ (q i n c : Nat) (e : Int) (A : Option Addr) (l : Bs) (w : World),RY w q A n c l i e -> i <= n -> n <= 900000 ->
    Calls Tryz.prog 167 #[.pointer (some ⟨q,0,none⟩)] w fun x w' => ∃ (z : PA) (j : Nat) (f : Int),x = .returned (.agg #[.string z.k,.int .i64 z.g,.slice z.A z.L.length z.c]) /\ RowsQ w w' z.A z.L.length z.c z.L /\ j <= n /\ RY w' q A n c l j f /\ KeptQ q w w' /\ Went (nestP partP) l i e ⟨z.k,z.g,ros z.L⟩ j f
theorem RowsQ.grown {w0 w w' : World} {A : Option Addr} {m c b n size : Nat} {T : TypeId} {v : Value} {xs : List Value} {M : List RA} (h : RowsQ w0 w A m c M) (ho : w.ownsRow b T size v n xs) (hT : 282 ≠ T) (hT' : 45 ≠ T) (hg : w.grownBy w' v.ownBlock) : RowsQ w0 w' A m c M :=
 ⟨own_kept h.own fun g hg2 => hg.block g (own_block_lt h.own g hg2) fun hp => by
   obtain ⟨cs,h1⟩ := own_tag h.own g hg2
   obtain ⟨cs',h2⟩ := own_tag ho g hp.symm
   rw [h1] at h2
   injection h2 with h2
   injection h2 with _ h3 _
   exact hT' h3,fun x hx => (h.cols x hx).grownQ ho hT hg⟩
structure MutsQ (w0 w : World) (A : Option Addr) (m c : Nat) (M : List MA) : Prop where
 own : w.ownsRow w0.heap.size 35 4 (.slice A m c) m (mRow M)
 parts : ∀ x ∈ M,RowsQ w0 w x.p.A x.p.L.length x.p.c x.p.L
theorem MutsQ.nil (w0 w : World) : MutsQ w0 w none 0 0 [] := ⟨own_nilM _ _,fun x hx => by cases hx⟩
theorem MutsQ.on {w0 w w' : World} {A : Option Addr} {m c : Nat} {M : List MA} (h : MutsQ w0 w A m c M) (hb : Below w.heap.size w w') : MutsQ w0 w' A m c M := ⟨own_below h.own hb,fun x hx => (h.parts x hx).on hb⟩
theorem MutsQ.kept3 {w0 w w' : World} {A : Option Addr} {m c r : Nat} {M : List MA} {cs : Array Value} {e : TypeId} (h : MutsQ w0 w A m c M) (hk : Kept (fun k => k = r) w w') (hr : w.heap[r]? = some (.cells cs e (0,0))) (h1 : 282 ≠ e) (h2 : 45 ≠ e) (h3 : 35 ≠ e) : MutsQ w0 w' A m c M :=
 ⟨own_keptQ h.own hk hr h3,fun x hx => (h.parts x hx).kept1 hk hr h1 h2⟩
theorem MutsQ.kept1 {w0 w w' : World} {A : Option Addr} {m c r : Nat} {M : List MA} {cs : Array Value} (h : MutsQ w0 w A m c M) (hk : Kept (fun k => k = r) w w') (hr : w.heap[r]? = some (.cells cs 184 (0,0))) : MutsQ w0 w' A m c M := h.kept3 hk hr (by decide) (by decide) (by decide)
theorem MutsQ.snoc {w0 w w' : World} {A A' : Option Addr} {m c c' : Nat} {M : List MA} {y : MA} (h : MutsQ w0 w A m c M) (hy : RowsQ w0 w y.p.A y.p.L.length y.p.c y.p.L) (ho : w'.ownsRow w0.heap.size 35 4 (.slice A' (m + 1) c') (m + 1) (mRow (M ++ [y]))) (hg : w.grownBy w' (Value.slice A m c).ownBlock) : MutsQ w0 w' A' (m + 1) c' (M ++ [y]) :=
 ⟨ho,fun x hx => by
   rcases List.mem_append.1 hx with h1 | h1
   ·exact (h.parts x h1).grown h.own (by decide) (by decide) hg
   ·rw [List.mem_singleton.1 h1]; exact hy.grown h.own (by decide) (by decide) hg⟩
theorem MutsQ.lower {w0 w1 w : World} {A : Option Addr} {m c : Nat} {M : List MA} (h : MutsQ w1 w A m c M) (hb : w0.heap.size <= w1.heap.size) : MutsQ w0 w A m c M := ⟨own_down h.own hb,fun x hx => (h.parts x hx).lower hb⟩
theorem MutsQ.lies {w0 w : World} {A : Option Addr} {m c : Nat} {M : List MA} (h : MutsQ w0 w A m c M) : LiesM w w.heap.size A m c M := by
 obtain ⟨_,_,e,h1,_⟩ := own_slice h.own
 injection e with _ _ e3
 subst e3
 exact ⟨RdM.of_own h.own,fun x hx => (h.parts x hx).lies,h1⟩
theorem ymut (YI : InnerOk) (q i n c : Nat) (e : Int) (A : Option Addr) (l : Bs) (w : World) (h : RY w q A n c l i e) (hi : i <= n) (hs : n <= 900000) :
    Calls Tryz.prog 111 #[.pointer (some ⟨q,0,none⟩)] w fun x w' => ∃ (y : MA) (j : Nat) (f : Int),x = .returned (.agg #[.string y.tb,.string y.p.k,.int .i64 y.p.g,.slice y.p.A y.p.L.length y.p.c]) /\ RowsQ w w' y.p.A y.p.L.length y.p.c y.p.L /\ j <= n /\ RY w' q A n c l j f /\ KeptQ q w w' /\ Went mutP l i e (mutOf y) j f := by
 have hqw := h.lt
 have bz := (Below.refl w.heap.size w).alloc (Nat.le_refl _) (.cells #[.string ⟨#[]⟩,.string ⟨#[]⟩,.int .i64 0,.slice none 0 0] 35)
 have hz := heap_alloc_new w (.cells #[.string ⟨#[]⟩,.string ⟨#[]⟩,.int .i64 0,.slice none 0 0] 35)
 have h0 := h.below bz
 obtain ⟨V,hV⟩ : ∃ V,V = w.alloc (.cells #[.string ⟨#[]⟩,.string ⟨#[]⟩,.int .i64 0,.slice none 0 0] 35) := ⟨_,rfl⟩
 rw [<- hV] at bz hz h0
 have H0 := hid h0; have HZ0 := hid hz; have BZ := hid bz; have HQ := hid hqw; have HS := hid hs
 clear h bz hz h0 hqw hs
 go_enter Tryz.func111,Tryz.ntmps111
 go_wp2_with fail
 rw [<- hV]
 clear hV
 refine (ytext q i n c e A l _ H0.out hi (by have := HS.out; omega)).mono ?_
 rintro x w1 ⟨v,j1,f1,rfl,hv,hj1,h1,k1,hw1⟩
 have H1 := hid h1; have HZ1 := hid (Kept.atQ k1 HZ0.out (by have := HQ.out; omega)); have K1 := hid (KeptQ.on (Kept.of_below BZ.out _) k1); have HW1 := hid hw1; have HJ1 := hid hj1
 clear h1 k1 hw1 hv hj1 hi
 go_wp2_with fail
 refine (YI q j1 n c f1 A l _ H1.out HJ1.out HS.out).mono ?_
 rintro x w5 ⟨⟨zk,zg,zL,zA,zc⟩,j5,f5,rfl,ho5,hj5,h5,k5,hw5⟩
 dsimp only at ho5 hw5
 have HZ5 := hid (Kept.atQ k5 HZ1.out (by have := HQ.out; omega))
 have z0 := cell_at (i := 0) HZ5.out rfl
 have z1 := cell_at (i := 1) HZ5.out rfl
 have z2 := cell_at (i := 2) HZ5.out rfl
 have z3 := cell_at (i := 3) HZ5.out rfl
 have y0 := thawed_at (i := 0) HZ5.out
 have y1 := thawed_at (i := 1) HZ5.out
 have y2 := thawed_at (i := 2) HZ5.out
 have y3 := thawed_at (i := 3) HZ5.out
 have m9 := set4T_block HZ5.out (.string v) (.string zk) (.int .i64 zg) (.slice zA zL.length zc)
 have n9 := kept_set4q (w := w5) w.heap.size (.string v) (.string zk) (.int .i64 zg) (.slice zA zL.length zc)
 have R9 := hid (RY.other h5 n9 HQ.out)
 have K9 := hid ((K1.out.on k5).own n9 (Nat.le_refl _))
 have O9 := hid ((ho5.lower (w0 := w) K1.out.size).kept1 n9 HZ5.out (by decide) (by decide))
 have HW : Hid (Went mutP l i e ((v,⟨zk,zg,ros zL⟩) : ByteArray × Pa) j5 f5) := hid (HW1.out.bind (hw5.bind (Went.ret _ hw5.len f5)))
 have HJ := hid hj5
 clear n9 h5 k5 hw5 hj5 ho5
 go_wp2
 generalize World.setCell (World.setCell (World.setCell (World.setCell w5 ⟨w.heap.size,0,none⟩ (.string v)) ⟨w.heap.size,1,none⟩ (.string zk)) ⟨w.heap.size,2,none⟩ (.int .i64 zg)) ⟨w.heap.size,3,none⟩ (.slice zA zL.length zc) = w9 at m9 K9 R9 O9 ⊢
 clear z0 z1 z2 z3 y0 y1 y2 y3
 have q0 := cell_at (i := 0) m9 rfl
 have q1 := cell_at (i := 1) m9 rfl
 have q2 := cell_at (i := 2) m9 rfl
 have q3 := cell_at (i := 3) m9 rfl
 refine bodyPost_ret (v := .agg #[.string v,.string zk,.int .i64 zg,.slice zA zL.length zc]) ?_ rfl ?_
 ·simp [results,Tryz.results111,go_sem,q0,q1,q2,q3]
 ·exact ⟨⟨v,⟨zk,zg,zL,zA,zc⟩⟩,j5,f5,rfl,O9.out,HJ.out,R9.out,K9.out,HW.out⟩
theorem ymuts (YI : InnerOk) (q i n c : Nat) (e : Int) (A : Option Addr) (l : Bs) (w : World) (h : RY w q A n c l i e) (hi : i <= n) (hs : n <= 900000) :
    Calls Tryz.prog 110 #[.pointer (some ⟨q,0,none⟩),.func (.func 111) #[] #[]] w fun x w' => ∃ (Ks : List MA) (A' : Option Addr) (m c' j : Nat) (f : Int),x = .returned (.slice A' m c') /\ MutsQ w w' A' m c' Ks /\ Ks.length = m /\ m <= n /\ j <= n /\ RY w' q A n c l j f /\ KeptQ q w w' /\ Went (listP mutP) l i e (muts Ks) j f := by
 have hqw := h.lt
 have HQ := hid hqw; have HS := hid hs
 go_enter Tryz.func110,Tryz.ntmps110
 go_wp2_with fail
 refine (ycount q i n c e A l w h hi (by omega)).mono ?_
 rintro x w1 ⟨m,j0,f0,rfl,hm,hf00,hj0,h1,k1,hw1⟩
 have hmn : m <= n := by omega
 have HM := hid hmn; have HF0 := hid hf00; have HJ0 := hid hj0; have H1 := hid h1; have K1 := hid k1; have HW1 := hid hw1
 clear hm hf00 hj0 h1 k1 hw1 h hi hs hqw hmn
 go_wp2_with fail
 go_loopw [5,9] (fun a i' wr => ∃ (t : Nat) (Ks : List MA) (A' : Option Addr) (c' j : Nat) (f : Int),a = .slice A' t c' /\ i' = .int .i64 t /\ Ks.length = t /\ t <= m /\ (f ≠ 0 -> m = 0) /\ j <= n /\ RY wr q A n c l j f /\ KeptQ q w wr /\ (MutsQ w wr A' t c' Ks) /\ Loops mutP l m j0 f0 (muts Ks) j f) (fun _ i' _ => m - (intOf i').toNat)
 case atStart => exact ⟨0,[],none,0,j0,f0,rfl,rfl,rfl,Nat.zero_le _,HF0.out,HJ0.out,H1.out,K1.out,MutsQ.nil _ _,Loops.start _ _ HW1.out.len _⟩
 case round =>
  obtain ⟨t,Ks,A3,c3,j,f,rfl,rfl,ht,htm,hfm,hj,hr,hk,hmine,hl⟩ := hrel
  have i8 : m <= 900000 := by have := HM.out; have := HS.out; omega
  have HRY := hid hr; have HKR := hid hk; have HLR := hid hl; have HT := hid ht; have HJ := hid hj; have HFM := hid hfm
  clear hr hk hl ht hj hfm
  by_cases hlt : t < m
  ·have i1 : (t : Int) < m := by omega
   have hf : f = 0 := Decidable.byContradiction fun hf => by have := HFM.out hf; omega
   subst hf
   have HMI := hid hmine
   clear hmine
   go_wp2_with fail
   refine (ymut YI q j n c 0 A l wr HRY.out HJ.out (by have := HS.out; omega)).mono ?_
   rintro x w2 ⟨y,j2,f2,rfl,hoc,hj2,h2,k2,hw2⟩
   have hmine := HMI.out
   have hm2 := hmine.kept1 k2 HRY.out.blk
   have hk2 := HKR.out.on k2
   have ba := (Below.refl w2.heap.size w2).alloc (Nat.le_refl _) (.cells #[.string y.tb,.string y.p.k,.int .i64 y.p.g,.slice y.p.A y.p.L.length y.p.c] 35)
   have hstep := HLR.out.step (by rw [List.length_map,HT.out]; exact hlt) hw2
   by_cases hf2 : f2 = 0
   ·subst hf2
    obtain ⟨U,hU⟩ : ∃ U,U = w2.alloc (.cells #[.string y.tb,.string y.p.k,.int .i64 y.p.g,.slice y.p.A y.p.L.length y.p.c] 35) := ⟨_,rfl⟩
    have ba2 := (Below.refl (w2.alloc (.cells #[.string y.tb,.string y.p.k,.int .i64 y.p.g,.slice y.p.A y.p.L.length y.p.c] 35)).heap.size (w2.alloc (.cells #[.string y.tb,.string y.p.k,.int .i64 y.p.g,.slice y.p.A y.p.L.length y.p.c] 35))).alloc (Nat.le_refl _) (.cells #[.string y.tb,.string y.p.k,.int .i64 y.p.g,.slice y.p.A y.p.L.length y.p.c] 35)
    have hm8 := (hm2.on ba).on ba2
    have h8 := (h2.below ba).below ba2
    have hk8 := (hk2.new ba).new ba2
    have hsz8 : (w2.alloc (.cells #[.string y.tb,.string y.p.k,.int .i64 y.p.g,.slice y.p.A y.p.L.length y.p.c] 35)).heap.size = w2.heap.size + 1 := by simp
    have hrd8 := RdM.laid (w2.alloc (.cells #[.string y.tb,.string y.p.k,.int .i64 y.p.g,.slice y.p.A y.p.L.length y.p.c] 35)) y
    try rw [hsz8] at hrd8
    have HRD8 := hid hrd8
    clear hU hsz8 hrd8
    have HOC := hid (((hoc.lower HKR.out.size).on ba).on ba2)
    have HM8 := hid hm8; have H8 := hid h8; have HK8 := hid hk8; have HST := hid hstep; have HJ2 := hid hj2
    obtain ⟨_,_,_⟩ := (h2.below ba).cells
    clear hm8 h8 hk8 hstep hj2 hw2 h2 k2 hm2 hk2 hmine hoc ba ba2
    go_wp2_with (at_builtin; refine list_ex rfl (.tmp 19) (.tmp 21) _ _ rfl (.slice A3 t c3) (.slice (some ⟨w2.heap.size + 1,0,none⟩) 1 1) rfl rfl (run_appM w.heap.size HM8.out.own HRD8.out ?s3 ?s4) ?_)
    case s3 => omega
    case s4 => exact HK8.out.size
    intro v9 w9 ho9 hg9 _
    obtain ⟨A9,c9,rfl,_⟩ := own_slice ho9
    have h9 := H8.out.grown HM8.out.own HQ.out hg9
    have hk9 := HK8.out.grown HM8.out.own hg9
    have hm9 : MutsQ w w9 A9 (t + 1) c9 (Ks ++ [y]) := HM8.out.snoc HOC.out ho9 hg9
    have H9 := hid h9; have HK9 := hid hk9; have HM9 := hid hm9
    clear h9 hk9 hm9 ho9 hg9
    go_wp2
    go_roundw
    case rel => exact ⟨t + 1,Ks ++ [y],A9,c9,j2,0,rfl,by go_num,by rw [List.length_append,HT.out]; rfl,by omega,fun h => absurd rfl h,HJ2.out,H9.out,HK9.out,HM9.out,by have := HST.out; simpa using this⟩
    case measure => simp [intOf]; omega
   ·have e0 : (f2 == 0) = false := by simp; exact hf2
    have hw := (Loops.list HW1.out hstep (fun e => absurd e hf2)).any hf2 ([] : List (ByteArray × Pa))
    have HW := hid hw; have HJ2 := hid hj2; have HH := hid (h2.below ba); have HKK := hid (hk2.new ba)
    obtain ⟨_,_,_⟩ := HH.out.cells
    clear hw hstep hw2 h2 k2 hm2 hk2 hmine hj2 hf2 hoc ba
    go_wp2
    go_ret
    exact ⟨[],none,0,0,j2,f2,rfl,MutsQ.nil _ _,rfl,Nat.zero_le _,HJ2.out,HH.out,HKK.out,HW.out⟩
  ·obtain rfl : t = m := by omega
   have hw := Loops.list HW1.out HLR.out (fun _ => by rw [List.length_map,HT.out])
   have HW := hid hw; have HMI := hid hmine
   clear hw hmine
   go_wp2
   go_ret
   exact ⟨Ks,A3,t,c3,j,f,rfl,HMI.out,HT.out,HM.out,HJ.out,HRY.out,HKR.out,HW.out⟩
theorem ynotes (q i n c : Nat) (e : Int) (A : Option Addr) (l : Bs) (w : World) (h : RY w q A n c l i e) (hi : i <= n) (hs : n <= 900000) :
    Calls Tryz.prog 112 #[.pointer (some ⟨q,0,none⟩),.func (.func 113) #[] #[]] w fun x w' => ∃ (Ks : List NA) (A' : Option Addr) (m c' j : Nat) (f : Int),x = .returned (.slice A' m c') /\ w'.ownsRow w.heap.size 57 2 (.slice A' m c') m (nRow Ks) /\ Ks.length = m /\ m <= n /\ j <= n /\ RY w' q A n c l j f /\ KeptQ q w w' /\ Went (listP addP) l i e (Ks) j f := by
 have hqw := h.lt
 have HQ := hid hqw; have HS := hid hs
 go_enter Tryz.func112,Tryz.ntmps112
 go_wp2_with fail
 refine (ycount q i n c e A l w h hi (by omega)).mono ?_
 rintro x w1 ⟨m,j0,f0,rfl,hm,hf00,hj0,h1,k1,hw1⟩
 have hmn : m <= n := by omega
 have HM := hid hmn; have HF0 := hid hf00; have HJ0 := hid hj0; have H1 := hid h1; have K1 := hid k1; have HW1 := hid hw1
 clear hm hf00 hj0 h1 k1 hw1 h hi hs hqw hmn
 go_wp2_with fail
 go_loopw [5,9] (fun a i' wr => ∃ (t : Nat) (Ks : List NA) (A' : Option Addr) (c' j : Nat) (f : Int),a = .slice A' t c' /\ i' = .int .i64 t /\ Ks.length = t /\ t <= m /\ (f ≠ 0 -> m = 0) /\ j <= n /\ RY wr q A n c l j f /\ KeptQ q w wr /\ (wr.ownsRow w.heap.size 57 2 (.slice A' t c') t (nRow Ks)) /\ Loops addP l m j0 f0 (Ks) j f) (fun _ i' _ => m - (intOf i').toNat)
 case atStart => exact ⟨0,[],none,0,j0,f0,rfl,rfl,rfl,Nat.zero_le _,HF0.out,HJ0.out,H1.out,K1.out,own_nilN _ _,Loops.start _ _ HW1.out.len _⟩
 case round =>
  obtain ⟨t,Ks,A3,c3,j,f,rfl,rfl,ht,htm,hfm,hj,hr,hk,hmine,hl⟩ := hrel
  have i8 : m <= 900000 := by have := HM.out; have := HS.out; omega
  have HRY := hid hr; have HKR := hid hk; have HLR := hid hl; have HT := hid ht; have HJ := hid hj; have HFM := hid hfm
  clear hr hk hl ht hj hfm
  by_cases hlt : t < m
  ·have i1 : (t : Int) < m := by omega
   have hf : f = 0 := Decidable.byContradiction fun hf => by have := HFM.out hf; omega
   subst hf
   have HMI := hid hmine
   clear hmine
   go_wp2_with fail
   refine (ynote q j n c 0 A l wr HRY.out HJ.out (by have := HS.out; omega)).mono ?_
   rintro x w2 ⟨y,j2,f2,rfl,hy1,hj2,h2,k2,hw2⟩
   have hmine := HMI.out
   have hm2 := own_keptQ hmine k2 HRY.out.blk (by decide)
   have hk2 := HKR.out.on k2
   have ba := (Below.refl w2.heap.size w2).alloc (Nat.le_refl _) (.cells #[.int .i64 y.1,.string y.2] 57)
   have hstep := HLR.out.step (by rw [HT.out]; exact hlt) hw2
   by_cases hf2 : f2 = 0
   ·subst hf2
    obtain ⟨U,hU⟩ : ∃ U,U = w2.alloc (.cells #[.int .i64 y.1,.string y.2] 57) := ⟨_,rfl⟩
    have ba2 := (Below.refl (w2.alloc (.cells #[.int .i64 y.1,.string y.2] 57)).heap.size (w2.alloc (.cells #[.int .i64 y.1,.string y.2] 57))).alloc (Nat.le_refl _) (.cells #[.int .i64 y.1,.string y.2] 57)
    have hm8 := own_below (own_below hm2 ba) ba2
    have h8 := (h2.below ba).below ba2
    have hk8 := (hk2.new ba).new ba2
    have hsz8 : (w2.alloc (.cells #[.int .i64 y.1,.string y.2] 57)).heap.size = w2.heap.size + 1 := by simp
    have hrd8 := RdN.laid (w2.alloc (.cells #[.int .i64 y.1,.string y.2] 57)) y
    try rw [hsz8] at hrd8
    have HRD8 := hid hrd8
    clear hU hsz8 hrd8
    have HM8 := hid hm8; have H8 := hid h8; have HK8 := hid hk8; have HST := hid hstep; have HJ2 := hid hj2
    obtain ⟨_,_,_⟩ := (h2.below ba).cells
    clear hm8 h8 hk8 hstep hj2 hw2 h2 k2 hm2 hk2 hmine hy1 ba ba2
    go_wp2_with (at_builtin; refine list_ex rfl (.tmp 19) (.tmp 21) _ _ rfl (.slice A3 t c3) (.slice (some ⟨w2.heap.size + 1,0,none⟩) 1 1) rfl rfl (run_appN w.heap.size HM8.out HRD8.out ?s3 ?s4) ?_)
    case s3 => omega
    case s4 => exact HK8.out.size
    intro v9 w9 ho9 hg9 _
    obtain ⟨A9,c9,rfl,_⟩ := own_slice ho9
    have h9 := H8.out.grown HM8.out HQ.out hg9
    have hk9 := HK8.out.grown HM8.out hg9
    have hm9 : w9.ownsRow w.heap.size 57 2 (.slice A9 (t + 1) c9) (t + 1) (nRow (Ks ++ [y])) := ho9
    have H9 := hid h9; have HK9 := hid hk9; have HM9 := hid hm9
    clear h9 hk9 hm9 ho9 hg9
    go_wp2
    go_roundw
    case rel => exact ⟨t + 1,Ks ++ [y],A9,c9,j2,0,rfl,by go_num,by rw [List.length_append,HT.out]; rfl,by omega,fun h => absurd rfl h,HJ2.out,H9.out,HK9.out,HM9.out,by exact HST.out⟩
    case measure => simp [intOf]; omega
   ·have e0 : (f2 == 0) = false := by simp; exact hf2
    have hw := (Loops.list HW1.out hstep (fun e => absurd e hf2)).any hf2 ([] : List NA)
    have HW := hid hw; have HJ2 := hid hj2; have HH := hid (h2.below ba); have HKK := hid (hk2.new ba)
    obtain ⟨_,_,_⟩ := HH.out.cells
    clear hw hstep hw2 h2 k2 hm2 hk2 hmine hj2 hf2 hy1 ba
    go_wp2
    go_ret
    exact ⟨[],none,0,0,j2,f2,rfl,own_nilN _ _,rfl,Nat.zero_le _,HJ2.out,HH.out,HKK.out,HW.out⟩
  ·obtain rfl : t = m := by omega
   have hw := Loops.list HW1.out HLR.out (fun _ => by rw [HT.out])
   have HW := hid hw; have HMI := hid hmine
   clear hw hmine
   go_wp2
   go_ret
   exact ⟨Ks,A3,t,c3,j,f,rfl,HMI.out,HT.out,HM.out,HJ.out,HRY.out,HKR.out,HW.out⟩
theorem yints (q i n c : Nat) (e : Int) (A : Option Addr) (l : Bs) (w : World) (h : RY w q A n c l i e) (hi : i <= n) (hs : n <= 900000) :
    Calls Tryz.prog 114 #[.pointer (some ⟨q,0,none⟩),.func (.func 115) #[] #[]] w fun x w' => ∃ (Ks : List Int) (A' : Option Addr) (m c' j : Nat) (f : Int),x = .returned (.slice A' m c') /\ w'.ownsRow w.heap.size 3 1 (.slice A' m c') m (zRow Ks) /\ Ks.length = m /\ m <= n /\ j <= n /\ RY w' q A n c l j f /\ KeptQ q w w' /\ Went (listP numP) l i e (Ks) j f := by
 have hqw := h.lt
 have HQ := hid hqw; have HS := hid hs
 go_enter Tryz.func114,Tryz.ntmps114
 go_wp2_with fail
 refine (ycount q i n c e A l w h hi (by omega)).mono ?_
 rintro x w1 ⟨m,j0,f0,rfl,hm,hf00,hj0,h1,k1,hw1⟩
 have hmn : m <= n := by omega
 have HM := hid hmn; have HF0 := hid hf00; have HJ0 := hid hj0; have H1 := hid h1; have K1 := hid k1; have HW1 := hid hw1
 clear hm hf00 hj0 h1 k1 hw1 h hi hs hqw hmn
 go_wp2_with fail
 go_loopw [5,9] (fun a i' wr => ∃ (t : Nat) (Ks : List Int) (A' : Option Addr) (c' j : Nat) (f : Int),a = .slice A' t c' /\ i' = .int .i64 t /\ Ks.length = t /\ t <= m /\ (f ≠ 0 -> m = 0) /\ j <= n /\ RY wr q A n c l j f /\ KeptQ q w wr /\ (wr.ownsRow w.heap.size 3 1 (.slice A' t c') t (zRow Ks)) /\ Loops numP l m j0 f0 (Ks) j f) (fun _ i' _ => m - (intOf i').toNat)
 case atStart => exact ⟨0,[],none,0,j0,f0,rfl,rfl,rfl,Nat.zero_le _,HF0.out,HJ0.out,H1.out,K1.out,own_nilZ _ _,Loops.start _ _ HW1.out.len _⟩
 case round =>
  obtain ⟨t,Ks,A3,c3,j,f,rfl,rfl,ht,htm,hfm,hj,hr,hk,hmine,hl⟩ := hrel
  have i8 : m <= 900000 := by have := HM.out; have := HS.out; omega
  have HRY := hid hr; have HKR := hid hk; have HLR := hid hl; have HT := hid ht; have HJ := hid hj; have HFM := hid hfm
  clear hr hk hl ht hj hfm
  by_cases hlt : t < m
  ·have i1 : (t : Int) < m := by omega
   have hf : f = 0 := Decidable.byContradiction fun hf => by have := HFM.out hf; omega
   subst hf
   have HMI := hid hmine
   clear hmine
   go_wp2_with fail
   refine (ystamp q j n c 0 A l wr HRY.out HJ.out (by have := HS.out; omega)).mono ?_
   rintro x w2 ⟨y,j2,f2,rfl,hy1,hy2,hj2,h2,k2,hw2⟩
   have hmine := HMI.out
   have hm2 := own_keptQ hmine k2 HRY.out.blk (by decide)
   have hk2 := HKR.out.on k2
   have hstep := HLR.out.step (by rw [HT.out]; exact hlt) hw2
   by_cases hf2 : f2 = 0
   ·subst hf2
    have ba := (Below.refl w2.heap.size w2).alloc (Nat.le_refl _) (.cells #[.int .i64 y] 3)
    have hm8 := own_below hm2 ba
    have h8 := h2.below ba
    have hk8 := hk2.new ba
    have HRD8 := hid (RdZ.lay1 w2 y)
    have HM8 := hid hm8; have H8 := hid h8; have HK8 := hid hk8; have HST := hid hstep; have HJ2 := hid hj2
    obtain ⟨_,_,_⟩ := h2.cells
    clear hm8 h8 hk8 hstep hj2 hw2 h2 k2 hm2 hk2 hmine hy1 hy2 ba
    go_wp2_with (at_builtin; refine list_ex rfl (.tmp 19) (.tmp 21) _ _ rfl (.slice A3 t c3) (.slice (some ⟨w2.heap.size,0,none⟩) 1 1) rfl rfl (run_appZ w.heap.size HM8.out HRD8.out ?s3 ?s4) ?_)
    case s3 => omega
    case s4 => exact HK8.out.size
    intro v9 w9 ho9 hg9 _
    obtain ⟨A9,c9,rfl,_⟩ := own_slice ho9
    have h9 := H8.out.grown HM8.out HQ.out hg9
    have hk9 := HK8.out.grown HM8.out hg9
    have hm9 : w9.ownsRow w.heap.size 3 1 (.slice A9 (t + 1) c9) (t + 1) (zRow (Ks ++ [y])) := (by unfold zRow; rw [List.map_append]; exact ho9)
    have H9 := hid h9; have HK9 := hid hk9; have HM9 := hid hm9
    clear h9 hk9 hm9 ho9 hg9
    go_wp2
    go_roundw
    case rel => exact ⟨t + 1,Ks ++ [y],A9,c9,j2,0,rfl,by go_num,by rw [List.length_append,HT.out]; rfl,by omega,fun h => absurd rfl h,HJ2.out,H9.out,HK9.out,HM9.out,by exact HST.out⟩
    case measure => simp [intOf]; omega
   ·have e0 : (f2 == 0) = false := by simp; exact hf2
    have hw := (Loops.list HW1.out hstep (fun e => absurd e hf2)).any hf2 ([] : List Int)
    have HW := hid hw; have HJ2 := hid hj2; have HH := hid (h2); have HKK := hid (hk2)
    obtain ⟨_,_,_⟩ := HH.out.cells
    clear hw hstep hw2 h2 k2 hm2 hk2 hmine hj2 hf2 hy1 hy2
    go_wp2
    go_ret
    exact ⟨[],none,0,0,j2,f2,rfl,own_nilZ _ _,rfl,Nat.zero_le _,HJ2.out,HH.out,HKK.out,HW.out⟩
  ·obtain rfl : t = m := by omega
   have hw := Loops.list HW1.out HLR.out (fun _ => by rw [HT.out])
   have HW := hid hw; have HMI := hid hmine
   clear hw hmine
   go_wp2
   go_ret
   exact ⟨Ks,A3,t,c3,j,f,rfl,HMI.out,HT.out,HM.out,HJ.out,HRY.out,HKR.out,HW.out⟩
def Bt.Tr (b : Bt) : Prop := (b.muts.length < 18446744073709551616 /\ ∀ m ∈ b.muts,m.1.size < 18446744073709551616 /\ m.2.Gd) /\ ((b.add.length < 18446744073709551616 /\ ∀ x ∈ b.add,Stm x.1 /\ x.2.size < 18446744073709551616) /\ (b.drop.length < 18446744073709551616 /\ ∀ v ∈ b.drop,Stm v))
theorem batch_codecT : Codec batchP bE Bt.Gd Bt.Tr :=
 batchT_codec.map (fun z => (⟨z.1,z.2.1,z.2.2⟩ : Bt)) (fun b => (b.muts,b.add,b.drop)) Bt.Gd Bt.Tr (fun _ _ => rfl) (fun _ h => h) (fun _ _ => rfl) (fun _ h => h)
theorem Went.batchL {l : Bs} {i j1 j2 j : Nat} {e f1 f2 f : Int} {M : List (ByteArray × Pa)} {N : List (Int × ByteArray)} {D : List Int} (H1 : Went (listP mutP) l i e M j1 f1) (H2 : Went (listP addP) l j1 f1 N j2 f2) (H6 : Went (listP numP) l j2 f2 D j f) : Went batchP l i e (⟨M,N,D⟩ : Bt) j f := by
 have W1 : Went (bindP (listP addP) fun a => bindP (listP numP) fun d => retP (a,d)) l j1 f1 (N,D) j f := H2.bind (H6.bind (Went.ret (N,D) H6.len f))
 have W2 : Went batchT l i e (M,(N,D)) j f := H1.bind (W1.bind (Went.ret (M,(N,D)) H6.len f))
 exact W2.map (q := fun z => (⟨z.1,z.2.1,z.2.2⟩ : Bt))
structure BatQ (w0 w : World) (z : BA) : Prop where
 muts : MutsQ w0 w z.AM z.M.length z.cM z.M
 notes : w.ownsRow w0.heap.size 57 2 (.slice z.AN z.N.length z.cN) z.N.length (nRow z.N)
 drops : w.ownsRow w0.heap.size 3 1 (.slice z.AD z.D.length z.cD) z.D.length (zRow z.D)
theorem BatQ.on {w0 w w' : World} {z : BA} (h : BatQ w0 w z) (hb : Below w.heap.size w w') : BatQ w0 w' z := ⟨h.muts.on hb,own_below h.notes hb,own_below h.drops hb⟩
theorem BatQ.lower {w0 w1 w : World} {z : BA} (h : BatQ w1 w z) (hb : w0.heap.size <= w1.heap.size) : BatQ w0 w z := ⟨h.muts.lower hb,own_down h.notes hb,own_down h.drops hb⟩
theorem BatQ.keptB {w0 w w' : World} {z : BA} {r : Nat} {cs : Array Value} (h : BatQ w0 w z) (hk : Kept (fun k => k = r) w w') (hr : w.heap[r]? = some (.cells cs 40 (0,0))) : BatQ w0 w' z :=
 ⟨h.muts.kept3 hk hr (by decide) (by decide) (by decide),own_keptQ h.notes hk hr (by decide),own_keptQ h.drops hk hr (by decide)⟩
theorem BatQ.keptR {w0 w w' : World} {z : BA} {r : Nat} {cs : Array Value} (h : BatQ w0 w z) (hk : Kept (fun k => k = r) w w') (hr : w.heap[r]? = some (.cells cs 184 (0,0))) : BatQ w0 w' z :=
 ⟨h.muts.kept1 hk hr,own_keptQ h.notes hk hr (by decide),own_keptQ h.drops hk hr (by decide)⟩
theorem own_capQ {w : World} {b n c size : Nat} {T : TypeId} {A : Option Addr} {xs : List Value} (h : w.ownsRow b T size (.slice A n c) n xs) : n <= c := by
 obtain ⟨_,_,e,h1,_⟩ := own_slice h
 injection e with _ _ e3
 subst e3
 exact h1
theorem BatQ.lies {w0 w : World} {z : BA} (h : BatQ w0 w z) : LiesB w w.heap.size z := ⟨h.muts.lies,RdN.of_own h.notes,RdZ.ofOwn h.drops,own_capQ h.notes,own_capQ h.drops⟩
theorem ybatch (YI : InnerOk) (q i n c : Nat) (e : Int) (A : Option Addr) (l : Bs) (w : World) (h : RY w q A n c l i e) (hi : i <= n) (hs : n <= 900000) :
    Calls Tryz.prog 75 #[.pointer (some ⟨q,0,none⟩)] w fun x w' => ∃ (z : BA) (j : Nat) (f : Int),x = .returned (bV z) /\ BatQ w w' z /\ j <= n /\ RY w' q A n c l j f /\ KeptQ q w w' /\ Went batchP l i e z.bt j f := by
 have hqw := h.lt
 have bz := (Below.refl w.heap.size w).alloc (Nat.le_refl _) (.cells #[.slice none 0 0,.slice none 0 0,.slice none 0 0] 40)
 have hz := heap_alloc_new w (.cells #[.slice none 0 0,.slice none 0 0,.slice none 0 0] 40)
 have h0 := h.below bz
 obtain ⟨V,hV⟩ : ∃ V,V = w.alloc (.cells #[.slice none 0 0,.slice none 0 0,.slice none 0 0] 40) := ⟨_,rfl⟩
 rw [<- hV] at bz hz h0
 have H0 := hid h0; have HZ0 := hid hz; have BZ := hid bz; have HQ := hid hqw; have HS := hid hs
 clear h bz hz h0 hqw hs
 go_enter Tryz.func75,Tryz.ntmps75
 go_wp2_with fail
 rw [<- hV]
 clear hV
 refine (ymuts YI q i n c e A l _ H0.out hi HS.out).mono ?_
 rintro x w1 ⟨M,A1,m1,c1,j1,f1,rfl,ho1,hl1,_,hj1,h1,k1,hw1⟩
 have H1 := hid h1; have HZ1 := hid (Kept.atQ k1 HZ0.out (by have := HQ.out; omega)); have K1 := hid (KeptQ.on (Kept.of_below BZ.out _) k1); have HW1 := hid hw1; have HJ1 := hid hj1; have HL1 := hid hl1
 have HO1 := hid (ho1.lower (w0 := w) BZ.out.size)
 clear h1 k1 hw1 hj1 hi ho1 hl1
 go_wp2_with fail
 refine (ynotes q j1 n c f1 A l _ H1.out HJ1.out HS.out).mono ?_
 rintro x w3 ⟨N,A3,m3,c3,j3,f3,rfl,ho3,hl3,_,hj3,h3,k3,hw3⟩
 have H3 := hid h3; have HZ3 := hid (Kept.atQ k3 HZ1.out (by have := HQ.out; omega)); have HO13 := hid (HO1.out.kept1 k3 H1.out.blk); have HO3 := hid (own_down ho3 K1.out.size); have K3 := hid (K1.out.on k3); have HW3 := hid hw3; have HJ3 := hid hj3; have HL3 := hid hl3
 clear h3 k3 hw3 hj3 ho3 hl3
 go_wp2_with fail
 refine (yints q j3 n c f3 A l _ H3.out HJ3.out HS.out).mono ?_
 rintro x w5 ⟨D,A5,m5,c5,j5,f5,rfl,ho5,hl5,_,hj5,h5,k5,hw5⟩
 have HZ5 := hid (Kept.atQ k5 HZ3.out (by have := HQ.out; omega))
 have hb5 : BatQ w w5 ⟨A1,c1,M,A3,c3,N,A5,c5,D⟩ := by
  have e1 := HL1.out
  have e3 := HL3.out
  subst e1
  subst e3
  subst hl5
  exact ⟨HO13.out.kept1 k5 H3.out.blk,own_keptQ HO3.out k5 H3.out.blk (by decide),own_down ho5 K3.out.size⟩
 have z0 := cell_at (i := 0) HZ5.out rfl
 have z1 := cell_at (i := 1) HZ5.out rfl
 have z2 := cell_at (i := 2) HZ5.out rfl
 have y0 := thawed_at (i := 0) HZ5.out
 have y1 := thawed_at (i := 1) HZ5.out
 have y2 := thawed_at (i := 2) HZ5.out
 have m9 := set3Q_block HZ5.out (.slice A1 m1 c1) (.slice A3 m3 c3) (.slice A5 m5 c5)
 have n9 := kept_set3Q (w := w5) w.heap.size (.slice A1 m1 c1) (.slice A3 m3 c3) (.slice A5 m5 c5)
 have R9 := hid (RY.other h5 n9 HQ.out)
 have K9 := hid ((K3.out.on k5).own n9 (Nat.le_refl _))
 have O9 := hid (hb5.keptB n9 HZ5.out)
 have HW : Hid (Went batchP l i e (⟨muts M,N,D⟩ : Bt) j5 f5) := hid (HW1.out.batchL HW3.out hw5)
 have HJ := hid hj5; have HL5 := hid hl5
 clear n9 h5 k5 hw5 hj5 ho5 hb5 hl5
 go_wp2
 generalize World.setCell (World.setCell (World.setCell w5 ⟨w.heap.size,0,none⟩ (.slice A1 m1 c1)) ⟨w.heap.size,1,none⟩ (.slice A3 m3 c3)) ⟨w.heap.size,2,none⟩ (.slice A5 m5 c5) = w9 at m9 K9 R9 O9 ⊢
 clear z0 z1 z2 y0 y1 y2
 have q0 := cell_at (i := 0) m9 rfl
 have q1 := cell_at (i := 1) m9 rfl
 have q2 := cell_at (i := 2) m9 rfl
 refine bodyPost_ret (v := .agg #[.slice A1 m1 c1,.slice A3 m3 c3,.slice A5 m5 c5]) ?_ rfl ?_
 ·simp [results,Tryz.results75,go_sem,q0,q1,q2]
 ·have e1 := HL1.out
  have e3 := HL3.out
  have e5 := HL5.out
  subst e1
  subst e3
  subst e5
  exact ⟨⟨A1,c1,M,A3,c3,N,A5,c5,D⟩,j5,f5,rfl,O9.out,HJ.out,R9.out,K9.out,HW.out⟩
def GivesH (w : World) (r : Except Int Bt) (x : Ending) (w' : World) : Prop := match r with
 | .ok p => ∃ z : BA,z.bt = p /\ x = .returned (.tuple #[bV z,.int .i64 0]) /\ BatQ w w' z /\ Below w.heap.size w w'
 | .error e => x = .returned (.tuple #[.agg #[.slice none 0 0,.slice none 0 0,.slice none 0 0],.int .i64 e]) /\ Below w.heap.size w w'
theorem btF_of {z : BA} (h : z.bt.Tr) {n : Nat} (hN : n <= 900000) (hn : (bE z.bt).length <= n) : BtF z := by
 obtain ⟨⟨h1,h2⟩,⟨h3,h4⟩,h5,h6⟩ := h
 unfold bE at hn
 simp only [List.length_append] at hn
 have l1 : (muts z.M).length <= ((muts z.M).flatMap mE).length := flat_length fun x _ => tE_pos x.1 _
 have l2 : z.N.length <= (z.N.flatMap aE).length := flat_length fun x _ => by unfold aE; rw [List.length_append]; have := numL_pos x.1.toNat; omega
 have l3 : z.D.length <= (z.D.flatMap fun v => numL v.toNat).length := flat_length fun x _ => numL_pos x.toNat
 have e1 : (z.bt.muts.flatMap mE).length = ((muts z.M).flatMap mE).length := rfl
 have e2 : (z.bt.add.flatMap aE).length = (z.N.flatMap aE).length := rfl
 have e3 : (z.bt.drop.flatMap fun v => numL v.toNat).length = (z.D.flatMap fun v => numL v.toNat).length := rfl
 rw [List.length_map] at l1
 refine ⟨fun y hy => ?_,fun y hy => ?_,by omega,by omega,by omega⟩
 ·have hm : mutOf y ∈ z.bt.muts := List.mem_map.2 ⟨y,hy,rfl⟩
  have l4 : (mE (mutOf y)).length <= ((muts z.M).flatMap mE).length := flat_in hm
  have l5 : (mE (mutOf y)).length = (tE y.tb).length + ((numL (pE (mutOf y).2).length).length + (pE (mutOf y).2).length) := by
   unfold mE
   simp only [List.length_append]
   rfl
  have l6 := tE_size y.tb
  have hgd := (h2 _ hm).2
  have hpn : (pE (mutOf y).2).length <= n := by omega
  have hp := pa_sizes hgd hpn
  have hpl : y.p.L.length <= n := by
   have := hp.2.1
   unfold mutOf at this
   dsimp only at this
   rw [List.length_map] at this
   exact this
  exact ⟨by omega,by omega,few_of_sizes hgd hN hpn rfl⟩
 ·have l4 : (aE y).length <= (z.N.flatMap aE).length := flat_in hy
  have l5 : (aE y).length = (numL y.1.toNat).length + (tE y.2).length := by unfold aE; rw [List.length_append]
  have l6 := tE_size y.2
  unfold maxLen
  omega
theorem get_batch (YI : InnerOk) (A : Option Addr) (n c B : Nat) (l : Bs) (w : World) (hr : Rd w B A n l) (hB : B <= w.heap.size) (hnc : n <= c) (hc : c <= maxLen) (hA : A = none -> c = 0) :
    Calls Tryz.prog 74 #[.slice A n c,.func (.func 75) #[] #[],.func (.func 76) #[] #[]] w (GivesH w (getBatch l)) := by
 have hl := hr.1
 have bz := (Below.refl w.heap.size w).alloc (Nat.le_refl _) (.cells #[.slice none 0 0,.slice none 0 0,.slice none 0 0] 40)
 have hz := heap_alloc_new w (.cells #[.slice none 0 0,.slice none 0 0,.slice none 0 0] 40)
 obtain ⟨V1,hV1⟩ : ∃ V,V = w.alloc (.cells #[.slice none 0 0,.slice none 0 0,.slice none 0 0] 40) := ⟨_,rfl⟩
 rw [<- hV1] at bz hz
 have hs1 : V1.heap.size = w.heap.size + 1 := by rw [hV1]; simp
 have bz2 := (Below.refl V1.heap.size V1).alloc (Nat.le_refl _) (.cells #[.slice none 0 0,.slice none 0 0,.slice none 0 0] 40)
 have hy := heap_alloc_new V1 (.cells #[.slice none 0 0,.slice none 0 0,.slice none 0 0] 40)
 have hz2 := at_newQ hz (.cells #[.slice none 0 0,.slice none 0 0,.slice none 0 0] 40)
 obtain ⟨V2,hV2⟩ : ∃ V,V = V1.alloc (.cells #[.slice none 0 0,.slice none 0 0,.slice none 0 0] 40) := ⟨_,rfl⟩
 rw [<- hV2] at bz2 hy hz2
 rw [hs1] at hy
 have hs2 : V2.heap.size = w.heap.size + 1 + 1 := by rw [hV2,<- hs1]; simp
 have hb2 : Below w.heap.size w V2 := bz.trans (bz2.mono bz.size)
 have HS2 := hid hs2
 by_cases hbig : 262144 < n
 ·have hres : getBatch l = .error 2 := by unfold getBatch getP; rw [if_pos (by omega)]
  rw [hres]
  have d1 : decide ((262144 : Int) < (n : Int)) = true := by simp; omega
  have d2 : decide (262144 < n) = true := by simp; omega
  have HB2 := hid hb2
  clear hbig hres hs1 bz bz2 hb2 hl hr hB hnc hc hA hs2 hz HS2
  subst hV2
  subst hV1
  have k0 := cell_at (i := 0) hy rfl
  have k1 := cell_at (i := 1) hy rfl
  have k2 := cell_at (i := 2) hy rfl
  have z0 := cell_at (i := 0) hz2 rfl
  have z1 := cell_at (i := 1) hz2 rfl
  have z2 := cell_at (i := 2) hz2 rfl
  have y0 := thawed_at (i := 0) hz2
  have y1 := thawed_at (i := 1) hz2
  have y2 := thawed_at (i := 2) hz2
  clear hz2 hy
  go_enter Tryz.func74,Tryz.ntmps74
  go_wp2
  refine bodyPost_ret (v := .tuple #[.agg #[.slice none 0 0,.slice none 0 0,.slice none 0 0],.int .i64 2]) ?_ rfl ?_
  ·simp [results,Tryz.results74,go_sem,z0,z1,z2]
  ·exact ⟨rfl,HB2.out⟩
 ·have d1 : decide ((262144 : Int) < (n : Int)) = false := by simp; omega
  have d2 : decide (262144 < n) = false := by simp; omega
  have bz3 := (Below.refl V2.heap.size V2).alloc (Nat.le_refl _) (.cells #[.slice A n c,.int .i64 0,.int .i64 0] 184)
  have hrb := heap_alloc_new V2 (.cells #[.slice A n c,.int .i64 0,.int .i64 0] 184)
  have hz3 := at_newQ hz2 (.cells #[.slice A n c,.int .i64 0,.int .i64 0] 184)
  have hy3 := at_newQ hy (.cells #[.slice A n c,.int .i64 0,.int .i64 0] 184)
  obtain ⟨V3,hV3⟩ : ∃ V,V = V2.alloc (.cells #[.slice A n c,.int .i64 0,.int .i64 0] 184) := ⟨_,rfl⟩
  rw [<- hV3] at bz3 hrb hz3 hy3
  rw [hs2] at hrb
  have hb3 : Below w.heap.size w V3 := hb2.trans (bz3.mono hb2.size)
  have hry : RY V3 (w.heap.size + 1 + 1) A n c l 0 0 := ⟨hrb,(hr.below (hb3.mono hB)).up (by omega),hnc,hc,hA⟩
  have HRY := hid hry; have HZ3' := hid hz3; have HY3' := hid hy3; have B3' := hid hb3; have HN := hid (show n <= 262144 by omega); have HL := hid hl
  clear hry hz3 hy3 hb3 hbig hs1 bz bz2 bz3 hb2 hl hr hB hnc hc hA hs2 hz hz2 hy hrb
  go_enter Tryz.func74,Tryz.ntmps74
  go_wp2_with fail
  rw [<- hV1,<- hV2,<- hV3]
  clear hV1 hV2 hV3
  refine (ybatch YI (w.heap.size + 1 + 1) 0 n c 0 A l V3 HRY.out (Nat.zero_le _) (by have := HN.out; omega)).mono ?_
  rintro x w1 ⟨z,j,f,rfl,hrows,hj,h1,k1,hw⟩
  have ba := (Below.refl w1.heap.size w1).alloc (Nat.le_refl _) (bO z)
  have hp1 := heap_alloc_new w1 (bO z)
  have hz1 := at_newQ (Kept.atQ k1 HZ3'.out (by omega)) (bO z)
  have hy1 := at_newQ (Kept.atQ k1 HY3'.out (by omega)) (bO z)
  have h1' := h1.below ba
  have hrows1 := hrows.on ba
  have hb1 := B3'.out.trans ((k1.new ba).below (fun k hk => by subst hk; exact Nat.le_trans (Nat.le_add_right _ 2) (Nat.le_refl _)) (Nat.le_trans (Nat.le_refl _) B3'.out.size) : Below w.heap.size V3 _)
  obtain ⟨U1,hU1⟩ : ∃ U,U = w1.alloc (bO z) := ⟨_,rfl⟩
  rw [<- hU1] at hp1 hz1 hy1 h1' hrows1 hb1
  have HQW : Hid (w.heap.size + 1 + 1 < w1.heap.size) := hid h1.lt
  have HP1 := hid hp1; have HZ1 := hid hz1; have HY1 := hid hy1; have H1 := hid h1'; have HR1 := hid hrows1; have HB1 := hid hb1; have HW := hid hw; have HJ := hid hj
  clear hp1 hz1 hy1 h1' hrows1 hb1 hw hj h1 k1 hrows ba
  go_wp2_with fail
  rw [<- hU1]
  clear hU1
  refine (yend (w.heap.size + 1 + 1) j n c f A l U1 H1.out HJ.out).mono ?_
  rintro x w3 ⟨rfl,h3,k3⟩
  obtain ⟨F,hF⟩ : ∃ F,(if f = 0 /\ j < n then (6 : Int) else f) = F := ⟨_,rfl⟩
  rw [hF] at h3
  have R3 := hid h3
  have HZ3 := hid (Kept.atQ k3 HZ1.out (by omega)); have HY3 := hid (Kept.atQ k3 HY1.out (by omega)); have HP3 := hid (Kept.atQ k3 HP1.out (by have := HQW.out; omega))
  have HR3 := hid (HR1.out.keptR k3 H1.out.blk)
  have B3 := hid (HB1.out.trans (k3.below (fun k hk => by subst hk; omega) HB1.out.size))
  have hres : F ≠ 0 -> getBatch l = .error F := fun h => by
   have hlen := HL.out
   have hnn := HN.out
   unfold getBatch getP
   rw [if_neg (by omega)]
   by_cases hf : f = 0
   ·subst hf
    have h5 := HW.out.ok rfl rfl
    rw [List.drop_zero] at h5
    rw [h5]
    dsimp only
    by_cases hjn : j < n
    ·rw [if_pos ⟨rfl,hjn⟩] at hF
     rw [if_neg (fun h => by have := congrArg List.length h; rw [List.length_drop,List.length_nil] at this; omega),<- hF]
    ·rw [if_neg (fun h => hjn h.2)] at hF
     exact absurd hF.symm h
   ·rw [if_neg (fun h => hf h.1)] at hF
    have h5 := HW.out.no rfl hf
    rw [List.drop_zero] at h5
    rw [h5,<- hF]
  have hres0 : F = 0 -> batchP l = .ok (z.bt,[]) := fun h => by
   have hlen := HL.out
   subst h
   have hf : f = 0 := by
    refine Decidable.byContradiction fun hf => ?_
    rw [if_neg (fun h => hf h.1)] at hF
    exact hf hF
   subst hf
   have hjn : ¬ j < n := fun hjn => by
    rw [if_pos ⟨rfl,hjn⟩] at hF
    cases hF
   have h5 := HW.out.ok rfl rfl
   rw [List.drop_zero,List.drop_eq_nil_of_le (by omega)] at h5
   exact h5
  have HRES := hid hres; have HRES0 := hid hres0
  clear hres hres0 h3 k3 hF HZ1 HY1 HP1 H1 HR1 HB1
  obtain ⟨_,_,c2⟩ := R3.out.cells
  by_cases hF0 : F = 0
  ·subst hF0
   have hpp := HRES0.out rfl
   have hcn := batch_codecT.canon hpp
   rw [List.append_nil] at hcn
   have hfew : BtF z := btF_of hcn.2 (n := n) (by have := HN.out; omega) (by rw [<- hcn.1,HL.out]; exact Nat.le_refl _)
   obtain ⟨u,hu⟩ : ∃ u,z.bt.ok = u := ⟨_,rfl⟩
   have hgp : getBatch l = (if u = true then .ok z.bt else .error 1) := by
    unfold getBatch getP
    rw [if_neg (by have := HN.out; have := HL.out; omega),hpp]
    dsimp only
    rw [if_pos rfl,hu]
   have N := checkBatch_any z w3.heap.size w3 HR3.out.lies (Nat.le_refl _) hfew
   rw [hu] at N
   have HNC := hid N; have HGP := hid hgp
   have k0 := cell_at (i := 0) HP3.out rfl
   have k1 := cell_at (i := 1) HP3.out rfl
   have k2 := cell_at (i := 2) HP3.out rfl
   clear hpp hcn hfew hu hgp N HRES HRES0
   go_wp2_with fail
   clear c2
   refine HNC.out.mono ?_
   rintro x w4 ⟨rfl,b4⟩
   have HZ9 := hid ((b4.block _ (Array.getElem?_eq_some_iff.1 HZ3.out).1).trans HZ3.out)
   have HY9 := hid ((b4.block _ (Array.getElem?_eq_some_iff.1 HY3.out).1).trans HY3.out)
   have HP9 := hid ((b4.block _ (Array.getElem?_eq_some_iff.1 HP3.out).1).trans HP3.out)
   have HR9 := hid (HR3.out.on b4)
   have B4 := hid (B3.out.trans (b4.mono B3.out.size))
   clear b4 k0 k1 k2
   cases u with
   | false =>
     have k0 := cell_at (i := 0) HY9.out rfl
     have k1 := cell_at (i := 1) HY9.out rfl
     have k2 := cell_at (i := 2) HY9.out rfl
     have m9 := set3Q_block HZ9.out (.slice none 0 0) (.slice none 0 0) (.slice none 0 0)
     have b9 := kept_set3Q (w := w4) w.heap.size (.slice none 0 0) (.slice none 0 0) (.slice none 0 0)
     have z0 := cell_at (i := 0) HZ9.out rfl
     have z1 := cell_at (i := 1) HZ9.out rfl
     have z2 := cell_at (i := 2) HZ9.out rfl
     have y0 := thawed_at (i := 0) HZ9.out
     have y1 := thawed_at (i := 1) HZ9.out
     have y2 := thawed_at (i := 2) HZ9.out
     have B9 := hid (B4.out.trans (b9.below (fun k hk => by subst hk; exact Nat.le_refl _) B4.out.size))
     clear b9
     go_wp2
     generalize World.setCell (World.setCell (World.setCell w4 ⟨w.heap.size,0,none⟩ (.slice none 0 0)) ⟨w.heap.size,1,none⟩ (.slice none 0 0)) ⟨w.heap.size,2,none⟩ (.slice none 0 0) = w9 at m9 B9 ⊢
     clear z0 z1 z2 y0 y1 y2
     have q0 := cell_at (i := 0) m9 rfl
     have q1 := cell_at (i := 1) m9 rfl
     have q2 := cell_at (i := 2) m9 rfl
     refine bodyPost_ret (v := .tuple #[.agg #[.slice none 0 0,.slice none 0 0,.slice none 0 0],.int .i64 1]) ?_ rfl ?_
     ·simp [results,Tryz.results74,go_sem,q0,q1,q2]
     ·rw [HGP.out]
      exact ⟨rfl,B9.out⟩
   | true =>
     have k0 := cell_at (i := 0) HP9.out rfl
     have k1 := cell_at (i := 1) HP9.out rfl
     have k2 := cell_at (i := 2) HP9.out rfl
     have m9 := set3Q_block HZ9.out (.slice z.AM z.M.length z.cM) (.slice z.AN z.N.length z.cN) (.slice z.AD z.D.length z.cD)
     have b9 := kept_set3Q (w := w4) w.heap.size (.slice z.AM z.M.length z.cM) (.slice z.AN z.N.length z.cN) (.slice z.AD z.D.length z.cD)
     have z0 := cell_at (i := 0) HZ9.out rfl
     have z1 := cell_at (i := 1) HZ9.out rfl
     have z2 := cell_at (i := 2) HZ9.out rfl
     have y0 := thawed_at (i := 0) HZ9.out
     have y1 := thawed_at (i := 1) HZ9.out
     have y2 := thawed_at (i := 2) HZ9.out
     have B9 := hid (show _ /\ _ from ⟨B4.out.trans (b9.below (fun k hk => by subst hk; exact Nat.le_refl _) B4.out.size),(HR9.out.lower (w0 := w) B3'.out.size).keptB b9 HZ9.out⟩)
     clear b9
     go_wp2
     generalize World.setCell (World.setCell (World.setCell w4 ⟨w.heap.size,0,none⟩ (.slice z.AM z.M.length z.cM)) ⟨w.heap.size,1,none⟩ (.slice z.AN z.N.length z.cN)) ⟨w.heap.size,2,none⟩ (.slice z.AD z.D.length z.cD) = w9 at m9 B9 ⊢
     clear z0 z1 z2 y0 y1 y2
     have q0 := cell_at (i := 0) m9 rfl
     have q1 := cell_at (i := 1) m9 rfl
     have q2 := cell_at (i := 2) m9 rfl
     refine bodyPost_ret (v := .tuple #[.agg #[.slice z.AM z.M.length z.cM,.slice z.AN z.N.length z.cN,.slice z.AD z.D.length z.cD],.int .i64 0]) ?_ rfl ?_
     ·simp [results,Tryz.results74,go_sem,q0,q1,q2]
     ·rw [HGP.out]
      exact ⟨z,rfl,rfl,B9.out.2,B9.out.1⟩
  ·have e0 : (F == 0) = false := by simp; exact hF0
   have HRR := hid (HRES.out hF0)
   have HS8 := hid (show _ /\ _ /\ _ /\ _ from ⟨cell_at (i := 0) HY3.out rfl,cell_at (i := 1) HY3.out rfl,cell_at (i := 2) HY3.out rfl,c2⟩)
   clear hF0 HRES HRES0
   go_wp2_with fail
   clear c2
   refine wp_region_held_drew (S := fun w' => w'.cell? ⟨w.heap.size + 1,0,none⟩ = some (.slice none 0 0) /\ w'.cell? ⟨w.heap.size + 1,1,none⟩ = some (.slice none 0 0) /\ w'.cell? ⟨w.heap.size + 1,2,none⟩ = some (.slice none 0 0) /\ w'.cell? ⟨w.heap.size + 1 + 1,2,none⟩ = some (.int .i64 F)) (by kernel_rfl) ?_ (fun hHeld => ?_)
   ·exact HS8.out
   refine takesH [0,1,2] ?_
   repeat
    refine takesH_one (v := ?_) ?_ ?_
    rotate_left
    ·first | (refine Or.inr ⟨by rfl,?_⟩; with_reducible rfl) | (refine Or.inl ⟨by rfl,?_⟩; intro wx hSw; (try dsimp only at hSw); first | (go_simp; first | done | with_reducible rfl) | (obtain ⟨_,_,_,_⟩ := hSw; go_simp; first | done | with_reducible rfl))
    try simp only [Act.put,zq1,zq2,zq3,zq4,zq5,zq6]
   refine takesH_nil ?_
   refine wpAnyH_ready (rs := [3]) (by kernel_rfl) (by simp) (AllReadyH.cons rfl (fun K hK => ?_) AllReadyH.nil)
   obtain ⟨U,hU⟩ : ∃ U,U = w3.drew := ⟨_,rfl⟩
   rw [<- hU]
   have HZ : Hid (U.heap[w.heap.size]? = some (.cells #[.slice none 0 0,.slice none 0 0,.slice none 0 0] 40)) := hid (by rw [hU]; exact HZ3.out)
   have hz4 : U.heap[w.heap.size + 1]? = some (.cells #[.slice none 0 0,.slice none 0 0,.slice none 0 0] 40) := by rw [hU]; exact HY3.out
   have hr4 : RY U (w.heap.size + 1 + 1) A n c l j F := by rw [hU]; exact R3.out.drew
   have hbU : Below w.heap.size w U := by rw [hU]; exact B3.out.drew
   clear hU
   have z0 := cell_at (i := 0) HZ.out rfl
   have z1 := cell_at (i := 1) HZ.out rfl
   have z2 := cell_at (i := 2) HZ.out rfl
   have y0 := thawed_at (i := 0) HZ.out
   have y1 := thawed_at (i := 1) HZ.out
   have y2 := thawed_at (i := 2) HZ.out
   have m9 := set3Q_block HZ.out (.slice none 0 0) (.slice none 0 0) (.slice none 0 0)
   have b9 := (kept_set3Q (w := U) w.heap.size (.slice none 0 0) (.slice none 0 0) (.slice none 0 0))
   have B9 := hid (hbU.trans (b9.below (fun k hk => by subst hk; exact Nat.le_refl _) hbU.size))
   have hy9 := Kept.atQ b9 hz4 (by omega)
   have hb9 := Kept.atQ b9 hr4.blk (by omega)
   have S9 := hid (show _ /\ _ /\ _ /\ _ from ⟨cell_at (i := 0) hy9 rfl,cell_at (i := 1) hy9 rfl,cell_at (i := 2) hy9 rfl,cell_at (i := 2) hb9 rfl⟩)
   clear hz4 hr4 hbU b9 hy9 hb9
   go_simp
   refine hK.out _ _ ?_ (fun hHeld => ?_)
   ·exact S9.out
   clear hK K
   try simp only [Act.put,zq1,zq2,zq3,zq4,zq5,zq6]
   clear z0 z1 z2 y0 y1 y2
   refine takesH [4] ?_
   repeat
    refine takesH_one (v := ?_) ?_ ?_
    rotate_left
    ·first | (refine Or.inr ⟨by rfl,?_⟩; with_reducible rfl) | (refine Or.inl ⟨by rfl,?_⟩; intro wx hSw; (try dsimp only at hSw); first | (go_simp; first | done | with_reducible rfl))
    try simp only [Act.put,zq1,zq2,zq3,zq4,zq5,zq6]
   refine takesH_nil ?_
   refine wpAnyH_done (by kernel_rfl) ?_ _
   generalize World.setCell (World.setCell (World.setCell U ⟨w.heap.size,0,none⟩ (.slice none 0 0)) ⟨w.heap.size,1,none⟩ (.slice none 0 0)) ⟨w.heap.size,2,none⟩ (.slice none 0 0) = w9 at m9 B9 S9 hHeld ⊢
   go_wp2
   have q0 := cell_at (i := 0) m9 rfl
   have q1 := cell_at (i := 1) m9 rfl
   have q2 := cell_at (i := 2) m9 rfl
   refine bodyPost_ret (v := .tuple #[.agg #[.slice none 0 0,.slice none 0 0,.slice none 0 0],.int .i64 F]) ?_ rfl ?_
   ·simp [results,Tryz.results74,go_sem,q0,q1,q2]
   ·rw [HRR.out]
    exact ⟨rfl,B9.out⟩
theorem getBatch_any (YI : InnerOk) (A : Option Addr) (n c B : Nat) (l : Bs) (w : World) (hr : Rd w B A n l) (hB : B <= w.heap.size) (hnc : n <= c) (hc : c <= maxLen) (hA : A = none -> c = 0) :
    Calls Tryz.prog 45 #[.slice A n c] w (GivesH w (getBatch l)) := by
 have bz := (Below.refl w.heap.size w).alloc (Nat.le_refl _) (.cells #[.slice none 0 0,.slice none 0 0,.slice none 0 0] 40)
 have hz := heap_alloc_new w (.cells #[.slice none 0 0,.slice none 0 0,.slice none 0 0] 40)
 obtain ⟨V,hV⟩ : ∃ V,V = w.alloc (.cells #[.slice none 0 0,.slice none 0 0,.slice none 0 0] 40) := ⟨_,rfl⟩
 rw [<- hV] at bz hz
 have N := get_batch YI A n c B l V (hr.below (bz.mono hB)) (Nat.le_trans hB bz.size) hnc hc hA
 obtain ⟨R,hR⟩ : ∃ R,getBatch l = R := ⟨_,rfl⟩
 rw [hR] at N ⊢
 have HZ := hid hz; have BZ := hid bz; have HN := hid N
 clear bz hz N hr hB hnc hc hA hR
 go_enter Tryz.func45,Tryz.ntmps45
 go_wp2_with fail
 rw [<- hV]
 clear hV
 refine HN.out.mono ?_
 intro x w1 hg
 cases R with
 | error e =>
   obtain ⟨rfl,b1⟩ := hg
   have HZ1 := hid ((b1.block _ (Array.getElem?_eq_some_iff.1 HZ.out).1).trans HZ.out)
   have B1 := hid (next BZ.out b1)
   have z0 := cell_at (i := 0) HZ1.out rfl
   have z1 := cell_at (i := 1) HZ1.out rfl
   have z2 := cell_at (i := 2) HZ1.out rfl
   have y0 := thawed_at (i := 0) HZ1.out
   have y1 := thawed_at (i := 1) HZ1.out
   have y2 := thawed_at (i := 2) HZ1.out
   have m9 := set3Q_block HZ1.out (.slice none 0 0) (.slice none 0 0) (.slice none 0 0)
   have b9 := (kept_set3Q (w := w1) w.heap.size (.slice none 0 0) (.slice none 0 0) (.slice none 0 0)).below (B := w.heap.size) (fun k hk => by subst hk; exact Nat.le_refl _) B1.out.size
   have B9 := hid (B1.out.trans b9)
   clear b1 b9
   go_wp2
   generalize World.setCell (World.setCell (World.setCell w1 ⟨w.heap.size,0,none⟩ (.slice none 0 0)) ⟨w.heap.size,1,none⟩ (.slice none 0 0)) ⟨w.heap.size,2,none⟩ (.slice none 0 0) = w9 at m9 B9 ⊢
   clear z0 z1 z2 y0 y1 y2
   have q0 := cell_at (i := 0) m9 rfl
   have q1 := cell_at (i := 1) m9 rfl
   have q2 := cell_at (i := 2) m9 rfl
   refine bodyPost_ret (v := .tuple #[.agg #[.slice none 0 0,.slice none 0 0,.slice none 0 0],.int .i64 e]) ?_ rfl ?_
   ·simp [results,Tryz.results45,go_sem,q0,q1,q2]
   ·exact ⟨rfl,B9.out⟩
 | ok p =>
   obtain ⟨z,hp,rfl,hrows,b1⟩ := hg
   have HZ1 := hid ((b1.block _ (Array.getElem?_eq_some_iff.1 HZ.out).1).trans HZ.out)
   have B1 := hid (next BZ.out b1)
   have z0 := cell_at (i := 0) HZ1.out rfl
   have z1 := cell_at (i := 1) HZ1.out rfl
   have z2 := cell_at (i := 2) HZ1.out rfl
   have y0 := thawed_at (i := 0) HZ1.out
   have y1 := thawed_at (i := 1) HZ1.out
   have y2 := thawed_at (i := 2) HZ1.out
   have m9 := set3Q_block HZ1.out (.slice z.AM z.M.length z.cM) (.slice z.AN z.N.length z.cN) (.slice z.AD z.D.length z.cD)
   have k9 := kept_set3Q (w := w1) w.heap.size (.slice z.AM z.M.length z.cM) (.slice z.AN z.N.length z.cN) (.slice z.AD z.D.length z.cD)
   have b9 := k9.below (B := w.heap.size) (fun k hk => by subst hk; exact Nat.le_refl _) B1.out.size
   have B9 := hid (show _ /\ _ from ⟨B1.out.trans b9,(hrows.lower (w0 := w) BZ.out.size).keptB k9 HZ1.out⟩)
   have HP := hid hp
   clear b1 b9 k9 hrows hp
   go_wp2
   generalize World.setCell (World.setCell (World.setCell w1 ⟨w.heap.size,0,none⟩ (.slice z.AM z.M.length z.cM)) ⟨w.heap.size,1,none⟩ (.slice z.AN z.N.length z.cN)) ⟨w.heap.size,2,none⟩ (.slice z.AD z.D.length z.cD) = w9 at m9 B9 ⊢
   clear z0 z1 z2 y0 y1 y2
   have q0 := cell_at (i := 0) m9 rfl
   have q1 := cell_at (i := 1) m9 rfl
   have q2 := cell_at (i := 2) m9 rfl
   refine bodyPost_ret (v := .tuple #[.agg #[.slice z.AM z.M.length z.cM,.slice z.AN z.N.length z.cN,.slice z.AD z.D.length z.cD],.int .i64 0]) ?_ rfl ?_
   ·simp [results,Tryz.results45,go_sem,q0,q1,q2]
   ·exact ⟨z,HP.out,rfl,B9.out.2,B9.out.1⟩
theorem Went.nest {α : Type} {p : Pz α} {l k : Bs} {i j j2 : Nat} {e f f2 : Int} {x : α} (H1 : Went bodyP l i e k j f) (H2 : Went p k 0 f x j2 f2) : Went (nestP p) l i e x j (if f2 = 0 /\ j2 < k.length then 6 else f2) := by
 unfold nestP
 refine H1.bind ⟨fun _ => Nat.le_refl _,H1.len,fun hf => ?_,fun hf h => ?_,fun hf h => ?_⟩
 ·have h2 := H2.stays hf
  rw [if_neg (fun h => hf (by rw [<- h2]; exact h.1)),h2]
 ·by_cases hc : f2 = 0 /\ j2 < k.length
  ·rw [if_pos hc] at h; cases h
  ·rw [if_neg hc] at h
   have h3 := H2.ok hf h
   rw [List.drop_zero] at h3
   have h4 : k.drop j2 = [] := List.drop_eq_nil_of_le (by have h5 : ¬ j2 < k.length := fun h6 => hc ⟨h,h6⟩; omega)
   rw [h4] at h3
   simp only [h3]
   rfl
 ·by_cases h0 : f2 = 0
  ·have h5 : j2 < k.length := by
    refine Decidable.byContradiction fun h6 => h ?_
    rw [if_neg (fun h7 => h6 h7.2)]
    exact h0
   rw [if_pos ⟨h0,h5⟩]
   have h3 := H2.ok hf h0
   rw [List.drop_zero] at h3
   have h4 : k.drop j2 ≠ [] := fun h6 => by have := congrArg List.length h6; rw [List.length_drop,List.length_nil] at this; omega
   simp only [h3,if_neg h4]
  ·rw [if_neg (fun h7 => h0 h7.1)]
   have h3 := H2.no hf h0
   rw [List.drop_zero] at h3
   simp only [h3]
theorem yinner : InnerOk := by
 intro q i n c e A l w h hi hs
 have hqw := h.lt
 have bz := (Below.refl w.heap.size w).alloc (Nat.le_refl _) (.cells #[.string ⟨#[]⟩,.int .i64 0,.slice none 0 0] 33)
 have hz := heap_alloc_new w (.cells #[.string ⟨#[]⟩,.int .i64 0,.slice none 0 0] 33)
 have h0 := h.below bz
 obtain ⟨V,hV⟩ : ∃ V,V = w.alloc (.cells #[.string ⟨#[]⟩,.int .i64 0,.slice none 0 0] 33) := ⟨_,rfl⟩
 rw [<- hV] at bz hz h0
 have H0 := hid h0; have HZ0 := hid hz; have BZ := hid bz; have HQ := hid hqw; have HS := hid hs
 clear h bz hz h0 hqw hs
 go_enter Tryz.func167,Tryz.ntmps167
 go_wp2_with fail
 rw [<- hV]
 clear hV
 refine (ybytes q i n c e A l _ H0.out hi (by have := HS.out; omega)).mono ?_
 rintro x w1 ⟨B,m,k,j,f,rfl,hm,hrd,hA,hf0,hj,h1,k1,hw1⟩
 have hlen : k.length = m := hrd.1
 have hmax : m <= maxLen := by have := HS.out; unfold maxLen; omega
 have hz1 := Kept.atQ k1 HZ0.out (by have := HQ.out; omega)
 have K1 := hid (KeptQ.on (Kept.of_below BZ.out _) k1)
 have hq1 := h1.lt
 have hs1 : w.heap.size < w1.heap.size := (Array.getElem?_eq_some_iff.1 hz1).1
 have ba := (Below.refl w1.heap.size w1).alloc (Nat.le_refl _) (.cells #[.slice B m m,.int .i64 0,.int .i64 f] 184)
 have hin := heap_alloc_new w1 (.cells #[.slice B m m,.int .i64 0,.int .i64 f] 184)
 obtain ⟨U,hU⟩ : ∃ U,U = w1.alloc (.cells #[.slice B m m,.int .i64 0,.int .i64 f] 184) := ⟨_,rfl⟩
 rw [<- hU] at ba hin
 have hry : RY U w1.heap.size B m m k 0 f := ⟨hin,(hrd.below (ba.mono (Nat.le_of_lt hq1))).up (Nat.le_of_lt hq1),Nat.le_refl _,hmax,hA⟩
 have HIN := hid hry
 have H1 := hid (h1.below ba)
 have HZ1 := hid ((ba.block _ hs1).trans hz1)
 have KU := hid (K1.out.new ba)
 have HW1 := hid hw1; have HJ := hid hj; have HM := hid (show m <= 900000 by have := HS.out; omega); have HK := hid hlen
 have HS1 := hid hs1; have HQ1 := hid hq1; have HSU := hid (show w1.heap.size < U.heap.size from hry.lt)
 obtain ⟨_,_,_⟩ := h1.cells
 clear hrd hA hf0 hm hj h1 k1 hw1 hlen hmax hz1 hs1 hq1 ba hin hry hi
 go_wp2_with fail
 rw [<- hU]
 clear hU
 refine (ypart w1.heap.size 0 m m f B k U HIN.out (Nat.zero_le _) HM.out).mono ?_
 rintro x w2 ⟨⟨zk,zg,zL,zA,zc⟩,j2,f2,rfl,hrows,hj2,h2,k2,hw2⟩
 dsimp only at hrows hw2
 have bp := (Below.refl w2.heap.size w2).alloc (Nat.le_refl _) (.cells #[.string zk,.int .i64 zg,.slice zA zL.length zc] 33)
 have hp2 := heap_alloc_new w2 (.cells #[.string zk,.int .i64 zg,.slice zA zL.length zc] 33)
 obtain ⟨P,hP⟩ : ∃ P,P = w2.alloc (.cells #[.string zk,.int .i64 zg,.slice zA zL.length zc] 33) := ⟨_,rfl⟩
 rw [<- hP] at bp hp2
 have hr2 := (hrows.lower (w0 := w) KU.out.size).on bp
 have hq2 := (RY.other H1.out k2 HQ1.out).below bp
 have hz2 := (bp.block _ (Nat.lt_of_lt_of_le (Nat.lt_trans HS1.out HSU.out) k2.size)).trans (Kept.atQ k2 HZ1.out (by have := HS1.out; omega))
 have kp := (KU.out.own k2 (Nat.le_of_lt HS1.out)).new bp
 have hl2 : w1.heap.size < w2.heap.size := Nat.lt_of_lt_of_le HSU.out k2.size
 have H2 := hid (h2.below bp); have HR2 := hid hr2; have HQ2 := hid hq2; have HZ2 := hid hz2; have KP := hid kp; have HP2 := hid hp2
 have HW2 := hid hw2; have HJ2 := hid hj2; have HL2 := hid hl2
 clear hrows hj2 h2 k2 hw2 bp hp2 hr2 hq2 hz2 kp hl2
 go_wp2_with fail
 rw [<- hP]
 clear hP
 refine (yend w1.heap.size j2 m m f2 B k P H2.out HJ2.out).mono ?_
 rintro x w3 ⟨rfl,h3,k3⟩
 obtain ⟨F,hF⟩ : ∃ F,(if f2 = 0 /\ j2 < m then (6 : Int) else f2) = F := ⟨_,rfl⟩
 rw [hF] at h3
 have HW : Hid (Went (nestP partP) l i e ⟨zk,zg,ros zL⟩ j F) := by
  have h4 := HW1.out.nest HW2.out
  rw [HK.out,hF] at h4
  exact hid h4
 have hq3 := RY.other HQ2.out k3 HQ1.out
 have hz3 := Kept.atQ k3 HZ2.out (by have := HS1.out; omega)
 have hp3 := Kept.atQ k3 HP2.out (by have := HL2.out; omega)
 have hr3 := HR2.out.kept1 k3 H2.out.blk (by decide) (by decide)
 have kq3 := KP.out.own k3 (Nat.le_of_lt HS1.out)
 have c3 := h3.cells.2.2
 have y3 := hq3.thaw 2
 have hq4 := hq3.put2 F
 have k4 : Kept (fun k => k = q) w3 (w3.setCell ⟨q,2,none⟩ (.int .i64 F)) := Kept.setCell (fun k => k = q) w3 ⟨q,2,none⟩ (.int .i64 F) rfl
 have hz4 := Kept.atQ k4 hz3 (by have := HQ.out; omega)
 have hp4 := Kept.atQ k4 hp3 (by have := HL2.out; have := HQ1.out; omega)
 have hr4 := hr3.kept1 k4 hq3.blk (by decide) (by decide)
 have kq4 := kq3.on k4
 obtain ⟨_,_,c2⟩ := hq3.cells
 have HQ4 := hid hq4; have HZ4 := hid hz4; have HP4 := hid hp4; have HR4 := hid hr4; have KQ4 := hid kq4
 clear h3 k3 hF hq3 hz3 hp3 hr3 kq3 hq4 k4 hz4 hp4 hr4 kq4
 have k0 := cell_at (i := 0) HP4.out rfl
 have k1 := cell_at (i := 1) HP4.out rfl
 have k2 := cell_at (i := 2) HP4.out rfl
 have z0 := cell_at (i := 0) HZ4.out rfl
 have z1 := cell_at (i := 1) HZ4.out rfl
 have z2 := cell_at (i := 2) HZ4.out rfl
 have y0 := thawed_at (i := 0) HZ4.out
 have y1 := thawed_at (i := 1) HZ4.out
 have y2 := thawed_at (i := 2) HZ4.out
 obtain ⟨W4,hW4⟩ : ∃ W,W = w3.setCell ⟨q,2,none⟩ (.int .i64 F) := ⟨_,rfl⟩
 have m9 := set3Q_block HZ4.out (.string zk) (.int .i64 zg) (.slice zA zL.length zc)
 have n9 := kept_set3Q (w := w3.setCell ⟨q,2,none⟩ (.int .i64 F)) w.heap.size (.string zk) (.int .i64 zg) (.slice zA zL.length zc)
 have R9 := hid (RY.other HQ4.out n9 HQ.out)
 have K9 := hid (KQ4.out.own n9 (Nat.le_refl _))
 have RW9 := hid (HR4.out.kept1 n9 HZ4.out (by decide) (by decide))
 clear n9 hW4
 go_wp2
 generalize World.setCell (World.setCell (World.setCell (w3.setCell ⟨q,2,none⟩ (.int .i64 F)) ⟨w.heap.size,0,none⟩ (.string zk)) ⟨w.heap.size,1,none⟩ (.int .i64 zg)) ⟨w.heap.size,2,none⟩ (.slice zA zL.length zc) = w9 at m9 K9 R9 RW9 ⊢
 clear z0 z1 z2 y0 y1 y2 k0 k1 k2
 have q0 := cell_at (i := 0) m9 rfl
 have q1 := cell_at (i := 1) m9 rfl
 have q2 := cell_at (i := 2) m9 rfl
 refine bodyPost_ret (v := .agg #[.string zk,.int .i64 zg,.slice zA zL.length zc]) ?_ rfl ?_
 ·simp [results,Tryz.results167,go_sem,q0,q1,q2]
 ·exact ⟨⟨zk,zg,zL,zA,zc⟩,j,F,rfl,RW9.out,HJ.out,R9.out,K9.out,HW.out⟩
end Go.Proofs.YtmpcnhpdobdmcaaGreatDoor
