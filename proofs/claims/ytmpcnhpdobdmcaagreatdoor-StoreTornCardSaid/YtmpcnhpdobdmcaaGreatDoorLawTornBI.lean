import Derived.Test.YtmpcnhpdobdmcaaGreatDoorLawTornY
import Derived.Test.YtmpcnhpdobdmcaaGreatDoorLawTornQ
import Derived.Test.YtmpcnhpdobdmcaaGreatDoorLawTornBH
import Derived.Test.YtmpcnhpdobdmcaaGreatDoorRows
import Derived.LaidMore
import Derived.Stop.Joined
import Derived.Stop.LaidTwo
open Go.Lib (hid)
set_option linter.unusedVariables false
set_option linter.unusedSimpArgs false
set_option maxHeartbeats 2000000
set_option maxRecDepth 100000
namespace Go.Proofs.YtmpcnhpdobdmcaaGreatDoor
open Go Go.RowKit
def partsOf (s : St) (t : ByteArray) : List Pa := match getK Tb.nm s.tb t with | some T => T.ps | none => []
def getPt (s : St) (t k : ByteArray) : Pa := (getK Pa.key (partsOf s t) k).getD ⟨k,0,[]⟩
def InE (F : Nat -> Prop) (w : World) : Prop := ∃ a0 a1 a2 a3,ErIn F w a0 a1 a2 a3
def EB (w : World) : Prop := ∃ a0 a1 a2 a3,Ers w a0 a1 a2 a3
section
variable {F F' : Nat -> Prop} {w w' : World}
theorem InE.in_ (h : InE F w) : In F w := by
 obtain ⟨_,_,_,_,h⟩ := h
 exact h.in_
theorem EB.lt {w : World} {a0 a1 a2 a3 : Addr} (h : Ers w a0 a1 a2 a3) : a0.block < w.heap.size /\ a1.block < w.heap.size /\ a2.block < w.heap.size /\ a3.block < w.heap.size := by
 have e : ∀ {a : Addr},(∃ c t,w.heap[a.block]? = some (.cells c t (0,0))) -> a.block < w.heap.size := fun ⟨c,t,h⟩ => (Array.getElem?_eq_some_iff.1 h).1
 exact ⟨e h.c0,e h.c1,e h.c2,e h.c3⟩
theorem EB.below (h : EB w) (hb : Below w.heap.size w w') : EB w' := by
 obtain ⟨_,_,_,_,h⟩ := h
 exact ⟨_,_,_,_,h.below hb⟩
theorem EB.inE (h : EB w) (hb : Below w.heap.size w w') (hi : In F w') (hs : ∀ k,F k -> w.heap.size <= k) : InE F w' := by
 obtain ⟨a0,a1,a2,a3,h⟩ := h
 have hl := EB.lt h
 exact ⟨a0,a1,a2,a3,h.below hb,hi,w.heap.size,⟨cell_blk h.v0,cell_blk h.v1,cell_blk h.v2,cell_blk h.v3⟩,hl,hb.size,hs⟩
theorem InE.eb (h : InE F w) : EB w := by
 obtain ⟨a0,a1,a2,a3,h⟩ := h
 exact ⟨a0,a1,a2,a3,h.ers⟩
end
structure DevSC (P : World -> (Nat -> Prop) -> Nat -> Nat -> Sh -> St -> List Bt -> Prop) (E : Fl -> ByteArray -> St -> Prop) : Prop where
 fresh : E [] ⟨#[]⟩ St.new
 kept : ∀ {w w' : World} {F G : Nat -> Prop} {s d : Nat} {S : Sh} {b : St} {l : List Bt},P w G s d S b l -> Kept F w w' -> Off F G -> In G w -> P w' G s d S b l
 shelf : ∀ {w : World} {F : Nat -> Prop} {s d : Nat} {S : Sh} {b : St} {l : List Bt},P w F s d S b l -> ∃ Fd : Nat -> Prop,ShIs w Fd d S /\ ∀ k,Fd k -> F k
 says : ∀ {w : World} {F : Nat -> Prop} {s d : Nat} {S : Sh} {b : St} {l : List Bt},P w F s d S b l -> E S.fs S.man b /\ S.log = recs l /\ b.AllFit l /\ Short l
 open_ : ∀ (F : Nat -> Prop) (d : Nat) (S : Sh) (b : St) (w : World),ShIs w F d S -> InE F w -> E S.fs S.man b ->
  Calls Tryz.prog 6 #[.pointer (some ⟨d,0,none⟩)] w fun e w' => ∃ (s : Nat) (F' : Nat -> Prop) (S' : Sh) (l : List Bt),e = .returned (.tuple #[.pointer (some ⟨s,0,none⟩),.int .i64 0]) /\ Opens b S.log l /\ P w' F' s d S' b l /\ min S.syn S'.log.length <= S'.syn /\ Step F w F' w'
 apply : ∀ (F : Nat -> Prop) (s d : Nat) (S : Sh) (b : St) (l : List Bt) (x : BA) (w : World),P w F s d S b l -> InE F w -> LiesB w w.heap.size x -> (∀ k,x.blk k -> ¬ F k) -> BtF x -> (b.apps l).Fits x.bt -> (bE x.bt).length <= 262144 -> (recs (l ++ [x.bt])).length <= 262144 ->
  Calls Tryz.prog 9 #[.pointer (some ⟨s,0,none⟩),bV x] w fun e w' => e = .returned (.int .i64 0) /\ ∃ F',P w' F' s d { S with log := recs (l ++ [x.bt]) } b (l ++ [x.bt]) /\ Step F w F' w'
 sync : ∀ (F : Nat -> Prop) (s d : Nat) (S : Sh) (b : St) (l : List Bt) (w : World),P w F s d S b l -> InE F w ->
  Calls Tryz.prog 15 #[.pointer (some ⟨s,0,none⟩)] w fun e w' => e = .returned (.tuple #[]) /\ ∃ F',P w' F' s d { S with syn := S.log.length } b l /\ Step F w F' w'
 get : ∀ (F : Nat -> Prop) (s d : Nat) (S : Sh) (b : St) (l : List Bt) (t k : ByteArray) (w : World),P w F s d S b l -> InE F w -> t.size <= maxLen -> k.size <= maxLen ->
  Calls Tryz.prog 12 #[.pointer (some ⟨s,0,none⟩),.string t,.string k] w fun e w' => ∃ y : PA,e = .returned (.agg #[.string y.k,.int .i64 y.g,.slice y.A y.L.length y.c]) /\ paOf y = getPt (b.apps l) t k /\ Lies w' w'.heap.size y.A y.L.length y.c y.L /\ Below w.heap.size w w'
 tables : ∀ (F : Nat -> Prop) (s d : Nat) (S : Sh) (b : St) (l : List Bt) (w : World),P w F s d S b l -> InE F w ->
  Calls Tryz.prog 11 #[.pointer (some ⟨s,0,none⟩)] w fun e w' => ∃ (A : Option Addr) (n c : Nat),e = .returned (.slice A n c) /\ RdS w' w'.heap.size A n ((b.apps l).tb.map Tb.nm) /\ n <= c /\ Below w.heap.size w w'
structure DevSN (P : World -> (Nat -> Prop) -> Nat -> Nat -> Sh -> St -> List Bt -> Prop) (E : Fl -> ByteArray -> St -> Prop) : Prop extends DevSC P E where
 notes : ∀ (F : Nat -> Prop) (s d : Nat) (S : Sh) (b : St) (l : List Bt) (w : World),P w F s d S b l -> InE F w ->
  Calls Tryz.prog 18 #[.pointer (some ⟨s,0,none⟩)] w fun e w' => ∃ (A : Option Addr) (n c : Nat),e = .returned (.slice A n c) /\ RdT w' w'.heap.size A n (b.apps l).nt /\ n <= c /\ Below w.heap.size w w'
variable {P : World -> (Nat -> Prop) -> Nat -> Nat -> Sh -> St -> List Bt -> Prop} {E : Fl -> ByteArray -> St -> Prop}
structure SD (P : World -> (Nat -> Prop) -> Nat -> Nat -> Sh -> St -> List Bt -> Prop) (W0 w : World) (F : Nat -> Prop) (s d : Nat) (S : Sh) (b : St) (l : List Bt) : Prop where
 p : P w F s d S b l
 sin : In F w
 sab : ∀ k,F k -> W0.heap.size <= k
 below : Below W0.heap.size W0 w
structure HD (E : Fl -> ByteArray -> St -> Prop) (W0 w : World) (F : Nat -> Prop) (d : Nat) (S : Sh) (b : St) : Prop where
 sh : ShIs w F d S
 sin : In F w
 sab : ∀ k,F k -> W0.heap.size <= k
 below : Below W0.heap.size W0 w
 e : E S.fs S.man b
section
variable {W0 w w' : World} {F F' : Nat -> Prop} {s d : Nat} {S S' : Sh} {b b' : St} {l l' : List Bt}
theorem SD.er (h : SD P W0 w F s d S b l) (hE : EB W0) : InE F w := hE.inE h.below h.sin h.sab
theorem HD.er (h : HD E W0 w F d S b) (hE : EB W0) : InE F w := hE.inE h.below h.sin h.sab
theorem SD.turn (h : SD P W0 w F s d S b l) (hs : P w' F' s d S' b' l') (st : Step F w F' w') : SD P W0 w' F' s d S' b' l' :=
 ⟨hs,st.in_ h.sin,st.above h.sab h.below.size,h.below.trans (st.below h.sab h.below.size)⟩
theorem SD.read (D : DevSC P E) (h : SD P W0 w F s d S b l) (hb : Below w.heap.size w w') : SD P W0 w' F s d S b l :=
 ⟨D.kept (F := fun _ => False) h.p (Kept.of_below hb _) (fun _ hf => hf.elim) h.sin,h.sin.up hb.size,h.sab,h.below.trans (hb.mono h.below.size)⟩
theorem SD.shelf (D : DevSC P E) (h : SD P W0 w F s d S b l) : ∃ Fd,HD E W0 w Fd d S b := by
 obtain ⟨Fd,h1,h2⟩ := D.shelf h.p
 exact ⟨Fd,h1,fun k hk => h.sin k (h2 k hk),fun k hk => h.sab k (h2 k hk),h.below,(D.says h.p).1⟩
theorem HD.turn (h : HD E W0 w F d S b) (hs : ShIs w' F' d S') (st : Step F w F' w') (he : E S'.fs S'.man b) : HD E W0 w' F' d S' b :=
 ⟨hs,st.in_ h.sin,st.above h.sab h.below.size,h.below.trans (st.below h.sab h.below.size),he⟩
theorem HD.opened (h : HD E W0 w F d S b) (hs : P w' F' s d S' b l) (st : Step F w F' w') : SD P W0 w' F' s d S' b l :=
 ⟨hs,st.in_ h.sin,st.above h.sab h.below.size,h.below.trans (st.below h.sab h.below.size)⟩
end
def oneM (w : World) (t k : ByteArray) (g : Int) : BA := ⟨some ⟨w.heap.size,0,none⟩,1,[⟨t,⟨k,g,[],none,0⟩⟩],none,0,[],none,0,[]⟩
theorem oneM_lies (w : World) (t k : ByteArray) (g : Int) : ∃ U,U = w.alloc (.cells #[.string t,.string k,.int .i64 g,.slice none 0 0] 35) /\ LiesB U U.heap.size (oneM w t k g) /\ Below w.heap.size w U := by
 refine ⟨_,rfl,⟨⟨(RdM.laid w ⟨t,⟨k,g,[],none,0⟩⟩).up (by simp),fun x hx => ?_,Nat.le_refl _⟩,⟨rfl,fun h => absurd h (by simp [oneM])⟩,⟨rfl,fun h => absurd h (by simp [oneM])⟩,Nat.le_refl _,Nat.le_refl _⟩,(Below.refl w.heap.size w).alloc (Nat.le_refl _) _⟩
 rw [List.mem_singleton.1 hx]
 exact ⟨⟨rfl,fun h => absurd h (by simp)⟩,fun y hy => (by cases hy),Nat.le_refl _⟩
theorem oneM_few (w : World) (t k : ByteArray) (g : Int) (ht : t.size <= 100) : BtF (oneM w t k g) :=
 ⟨fun y hy => by rw [List.mem_singleton.1 hy]; exact ⟨by show t.size <= _; omega,by simp,fun z hz => (by cases hz)⟩,fun y hy => (by cases hy),by simp [oneM],by simp [oneM],by simp [oneM]⟩
theorem oneM_off {w : World} (t k : ByteArray) (g : Int) {F : Nat -> Prop} (hF : In F w) : ∀ j,(oneM w t k g).blk j -> ¬ F j := BA.off hF fun j hj => by
 rcases hj with ⟨_,h⟩ | ⟨h,_⟩ | ⟨h,_⟩ | ⟨x,hx,h⟩
 ·exact Nat.le_of_eq (blkOf_eq h).symm
 ·exact absurd rfl h
 ·exact absurd rfl h
 ·rw [List.mem_singleton.1 hx] at h
  exact (no_rows h).elim
end Go.Proofs.YtmpcnhpdobdmcaaGreatDoor
namespace Go.Proofs.YtmpcnhpdobdmcaaGreatDoor
open Go Go.ChangeShapes Go.WideShapes Go.ChangeAt Go.RowKit
theorem gArg12 : Tryz.prog.globalNamed "clerestory/store.errArg" = some 0 := by kernel_rfl
theorem gBig12 : Tryz.prog.globalNamed "clerestory/store.errBig" = some 1 := by kernel_rfl
theorem gBytes12 : Tryz.prog.globalNamed "clerestory/store.errBytes" = some 2 := by kernel_rfl
theorem gNone12 : Tryz.prog.globalNamed "clerestory/store.errNone" = some 3 := by kernel_rfl
theorem tArg12 : (Tryz.prog.globals[0]?).map (·.type) = some 72 := by kernel_rfl
theorem tBig12 : (Tryz.prog.globals[1]?).map (·.type) = some 72 := by kernel_rfl
theorem tBytes12 : (Tryz.prog.globals[2]?).map (·.type) = some 72 := by kernel_rfl
theorem tNone12 : (Tryz.prog.globals[3]?).map (·.type) = some 72 := by kernel_rfl
theorem cE12 : Tryz.prog.cellsOf 355 = 1 := by kernel_rfl
theorem cS12 : Tryz.prog.cellsOf 9 = 1 := by kernel_rfl
theorem star12 : "*" ++ "errors.errorString" = "*errors.errorString" := by decide
theorem row12 (u : TypeId) (h : Tryz.prog.typeName? 3 u = some "*errors.errorString") : u = 332 :=
 typeName_ptr_named (nm := "errors.errorString") (by rw [star12]; kernel_rfl) (by kernel_rfl) (by decide) u (by rw [star12]; exact h)
abbrev laid12 : List (String × DataW Unit) := [("clerestory/store.errArg", Rows.laid_clerestory_store_errArg), ("clerestory/store.errBig", Rows.laid_clerestory_store_errBig), ("clerestory/store.errBytes", Rows.laid_clerestory_store_errBytes), ("clerestory/store.errNone", Rows.laid_clerestory_store_errNone)]
theorem door_met12 (os : Os) (args : Array Value) : laidMetH Tryz.prog laid12 ((World.doorLaid Tryz.prog 400 os).forCall (fun _ _ => 0) ⟨#[],args,[]⟩).memory :=
 laidMetH_of_parts3 (fuel := 8) (laidMet_of_run' 8 (by kernel_rfl) (by kernel_rfl)) (by kernel_rfl) (by kernel_rfl)
theorem four_of_laid {W : World} (h : laidMetH Tryz.prog laid12 W) : EB W := by
 rw [MakeChecks.laidMetH_plain _ _ _ (by kernel_rfl)] at h
 obtain ⟨ps,⟨g0',t0',cs0,f0,p0,q0,hg0',ht0',hv0,hd0,⟨g1',t1',cs1,f1,p1,q1,hg1',ht1',hv1,hd1,⟨g2',t2',cs2,f2,p2,q2,hg2',ht2',hv2,hd2,⟨g3',t3',cs3,f3,p3,q3,hg3',ht3',hv3,hd3,_,e3⟩,e2⟩,e1⟩,e0⟩,hnd,hrows⟩ := h
 obtain rfl := Option.some.inj (gArg12.symm.trans hg0')
 obtain rfl := Option.some.inj (gBig12.symm.trans hg1')
 obtain rfl := Option.some.inj (gBytes12.symm.trans hg2')
 obtain rfl := Option.some.inj (gNone12.symm.trans hg3')
 obtain rfl := Option.some.inj (tArg12.symm.trans ht0')
 obtain rfl := Option.some.inj (tBig12.symm.trans ht1')
 obtain rfl := Option.some.inj (tBytes12.symm.trans ht2')
 obtain rfl := Option.some.inj (tNone12.symm.trans ht3')
 subst e3
 subst e2
 subst e1
 subst e0
 have v0 := World.var?_cell hg0' hv0 0
 have v1 := World.var?_cell hg1' hv1 0
 have v2 := World.var?_cell hg2' hv2 0
 have v3 := World.var?_cell hg3' hv3 0
 obtain ⟨l0⟩ := cs0
 obtain ⟨l1⟩ := cs1
 obtain ⟨l2⟩ := cs2
 obtain ⟨l3⟩ := cs3
 have ok0 : ∀ u v,l0 = [.iface u v] -> Value.okWide Tryz.prog W .any 0 u v := fun u v e => by
  subst e
  exact (hrows 0 0 (by simp [MemPlace.row])).2 u v (by simpa using v0)
 have ok1 : ∀ u v,l1 = [.iface u v] -> Value.okWide Tryz.prog W .any 0 u v := fun u v e => by
  subst e
  exact (hrows 1 0 (by simp [MemPlace.row])).2 u v (by simpa using v1)
 have ok2 : ∀ u v,l2 = [.iface u v] -> Value.okWide Tryz.prog W .any 0 u v := fun u v e => by
  subst e
  exact (hrows 2 0 (by simp [MemPlace.row])).2 u v (by simpa using v2)
 have ok3 : ∀ u v,l3 = [.iface u v] -> Value.okWide Tryz.prog W .any 0 u v := fun u v e => by
  subst e
  exact (hrows 3 0 (by simp [MemPlace.row])).2 u v (by simpa using v3)
 obtain ⟨a0,s0,rfl,hc0,hs0,hz0,rfl⟩ := errorString_of_trod Tryz.underlying72 row12 Tryz.underlying332 Tryz.underlying355 rfl rfl Tryz.underlying9 cE12 cS12 hd0 ok0
 obtain ⟨a1,s1,rfl,hc1,hs1,hz1,rfl⟩ := errorString_of_trod Tryz.underlying72 row12 Tryz.underlying332 Tryz.underlying355 rfl rfl Tryz.underlying9 cE12 cS12 hd1 ok1
 obtain ⟨a2,s2,rfl,hc2,hs2,hz2,rfl⟩ := errorString_of_trod Tryz.underlying72 row12 Tryz.underlying332 Tryz.underlying355 rfl rfl Tryz.underlying9 cE12 cS12 hd2 ok2
 obtain ⟨a3,s3,rfl,hc3,hs3,hz3,rfl⟩ := errorString_of_trod Tryz.underlying72 row12 Tryz.underlying332 Tryz.underlying355 rfl rfl Tryz.underlying9 cE12 cS12 hd3 ok3
 refine ⟨a0,a1,a2,a3,by simpa using v0,by simpa using v1,by simpa using v2,by simpa using v3,(hrows a0.block a0.off (by simp [MemPlace.row])).1,(hrows a1.block a1.off (by simp [MemPlace.row])).1,(hrows a2.block a2.off (by simp [MemPlace.row])).1,(hrows a3.block a3.off (by simp [MemPlace.row])).1,?_,?_,?_,?_,?_,?_⟩
 all_goals
  rintro rfl
  simp [MemPlace.row] at hnd
end Go.Proofs.YtmpcnhpdobdmcaaGreatDoor
namespace Go.Proofs.YtmpcnhpdobdmcaaGreatDoor
open Go Go.RowKit
variable {P : World -> (Nat -> Prop) -> Nat -> Nat -> Sh -> St -> List Bt -> Prop} {E : Fl -> ByteArray -> St -> Prop}
def oneN (w : World) (i : Int) (s : ByteArray) : BA := ⟨none,0,[],some ⟨w.heap.size,0,none⟩,1,[(i,s)],none,0,[]⟩
theorem oneN_lies (w : World) (i : Int) (s : ByteArray) : ∃ U,U = w.alloc (.cells #[.int .i64 i,.string s] 57) /\ LiesB U U.heap.size (oneN w i s) /\ Below w.heap.size w U := by
 refine ⟨_,rfl,⟨⟨⟨rfl,fun h => absurd h (by simp [oneN])⟩,fun x hx => (by cases hx),Nat.le_refl _⟩,(RdN.laid w (i,s)).up (by simp),⟨rfl,fun h => absurd h (by simp [oneN])⟩,Nat.le_refl _,Nat.le_refl _⟩,(Below.refl w.heap.size w).alloc (Nat.le_refl _) _⟩
theorem oneN_off {w : World} (i : Int) (s : ByteArray) {F : Nat -> Prop} (hF : In F w) : ∀ j,(oneN w i s).blk j -> ¬ F j := BA.off hF fun j hj => by
 rcases hj with ⟨h,_⟩ | ⟨_,h⟩ | ⟨h,_⟩ | ⟨x,hx,h⟩
 ·exact absurd rfl h
 ·exact Nat.le_of_eq (blkOf_eq h).symm
 ·exact absurd rfl h
 ·cases hx
theorem oneN_few (w : World) (i : Int) (s : ByteArray) (hs : s.size <= maxLen) : BtF (oneN w i s) :=
 ⟨fun y hy => (by cases hy),fun y hy => by rw [List.mem_singleton.1 hy]; exact hs,by simp [oneN],by simp [oneN],by simp [oneN]⟩
theorem crash_log {S : Sh} (h : S.syn <= S.log.length) (n : Int) : (S.crash n).fs = S.fs /\ (S.crash n).man = S.man /\ ∃ k,(S.crash n).log = S.log.take k /\ S.syn <= k /\ (S.crash n).syn = (S.crash n).log.length := by
 refine ⟨rfl,rfl,clip ((S.syn + clip n (S.log.length - S.syn) : Nat) : Int) S.log.length,rfl,?_,?_⟩
 ·unfold clip; omega
 ·show clip _ _ = (S.log.take _).length
  rw [List.length_take]
  have := clip_le ((S.syn + clip n (S.log.length - S.syn) : Nat) : Int) S.log.length
  omega
theorem reopen {s : St} {l l' : List Bt} (h : s.AllFit l) (sh : Short l) {k y : Nat} (hk : y <= k) (ho : Opens s ((recs l).take k) l') : ∃ j,j <= l.length /\ l' = l.take j /\ ∀ c,c <= l.length -> (recs (l.take c)).length <= y -> c <= j := by
 obtain ⟨j,h1,h2,h3,_⟩ := Opens.torn h sh k
 exact ⟨j,h1,ho.unique h2,fun c hc hc2 => h3 c hc (Nat.le_trans hc2 hk)⟩
section
variable {W0 w w' : World} {F F' : Nat -> Prop} {s d : Nat} {S S' : Sh} {b b' : St} {l l' : List Bt}
theorem HD.crash (h : HD E W0 w F d S b) {n : Int} (hs : ShIs w' F d (S.crash n)) (hk : Kept F w w') : HD E W0 w' F d (S.crash n) b := h.turn hs (Step.same hk) h.e
end
theorem field_gone (k : ByteArray) (g : Int) (A : Option Addr) (n c : Nat) (w : World) : (Instr.field 33 (.agg #[.string k,.int .i64 g,.slice A n c]) 1).run Tryz.prog w = .ok (.int .i64 g) w := by kernel_rfl
def bA : Bt := btM ⟨#[116]⟩ ⟨#[97]⟩ 5
theorem bA_fits : St.new.Fits bA /\ (bE bA).length <= 262144 /\ (recs ([] ++ [bA])).length <= 262144 := by
 have hl : (bE bA).length <= 300 := btM_len (by decide) (by decide) (by decide) (by decide)
 have happ : (St.new.app bA).tb = [⟨⟨#[116]⟩,[⟨⟨#[97]⟩,5,[]⟩]⟩] := rfl
 refine ⟨⟨by decide +kernel,rfl,fun T hT => ?_,by rw [happ]; decide⟩,by omega,?_⟩
 ·rw [happ] at hT
  rw [List.mem_singleton.1 hT]
  exact ⟨by decide,fun p hp => by rw [List.mem_singleton.1 hp]; decide⟩
 ·have := recs_snoc_small [] bA
  have e : (recs []).length = 0 := rfl
  omega
theorem awake12 (D : DevSC P E) (w : World) (hEB : EB w) : Calls Tryz.prog 13 #[] w fun e w' => e = .returned (.bool true) /\ Below w.heap.size w w' := by
 have HEB := hid hEB
 clear hEB
 go_enter Tryz.func13,Tryz.ntmps13
 go_wp2_with fail
 refine (new_any w).mono ?_
 rintro e w1 ⟨d,F1,rfl,hsh,b1,hF⟩
 have H1 := hid (⟨hsh,fun k hk => (hF k hk).2,fun k hk => (hF k hk).1,b1,D.fresh⟩ : HD E w w1 F1 d Sh.new St.new)
 clear hsh b1 hF
 go_wp2_with fail
 refine (D.open_ F1 d Sh.new St.new w1 H1.out.sh (H1.out.er HEB.out) H1.out.e).mono ?_
 rintro e w2 ⟨s,F2,S2,l2,rfl,ho,hp,hsy,st⟩
 have hl2 : l2 = [] := by
  have := ho.most
  obtain ⟨r,ha,hb,_⟩ := this
  have hr : r = [] := ha.unique (Ans.all [])
  subst hr
  simpa using hb
 subst hl2
 have T2 := hid (H1.out.opened hp st)
 clear ho hp hsy st
 obtain ⟨U,hU,hli,bU⟩ := oneM_lies w2 ⟨#[116]⟩ ⟨#[97]⟩ 5
 have TU := hid (T2.out.read D bU)
 have LU := hid hli
 clear hli bU
 go_wp2_with fail
 rw [<- hU]
 clear hU
 refine (D.apply F2 s d S2 St.new [] (oneM w2 ⟨#[116]⟩ ⟨#[97]⟩ 5) U TU.out.p (TU.out.er HEB.out) LU.out (oneM_off _ _ _ T2.out.sin) (oneM_few w2 _ _ _ (by decide)) bA_fits.1 bA_fits.2.1 bA_fits.2.2).mono ?_
 rintro e w3 ⟨rfl,F3,hp3,st3⟩
 have T3 := hid (TU.out.turn hp3 st3)
 clear hp3 st3
 go_wp2_with fail
 refine (D.sync F3 s d _ St.new _ w3 T3.out.p (T3.out.er HEB.out)).mono ?_
 rintro e w4 ⟨rfl,F4,hp4,st4⟩
 have T4 := hid (T3.out.turn hp4 st4)
 clear hp4 st4
 obtain ⟨Fd,hd4⟩ := T4.out.shelf D
 have D4 := hid hd4
 clear hd4
 go_wp2_with fail
 refine (crash_any Fd d _ 0 w4 D4.out.sh ⟨by decide,by decide⟩).mono ?_
 rintro e w5 ⟨rfl,hs5,hk5⟩
 have D5 := hid (D4.out.crash hs5 hk5)
 clear hs5 hk5
 go_wp2_with fail
 refine (D.open_ Fd d _ St.new w5 D5.out.sh (D5.out.er HEB.out) D5.out.e).mono ?_
 rintro e w6 ⟨s6,F6,S6,l6,rfl,ho6,hp6,hsy6,st6⟩
 have T6 := hid (D5.out.opened hp6 st6)
 obtain ⟨_,_,k,hlog,hsk,_⟩ := crash_log (S := { { S2 with log := recs ([] ++ [bA]) } with syn := (recs ([] ++ [bA])).length }) (Nat.le_refl _) 0
 have ho7 : Opens St.new ((recs ([] ++ [bA])).take k) l6 := by rw [<- hlog]; exact ho6
 obtain ⟨j,hj1,hj2,hj3⟩ := reopen (s := St.new) (l := [] ++ [bA]) (by simp only [List.nil_append]; unfold St.AllFit; exact ⟨bA_fits.1,by unfold St.AllFit; trivial⟩) (fun x hx => by rw [List.mem_singleton.1 hx]; exact bA_fits.2.1) hsk ho7
 have hj4 := hj3 1 (Nat.le_refl _) (Nat.le_refl _)
 have hl6 : l6 = [bA] := by rw [hj2,show j = 1 by simp at hj1; omega]; rfl
 subst hl6
 clear ho6 hp6 hsy6 st6 hlog hsk ho7 hj1 hj2 hj3 hj4
 go_wp2_with fail
 refine (D.get F6 s6 d S6 St.new [bA] ⟨#[116]⟩ ⟨#[97]⟩ w6 T6.out.p (T6.out.er HEB.out) (by decide) (by decide)).mono ?_
 rintro e w7 ⟨⟨yk,yg,yL,yA,yc⟩,rfl,hy,hly,b7⟩
 have hyg : yg = 5 := by
  have := congrArg Pa.gone hy
  exact this
 subst hyg
 have T7 := hid (T6.out.read D b7)
 have hfl := field_gone yk 5 yA yL.length yc
 clear hy hly b7
 go_wp2_with fail
 refine (D.tables F6 s6 d S6 St.new [bA] w7 T7.out.p (T7.out.er HEB.out)).mono ?_
 rintro e w8 ⟨A8,n8,c8,rfl,hr8,hc8,b8⟩
 have hn8 : n8 = 1 := hr8.1.symm
 subst hn8
 have T8 := hid (T7.out.read D b8)
 clear hr8 hc8 b8
 go_wp2
 go_ret
 exact ⟨rfl,T8.out.below⟩
end Go.Proofs.YtmpcnhpdobdmcaaGreatDoor
namespace Go.Proofs.YtmpcnhpdobdmcaaGreatDoor
open Go Go.RowKit
variable {P : World -> (Nat -> Prop) -> Nat -> Nat -> Sh -> St -> List Bt -> Prop} {E : Fl -> ByteArray -> St -> Prop}
theorem NB.weak {s : St} {hi hi' : Int} {n : Nat} (h : NB s hi n) (hh : hi <= hi') : NB s hi' n := ⟨h.tb,h.ok,h.len,fun x hx => Int.le_trans (h.low x hx) hh⟩
theorem app_short {S : Sh} {b : ByteArray} (h : S.log.length + b.size <= 262144) : S.app b = ({ S with log := S.log ++ b.data.toList },0) := by
 unfold Sh.app
 rw [if_neg (by omega)]
theorem storn_law (D : DevSN P E) (n : Int) (junk : ByteArray) (more : Int) (w : World) (hn : (Lit.int .i64 n).wf = true) (hj : junk.size <= maxLen) (hm : (Lit.int .i64 more).wf = true) (hEB : EB w) :
    Calls Tryz.prog 5 #[.int .i64 n,.string junk,.int .i64 more] w fun e w' => e = .returned (.bool true) /\ Below w.heap.size w w' := by
 have HN := hid hn; have HM := hid hm; have HEB := hid hEB
 clear hn hm hj hEB
 by_cases hbig : 300 < junk.size
 ·have d1 : decide ((300 : Int) < (junk.size : Int)) = true := decide_eq_true (by omega)
  have d1' : decide (300 < junk.size) = true := decide_eq_true hbig
  go_enter Tryz.func5,Tryz.ntmps5
  go_wp2_with fail
  refine (awake12 D.toDevSC _ (by first | exact HEB.out | exact (HD8.out.er HEB.out).eb | exact (TE.out.er HEB.out).eb)).mono ?_
  rintro e w1 ⟨rfl,b1⟩
  go_wp2
  go_ret
  exact ⟨rfl,b1⟩
 ·have d1 : decide ((300 : Int) < (junk.size : Int)) = false := decide_eq_false (by omega)
  have d1' : decide (300 < junk.size) = false := decide_eq_false hbig
  have HJ := hid (show junk.size <= 300 by omega)
  clear hbig
  go_enter Tryz.func5,Tryz.ntmps5
  go_wp2_with fail
  refine (new_any w).mono ?_
  rintro e w1 ⟨d,F1,rfl,hsh,b1,hF⟩
  have H1 := hid (⟨hsh,fun k hk => (hF k hk).2,fun k hk => (hF k hk).1,b1,D.fresh⟩ : HD E w w1 F1 d Sh.new St.new)
  clear hsh b1 hF
  go_wp2_with fail
  refine (D.open_ F1 d Sh.new St.new w1 H1.out.sh (H1.out.er HEB.out) H1.out.e).mono ?_
  rintro e w2 ⟨s,F2,S2,l2,rfl,ho,hp,hsy,st⟩
  have hl2 : l2 = [] := by
   obtain ⟨r,ha,hb,_⟩ := ho.most
   have hr : r = [] := ha.unique (Ans.all [])
   subst hr
   simpa using hb
  subst hl2
  have T2 := hid (H1.out.opened hp st)
  clear ho hp hsy st
  go_wp2_with fail
  refine (place_any n 8 _ (by omega) (by omega) (bounds_i64 HN.out)).mono ?_
  rintro e w3 ⟨rfl,rfl⟩
  obtain ⟨k,hk⟩ : ∃ k : Nat,n % 8 = (k : Int) := ⟨(n % 8).toNat,by have := Int.emod_nonneg n (show (8 : Int) ≠ 0 by decide); omega⟩
  have hk8 : k < 8 := by have := Int.emod_lt_of_pos n (show (0 : Int) < 8 by decide); omega
  rw [hk]
  clear hk
  go_wp2_with fail
  refine (place_any more 5 _ (by omega) (by omega) (bounds_i64 HM.out)).mono ?_
  rintro e w4 ⟨rfl,rfl⟩
  obtain ⟨m,hmm⟩ : ∃ m : Nat,more % 5 = (m : Int) := ⟨(more % 5).toNat,by have := Int.emod_nonneg more (show (5 : Int) ≠ 0 by decide); omega⟩
  have hm5 : m < 5 := by have := Int.emod_lt_of_pos more (show (0 : Int) < 5 by decide); omega
  rw [hmm]
  clear hmm
  go_wp2_with fail
  go_loopw [12] (fun iv wr => ∃ (i : Nat) (F : Nat -> Prop) (S : Sh) (l : List Bt),i <= k /\ iv = .int .i64 (i : Nat) /\ SD P w wr F s d S St.new l /\ NB (St.new.apps l) (i : Int) i /\ (recs l).length <= i * 1027) (fun iv _ => k - (intOf iv).toNat)
  case atStart => exact ⟨0,F2,S2,[],Nat.zero_le _,rfl,T2.out,NB.new,Nat.le_refl _⟩
  case round =>
   obtain ⟨i,F,S,l,hi,rfl,ht,hnb,hrl⟩ := hrel
   have T := hid ht; have NN := hid hnb; have RL := hid hrl
   clear ht hnb hrl
   by_cases hlt : i < k
   ·have i1 : (i : Int) < k := by omega
    have i0 : (0 : Int) <= i := by omega
    obtain ⟨hfit,hnb2⟩ := NN.out.add (i := (i : Int) + 1) (t := ⟨#[120]⟩) (by omega) (by omega) (by omega) (by decide) (by omega)
    have hlen := btN_len (i := (i : Int) + 1) (s := ⟨#[120]⟩) (by omega) (by omega) (by decide)
    have hrs := recs_snoc_small l (btN ((i : Int) + 1) ⟨#[120]⟩)
    obtain ⟨U,hU,hli,bU⟩ := oneN_lies wr ((i : Int) + 1) ⟨#[120]⟩
    have TU := hid (T.out.read D.toDevSC bU)
    have LU := hid hli; have FIT := hid hfit; have LEN := hid hlen; have RS2 := hid (show (recs (l ++ [btN ((i : Int) + 1) ⟨#[120]⟩])).length <= (i + 1) * 1027 by have := RL.out; omega)
    have NB2 := hid hnb2
    clear hfit hlen hrs hli bU hnb2
    go_wp2_with fail
    rw [<- hU]
    clear hU
    refine (D.apply F s d S St.new l (oneN wr ((i : Int) + 1) ⟨#[120]⟩) U TU.out.p (TU.out.er HEB.out) LU.out (oneN_off _ _ T.out.sin) (oneN_few wr _ _ (by decide)) FIT.out (by have h1 : (bE (oneN wr ((i : Int) + 1) ⟨#[120]⟩).bt).length <= 145 := LEN.out; omega) (by have h1 : (recs (l ++ [(oneN wr ((i : Int) + 1) ⟨#[120]⟩).bt])).length <= (i + 1) * 1027 := RS2.out; omega)).mono ?_
    rintro e w6 ⟨rfl,F6,hp6,st6⟩
    have T6 := hid (TU.out.turn hp6 st6)
    have N6 : Hid (NB (St.new.apps (l ++ [btN ((i : Int) + 1) ⟨#[120]⟩])) ((i + 1 : Nat) : Int) (i + 1)) := hid (by rw [St.apps_snoc]; exact NB2.out)
    clear hp6 st6
    go_wp2
    go_roundw
    case rel => exact ⟨i + 1,F6,_,_,by omega,by go_num,T6.out,N6.out,RS2.out⟩
    case measure => simp [intOf]; omega
   ·obtain rfl : i = k := by omega
    have d2 : decide ((i : Int) < (i : Int)) = false := decide_eq_false (by omega)
    obtain ⟨hsE,hsl,hfit,hsh⟩ := D.says T.out.p
    obtain ⟨Fd,hd⟩ := T.out.shelf D.toDevSC
    have HD1 := hid hd
    obtain ⟨xl,hxl⟩ : ∃ x : ByteArray,(⟨S.log.toArray⟩ : ByteArray) = x := ⟨_,rfl⟩
    have hxd : xl.data.toList = recs l := by rw [<- hxl,<- hsl]
    have hxz : xl.size = (recs l).length := by rw [<- hxd]; rfl
    have happ : S.app junk = ({ S with log := S.log ++ junk.data.toList },0) := app_short (by have := RL.out; have := HJ.out; rw [hsl]; omega)
    have HXL := hid hxl; have HXD := hid hxd; have HXZ := hid hxz; have HAPP := hid happ; have HSL := hid hsl; have HFIT := hid hfit; have HSH := hid hsh
    clear hsE hsl hfit hsh hd hxl hxd hxz happ
    go_wp2_with fail
    refine (log_any Fd d S wr HD1.out.sh).mono ?_
    rintro e w5 ⟨rfl,rfl⟩
    rw [HXL.out]
    go_wp2_with fail
    refine (append_any Fd d S junk _ HD1.out.sh (by have := HJ.out; omega)).mono ?_
    rintro e w6 ⟨rfl,F6,hs6,st6⟩
    rw [HAPP.out] at hs6 ⊢
    dsimp only at hs6 ⊢
    have HD6 := hid (HD1.out.turn hs6 st6 HD1.out.e)
    clear hs6 st6
    go_wp2_with fail
    refine (D.open_ F6 d _ St.new w6 HD6.out.sh (HD6.out.er HEB.out) HD6.out.e).mono ?_
    rintro e w7 ⟨s7,F7,S7,l7,rfl,ho7,hp7,hsy7,st7⟩
    have T7 := hid (HD6.out.opened hp7 st7)
    obtain ⟨_,hs7,hf7,hh7⟩ := D.says hp7
    have hpre : l <+: l7 := ho7.front HFIT.out HSH.out (by rw [HSL.out]; exact List.prefix_append _ _)
    obtain ⟨F8,hd8⟩ := T7.out.shelf D.toDevSC
    have HD8 := hid hd8
    obtain ⟨x7,hx7⟩ : ∃ x : ByteArray,(⟨S7.log.toArray⟩ : ByteArray) = x := ⟨_,rfl⟩
    have hxd7 : x7.data.toList = recs l7 := by rw [<- hx7,<- hs7]
    obtain ⟨r7,hr7⟩ := recs_mono hpre
    have hsd7 : x7.data.toList = xl.data.toList ++ r7 := by rw [hxd7,HXD.out,hr7]
    have hsl7 := fun wx => str_h (s := x7) (q := xl) hsd7 ((xl.size : Nat) : Int) rfl wx
    have hle7 : xl.size <= x7.size := by
     have h1 := congrArg List.length hsd7
     rw [List.length_append] at h1
     have e1 : x7.data.toList.length = x7.size := rfl
     have e2 : xl.data.toList.length = xl.size := rfl
     omega
    have k7 : decide ((x7.size : Int) < (xl.size : Int)) = false := decide_eq_false (by omega)
    have k7' : decide (x7.size < xl.size) = false := decide_eq_false (by omega)
    have e5 : (xl.toList != xl.toList) = false := by simp
    have e6 : (xl.toList == xl.toList) = true := by simp
    have HPRE := hid (show recs l <+: recs l7 from ⟨r7,hr7⟩)
    have HX7 := hid hx7; have HXD7 := hid hxd7; have HF7 := hid hf7; have HH7 := hid hh7; have HSL7 := hid hsl7
    clear ho7 hp7 hsy7 st7 hs7 hf7 hh7 hpre hd8 hx7 hxd7 hr7 hsd7 hsl7
    go_wp2_with fail
    refine (log_any F8 d S7 _ HD8.out.sh).mono ?_
    rintro e w8 ⟨rfl,rfl⟩
    rw [HX7.out]
    go_wp2_with fail
    refine (log_any F8 d S7 _ HD8.out.sh).mono ?_
    rintro e w8 ⟨rfl,rfl⟩
    rw [HX7.out]
    have hsl7 := HSL7.out
    go_wp2_with fail
    refine (log_any F8 d S7 _ HD8.out.sh).mono ?_
    rintro e w8 ⟨rfl,rfl⟩
    rw [HX7.out]
    clear hsl7 k7 k7' e5 e6
    by_cases hgt : xl.size < x7.size
    ·have g1 : decide ((xl.size : Int) < (x7.size : Int)) = true := decide_eq_true (by omega)
     have g1' : decide (xl.size < x7.size) = true := decide_eq_true hgt
     go_wp2_with fail
     refine (awake12 D.toDevSC _ (by first | exact HEB.out | exact (HD8.out.er HEB.out).eb | exact (TE.out.er HEB.out).eb)).mono ?_
     rintro e w9 ⟨rfl,b9⟩
     have B9 := hid (T7.out.below.trans (b9.mono T7.out.below.size))
     clear b9
     go_wp2
     go_ret
     exact ⟨rfl,B9.out⟩
    ·have g1 : decide ((xl.size : Int) < (x7.size : Int)) = false := decide_eq_false (by omega)
     have g1' : decide (xl.size < x7.size) = false := decide_eq_false hgt
     have hll : l = l7 := recs_inj HFIT.out HF7.out HSH.out HH7.out (by
      obtain ⟨r,hr⟩ : ∃ r,x7.data.toList = xl.data.toList ++ r := by
       have hp : recs l <+: recs l7 \/ recs l7 <+: recs l := by
        have := HSL7.out
        exact Or.inl (HPRE.out)
       rcases hp with ⟨r,hr⟩ | ⟨r,hr⟩
       ·exact ⟨r,by rw [HXD7.out,HXD.out,hr]⟩
       ·refine ⟨[],?_⟩
        have h1 := congrArg List.length hr
        rw [List.length_append] at h1
        have h2 : r = [] := List.eq_nil_of_length_eq_zero (by
         have e1 : x7.data.toList.length = x7.size := rfl
         have e2 : xl.data.toList.length = xl.size := rfl
         rw [HXD7.out] at e1; rw [HXD.out] at e2
         omega)
        rw [HXD7.out,HXD.out,<- hr,h2]
        simp
      have h1 := congrArg List.length hr
      rw [List.length_append] at h1
      have e1 : x7.data.toList.length = x7.size := rfl
      have e2 : xl.data.toList.length = xl.size := rfl
      have h2 : r = [] := List.eq_nil_of_length_eq_zero (by omega)
      rw [h2,List.append_nil,HXD7.out,HXD.out] at hr
      exact hr.symm)
     subst hll
     have N7 := hid (NN.out.weak (hi' := 99) (by omega))
     clear hgt HSL7
     go_wp2_with fail
     go_loopw [14] (fun iv wr => ∃ (j : Nat) (F : Nat -> Prop) (S : Sh) (l : List Bt),j <= m /\ iv = .int .i64 (j : Nat) /\ SD P w wr F s7 d S St.new l /\ NB (St.new.apps l) (99 + j : Int) (i + j) /\ (recs l).length <= (i + j) * 1027) (fun iv _ => m - (intOf iv).toNat)
     case atStart => exact ⟨0,F7,S7,l,Nat.zero_le _,rfl,T7.out,N7.out,RL.out⟩
     case round =>
      obtain ⟨j,G,Sj,lj,hj,rfl,ht,hnb,hrl⟩ := hrel
      have TJ := hid ht; have NJ := hid hnb; have RJ := hid hrl
      clear ht hnb hrl
      by_cases hlt2 : j < m
      ·have i1 : (j : Int) < m := by omega
       have i0 : (0 : Int) <= j := by omega
       obtain ⟨hfit,hnb2⟩ := NJ.out.add (i := 100 + (j : Int)) (t := ⟨#[121]⟩) (by omega) (by omega) (by omega) (by decide) (by omega)
       have hlen := btN_len (i := 100 + (j : Int)) (s := ⟨#[121]⟩) (by omega) (by omega) (by decide)
       have hrs := recs_snoc_small lj (btN (100 + (j : Int)) ⟨#[121]⟩)
       obtain ⟨U,hU,hli,bU⟩ := oneN_lies wr (100 + (j : Int)) ⟨#[121]⟩
       have TU := hid (TJ.out.read D.toDevSC bU)
       have LU := hid hli; have FIT := hid hfit; have LEN := hid hlen; have RS2 := hid (show (recs (lj ++ [btN (100 + (j : Int)) ⟨#[121]⟩])).length <= (i + (j + 1)) * 1027 by have := RJ.out; omega)
       have NB2 := hid hnb2
       clear hfit hlen hrs hli bU hnb2
       go_wp2_with fail
       rw [<- hU]
       clear hU
       refine (D.apply G s7 d Sj St.new lj (oneN wr (100 + (j : Int)) ⟨#[121]⟩) U TU.out.p (TU.out.er HEB.out) LU.out (oneN_off _ _ TJ.out.sin) (oneN_few wr _ _ (by decide)) FIT.out (by have h1 : (bE (oneN wr (100 + (j : Int)) ⟨#[121]⟩).bt).length <= 145 := LEN.out; omega) (by have h1 : (recs (lj ++ [(oneN wr (100 + (j : Int)) ⟨#[121]⟩).bt])).length <= (i + (j + 1)) * 1027 := RS2.out; omega)).mono ?_
       rintro e w6 ⟨rfl,F6,hp6,st6⟩
       have T6 := hid (TU.out.turn hp6 st6)
       have N6 : Hid (NB (St.new.apps (lj ++ [btN (100 + (j : Int)) ⟨#[121]⟩])) (99 + ((j + 1 : Nat) : Int)) (i + (j + 1))) := hid (by rw [St.apps_snoc]; exact NB2.out.weak (by omega))
       clear hp6 st6
       go_wp2
       go_roundw
       case rel => exact ⟨j + 1,F6,_,_,by omega,by go_num,T6.out,N6.out,RS2.out⟩
       case measure => simp [intOf]; omega
      ·obtain rfl : j = m := by omega
       have d2 : decide ((j : Int) < (j : Int)) = false := decide_eq_false (by omega)
       go_wp2_with fail
       refine (D.sync G s7 d Sj St.new lj wr TJ.out.p (TJ.out.er HEB.out)).mono ?_
       rintro e wA ⟨rfl,FA,hpA,stA⟩
       have TA := hid (TJ.out.turn hpA stA)
       obtain ⟨_,hsA,hfA,hhA⟩ := D.says hpA
       dsimp only at hsA
       have HFA := hid hfA; have HHA := hid hhA; have HSA := hid hsA
       clear hpA stA hsA hfA hhA
       obtain ⟨FB,hdB⟩ := TA.out.shelf D.toDevSC
       have DB := hid hdB
       clear hdB
       go_wp2_with fail
       refine (crash_any FB d _ 0 wA DB.out.sh ⟨by decide,by decide⟩).mono ?_
       rintro e wC ⟨rfl,hsC,hkC⟩
       have DC := hid (DB.out.crash hsC hkC)
       clear hsC hkC
       go_wp2_with fail
       refine (D.open_ FB d _ St.new wC DC.out.sh (DC.out.er HEB.out) DC.out.e).mono ?_
       rintro e wD ⟨sD,FD,SDD,lD,rfl,hoD,hpD,hsyD,stD⟩
       have TD := hid (DC.out.opened hpD stD)
       obtain ⟨_,_,kk,hlog,hsk,_⟩ := crash_log (S := { Sj with syn := Sj.log.length }) (Nat.le_refl _) 0
       have ho7 : Opens St.new ((recs lj).take kk) lD := by rw [<- HSA.out,<- hlog]; exact hoD
       obtain ⟨jj,hj1,hj2,hj3⟩ := reopen HFA.out HHA.out hsk ho7
       have hj4 := hj3 lj.length (Nat.le_refl _) (by rw [List.take_length]; exact Nat.le_of_eq (by show _ = Sj.log.length; rw [<- HSA.out]))
       have hlD : lD = lj := by rw [hj2,show jj = lj.length by omega,List.take_length]
       subst hlD
       clear hoD hpD hsyD stD hlog hsk ho7 hj1 hj2 hj3 hj4
       go_wp2_with fail
       refine (D.notes FD sD d SDD St.new lD wD TD.out.p (TD.out.er HEB.out)).mono ?_
       rintro e wE ⟨AE,nE,cE',rfl,hrE,_,bE'⟩
       have hnE : nE = i + j := by rw [<- hrE.1]; exact NJ.out.len
       subst hnE
       have TE := hid (TD.out.read D.toDevSC bE')
       have e9 : (((i + j : Nat) : Int) == (i : Int) + (j : Int)) = true := by simp
       clear hrE bE'
       go_wp2_with fail
       refine (awake12 D.toDevSC _ (by first | exact HEB.out | exact (HD8.out.er HEB.out).eb | exact (TE.out.er HEB.out).eb)).mono ?_
       rintro e wF ⟨rfl,bF⟩
       have BF := hid (TE.out.below.trans (bF.mono TE.out.below.size))
       clear bF
       go_wp2
       go_ret
       exact ⟨rfl,BF.out⟩
end Go.Proofs.YtmpcnhpdobdmcaaGreatDoor
