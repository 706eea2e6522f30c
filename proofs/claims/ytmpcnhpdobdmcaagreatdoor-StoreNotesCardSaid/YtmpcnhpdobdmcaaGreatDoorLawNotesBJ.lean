import Derived.Test.YtmpcnhpdobdmcaaGreatDoorLawNotesZ
import Derived.Test.YtmpcnhpdobdmcaaGreatDoorLawNotesS
import Derived.Test.YtmpcnhpdobdmcaaGreatDoorLawNotesBI
import Derived.Test.YtmpcnhpdobdmcaaGreatDoorRows
import Derived.LaidMore
import Derived.Stop.Joined
import Derived.Stop.LaidTwo
open Go.Lib (hid)
set_option linter.unusedVariables false
set_option linter.unusedSimpArgs false
set_option maxHeartbeats 2000000
set_option maxRecDepth 100000
namespace Go.Proofs.YtmpcnhpdobdmcaaGreatDoor
open Go Go.RowKit
def partsOf (s : St) (t : ByteArray) : List Pa := match getK Tb.nm s.tb t with | some T => T.ps | none => []
def getPt (s : St) (t k : ByteArray) : Pa := (getK Pa.key (partsOf s t) k).getD ⟨k,0,[]⟩
structure Small (s : St) : Prop where
 tabs : s.tb.length <= 8
 file : ∀ T ∈ s.tb,MayS T.nm T.ps /\ (sHead T.nm T.ps).length <= 200000
 notes : (s.nt.map fun x => x.2.size + 20).sum <= 100000
 nok : NOk s.nt
def InE (F : Nat -> Prop) (w : World) : Prop := ∃ a0 a1 a2 a3,ErIn F w a0 a1 a2 a3
def EB (w : World) : Prop := ∃ a0 a1 a2 a3,Ers w a0 a1 a2 a3
section
variable {F F' : Nat -> Prop} {w w' : World}
theorem InE.in_ (h : InE F w) : In F w := by
 obtain ⟨_,_,_,_,h⟩ := h
 exact h.in_
theorem EB.lt {w : World} {a0 a1 a2 a3 : Addr} (h : Ers w a0 a1 a2 a3) : a0.block < w.heap.size /\ a1.block < w.heap.size /\ a2.block < w.heap.size /\ a3.block < w.heap.size := by
 have e : ∀ {a : Addr},(∃ c t,w.heap[a.block]? = some (.cells c t (0,0))) -> a.block < w.heap.size := fun ⟨c,t,h⟩ => (Array.getElem?_eq_some_iff.1 h).1
 exact ⟨e h.c0,e h.c1,e h.c2,e h.c3⟩
theorem EB.below (h : EB w) (hb : Below w.heap.size w w') : EB w' := by
 obtain ⟨_,_,_,_,h⟩ := h
 exact ⟨_,_,_,_,h.below hb⟩
theorem EB.inE (h : EB w) (hb : Below w.heap.size w w') (hi : In F w') (hs : ∀ k,F k -> w.heap.size <= k) : InE F w' := by
 obtain ⟨a0,a1,a2,a3,h⟩ := h
 have hl := EB.lt h
 exact ⟨a0,a1,a2,a3,h.below hb,hi,w.heap.size,⟨cell_blk h.v0,cell_blk h.v1,cell_blk h.v2,cell_blk h.v3⟩,hl,hb.size,hs⟩
theorem InE.eb (h : InE F w) : EB w := by
 obtain ⟨a0,a1,a2,a3,h⟩ := h
 exact ⟨a0,a1,a2,a3,h.ers⟩
end
structure DevSC (P : World -> (Nat -> Prop) -> Nat -> Nat -> Sh -> St -> List Bt -> Prop) (E : Fl -> ByteArray -> St -> Prop) : Prop where
 fresh : E [] ⟨#[]⟩ St.new
 kept : ∀ {w w' : World} {F G : Nat -> Prop} {s d : Nat} {S : Sh} {b : St} {l : List Bt},P w G s d S b l -> Kept F w w' -> Off F G -> In G w -> P w' G s d S b l
 shelf : ∀ {w : World} {F : Nat -> Prop} {s d : Nat} {S : Sh} {b : St} {l : List Bt},P w F s d S b l -> ∃ Fd : Nat -> Prop,ShIs w Fd d S /\ ∀ k,Fd k -> F k
 says : ∀ {w : World} {F : Nat -> Prop} {s d : Nat} {S : Sh} {b : St} {l : List Bt},P w F s d S b l -> E S.fs S.man b /\ S.log = recs l /\ b.AllFit l /\ Short l
 open_ : ∀ (F : Nat -> Prop) (d : Nat) (S : Sh) (b : St) (w : World),ShIs w F d S -> InE F w -> E S.fs S.man b ->
  Calls Tryz.prog 6 #[.pointer (some ⟨d,0,none⟩)] w fun e w' => ∃ (s : Nat) (F' : Nat -> Prop) (S' : Sh) (l : List Bt),e = .returned (.tuple #[.pointer (some ⟨s,0,none⟩),.int .i64 0]) /\ Opens b S.log l /\ P w' F' s d S' b l /\ min S.syn S'.log.length <= S'.syn /\ Step F w F' w'
 apply : ∀ (F : Nat -> Prop) (s d : Nat) (S : Sh) (b : St) (l : List Bt) (x : BA) (w : World),P w F s d S b l -> InE F w -> LiesB w w.heap.size x -> (∀ k,x.blk k -> ¬ F k) -> BtF x -> (b.apps l).Fits x.bt -> (bE x.bt).length <= 262144 -> (recs (l ++ [x.bt])).length <= 262144 ->
  Calls Tryz.prog 9 #[.pointer (some ⟨s,0,none⟩),bV x] w fun e w' => e = .returned (.int .i64 0) /\ ∃ F',P w' F' s d { S with log := recs (l ++ [x.bt]) } b (l ++ [x.bt]) /\ Step F w F' w'
 sync : ∀ (F : Nat -> Prop) (s d : Nat) (S : Sh) (b : St) (l : List Bt) (w : World),P w F s d S b l -> InE F w ->
  Calls Tryz.prog 15 #[.pointer (some ⟨s,0,none⟩)] w fun e w' => e = .returned (.tuple #[]) /\ ∃ F',P w' F' s d { S with syn := S.log.length } b l /\ Step F w F' w'
 get : ∀ (F : Nat -> Prop) (s d : Nat) (S : Sh) (b : St) (l : List Bt) (t k : ByteArray) (w : World),P w F s d S b l -> InE F w -> t.size <= maxLen -> k.size <= maxLen ->
  Calls Tryz.prog 12 #[.pointer (some ⟨s,0,none⟩),.string t,.string k] w fun e w' => ∃ y : PA,e = .returned (.agg #[.string y.k,.int .i64 y.g,.slice y.A y.L.length y.c]) /\ paOf y = getPt (b.apps l) t k /\ Lies w' w'.heap.size y.A y.L.length y.c y.L /\ Below w.heap.size w w'
 tables : ∀ (F : Nat -> Prop) (s d : Nat) (S : Sh) (b : St) (l : List Bt) (w : World),P w F s d S b l -> InE F w ->
  Calls Tryz.prog 11 #[.pointer (some ⟨s,0,none⟩)] w fun e w' => ∃ (A : Option Addr) (n c : Nat),e = .returned (.slice A n c) /\ RdS w' w'.heap.size A n ((b.apps l).tb.map Tb.nm) /\ n <= c /\ Below w.heap.size w w'
structure DevSN (P : World -> (Nat -> Prop) -> Nat -> Nat -> Sh -> St -> List Bt -> Prop) (E : Fl -> ByteArray -> St -> Prop) : Prop extends DevSC P E where
 notes : ∀ (F : Nat -> Prop) (s d : Nat) (S : Sh) (b : St) (l : List Bt) (w : World),P w F s d S b l -> InE F w ->
  Calls Tryz.prog 18 #[.pointer (some ⟨s,0,none⟩)] w fun e w' => ∃ (A : Option Addr) (n c : Nat),e = .returned (.slice A n c) /\ RdT w' w'.heap.size A n (b.apps l).nt /\ n <= c /\ Below w.heap.size w w'
structure DevSF (P : World -> (Nat -> Prop) -> Nat -> Nat -> Sh -> St -> List Bt -> Prop) (E : Fl -> ByteArray -> St -> Prop) : Prop extends DevSN P E where
 flush : ∀ (F : Nat -> Prop) (s d : Nat) (S : Sh) (b : St) (l : List Bt) (w : World),P w F s d S b l -> InE F w -> Small (b.apps l) -> (b.apps l).tb = [] ->
  Calls Tryz.prog 14 #[.pointer (some ⟨s,0,none⟩)] w fun e w' => e = .returned (.int .i64 0) /\ ∃ F' S',P w' F' s d S' (b.apps l) [] /\ Step F w F' w'
 note : ∀ (F : Nat -> Prop) (s d : Nat) (S : Sh) (b : St) (l : List Bt) (id : Int) (w : World),P w F s d S b l -> InE F w -> (Lit.int .i64 id).wf = true ->
  Calls Tryz.prog 17 #[.pointer (some ⟨s,0,none⟩),.int .i64 id] w fun e w' => e = .returned (.tuple #[.string (getF (b.apps l).nt id),.bool (hasF (b.apps l).nt id)]) /\ Below w.heap.size w w'
variable {P : World -> (Nat -> Prop) -> Nat -> Nat -> Sh -> St -> List Bt -> Prop} {E : Fl -> ByteArray -> St -> Prop}
structure SD (P : World -> (Nat -> Prop) -> Nat -> Nat -> Sh -> St -> List Bt -> Prop) (W0 w : World) (F : Nat -> Prop) (s d : Nat) (S : Sh) (b : St) (l : List Bt) : Prop where
 p : P w F s d S b l
 sin : In F w
 sab : ∀ k,F k -> W0.heap.size <= k
 below : Below W0.heap.size W0 w
structure HD (E : Fl -> ByteArray -> St -> Prop) (W0 w : World) (F : Nat -> Prop) (d : Nat) (S : Sh) (b : St) : Prop where
 sh : ShIs w F d S
 sin : In F w
 sab : ∀ k,F k -> W0.heap.size <= k
 below : Below W0.heap.size W0 w
 e : E S.fs S.man b
section
variable {W0 w w' : World} {F F' : Nat -> Prop} {s d : Nat} {S S' : Sh} {b b' : St} {l l' : List Bt}
theorem SD.er (h : SD P W0 w F s d S b l) (hE : EB W0) : InE F w := hE.inE h.below h.sin h.sab
theorem HD.er (h : HD E W0 w F d S b) (hE : EB W0) : InE F w := hE.inE h.below h.sin h.sab
theorem SD.turn (h : SD P W0 w F s d S b l) (hs : P w' F' s d S' b' l') (st : Step F w F' w') : SD P W0 w' F' s d S' b' l' :=
 ⟨hs,st.in_ h.sin,st.above h.sab h.below.size,h.below.trans (st.below h.sab h.below.size)⟩
theorem SD.read (D : DevSC P E) (h : SD P W0 w F s d S b l) (hb : Below w.heap.size w w') : SD P W0 w' F s d S b l :=
 ⟨D.kept (F := fun _ => False) h.p (Kept.of_below hb _) (fun _ hf => hf.elim) h.sin,h.sin.up hb.size,h.sab,h.below.trans (hb.mono h.below.size)⟩
theorem SD.shelf (D : DevSC P E) (h : SD P W0 w F s d S b l) : ∃ Fd,HD E W0 w Fd d S b := by
 obtain ⟨Fd,h1,h2⟩ := D.shelf h.p
 exact ⟨Fd,h1,fun k hk => h.sin k (h2 k hk),fun k hk => h.sab k (h2 k hk),h.below,(D.says h.p).1⟩
theorem HD.turn (h : HD E W0 w F d S b) (hs : ShIs w' F' d S') (st : Step F w F' w') (he : E S'.fs S'.man b) : HD E W0 w' F' d S' b :=
 ⟨hs,st.in_ h.sin,st.above h.sab h.below.size,h.below.trans (st.below h.sab h.below.size),he⟩
theorem HD.opened (h : HD E W0 w F d S b) (hs : P w' F' s d S' b l) (st : Step F w F' w') : SD P W0 w' F' s d S' b l :=
 ⟨hs,st.in_ h.sin,st.above h.sab h.below.size,h.below.trans (st.below h.sab h.below.size)⟩
end
def oneM (w : World) (t k : ByteArray) (g : Int) : BA := ⟨some ⟨w.heap.size,0,none⟩,1,[⟨t,⟨k,g,[],none,0⟩⟩],none,0,[],none,0,[]⟩
theorem oneM_lies (w : World) (t k : ByteArray) (g : Int) : ∃ U,U = w.alloc (.cells #[.string t,.string k,.int .i64 g,.slice none 0 0] 35) /\ LiesB U U.heap.size (oneM w t k g) /\ Below w.heap.size w U := by
 refine ⟨_,rfl,⟨⟨(RdM.laid w ⟨t,⟨k,g,[],none,0⟩⟩).up (by simp),fun x hx => ?_,Nat.le_refl _⟩,⟨rfl,fun h => absurd h (by simp [oneM])⟩,⟨rfl,fun h => absurd h (by simp [oneM])⟩,Nat.le_refl _,Nat.le_refl _⟩,(Below.refl w.heap.size w).alloc (Nat.le_refl _) _⟩
 rw [List.mem_singleton.1 hx]
 exact ⟨⟨rfl,fun h => absurd h (by simp)⟩,fun y hy => (by cases hy),Nat.le_refl _⟩
theorem oneM_few (w : World) (t k : ByteArray) (g : Int) (ht : t.size <= 100) : BtF (oneM w t k g) :=
 ⟨fun y hy => by rw [List.mem_singleton.1 hy]; exact ⟨by show t.size <= _; omega,by simp,fun z hz => (by cases hz)⟩,fun y hy => (by cases hy),by simp [oneM],by simp [oneM],by simp [oneM]⟩
theorem oneM_off {w : World} (t k : ByteArray) (g : Int) {F : Nat -> Prop} (hF : In F w) : ∀ j,(oneM w t k g).blk j -> ¬ F j := BA.off hF fun j hj => by
 rcases hj with ⟨_,h⟩ | ⟨h,_⟩ | ⟨h,_⟩ | ⟨x,hx,h⟩
 ·exact Nat.le_of_eq (blkOf_eq h).symm
 ·exact absurd rfl h
 ·exact absurd rfl h
 ·rw [List.mem_singleton.1 hx] at h
  exact (no_rows h).elim
end Go.Proofs.YtmpcnhpdobdmcaaGreatDoor
namespace Go.Proofs.YtmpcnhpdobdmcaaGreatDoor
open Go Go.ChangeShapes Go.WideShapes Go.ChangeAt Go.RowKit
theorem gArg12 : Tryz.prog.globalNamed "clerestory/store.errArg" = some 0 := by kernel_rfl
theorem gBig12 : Tryz.prog.globalNamed "clerestory/store.errBig" = some 1 := by kernel_rfl
theorem gBytes12 : Tryz.prog.globalNamed "clerestory/store.errBytes" = some 2 := by kernel_rfl
theorem gNone12 : Tryz.prog.globalNamed "clerestory/store.errNone" = some 3 := by kernel_rfl
theorem tArg12 : (Tryz.prog.globals[0]?).map (·.type) = some 72 := by kernel_rfl
theorem tBig12 : (Tryz.prog.globals[1]?).map (·.type) = some 72 := by kernel_rfl
theorem tBytes12 : (Tryz.prog.globals[2]?).map (·.type) = some 72 := by kernel_rfl
theorem tNone12 : (Tryz.prog.globals[3]?).map (·.type) = some 72 := by kernel_rfl
theorem cE12 : Tryz.prog.cellsOf 355 = 1 := by kernel_rfl
theorem cS12 : Tryz.prog.cellsOf 9 = 1 := by kernel_rfl
theorem star12 : "*" ++ "errors.errorString" = "*errors.errorString" := by decide
theorem row12 (u : TypeId) (h : Tryz.prog.typeName? 3 u = some "*errors.errorString") : u = 332 :=
 typeName_ptr_named (nm := "errors.errorString") (by rw [star12]; kernel_rfl) (by kernel_rfl) (by decide) u (by rw [star12]; exact h)
abbrev laid12 : List (String × DataW Unit) := [("clerestory/store.errArg", Rows.laid_clerestory_store_errArg), ("clerestory/store.errBig", Rows.laid_clerestory_store_errBig), ("clerestory/store.errBytes", Rows.laid_clerestory_store_errBytes), ("clerestory/store.errNone", Rows.laid_clerestory_store_errNone)]
theorem door_met12 (os : Os) (args : Array Value) : laidMetH Tryz.prog laid12 ((World.doorLaid Tryz.prog 400 os).forCall (fun _ _ => 0) ⟨#[],args,[]⟩).memory :=
 laidMetH_of_parts3 (fuel := 8) (laidMet_of_run' 8 (by kernel_rfl) (by kernel_rfl)) (by kernel_rfl) (by kernel_rfl)
theorem four_of_laid {W : World} (h : laidMetH Tryz.prog laid12 W) : EB W := by
 rw [MakeChecks.laidMetH_plain _ _ _ (by kernel_rfl)] at h
 obtain ⟨ps,⟨g0',t0',cs0,f0,p0,q0,hg0',ht0',hv0,hd0,⟨g1',t1',cs1,f1,p1,q1,hg1',ht1',hv1,hd1,⟨g2',t2',cs2,f2,p2,q2,hg2',ht2',hv2,hd2,⟨g3',t3',cs3,f3,p3,q3,hg3',ht3',hv3,hd3,_,e3⟩,e2⟩,e1⟩,e0⟩,hnd,hrows⟩ := h
 obtain rfl := Option.some.inj (gArg12.symm.trans hg0')
 obtain rfl := Option.some.inj (gBig12.symm.trans hg1')
 obtain rfl := Option.some.inj (gBytes12.symm.trans hg2')
 obtain rfl := Option.some.inj (gNone12.symm.trans hg3')
 obtain rfl := Option.some.inj (tArg12.symm.trans ht0')
 obtain rfl := Option.some.inj (tBig12.symm.trans ht1')
 obtain rfl := Option.some.inj (tBytes12.symm.trans ht2')
 obtain rfl := Option.some.inj (tNone12.symm.trans ht3')
 subst e3
 subst e2
 subst e1
 subst e0
 have v0 := World.var?_cell hg0' hv0 0
 have v1 := World.var?_cell hg1' hv1 0
 have v2 := World.var?_cell hg2' hv2 0
 have v3 := World.var?_cell hg3' hv3 0
 obtain ⟨l0⟩ := cs0
 obtain ⟨l1⟩ := cs1
 obtain ⟨l2⟩ := cs2
 obtain ⟨l3⟩ := cs3
 have ok0 : ∀ u v,l0 = [.iface u v] -> Value.okWide Tryz.prog W .any 0 u v := fun u v e => by
  subst e
  exact (hrows 0 0 (by simp [MemPlace.row])).2 u v (by simpa using v0)
 have ok1 : ∀ u v,l1 = [.iface u v] -> Value.okWide Tryz.prog W .any 0 u v := fun u v e => by
  subst e
  exact (hrows 1 0 (by simp [MemPlace.row])).2 u v (by simpa using v1)
 have ok2 : ∀ u v,l2 = [.iface u v] -> Value.okWide Tryz.prog W .any 0 u v := fun u v e => by
  subst e
  exact (hrows 2 0 (by simp [MemPlace.row])).2 u v (by simpa using v2)
 have ok3 : ∀ u v,l3 = [.iface u v] -> Value.okWide Tryz.prog W .any 0 u v := fun u v e => by
  subst e
  exact (hrows 3 0 (by simp [MemPlace.row])).2 u v (by simpa using v3)
 obtain ⟨a0,s0,rfl,hc0,hs0,hz0,rfl⟩ := errorString_of_trod Tryz.underlying72 row12 Tryz.underlying332 Tryz.underlying355 rfl rfl Tryz.underlying9 cE12 cS12 hd0 ok0
 obtain ⟨a1,s1,rfl,hc1,hs1,hz1,rfl⟩ := errorString_of_trod Tryz.underlying72 row12 Tryz.underlying332 Tryz.underlying355 rfl rfl Tryz.underlying9 cE12 cS12 hd1 ok1
 obtain ⟨a2,s2,rfl,hc2,hs2,hz2,rfl⟩ := errorString_of_trod Tryz.underlying72 row12 Tryz.underlying332 Tryz.underlying355 rfl rfl Tryz.underlying9 cE12 cS12 hd2 ok2
 obtain ⟨a3,s3,rfl,hc3,hs3,hz3,rfl⟩ := errorString_of_trod Tryz.underlying72 row12 Tryz.underlying332 Tryz.underlying355 rfl rfl Tryz.underlying9 cE12 cS12 hd3 ok3
 refine ⟨a0,a1,a2,a3,by simpa using v0,by simpa using v1,by simpa using v2,by simpa using v3,(hrows a0.block a0.off (by simp [MemPlace.row])).1,(hrows a1.block a1.off (by simp [MemPlace.row])).1,(hrows a2.block a2.off (by simp [MemPlace.row])).1,(hrows a3.block a3.off (by simp [MemPlace.row])).1,?_,?_,?_,?_,?_,?_⟩
 all_goals
  rintro rfl
  simp [MemPlace.row] at hnd
end Go.Proofs.YtmpcnhpdobdmcaaGreatDoor
namespace Go.Proofs.YtmpcnhpdobdmcaaGreatDoor
open Go Go.RowKit
variable {P : World -> (Nat -> Prop) -> Nat -> Nat -> Sh -> St -> List Bt -> Prop} {E : Fl -> ByteArray -> St -> Prop}
def oneN (w : World) (i : Int) (s : ByteArray) : BA := ⟨none,0,[],some ⟨w.heap.size,0,none⟩,1,[(i,s)],none,0,[]⟩
theorem oneN_lies (w : World) (i : Int) (s : ByteArray) : ∃ U,U = w.alloc (.cells #[.int .i64 i,.string s] 57) /\ LiesB U U.heap.size (oneN w i s) /\ Below w.heap.size w U := by
 refine ⟨_,rfl,⟨⟨⟨rfl,fun h => absurd h (by simp [oneN])⟩,fun x hx => (by cases hx),Nat.le_refl _⟩,(RdN.laid w (i,s)).up (by simp),⟨rfl,fun h => absurd h (by simp [oneN])⟩,Nat.le_refl _,Nat.le_refl _⟩,(Below.refl w.heap.size w).alloc (Nat.le_refl _) _⟩
theorem oneN_off {w : World} (i : Int) (s : ByteArray) {F : Nat -> Prop} (hF : In F w) : ∀ j,(oneN w i s).blk j -> ¬ F j := BA.off hF fun j hj => by
 rcases hj with ⟨h,_⟩ | ⟨_,h⟩ | ⟨h,_⟩ | ⟨x,hx,h⟩
 ·exact absurd rfl h
 ·exact Nat.le_of_eq (blkOf_eq h).symm
 ·exact absurd rfl h
 ·cases hx
theorem oneN_few (w : World) (i : Int) (s : ByteArray) (hs : s.size <= maxLen) : BtF (oneN w i s) :=
 ⟨fun y hy => (by cases hy),fun y hy => by rw [List.mem_singleton.1 hy]; exact hs,by simp [oneN],by simp [oneN],by simp [oneN]⟩
theorem crash_log {S : Sh} (h : S.syn <= S.log.length) (n : Int) : (S.crash n).fs = S.fs /\ (S.crash n).man = S.man /\ ∃ k,(S.crash n).log = S.log.take k /\ S.syn <= k /\ (S.crash n).syn = (S.crash n).log.length := by
 refine ⟨rfl,rfl,clip ((S.syn + clip n (S.log.length - S.syn) : Nat) : Int) S.log.length,rfl,?_,?_⟩
 ·unfold clip; omega
 ·show clip _ _ = (S.log.take _).length
  rw [List.length_take]
  have := clip_le ((S.syn + clip n (S.log.length - S.syn) : Nat) : Int) S.log.length
  omega
theorem reopen {s : St} {l l' : List Bt} (h : s.AllFit l) (sh : Short l) {k y : Nat} (hk : y <= k) (ho : Opens s ((recs l).take k) l') : ∃ j,j <= l.length /\ l' = l.take j /\ ∀ c,c <= l.length -> (recs (l.take c)).length <= y -> c <= j := by
 obtain ⟨j,h1,h2,h3,_⟩ := Opens.torn h sh k
 exact ⟨j,h1,ho.unique h2,fun c hc hc2 => h3 c hc (Nat.le_trans hc2 hk)⟩
section
variable {W0 w w' : World} {F F' : Nat -> Prop} {s d : Nat} {S S' : Sh} {b b' : St} {l l' : List Bt}
theorem HD.crash (h : HD E W0 w F d S b) {n : Int} (hs : ShIs w' F d (S.crash n)) (hk : Kept F w w') : HD E W0 w' F d (S.crash n) b := h.turn hs (Step.same hk) h.e
end
theorem field_gone (k : ByteArray) (g : Int) (A : Option Addr) (n c : Nat) (w : World) : (Instr.field 33 (.agg #[.string k,.int .i64 g,.slice A n c]) 1).run Tryz.prog w = .ok (.int .i64 g) w := by kernel_rfl
def bA : Bt := btM ⟨#[116]⟩ ⟨#[97]⟩ 5
theorem bA_fits : St.new.Fits bA /\ (bE bA).length <= 262144 /\ (recs ([] ++ [bA])).length <= 262144 := by
 have hl : (bE bA).length <= 300 := btM_len (by decide) (by decide) (by decide) (by decide)
 have happ : (St.new.app bA).tb = [⟨⟨#[116]⟩,[⟨⟨#[97]⟩,5,[]⟩]⟩] := rfl
 refine ⟨⟨by decide +kernel,rfl,fun T hT => ?_,by rw [happ]; decide⟩,by omega,?_⟩
 ·rw [happ] at hT
  rw [List.mem_singleton.1 hT]
  exact ⟨by decide,fun p hp => by rw [List.mem_singleton.1 hp]; decide⟩
 ·have := recs_snoc_small [] bA
  have e : (recs []).length = 0 := rfl
  omega
theorem awake12 (D : DevSC P E) (w : World) (hEB : EB w) : Calls Tryz.prog 13 #[] w fun e w' => e = .returned (.bool true) /\ Below w.heap.size w w' := by
 have HEB := hid hEB
 clear hEB
 go_enter Tryz.func13,Tryz.ntmps13
 go_wp2_with fail
 refine (new_any w).mono ?_
 rintro e w1 ⟨d,F1,rfl,hsh,b1,hF⟩
 have H1 := hid (⟨hsh,fun k hk => (hF k hk).2,fun k hk => (hF k hk).1,b1,D.fresh⟩ : HD E w w1 F1 d Sh.new St.new)
 clear hsh b1 hF
 go_wp2_with fail
 refine (D.open_ F1 d Sh.new St.new w1 H1.out.sh (H1.out.er HEB.out) H1.out.e).mono ?_
 rintro e w2 ⟨s,F2,S2,l2,rfl,ho,hp,hsy,st⟩
 have hl2 : l2 = [] := by
  have := ho.most
  obtain ⟨r,ha,hb,_⟩ := this
  have hr : r = [] := ha.unique (Ans.all [])
  subst hr
  simpa using hb
 subst hl2
 have T2 := hid (H1.out.opened hp st)
 clear ho hp hsy st
 obtain ⟨U,hU,hli,bU⟩ := oneM_lies w2 ⟨#[116]⟩ ⟨#[97]⟩ 5
 have TU := hid (T2.out.read D bU)
 have LU := hid hli
 clear hli bU
 go_wp2_with fail
 rw [<- hU]
 clear hU
 refine (D.apply F2 s d S2 St.new [] (oneM w2 ⟨#[116]⟩ ⟨#[97]⟩ 5) U TU.out.p (TU.out.er HEB.out) LU.out (oneM_off _ _ _ T2.out.sin) (oneM_few w2 _ _ _ (by decide)) bA_fits.1 bA_fits.2.1 bA_fits.2.2).mono ?_
 rintro e w3 ⟨rfl,F3,hp3,st3⟩
 have T3 := hid (TU.out.turn hp3 st3)
 clear hp3 st3
 go_wp2_with fail
 refine (D.sync F3 s d _ St.new _ w3 T3.out.p (T3.out.er HEB.out)).mono ?_
 rintro e w4 ⟨rfl,F4,hp4,st4⟩
 have T4 := hid (T3.out.turn hp4 st4)
 clear hp4 st4
 obtain ⟨Fd,hd4⟩ := T4.out.shelf D
 have D4 := hid hd4
 clear hd4
 go_wp2_with fail
 refine (crash_any Fd d _ 0 w4 D4.out.sh ⟨by decide,by decide⟩).mono ?_
 rintro e w5 ⟨rfl,hs5,hk5⟩
 have D5 := hid (D4.out.crash hs5 hk5)
 clear hs5 hk5
 go_wp2_with fail
 refine (D.open_ Fd d _ St.new w5 D5.out.sh (D5.out.er HEB.out) D5.out.e).mono ?_
 rintro e w6 ⟨s6,F6,S6,l6,rfl,ho6,hp6,hsy6,st6⟩
 have T6 := hid (D5.out.opened hp6 st6)
 obtain ⟨_,_,k,hlog,hsk,_⟩ := crash_log (S := { { S2 with log := recs ([] ++ [bA]) } with syn := (recs ([] ++ [bA])).length }) (Nat.le_refl _) 0
 have ho7 : Opens St.new ((recs ([] ++ [bA])).take k) l6 := by rw [<- hlog]; exact ho6
 obtain ⟨j,hj1,hj2,hj3⟩ := reopen (s := St.new) (l := [] ++ [bA]) (by simp only [List.nil_append]; unfold St.AllFit; exact ⟨bA_fits.1,by unfold St.AllFit; trivial⟩) (fun x hx => by rw [List.mem_singleton.1 hx]; exact bA_fits.2.1) hsk ho7
 have hj4 := hj3 1 (Nat.le_refl _) (Nat.le_refl _)
 have hl6 : l6 = [bA] := by rw [hj2,show j = 1 by simp at hj1; omega]; rfl
 subst hl6
 clear ho6 hp6 hsy6 st6 hlog hsk ho7 hj1 hj2 hj3 hj4
 go_wp2_with fail
 refine (D.get F6 s6 d S6 St.new [bA] ⟨#[116]⟩ ⟨#[97]⟩ w6 T6.out.p (T6.out.er HEB.out) (by decide) (by decide)).mono ?_
 rintro e w7 ⟨⟨yk,yg,yL,yA,yc⟩,rfl,hy,hly,b7⟩
 have hyg : yg = 5 := by
  have := congrArg Pa.gone hy
  exact this
 subst hyg
 have T7 := hid (T6.out.read D b7)
 have hfl := field_gone yk 5 yA yL.length yc
 clear hy hly b7
 go_wp2_with fail
 refine (D.tables F6 s6 d S6 St.new [bA] w7 T7.out.p (T7.out.er HEB.out)).mono ?_
 rintro e w8 ⟨A8,n8,c8,rfl,hr8,hc8,b8⟩
 have hn8 : n8 = 1 := hr8.1.symm
 subst hn8
 have T8 := hid (T7.out.read D b8)
 clear hr8 hc8 b8
 go_wp2
 go_ret
 exact ⟨rfl,T8.out.below⟩
end Go.Proofs.YtmpcnhpdobdmcaaGreatDoor
namespace Go.Proofs.YtmpcnhpdobdmcaaGreatDoor
open Go Go.RowKit
variable {P : World -> (Nat -> Prop) -> Nat -> Nat -> Sh -> St -> List Bt -> Prop} {E : Fl -> ByteArray -> St -> Prop}
section
variable {W0 w w' : World} {F F' : Nat -> Prop} {s d : Nat} {S : Sh} {b : St} {l : List Bt}
theorem SD.store (D : DevSF P E) (h : SD P W0 w F s d S b l) {q i : Nat} (hn : ¬ F q) (hq : W0.heap.size <= q) (v : Value) : SD P W0 (w.setCell ⟨q,i,none⟩ v) F s d S b l := by
 have hk : Kept (fun k => k = q) w (w.setCell ⟨q,i,none⟩ v) := Kept.setCell (fun k => k = q) w ⟨q,i,none⟩ v rfl
 have st : Step (fun k => k = q) w (fun k => k = q) (w.setCell ⟨q,i,none⟩ v) := ⟨hk,fun k hk => Or.inl hk⟩
 exact ⟨D.kept h.p hk (fun k hk hf => hn (by subst hk; exact hf)) h.sin,h.sin.up hk.size,h.sab,h.below.trans (st.below (fun k hk => by subst hk; exact hq) h.below.size)⟩
theorem step_not {q : Nat} (st : Step F w F' w') (hn : ¬ F q) (hq : q < w.heap.size) : ¬ F' q := fun h => by
 rcases st.new q h with h1 | h1
 ·exact hn h1
 ·omega
end
def oneD (w : World) (i : Int) : BA := ⟨none,0,[],none,0,[],some ⟨w.heap.size,0,none⟩,1,[i]⟩
theorem oneD_off {w : World} (i : Int) {F : Nat -> Prop} (hF : In F w) : ∀ j,(oneD w i).blk j -> ¬ F j := BA.off hF fun j hj => by
 rcases hj with ⟨h,_⟩ | ⟨h,_⟩ | ⟨_,h⟩ | ⟨x,hx,h⟩
 ·exact absurd rfl h
 ·exact absurd rfl h
 ·exact Nat.le_of_eq (blkOf_eq h).symm
 ·cases hx
theorem oneD_lies (w : World) (i : Int) : ∃ U,U = w.alloc (.cells #[.int .i64 i] 3) /\ LiesB U U.heap.size (oneD w i) /\ Below w.heap.size w U := by
 refine ⟨_,rfl,⟨⟨⟨rfl,fun h => absurd h (by simp [oneD])⟩,fun x hx => (by cases hx),Nat.le_refl _⟩,⟨rfl,fun h => absurd h (by simp [oneD])⟩,?_,Nat.le_refl _,Nat.le_refl _⟩,(Below.refl w.heap.size w).alloc (Nat.le_refl _) _⟩
 obtain ⟨h1,h2⟩ := RdZ.lay1 w i
 exact ⟨h1,fun hn => by obtain ⟨g,o,e,hg,hc⟩ := h2 hn; exact ⟨g,o,e,by simp; omega,hc⟩⟩
theorem oneD_few (w : World) (i : Int) : BtF (oneD w i) :=
 ⟨fun y hy => (by cases hy),fun y hy => (by cases hy),by simp [oneD],by simp [oneD],by simp [oneD]⟩
theorem small_notes {s : St} {T : Nat -> ByteArray} (ht : s.tb = []) (h : LastJ s.nt T) : Small s := by
 have h1 := h.few
 refine ⟨(by rw [ht]; simp),(by rw [ht]; intro T hT; cases hT),?_,h.ok⟩
 have := sum_le (l := s.nt.map fun x => x.2.size + 20) (b := 4116) (fun x hx => by
  obtain ⟨y,hy,rfl⟩ := List.mem_map.1 hx
  have := h.ok.bod y hy
  omega)
 rw [List.length_map] at this
 have h2 : s.nt.length * 4116 <= 9 * 4116 := Nat.mul_le_mul_right _ h1
 omega
theorem snotes_law (D : DevSF P E) (A : Option Addr) (n c : Nat) (L : List Int) (w : World) (h : RdZ w w.heap.size A n L) (hc : n <= c) (hm : c <= maxLen) (hx : ∀ x ∈ L,(Lit.int .i64 x).wf = true) (hEB : EB w) :
    Calls Tryz.prog 4 #[.slice A n c] w fun e w' => e = .returned (.bool true) /\ Below w.heap.size w w' := by
 have HH := hid h; have HX := hid hx; have HLEN := hid h.1; have HEB := hid hEB
 clear h hx hc hm hEB
 go_enter Tryz.func4,Tryz.ntmps4
 go_wp2_with fail
 refine (new_any w).mono ?_
 rintro e w1 ⟨d,F1,rfl,hsh,b1,hF⟩
 have H1 := hid (⟨hsh,fun k hk => (hF k hk).2,fun k hk => (hF k hk).1,b1,D.fresh⟩ : HD E w w1 F1 d Sh.new St.new)
 clear hsh b1 hF
 go_wp2_with fail
 refine (D.open_ F1 d Sh.new St.new w1 H1.out.sh (H1.out.er HEB.out) H1.out.e).mono ?_
 rintro e w2 ⟨s,F2,S2,l2,rfl,ho,hp,hsy,st⟩
 have hl2 : l2 = [] := by
  obtain ⟨r,ha,hb,_⟩ := ho.most
  have hr : r = [] := ha.unique (Ans.all [])
  subst hr
  simpa using hb
 subst hl2
 have hT2 := H1.out.opened hp st
 have ba := (Below.refl w2.heap.size w2).alloc (Nat.le_refl _) (.cells (arrD fun _ => ⟨#[]⟩) 53)
 have hq := heap_alloc_new w2 (.cells (arrD fun _ => ⟨#[]⟩) 53)
 obtain ⟨U,hU⟩ : ∃ U,U = w2.alloc (.cells (arrD fun _ => ⟨#[]⟩) 53) := ⟨_,rfl⟩
 rw [<- hU] at ba hq
 have T2 := hid (hT2.read D.toDevSC ba)
 have Q2 := hid (show ArrDt U w2.heap.size (fun _ => ⟨#[]⟩) from hq)
 obtain ⟨q,hqe⟩ : ∃ q,w2.heap.size = q := ⟨_,rfl⟩
 have N2 := hid (show ¬ F2 q from fun hf => by have := hT2.sin _ hf; omega)
 rw [hqe] at Q2
 have HQE := hid hqe
 have HQW := hid (show w.heap.size <= q by have := hT2.below.size; omega)
 rw [arrD_none] at hU
 clear ho hp hsy st hT2 ba hq hqe
 go_upto_block 0 with fail
 rw [<- hU,HQE.out]
 clear hU
 go_cut [4] from 30 to 102 (fun sv wx => ∃ wy,wx = wy /\ ∃ (s : Nat) (F : Nat -> Prop) (S : Sh) (b : St) (l : List Bt) (T : Nat -> ByteArray),sv = .pointer (some ⟨s,0,none⟩) /\ SD P w wy F s d S b l /\ (b.apps l).tb = [] /\ LastJ (b.apps l).nt T /\ ArrDt wy q T)
 case first =>
  go_wp2_with fail
  go_loopw [4,7] (fun sv iv wr => ∃ (t s : Nat) (F : Nat -> Prop) (S : Sh) (b : St) (l : List Bt) (T : Nat -> ByteArray),t <= n /\ sv = .pointer (some ⟨s,0,none⟩) /\ iv = .int .i64 (t : Nat) /\ SD P w wr F s d S b l /\ (b.apps l).tb = [] /\ LastJ (b.apps l).nt T /\ ArrDt wr q T /\ ¬ F q /\ (recs l).length <= t * 1027) (fun _ iv _ => n - (intOf iv).toNat)
  case atStart => exact ⟨0,s,F2,S2,St.new,[],_,Nat.zero_le _,rfl,rfl,T2.out,rfl,LastJ.start,Q2.out,N2.out,Nat.le_refl _⟩
  case round =>
   obtain ⟨t,s,F,S,b,l,T,ht,rfl,rfl,h1,htb,hl1,hq1,hnq,hrl⟩ := hrel
   have TT := hid h1; have TB := hid htb; have LL := hid hl1; have QQ := hid hq1; have NQ := hid hnq; have RL := hid hrl
   clear h1 htb hl1 hq1 hnq hrl
   by_cases hgo : t < n /\ t < 40
   ·obtain ⟨hlt,h40⟩ := hgo
    have i1 : (t : Int) < n := by omega
    have i0 : (0 : Int) <= t := by omega
    have i6 : (t : Int) < 40 := by omega
    have htl : t < L.length := by rw [HLEN.out]; exact hlt
    have hqr := HH.out.below TT.out.below
    obtain ⟨g0,o0,rfl,hg0,hcs⟩ := hqr.2 (by omega)
    have z0 := hcs t htl
    have hwx := HX.out L[t] (List.getElem_mem htl)
    obtain ⟨x,hx⟩ : ∃ x,L[t] = x := ⟨_,rfl⟩
    rw [hx] at z0 hwx
    have HWX := hid hwx
    clear hqr hcs hwx hx hg0 htl
    go_wp2_with fail
    refine (place_any x 1048576 _ (by omega) (by omega) (bounds_i64 HWX.out)).mono ?_
    rintro e w6 ⟨rfl,rfl⟩
    obtain ⟨v,hv⟩ : ∃ v : Nat,x % 1048576 = (v : Int) := ⟨(x % 1048576).toNat,by have := Int.emod_nonneg x (show (1048576 : Int) ≠ 0 by decide); omega⟩
    have hv5 : v < 1048576 := by have := Int.emod_lt_of_pos x (show (0 : Int) < 1048576 by decide); omega
    rw [hv]
    clear hv z0
    go_upto_region 11 with fail
    obtain ⟨id,hid⟩ : ∃ id : Nat,1 + (v : Int) % 9 = (id : Int) := ⟨1 + v % 9,by omega⟩
    have hid1 : 1 <= id := by omega
    have hid2 : id < 10 := by omega
    rw [hid]
    clear hid
    have j0 : (0 : Int) <= id := by omega
    have j1 : (id : Int) < 10 := by omega
    have HWI := hid (show (Lit.int .i64 (id : Int)).wf = true from WalkArith.wf_i64 ⟨by omega,by omega⟩)
    obtain ⟨r,hr⟩ : ∃ r : Nat,(v : Int) / 9 % 6 = (r : Int) := ⟨v / 9 % 6,by omega⟩
    go_upto_block 2 with fail
    go_cut [4,5] from 51 to 96 (fun sv ev wx => ev = .int .i64 0 /\ ∃ wy,wx = wy /\ ∃ (s : Nat) (F : Nat -> Prop) (S : Sh) (b : St) (l : List Bt) (T : Nat -> ByteArray),sv = .pointer (some ⟨s,0,none⟩) /\ SD P w wy F s d S b l /\ (b.apps l).tb = [] /\ LastJ (b.apps l).nt T /\ ArrDt wy q T /\ ¬ F q /\ (recs l).length <= (t + 1) * 1027)
    case first =>
     clear j0 hr
     by_cases r0 : (v : Int) / 9 % 6 = 0
     ·have e0 : ((v : Int) / 9 % 6 == 0) = true := by simpa using r0
      clear r0
      obtain ⟨hfit,htb2,hl2⟩ := LL.out.app_drop TB.out hid1 hid2
      have hlen := btD_len (i := (id : Int)) (by omega) (by omega)
      have hrs := recs_snoc_small l (btD (id : Int))
      have hci := QQ.out.cell hid2
      have hfi := QQ.out.thaw id
      have T5 := hid (TT.out.store D (i := id) NQ.out HQW.out (.string ⟨#[]⟩))
      have Q5 := hid (QQ.out.set id ⟨#[]⟩)
      have FIT := hid hfit; have LEN := hid hlen; have RS2 := hid (show (recs (l ++ [btD (id : Int)])).length <= (t + 1) * 1027 by have := RL.out; omega)
      have TB2 := hid htb2; have LL2 := hid hl2
      clear hfit htb2 hl2 hlen hrs
      go_upto_region 16 with fail
      generalize wr.setCell ⟨q,id,none⟩ (.string ⟨#[]⟩) = W5 at T5 Q5 ⊢
      obtain ⟨U,hU,hli,bU⟩ := oneD_lies W5 (id : Int)
      have TU := hid (T5.out.read D.toDevSC bU)
      have QU := hid (Q5.out.below bU)
      have LU := hid hli
      clear hli bU hci hfi
      go_wp2_with fail
      rw [<- hU]
      clear hU
      refine (D.apply F s d S b l (oneD W5 (id : Int)) U TU.out.p (TU.out.er HEB.out) LU.out (oneD_off _ T5.out.sin) (oneD_few W5 _) FIT.out (by have h1 : (bE (oneD W5 (id : Int)).bt).length <= 145 := LEN.out; omega) (by have h1 : (recs (l ++ [(oneD W5 (id : Int)).bt])).length <= (t + 1) * 1027 := RS2.out; omega)).mono ?_
      rintro e w6 ⟨rfl,F6,hp6,st6⟩
      have T6 := hid (TU.out.turn hp6 st6)
      have N6 := hid (step_not st6 NQ.out QU.out.lt)
      have Q6 := hid (QU.out.kept st6.kept NQ.out)
      have TB6 : Hid ((b.apps (l ++ [btD (id : Int)])).tb = []) := hid (by rw [St.apps_snoc]; exact TB2.out)
      have LL6 : Hid (LastJ (b.apps (l ++ [btD (id : Int)])).nt (updD T id ⟨#[]⟩)) := hid (by rw [St.apps_snoc]; exact LL2.out)
      clear hp6 st6
      go_wp2
      go_meet
      exact ⟨rfl,w6,rfl,s,F6,_,b,_,_,rfl,T6.out,TB6.out,LL6.out,Q6.out,N6.out,RS2.out⟩
     have e0 : ((v : Int) / 9 % 6 == 0) = false := by simpa using r0
     clear r0
     by_cases r1 : (v : Int) / 9 % 6 = 1
     ·have e1 : ((v : Int) / 9 % 6 == 1) = true := by simpa using r1
      clear r1
      go_wp2_with fail
      refine (D.flush F s d S b l wr TT.out.p (TT.out.er HEB.out) (small_notes TB.out LL.out) TB.out).mono ?_
      rintro e w6 ⟨rfl,F6,S6,hp6,st6⟩
      have T6 := hid (TT.out.turn hp6 st6)
      have N6 := hid (step_not st6 NQ.out QQ.out.lt)
      have Q6 := hid (QQ.out.kept st6.kept NQ.out)
      clear hp6 st6
      go_wp2
      go_meet
      exact ⟨rfl,w6,rfl,s,F6,S6,b.apps l,[],T,rfl,T6.out,TB.out,LL.out,Q6.out,N6.out,Nat.zero_le _⟩
     have e1 : ((v : Int) / 9 % 6 == 1) = false := by simpa using r1
     clear r1
     by_cases r2 : (v : Int) / 9 % 6 = 2
     ·have e2 : ((v : Int) / 9 % 6 == 2) = true := by simpa using r2
      clear r2
      go_wp2_with fail
      refine (D.sync F s d S b l wr TT.out.p (TT.out.er HEB.out)).mono ?_
      rintro e wA ⟨rfl,FA,hpA,stA⟩
      have TA := hid (TT.out.turn hpA stA)
      have NA := hid (step_not stA NQ.out QQ.out.lt)
      have QA := hid (QQ.out.kept stA.kept NQ.out)
      obtain ⟨hEA,hsA,hfA,hhA⟩ := D.says hpA
      dsimp only at hsA
      have HFA := hid hfA; have HHA := hid hhA; have HSA := hid hsA
      obtain ⟨FB,hdB,hsubB⟩ := D.shelf hpA
      have DB := hid (show HD E w wA FB d _ b from ⟨hdB,fun k hk => TA.out.sin k (hsubB k hk),fun k hk => TA.out.sab k (hsubB k hk),TA.out.below,hEA⟩)
      have NB := hid (show ¬ FB q from fun h => NA.out (hsubB q h))
      clear hpA stA hsA hfA hhA hdB hsubB hEA
      obtain ⟨z,hz⟩ : ∃ z : Int,(v : Int) / 100 % 9 = z := ⟨_,rfl⟩
      have hz0 : 0 <= z /\ z < 9 := by omega
      go_wp2_with fail
      rw [hz]
      refine (crash_any FB d _ z wA DB.out.sh ⟨by omega,by omega⟩).mono ?_
      rintro e wC ⟨rfl,hsC,hkC⟩
      have DC := hid (DB.out.crash hsC hkC)
      have QC := hid (QA.out.kept hkC NB.out)
      clear hsC hkC hz
      go_wp2_with fail
      refine (D.open_ FB d _ b wC DC.out.sh (DC.out.er HEB.out) DC.out.e).mono ?_
      rintro e wD ⟨sD,FD,SDD,lD,rfl,hoD,hpD,hsyD,stD⟩
      have TD := hid (DC.out.opened hpD stD)
      have ND := hid (step_not stD NB.out QC.out.lt)
      have QD := hid (QC.out.kept stD.kept NB.out)
      obtain ⟨_,_,kk,hlog,hsk,_⟩ := crash_log (S := { S with syn := S.log.length }) (Nat.le_refl _) z
      have ho7 : Opens b ((recs l).take kk) lD := by rw [<- HSA.out,<- hlog]; exact hoD
      obtain ⟨jj,hj1,hj2,hj3⟩ := reopen HFA.out HHA.out hsk ho7
      have hj4 := hj3 l.length (Nat.le_refl _) (by rw [List.take_length]; exact Nat.le_of_eq (by show _ = S.log.length; rw [<- HSA.out]))
      have hlD : lD = l := by rw [hj2,show jj = l.length by omega,List.take_length]
      subst hlD
      clear hoD hpD hsyD stD hlog hsk ho7 hj1 hj2 hj3 hj4
      have RL2 := hid (show (recs lD).length <= (t + 1) * 1027 by have := RL.out; omega)
      go_wp2
      go_meet
      exact ⟨rfl,wD,rfl,sD,FD,_,b,lD,T,rfl,TD.out,TB.out,LL.out,QD.out,ND.out,RL2.out⟩
     have e2 : ((v : Int) / 9 % 6 == 2) = false := by simpa using r2
     clear r2
     have hci := QQ.out.cell hid2
     have hfi := QQ.out.thaw id
     go_upto_region 13 with fail
     obtain ⟨s2,hs2⟩ : ∃ s2 : ByteArray,(ByteArray.mk #[97,98,99,100]).extract (v / 80 % 4) (v / 80 % 4 + 1) = s2 := ⟨_,rfl⟩
     have hz2 : s2.size = 1 := by rw [<- hs2,ByteArray.size_extract]; have : (ByteArray.mk #[97,98,99,100]).size = 4 := rfl; omega
     rw [hs2]
     obtain ⟨hfit,htb2,hl2⟩ := LL.out.app_add TB.out hid1 hid2 hz2
     have hlen := btN_len (i := (id : Int)) (s := s2) (by omega) (by omega) (by omega)
     have hrs := recs_snoc_small l (btN (id : Int) s2)
     have T5 := hid (TT.out.store D (i := id) NQ.out HQW.out (.string s2))
     have Q5 := hid (QQ.out.set id s2)
     have FIT := hid hfit; have LEN := hid hlen; have RS2 := hid (show (recs (l ++ [btN (id : Int) s2])).length <= (t + 1) * 1027 by have := RL.out; omega)
     have TB2 := hid htb2; have LL2 := hid hl2
     have hc5 := Q5.out.cell hid2
     have hu5 : updD T id s2 id = s2 := by unfold updD; rw [if_pos rfl]
     rw [hu5] at hc5
     have HZ2 := hid hz2
     clear hfit htb2 hl2 hlen hrs hz2 hu5 hs2 hci hfi
     generalize wr.setCell ⟨q,id,none⟩ (.string s2) = W5 at T5 Q5 hc5 ⊢
     obtain ⟨U,hU,hli,bU⟩ := oneN_lies W5 (id : Int) s2
     have TU := hid (T5.out.read D.toDevSC bU)
     have QU := hid (Q5.out.below bU)
     have LU := hid hli
     clear hli bU
     go_wp2_with fail
     rw [<- hU]
     clear hU
     refine (D.apply F s d S b l (oneN W5 (id : Int) s2) U TU.out.p (TU.out.er HEB.out) LU.out (oneN_off _ _ T5.out.sin) (oneN_few W5 _ _ (by have := HZ2.out; unfold maxLen; omega)) FIT.out (by have h1 : (bE (oneN W5 (id : Int) s2).bt).length <= 145 := LEN.out; omega) (by have h1 : (recs (l ++ [(oneN W5 (id : Int) s2).bt])).length <= (t + 1) * 1027 := RS2.out; omega)).mono ?_
     rintro e w6 ⟨rfl,F6,hp6,st6⟩
     have T6 := hid (TU.out.turn hp6 st6)
     have N6 := hid (step_not st6 NQ.out QU.out.lt)
     have Q6 := hid (QU.out.kept st6.kept NQ.out)
     have TB6 : Hid ((b.apps (l ++ [btN (id : Int) s2])).tb = []) := hid (by rw [St.apps_snoc]; exact TB2.out)
     have LL6 : Hid (LastJ (b.apps (l ++ [btN (id : Int) s2])).nt (updD T id s2)) := hid (by rw [St.apps_snoc]; exact LL2.out)
     clear hp6 st6 hc5
     go_wp2
     go_meet
     exact ⟨rfl,w6,rfl,s,F6,_,b,_,_,rfl,T6.out,TB6.out,LL6.out,Q6.out,N6.out,RS2.out⟩
    case rest =>
     obtain ⟨rfl,wy,rfl,s7,F7,S7,b7,l7,T7,rfl,h7,htb7,hl7,hq7,hnq7,hrl7⟩ := hcut
     have R7 := hid (show _ /\ _ /\ _ /\ _ /\ _ /\ _ from ⟨h7,htb7,hl7,hq7,hnq7,hrl7⟩)
     clear h7 htb7 hl7 hq7 hnq7 hrl7
     go_wp2
     go_roundw
     case rel => exact ⟨t + 1,s7,F7,S7,b7,l7,T7,by omega,rfl,by go_num,R7.out⟩
     case measure => simp [intOf]; omega
   ·by_cases k1 : t < n
    ·have h2 : ¬ t < 40 := fun h => hgo ⟨k1,h⟩
     have i1 : decide ((t : Int) < (n : Int)) = true := decide_eq_true (by omega)
     have i2 : decide ((t : Int) < 40) = false := decide_eq_false (by omega)
     have i3 : decide (t < n) = true := decide_eq_true k1
     have i4 : decide (t < 40) = false := decide_eq_false h2
     clear hgo k1 h2 ht
     go_wp2
     go_meet
     exact ⟨wr,rfl,s,F,S,b,l,T,rfl,TT.out,TB.out,LL.out,QQ.out⟩
    ·have i1 : decide ((t : Int) < (n : Int)) = false := decide_eq_false (by omega)
     have i3 : decide (t < n) = false := decide_eq_false k1
     clear hgo k1 ht
     go_wp2
     go_meet
     exact ⟨wr,rfl,s,F,S,b,l,T,rfl,TT.out,TB.out,LL.out,QQ.out⟩
 case rest =>
  obtain ⟨wy,hwy,s,F,S,b,l,T,rfl,h1,htb,hl1,hq1⟩ := hcut
  have hwz := hwy.symm
  clear hwy
  subst hwz
  have TT := hid h1; have LL := hid hl1; have QQ := hid hq1
  clear h1 htb hl1 hq1 T2 Q2 N2
  obtain ⟨R,hR⟩ : ∃ R,(b.apps l).nt = R := ⟨_,rfl⟩
  rw [hR] at LL
  have HR := hid hR
  clear hR
  go_wp2_with fail
  go_loopw [10,11] (fun kv iv wr => ∃ (k t : Nat),1 <= t /\ t <= 10 /\ kv = .int .i64 (k : Nat) /\ iv = .int .i64 (t : Nat) /\ idxF R (t : Int) = k /\ Below wy.heap.size wy wr) (fun _ iv _ => 10 - (intOf iv).toNat)
  case atStart => exact ⟨0,1,Nat.le_refl _,by omega,rfl,rfl,LL.out.none,Below.refl _ _⟩
  case round =>
   obtain ⟨k,t,ht1,ht2,rfl,rfl,hk,hbw⟩ := hrel
   have HK := hid hk; have HBW := hid hbw
   have TW := hid (TT.out.read D.toDevSC hbw)
   clear hbw hk
   by_cases hlt : t < 10
   ·have i1 : (t : Int) < 10 := by omega
    have i0 : (0 : Int) <= t := by omega
    have HWI := hid (show (Lit.int .i64 (t : Int)).wf = true from WalkArith.wf_i64 ⟨by omega,by omega⟩)
    have hk9 : k <= 9 := by have := idxF_le R (t : Int); have := LL.out.few; have := HK.out; omega
    obtain ⟨s3,hs⟩ : ∃ s3,T t = s3 := ⟨_,rfl⟩
    have hgg := LL.out.get t ht1 hlt
    have hgs := LL.out.has t ht1 hlt
    rw [hs] at hgg hgs
    obtain ⟨u,hu⟩ : ∃ u,hasF R (t : Int) = u := ⟨_,rfl⟩
    rw [hu] at hgs
    obtain ⟨hne,hne2⟩ := empty_bitJ hgs
    have HGG := hid hgg; have HU := hid hu; have HS := hid hs
    clear hgg hu hgs hs
    go_wp2_with fail
    refine (D.note F s d S b l (t : Int) _ TW.out.p (TW.out.er HEB.out) HWI.out).mono ?_
    rintro e w9 ⟨rfl,b9⟩
    rw [HR.out,HGG.out,HU.out]
    have HB9 := hid (HBW.out.trans (b9.mono HBW.out.size))
    have hc9 := ((QQ.out.below HB9.out).cell hlt)
    rw [HS.out] at hc9
    have e5 : (s3.toList != s3.toList) = false := by simp
    have e6 : (s3.toList == s3.toList) = true := by simp
    have e9 : (u != u) = false := by simp
    clear b9
    cases u with
    | false =>
      have HKS := hid (show idxF R ((t + 1 : Nat) : Int) = k by rw [<- HK.out]; exact idx_stayJ LL.out.ok.up (t : Int) HU.out)
      go_wp2
      go_roundw
      case rel => exact ⟨k,t + 1,by omega,by omega,rfl,by go_num,HKS.out,HB9.out⟩
      case measure => simp [intOf]; omega
    | true =>
      obtain ⟨hl,he1,he2,he3⟩ := idx_stepJ LL.out.ok.up (t : Int) HU.out
      have HKS := hid (show idxF R ((t + 1 : Nat) : Int) = k + 1 by rw [<- HK.out]; exact he3)
      have k0 : (0 : Int) <= k := by omega
      clear hl he1 he2 he3
      go_wp2
      go_roundw
      case rel => exact ⟨k + 1,t + 1,by omega,by omega,by go_num,by go_num,HKS.out,HB9.out⟩
      case measure => simp [intOf]; omega
   ·obtain rfl : t = 10 := by omega
    have hkm : k = R.length := by rw [<- HK.out]; exact LL.out.all
    have HKM := hid hkm
    clear hkm
    go_wp2_with fail
    refine (D.notes F s d S b l _ TW.out.p (TW.out.er HEB.out)).mono ?_
    rintro e wE ⟨AE,nE,cE',rfl,hrE,_,bE'⟩
    have hnE : nE = k := by rw [<- hrE.1,HR.out,HKM.out]
    subst hnE
    have TE := hid (TW.out.read D.toDevSC bE')
    have e9 : ((nE : Int) == (nE : Int)) = true := by simp
    clear hrE bE'
    go_wp2_with fail
    refine (awake12 D.toDevSC _ (by first | exact (TE.out.er HEB.out).eb)).mono ?_
    rintro e wF ⟨rfl,bF⟩
    have BF := hid (TE.out.below.trans (bF.mono TE.out.below.size))
    clear bF
    go_wp2
    go_ret
    exact ⟨rfl,BF.out⟩
end Go.Proofs.YtmpcnhpdobdmcaaGreatDoor
