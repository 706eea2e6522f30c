import Derived.Test.YtmpcnhpdobdmcaaGreatDoorLawRoomsX
import Derived.Test.YtmpcnhpdobdmcaaGreatDoorLawRoomsQ
import Derived.Test.YtmpcnhpdobdmcaaGreatDoorLawRoomsBG
import Derived.Test.YtmpcnhpdobdmcaaGreatDoorRows
import Derived.LaidMore
import Derived.Stop.Joined
import Derived.Stop.LaidTwo
open Go.Lib (hid)
open List renaming getElem_toArray -> zq1,getElem_cons_succ -> zq2,getElem_cons_zero -> zq3,setIfInBounds_toArray -> zq4,set_cons_zero -> zq5,set_cons_succ -> zq6
set_option linter.unusedVariables false
set_option linter.unusedSimpArgs false
set_option maxHeartbeats 16000000
set_option maxRecDepth 100000
namespace Go.Proofs.YtmpcnhpdobdmcaaGreatDoor
open Go Go.RowKit
def partsOf (s : St) (t : ByteArray) : List Pa := match getK Tb.nm s.tb t with | some T => T.ps | none => []
def getPt (s : St) (t k : ByteArray) : Pa := (getK Pa.key (partsOf s t) k).getD ⟨k,0,[]⟩
def InE (F : Nat -> Prop) (w : World) : Prop := ∃ a0 a1 a2 a3,ErIn F w a0 a1 a2 a3
def EB (w : World) : Prop := ∃ a0 a1 a2 a3,Ers w a0 a1 a2 a3
section
variable {F F' : Nat -> Prop} {w w' : World}
theorem InE.in_ (h : InE F w) : In F w := by
 obtain ⟨_,_,_,_,h⟩ := h
 exact h.in_
theorem EB.lt {w : World} {a0 a1 a2 a3 : Addr} (h : Ers w a0 a1 a2 a3) : a0.block < w.heap.size /\ a1.block < w.heap.size /\ a2.block < w.heap.size /\ a3.block < w.heap.size := by
 have e : ∀ {a : Addr},(∃ c t,w.heap[a.block]? = some (.cells c t (0,0))) -> a.block < w.heap.size := fun ⟨c,t,h⟩ => (Array.getElem?_eq_some_iff.1 h).1
 exact ⟨e h.c0,e h.c1,e h.c2,e h.c3⟩
theorem EB.below (h : EB w) (hb : Below w.heap.size w w') : EB w' := by
 obtain ⟨_,_,_,_,h⟩ := h
 exact ⟨_,_,_,_,h.below hb⟩
theorem EB.inE (h : EB w) (hb : Below w.heap.size w w') (hi : In F w') (hs : ∀ k,F k -> w.heap.size <= k) : InE F w' := by
 obtain ⟨a0,a1,a2,a3,h⟩ := h
 have hl := EB.lt h
 exact ⟨a0,a1,a2,a3,h.below hb,hi,w.heap.size,⟨cell_blk h.v0,cell_blk h.v1,cell_blk h.v2,cell_blk h.v3⟩,hl,hb.size,hs⟩
theorem InE.eb (h : InE F w) : EB w := by
 obtain ⟨a0,a1,a2,a3,h⟩ := h
 exact ⟨a0,a1,a2,a3,h.ers⟩
end
structure DevSC (P : World -> (Nat -> Prop) -> Nat -> Nat -> Sh -> St -> List Bt -> Prop) (E : Fl -> ByteArray -> St -> Prop) : Prop where
 fresh : E [] ⟨#[]⟩ St.new
 kept : ∀ {w w' : World} {F G : Nat -> Prop} {s d : Nat} {S : Sh} {b : St} {l : List Bt},P w G s d S b l -> Kept F w w' -> Off F G -> In G w -> P w' G s d S b l
 shelf : ∀ {w : World} {F : Nat -> Prop} {s d : Nat} {S : Sh} {b : St} {l : List Bt},P w F s d S b l -> ∃ Fd : Nat -> Prop,ShIs w Fd d S /\ ∀ k,Fd k -> F k
 says : ∀ {w : World} {F : Nat -> Prop} {s d : Nat} {S : Sh} {b : St} {l : List Bt},P w F s d S b l -> E S.fs S.man b /\ S.log = recs l /\ b.AllFit l /\ Short l
 open_ : ∀ (F : Nat -> Prop) (d : Nat) (S : Sh) (b : St) (w : World),ShIs w F d S -> InE F w -> E S.fs S.man b ->
  Calls Tryz.prog 6 #[.pointer (some ⟨d,0,none⟩)] w fun e w' => ∃ (s : Nat) (F' : Nat -> Prop) (S' : Sh) (l : List Bt),e = .returned (.tuple #[.pointer (some ⟨s,0,none⟩),.int .i64 0]) /\ Opens b S.log l /\ P w' F' s d S' b l /\ min S.syn S'.log.length <= S'.syn /\ Step F w F' w'
 apply : ∀ (F : Nat -> Prop) (s d : Nat) (S : Sh) (b : St) (l : List Bt) (x : BA) (w : World),P w F s d S b l -> InE F w -> LiesB w w.heap.size x -> (∀ k,x.blk k -> ¬ F k) -> BtF x -> (b.apps l).Fits x.bt -> (bE x.bt).length <= 262144 -> (recs (l ++ [x.bt])).length <= 262144 ->
  Calls Tryz.prog 9 #[.pointer (some ⟨s,0,none⟩),bV x] w fun e w' => e = .returned (.int .i64 0) /\ ∃ F',P w' F' s d { S with log := recs (l ++ [x.bt]) } b (l ++ [x.bt]) /\ Step F w F' w'
 sync : ∀ (F : Nat -> Prop) (s d : Nat) (S : Sh) (b : St) (l : List Bt) (w : World),P w F s d S b l -> InE F w ->
  Calls Tryz.prog 15 #[.pointer (some ⟨s,0,none⟩)] w fun e w' => e = .returned (.tuple #[]) /\ ∃ F',P w' F' s d { S with syn := S.log.length } b l /\ Step F w F' w'
 get : ∀ (F : Nat -> Prop) (s d : Nat) (S : Sh) (b : St) (l : List Bt) (t k : ByteArray) (w : World),P w F s d S b l -> InE F w -> t.size <= maxLen -> k.size <= maxLen ->
  Calls Tryz.prog 12 #[.pointer (some ⟨s,0,none⟩),.string t,.string k] w fun e w' => ∃ y : PA,e = .returned (.agg #[.string y.k,.int .i64 y.g,.slice y.A y.L.length y.c]) /\ paOf y = getPt (b.apps l) t k /\ Lies w' w'.heap.size y.A y.L.length y.c y.L /\ Below w.heap.size w w'
 tables : ∀ (F : Nat -> Prop) (s d : Nat) (S : Sh) (b : St) (l : List Bt) (w : World),P w F s d S b l -> InE F w ->
  Calls Tryz.prog 11 #[.pointer (some ⟨s,0,none⟩)] w fun e w' => ∃ (A : Option Addr) (n c : Nat),e = .returned (.slice A n c) /\ RdS w' w'.heap.size A n ((b.apps l).tb.map Tb.nm) /\ n <= c /\ Below w.heap.size w w'
structure DevSR (P : World -> (Nat -> Prop) -> Nat -> Nat -> Sh -> St -> List Bt -> Prop) (E : Fl -> ByteArray -> St -> Prop) : Prop extends DevSC P E where
 big : ∀ (F : Nat -> Prop) (s d : Nat) (S : Sh) (b : St) (l : List Bt) (x : BA) (w : World),P w F s d S b l -> InE F w -> LiesB w w.heap.size x -> BtF x -> x.bt.ok = true -> ¬ (b.apps l).Fits x.bt ->
  Calls Tryz.prog 9 #[.pointer (some ⟨s,0,none⟩),bV x] w fun e w' => e = .returned (.int .i64 2) /\ ∃ F',P w' F' s d S b l /\ Step F w F' w'
 parts : ∀ (F : Nat -> Prop) (s d : Nat) (S : Sh) (b : St) (l : List Bt) (t : ByteArray) (w : World),P w F s d S b l -> InE F w -> t.size <= maxLen ->
  Calls Tryz.prog 10 #[.pointer (some ⟨s,0,none⟩),.string t] w fun e w' => ∃ (A : Option Addr) (n c : Nat) (L : List PA),e = .returned (.slice A n c) /\ LiesP w' w'.heap.size A n c L /\ pas L = partsOf (b.apps l) t /\ Below w.heap.size w w'
variable {P : World -> (Nat -> Prop) -> Nat -> Nat -> Sh -> St -> List Bt -> Prop} {E : Fl -> ByteArray -> St -> Prop}
structure SD (P : World -> (Nat -> Prop) -> Nat -> Nat -> Sh -> St -> List Bt -> Prop) (W0 w : World) (F : Nat -> Prop) (s d : Nat) (S : Sh) (b : St) (l : List Bt) : Prop where
 p : P w F s d S b l
 sin : In F w
 sab : ∀ k,F k -> W0.heap.size <= k
 below : Below W0.heap.size W0 w
structure HD (E : Fl -> ByteArray -> St -> Prop) (W0 w : World) (F : Nat -> Prop) (d : Nat) (S : Sh) (b : St) : Prop where
 sh : ShIs w F d S
 sin : In F w
 sab : ∀ k,F k -> W0.heap.size <= k
 below : Below W0.heap.size W0 w
 e : E S.fs S.man b
section
variable {W0 w w' : World} {F F' : Nat -> Prop} {s d : Nat} {S S' : Sh} {b b' : St} {l l' : List Bt}
theorem SD.er (h : SD P W0 w F s d S b l) (hE : EB W0) : InE F w := hE.inE h.below h.sin h.sab
theorem HD.er (h : HD E W0 w F d S b) (hE : EB W0) : InE F w := hE.inE h.below h.sin h.sab
theorem SD.turn (h : SD P W0 w F s d S b l) (hs : P w' F' s d S' b' l') (st : Step F w F' w') : SD P W0 w' F' s d S' b' l' :=
 ⟨hs,st.in_ h.sin,st.above h.sab h.below.size,h.below.trans (st.below h.sab h.below.size)⟩
theorem SD.read (D : DevSC P E) (h : SD P W0 w F s d S b l) (hb : Below w.heap.size w w') : SD P W0 w' F s d S b l :=
 ⟨D.kept (F := fun _ => False) h.p (Kept.of_below hb _) (fun _ hf => hf.elim) h.sin,h.sin.up hb.size,h.sab,h.below.trans (hb.mono h.below.size)⟩
theorem SD.shelf (D : DevSC P E) (h : SD P W0 w F s d S b l) : ∃ Fd,HD E W0 w Fd d S b := by
 obtain ⟨Fd,h1,h2⟩ := D.shelf h.p
 exact ⟨Fd,h1,fun k hk => h.sin k (h2 k hk),fun k hk => h.sab k (h2 k hk),h.below,(D.says h.p).1⟩
theorem HD.turn (h : HD E W0 w F d S b) (hs : ShIs w' F' d S') (st : Step F w F' w') (he : E S'.fs S'.man b) : HD E W0 w' F' d S' b :=
 ⟨hs,st.in_ h.sin,st.above h.sab h.below.size,h.below.trans (st.below h.sab h.below.size),he⟩
theorem HD.opened (h : HD E W0 w F d S b) (hs : P w' F' s d S' b l) (st : Step F w F' w') : SD P W0 w' F' s d S' b l :=
 ⟨hs,st.in_ h.sin,st.above h.sab h.below.size,h.below.trans (st.below h.sab h.below.size)⟩
end
def oneM (w : World) (t k : ByteArray) (g : Int) : BA := ⟨some ⟨w.heap.size,0,none⟩,1,[⟨t,⟨k,g,[],none,0⟩⟩],none,0,[],none,0,[]⟩
theorem oneM_lies (w : World) (t k : ByteArray) (g : Int) : ∃ U,U = w.alloc (.cells #[.string t,.string k,.int .i64 g,.slice none 0 0] 35) /\ LiesB U U.heap.size (oneM w t k g) /\ Below w.heap.size w U := by
 refine ⟨_,rfl,⟨⟨(RdM.laid w ⟨t,⟨k,g,[],none,0⟩⟩).up (by simp),fun x hx => ?_,Nat.le_refl _⟩,⟨rfl,fun h => absurd h (by simp [oneM])⟩,⟨rfl,fun h => absurd h (by simp [oneM])⟩,Nat.le_refl _,Nat.le_refl _⟩,(Below.refl w.heap.size w).alloc (Nat.le_refl _) _⟩
 rw [List.mem_singleton.1 hx]
 exact ⟨⟨rfl,fun h => absurd h (by simp)⟩,fun y hy => (by cases hy),Nat.le_refl _⟩
theorem oneM_few (w : World) (t k : ByteArray) (g : Int) (ht : t.size <= 100) : BtF (oneM w t k g) :=
 ⟨fun y hy => by rw [List.mem_singleton.1 hy]; exact ⟨by show t.size <= _; omega,by simp,fun z hz => (by cases hz)⟩,fun y hy => (by cases hy),by simp [oneM],by simp [oneM],by simp [oneM]⟩
theorem oneM_off {w : World} (t k : ByteArray) (g : Int) {F : Nat -> Prop} (hF : In F w) : ∀ j,(oneM w t k g).blk j -> ¬ F j := BA.off hF fun j hj => by
 rcases hj with ⟨_,h⟩ | ⟨h,_⟩ | ⟨h,_⟩ | ⟨x,hx,h⟩
 ·exact Nat.le_of_eq (blkOf_eq h).symm
 ·exact absurd rfl h
 ·exact absurd rfl h
 ·rw [List.mem_singleton.1 hx] at h
  exact (no_rows h).elim
end Go.Proofs.YtmpcnhpdobdmcaaGreatDoor
namespace Go.Proofs.YtmpcnhpdobdmcaaGreatDoor
open Go Go.ChangeShapes Go.WideShapes Go.ChangeAt Go.RowKit
theorem gArg12 : Tryz.prog.globalNamed "clerestory/store.errArg" = some 0 := by kernel_rfl
theorem gBig12 : Tryz.prog.globalNamed "clerestory/store.errBig" = some 1 := by kernel_rfl
theorem gBytes12 : Tryz.prog.globalNamed "clerestory/store.errBytes" = some 2 := by kernel_rfl
theorem gNone12 : Tryz.prog.globalNamed "clerestory/store.errNone" = some 3 := by kernel_rfl
theorem tArg12 : (Tryz.prog.globals[0]?).map (·.type) = some 72 := by kernel_rfl
theorem tBig12 : (Tryz.prog.globals[1]?).map (·.type) = some 72 := by kernel_rfl
theorem tBytes12 : (Tryz.prog.globals[2]?).map (·.type) = some 72 := by kernel_rfl
theorem tNone12 : (Tryz.prog.globals[3]?).map (·.type) = some 72 := by kernel_rfl
theorem cE12 : Tryz.prog.cellsOf 355 = 1 := by kernel_rfl
theorem cS12 : Tryz.prog.cellsOf 9 = 1 := by kernel_rfl
theorem star12 : "*" ++ "errors.errorString" = "*errors.errorString" := by decide
theorem row12 (u : TypeId) (h : Tryz.prog.typeName? 3 u = some "*errors.errorString") : u = 332 :=
 typeName_ptr_named (nm := "errors.errorString") (by rw [star12]; kernel_rfl) (by kernel_rfl) (by decide) u (by rw [star12]; exact h)
abbrev laid12 : List (String × DataW Unit) := [("clerestory/store.errArg", Rows.laid_clerestory_store_errArg), ("clerestory/store.errBig", Rows.laid_clerestory_store_errBig), ("clerestory/store.errBytes", Rows.laid_clerestory_store_errBytes), ("clerestory/store.errNone", Rows.laid_clerestory_store_errNone)]
theorem door_met12 (os : Os) (args : Array Value) : laidMetH Tryz.prog laid12 ((World.doorLaid Tryz.prog 400 os).forCall (fun _ _ => 0) ⟨#[],args,[]⟩).memory :=
 laidMetH_of_parts3 (fuel := 8) (laidMet_of_run' 8 (by kernel_rfl) (by kernel_rfl)) (by kernel_rfl) (by kernel_rfl)
theorem four_of_laid {W : World} (h : laidMetH Tryz.prog laid12 W) : EB W := by
 rw [MakeChecks.laidMetH_plain _ _ _ (by kernel_rfl)] at h
 obtain ⟨ps,⟨g0',t0',cs0,f0,p0,q0,hg0',ht0',hv0,hd0,⟨g1',t1',cs1,f1,p1,q1,hg1',ht1',hv1,hd1,⟨g2',t2',cs2,f2,p2,q2,hg2',ht2',hv2,hd2,⟨g3',t3',cs3,f3,p3,q3,hg3',ht3',hv3,hd3,_,e3⟩,e2⟩,e1⟩,e0⟩,hnd,hrows⟩ := h
 obtain rfl := Option.some.inj (gArg12.symm.trans hg0')
 obtain rfl := Option.some.inj (gBig12.symm.trans hg1')
 obtain rfl := Option.some.inj (gBytes12.symm.trans hg2')
 obtain rfl := Option.some.inj (gNone12.symm.trans hg3')
 obtain rfl := Option.some.inj (tArg12.symm.trans ht0')
 obtain rfl := Option.some.inj (tBig12.symm.trans ht1')
 obtain rfl := Option.some.inj (tBytes12.symm.trans ht2')
 obtain rfl := Option.some.inj (tNone12.symm.trans ht3')
 subst e3
 subst e2
 subst e1
 subst e0
 have v0 := World.var?_cell hg0' hv0 0
 have v1 := World.var?_cell hg1' hv1 0
 have v2 := World.var?_cell hg2' hv2 0
 have v3 := World.var?_cell hg3' hv3 0
 obtain ⟨l0⟩ := cs0
 obtain ⟨l1⟩ := cs1
 obtain ⟨l2⟩ := cs2
 obtain ⟨l3⟩ := cs3
 have ok0 : ∀ u v,l0 = [.iface u v] -> Value.okWide Tryz.prog W .any 0 u v := fun u v e => by
  subst e
  exact (hrows 0 0 (by simp [MemPlace.row])).2 u v (by simpa using v0)
 have ok1 : ∀ u v,l1 = [.iface u v] -> Value.okWide Tryz.prog W .any 0 u v := fun u v e => by
  subst e
  exact (hrows 1 0 (by simp [MemPlace.row])).2 u v (by simpa using v1)
 have ok2 : ∀ u v,l2 = [.iface u v] -> Value.okWide Tryz.prog W .any 0 u v := fun u v e => by
  subst e
  exact (hrows 2 0 (by simp [MemPlace.row])).2 u v (by simpa using v2)
 have ok3 : ∀ u v,l3 = [.iface u v] -> Value.okWide Tryz.prog W .any 0 u v := fun u v e => by
  subst e
  exact (hrows 3 0 (by simp [MemPlace.row])).2 u v (by simpa using v3)
 obtain ⟨a0,s0,rfl,hc0,hs0,hz0,rfl⟩ := errorString_of_trod Tryz.underlying72 row12 Tryz.underlying332 Tryz.underlying355 rfl rfl Tryz.underlying9 cE12 cS12 hd0 ok0
 obtain ⟨a1,s1,rfl,hc1,hs1,hz1,rfl⟩ := errorString_of_trod Tryz.underlying72 row12 Tryz.underlying332 Tryz.underlying355 rfl rfl Tryz.underlying9 cE12 cS12 hd1 ok1
 obtain ⟨a2,s2,rfl,hc2,hs2,hz2,rfl⟩ := errorString_of_trod Tryz.underlying72 row12 Tryz.underlying332 Tryz.underlying355 rfl rfl Tryz.underlying9 cE12 cS12 hd2 ok2
 obtain ⟨a3,s3,rfl,hc3,hs3,hz3,rfl⟩ := errorString_of_trod Tryz.underlying72 row12 Tryz.underlying332 Tryz.underlying355 rfl rfl Tryz.underlying9 cE12 cS12 hd3 ok3
 refine ⟨a0,a1,a2,a3,by simpa using v0,by simpa using v1,by simpa using v2,by simpa using v3,(hrows a0.block a0.off (by simp [MemPlace.row])).1,(hrows a1.block a1.off (by simp [MemPlace.row])).1,(hrows a2.block a2.off (by simp [MemPlace.row])).1,(hrows a3.block a3.off (by simp [MemPlace.row])).1,?_,?_,?_,?_,?_,?_⟩
 all_goals
  rintro rfl
  simp [MemPlace.row] at hnd
end Go.Proofs.YtmpcnhpdobdmcaaGreatDoor
namespace Go.Proofs.YtmpcnhpdobdmcaaGreatDoor
open Go Go.RowKit
variable {P : World -> (Nat -> Prop) -> Nat -> Nat -> Sh -> St -> List Bt -> Prop} {E : Fl -> ByteArray -> St -> Prop}
theorem crash_log {S : Sh} (h : S.syn <= S.log.length) (n : Int) : (S.crash n).fs = S.fs /\ (S.crash n).man = S.man /\ ∃ k,(S.crash n).log = S.log.take k /\ S.syn <= k /\ (S.crash n).syn = (S.crash n).log.length := by
 refine ⟨rfl,rfl,clip ((S.syn + clip n (S.log.length - S.syn) : Nat) : Int) S.log.length,rfl,?_,?_⟩
 ·unfold clip; omega
 ·show clip _ _ = (S.log.take _).length
  rw [List.length_take]
  have := clip_le ((S.syn + clip n (S.log.length - S.syn) : Nat) : Int) S.log.length
  omega
theorem reopen {s : St} {l l' : List Bt} (h : s.AllFit l) (sh : Short l) {k y : Nat} (hk : y <= k) (ho : Opens s ((recs l).take k) l') : ∃ j,j <= l.length /\ l' = l.take j /\ ∀ c,c <= l.length -> (recs (l.take c)).length <= y -> c <= j := by
 obtain ⟨j,h1,h2,h3,_⟩ := Opens.torn h sh k
 exact ⟨j,h1,ho.unique h2,fun c hc hc2 => h3 c hc (Nat.le_trans hc2 hk)⟩
section
variable {W0 w w' : World} {F F' : Nat -> Prop} {s d : Nat} {S S' : Sh} {b b' : St} {l l' : List Bt}
theorem HD.crash (h : HD E W0 w F d S b) {n : Int} (hs : ShIs w' F d (S.crash n)) (hk : Kept F w w') : HD E W0 w' F d (S.crash n) b := h.turn hs (Step.same hk) h.e
end
theorem field_gone (k : ByteArray) (g : Int) (A : Option Addr) (n c : Nat) (w : World) : (Instr.field 33 (.agg #[.string k,.int .i64 g,.slice A n c]) 1).run Tryz.prog w = .ok (.int .i64 g) w := by kernel_rfl
theorem field_rows (k : ByteArray) (g : Int) (A : Option Addr) (n c : Nat) (w : World) : (Instr.field 33 (.agg #[.string k,.int .i64 g,.slice A n c]) 2).run Tryz.prog w = .ok (.slice A n c) w := by kernel_rfl
def bA : Bt := btM ⟨#[116]⟩ ⟨#[97]⟩ 5
theorem bA_fits : St.new.Fits bA /\ (bE bA).length <= 262144 /\ (recs ([] ++ [bA])).length <= 262144 := by
 have hl : (bE bA).length <= 300 := btM_len (by decide) (by decide) (by decide) (by decide)
 have happ : (St.new.app bA).tb = [⟨⟨#[116]⟩,[⟨⟨#[97]⟩,5,[]⟩]⟩] := rfl
 refine ⟨⟨by decide +kernel,rfl,fun T hT => ?_,by rw [happ]; decide⟩,by omega,?_⟩
 ·rw [happ] at hT
  rw [List.mem_singleton.1 hT]
  exact ⟨by decide,fun p hp => by rw [List.mem_singleton.1 hp]; decide⟩
 ·have := recs_snoc_small [] bA
  have e : (recs []).length = 0 := rfl
  omega
theorem awake12 (D : DevSC P E) (w : World) (hEB : EB w) : Calls Tryz.prog 13 #[] w fun e w' => e = .returned (.bool true) /\ Below w.heap.size w w' := by
 have HEB := hid hEB
 clear hEB
 go_enter Tryz.func13,Tryz.ntmps13
 go_wp2_with fail
 refine (new_any w).mono ?_
 rintro e w1 ⟨d,F1,rfl,hsh,b1,hF⟩
 have H1 := hid (⟨hsh,fun k hk => (hF k hk).2,fun k hk => (hF k hk).1,b1,D.fresh⟩ : HD E w w1 F1 d Sh.new St.new)
 clear hsh b1 hF
 go_wp2_with fail
 refine (D.open_ F1 d Sh.new St.new w1 H1.out.sh (H1.out.er HEB.out) H1.out.e).mono ?_
 rintro e w2 ⟨s,F2,S2,l2,rfl,ho,hp,hsy,st⟩
 have hl2 : l2 = [] := by
  have := ho.most
  obtain ⟨r,ha,hb,_⟩ := this
  have hr : r = [] := ha.unique (Ans.all [])
  subst hr
  simpa using hb
 subst hl2
 have T2 := hid (H1.out.opened hp st)
 clear ho hp hsy st
 obtain ⟨U,hU,hli,bU⟩ := oneM_lies w2 ⟨#[116]⟩ ⟨#[97]⟩ 5
 have TU := hid (T2.out.read D bU)
 have LU := hid hli
 clear hli bU
 go_wp2_with fail
 rw [<- hU]
 clear hU
 refine (D.apply F2 s d S2 St.new [] (oneM w2 ⟨#[116]⟩ ⟨#[97]⟩ 5) U TU.out.p (TU.out.er HEB.out) LU.out (oneM_off _ _ _ T2.out.sin) (oneM_few w2 _ _ _ (by decide)) bA_fits.1 bA_fits.2.1 bA_fits.2.2).mono ?_
 rintro e w3 ⟨rfl,F3,hp3,st3⟩
 have T3 := hid (TU.out.turn hp3 st3)
 clear hp3 st3
 go_wp2_with fail
 refine (D.sync F3 s d _ St.new _ w3 T3.out.p (T3.out.er HEB.out)).mono ?_
 rintro e w4 ⟨rfl,F4,hp4,st4⟩
 have T4 := hid (T3.out.turn hp4 st4)
 clear hp4 st4
 obtain ⟨Fd,hd4⟩ := T4.out.shelf D
 have D4 := hid hd4
 clear hd4
 go_wp2_with fail
 refine (crash_any Fd d _ 0 w4 D4.out.sh ⟨by decide,by decide⟩).mono ?_
 rintro e w5 ⟨rfl,hs5,hk5⟩
 have D5 := hid (D4.out.crash hs5 hk5)
 clear hs5 hk5
 go_wp2_with fail
 refine (D.open_ Fd d _ St.new w5 D5.out.sh (D5.out.er HEB.out) D5.out.e).mono ?_
 rintro e w6 ⟨s6,F6,S6,l6,rfl,ho6,hp6,hsy6,st6⟩
 have T6 := hid (D5.out.opened hp6 st6)
 obtain ⟨_,_,k,hlog,hsk,_⟩ := crash_log (S := { { S2 with log := recs ([] ++ [bA]) } with syn := (recs ([] ++ [bA])).length }) (Nat.le_refl _) 0
 have ho7 : Opens St.new ((recs ([] ++ [bA])).take k) l6 := by rw [<- hlog]; exact ho6
 obtain ⟨j,hj1,hj2,hj3⟩ := reopen (s := St.new) (l := [] ++ [bA]) (by simp only [List.nil_append]; unfold St.AllFit; exact ⟨bA_fits.1,by unfold St.AllFit; trivial⟩) (fun x hx => by rw [List.mem_singleton.1 hx]; exact bA_fits.2.1) hsk ho7
 have hj4 := hj3 1 (Nat.le_refl _) (Nat.le_refl _)
 have hl6 : l6 = [bA] := by rw [hj2,show j = 1 by simp at hj1; omega]; rfl
 subst hl6
 clear ho6 hp6 hsy6 st6 hlog hsk ho7 hj1 hj2 hj3 hj4
 go_wp2_with fail
 refine (D.get F6 s6 d S6 St.new [bA] ⟨#[116]⟩ ⟨#[97]⟩ w6 T6.out.p (T6.out.er HEB.out) (by decide) (by decide)).mono ?_
 rintro e w7 ⟨⟨yk,yg,yL,yA,yc⟩,rfl,hy,hly,b7⟩
 have hyg : yg = 5 := by
  have := congrArg Pa.gone hy
  exact this
 subst hyg
 have T7 := hid (T6.out.read D b7)
 have hfl := field_gone yk 5 yA yL.length yc
 clear hy hly b7
 go_wp2_with fail
 refine (D.tables F6 s6 d S6 St.new [bA] w7 T7.out.p (T7.out.er HEB.out)).mono ?_
 rintro e w8 ⟨A8,n8,c8,rfl,hr8,hc8,b8⟩
 have hn8 : n8 = 1 := hr8.1.symm
 subst hn8
 have T8 := hid (T7.out.read D b8)
 clear hr8 hc8 b8
 go_wp2
 go_ret
 exact ⟨rfl,T8.out.below⟩
end Go.Proofs.YtmpcnhpdobdmcaaGreatDoor
namespace Go.Proofs.YtmpcnhpdobdmcaaGreatDoor
open Go Go.RowKit
def keyA (i : Nat) : ByteArray := ⟨#[UInt8.ofNat (48 + i / 100),UInt8.ofNat (48 + i / 10 % 10),UInt8.ofNat (48 + i % 10)]⟩
def ptA (i : Nat) : Pa := ⟨keyA i,1,[]⟩
def ptsW (i : Nat) : List Pa := (List.range i).map ptA
def btA (i : Nat) : Bt := btM ⟨#[97]⟩ (keyA i) 1
def tabA (A : List Pa) : St := ⟨match A with | [] => [] | _ => [⟨⟨#[97]⟩,A⟩],[]⟩
theorem keyA_lt : ∀ i : Nat,i < 103 -> ∀ j : Nat,j < i -> nlt (keyA j) (keyA i) := by decide +kernel
theorem ptsW_length (i : Nat) : (ptsW i).length = i := by simp [ptsW]
theorem ptsW_succ (i : Nat) : ptsW (i + 1) = ptsW i ++ [ptA i] := by unfold ptsW; rw [List.range_succ,List.map_append]; rfl
theorem ptsW_put {i : Nat} (h : i < 103) : putK Pa.key Pa.join (ptsW i) (ptA i) = ptsW (i + 1) := by
 rw [putK_at (ptsW i) (ptA i) (ptsW i).length (Nat.le_refl _) (fun j hj _ => ?_) (fun hk => absurd hk (Nat.lt_irrefl _)),List.take_length,dif_neg (Nat.lt_irrefl _),ptsW_succ]
 rw [ptsW_length] at hj
 have e : (ptsW i)[j]'(by rw [ptsW_length]; exact hj) = ptA j := by unfold ptsW; rw [List.getElem_map,List.getElem_range]
 rw [e]
 exact keyA_lt i h j hj
theorem tabA_app {i : Nat} (h : i < 103) : (tabA (ptsW i)).app (btA i) = tabA (ptsW (i + 1)) := by
 have h2 := ptsW_put h
 cases i with
 | zero => rfl
 | succ k =>
   have hc : ∀ l : List Pa,l ≠ [] -> tabA l = ⟨[⟨⟨#[97]⟩,l⟩],[]⟩ := fun l hl => by cases l with | nil => exact absurd rfl hl | cons x r => rfl
   have hn : ∀ k,ptsW (k + 1) ≠ [] := fun k he => by have := congrArg List.length he; rw [ptsW_length] at this; simp at this
   rw [hc _ (hn _),hc _ (hn _),<- h2]
   have hm : ∀ (l : List Pa) (p : Pa),mutT [⟨⟨#[97]⟩,l⟩] (⟨#[97]⟩,p) = [⟨⟨#[97]⟩,putK Pa.key Pa.join l p⟩] := fun l p => rfl
   show St.mk ([(⟨⟨#[97]⟩,ptsW (k + 1)⟩ : Tb)].foldl (fun l _ => l) (mutT [⟨⟨#[97]⟩,ptsW (k + 1)⟩] (⟨#[97]⟩,ptA (k + 1)))) [] = _
   rw [hm]
   rfl
theorem btA_ok : ∀ i : Nat,i < 103 -> (btA i).ok = true := by decide +kernel
theorem btA_len (i : Nat) (h : i < 103) : (bE (btA i)).length <= 100 := by
 have : ∀ i : Nat,i < 103 -> (bE (btA i)).length <= 100 := by decide +kernel
 exact this i h
theorem tabA_tb {i : Nat} (h : 0 < i) : (tabA (ptsW i)).tb = [⟨⟨#[97]⟩,ptsW i⟩] := by
 cases hp : ptsW i with
 | nil => have := congrArg List.length hp; rw [ptsW_length] at this; simp at this; omega
 | cons x r => rfl
theorem tabA_fits {i : Nat} (h : i < 100) : (tabA (ptsW i)).Fits (btA i) := by
 refine ⟨btA_ok i (by omega),rfl,?_,?_⟩
 ·rw [tabA_app (by omega),tabA_tb (by omega)]
  intro T hT
  rw [List.mem_singleton.1 hT]
  refine ⟨by rw [ptsW_length]; omega,fun p hp => ?_⟩
  unfold ptsW at hp
  obtain ⟨j,_,rfl⟩ := List.mem_map.1 hp
  exact Nat.zero_le _
 ·rw [tabA_app (by omega),tabA_tb (by omega)]
  exact show 1 <= 8 by decide
theorem tabA_full {i : Nat} (h : 100 <= i) (h2 : i < 103) : ¬ (tabA (ptsW 100)).Fits (btA i) := by
 intro hf
 have hl : ∀ T ∈ ((tabA (ptsW 100)).app (btA i)).tb,T.ps.length <= 100 := fun T hT => (hf.parts T hT).1
 have hm : ((tabA (ptsW 100)).app (btA i)).tb = [⟨⟨#[97]⟩,putK Pa.key Pa.join (ptsW 100) (ptA i)⟩] := by
  show ((btA i).muts.foldl mutT (tabA (ptsW 100)).tb) = _
  rw [tabA_tb (by decide)]
  rfl
 rw [hm] at hl
 have h3 := hl _ (List.mem_singleton.2 rfl)
 have h4 : (putK Pa.key Pa.join (ptsW 100) (ptA i)).length = 101 := by
  rw [putK_at (ptsW 100) (ptA i) (ptsW 100).length (Nat.le_refl _) (fun j hj _ => ?_) (fun hk => absurd hk (Nat.lt_irrefl _)),List.take_length,dif_neg (Nat.lt_irrefl _),List.length_append,ptsW_length]
  ·rfl
  ·rw [ptsW_length] at hj
   have e : (ptsW 100)[j]'(by rw [ptsW_length]; exact hj) = ptA j := by unfold ptsW; rw [List.getElem_map,List.getElem_range]
   rw [e]
   exact keyA_lt i h2 j (by omega)
 have h5 : (putK Pa.key Pa.join (ptsW 100) (ptA i)).length <= 100 := h3
 omega
def nmT (i : Nat) : ByteArray := ⟨#[UInt8.ofNat (97 + i)]⟩
theorem nmT_ext : ∀ i : Nat,i < 11 -> (ByteArray.mk #[97,98,99,100,101,102,103,104,105,106,107]).extract i (i + 1) = nmT i := by decide +kernel
def ptX : Pa := ⟨⟨#[120]⟩,0,[]⟩
def btT (i : Nat) : Bt := btM (nmT i) ⟨#[120]⟩ 0
def tabT (A : List Pa) (m : Nat) : St := ⟨⟨⟨#[97]⟩,A⟩ :: (List.range m).map (fun j => ⟨nmT (j + 1),[ptX]⟩),[]⟩
theorem tabT_app (A : List Pa) : ∀ i : Nat,i < 9 -> (tabT A i).app (btT (i + 1)) = tabT A (i + 1)
 | 0,_ => rfl
 | 1,_ => rfl
 | 2,_ => rfl
 | 3,_ => rfl
 | 4,_ => rfl
 | 5,_ => rfl
 | 6,_ => rfl
 | 7,_ => rfl
 | 8,_ => rfl
 | n + 9,h => absurd h (by omega)
theorem btT_ok : ∀ i : Nat,i < 10 -> (btT i).ok = true := by decide +kernel
theorem btT_len (i : Nat) (h : i < 10) : (bE (btT i)).length <= 100 := by
 have : ∀ i : Nat,i < 10 -> (bE (btT i)).length <= 100 := by decide +kernel
 exact this i h
theorem tabT_fits {A : List Pa} (hA : A.length <= 100 /\ ∀ p ∈ A,p.rows.length <= 100) {i : Nat} (h : i < 7) : (tabT A i).Fits (btT (i + 1)) := by
 refine ⟨btT_ok _ (by omega),rfl,?_,?_⟩
 ·rw [tabT_app A i (by omega)]
  intro T hT
  unfold tabT at hT
  rcases List.mem_cons.1 hT with rfl | hT
  ·exact hA
  ·obtain ⟨j,_,rfl⟩ := List.mem_map.1 hT
   exact ⟨show 1 <= 100 by decide,fun p hp => by rw [List.mem_singleton.1 hp]; exact Nat.zero_le _⟩
 ·rw [tabT_app A i (by omega)]
  unfold tabT
  rw [List.length_cons,List.length_map,List.length_range]
  omega
theorem tabA_T {A : List Pa} (h : A ≠ []) : tabA A = tabT A 0 := by cases A with | nil => exact absurd rfl h | cons x r => rfl
theorem tabT_full {A : List Pa} {i : Nat} (h : 8 <= i) (h2 : i < 10) : ¬ (tabT A 7).Fits (btT i) := by
 intro hf
 have h3 := hf.tabs
 have h4 : ((tabT A 7).app (btT i)).tb.length = 9 := by
  have : i = 8 \/ i = 9 := by omega
  rcases this with rfl | rfl <;> rfl
 omega
def roI (i : Nat) : Ro := ⟨⟨#[UInt8.ofNat i]⟩,⟨⟨#[]⟩,false,1,0⟩,0,0,[]⟩
def rosI (n : Nat) : List Ro := (List.range n).map roI
def btR (k : Nat) : Bt := ⟨[(⟨#[98]⟩,⟨⟨#[120]⟩,0,(rosI (99 + k)).take 100⟩),(⟨#[98]⟩,⟨⟨#[120]⟩,0,(rosI (99 + k)).drop 100⟩)],[],[]⟩
def ptR (k : Nat) : Pa := ⟨⟨#[120]⟩,0,rosI (99 + k)⟩
theorem btR_ok : ∀ k : Nat,k < 4 -> (btR k).ok = true := by decide +kernel
theorem btR_len (k : Nat) (h : k < 4) : (bE (btR k)).length <= 10000 := by
 have : ∀ k : Nat,k < 4 -> (bE (btR k)).length <= 10000 := by decide +kernel
 exact this k h
theorem rosI_length (n : Nat) : (rosI n).length = n := by simp [rosI]
theorem btR_new (A : List Pa) : ∀ k : Nat,k < 4 -> (St.mk [⟨⟨#[97]⟩,A⟩] []).app (btR k) = ⟨[⟨⟨#[97]⟩,A⟩,⟨⟨#[98]⟩,[ptR k]⟩],[]⟩
 | 0,_ => by kernel_rfl
 | 1,_ => by kernel_rfl
 | 2,_ => by kernel_rfl
 | 3,_ => by kernel_rfl
 | n + 4,h => absurd h (by omega)
theorem btR_old (A : List Pa) (R : List Tb) : ∀ k : Nat,k < 4 -> (St.mk (⟨⟨#[97]⟩,A⟩ :: ⟨⟨#[98]⟩,[ptX]⟩ :: R) []).app (btR k) = ⟨⟨⟨#[97]⟩,A⟩ :: ⟨⟨#[98]⟩,[ptR k]⟩ :: R,[]⟩
 | 0,_ => by kernel_rfl
 | 1,_ => by kernel_rfl
 | 2,_ => by kernel_rfl
 | 3,_ => by kernel_rfl
 | n + 4,h => absurd h (by omega)
def tabR (A : List Pa) (m k : Nat) : St := ⟨⟨⟨#[97]⟩,A⟩ :: ⟨⟨#[98]⟩,[ptR k]⟩ :: (List.range (m - 1)).map (fun j => ⟨nmT (j + 2),[ptX]⟩),[]⟩
theorem tabR_app (A : List Pa) {m k : Nat} (hk : k < 4) : (tabT A m).app (btR k) = tabR A m k := by
 cases m with
 | zero => exact btR_new A k hk
 | succ m =>
   have h : tabT A (m + 1) = St.mk (⟨⟨#[97]⟩,A⟩ :: ⟨⟨#[98]⟩,[ptX]⟩ :: (List.range m).map (fun j => ⟨nmT (j + 2),[ptX]⟩)) [] := by
    unfold tabT
    rw [List.range_succ_eq_map,List.map_cons,List.map_map]
    rfl
   rw [h,btR_old A _ k hk]
   rfl
theorem tabR_len (A : List Pa) (m k : Nat) : (tabR A m k).tb.length = m - 1 + 2 := by
 unfold tabR
 rw [List.length_cons,List.length_cons,List.length_map,List.length_range]
theorem tabT_len (A : List Pa) (m : Nat) : (tabT A m).tb.length = m + 1 := by
 unfold tabT
 rw [List.length_cons,List.length_map,List.length_range]
theorem tabR_fits {A : List Pa} (hA : A.length <= 100 /\ ∀ p ∈ A,p.rows.length <= 100) {m k : Nat} (hm : m <= 7) (hk : k < 2) : (tabT A m).Fits (btR k) := by
 refine ⟨btR_ok _ (by omega),rfl,?_,?_⟩
 ·rw [tabR_app A (by omega)]
  intro T hT
  unfold tabR at hT
  rcases List.mem_cons.1 hT with rfl | hT
  ·exact hA
  ·rcases List.mem_cons.1 hT with rfl | hT
   ·refine ⟨show 1 <= 100 by decide,fun p hp => ?_⟩
    rw [List.mem_singleton.1 hp]
    show (rosI (99 + k)).length <= 100
    rw [rosI_length]
    omega
   ·obtain ⟨j,_,rfl⟩ := List.mem_map.1 hT
    exact ⟨show 1 <= 100 by decide,fun p hp => by rw [List.mem_singleton.1 hp]; exact Nat.zero_le _⟩
 ·rw [tabR_app A (by omega),tabR_len]
  omega
theorem tabR_full {A : List Pa} {m k : Nat} (hk : 2 <= k) (hk2 : k < 4) : ¬ (tabT A m).Fits (btR k) := by
 intro hf
 have h := hf.parts
 rw [tabR_app A hk2] at h
 have h2 := (h ⟨⟨#[98]⟩,[ptR k]⟩ (List.mem_cons_of_mem _ (List.mem_cons_self ..))).2 (ptR k) (List.mem_singleton.2 rfl)
 have h3 : (ptR k).rows.length = 99 + k := rosI_length _
 omega
theorem parts_T (A : List Pa) (m : Nat) : partsOf (tabT A m) ⟨#[97]⟩ = A := by kernel_rfl
theorem parts_R (A : List Pa) (m k : Nat) : partsOf (tabR A m k) ⟨#[97]⟩ = A := by kernel_rfl
theorem get_R (A : List Pa) (m k : Nat) : getPt (tabR A m k) ⟨#[98]⟩ ⟨#[120]⟩ = ptR k := by kernel_rfl
theorem get_T (A : List Pa) (m : Nat) : (getPt (tabT A m) ⟨#[98]⟩ ⟨#[120]⟩).rows = [] := by
 cases m with
 | zero => rfl
 | succ m =>
   have h : tabT A (m + 1) = St.mk (⟨⟨#[97]⟩,A⟩ :: ⟨⟨#[98]⟩,[ptX]⟩ :: (List.range m).map (fun j => ⟨nmT (j + 2),[ptX]⟩)) [] := by
    unfold tabT
    rw [List.range_succ_eq_map,List.map_cons,List.map_map]
    rfl
   rw [h]
   rfl
end Go.Proofs.YtmpcnhpdobdmcaaGreatDoor
namespace Go.Proofs.YtmpcnhpdobdmcaaGreatDoor
open Go Go.RowKit
def roA (i : Nat) : RA := ⟨roI i,none,0⟩
def rasI (n : Nat) : List RA := (List.range n).map roA
theorem rasI_length (n : Nat) : (rasI n).length = n := by simp [rasI]
theorem ros_rasI (n : Nat) : ros (rasI n) = rosI n := by unfold ros rasI rosI; rw [List.map_map]; rfl
theorem rasI_snoc (n : Nat) : rasI (n + 1) = rasI n ++ [roA n] := by unfold rasI; rw [List.range_succ,List.map_append]; rfl
theorem rasI_held (n : Nat) (w : World) (B : Nat) : HeldR w B (rasI n) := fun x hx => by
 obtain ⟨i,_,rfl⟩ := List.mem_map.1 hx
 exact ⟨⟨rfl,fun h => absurd h (by simp [roA,roI])⟩,Nat.le_refl _⟩
theorem own_neX {w : World} {b n size : Nat} {e e' : TypeId} {v : Value} {xs : List Value} {r : Nat} {cs : Array Value} (h : w.ownsRow b e size v n xs) (hr : w.heap[r]? = some (.cells cs e' (0,0))) (he : e ≠ e') : ∀ g,v.ownBlock = some g -> g ≠ r := fun g hg hgr => by
 rcases h.2 with ⟨rfl,rfl⟩ | ⟨g',cap,cur,rfl,_,hcur,_⟩
 ·cases hg
 ·cases hg
  subst hgr
  rw [hcur] at hr
  injection hr with hr
  injection hr with _ h2
  exact he h2
structure GrowX (W w : World) (q t : Nat) (A : Option Addr) (c : Nat) : Prop where
 pt : w.heap[q]? = some (.cells #[.string ⟨#[120]⟩,.int .i64 0,.slice A t c] 33 (0,0))
 own : w.ownsRow W.heap.size 45 8 (.slice A t c) t (rRow (rasI t))
 kept : Kept (fun k => k = q) W w
section
variable {W w w' : World} {q t c : Nat} {A : Option Addr}
theorem GrowX.lt (h : GrowX W w q t A c) : q < w.heap.size := (Array.getElem?_eq_some_iff.1 h.pt).1
theorem GrowX.on (h : GrowX W w q t A c) (hb : Below w.heap.size w w') : GrowX W w' q t A c :=
 ⟨(hb.block q h.lt).trans h.pt,own_below h.own hb,h.kept.trans (Kept.of_below hb (fun k => k = q)) fun k hk => Or.inl hk⟩
theorem GrowX.app (h : GrowX W w q t A c) {A7 : Option Addr} {c7 : Nat} (ho : w'.ownsRow W.heap.size 45 8 (.slice A7 (t + 1) c7) (t + 1) (rRow (rasI t ++ [roA t]))) (hg : w.grownBy w' (Value.slice A t c).ownBlock) :
    w'.heap[q]? = some (.cells #[.string ⟨#[120]⟩,.int .i64 0,.slice A t c] 33 (0,0)) /\ GrowX W (w'.setCell ⟨q,2,none⟩ (.slice A7 (t + 1) c7)) q (t + 1) A7 c7 := by
 have hk := Kept.of_grown (F := fun k => (Value.slice A t c).ownBlock = some k) hg fun k hk => hk
 have hp := (hk.block q h.lt fun hp => own_neX h.own h.pt (by decide) q hp rfl).trans h.pt
 refine ⟨hp,by rw [heap_setCell_same w' q 2 _ _ _ hp]; rfl,own_kept ((rasI_snoc t).symm ▸ ho) fun g hg' => Below.heap_setCell _ _ _ _ fun e => own_neX ho hp (by decide) g hg' e,?_⟩
 refine (Kept.trans h.kept hk fun k hk' => Or.inr (h.own.lt k hk').1).trans (Kept.setCell (fun k => k = q) w' ⟨q,2,none⟩ _ rfl) fun k hk' => Or.inl hk'
end
variable {P : World -> (Nat -> Prop) -> Nat -> Nat -> Sh -> St -> List Bt -> Prop} {E : Fl -> ByteArray -> St -> Prop}
theorem SD.keep {W0 w w' : World} {F : Nat -> Prop} {s d q : Nat} {S : Sh} {b : St} {l : List Bt} (D : DevSC P E) (h : SD P W0 w F s d S b l) (hk : Kept (fun k => k = q) w w') (hn : ¬ F q) (hq : W0.heap.size <= q) : SD P W0 w' F s d S b l := by
 have st : Step (fun k => k = q) w (fun k => k = q) w' := ⟨hk,fun k hk => Or.inl hk⟩
 exact ⟨D.kept h.p hk (fun k hk hf => hn (by subst hk; exact hf)) h.sin,h.sin.up hk.size,h.sab,h.below.trans (st.below (fun k hk => by subst hk; exact hq) h.below.size)⟩
end Go.Proofs.YtmpcnhpdobdmcaaGreatDoor
namespace Go.Proofs.YtmpcnhpdobdmcaaGreatDoor
open Go Go.RowKit
def bRR (V n1 lo cc : Nat) (A1 A2 : Option Addr) : BA := ⟨some ⟨V,0,none⟩,2,[⟨⟨#[98]⟩,⟨⟨#[120]⟩,0,(rasI n1).take lo,A1,cc⟩⟩,⟨⟨#[98]⟩,⟨⟨#[120]⟩,0,(rasI n1).drop lo,A2,cc - lo⟩⟩],none,0,[],none,0,[]⟩
abbrev bRRo (n1 lo cc : Nat) (A1 A2 : Option Addr) : Obj := .cells #[.string ⟨#[98]⟩,.string ⟨#[120]⟩,.int .i64 0,.slice A1 lo cc,.string ⟨#[98]⟩,.string ⟨#[120]⟩,.int .i64 0,.slice A2 (n1 - lo) (cc - lo)] 35
theorem take_len (n1 lo : Nat) (h : lo <= n1) : ((rasI n1).take lo).length = lo := by rw [List.length_take,rasI_length]; omega
theorem drop_len (n1 lo : Nat) : ((rasI n1).drop lo).length = n1 - lo := by rw [List.length_drop,rasI_length]
theorem bRR_lies {w : World} {n1 lo cc : Nat} {A1 A2 : Option Addr} (r1 : RdR w w.heap.size A1 lo ((rasI n1).take lo)) (r2 : RdR w w.heap.size A2 (n1 - lo) ((rasI n1).drop lo)) (hlo : lo <= n1) (hc : n1 <= cc) :
    LiesB (w.alloc (bRRo n1 lo cc A1 A2)) (w.heap.size + 1) (bRR w.heap.size n1 lo cc A1 A2) := by
 have hb := (Below.refl w.heap.size w).alloc (Nat.le_refl _) (bRRo n1 lo cc A1 A2)
 have hn := heap_alloc_new w (bRRo n1 lo cc A1 A2)
 have l1 := take_len n1 lo hlo
 have l2 := drop_len n1 lo
 refine ⟨⟨⟨rfl,fun _ => ⟨w.heap.size,0,rfl,Nat.lt_succ_self _,fun j hj i u hu => ?_⟩⟩,fun x hx => ?_,Nat.le_refl _⟩,⟨rfl,fun h => absurd h (by simp [bRR])⟩,⟨rfl,fun h => absurd h (by simp [bRR])⟩,Nat.le_refl _,Nat.le_refl _⟩
 ·match j,hj with
  | 0,hj =>
    have hu' : (mcs (⟨⟨#[98]⟩,⟨⟨#[120]⟩,0,(rasI n1).take lo,A1,cc⟩⟩ : MA))[i]? = some u := hu
    unfold mcs at hu'
    rw [l1] at hu'
    match i,hu' with
    | 0,hu' => exact cell_at (i := 0) hn hu'
    | 1,hu' => exact cell_at (i := 1) hn hu'
    | 2,hu' => exact cell_at (i := 2) hn hu'
    | 3,hu' => exact cell_at (i := 3) hn hu'
    | i + 4,hu' => simp at hu'
  | 1,hj =>
    have hu' : (mcs (⟨⟨#[98]⟩,⟨⟨#[120]⟩,0,(rasI n1).drop lo,A2,cc - lo⟩⟩ : MA))[i]? = some u := hu
    unfold mcs at hu'
    rw [l2] at hu'
    match i,hu' with
    | 0,hu' => exact cell_at (i := 4) hn hu'
    | 1,hu' => exact cell_at (i := 5) hn hu'
    | 2,hu' => exact cell_at (i := 6) hn hu'
    | 3,hu' => exact cell_at (i := 7) hn hu'
    | i + 4,hu' => simp at hu'
  | j + 2,hj => exact absurd hj (by simp [bRR])
 ·rcases List.mem_cons.1 hx with rfl | hx
  ·refine ⟨by show RdR _ _ A1 ((rasI n1).take lo).length _; rw [l1]; exact (r1.below hb).up (by omega),fun y hy => ?_,by show ((rasI n1).take lo).length <= cc; omega⟩
   exact rasI_held n1 _ _ y (List.mem_of_mem_take hy)
  ·rw [List.mem_singleton.1 hx]
   refine ⟨by show RdR _ _ A2 ((rasI n1).drop lo).length _; rw [l2]; exact (r2.below hb).up (by omega),fun y hy => ?_,by show ((rasI n1).drop lo).length <= cc - lo; omega⟩
   exact rasI_held n1 _ _ y (List.mem_of_mem_drop hy)
theorem own_blkw {w : World} {B m n c k : Nat} {t : TypeId} {u : Nat} {A : Option Addr} {row : List Value} (h : w.ownsRow B t u (.slice A n c) m row) (hk : BlkOf A k) : B <= k := by
 obtain ⟨o,rfl⟩ := hk
 rcases h.2 with ⟨h2,h3⟩ | ⟨g,cap,cur,h2,h3,_⟩
 ·injection h2 with h2
  cases h2
 ·injection h2 with h2
  injection h2 with h2
  injection h2 with h2
  omega
theorem adr_ownw {w : World} {B m n c : Nat} {t : TypeId} {u : Nat} {A : Option Addr} {row : List Value} (h : w.ownsRow B t u (.slice A n c) m row) : A = none \/ ∃ g o,A = some ⟨g,o,none⟩ := by
 rcases h.2 with ⟨h2,h3⟩ | ⟨g,cap,cur,h2,h3,_⟩
 ·injection h2 with h2; exact Or.inl h2
 ·injection h2 with h2; exact Or.inr ⟨g,0,h2⟩
theorem bRR_off {V n1 lo cc B : Nat} {A1 A2 : Option Addr} (hV : B <= V) (h1 : ∀ k,BlkOf A1 k -> B <= k) (h2 : ∀ k,BlkOf A2 k -> B <= k) : ∀ k,(bRR V n1 lo cc A1 A2).blk k -> B <= k := fun k hk => by
 have hz : ∀ z ∈ rasI n1,z.ro.cols = [] := fun z hz => by
  unfold rasI at hz
  obtain ⟨i,_,rfl⟩ := List.mem_map.1 hz
  rfl
 rcases hk with ⟨_,o,e⟩ | ⟨h,_⟩ | ⟨h,_⟩ | ⟨x,hx,hk⟩
 ·injection e with e; injection e with e
  omega
 ·exact absurd rfl h
 ·exact absurd rfl h
 ·rcases List.mem_cons.1 hx with rfl | hx
  ·rcases hk with ⟨_,hk⟩ | ⟨y,hy,hne,_⟩
   ·exact h1 k hk
   ·exact absurd (hz y (List.mem_of_mem_take hy)) hne
  ·rw [List.mem_singleton.1 hx] at hk
   rcases hk with ⟨_,hk⟩ | ⟨y,hy,hne,_⟩
   ·exact h2 k hk
   ·exact absurd (hz y (List.mem_of_mem_drop hy)) hne
theorem bRR_bt (V k cc : Nat) (A1 A2 : Option Addr) : (bRR V (99 + k) (min (99 + k) 100) cc A1 A2).bt = btR k := by
 have e1 : ros ((rasI (99 + k)).take (min (99 + k) 100)) = (rosI (99 + k)).take 100 := by
  rw [<- ros_rasI]
  unfold ros
  rw [List.map_take]
  rcases Nat.lt_or_ge (99 + k) 100 with h | h
  ·rw [List.take_of_length_le (by rw [List.length_map,rasI_length]; omega),List.take_of_length_le (by rw [List.length_map,rasI_length]; omega)]
  ·rw [show min (99 + k) 100 = 100 by omega]
 have e2 : ros ((rasI (99 + k)).drop (min (99 + k) 100)) = (rosI (99 + k)).drop 100 := by
  rw [<- ros_rasI]
  unfold ros
  rw [List.map_drop]
  rcases Nat.lt_or_ge (99 + k) 100 with h | h
  ·rw [List.drop_of_length_le (by rw [List.length_map,rasI_length]; omega),List.drop_of_length_le (by rw [List.length_map,rasI_length]; omega)]
  ·rw [show min (99 + k) 100 = 100 by omega]
 show (⟨[(_,⟨_,_,ros _⟩),(_,⟨_,_,ros _⟩)],[],[]⟩ : Bt) = _
 rw [e1,e2]
 rfl
theorem bRR_few (V n1 lo cc : Nat) (A1 A2 : Option Addr) (h : n1 <= 200) : BtF (bRR V n1 lo cc A1 A2) := by
 refine ⟨fun y hy => ?_,fun y hy => (by cases hy),by simp [bRR],by simp [bRR],by simp [bRR]⟩
 have hz : ∀ z ∈ rasI n1,z.ro.cols = [] /\ z.ro.live.s = ⟨#[]⟩ := fun z hz => by
  unfold rasI at hz
  obtain ⟨i,_,rfl⟩ := List.mem_map.1 hz
  exact ⟨rfl,rfl⟩
 have hl : (rasI n1).length = n1 := rasI_length n1
 rcases List.mem_cons.1 hy with rfl | hy
 ·refine ⟨by show (1 : Nat) <= _; decide,by show ((rasI n1).take lo).length <= _; rw [List.length_take,hl]; omega,fun z hz2 => ?_⟩
  obtain ⟨g1,g2⟩ := hz z (List.mem_of_mem_take hz2)
  rw [g1,g2]
  exact ⟨fun x hx => (by cases hx),Nat.zero_le _,Nat.zero_le _⟩
 ·rw [List.mem_singleton.1 hy]
  refine ⟨by show (1 : Nat) <= _; decide,by show ((rasI n1).drop lo).length <= _; rw [List.length_drop,hl]; omega,fun z hz2 => ?_⟩
  obtain ⟨g1,g2⟩ := hz z (List.mem_of_mem_drop hz2)
  rw [g1,g2]
  exact ⟨fun x hx => (by cases hx),Nat.zero_le _,Nat.zero_le _⟩
theorem RdR.prew {w : World} {B n : Nat} {A : Option Addr} {l : List RA} (h : RdR w B A n l) {m : Nat} (hm : m <= n) : RdR w B A m (l.take m) := by
 refine ⟨by rw [List.length_take,h.1]; omega,fun h0 => ?_⟩
 obtain ⟨g,o,e,hb,hc⟩ := h.2 (by omega)
 refine ⟨g,o,e,hb,fun j hj i u hu => ?_⟩
 rw [List.length_take] at hj
 rw [List.getElem_take] at hu
 exact hc j (by omega) i u hu
theorem RdR.cutw {w : World} {B n : Nat} {A : Option Addr} {l : List RA} (h : RdR w B A n l) {k c : Nat} (hk : k <= n) (hn : n <= c) : RdR w B (if c = k then A else A.map (·.add (k * 8))) (n - k) (l.drop k) := by
 refine ⟨by rw [List.length_drop,h.1],fun h0 => ?_⟩
 obtain ⟨g,o,rfl,hb,hc⟩ := h.2 (by omega)
 rw [if_neg (by omega)]
 refine ⟨g,o + k * 8,by rw [Option.map_some,Addr.add_lit],hb,fun j hj i u hu => ?_⟩
 rw [List.length_drop] at hj
 rw [List.getElem_drop] at hu
 have := hc (k + j) (by omega) i u hu
 rwa [show o + (k + j) * 8 + i = o + k * 8 + j * 8 + i by omega] at this
theorem slRw_h {w : World} {B n : Nat} {A : Option Addr} {l : List RA} (h : RdR w B A n l) {c : Nat} (hn : n <= c) (hA : A = none -> c = 0) (x : Int) (hi : Nat) (ex : x = (hi : Nat)) (h2 : hi <= n) :
    (∀ wx : World,(Instr.slice 31 (.slice A n c) none (some (.int .i64 x)) none).run Tryz.prog wx = .ok (.slice A hi c) wx) /\ RdR w B A hi (l.take hi) := by
 refine ⟨fun wx => ?_,h.prew h2⟩
 obtain ⟨i,hi',hz0,hz1,hz2⟩ := info_parts infoR
 subst ex
 rw [run_slice_h (P := Tryz.prog) (t := 31) (ht := by rw [elemR]; exact Tryz.underlying31) (h0 := by omega) (h2 := by omega),elemR]
 cases A with
 | none => simp [sizeOf,typeInfo,hi',hz1,sliced,Result.andThen]
 | some a =>
   have e : a.add 0 = a := by unfold Addr.add; rw [if_pos rfl]
   simp [sizeOf,typeInfo,hi',hz1,sliced,Result.andThen,e]
theorem slRw_l {w : World} {B n : Nat} {A : Option Addr} {l : List RA} (h : RdR w B A n l) {c : Nat} (hn : n <= c) (x : Int) (lo : Nat) (ex : x = (lo : Nat)) (h1 : lo <= n) (hA : A = none \/ ∃ g o,A = some ⟨g,o,none⟩) :
    ∃ A',(∀ wx : World,(Instr.slice 31 (.slice A n c) (some (.int .i64 x)) none none).run Tryz.prog wx = .ok (.slice A' (n - lo) (c - lo)) wx) /\ RdR w B A' (n - lo) (l.drop lo) /\ ∀ k,BlkOf A' k -> BlkOf A k := by
 refine ⟨if c = lo then A else A.map (·.add (lo * 8)),fun wx => ?_,h.cutw h1 hn,fun k hk => ?_⟩
 rotate_left
 ·split at hk
  ·exact hk
  ·rcases hA with rfl | ⟨g,o,rfl⟩
   ·obtain ⟨o',e⟩ := hk; cases e
   ·obtain ⟨o',e⟩ := hk
    rw [Option.map_some,Addr.add_lit] at e
    injection e with e; injection e with e1 e2
    exact ⟨o,by rw [e1]⟩
 obtain ⟨i,hi',hz0,hz1,hz2⟩ := info_parts infoR
 subst ex
 rw [run_slice_l (P := Tryz.prog) (t := 31) (ht := by rw [elemR]; exact Tryz.underlying31) (h0 := by omega) (h1 := by omega),elemR]
 simp [sizeOf,typeInfo,hi',hz1,sliced,Result.andThen]
end Go.Proofs.YtmpcnhpdobdmcaaGreatDoor
namespace Go.Proofs.YtmpcnhpdobdmcaaGreatDoor
open Go Go.RowKit
variable {P : World -> (Nat -> Prop) -> Nat -> Nat -> Sh -> St -> List Bt -> Prop} {E : Fl -> ByteArray -> St -> Prop}
def btZ : Bt := btM ⟨#[97]⟩ ⟨#[48]⟩ 0
theorem btZ_fits : St.new.Fits btZ /\ St.new.app btZ = tabT [⟨⟨#[48]⟩,0,[]⟩] 0 /\ (bE btZ).length <= 100 := by
 have happ : St.new.app btZ = tabT [⟨⟨#[48]⟩,0,[]⟩] 0 := rfl
 refine ⟨⟨by decide +kernel,rfl,fun T hT => ?_,by rw [happ]; exact show 1 <= 8 by decide⟩,happ,by decide +kernel⟩
 rw [happ] at hT
 unfold tabT at hT
 rw [List.mem_singleton.1 hT]
 exact ⟨show 1 <= 100 by decide,fun p hp => by rw [List.mem_singleton.1 hp]; exact Nat.zero_le _⟩
structure TabA (n : Nat) (A : List Pa) : Prop where
 len : A.length = min (max n 1) 100
 bare : ∀ p ∈ A,p.rows.length <= 100
theorem TabA.some {n : Nat} (h : 0 < n) : TabA n (ptsW (min n 100)) := ⟨by rw [ptsW_length]; omega,fun p hp => by
 unfold ptsW at hp
 obtain ⟨j,_,rfl⟩ := List.mem_map.1 hp
 exact Nat.zero_le _⟩
theorem TabA.none : TabA 0 [⟨⟨#[48]⟩,0,[]⟩] := ⟨rfl,fun p hp => by rw [List.mem_singleton.1 hp]; exact Nat.zero_le _⟩
theorem TabA.ok {n : Nat} {A : List Pa} (h : TabA n A) : A.length <= 100 /\ ∀ p ∈ A,p.rows.length <= 100 := ⟨by have := h.len; omega,h.bare⟩
theorem u8_of {n : Nat} (h : n < 256) : ((UInt8.ofNat n).toNat : Int) = (n : Int) := by
 rw [UInt8.toNat_ofNat']
 omega
theorem conv_key {i : Nat} (h : i < 103) (wx : World) : (convert 29 9 (.slice (some ⟨wx.heap.size,0,none⟩) 3 3)).run Tryz.prog (wx.alloc (.cells #[.int .u8 (48 + (i : Int) / 100),.int .u8 (48 + (i : Int) / 10 % 10),.int .u8 (48 + (i : Int) % 10)] 5)) = .ok (.string (keyA i)) (wx.alloc (.cells #[.int .u8 (48 + (i : Int) / 100),.int .u8 (48 + (i : Int) / 10 % 10),.int .u8 (48 + (i : Int) % 10)] 5)) := by
 have h1 : ((UInt8.ofNat (48 + i / 100)).toNat : Int) = 48 + (i : Int) / 100 := by rw [u8_of (by omega)]; omega
 have h2 : ((UInt8.ofNat (48 + i / 10 % 10)).toNat : Int) = 48 + (i : Int) / 10 % 10 := by rw [u8_of (by omega)]; omega
 have h3 : ((UInt8.ofNat (48 + i % 10)).toNat : Int) = 48 + (i : Int) % 10 := by rw [u8_of (by omega)]; omega
 have hr : Rd (wx.alloc (.cells #[.int .u8 (48 + (i : Int) / 100),.int .u8 (48 + (i : Int) / 10 % 10),.int .u8 (48 + (i : Int) % 10)] 5)) _ (some ⟨wx.heap.size,0,none⟩) 3 [UInt8.ofNat (48 + i / 100),UInt8.ofNat (48 + i / 10 % 10),UInt8.ofNat (48 + i % 10)] :=
  Rd.laid (heap_alloc_new wx _) (by rw [<- h1,<- h2,<- h3]; rfl)
 exact cv_string hr 3
theorem conv_one {i : Nat} (h : i < 103) (wx : World) : (convert 29 9 (.slice (some ⟨wx.heap.size,0,none⟩) 1 1)).run Tryz.prog (wx.alloc (.cells #[.int .u8 (i : Int)] 5)) = .ok (.string (roI i).key) (wx.alloc (.cells #[.int .u8 (i : Int)] 5)) := by
 have h1 : ((UInt8.ofNat i).toNat : Int) = (i : Int) := u8_of (by omega)
 have hr : Rd (wx.alloc (.cells #[.int .u8 (i : Int)] 5)) _ (some ⟨wx.heap.size,0,none⟩) 1 [UInt8.ofNat i] :=
  Rd.laid (heap_alloc_new wx _) (by rw [<- h1]; rfl)
 exact cv_string hr 1
theorem srooms_law (D : DevSR P E) (parts tables rows : Int) (w : World) (hp : (Lit.int .i64 parts).wf = true) (ht : (Lit.int .i64 tables).wf = true) (hr : (Lit.int .i64 rows).wf = true) (hEB : EB w) :
    Calls Tryz.prog 3 #[.int .i64 parts,.int .i64 tables,.int .i64 rows] w fun e w' => e = .returned (.bool true) /\ Below w.heap.size w w' := by
 have HP := hid hp; have HT := hid ht; have HR := hid hr; have HEB := hid hEB
 clear hp ht hr hEB
 go_enter Tryz.func3,Tryz.ntmps3
 go_wp2_with fail
 refine (new_any w).mono ?_
 rintro e w1 ⟨d,F1,rfl,hsh,b1,hF⟩
 have H1 := hid (⟨hsh,fun k hk => (hF k hk).2,fun k hk => (hF k hk).1,b1,D.fresh⟩ : HD E w w1 F1 d Sh.new St.new)
 clear hsh b1 hF
 go_wp2_with fail
 refine (D.open_ F1 d Sh.new St.new w1 H1.out.sh (H1.out.er HEB.out) H1.out.e).mono ?_
 rintro e w2 ⟨s,F2,S2,l2,rfl,ho,hp,hsy,st⟩
 have hl2 : l2 = [] := by
  obtain ⟨r,ha,hb,_⟩ := ho.most
  have hr : r = [] := ha.unique (Ans.all [])
  subst hr
  simpa using hb
 subst hl2
 have T2 := hid (H1.out.opened hp st)
 clear ho hp hsy st
 go_wp2_with fail
 refine (place_any parts 103 _ (by omega) (by omega) (bounds_i64 HP.out)).mono ?_
 rintro e w3 ⟨rfl,rfl⟩
 obtain ⟨n,hn⟩ : ∃ n : Nat,parts % 103 = (n : Int) := ⟨(parts % 103).toNat,by have := Int.emod_nonneg parts (show (103 : Int) ≠ 0 by decide); omega⟩
 have hn103 : n < 103 := by have := Int.emod_lt_of_pos parts (show (0 : Int) < 103 by decide); omega
 rw [hn]
 clear hn
 go_wp2_with fail
 refine (place_any tables 10 _ (by omega) (by omega) (bounds_i64 HT.out)).mono ?_
 rintro e w3 ⟨rfl,rfl⟩
 obtain ⟨m,hm⟩ : ∃ m : Nat,tables % 10 = (m : Int) := ⟨(tables % 10).toNat,by have := Int.emod_nonneg tables (show (10 : Int) ≠ 0 by decide); omega⟩
 have hm10 : m < 10 := by have := Int.emod_lt_of_pos tables (show (0 : Int) < 10 by decide); omega
 rw [hm]
 clear hm
 go_wp2_with fail
 go_loopw [11] (fun iv wr => ∃ (i : Nat) (F : Nat -> Prop) (S : Sh) (l : List Bt),i <= n /\ iv = .int .i64 (i : Nat) /\ SD P w wr F s d S St.new l /\ St.new.apps l = tabA (ptsW (min i 100)) /\ (recs l).length <= i * 712) (fun iv _ => n - (intOf iv).toNat)
 case atStart => exact ⟨0,F2,S2,[],Nat.zero_le _,rfl,T2.out,rfl,Nat.le_refl _⟩
 case round =>
  obtain ⟨i,F,S,l,hi,rfl,ht,hap,hrl⟩ := hrel
  have T := hid ht; have AP := hid hap; have RL := hid hrl
  clear ht hap hrl
  by_cases hlt : i < n
  ·have i1 : (i : Int) < n := by omega
   have i0 : (0 : Int) <= i := by omega
   have hcv := fun wx => conv_key (i := i) (by omega) wx
   go_upto_region 9 with fail
   have ba := (Below.refl wr.heap.size wr).alloc (Nat.le_refl _) (.cells #[.int .u8 (48 + (i : Int) / 100),.int .u8 (48 + (i : Int) / 10 % 10),.int .u8 (48 + (i : Int) % 10)] 5)
   have T5 := hid (T.out.read D.toDevSC ba)
   clear ba hcv
   generalize wr.alloc (.cells #[.int .u8 (48 + (i : Int) / 100),.int .u8 (48 + (i : Int) / 10 % 10),.int .u8 (48 + (i : Int) % 10)] 5) = W5 at T5 ⊢
   obtain ⟨U,hU,hli,bU⟩ := oneM_lies W5 ⟨#[97]⟩ (keyA i) 1
   have TU := hid (T5.out.read D.toDevSC bU)
   have LU := hid hli
   clear hli bU
   have hbt : (oneM W5 ⟨#[97]⟩ (keyA i) 1).bt = btA i := rfl
   have HBT := hid hbt
   clear hbt
   go_wp2_with fail
   rw [<- hU]
   clear hU
   by_cases h100 : i < 100
   ·have hmin : min i 100 = i := by omega
    have hap := AP.out
    rw [hmin] at hap
    have hrs := recs_snoc_small l (btA i)
    have hln := btA_len i (by omega)
    have RL2 := hid (show (recs (l ++ [btA i])).length <= (i + 1) * 712 by have := RL.out; omega)
    have hbe : (bE (btA i)).length <= 262144 := by omega
    have AP2 : Hid (St.new.apps (l ++ [btA i]) = tabA (ptsW (min (i + 1) 100))) := hid (by rw [St.apps_snoc,hap,tabA_app (by omega),show min (i + 1) 100 = i + 1 by omega])
    refine (D.apply F s d S St.new l (oneM W5 ⟨#[97]⟩ (keyA i) 1) U TU.out.p (TU.out.er HEB.out) LU.out (oneM_off _ _ _ T5.out.sin) (oneM_few W5 _ _ _ (by decide)) (by rw [HBT.out,hap]; exact tabA_fits h100) (by rw [HBT.out]; exact hbe) (by rw [HBT.out]; have := RL2.out; omega)).mono ?_
    rintro e w6 ⟨rfl,F6,hp6,st6⟩
    rw [HBT.out] at hp6
    have T6 := hid (TU.out.turn hp6 st6)
    have i2 : (i : Int) < 100 := by omega
    clear hp6 st6 hap hrs hln hbe hmin
    go_wp2
    go_roundw
    case rel => exact ⟨i + 1,F6,_,_,by omega,by go_num,T6.out,AP2.out,RL2.out⟩
    case measure => simp [intOf]; omega
   ·have hap := AP.out
    rw [show min i 100 = 100 by omega] at hap
    have AP2 : Hid (St.new.apps l = tabA (ptsW (min (i + 1) 100))) := hid (by rw [hap,show min (i + 1) 100 = 100 by omega])
    have RL2 := hid (show (recs l).length <= (i + 1) * 712 by have := RL.out; omega)
    refine (D.big F s d S St.new l (oneM W5 ⟨#[97]⟩ (keyA i) 1) U TU.out.p (TU.out.er HEB.out) LU.out (oneM_few W5 _ _ _ (by decide)) (by rw [HBT.out]; exact btA_ok i (by omega)) (by rw [HBT.out,hap]; exact tabA_full (by omega) (by omega))).mono ?_
    rintro e w6 ⟨rfl,F6,hp6,st6⟩
    have T6 := hid (TU.out.turn hp6 st6)
    have i2 : decide ((i : Int) < 100) = false := decide_eq_false (by omega)
    have i2' : decide (i < 100) = false := decide_eq_false (by omega)
    clear hp6 st6 hap
    go_wp2
    go_roundw
    case rel => exact ⟨i + 1,F6,_,_,by omega,by go_num,T6.out,AP2.out,RL2.out⟩
    case measure => simp [intOf]; omega
  ·have hin : i = n := by omega
   subst hin
   have i1 : decide ((i : Int) < (i : Int)) = false := decide_eq_false (by omega)
   clear hlt
   go_upto_region 12 with fail
   go_cut [87] from 77 to 86 (fun tv wx => tv = .bool false /\ ∃ wy,wx = wy /\ ∃ (F : Nat -> Prop) (S : Sh) (l : List Bt) (A : List Pa),SD P w wy F s d S St.new l /\ TabA i A /\ St.new.apps l = tabT A 0 /\ (recs l).length <= (i + 1) * 712)
   case first =>
    by_cases h0 : i = 0
    ·subst h0
     have hap := AP.out
     rw [show tabA (ptsW (min 0 100)) = St.new from rfl] at hap
     obtain ⟨U,hU,hli,bU⟩ := oneM_lies wr ⟨#[97]⟩ ⟨#[48]⟩ 0
     have TU := hid (T.out.read D.toDevSC bU)
     have LU := hid hli
     clear hli bU
     have HBT := hid (show (oneM wr ⟨#[97]⟩ ⟨#[48]⟩ 0).bt = btZ from rfl)
     have RL2 := hid (show (recs (l ++ [btZ])).length <= (0 + 1) * 712 by have := RL.out; have := recs_snoc_small l btZ; have := btZ_fits.2.2; omega)
     have AP2 : Hid (St.new.apps (l ++ [btZ]) = tabT [⟨⟨#[48]⟩,0,[]⟩] 0) := hid (by rw [St.apps_snoc,hap]; exact btZ_fits.2.1)
     go_wp2_with fail
     rw [<- hU]
     clear hU
     refine (D.apply F s d S St.new l (oneM wr ⟨#[97]⟩ ⟨#[48]⟩ 0) U TU.out.p (TU.out.er HEB.out) LU.out (oneM_off _ _ _ T.out.sin) (oneM_few wr _ _ _ (by decide)) (by rw [HBT.out,hap]; exact btZ_fits.1) (by rw [HBT.out]; have := btZ_fits.2.2; omega) (by rw [HBT.out]; have := RL2.out; omega)).mono ?_
     rintro e w6 ⟨rfl,F6,hp6,st6⟩
     rw [HBT.out] at hp6
     have T6 := hid (TU.out.turn hp6 st6)
     clear hp6 st6 hap
     go_wp2
     go_meet
     exact ⟨rfl,w6,rfl,F6,_,_,_,T6.out,TabA.none,AP2.out,RL2.out⟩
    ·have e0 : ((i : Int) == 0) = false := by simp; omega
     have AP2 : Hid (St.new.apps l = tabT (ptsW (min i 100)) 0) := hid (by rw [AP.out]; exact tabA_T (fun he => by have := congrArg List.length he; rw [ptsW_length] at this; simp at this; omega))
     have A2 := hid (TabA.some (n := i) (by omega))
     have RL2 := hid (show (recs l).length <= (i + 1) * 712 by have := RL.out; omega)
     clear h0
     go_wp2
     go_meet
     exact ⟨rfl,wr,rfl,F,S,l,_,T.out,A2.out,AP2.out,RL2.out⟩
   case rest =>
    obtain ⟨rfl,wy,hwy,F5,S5,l5,A,ht5,hA,hap5,hrl5⟩ := hcut
    have hwz := hwy.symm
    clear hwy
    subst hwz
    have T5 := hid ht5; have TA := hid hA; have AP5 := hid hap5; have RL5 := hid hrl5
    clear ht5 hA hap5 hrl5 T AP RL
    go_wp2_with fail
    go_loopw [14] (fun iv wr => ∃ (j : Nat) (F : Nat -> Prop) (S : Sh) (l : List Bt),1 <= j /\ j <= m + 1 /\ iv = .int .i64 (j : Nat) /\ SD P w wr F s d S St.new l /\ St.new.apps l = tabT A (min (j - 1) 7) /\ (recs l).length <= (i + j) * 712) (fun iv _ => m + 1 - (intOf iv).toNat)
    case atStart => exact ⟨1,F5,S5,l5,Nat.le_refl _,by omega,rfl,T5.out,AP5.out,RL5.out⟩
    case round =>
     obtain ⟨j,F,S,l,hj1,hjm,rfl,ht,hap,hrl⟩ := hrel
     have T := hid ht; have AP := hid hap; have RL := hid hrl
     clear ht hap hrl
     by_cases hlt : j < m + 1
     ·have k1 : (j : Int) < 1 + m := by omega
      have k0 : (0 : Int) <= j := by omega
      have hnm := nmT_ext j (by omega)
      obtain ⟨U,hU,hli,bU⟩ := oneM_lies wr (nmT j) ⟨#[120]⟩ 0
      have TU := hid (T.out.read D.toDevSC bU)
      have LU := hid hli
      have HBT := hid (show (oneM wr (nmT j) ⟨#[120]⟩ 0).bt = btT j from rfl)
      have FEW := hid (oneM_few wr (nmT j) ⟨#[120]⟩ 0 (show 1 <= 100 by decide))
      clear hli bU
      go_wp2_with fail
      rw [<- hU]
      clear hU hnm
      by_cases h8 : j < 8
      ·have hmin : min (j - 1) 7 = j - 1 := by omega
       have hj2 : j - 1 + 1 = j := by omega
       have hap := AP.out
       rw [hmin] at hap
       have hrs := recs_snoc_small l (btT j)
       have hln := btT_len j (by omega)
       have RL2 := hid (show (recs (l ++ [btT j])).length <= (i + (j + 1)) * 712 by have := RL.out; omega)
       have hbe : (bE (btT j)).length <= 262144 := by omega
       have hta := tabT_app A (j - 1) (by omega)
       rw [hj2] at hta
       have htf := tabT_fits TA.out.ok (i := j - 1) (by omega)
       rw [hj2] at htf
       have AP2 : Hid (St.new.apps (l ++ [btT j]) = tabT A (min (j + 1 - 1) 7)) := hid (by rw [St.apps_snoc,hap,hta,show min (j + 1 - 1) 7 = j by omega])
       refine (D.apply F s d S St.new l (oneM wr (nmT j) ⟨#[120]⟩ 0) U TU.out.p (TU.out.er HEB.out) LU.out (oneM_off _ _ _ T.out.sin) FEW.out (by rw [HBT.out,hap]; exact htf) (by rw [HBT.out]; exact hbe) (by rw [HBT.out]; have := RL2.out; omega)).mono ?_
       rintro e w6 ⟨rfl,F6,hp6,st6⟩
       rw [HBT.out] at hp6
       have T6 := hid (TU.out.turn hp6 st6)
       have i2 : (j : Int) < 8 := by omega
       clear hp6 st6 hap hrs hln hbe hmin hta htf hj2
       go_wp2
       go_roundw
       case rel => exact ⟨j + 1,F6,_,_,by omega,by omega,by go_num,T6.out,AP2.out,RL2.out⟩
       case measure => simp [intOf]; omega
      ·have hap := AP.out
       rw [show min (j - 1) 7 = 7 by omega] at hap
       have AP2 : Hid (St.new.apps l = tabT A (min (j + 1 - 1) 7)) := hid (by rw [hap,show min (j + 1 - 1) 7 = 7 by omega])
       have RL2 := hid (show (recs l).length <= (i + (j + 1)) * 712 by have := RL.out; omega)
       refine (D.big F s d S St.new l (oneM wr (nmT j) ⟨#[120]⟩ 0) U TU.out.p (TU.out.er HEB.out) LU.out FEW.out (by rw [HBT.out]; exact btT_ok j (by omega)) (by rw [HBT.out,hap]; exact tabT_full (by omega) (by omega))).mono ?_
       rintro e w6 ⟨rfl,F6,hp6,st6⟩
       have T6 := hid (TU.out.turn hp6 st6)
       have i2 : decide ((j : Int) < 8) = false := decide_eq_false (by omega)
       have i2' : decide (j < 8) = false := decide_eq_false (by omega)
       clear hp6 st6 hap
       go_wp2
       go_roundw
       case rel => exact ⟨j + 1,F6,_,_,by omega,by omega,by go_num,T6.out,AP2.out,RL2.out⟩
       case measure => simp [intOf]; omega
     ·have hjm2 : j = m + 1 := by omega
      subst hjm2
      have k1 : decide (((m + 1 : Nat) : Int) < 1 + (m : Int)) = false := decide_eq_false (by omega)
      clear hlt
      have hap : St.new.apps l = tabT A (min m 7) := AP.out
      have AP2 := hid hap
      clear hap AP
      go_wp2_with fail
      refine (place_any rows 4 _ (by omega) (by omega) (bounds_i64 HR.out)).mono ?_
      rintro e w3 ⟨rfl,rfl⟩
      obtain ⟨k,hk⟩ : ∃ k : Nat,rows % 4 = (k : Int) := ⟨(rows % 4).toNat,by have := Int.emod_nonneg rows (show (4 : Int) ≠ 0 by decide); omega⟩
      have hk4 : k < 4 := by have := Int.emod_lt_of_pos rows (show (0 : Int) < 4 by decide); omega
      rw [hk]
      clear hk
      have ba := (Below.refl wr.heap.size wr).alloc (Nat.le_refl _) (.cells #[.string ⟨#[120]⟩,.int .i64 0,.slice none 0 0] 33)
      have hpt := heap_alloc_new wr (.cells #[.string ⟨#[120]⟩,.int .i64 0,.slice none 0 0] 33)
      obtain ⟨W6,hW6⟩ : ∃ W,W = wr.alloc (.cells #[.string ⟨#[120]⟩,.int .i64 0,.slice none 0 0] 33) := ⟨_,rfl⟩
      obtain ⟨q,hq⟩ : ∃ q,wr.heap.size = q := ⟨_,rfl⟩
      have NQ := hid (show ¬ F q from fun hf => by have := T.out.sin _ hf; omega)
      have HQW := hid (show w.heap.size <= q by have := T.out.below.size; omega)
      rw [<- hW6] at ba hpt
      rw [hq] at hpt
      have T6 := hid (T.out.read D.toDevSC ba)
      have PT := hid hpt
      have HQ := hid hq
      clear ba hpt hq
      go_wp2_with fail
      rw [<- hW6,HQ.out]
      clear hW6
      go_loopw [18] (fun iv wr => ∃ (t c : Nat) (A' : Option Addr),t <= 99 + k /\ iv = .int .i64 (t : Nat) /\ GrowX W6 wr q t A' c) (fun iv _ => 99 + k - (intOf iv).toNat)
      case atStart => exact ⟨0,0,none,Nat.zero_le _,rfl,PT.out,own_nilR _ _,Kept.refl _ _⟩
      case round =>
       obtain ⟨t,cc,A',ht,rfl,hg⟩ := hrel
       have G := hid hg
       clear hg
       by_cases hlt : t < 99 + k
       ·have k1 : (t : Int) < 99 + (k : Int) := by omega
        have k0 : (0 : Int) <= t := by omega
        have hcv := fun wx => conv_one (i := t) (by omega) wx
        have z2 : wr.cell? ⟨q,2,none⟩ = some (.slice A' t cc) := cell_at G.out.pt rfl
        have bV : Below wr.heap.size wr (wr.alloc (.cells #[.int .u8 (t : Int)] 5)) := (Below.refl wr.heap.size wr).alloc (Nat.le_refl _) _
        obtain ⟨V,hV⟩ : ∃ V,V = wr.alloc (.cells #[.int .u8 (t : Int)] 5) := ⟨_,rfl⟩
        rw [<- hV] at bV
        have GV := hid (G.out.on bV)
        have RD := hid (RdR.one V (roA t) (wr.heap.size + 1) (by rw [hV]; simp))
        have bU : Below V.heap.size V (V.alloc (.cells #[.string (roA t).ro.key,.string (roA t).ro.live.s,.bool (roA t).ro.live.d,.int .i64 (roA t).ro.live.a,.int .i64 (roA t).ro.live.e,.int .i64 (roA t).ro.gone,.int .i64 (roA t).ro.shade,.slice (roA t).A (roA t).ro.cols.length (roA t).c] 45)) := (Below.refl V.heap.size V).alloc (Nat.le_refl _) _
        have GU := hid (GV.out.on bU)
        have HV := hid hV
        clear hV bV bU
        go_wp2_with (at_builtin; rw [<- HV.out]; refine list_ex rfl (.tmp 126) (.tmp 133) _ _ rfl (.slice A' t cc) (.slice (some ⟨wr.heap.size + 1,0,none⟩) 1 1) rfl rfl (run_appR W6.heap.size GU.out.own RD.out ?s3 ?s4) ?_)
        case s3 => omega
        case s4 => exact GU.out.kept.size
        intro v7 w7 ho7 hg7 hloc7
        clear hloc7
        obtain ⟨A7,c7,rfl,_⟩ := own_slice ho7
        have G7 := hid (GU.out.app ho7 hg7)
        have y2 := thawed_at (i := 2) G7.out.1
        have x2 : w7.cell? ⟨q,2,none⟩ = some (.slice A' t cc) := cell_at G7.out.1 rfl
        clear ho7 hg7 z2
        go_wp2_with fail
        have G8 := hid G7.out.2
        generalize (w7.setCell ⟨q,2,none⟩ (.slice A7 (t + 1) c7)) = w9 at G8 ⊢
        clear y2 x2 G7
        try go_wp2
        go_roundw
        case rel => exact ⟨t + 1,c7,A7,by omega,by go_num,G8.out⟩
        case measure => simp [intOf]; omega
       ·obtain rfl : t = 99 + k := by omega
        have k1 : decide (((99 + k : Nat) : Int) < 99 + (k : Int)) = false := decide_eq_false (by omega)
        have z2 : wr.cell? ⟨q,2,none⟩ = some (.slice A' (99 + k) cc) := cell_at G.out.pt rfl
        have hown := G.out.own
        obtain ⟨_,_,e0,hcc,hcm,hcA⟩ := own_slice hown
        injection e0 with e1 e2 e3
        subst e1; subst e3
        have hRd : RdR wr wr.heap.size A' (99 + k) (rasI (99 + k)) := RdR.of_own hown
        obtain ⟨lo,hlo⟩ : ∃ lo,min (99 + k) 100 = lo := ⟨_,rfl⟩
        have hlo1 : lo <= 99 + k := by omega
        obtain ⟨sh,r1⟩ := slRw_h hRd hcc hcA (lo : Int) lo rfl hlo1
        obtain ⟨A2,sl,r2,hb2⟩ := slRw_l hRd hcc (lo : Int) lo rfl hlo1 (adr_ownw hown)
        have hmn : min (99 + (k : Int)) 100 = (lo : Int) := by omega
        have bd := (Below.refl wr.heap.size wr).drew
        have LB := bRR_lies (w := wr.drew) (r1.below bd) (r2.below bd) hlo1 hcc
        obtain ⟨y,hy⟩ : ∃ y,bRR wr.drew.heap.size (99 + k) lo cc A' A2 = y := ⟨_,rfl⟩
        have hyb : y.bt = btR k := by rw [<- hy,<- hlo]; exact bRR_bt _ _ _ _ _
        have hyo : ∀ j,y.blk j -> W6.heap.size <= j := by rw [<- hy]; exact bRR_off G.out.kept.size (fun j hj => own_blkw hown hj) fun j hj => own_blkw hown (hb2 j hj)
        have hyf : BtF y := by rw [<- hy]; exact bRR_few _ _ _ _ _ _ (by omega)
        have hyv : bV y = .agg #[.slice (some ⟨wr.heap.size,0,none⟩) 2 2,.slice none 0 0,.slice none 0 0] := by rw [<- hy]; rfl
        rw [hy] at LB
        have TW := SD.keep D.toDevSC T6.out G.out.kept NQ.out HQW.out
        have hbo := bd.trans ((Below.refl wr.drew.heap.size wr.drew).alloc (Nat.le_refl _) (bRRo (99 + k) lo cc A' A2))
        have T7 := hid (TW.read D.toDevSC hbo)
        have qlt : q < wr.heap.size := G.out.lt
        have P7 : Hid ((wr.drew.alloc (bRRo (99 + k) lo cc A' A2)).heap[q]? = some (.cells #[.string ⟨#[120]⟩,.int .i64 0,.slice A' (99 + k) cc] 33 (0,0))) := hid ((hbo.block q qlt).trans G.out.pt)
        have y2 : ∀ o,(wr.drew.alloc o).cell? ⟨q,2,none⟩ = some (.slice A' (99 + k) cc) := fun o => ((bd.trans ((Below.refl wr.drew.heap.size wr.drew).alloc (Nat.le_refl _) o)).cell (p := ⟨q,2,none⟩) qlt).trans z2
        have hs7 : (wr.drew.alloc (bRRo (99 + k) lo cc A' A2)).heap.size = wr.drew.heap.size + 1 := by simp
        rw [<- hs7] at LB
        have LBH := hid LB; have HYB := hid hyb; have HYO := hid hyo; have HYF := hid hyf; have HYV := hid hyv
        have RS := recs_snoc_small l (btR k)
        have BL := btR_len k hk4
        have RL3 : Hid ((recs (l ++ [btR k])).length <= 262144) := hid (by have := RL.out; omega)
        have QO := hid (show ∀ j,y.blk j -> ¬ F j from fun j hj hf => by have h1 := hyo j hj; have h2 := T6.out.sin j hf; omega)
        have BLH := hid (show (bE (btR k)).length <= 262144 by omega)
        clear hlt e2 LB hyb hyo hyf hyv hy TW hbo hs7 RS BL r1 r2 hRd hown bd hb2 hcA hcm
        by_cases hk2 : k < 2
        ·have FT := hid (show (St.new.apps l).Fits y.bt by rw [HYB.out,AP2.out]; exact tabR_fits TA.out.ok (by omega) hk2)
         go_wp2_with fail
         go_region_held3 (fun w' => w'.cell? ⟨q,2,none⟩ = some (.slice A' (99 + k) cc)) (first | assumption | exact y2 _) (first
          | (go_at_call 9
             rw [<- HYV.out]
             refine (D.apply F s d S St.new l y _ T7.out.p (T7.out.er HEB.out) LBH.out QO.out HYF.out FT.out (by rw [HYB.out]; exact BLH.out) (by rw [HYB.out]; exact RL3.out)).mono ?_
             rintro e w8 ⟨rfl,F8,hp8,st8⟩
             rw [HYB.out] at hp8
             have T8 := hid (T7.out.turn hp8 st8)
             have n8 := (st8.kept.block q (Array.getElem?_eq_some_iff.1 P7.out).1 NQ.out).trans P7.out
             have x2 : w8.cell? ⟨q,2,none⟩ = some (.slice A' (99 + k) cc) := cell_at (i := 2) n8 rfl
             have N8 := hid n8
             clear hp8 st8 n8))
         all_goals
          have TB8 := hid (show St.new.apps (l ++ [btR k]) = tabR A (min m 7) k by rw [St.apps_snoc,AP2.out,tabR_app A hk4])
          obtain ⟨i1,hi1⟩ : ∃ i1,max i 1 = i1 := ⟨_,rfl⟩
          obtain ⟨nA,hnA⟩ : ∃ nA,A.length = nA := ⟨_,rfl⟩
          have hmx : max (i : Int) 1 = (i1 : Int) := by omega
          have hmn2 : min (i1 : Int) 100 = (nA : Int) := by have := TA.out.len; omega
          have hf1 : decide ((99 + (k : Int)) <= 100) = true := decide_eq_true (by omega)
          have hf3 : decide ((k : Int) <= 1) = true := decide_eq_true (by omega)
          have hf4 : decide (k <= 1) = true := decide_eq_true (by omega)
          have hf5 : decide ((100 : Int) < 99 + (k : Int)) = false := decide_eq_false (by omega)
          have hf6 : decide (100 < 99 + k) = false := decide_eq_false (by omega)
          have hf2 : decide (99 + k <= 100) = true := decide_eq_true (by omega)
          have NA := hid hnA
          have Q8 := hid (Array.getElem?_eq_some_iff.1 N8.out).1
          have TD := hid (T8.out.read D.toDevSC (Below.refl w8.heap.size w8).drew)
          clear hi1 hnA y2
          go_wp2_with fail
          refine wp_region_held_drew (S := fun w' => w'.cell? ⟨q,2,none⟩ = some (.slice A' (99 + k) cc)) (by kernel_rfl) ?_ (fun hHeld => ?_)
          ·exact x2
          refine takesH [0,3,4,5] ?_
          repeat
           refine takesH_one (v := ?_) ?_ ?_
           rotate_left
           ·first | (refine Or.inr ⟨by rfl,?_⟩; with_reducible rfl) | (refine Or.inl ⟨by rfl,?_⟩; intro wx hSw; (try dsimp only at hSw); first | (go_simp; first | done | with_reducible rfl))
           try simp only [Act.put,zq1,zq2,zq3,zq4,zq5,zq6]
          refine takesH_nil ?_
          refine wpAnyH_ready (rs := [1]) (by kernel_rfl) (by simp) (AllReadyH.cons rfl (fun K hK => ?_) AllReadyH.nil)
          go_simp
          refine (D.parts F8 s d _ St.new _ ⟨#[97]⟩ w8.drew TD.out.p (TD.out.er HEB.out) (by decide)).mono ?_
          rintro e w9 ⟨A9,n9,c9,L9,rfl,hl9,hp9,b9⟩
          rw [TB8.out,parts_R] at hp9
          obtain rfl : n9 = nA := by
           have h1 := congrArg List.length hp9
           unfold pas at h1
           rw [List.length_map,NA.out] at h1
           have h2 := hl9.rd.1
           omega
          have T9 := hid (TD.out.read D.toDevSC b9)
          have c9' : w9.cell? ⟨q,2,none⟩ = some (.slice A' (99 + k) cc) := (b9.cell (p := ⟨q,2,none⟩) Q8.out).trans x2
          have Q9 : Hid (q < w9.heap.size) := hid (Nat.lt_of_lt_of_le Q8.out b9.size)
          clear hl9 hp9 b9
          try go_wp2_with fail
          refine hK.out _ _ ?_ (fun hHeld => ?_)
          ·first | exact c12 | exact c11 | exact c10' | exact c9'
          clear hK K
          try simp only [Act.put,zq1,zq2,zq3,zq4,zq5,zq6]
          refine takesH [2,6,7,8,9,10,11,12,13,14] ?_
          repeat
           refine takesH_one (v := ?_) ?_ ?_
           rotate_left
           ·first | (refine Or.inr ⟨by rfl,?_⟩; with_reducible rfl) | (refine Or.inl ⟨by rfl,?_⟩; intro wx hSw; (try dsimp only at hSw); first | (go_simp; first | done | with_reducible rfl))
           try simp only [Act.put,zq1,zq2,zq3,zq4,zq5,zq6]
          refine takesH_nil ?_
          refine wpAnyH_ready (rs := [15]) (by kernel_rfl) (by simp) (AllReadyH.cons rfl (fun K hK => ?_) AllReadyH.nil)
          go_simp
          refine (D.tables F8 s d _ St.new _ w9 T9.out.p (T9.out.er HEB.out)).mono ?_
          rintro e w10 ⟨A10,n10,c10,rfl,hr10,hc10,b10⟩
          have h10 : (n10 : Int) <= 8 := by
           have h1 := hr10.1
           rw [TB8.out,List.length_map,tabR_len] at h1
           omega
          have T10 := hid (T9.out.read D.toDevSC b10)
          have c10' : w10.cell? ⟨q,2,none⟩ = some (.slice A' (99 + k) cc) := (b10.cell (p := ⟨q,2,none⟩) Q9.out).trans c9'
          have Q10 : Hid (q < w10.heap.size) := hid (Nat.lt_of_lt_of_le Q9.out b10.size)
          clear hr10 hc10 b10
          try go_wp2_with fail
          refine hK.out _ _ ?_ (fun hHeld => ?_)
          ·first | exact c12 | exact c11 | exact c10' | exact c9'
          clear hK K
          try simp only [Act.put,zq1,zq2,zq3,zq4,zq5,zq6]
          refine takesH [16,17,18,19,20,21,22,23,27,28,29] ?_
          repeat
           refine takesH_one (v := ?_) ?_ ?_
           rotate_left
           ·first | (refine Or.inr ⟨by rfl,?_⟩; with_reducible rfl) | (refine Or.inl ⟨by rfl,?_⟩; intro wx hSw; (try dsimp only at hSw); first | (go_simp; first | done | with_reducible rfl))
           try simp only [Act.put,zq1,zq2,zq3,zq4,zq5,zq6]
          refine takesH_nil ?_
          refine wpAnyH_ready (rs := [24]) (by kernel_rfl) (by simp) (AllReadyH.cons rfl (fun K hK => ?_) AllReadyH.nil)
          go_simp
          refine (D.get F8 s d _ St.new _ ⟨#[98]⟩ ⟨#[120]⟩ w10 T10.out.p (T10.out.er HEB.out) (by decide) (by decide)).mono ?_
          rintro e w11 ⟨z,rfl,hz1,hz2,b11⟩
          have hzl : z.L.length = 99 + k := by
           rw [TB8.out,get_R] at hz1
           have h1 : (paOf z).rows.length = (ptR k).rows.length := congrArg (fun p : Pa => p.rows.length) hz1
           have h2 : (paOf z).rows.length = z.L.length := by unfold paOf ros; rw [List.length_map]
           have h3 : (ptR k).rows.length = 99 + k := rosI_length _
           omega
          have hfr := fun wx => field_rows z.k z.g z.A z.L.length z.c wx
          rw [hzl] at hfr
          rw [hzl]
          have T11 := hid (T10.out.read D.toDevSC b11)
          have c11 : w11.cell? ⟨q,2,none⟩ = some (.slice A' (99 + k) cc) := (b11.cell (p := ⟨q,2,none⟩) Q10.out).trans c10'
          have Q11 : Hid (q < w11.heap.size) := hid (Nat.lt_of_lt_of_le Q10.out b11.size)
          clear hz1 hz2 hzl b11
          try go_wp2_with fail
          refine hK.out _ _ ?_ (fun hHeld => ?_)
          ·first | exact c12 | exact c11 | exact c10' | exact c9'
          clear hK K
          try simp only [Act.put,zq1,zq2,zq3,zq4,zq5,zq6]
          refine takesH [25,26,30,31,32,33,34,35,36,37,38,39,40,41,42,43] ?_
          repeat
           refine takesH_one (v := ?_) ?_ ?_
           rotate_left
           ·first | (refine Or.inr ⟨by rfl,?_⟩; with_reducible rfl) | (refine Or.inl ⟨by rfl,?_⟩; intro wx hSw; (try dsimp only at hSw); first | (go_simp; first | done | with_reducible rfl))
           try simp only [Act.put,zq1,zq2,zq3,zq4,zq5,zq6]
          refine takesH_nil ?_
          refine wpAnyH_ready (rs := [44]) (by kernel_rfl) (by simp) (AllReadyH.cons rfl (fun K hK => ?_) AllReadyH.nil)
          go_simp
          refine (awake12 D.toDevSC w11 (T11.out.er HEB.out).eb).mono ?_
          rintro e w12 ⟨rfl,b12⟩
          have c12 : w12.cell? ⟨q,2,none⟩ = some (.slice A' (99 + k) cc) := (b12.cell (p := ⟨q,2,none⟩) Q11.out).trans c11
          have B12 := hid (T11.out.below.trans (b12.mono T11.out.below.size))
          clear b12
          try go_wp2_with fail
          refine hK.out _ _ ?_ (fun hHeld => ?_)
          ·first | exact c12 | exact c11 | exact c10' | exact c9'
          clear hK K
          try simp only [Act.put,zq1,zq2,zq3,zq4,zq5,zq6]
          refine takesH [45,46] ?_
          repeat
           refine takesH_one (v := ?_) ?_ ?_
           rotate_left
           ·first | (refine Or.inr ⟨by rfl,?_⟩; with_reducible rfl) | (refine Or.inl ⟨by rfl,?_⟩; intro wx hSw; (try dsimp only at hSw); first | (go_simp; first | done | with_reducible rfl))
           try simp only [Act.put,zq1,zq2,zq3,zq4,zq5,zq6]
          refine takesH_nil ?_
          refine wpAnyH_done (by kernel_rfl) ?_ _
          go_wp2
          go_ret
          exact ⟨rfl,B12.out⟩
        ·have FT := hid (show ¬ (St.new.apps l).Fits y.bt by rw [HYB.out,AP2.out]; exact tabR_full (by omega) hk4)
         have OKB := hid (show y.bt.ok = true by rw [HYB.out]; exact btR_ok k hk4)
         go_wp2_with fail
         go_region_held3 (fun w' => w'.cell? ⟨q,2,none⟩ = some (.slice A' (99 + k) cc)) (first | assumption | exact y2 _) (first
          | (go_at_call 9
             rw [<- HYV.out]
             refine (D.big F s d S St.new l y _ T7.out.p (T7.out.er HEB.out) LBH.out HYF.out OKB.out FT.out).mono ?_
             rintro e w8 ⟨rfl,F8,hp8,st8⟩
             have T8 := hid (T7.out.turn hp8 st8)
             have n8 := (st8.kept.block q (Array.getElem?_eq_some_iff.1 P7.out).1 NQ.out).trans P7.out
             have x2 : w8.cell? ⟨q,2,none⟩ = some (.slice A' (99 + k) cc) := cell_at (i := 2) n8 rfl
             have N8 := hid n8
             clear hp8 st8 n8))
         all_goals
          have TB8 := hid AP2.out
          obtain ⟨i1,hi1⟩ : ∃ i1,max i 1 = i1 := ⟨_,rfl⟩
          obtain ⟨nA,hnA⟩ : ∃ nA,A.length = nA := ⟨_,rfl⟩
          have hmx : max (i : Int) 1 = (i1 : Int) := by omega
          have hmn2 : min (i1 : Int) 100 = (nA : Int) := by have := TA.out.len; omega
          have hf1 : decide ((99 + (k : Int)) <= 100) = false := decide_eq_false (by omega)
          have hf2 : decide (99 + k <= 100) = false := decide_eq_false (by omega)
          have NA := hid hnA
          have Q8 := hid (Array.getElem?_eq_some_iff.1 N8.out).1
          have TD := hid (T8.out.read D.toDevSC (Below.refl w8.heap.size w8).drew)
          clear hi1 hnA y2
          go_wp2_with fail
          refine wp_region_held_drew (S := fun w' => w'.cell? ⟨q,2,none⟩ = some (.slice A' (99 + k) cc)) (by kernel_rfl) ?_ (fun hHeld => ?_)
          ·exact x2
          refine takesH [0,3,4,5] ?_
          repeat
           refine takesH_one (v := ?_) ?_ ?_
           rotate_left
           ·first | (refine Or.inr ⟨by rfl,?_⟩; with_reducible rfl) | (refine Or.inl ⟨by rfl,?_⟩; intro wx hSw; (try dsimp only at hSw); first | (go_simp; first | done | with_reducible rfl))
           try simp only [Act.put,zq1,zq2,zq3,zq4,zq5,zq6]
          refine takesH_nil ?_
          refine wpAnyH_ready (rs := [1]) (by kernel_rfl) (by simp) (AllReadyH.cons rfl (fun K hK => ?_) AllReadyH.nil)
          go_simp
          refine (D.parts F8 s d _ St.new _ ⟨#[97]⟩ w8.drew TD.out.p (TD.out.er HEB.out) (by decide)).mono ?_
          rintro e w9 ⟨A9,n9,c9,L9,rfl,hl9,hp9,b9⟩
          rw [TB8.out,parts_T] at hp9
          obtain rfl : n9 = nA := by
           have h1 := congrArg List.length hp9
           unfold pas at h1
           rw [List.length_map,NA.out] at h1
           have h2 := hl9.rd.1
           omega
          have T9 := hid (TD.out.read D.toDevSC b9)
          have c9' : w9.cell? ⟨q,2,none⟩ = some (.slice A' (99 + k) cc) := (b9.cell (p := ⟨q,2,none⟩) Q8.out).trans x2
          have Q9 : Hid (q < w9.heap.size) := hid (Nat.lt_of_lt_of_le Q8.out b9.size)
          clear hl9 hp9 b9
          try go_wp2_with fail
          refine hK.out _ _ ?_ (fun hHeld => ?_)
          ·first | exact c12 | exact c11 | exact c10' | exact c9'
          clear hK K
          try simp only [Act.put,zq1,zq2,zq3,zq4,zq5,zq6]
          refine takesH [2,6,7,8,9,10,11,12,13,14] ?_
          repeat
           refine takesH_one (v := ?_) ?_ ?_
           rotate_left
           ·first | (refine Or.inr ⟨by rfl,?_⟩; with_reducible rfl) | (refine Or.inl ⟨by rfl,?_⟩; intro wx hSw; (try dsimp only at hSw); first | (go_simp; first | done | with_reducible rfl))
           try simp only [Act.put,zq1,zq2,zq3,zq4,zq5,zq6]
          refine takesH_nil ?_
          refine wpAnyH_ready (rs := [15]) (by kernel_rfl) (by simp) (AllReadyH.cons rfl (fun K hK => ?_) AllReadyH.nil)
          go_simp
          refine (D.tables F8 s d _ St.new _ w9 T9.out.p (T9.out.er HEB.out)).mono ?_
          rintro e w10 ⟨A10,n10,c10,rfl,hr10,hc10,b10⟩
          have h10 : (n10 : Int) <= 8 := by
           have h1 := hr10.1
           rw [TB8.out,List.length_map,tabT_len] at h1
           omega
          have T10 := hid (T9.out.read D.toDevSC b10)
          have c10' : w10.cell? ⟨q,2,none⟩ = some (.slice A' (99 + k) cc) := (b10.cell (p := ⟨q,2,none⟩) Q9.out).trans c9'
          have Q10 : Hid (q < w10.heap.size) := hid (Nat.lt_of_lt_of_le Q9.out b10.size)
          clear hr10 hc10 b10
          try go_wp2_with fail
          refine hK.out _ _ ?_ (fun hHeld => ?_)
          ·first | exact c12 | exact c11 | exact c10' | exact c9'
          clear hK K
          try simp only [Act.put,zq1,zq2,zq3,zq4,zq5,zq6]
          refine takesH [16,17,18,19,20,21,22,23,24,25,26,27,28,29,30,31,32,33,34,35,36] ?_
          repeat
           refine takesH_one (v := ?_) ?_ ?_
           rotate_left
           ·first | (refine Or.inr ⟨by rfl,?_⟩; with_reducible rfl) | (refine Or.inl ⟨by rfl,?_⟩; intro wx hSw; (try dsimp only at hSw); first | (go_simp; first | done | with_reducible rfl))
           try simp only [Act.put,zq1,zq2,zq3,zq4,zq5,zq6]
          refine takesH_nil ?_
          refine wpAnyH_ready (rs := [37]) (by kernel_rfl) (by simp) (AllReadyH.cons rfl (fun K hK => ?_) AllReadyH.nil)
          go_simp
          refine (D.get F8 s d _ St.new _ ⟨#[98]⟩ ⟨#[120]⟩ w10 T10.out.p (T10.out.er HEB.out) (by decide) (by decide)).mono ?_
          rintro e w11 ⟨z,rfl,hz1,hz2,b11⟩
          have hzl : z.L.length = 0 := by
           have h1 : (paOf z).rows.length = 0 := by rw [hz1,TB8.out,get_T]; rfl
           have h2 : (paOf z).rows.length = z.L.length := by unfold paOf ros; rw [List.length_map]
           omega
          have hfr := fun wx => field_rows z.k z.g z.A z.L.length z.c wx
          rw [hzl] at hfr
          rw [hzl]
          have T11 := hid (T10.out.read D.toDevSC b11)
          have c11 : w11.cell? ⟨q,2,none⟩ = some (.slice A' (99 + k) cc) := (b11.cell (p := ⟨q,2,none⟩) Q10.out).trans c10'
          have Q11 : Hid (q < w11.heap.size) := hid (Nat.lt_of_lt_of_le Q10.out b11.size)
          clear hz1 hz2 hzl b11
          try go_wp2_with fail
          refine hK.out _ _ ?_ (fun hHeld => ?_)
          ·first | exact c12 | exact c11 | exact c10' | exact c9'
          clear hK K
          try simp only [Act.put,zq1,zq2,zq3,zq4,zq5,zq6]
          refine takesH [38,39,40,41,42,43] ?_
          repeat
           refine takesH_one (v := ?_) ?_ ?_
           rotate_left
           ·first | (refine Or.inr ⟨by rfl,?_⟩; with_reducible rfl) | (refine Or.inl ⟨by rfl,?_⟩; intro wx hSw; (try dsimp only at hSw); first | (go_simp; first | done | with_reducible rfl))
           try simp only [Act.put,zq1,zq2,zq3,zq4,zq5,zq6]
          refine takesH_nil ?_
          refine wpAnyH_ready (rs := [44]) (by kernel_rfl) (by simp) (AllReadyH.cons rfl (fun K hK => ?_) AllReadyH.nil)
          go_simp
          refine (awake12 D.toDevSC w11 (T11.out.er HEB.out).eb).mono ?_
          rintro e w12 ⟨rfl,b12⟩
          have c12 : w12.cell? ⟨q,2,none⟩ = some (.slice A' (99 + k) cc) := (b12.cell (p := ⟨q,2,none⟩) Q11.out).trans c11
          have B12 := hid (T11.out.below.trans (b12.mono T11.out.below.size))
          clear b12
          try go_wp2_with fail
          refine hK.out _ _ ?_ (fun hHeld => ?_)
          ·first | exact c12 | exact c11 | exact c10' | exact c9'
          clear hK K
          try simp only [Act.put,zq1,zq2,zq3,zq4,zq5,zq6]
          refine takesH [45,46] ?_
          repeat
           refine takesH_one (v := ?_) ?_ ?_
           rotate_left
           ·first | (refine Or.inr ⟨by rfl,?_⟩; with_reducible rfl) | (refine Or.inl ⟨by rfl,?_⟩; intro wx hSw; (try dsimp only at hSw); first | (go_simp; first | done | with_reducible rfl))
           try simp only [Act.put,zq1,zq2,zq3,zq4,zq5,zq6]
          refine takesH_nil ?_
          refine wpAnyH_done (by kernel_rfl) ?_ _
          go_wp2
          go_ret
          exact ⟨rfl,B12.out⟩
end Go.Proofs.YtmpcnhpdobdmcaaGreatDoor
