import Derived.Shelf.SlIter.Nil
import Derived.Shelf.SlSortCmp.NoneTotal
import Derived.Test.YtmpcnhpdobdmcaaGreatDoorLawRoomsBI
import Derived.Test.YtmpcnhpdobdmcaaGreatDoorLawRoomsU
set_option linter.unusedVariables false
set_option linter.unusedSimpArgs false
set_option maxHeartbeats 2000000
set_option maxRecDepth 100000
namespace Go.Proofs.YtmpcnhpdobdmcaaGreatDoor
open Go Go.RowKit Go.Shelf Go.Proofs Go.Sort Go.Maps
def psortRen : Go.Shelf.Ren := ⟨fun | 6 => 89 | 15 => 84 | 14 => 145 | 28 => 136 | 29 => 137 | 20 => 184 | 21 => 185 | 22 => 186 | 23 => 187 | 24 => 188 | 25 => 189 | 26 => 190 | 27 => 191 | 46 => 226 | 47 => 177 | 48 => 178 | 49 => 227 | 50 => 228 | 57 => 249 | n => n,fun | 22 => 46 | 24 => 33 | 25 => 113 | 3 => 3 | 39 => 149 | 0 => 0 | 53 => 212 | 55 => 214 | 4 => 4 | 46 => 204 | 45 => 203 | 50 => 209 | 5 => 5 | 9 => 9 | 66 => 248 | 70 => 251 | 76 => 285 | 77 => 286 | n => n,fun | n => n⟩
theorem psortLays : Go.Proofs.SlLaysF0.n6 Tryz.prog psortRen := {
 mixed := by kernel_rfl
 f6 := ⟨Tryz.f89.name,by decide,Tryz.func89.trans (congrArg some (by kernel_rfl))⟩
 f14 := ⟨Tryz.f145.name,by decide,Tryz.func145.trans (congrArg some (by kernel_rfl))⟩
 f15 := Tryz.func84.trans (congrArg some (by kernel_rfl))
 f20 := ⟨Tryz.f184.name,by decide,Tryz.func184.trans (congrArg some (by kernel_rfl))⟩
 f21 := ⟨Tryz.f185.name,by decide,Tryz.func185.trans (congrArg some (by kernel_rfl))⟩
 f22 := ⟨Tryz.f186.name,by decide,Tryz.func186.trans (congrArg some (by kernel_rfl))⟩
 f23 := ⟨Tryz.f187.name,by decide,Tryz.func187.trans (congrArg some (by kernel_rfl))⟩
 f24 := ⟨Tryz.f188.name,by decide,Tryz.func188.trans (congrArg some (by kernel_rfl))⟩
 f25 := ⟨Tryz.f189.name,by decide,Tryz.func189.trans (congrArg some (by kernel_rfl))⟩
 f26 := ⟨Tryz.f190.name,by decide,Tryz.func190.trans (congrArg some (by kernel_rfl))⟩
 f27 := ⟨Tryz.f191.name,by decide,Tryz.func191.trans (congrArg some (by kernel_rfl))⟩
 f28 := Tryz.func136.trans (congrArg some (by kernel_rfl))
 f29 := Tryz.func137.trans (congrArg some (by kernel_rfl))
 f46 := ⟨Tryz.f226.name,by decide,Tryz.func226.trans (congrArg some (by kernel_rfl))⟩
 f47 := Tryz.func177.trans (congrArg some (by kernel_rfl))
 f48 := Tryz.func178.trans (congrArg some (by kernel_rfl))
 f49 := ⟨Tryz.f227.name,by decide,Tryz.func227.trans (congrArg some (by kernel_rfl))⟩
 f50 := ⟨Tryz.f228.name,by decide,Tryz.func228.trans (congrArg some (by kernel_rfl))⟩
 f57 := ⟨Tryz.f249.name,by decide,Tryz.func249.trans (congrArg some (by kernel_rfl))⟩
 t0 := Tryz.underlying0
 a0 := Tryz.isAgg0
 z0 := Tryz.sizeOf0
 v0 := Tryz.zeroValue0
 t3 := Tryz.underlying3
 a3 := Tryz.isAgg3
 z3 := Tryz.sizeOf3
 v3 := Tryz.zeroValue3
 t4 := Tryz.underlying4
 a4 := Tryz.isAgg4
 z4 := Tryz.sizeOf4
 v4 := Tryz.zeroValue4
 t5 := Tryz.underlying5
 a5 := Tryz.isAgg5
 z5 := Tryz.sizeOf5
 v5 := Tryz.zeroValue5
 t9 := Tryz.underlying9
 a9 := Tryz.isAgg9
 z9 := Tryz.sizeOf9
 v9 := Tryz.zeroValue9
 t22 := Tryz.underlying46
 a22 := Tryz.isAgg46
 z22 := Tryz.sizeOf46
 v22 := Tryz.zeroValue46
 t25 := Tryz.underlying113
 a25 := Tryz.isAgg113
 z25 := Tryz.sizeOf113
 v25 := Tryz.zeroValue113
 t39 := Tryz.underlying149
 a39 := Tryz.isAgg149
 z39 := Tryz.sizeOf149
 v39 := Tryz.zeroValue149
 t45 := Tryz.underlying203
 a45 := Tryz.isAgg203
 z45 := Tryz.sizeOf203
 v45 := Tryz.zeroValue203
 t46 := Tryz.underlying204
 a46 := Tryz.isAgg204
 z46 := Tryz.sizeOf204
 v46 := Tryz.zeroValue204
 t50 := Tryz.underlying209
 a50 := Tryz.isAgg209
 z50 := Tryz.sizeOf209
 v50 := Tryz.zeroValue209
 t53 := Tryz.underlying212
 a53 := Tryz.isAgg212
 z53 := Tryz.sizeOf212
 v53 := Tryz.zeroValue212
 t55 := Tryz.underlying214
 a55 := Tryz.isAgg214
 z55 := Tryz.sizeOf214
 v55 := Tryz.zeroValue214
 t66 := Tryz.underlying248
 a66 := Tryz.isAgg248
 z66 := Tryz.sizeOf248
 v66 := Tryz.zeroValue248
 t70 := Tryz.underlying251
 a70 := Tryz.isAgg251
 z70 := Tryz.sizeOf251
 v70 := Tryz.zeroValue251
 t76 := Tryz.underlying285
 a76 := Tryz.isAgg285
 z76 := Tryz.sizeOf285
 v76 := Tryz.zeroValue285
 t77 := Tryz.underlying286
 a77 := Tryz.isAgg286
 z77 := Tryz.sizeOf286
 v77 := Tryz.zeroValue286 }
def hcs (c : HdP) : List Value := [.string c.1,.int .i64 c.2.1,.slice c.2.2.1 c.2.2.2.1 c.2.2.2.2]
def hRow (l : List HdP) : List Value := l.flatMap hcs
theorem hRow_pas (l : List PA) : hRow (l.map PA.hd) = pRow l := by
 unfold hRow pRow
 rw [List.flatMap_map]
 rfl
theorem vals1_in (n : Nat) (hn : 1 <= n) (l Bm b nn : Nat) (X : List PA) (J : List HdP -> World -> Prop)
    (hY : ∀ pre x W,J pre W -> pre.length < X.length -> YieldAt Fence.wide (n - 1) Tryz.prog l #[hdV x] W fun e W' => e = .returned (.bool true) /\ J (pre ++ [x]) W' /\ KeepsWalks W W')
    (W : World) (hX : RiseK PA.k X) (hJ : AbidesFrom W.heap.size J) (hm : W.cell? ⟨Bm,0,none⟩ = some (.map (some b))) (hown : W.ownsMap Tryz.prog 9 elemP b nn (mapK PA.k PA.hd X)) (h0 : J [] W) :
    CallsIn Fence.wide n Tryz.prog 90 #[.func (.yield l) #[] #[],.pointer (some ⟨Bm,0,none⟩)] W fun e W' => (∃ v,e = .returned v) /\ ∃ ss : List PA,ss.Perm X /\ J (ss.map PA.hd) W' := by
 refine callsIn_of_wp Tryz.func90 rfl trivial ?_ rfl
 simp only [Tryz.ntmps90,List.size_toArray,List.length_cons,List.length_nil,Nat.reduceAdd,Nat.reduceSub,Array.replicate_succ,Array.replicate_zero,List.push_toArray,List.append_toArray,List.nil_append,List.cons_append]
 gi_wp2_with (first
  | (gi_at_range; refine wpListIn_range_own _ rfl _ 111 rfl 9 33 keyS Tryz.underlying111 _ b nn _ rfl hown ?_; intro w0 hrg0 hg0 hs0)
  | gi_in)
 go_frame
 gi_loopw [4] (fun _ wr => ∃ (left : Lit -> Bool) (cnt : Nat) (ss : List PA),wr.ranges Tryz.prog 9 elemP b W.heap.size nn (mapK PA.k PA.hd X) left cnt /\ ss.length + cnt <= X.length /\ MetK PA.k X left ss /\ J (ss.map PA.hd) wr)
  (fun _ wr => wr.rangeLeft b W.heap.size)
 case atStart =>
  exact ⟨_,_,[],hrg0,by rw [size_mapK]; simp,MetK.start hX,hJ [] W w0 none h0 hg0 (fun r e => by cases e)⟩
 case round =>
  obtain ⟨left,cnt,ss,hrg,hcs,hC,hJs⟩ := hrel
  gi_wp2_with (first
   | (gi_at_next; refine wpListIn_next_ranges _ rfl _ rfl 9 keyS elemP Value.string (fun c : HdP => .agg #[.string c.1,.int .i64 c.2.1,.slice c.2.2.1 c.2.2.2.1 c.2.2.2.2]) (fun key kl hk => by obtain ⟨x,rfl⟩ := Maps.keyOf_string_inv Tryz.underlying9 hk; exact ⟨x,rfl⟩) (fun v y hv => by obtain ⟨g,rfl,_⟩ := elemP_inv hv; exact ⟨g,rfl⟩) b W.heap.size nn _ _ _ rfl hrg ?_ ?_)
   | gi_in)
  ·intro hc0 hl0
   gi_wp2
   go_end0
   exact ⟨⟨_,rfl⟩,ss,hC.perm hX hl0,hJs⟩
  ·intro x5 k5 g5 A5 n5 c5 kl5 yd5 yp5 w6 cnt6 hkey5 hlk5 hv5 hat5 hrg6 hltc5 hg6 hs6 hen5
   obtain ⟨q,hq,rfl,hqh,rfl⟩ := inn_met (c := (k5,g5,A5,n5,c5)) hkey5 hv5 hat5
   unfold PA.hd at hqh
   simp only [Prod.mk.injEq] at hqh
   obtain ⟨rfl,rfl,rfl,rfl,rfl⟩ := hqh
   have hJ2 : J (ss.map PA.hd) w6 := hJ _ wr w6 (some W.heap.size) hJs hg6 (fun r e => by cases e; exact ⟨Nat.le_refl _,hrg.iter_walk⟩)
   have hJ3 : J (ss.map PA.hd) (w6.alloc (.cells #[.string q.k,.int .i64 q.g,.slice q.A q.L.length q.c] 33)) := hJ _ w6 _ none hJ2 (World.grownBy_alloc _ _ _) (fun r e => by cases e)
   have hrg7 := hrg6.alloc (.cells #[.string q.k,.int .i64 q.g,.slice q.A q.L.length q.c] 33)
   have hyy := hY _ q.hd _ hJ3 (by rw [List.length_map]; omega)
   change YieldAt Fence.wide (n - 1) Tryz.prog l #[.agg #[.string q.k,.int .i64 q.g,.slice q.A q.L.length q.c]] _ _ at hyy
   obtain ⟨fn,tmps,assign,body,hy,hR⟩ := hyy
   clear hs6 hv5 hat5 hkey5
   gi_wp2
   refine hR.mono ?_
   rintro e W3 ⟨rfl,hJ3,hk3⟩
   gi_wp2
   have hrg8 := hrg7.of_walks hk3
   go_roundw
   case rel => exact ⟨_,cnt6,ss ++ [q],hrg8,by simp; omega,hC.step hX hq hlk5,by rw [List.map_append]; exact hJ3⟩
   case measure => rw [hrg8.left_eq,hrg.left_eq]; exact hltc5
theorem vals_gives (n : Nat) (hn : 1 <= n) (Bm b nn : Nat) (X : List PA) (w : World) (hX : RiseK PA.k X) (hBm : Bm < w.heap.size)
    (hm : w.cell? ⟨Bm,0,none⟩ = some (.map (some b))) (hown : w.ownsMap Tryz.prog 9 elemP b nn (mapK PA.k PA.hd X)) :
    SeqGives Fence.wide n Tryz.prog 90 #[.pointer (some ⟨Bm,0,none⟩)] hdV (fun cs => ∃ ss : List PA,ss.Perm X /\ cs = ss.map PA.hd) X.length w := fun l J W hW hJ hY h0 => by
 have hown' : W.ownsMap Tryz.prog 9 elemP b nn (mapK PA.k PA.hd X) := map_kept hown (hW.block b hown.lt)
 refine (vals1_in n hn l Bm b nn X J hY W hX hJ ((hW.cell (p := ⟨Bm,0,none⟩) hBm).trans hm) hown' h0).mono ?_
 rintro e W' ⟨h1,ss,h2,h3⟩
 exact ⟨h1,ss.map PA.hd,⟨ss,h2,rfl⟩,h3⟩
def papAssign : Code := (Code.region 2 #[{ dst := some 5, op := Op.alloc 33, type := 0, pos := "iter.go:51", after := #[], guard := none }, { dst := none, op := Op.store 33 (Operand.tmp 5) (Operand.tmp 7), type := 0, pos := "iter.go:51", after := #[{ on := 0, ground := Ground.data }, { on := 0, ground := Ground.phase }], guard := none }] false)
def papBody : Code := (Code.block 1 (Code.region 3 #[{ dst := some 8, op := Op.load 46 (Operand.tmp 2), type := 46, pos := "iter.go:52", after := #[], guard := none }, { dst := some 9, op := Op.load 33 (Operand.tmp 5), type := 33, pos := "iter.go:52", after := #[], guard := none }, { dst := some 10, op := Op.buildSlice 46 1 #[(0, Operand.tmp 9)], type := 46, pos := "iter.go:52", after := #[{ on := 1, ground := Ground.data }], guard := none }, { dst := some 11, op := Op.call { callee := Callee.builtin Builtin.append, args := #[Operand.tmp 8, Operand.tmp 10], argTypes := #[46, 46] }, type := 46, pos := "iter.go:52", after := #[{ on := 0, ground := Ground.data }, { on := 2, ground := Ground.data }], guard := none }, { dst := none, op := Op.store 46 (Operand.tmp 2) (Operand.tmp 11), type := 0, pos := "iter.go:52", after := #[{ on := 3, ground := Ground.data }, { on := 3, ground := Ground.chain }, { on := 0, ground := Ground.phase }, { on := 1, ground := Ground.phase }, { on := 2, ground := Ground.phase }, { on := 3, ground := Ground.phase }], guard := none }] false))
def papRec (fn : FuncId) (sv : Value) (Bs D : Nat) (st : LoopState) (pend : Option Code) : Loop :=
 { state := st,pending := pend,fn,tmps := #[.slice none 0 0,sv,.pointer (some ⟨Bs,0,none⟩),undef,.slice none 0 0,undef,sv,undef,undef,undef,undef,undef,undef],params := #[7],assign := papAssign,body := papBody,defers := D }
structure PApAt (w0 : World) (fn : FuncId) (sv : Value) (Bs l D : Nat) (ss : List HdP) (W : World) : Prop where
 box : ∃ v,W.heap[Bs]? = some (.cells #[v] 46 (0,0)) /\ W.ownsRow w0.heap.size 33 3 v ss.length (hRow ss) /\ (v = .slice none 0 0 ↔ ss = [])
 L : W.heap[l]? = some (.loop (papRec fn sv Bs D .ready none))
 K : W.heap[D]? = some (.deferred (some []))
 below : Below w0.heap.size w0 W
theorem pap_abides (w0 : World) (fn : FuncId) (sv : Value) (Bs l D B : Nat) (hB : w0.heap.size <= B) : AbidesFrom B (PApAt w0 fn sv Bs l D) := fun s W W' row h hg hrow => by
 have hrow' : ∀ r,row = some r -> ∃ o : Obj,W.heap[r]? = some o /\ o.isWalk = true := fun r e => (hrow r e).2
 obtain ⟨v,hv,hr,hn⟩ := h.box
 exact ⟨⟨v,(grownBy_keeps hg hrow' hv rfl).trans hv,ownsRow_abides_a hr hg hrow',hn⟩,(grownBy_keeps hg hrow' h.L rfl).trans h.L,(grownBy_keeps hg hrow' h.K rfl).trans h.K,
  h.below.grown hg h.below.size (fun k e => Nat.le_trans hB (hrow k e).1)⟩
theorem cells3_new (w : World) (a b c : Value) (t : TypeId) : ∀ j u,[a,b,c][j]? = some u -> (w.alloc (.cells #[a,b,c] t)).cell? ((⟨w.heap.size,0,none⟩ : Addr).add j) = some u := by
 intro j u hu
 have h := heap_alloc_new w (.cells #[a,b,c] t)
 match j with
 | 0 => have := cell_at (i := 0) h rfl; simp at hu; subst hu; exact this
 | 1 => have := cell_at (i := 1) h rfl; simp at hu; subst hu; exact this
 | 2 => have := cell_at (i := 2) h rfl; simp at hu; subst hu; exact this
 | j + 3 => simp at hu
theorem papYield (m : Nat) (w0 : World) (fn : FuncId) (sv : Value) (Bs l D : Nat) (hBl : Bs ≠ l) (hDl : D ≠ l) (hDB : D ≠ Bs) (h0B : w0.heap.size <= Bs) (h0l : w0.heap.size <= l)
    (N : Nat) (hN : N <= 1000000) (ss : List HdP) (x : HdP) (W : World) (h : PApAt w0 fn sv Bs l D ss W) (hlen : ss.length < N) :
    YieldAt Fence.wide m Tryz.prog l #[hdV x] W fun e W' => e = .returned (.bool true) /\ PApAt w0 fn sv Bs l D (ss ++ [x]) W' /\ KeepsWalks W W' := by
 obtain ⟨i0,hi,hz0,hz1,hz2⟩ := info_parts infoP
 obtain ⟨v,hv,hrow,_⟩ := h.box
 obtain ⟨xk,xg,xA,xn,xc⟩ := x
 refine ⟨fn,#[.slice none 0 0,sv,.pointer (some ⟨Bs,0,none⟩),undef,.slice none 0 0,undef,sv,hdV (xk,xg,xA,xn,xc),undef,undef,undef,undef,undef],papAssign,papBody,by simpa [papRec] using run_yield (P := Tryz.prog) (args := #[hdV (xk,xg,xA,xn,xc)]) h.L rfl,roundIn_of_wpIn (F := Fence.wide) trivial ?_⟩
 have hl : l < W.heap.size := (Array.getElem?_eq_some_iff.1 h.L).1
 have hBlt0 : Bs < W.heap.size := (Array.getElem?_eq_some_iff.1 hv).1
 have hDlt0 : D < W.heap.size := (Array.getElem?_eq_some_iff.1 h.K).1
 -- the box of what comes
 have nb := heap_alloc_new W (.cells #[.string xk,.int .i64 xg,.slice xA xn xc] 33)
 obtain ⟨W1,hW1⟩ : ∃ W1,W.alloc (.cells #[.string xk,.int .i64 xg,.slice xA xn xc] 33) = W1 := ⟨_,rfl⟩
 rw [hW1] at nb
 have hs1 : W1.heap.size = W.heap.size + 1 := by rw [<- hW1]; simp
 have hL1 : W1.heap[l]? = some (.loop (papRec fn sv Bs D .ready none)) := by rw [<- hW1]; exact (Below.heap_alloc _ _ l hl).trans h.L
 have hv1 : W1.heap[Bs]? = some (.cells #[v] 46 (0,0)) := by rw [<- hW1]; exact (Below.heap_alloc _ _ Bs hBlt0).trans hv
 have hK1 : W1.heap[D]? = some (.deferred (some [])) := by rw [<- hW1]; exact (Below.heap_alloc _ _ D hDlt0).trans h.K
 have hrow1 : W1.ownsRow w0.heap.size 33 3 v ss.length (hRow ss) := by rw [<- hW1]; exact hrow.alloc _
 have hb1 : Below w0.heap.size w0 W1 := by rw [<- hW1]; exact h.below.alloc h.below.size _
 have hk1 : KeepsWalks W W1 := by rw [<- hW1]; exact KeepsWalks.alloc _ _
 have hbr := run_beginRound (P := Tryz.prog) hL1 rfl
 obtain ⟨W2,hW2⟩ : ∃ W2,W1.putObj l (.loop { papRec fn sv Bs D .ready none with state := .busy }) = W2 := ⟨_,rfl⟩
 rw [hW2] at hbr
 have hg2 : W1.grownBy W2 (some l) := by rw [<- hW2]; exact grownBy_putObj_a _ _ _
 have hk2 : KeepsWalks W W2 := hk1.trans (by rw [<- hW2]; exact KeepsWalks.putObj _ hL1 rfl)
 have hv2 : W2.heap[Bs]? = some (.cells #[v] 46 (0,0)) := by rw [<- hW2]; exact (World.putObj_heap_other hBl).trans hv1
 have hK2 : W2.heap[D]? = some (.deferred (some [])) := by rw [<- hW2]; exact (World.putObj_heap_other hDl).trans hK1
 have hL2 : W2.heap[l]? = some (.loop { papRec fn sv Bs D .ready none with state := .busy }) := by rw [<- hW2]; exact World.putObj_heap_same (by omega)
 have nb2 : W2.heap[W.heap.size]? = some (.cells #[.string xk,.int .i64 xg,.slice xA xn xc] 33 (0,0)) := by rw [<- hW2]; exact (World.putObj_heap_other (by omega)).trans nb
 have hrow2 : W2.ownsRow w0.heap.size 33 3 v ss.length (hRow ss) := hrow1.kept hg2 (ownsRow_ne_a hrow1 hL1 (fun cur e => by cases e))
 have hb2 : Below w0.heap.size w0 W2 := hb1.grown hg2 hb1.size (fun k e => by cases e; exact h0l)
 obtain ⟨hc2,hf2⟩ := cell_of_box_a hv2
 have e0 := cell_at (i := 0) nb2 rfl
 have e1 := cell_at (i := 1) nb2 rfl
 have e2 := cell_at (i := 2) nb2 rfl
 have hBlt : Bs < W2.heap.size := (Array.getElem?_eq_some_iff.1 hv2).1
 have hl2 : l < W2.heap.size := (Array.getElem?_eq_some_iff.1 hL2).1
 have hDlt : D < W2.heap.size := (Array.getElem?_eq_some_iff.1 hK2).1
 have ne_of : ∀ {j : Nat} {o : Obj},W2.heap[j]? = some o -> (∀ cur,o ≠ .cells cur 33 (0,0)) -> some j ≠ v.ownBlock := fun hj hno => by
  rcases ownsRow_ne_a hrow2 hj hno with e | e
  ·rw [e]; simp
  ·exact fun e' => e e'.symm
 unfold papAssign hdV
 gi_wp2_with gi_round_op_a
 clear hW1 hW2
 unfold papBody
 gi_wp2_with (first
  | (gi_at_builtin; refine wpListIn_append_own _ rfl _ _ 46 rfl w0.heap.size 33 i0 (.agg #[.string ⟨#[]⟩,.int .i64 0,.slice none 0 0]) 3 48 Tryz.underlying46 hi hz0 hz1 hz2 rfl (by decide) _ _ _ rfl (hrow2.alloc _) ⟨W2.heap.size,0,none⟩ 1 1 (hcs (xk,xg,xA,xn,xc)) rfl rfl (cells3_new _ _ _ _ _) (by simp [Value.oneCell',hcs]) (by unfold maxLen; omega) (by omega) (by have := hb2.size; simp; omega) ?_; intro v' w3 hown' hg3 hnil3
     have hv3 : w3.heap[Bs]? = some (.cells #[v] 46 (0,0)) := (hg3.block Bs (by simp; omega) (ne_of hv2 (fun cur e => by injection e with _ e2; exact absurd e2 (by decide)))).trans ((Below.heap_alloc _ _ Bs hBlt).trans hv2)
     obtain ⟨hc3,hf3⟩ := cell_of_box_a hv3
     obtain ⟨g',cap',cur',rfl,hbase',hgb',hr1,hr2,hr3,hr4⟩ : ∃ g' cap' cur',v' = .slice (some ⟨g',0,none⟩) (ss.length + 1) cap' /\ w0.heap.size <= g' /\ w3.heap[g']? = some (.cells cur' 33 (0,0)) /\ ss.length + 1 <= cap' /\ cap' <= maxLen /\ cur'.size = cap' * 3 /\ cur'.toList.take ((ss.length + 1) * 3) = hRow ss ++ hcs (xk,xg,xA,xn,xc) := by
      rcases hown'.2 with ⟨_,h0⟩ | h'
      ·exact absurd h0 (by omega)
      ·exact h'
     go_frame)
  | gi_round_op_a)
 have hg3' : (W2.alloc (.cells #[.string xk,.int .i64 xg,.slice xA xn xc] 33)).grownBy w3 v.ownBlock := hg3
 have hno : ∀ {t : TypeId} {u : Value},t ≠ 33 -> ∀ cur,(Obj.cells #[u] t (0,0)) ≠ .cells cur 33 (0,0) := fun ht cur e => by injection e with _ e2; exact ht e2
 have hL3 : w3.heap[l]? = some (.loop { papRec fn sv Bs D .ready none with state := .busy }) := (hg3'.block l (by simp; omega) (ne_of hL2 (fun cur e => by cases e))).trans ((Below.heap_alloc _ _ l hl2).trans hL2)
 have hK3 : w3.heap[D]? = some (.deferred (some [])) := (hg3'.block D (by simp; omega) (ne_of hK2 (fun cur e => by cases e))).trans ((Below.heap_alloc _ _ D hDlt).trans hK2)
 obtain ⟨w4,hw4⟩ : ∃ w4,w3.setCell ⟨Bs,0,none⟩ (.slice (some ⟨g',0,none⟩) (ss.length + 1) cap') = w4 := ⟨_,rfl⟩
 rw [hw4]
 have hg4 : w3.grownBy w4 (some Bs) := by rw [<- hw4]; exact grownBy_setCell0_a _ _ _
 have hv4 : w4.heap[Bs]? = some (.cells #[.slice (some ⟨g',0,none⟩) (ss.length + 1) cap'] 46 (0,0)) := by rw [<- hw4]; exact heap_setCell_box_a _ hv3
 have hL4 : w4.heap[l]? = some (.loop { papRec fn sv Bs D .ready none with state := .busy }) := (hg4.block l (Array.getElem?_eq_some_iff.1 hL3).1 (fun e => hBl (by cases e; rfl))).trans hL3
 have hK4 : w4.heap[D]? = some (.deferred (some [])) := (hg4.block D (Array.getElem?_eq_some_iff.1 hK3).1 (fun e => hDB (by cases e; rfl))).trans hK3
 have hrow4 := hown'.kept hg4 (ownsRow_ne_a hown' hv3 (hno (by decide)))
 have hl4 : l < w4.heap.size := (Array.getElem?_eq_some_iff.1 hL4).1
 have hb3 : Below w0.heap.size w0 w3 := (hb2.alloc hb2.size _).grown hg3' (by have := hb2.size; simp; omega) (fun k e => (hrow2.lt k e).1)
 have hb4 : Below w0.heap.size w0 w4 := hb3.grown hg4 hb3.size (fun k e => by cases e; exact h0B)
 have hk4 : KeepsWalks W w4 := ((hk2.trans (KeepsWalks.alloc _ _)).trans (KeepsWalks.of_grownBy hg3' (ownsRow_not_walk_a (hrow2.alloc _)))).trans (by rw [<- hw4]; exact KeepsWalks.setCell _ _ _)
 clear hw4
 have hR : hRow (ss ++ [(xk,xg,xA,xn,xc)]) = hRow ss ++ hcs (xk,xg,xA,xn,xc) := by unfold hRow; rw [List.flatMap_append]; simp
 refine ⟨_,_,run_endRound none hL4,rfl,⟨⟨_,(World.putObj_heap_other hBl).trans hv4,?_,by simp⟩,World.putObj_heap_same hl4,(World.putObj_heap_other hDl).trans hK4,hb4.grown (grownBy_putObj_a _ _ _) hb4.size (fun k e => by cases e; exact h0l)⟩,hk4.trans (KeepsWalks.putObj _ hL4 rfl)⟩
 have := hrow4.kept (grownBy_putObj_a w4 l (.loop { { papRec fn sv Bs D .ready none with state := .busy } with state := if (none : Option Code).isNone then .ready else .done,pending := none })) (ownsRow_ne_a hrow4 hL4 (fun cur e => by cases e))
 rw [hR,List.length_append]
 exact this
theorem pappendSeq_in (n : Nat) (hn : 2 <= n) (g : Nat) (lb : Array Value) (eg : ∀ args w,(callFunc g args).run Tryz.prog w = .ok (.enter g args) w)
    (S : List HdP -> Prop) (N : Nat) (hN : N <= 1000000) (w : World) (hseq : SeqGives Fence.wide (n - 1) Tryz.prog g lb hdV S N w) :
    CallsIn Fence.wide n Tryz.prog 144 #[.slice none 0 0,.func (.func g) #[] lb] w fun e w' => ∃ (v : Value) (ss : List HdP),e = .returned v /\ S ss /\ w'.ownsRow w.heap.size 33 3 v ss.length (hRow ss) /\ (v = .slice none 0 0 ↔ ss = []) /\ Below w.heap.size w w' := by
 have h1 : 1 <= n := by omega
 have hno : ∀ {t : TypeId} {u : Value},t ≠ 33 -> ∀ cur,(Obj.cells #[u] t (0,0)) ≠ .cells cur 33 (0,0) := fun ht cur e => by injection e with _ e2; exact ht e2
 refine callsIn_of_wp_marks Tryz.func144 rfl trivial ?_ rfl
 simp only [Tryz.ntmps144,List.size_toArray,List.length_cons,List.length_nil,Nat.reduceAdd,Nat.reduceSub,Array.replicate_succ,Array.replicate_zero,List.push_toArray,List.append_toArray,List.nil_append,List.cons_append]
 gi_wp2
 refine wpIn_rangeFunc ?_
 intro fn hfn
 obtain ⟨W0,hW0⟩ : ∃ W0,w.alloc (.cells #[.slice none 0 0] 46) = W0 := ⟨_,rfl⟩
 have hs0 : W0.heap.size = w.heap.size + 1 := by rw [<- hW0]; simp
 have hv0 : W0.heap[w.heap.size]? = some (.cells #[.slice none 0 0] 46 (0,0)) := by rw [<- hW0]; exact World.alloc_heap_new w _
 have hb0 : Below w.heap.size w W0 := by rw [<- hW0]; exact (Below.refl _ w).alloc (Nat.le_refl _) _
 rw [hW0]
 obtain ⟨W1,hW1⟩ : ∃ W1,(W0.alloc (.deferred (some []))).alloc (.loop (papRec fn (.func (.func g) #[] lb) w.heap.size W0.heap.size .ready none)) = W1 := ⟨_,rfl⟩
 have hold : ∀ k,k < W0.heap.size -> W1.heap[k]? = W0.heap[k]? := fun k hk => by
  rw [<- hW1]; exact (Below.heap_alloc _ _ k (by simp; omega)).trans (Below.heap_alloc _ _ k hk)
 have hb1 : Below w.heap.size w W1 := by rw [<- hW1]; exact (hb0.alloc hb0.size _).alloc (by have := hb0.size; simp; omega) _
 have hs1 : W1.heap.size = W0.heap.size + 2 := by rw [<- hW1]; simp
 have hM : PApAt w fn (.func (.func g) #[] lb) w.heap.size (W0.heap.size + 1) W0.heap.size [] W1 :=
  ⟨⟨_,(hold w.heap.size (by omega)).trans hv0,⟨rfl,.inl ⟨rfl,rfl⟩⟩,by simp⟩,
   by rw [<- hW1]; have := World.alloc_heap_new (W0.alloc (.deferred (some []))) (.loop (papRec fn (.func (.func g) #[] lb) w.heap.size W0.heap.size .ready none)); rwa [World.size_alloc] at this,
   by rw [<- hW1]; exact (Below.heap_alloc _ _ _ (by simp)).trans (World.alloc_heap_new W0 _),hb1⟩
 refine ⟨W0.heap.size + 1,[{ target := .collected W0.heap.size,args := #[] }],W1,{ target := .fn (.func g) lb,args := #[.func (.yield (W0.heap.size + 1)) #[] #[]] },W1,g,
  #[.func (.yield (W0.heap.size + 1)) #[] #[]] ++ lb,W1,?_,?_,?_,?_,fun _ => h1,?_⟩
 ·rw [<- hW1]; exact run_enterLoop_outer _ _ _ _ _
 ·simp [resolve,go_sem]
 ·intro f' hf'; trivial
 ·simp [invoke,go_sem,eg]
 ·refine (hseq (W0.heap.size + 1) (PApAt w fn (.func (.func g) #[] lb) w.heap.size (W0.heap.size + 1) W0.heap.size) W1 hb1 (pap_abides _ _ _ _ _ _ _ hb1.size)
   (fun pre x W hJ hl => papYield (n - 1 - 1) w fn _ w.heap.size (W0.heap.size + 1) W0.heap.size (by omega) (by omega) (by omega) (Nat.le_refl _) (by omega) N hN pre x W hJ hl) hM).mono ?_
  rintro e W2 ⟨⟨v0,rfl⟩,ss,hS,h2⟩
  obtain ⟨v,hv,hrow,hnil⟩ := h2.box
  have hend := run_endLoop (P := Tryz.prog) h2.L (by simp [papRec])
  obtain ⟨W3,hW3⟩ : ∃ W3,W2.putObj (W0.heap.size + 1) (.loop { papRec fn (.func (.func g) #[] lb) w.heap.size W0.heap.size .ready none with state := .exhausted }) = W3 := ⟨_,rfl⟩
  rw [hW3] at hend
  have hg3 : W2.grownBy W3 (some (W0.heap.size + 1)) := by rw [<- hW3]; exact grownBy_putObj_a _ _ _
  have hv3 : W3.heap[w.heap.size]? = some (.cells #[v] 46 (0,0)) := by rw [<- hW3]; exact (World.putObj_heap_other (by omega)).trans hv
  have hK3 : W3.heap[W0.heap.size]? = some (.deferred (some [])) := by rw [<- hW3]; exact (World.putObj_heap_other (by omega)).trans h2.K
  have hrow3 := hrow.kept hg3 (ownsRow_ne_a hrow h2.L (fun cur e => by cases e))
  have hb3 : Below w.heap.size w W3 := h2.below.grown hg3 h2.below.size (fun k e => by cases e; omega)
  obtain ⟨hc3,hf3⟩ := cell_of_box_a hv3
  clear hW3
  refine ⟨none,W3,hend,?_⟩
  gi_wp2
  rw [<- hs0]
  refine ⟨by simp,.inl ⟨_,_,rfl,run_takeDeferred hK3,?_⟩⟩
  exact ⟨_,results_tmp rfl _ _ _,v,ss,rfl,hS,hrow3.kept (grownBy_putObj_a _ _ _) (ownsRow_ne_a hrow3 hK3 (fun cur e => by cases e)),hnil,hb3.grown (grownBy_putObj_a _ _ _) hb3.size (fun k e => by cases e; omega)⟩
theorem pcollect_in (n : Nat) (hn : 3 <= n) (g : Nat) (lb : Array Value) (eg : ∀ args w,(callFunc g args).run Tryz.prog w = .ok (.enter g args) w)
    (S : List HdP -> Prop) (N : Nat) (hN : N <= 1000000) (w : World) (hseq : SeqGives Fence.wide (n - 1 - 1) Tryz.prog g lb hdV S N w) :
    CallsIn Fence.wide n Tryz.prog 88 #[.func (.func g) #[] lb] w fun e w' => ∃ (v : Value) (ss : List HdP),e = .returned v /\ S ss /\ w'.ownsRow w.heap.size 33 3 v ss.length (hRow ss) /\ (v = .slice none 0 0 ↔ ss = []) /\ Below w.heap.size w w' := by
 have h1 : 1 <= n := by omega
 have hfS : Fence.wide.fn 144 := trivial
 have cA := pappendSeq_in (n - 1) (by omega) g lb eg S N hN w hseq
 refine callsIn_of_wp Tryz.func88 rfl trivial ?_ rfl
 simp only [Tryz.ntmps88,List.size_toArray,List.length_cons,List.length_nil,Nat.reduceAdd,Nat.reduceSub,Array.replicate_succ,Array.replicate_zero,List.push_toArray,List.append_toArray,List.nil_append,List.cons_append]
 gi_wp2_with (gi_at_call 144; refine cA.mono ?_; rintro e w' ⟨v,ss,rfl,hS,hrow,hnil,hb⟩)
 go_ret
 exact ⟨v,ss,rfl,hS,hrow,hnil,hb⟩
instance : Inhabited PA := ⟨zeroP⟩
def pcmp (x y : PA) : Int := tcmp x.k y.k
theorem ltP (x y : PA) : ltOf pcmp x y = decide (nlt x.k y.k) := by
 have e : tcmp x.k y.k = if nlt x.k y.k then -1 else if nlt y.k x.k then 1 else 0 := by
  unfold tcmp nlt
  simp only [Array.lt_toList]
 unfold ltOf pcmp
 rw [e]
 by_cases h1 : nlt x.k y.k
 ·rw [if_pos h1,decide_eq_true h1]; rfl
 ·rw [if_neg h1,decide_eq_false h1]
  by_cases h2 : nlt y.k x.k
  ·rw [if_pos h2]; rfl
  ·rw [if_neg h2]; rfl
theorem swoP : SWO (ltOf pcmp) where
 irrefl x := by rw [ltP]; simp [nlt_irr]
 trans x y z h1 h2 := by rw [ltP] at *; simp at *; exact nlt_tr h1 h2
 ntrans x y z h1 h2 := by
  rw [ltP] at *
  simp at *
  intro h3
  rcases nlt_or x.k y.k with h | h | h
  ·exact h1 h
  ·rw [h] at h3; exact h2 h3
  ·exact h2 (nlt_tr h h3)
theorem cmp_part (x y : PA) (W : World) :
    Calls Tryz.prog 56 #[.agg #[.string x.k,.int .i64 x.g,.slice x.A x.L.length x.c],.agg #[.string y.k,.int .i64 y.g,.slice y.A y.L.length y.c]] W fun e w' => e = .returned (.int .i64 (pcmp x y)) /\ ∃ q os',w' = grow (W.drewN q) os' := by
 have hcon := fun W' => strcmp_any x.k y.k W'
 unfold pcmp
 generalize tcmp x.k y.k = r at hcon ⊢
 go_enter Tryz.func56,Tryz.ntmps56
 go_wp2_with (go_at_call 57; refine (hcon _).mono ?_; rintro e w' ⟨rfl,rfl⟩)
 go_ret
 exact ⟨rfl,0,_,by rw [alloc_eq_grow,alloc_eq_grow,grow_grow]; rfl⟩
theorem cmpLaysP (blk off size : Nat) (w : World) : CmpLays Tryz.prog 56 #[] pcs 3 pcmp blk off size w :=
 fun _ _ _ _ x y => cmp_part x y _
theorem flatP (l : List PA) : flatK pcs 3 l.toArray = (pRow l).toArray := by
 refine ext_get! (by simp [pRow_length]) fun t ht => ?_
 have ht' : t < l.length * 3 := by simpa using ht
 rw [get_flatK _ _ _ t (by simpa using ht')]
 obtain ⟨j,hj⟩ : ∃ j,t / 3 = j := ⟨_,rfl⟩
 obtain ⟨i,hi⟩ : ∃ i,t % 3 = i := ⟨_,rfl⟩
 have hi3 : i < 3 := by omega
 have hjl : j < l.length := by omega
 have e1 : (l.toArray[j]! : PA) = l[j] := by simp [hjl]
 rw [hj,hi,e1]
 obtain rfl : t = j * 3 + i := by omega
 have h0 := pRow_at l j i hjl hi3
 rw [Array.getElem!_eq_getD,Array.getD_eq_getD_getElem?,List.getElem?_toArray,h0]
 match i,hi3 with
 | 0,_ => rfl
 | 1,_ => rfl
 | 2,_ => rfl
theorem sortedP_is {S ss : List PA} (hu : RiseK PA.k S) (hp : ss.Perm S) {d' : Array PA} (h1 : PermIn 0 ss.toArray.size ss.toArray d') (h2 : SortedIn (ltOf pcmp) 0 ss.toArray.size d') : d' = S.toArray := by
 obtain ⟨hsz,_,hperm⟩ := h1
 have e1 : d'.extract 0 ss.toArray.size = d' := by rw [<- hsz]; exact Array.extract_size
 rw [e1,Array.extract_size] at hperm
 have hP : d'.toList.Perm S := hperm.trans (by simpa using hp)
 have hl : d'.toList = S := by
  refine List.Perm.eq_of_pairwise (le := fun x y : PA => ¬ nlt y.k x.k) (fun a b ha hb h1 h2 => ?_) ?_ ?_ hP
  ·rcases nlt_or a.k b.k with h | h | h
   ·exact absurd h h2
   ·exact riseK_inj hu (hP.mem_iff.1 ha) hb h
   ·exact absurd h h1
  ·rw [List.pairwise_iff_getElem]
   intro i j hi hj hij
   have hi' : i < d'.size := by simpa using hi
   have hj' : j < d'.size := by simpa using hj
   have h3 := h2 i j (Nat.zero_le _) hij (by rw [<- hsz]; exact hj')
   rw [ltP] at h3
   simp [hi',hj'] at h3
   simpa using h3
  ·clear hp hP h2 hperm
   induction S with
   | nil => exact List.Pairwise.nil
   | cons x l ih => exact List.pairwise_cons.2 ⟨fun y hy h => nlt_irr _ (nlt_tr h (hu.1 y hy)),ih hu.2⟩
 rw [<- hl]
theorem sortp_any (base g cap : Nat) (S ss : List PA) (w : World) (hu : RiseK PA.k S) (hp : ss.Perm S) (h : w.ownsRow base 33 3 (.slice (some ⟨g,0,none⟩) ss.length cap) ss.length (pRow ss)) (hs : ss.length <= 1000000) :
    Calls Tryz.prog 89 #[.slice (some ⟨g,0,none⟩) ss.length cap,.func (.func 56) #[] #[]] w fun e w' =>
     e = .returned (.tuple #[]) /\ w'.ownsRow base 33 3 (.slice (some ⟨g,0,none⟩) ss.length cap) ss.length (pRow S) /\ w.grownBy w' (some g) := by
 have hsz : ss.length = S.length := hp.length_eq
 have hx := h.1
 rcases h.2 with ⟨e,_⟩ | ⟨g',cap',cur,e,hbase,hb,hn,hc,hz,ht⟩
 ·cases e
 ·injection e with e1 e2 e3
  injection e1 with e1
  injection e1 with e1
  subst e1
  subst e3
  have hlt : g < w.heap.size := (Array.getElem?_eq_some_iff.1 hb).1
  have eg : ∀ args w,(callFunc 56 args).run Tryz.prog w = .ok (.enter 56 args) w := enters_of Tryz.func56 (by kernel_rfl) rfl
  have ht2 : cur.toList.take (pRow ss).length = pRow ss := by rw [pRow_length]; exact ht
  have hH : HoldsK pcs 3 w g 0 ss.toArray := by
   unfold HoldsK
   rw [flatP]
   exact holds_of_blockV hb ht2
  have hcon := AnyQ.slices_SortFunc psortLays 3 Tryz.isAgg33 Tryz.sizeOf33 pcs (fun _ => rfl) (fun x v hv => by simp [pcs] at hv; rcases hv with rfl | rfl | rfl <;> rfl) pcmp swoP 56 #[] g 0 cap ss.toArray w eg (cmpLaysP g 0 ss.toArray.size w) hH hlt (by simp; omega)
  change Calls Tryz.prog 89 _ _ _ at hcon
  have e5 : ss.toArray.size = ss.length := by simp
  rw [e5] at hcon
  refine hcon.mono ?_
  rintro e w' ⟨rfl,d',n,os,hP,hS,rfl⟩
  have hd : d' = S.toArray := sortedP_is hu hp (by rw [e5]; exact hP) (by rw [e5]; exact hS)
  subst hd
  unfold sortWorldK putRowK
  rw [flatP]
  have hrl : (pRow S).length = ss.length * 3 := by rw [pRow_length,hsz]
  refine ⟨rfl,⟨hrl,Or.inr ⟨g,cap,_,rfl,hbase,heap_sortedV _ hb,hn,hc,by simp [putCells,hz],?_⟩⟩,grownBy_sortedV _⟩
  rw [<- hrl]
  exact take_putCellsV cur (pRow S) (by rw [hrl,hz]; omega)
theorem sortp_none (p : Option Addr) (cap : Nat) (fv : Value) (w : World) :
    Calls Tryz.prog 89 #[.slice p 0 cap,fv] w fun e w' => e = .returned (.tuple #[]) /\ w = w' :=
 (AnyF.slices_SortFunc_none psortLays p cap fv w).mono fun e w' ⟨h,h'⟩ => ⟨h,h'.symm⟩
end Go.Proofs.YtmpcnhpdobdmcaaGreatDoor
