import Derived.Test.YtmpcnhpdobdmcaaGreatDoorLawNotesI
import Derived.Test.YtmpcnhpdobdmcaaGreatDoorLawNotesA
import Derived.Lib.Bytealg
import Derived.Test.YtmpcnhpdobdmcaaGreatDoorLawNotesB
import Derived.Test.YtmpcnhpdobdmcaaGreatDoorLawNotesL
open Go.Lib (hid)
open List renaming getElem_toArray -> zq1,getElem_cons_succ -> zq2,getElem_cons_zero -> zq3,setIfInBounds_toArray -> zq4,set_cons_zero -> zq5,set_cons_succ -> zq6
set_option linter.unusedVariables false
set_option linter.unusedSimpArgs false
set_option maxHeartbeats 4000000
set_option maxRecDepth 8000
namespace Go.Proofs.YtmpcnhpdobdmcaaGreatDoor
open Go Go.RowKit
def CeAt (w : World) (q : Nat) (s : ByteArray) (d : Bool) (a e : Int) : Prop := w.cell? ⟨q,0,none⟩ = some (.string s) /\ w.cell? ⟨q,1,none⟩ = some (.bool d) /\ w.cell? ⟨q,2,none⟩ = some (.int .i64 a) /\ w.cell? ⟨q,3,none⟩ = some (.int .i64 e)
theorem CeAt.new (w : World) (s : ByteArray) (d : Bool) (a e : Int) : CeAt (w.alloc (.cells #[.string s,.bool d,.int .i64 a,.int .i64 e] 42)) w.heap.size s d a e := by
 unfold CeAt
 simp
theorem CeAt.below {w w' : World} {q : Nat} {s : ByteArray} {d : Bool} {a e : Int} {B : Nat} (h : CeAt w q s d a e) (hb : Below B w w') (hq : q < B) : CeAt w' q s d a e :=
 ⟨(hb.cell (p := ⟨q,0,none⟩) hq).trans h.1,(hb.cell (p := ⟨q,1,none⟩) hq).trans h.2.1,(hb.cell (p := ⟨q,2,none⟩) hq).trans h.2.2.1,(hb.cell (p := ⟨q,3,none⟩) hq).trans h.2.2.2⟩
theorem CeAt.alloc {w : World} {q : Nat} {s : ByteArray} {d : Bool} {a e : Int} (h : CeAt w q s d a e) (hq : q < w.heap.size) (o : Obj) : CeAt (w.alloc o) q s d a e :=
 h.below ((Below.refl w.heap.size w).alloc (Nat.le_refl _) o) hq
theorem RdZ.lit (w : World) (l : List Int) (g : Nat) (hg : g = w.heap.size) : RdZ (w.alloc (.cells (l.map (.int .i64)).toArray 3)) (g + 1) (some ⟨g,0,none⟩) l.length l := by
 subst hg
 refine ⟨rfl,fun _ => ⟨_,0,rfl,by omega,fun j hj => ?_⟩⟩
 simp [hj]
def RoAt (w : World) (q : Nat) (k s : ByteArray) (d : Bool) (a e g h : Int) (A : Option Addr) (n c : Nat) : Prop := w.cell? ⟨q,0,none⟩ = some (.string k) /\ w.cell? ⟨q,1,none⟩ = some (.string s) /\ w.cell? ⟨q,2,none⟩ = some (.bool d) /\ w.cell? ⟨q,3,none⟩ = some (.int .i64 a) /\ w.cell? ⟨q,4,none⟩ = some (.int .i64 e) /\ w.cell? ⟨q,5,none⟩ = some (.int .i64 g) /\ w.cell? ⟨q,6,none⟩ = some (.int .i64 h) /\ w.cell? ⟨q,7,none⟩ = some (.slice A n c)
theorem RoAt.new (w : World) (k s : ByteArray) (d : Bool) (a e g h : Int) (A : Option Addr) (n c : Nat) : RoAt (w.alloc (.cells #[.string k,.string s,.bool d,.int .i64 a,.int .i64 e,.int .i64 g,.int .i64 h,.slice A n c] 45)) w.heap.size k s d a e g h A n c := by
 unfold RoAt
 simp
theorem RoAt.below {w w' : World} {q : Nat} {k s : ByteArray} {d : Bool} {a e g h : Int} {A : Option Addr} {n c B : Nat} (r : RoAt w q k s d a e g h A n c) (hb : Below B w w') (hq : q < B) : RoAt w' q k s d a e g h A n c := by
 obtain ⟨h0,h1,h2,h3,h4,h5,h6,h7⟩ := r
 exact ⟨(hb.cell (p := ⟨q,0,none⟩) hq).trans h0,(hb.cell (p := ⟨q,1,none⟩) hq).trans h1,(hb.cell (p := ⟨q,2,none⟩) hq).trans h2,(hb.cell (p := ⟨q,3,none⟩) hq).trans h3,(hb.cell (p := ⟨q,4,none⟩) hq).trans h4,(hb.cell (p := ⟨q,5,none⟩) hq).trans h5,(hb.cell (p := ⟨q,6,none⟩) hq).trans h6,(hb.cell (p := ⟨q,7,none⟩) hq).trans h7⟩
def RdK (w : World) (B : Nat) (A : Option Addr) (n : Nat) (l : Cols) : Prop :=
 l.length = n /\ (0 < n -> ∃ g o,A = some ⟨g,o,none⟩ /\ g < B /\ ∀ j (hj : j < l.length),w.cell? ⟨g,o + j * 5,none⟩ = some (.string l[j].1) /\ w.cell? ⟨g,o + j * 5 + 1,none⟩ = some (.string l[j].2.s) /\ w.cell? ⟨g,o + j * 5 + 2,none⟩ = some (.bool l[j].2.d) /\ w.cell? ⟨g,o + j * 5 + 3,none⟩ = some (.int .i64 l[j].2.a) /\ w.cell? ⟨g,o + j * 5 + 4,none⟩ = some (.int .i64 l[j].2.e))
theorem RdK.below {w w' : World} {B n : Nat} {A : Option Addr} {l : Cols} (h : RdK w B A n l) (hb : Below B w w') : RdK w' B A n l :=
 ⟨h.1,fun hn => by
   obtain ⟨g,o,e,hg,hc⟩ := h.2 hn
   refine ⟨g,o,e,hg,fun j hj => ?_⟩
   obtain ⟨h0,h1,h2,h3,h4⟩ := hc j hj
   exact ⟨(hb.cell (p := ⟨g,_,none⟩) hg).trans h0,(hb.cell (p := ⟨g,_,none⟩) hg).trans h1,(hb.cell (p := ⟨g,_,none⟩) hg).trans h2,(hb.cell (p := ⟨g,_,none⟩) hg).trans h3,(hb.cell (p := ⟨g,_,none⟩) hg).trans h4⟩⟩
theorem next {w w1 w2 : World} (h : Below w.heap.size w w1) (b : Below w1.heap.size w1 w2) : Below w.heap.size w w2 := h.trans (b.mono h.size)
def Three (w : World) (g : Nat) (s1 s2 s3 : ByteArray) (d1 d2 d3 : Bool) (a1 e1 a2 e2 a3 e3 : Int) : Prop :=
 (w.cell? ⟨g,0,none⟩ = some (.string s1) /\ w.cell? ⟨g,1,none⟩ = some (.bool d1) /\ w.cell? ⟨g,2,none⟩ = some (.int .i64 a1) /\ w.cell? ⟨g,3,none⟩ = some (.int .i64 e1)) /\ (w.cell? ⟨g + 1,0,none⟩ = some (.string s2) /\ w.cell? ⟨g + 1,1,none⟩ = some (.bool d2) /\ w.cell? ⟨g + 1,2,none⟩ = some (.int .i64 a2) /\ w.cell? ⟨g + 1,3,none⟩ = some (.int .i64 e2)) /\ (w.cell? ⟨g + 1 + 1,0,none⟩ = some (.string s3) /\ w.cell? ⟨g + 1 + 1,1,none⟩ = some (.bool d3) /\ w.cell? ⟨g + 1 + 1,2,none⟩ = some (.int .i64 a3) /\ w.cell? ⟨g + 1 + 1,3,none⟩ = some (.int .i64 e3))
theorem three (w : World) (s1 s2 s3 : ByteArray) (d1 d2 d3 : Bool) (a1 e1 a2 e2 a3 e3 : Int) : ∀ w',Below (w.heap.size + 3) (((w.alloc (.cells #[.string s1,.bool d1,.int .i64 a1,.int .i64 e1] 42)).alloc (.cells #[.string s2,.bool d2,.int .i64 a2,.int .i64 e2] 42)).alloc (.cells #[.string s3,.bool d3,.int .i64 a3,.int .i64 e3] 42)) w' ->
    Three w' w.heap.size s1 s2 s3 d1 d2 d3 a1 e1 a2 e2 a3 e3 := by
 intro w' hb
 have p1 := (((CeAt.new w s1 d1 a1 e1).alloc (by simp) (.cells #[.string s2,.bool d2,.int .i64 a2,.int .i64 e2] 42)).alloc (by simp; omega) (.cells #[.string s3,.bool d3,.int .i64 a3,.int .i64 e3] 42)).below hb (by omega)
 have p2 := ((CeAt.new (w.alloc (.cells #[.string s1,.bool d1,.int .i64 a1,.int .i64 e1] 42)) s2 d2 a2 e2).alloc (by simp) (.cells #[.string s3,.bool d3,.int .i64 a3,.int .i64 e3] 42)).below hb (by simp)
 have p3 := (CeAt.new ((w.alloc (.cells #[.string s1,.bool d1,.int .i64 a1,.int .i64 e1] 42)).alloc (.cells #[.string s2,.bool d2,.int .i64 a2,.int .i64 e2] 42)) s3 d3 a3 e3).below hb (by simp)
 simp only [World.size_alloc] at p1 p2 p3
 exact ⟨p1,p2,p3⟩
def cnt (m : Int) (c : Ce) : Bool := !c.d && (decide (m < c.a) && decide (1 <= c.a))
theorem new_at {W : World} {r : Nat} {cs : Array Value} {t : TypeId} (h : W.heap[r]? = some (.cells cs t (0,0))) (o : Obj) : (W.alloc o).heap[r]? = some (.cells cs t (0,0)) :=
 (((Below.refl W.heap.size W).alloc (Nat.le_refl _) o).block r (Array.getElem?_eq_some_iff.1 h).1).trans h
def kcs (x : ByteArray × Ce) : List Value := [.string x.1,.string x.2.s,.bool x.2.d,.int .i64 x.2.a,.int .i64 x.2.e]
def kRow (l : Cols) : List Value := l.flatMap kcs
theorem kRow_length (l : Cols) : (kRow l).length = l.length * 5 := by
 unfold kRow
 induction l with
 | nil => rfl
 | cons c l ih => rw [List.flatMap_cons,List.length_append,ih,List.length_cons]; simp [kcs]; omega
theorem kRow_append (l k : Cols) : kRow (l ++ k) = kRow l ++ kRow k := by unfold kRow; rw [List.flatMap_append]
theorem kRow_at : ∀ (l : Cols) (j i : Nat) (hj : j < l.length) (hi : i < 5),(kRow l)[j * 5 + i]? = (kcs l[j])[i]?
 | [],j,i,hj,hi => by cases hj
 | c :: l,0,i,hj,hi => by
   simp only [kRow,List.flatMap_cons,Nat.zero_mul,Nat.zero_add,zq3]
   exact List.getElem?_append_left (by simpa [kcs] using hi)
 | c :: l,j + 1,i,hj,hi => by
   have ih := kRow_at l j i (by simpa using hj) hi
   simp only [kRow,List.flatMap_cons,zq2] at ih ⊢
   rw [List.getElem?_append_right (by simp [kcs]; omega),<- ih]
   congr 1
   simp [kcs]
   omega
theorem kRow_one (l : Cols) : ∀ u ∈ kRow l,u.oneCell' = true := by
 intro u hu
 obtain ⟨c,_,hc⟩ := List.mem_flatMap.1 hu
 unfold kcs at hc
 simp only [List.mem_cons,List.not_mem_nil,or_false] at hc
 rcases hc with rfl | rfl | rfl | rfl | rfl <;> rfl
theorem RdK.all {w : World} {B n : Nat} {ad : Addr} {l : Cols} (h : RdK w B (some ad) n l) : ∀ j u,(kRow l)[j]? = some u -> w.cell? (ad.add j) = some u := by
 intro j u hu
 have hj : j < (kRow l).length := by
  rcases Nat.lt_or_ge j (kRow l).length with h1 | h1
  ·exact h1
  ·rw [List.getElem?_eq_none h1] at hu; cases hu
 rw [kRow_length] at hj
 have hq : j / 5 < l.length := by omega
 obtain ⟨g,o,e,_,hc⟩ := h.2 (by have := h.1; omega)
 injection e with e
 subst e
 obtain ⟨c0,c1,c2,c3,c4⟩ := hc (j / 5) hq
 have hm : j = j / 5 * 5 + j % 5 := by omega
 rw [hm,kRow_at l (j / 5) (j % 5) hq (by omega)] at hu
 rw [Addr.add_lit,hm]
 have hr : j % 5 < 5 := by omega
 obtain ⟨r,hr'⟩ : ∃ r,j % 5 = r := ⟨_,rfl⟩
 rw [hr'] at hu hr ⊢
 match r,hr with
 | 0,_ => injection hu with hu; rw [<- hu]; exact c0
 | 1,_ => injection hu with hu; rw [<- hu,<- Nat.add_assoc]; exact c1
 | 2,_ => injection hu with hu; rw [<- hu,<- Nat.add_assoc]; exact c2
 | 3,_ => injection hu with hu; rw [<- hu,<- Nat.add_assoc]; exact c3
 | 4,_ => injection hu with hu; rw [<- hu,<- Nat.add_assoc]; exact c4
theorem RdK.of_all {w : World} {B n g o : Nat} {l : Cols} (hl : l.length = n) (hg : g < B) (h : ∀ j u,(kRow l)[j]? = some u -> w.cell? ⟨g,o + j,none⟩ = some u) : RdK w B (some ⟨g,o,none⟩) n l := by
 refine ⟨hl,fun _ => ⟨g,o,rfl,hg,fun j hj => ?_⟩⟩
 have key : ∀ i (hi : i < 5) u,(kcs l[j])[i]? = some u -> w.cell? ⟨g,o + (j * 5 + i),none⟩ = some u := fun i hi u hu => h _ u ((kRow_at l j i hj hi).trans hu)
 refine ⟨key 0 (by omega) _ rfl,?_,?_,?_,?_⟩
 ·rw [Nat.add_assoc]; exact key 1 (by omega) _ rfl
 ·rw [Nat.add_assoc]; exact key 2 (by omega) _ rfl
 ·rw [Nat.add_assoc]; exact key 3 (by omega) _ rfl
 ·rw [Nat.add_assoc]; exact key 4 (by omega) _ rfl
theorem RdK.nil (w : World) (B : Nat) (A : Option Addr) : RdK w B A 0 [] := ⟨rfl,fun h => absurd h (by omega)⟩
theorem RdK.up {w : World} {B B' n : Nat} {A : Option Addr} {l : Cols} (h : RdK w B A n l) (hB : B <= B') : RdK w B' A n l :=
 ⟨h.1,fun hn => by
   obtain ⟨g,o,e,hg,hc⟩ := h.2 hn
   exact ⟨g,o,e,by omega,hc⟩⟩
theorem RdK.cut {w : World} {B n : Nat} {A : Option Addr} {l : Cols} (h : RdK w B A n l) {k c : Nat} (hk : k <= n) (hn : n <= c) : RdK w B (if c = k then A else A.map (·.add (k * 5))) (n - k) (l.drop k) := by
 refine ⟨by rw [List.length_drop,h.1],fun h0 => ?_⟩
 obtain ⟨g,o,rfl,hb,hc⟩ := h.2 (by omega)
 rw [if_neg (by omega)]
 refine ⟨g,o + k * 5,by rw [Option.map_some,Addr.add_lit],hb,fun j hj => ?_⟩
 rw [List.length_drop] at hj
 have := hc (k + j) (by omega)
 rw [show o + (k + j) * 5 = o + k * 5 + j * 5 by omega] at this
 simpa [List.getElem_drop] using this
theorem RdK.of_own {w : World} {base n : Nat} {A : Option Addr} {c : Nat} {l : Cols} (h : w.ownsRow base 282 5 (.slice A n c) n (kRow l)) : RdK w w.heap.size A n l := by
 have hl : l.length = n := by have := h.1; rw [kRow_length] at this; omega
 rcases h.2 with ⟨e,rfl⟩ | ⟨g,cap,cur,e,hb,hh,hn,hm,hs,ht⟩
 ·exact ⟨hl,fun h => absurd h (by omega)⟩
 ·injection e with e1 e2 e3
  subst e1
  refine RdK.of_all hl (Array.getElem?_eq_some_iff.1 hh).1 fun j u hu => ?_
  have := h.cells (g := g) rfl j u hu
  rw [Addr.add_lit] at this
  exact this
theorem infoK : (Tryz.prog.info? 282).map (fun i => (i.zero,i.size,i.bytes)) = some (some (.agg #[.string ⟨#[]⟩,.string ⟨#[]⟩,.bool false,.int .i64 0,.int .i64 0]),5,56) := by kernel_rfl
theorem elemK : Tryz.prog.elem 43 = 282 := by kernel_rfl
theorem run_appK {w : World} (base : Nat) {v : Value} {n : Nat} {l : Cols} (hown : w.ownsRow base 282 5 v n (kRow l)) {B m c : Nat} {A : Option Addr} {k : Cols} (hr : RdK w B A m k)
    (hsz : n + m <= 1000000) (hbase : base <= w.heap.size) (ty : TypeId) :
    ∃ v' w',(Builtin.append_ #[43,43] ty #[v,.slice A m c]).run Tryz.prog w = .ok v' w' /\ (w'.ownsRow base 282 5 v' (n + m) (kRow (l ++ k)) /\ (w.grownBy w' v.ownBlock /\ (v'.ownBlock = v.ownBlock \/ v'.ownBlock = some w.heap.size))) := by
 obtain ⟨i,hi,hz0,hz1,hz2⟩ := info_parts infoK
 cases A with
 | none =>
   have h0 : m = 0 := by
    rcases Nat.eq_zero_or_pos m with h1 | h1
    ·exact h1
    ·obtain ⟨g,o,e,_⟩ := hr.2 h1; cases e
   subst h0
   obtain rfl : k = [] := List.eq_nil_of_length_eq_zero hr.1
   refine ⟨v,w,?_,by simpa using hown,⟨rfl,rfl,rfl,Nat.le_refl _,fun _ _ _ => rfl⟩,Or.inl rfl⟩
   rcases hown.2 with ⟨rfl,rfl⟩ | ⟨g,cap,cur,rfl,_,_,hnc,_⟩
   ·simp [Builtin.append_,run_underlying Tryz.underlying43,sizeOf,typeInfo,hi,Builtin.lenOf,Builtin.firstCells]
   ·simp [Builtin.append_,run_underlying Tryz.underlying43,sizeOf,typeInfo,hi,Builtin.lenOf,Builtin.firstCells,hnc,storeCells]
 | some ad =>
   obtain ⟨v',w',h1,h2,h3,_,h5⟩ := run_append_own_at (P := Tryz.prog) w base 43 ty 282 i (.agg #[.string ⟨#[]⟩,.string ⟨#[]⟩,.bool false,.int .i64 0,.int .i64 0]) 5 56 Tryz.underlying43 hi hz0 hz1 hz2 rfl (by decide) v n (kRow l) hown ad m c (kRow k)
    (by rw [kRow_length,hr.1]) hr.all (kRow_one k) (by unfold maxLen; omega) (by omega) hbase
   exact ⟨v',w',h1,by rw [kRow_append]; exact h2,h3,h5⟩
theorem own_nilK (w : World) (b : Nat) : w.ownsRow b 282 5 (.slice none 0 0) 0 (kRow []) := World.ownsRow_nil w b _ _
theorem slK_l {w : World} {B n : Nat} {A : Option Addr} {l : Cols} (h : RdK w B A n l) {c : Nat} (hn : n <= c) (x : Int) (lo : Nat) (ex : x = (lo : Nat)) (h1 : lo <= n) :
    ∃ A',(∀ wx : World,(Instr.slice 43 (.slice A n c) (some (.int .i64 x)) none none).run Tryz.prog wx = .ok (.slice A' (n - lo) (c - lo)) wx) /\ RdK w B A' (n - lo) (l.drop lo) := by
 refine ⟨if c = lo then A else A.map (·.add (lo * 5)),fun wx => ?_,h.cut h1 hn⟩
 obtain ⟨i,hi',hz0,hz1,hz2⟩ := info_parts infoK
 subst ex
 rw [run_slice_l (P := Tryz.prog) (t := 43) (ht := by rw [elemK]; exact Tryz.underlying43) (h0 := by omega) (h1 := by omega),elemK]
 simp [sizeOf,typeInfo,hi',hz1,sliced,Result.andThen]
theorem RdK.one (w : World) (x : ByteArray × Ce) (g : Nat) (hg : g = w.heap.size) : RdK (w.alloc (.cells #[.string x.1,.string x.2.s,.bool x.2.d,.int .i64 x.2.a,.int .i64 x.2.e] 282)) (g + 1) (some ⟨g,0,none⟩) 1 [x] := by
 subst hg
 refine RdK.of_all rfl (by omega) fun j u hu => ?_
 have : (kRow [x]) = kcs x := by simp [kRow]
 rw [this] at hu
 rw [Nat.zero_add]
 simpa [kcs] using hu
theorem grown_ownN {w0 w w' : World} {b : Nat} {v : Value} {n sz : Nat} {xs : List Value} {e : TypeId} (hb : Below b w0 w) (h0 : b <= w0.heap.size) (ho : w.ownsRow b e sz v n xs) (hg : w.grownBy w' v.ownBlock) : Below b w0 w' :=
 hb.grown hg (by have := hb.size; omega) fun g h => (ho.lt g h).1
theorem own_base {w : World} {b b' n size : Nat} {e : TypeId} {v : Value} {xs : List Value} (h : w.ownsRow b e size v n xs) (hb : b' <= b) : w.ownsRow b' e size v n xs := by
 refine ⟨h.1,?_⟩
 rcases h.2 with ⟨rfl,rfl⟩ | ⟨g,cap,cur,rfl,h2,h3⟩
 ·exact Or.inl ⟨rfl,rfl⟩
 ·exact Or.inr ⟨g,cap,cur,rfl,by omega,h3⟩
structure Cur (w0 w : World) (v : Value) (C : Cols) : Prop where
 own : w.ownsRow w0.heap.size 282 5 v C.length (kRow C)
 below : Below w0.heap.size w0 w
theorem Cur.on {w0 w w' : World} {v : Value} {C : Cols} (h : Cur w0 w v C) (hb : Below w.heap.size w w') : Cur w0 w' v C :=
 ⟨own_below h.own hb,next h.below hb⟩
theorem Cur.slice {w0 w : World} {v : Value} {C : Cols} (h : Cur w0 w v C) : ∃ A c,v = .slice A C.length c /\ C.length <= c /\ c <= maxLen /\ (A = none -> c = 0) /\ RdK w w.heap.size A C.length C := by
 obtain ⟨A,c,rfl,h1,h2,h3⟩ := own_slice h.own
 exact ⟨A,c,rfl,h1,h2,h3,RdK.of_own h.own⟩
theorem run_eqCe (s t : ByteArray) (d f : Bool) (a b e g : Int) (w : World) :
    (binOp .eql 42 (.agg #[.string s,.bool d,.int .i64 a,.int .i64 e]) (.agg #[.string t,.bool f,.int .i64 b,.int .i64 g])).run Tryz.prog w = .ok (.bool (Ce.same ⟨s,d,a,e⟩ ⟨t,f,b,g⟩)) w := by
 have u3 := Tryz.underlying3
 have u4 := Tryz.underlying4
 have u9 := Tryz.underlying9
 have a3 := Tryz.isAgg3
 have a4 := Tryz.isAgg4
 have a9 := Tryz.isAgg9
 have z3 := Tryz.sizeOf3
 have z4 := Tryz.sizeOf4
 have z9 := Tryz.sizeOf9
 have hS : Tryz.prog.underlying 42 = some (.struct (Tryz.prog.fieldsOf 42)) := by kernel_rfl
 have hp : Tryz.prog.stoodInHeld 42 = false := by kernel_rfl
 rw [run_eql_struct,show (10000 : Nat) = 9999 + 1 from rfl,run_equalIn_struct w 9999 42 _ _ hS hp]
 simp only [Program.fieldsOf,Tryz.underlying42]
 go_simp
 unfold Ce.same
 by_cases h1 : s.toList = t.toList <;> by_cases h2 : d = f <;> by_cases h3 : a = b <;> by_cases h4 : e = g <;> simp [h1,h2,h3,h4]
theorem stamp_any (n : Int) (w : World) :
    Calls Tryz.prog 271 #[.int .i64 n] w fun x w' => x = .returned (.bool (decide (0 <= n) && decide (n <= 1099511627776))) /\ w = w' := by
 by_cases h : 0 <= n
 ·go_enter Tryz.func271,Tryz.ntmps271
  go_wp2
  go_ret
  exact ⟨by simp [h],rfl⟩
 ·go_enter Tryz.func271,Tryz.ntmps271
  go_wp2
  go_ret
  exact ⟨by rw [show decide (0 <= n) = false from decide_eq_false (by omega)]; rfl,rfl⟩
theorem check_any (s : ByteArray) (d : Bool) (a e : Int) (w : World) (hs : s.size <= maxLen) :
    Calls Tryz.prog 269 #[.agg #[.string s,.bool d,.int .i64 a,.int .i64 e]] w fun x w' => x = .returned (.bool (Ce.ok ⟨s,d,a,e⟩)) /\ Below w.heap.size w w' := by
 have bz := hid ((Below.refl w.heap.size w).alloc (Nat.le_refl _) (.cells #[.string s,.bool d,.int .i64 a,.int .i64 e] 42))
 have hm : Tryz.prog.eqGuardType Tryz.prog.depth 42 = false := by kernel_rfl
 by_cases h1 : a = 0
 ·subst h1
  have hv : Ce.ok ⟨s,d,0,e⟩ = Ce.same ⟨s,d,0,e⟩ ⟨⟨#[]⟩,false,0,0⟩ := rfl
  rw [hv]
  have he := fun w => run_eqCe s ⟨#[]⟩ d false 0 0 e 0 w
  have hg := fun (w : World) (x y : Operand) => run_eqGuard_agg (P := Tryz.prog) w .eql 42 x y #[.string s,.bool d,.int .i64 0,.int .i64 e] #[.string ⟨#[]⟩,.bool false,.int .i64 0,.int .i64 0] hm
  clear hm hv
  go_enter Tryz.func269,Tryz.ntmps269
  go_wp2
  go_ret
  exact ⟨rfl,bz.out⟩
 ·have hb : (a == 0) = false := by rw [beq_eq_false_iff_ne]; exact h1
  cases h2 : stm a
  ·have hv : Ce.ok ⟨s,d,a,e⟩ = false := by unfold Ce.ok; rw [if_neg h1,if_pos h2]
   rw [hv]
   have H2 := hid h2
   clear h2 hv
   go_enter Tryz.func269,Tryz.ntmps269
   go_wp2_with fail
   refine (stamp_any a _).mono ?_
   rintro x w1 ⟨rfl,rfl⟩
   rw [show (decide (0 <= a) && decide (a <= 1099511627776)) = false from H2.out]
   go_wp2
   go_ret
   exact ⟨rfl,bz.out⟩
  ·have hv : Ce.ok ⟨s,d,a,e⟩ = if d = true then Ce.same ⟨s,d,a,e⟩ ⟨⟨#[]⟩,true,a,0⟩ else decide (s.size <= 100) && stm e := by unfold Ce.ok; rw [if_neg h1,if_neg (by rw [h2]; decide)]
   rw [hv]
   have H2 := hid h2
   clear h2 hv
   cases d
   ·rw [if_neg (by decide)]
    by_cases h3 : s.size <= 100
    ·have d3 : decide ((s.size : Int) <= 100) = true := by simp; omega
     rw [show decide (s.size <= 100) = true from decide_eq_true h3]
     go_enter Tryz.func269,Tryz.ntmps269
     go_wp2_with fail
     refine (stamp_any a _).mono ?_
     rintro x w1 ⟨rfl,rfl⟩
     rw [show (decide (0 <= a) && decide (a <= 1099511627776)) = true from H2.out]
     go_wp2_with fail
     refine (stamp_any e _).mono ?_
     rintro x w1 ⟨rfl,rfl⟩
     go_wp2
     go_ret
     exact ⟨rfl,bz.out⟩
    ·have d3 : decide ((s.size : Int) <= 100) = false := by simp; omega
     rw [show decide (s.size <= 100) = false from decide_eq_false h3]
     go_enter Tryz.func269,Tryz.ntmps269
     go_wp2_with fail
     refine (stamp_any a _).mono ?_
     rintro x w1 ⟨rfl,rfl⟩
     rw [show (decide (0 <= a) && decide (a <= 1099511627776)) = true from H2.out]
     go_wp2
     go_ret
     exact ⟨rfl,bz.out⟩
   ·rw [if_pos rfl]
    have he := fun w => run_eqCe s ⟨#[]⟩ true true a a e 0 w
    have hg := fun (w : World) (x y : Operand) => run_eqGuard_agg (P := Tryz.prog) w .eql 42 x y #[.string s,.bool true,.int .i64 a,.int .i64 e] #[.string ⟨#[]⟩,.bool true,.int .i64 a,.int .i64 0] hm
    clear hm
    go_enter Tryz.func269,Tryz.ntmps269
    go_wp2_with fail
    refine (stamp_any a _).mono ?_
    rintro x w1 ⟨rfl,rfl⟩
    rw [show (decide (0 <= a) && decide (a <= 1099511627776)) = true from H2.out]
    go_wp2
    go_ret
    exact ⟨rfl,bz.out⟩
theorem rwstamp_any (n : Int) (w : World) :
    Calls Tryz.prog 258 #[.int .i64 n] w fun x w' => x = .returned (.bool (stm n)) /\ w = w' := by
 obtain ⟨r,hr⟩ : ∃ r : Bool,stm n = r := ⟨_,rfl⟩
 rw [hr]
 have HR := hid hr
 clear hr
 by_cases h0 : 0 <= n
 ·have hv : decide (n <= 1099511627776) = r := by rw [<- HR.out]; simp [stm,h0]
  subst hv
  go_enter Tryz.func258,Tryz.ntmps258
  go_wp2
  go_ret
  exact ⟨rfl,rfl⟩
 ·have hv : r = false := by rw [<- HR.out]; simp [stm,h0]
  subst hv
  go_enter Tryz.func258,Tryz.ntmps258
  go_wp2
  go_ret
  exact ⟨rfl,rfl⟩
theorem live_any (s : ByteArray) (d : Bool) (a e : Int) (w : World) (hs : s.size <= maxLen) :
    Calls Tryz.prog 257 #[.agg #[.string s,.bool d,.int .i64 a,.int .i64 e]] w fun x w' => x = .returned (.bool (liveB ⟨s,d,a,e⟩)) /\ Below w.heap.size w w' := by
 obtain ⟨r,hr⟩ : ∃ r : Bool,liveB ⟨s,d,a,e⟩ = r := ⟨_,rfl⟩
 obtain ⟨u1,hu1⟩ : ∃ r : Bool,Ce.ok ⟨s,d,a,e⟩ = r := ⟨_,rfl⟩
 obtain ⟨u2,hu2⟩ : ∃ r : Bool,s.toList.isEmpty = r := ⟨_,rfl⟩
 rw [hr]
 unfold liveB at hr
 rw [hu1] at hr
 simp only at hr
 rw [hu2] at hr
 have HR := hid hr; have U1 := hid hu1
 have bz := hid ((Below.refl w.heap.size w).alloc (Nat.le_refl _) (.cells #[.string s,.bool d,.int .i64 a,.int .i64 e] 42))
 have pz := hid (CeAt.new w s d a e)
 clear hr hu1
 go_enter Tryz.func257,Tryz.ntmps257
 go_wp2_with fail
 refine (check_any _ _ _ _ _ hs).mono ?_
 rintro x w1 ⟨rfl,b1⟩
 rw [U1.out]
 obtain ⟨q0,q1,q2,q3⟩ := pz.out.below b1 (by simp)
 have B1 := hid (next bz.out b1)
 clear b1
 cases u1
 ·have hv : r = false := by rw [<- HR.out]; rfl
  subst hv
  go_wp2
  go_ret
  exact ⟨rfl,B1.out⟩
 ·cases u2
  ·have hv : r = false := by rw [<- HR.out]; rfl
   subst hv
   go_wp2
   go_ret
   exact ⟨rfl,B1.out⟩
  ·have hv : (!d) = r := by rw [<- HR.out]; rfl
   subst hv
   go_wp2
   go_ret
   exact ⟨rfl,B1.out⟩
theorem col_any (m s : ByteArray) (d : Bool) (a e : Int) (w : World) (hm : m.size <= 1099511627776) (hs : s.size <= maxLen) :
    Calls Tryz.prog 270 #[.agg #[.string m,.string s,.bool d,.int .i64 a,.int .i64 e]] w fun x w' => x = .returned (.bool (colB (m,⟨s,d,a,e⟩))) /\ Below w.heap.size w w' := by
 obtain ⟨r,hr⟩ : ∃ r : Bool,colB (m,⟨s,d,a,e⟩) = r := ⟨_,rfl⟩
 obtain ⟨u1,hu1⟩ : ∃ r : Bool,nameB m = r := ⟨_,rfl⟩
 obtain ⟨u2,hu2⟩ : ∃ r : Bool,Ce.ok ⟨s,d,a,e⟩ = r := ⟨_,rfl⟩
 rw [hr]
 unfold colB at hr
 simp only at hr
 rw [hu1,hu2] at hr
 have HR := hid hr; have U1 := hid hu1; have U2 := hid hu2
 have bz := hid ((Below.refl w.heap.size w).alloc (Nat.le_refl _) (.cells #[.string m,.string s,.bool d,.int .i64 a,.int .i64 e] 282))
 have hz := heap_alloc_new w (.cells #[.string m,.string s,.bool d,.int .i64 a,.int .i64 e] 282)
 have hall : ∀ w',Below (w.heap.size + 1) (w.alloc (.cells #[.string m,.string s,.bool d,.int .i64 a,.int .i64 e] 282)) w' -> w'.cell? ⟨w.heap.size,0,none⟩ = some (.string m) /\ w'.cell? ⟨w.heap.size,0 + 1,none⟩ = some (.string s) /\ w'.cell? ⟨w.heap.size,0 + 2,none⟩ = some (.bool d) /\ w'.cell? ⟨w.heap.size,0 + 3,none⟩ = some (.int .i64 a) /\ w'.cell? ⟨w.heap.size,0 + 4,none⟩ = some (.int .i64 e) := fun w' hb => by
  have hq := (hb.block w.heap.size (by omega)).trans hz
  exact ⟨cell_at hq rfl,cell_at hq rfl,cell_at hq rfl,cell_at hq rfl,cell_at hq rfl⟩
 have HALL := hid hall
 clear hr hu1 hu2 hz hall
 go_enter Tryz.func270,Tryz.ntmps270
 go_wp2_with fail
 refine (name_any _ _ hm).mono ?_
 rintro x w1 ⟨rfl,b1⟩
 rw [U1.out]
 obtain ⟨_,_,_,_,_⟩ := HALL.out _ (b1.mono (by simp))
 have B0 := hid b1
 have B1 := hid (next bz.out b1)
 clear b1
 cases u1
 ·have hv : r = false := by rw [<- HR.out]; rfl
  subst hv
  go_wp2
  go_ret
  exact ⟨rfl,B1.out⟩
 ·go_wp2_with fail
  refine (check_any _ _ _ _ _ hs).mono ?_
  rintro x w2 ⟨rfl,b2⟩
  rw [U2.out]
  obtain ⟨_,_,_,_,_⟩ := HALL.out _ ((next B0.out b2).mono (by simp))
  have B2 := hid (next B1.out b2)
  clear b2
  cases u2
  ·have hv : r = false := by rw [<- HR.out]; rfl
   subst hv
   go_wp2
   go_ret
   exact ⟨rfl,B2.out⟩
  ·have hv : decide (0 < a) = r := by rw [<- HR.out]; simp; rfl
   subst hv
   go_wp2
   go_ret
   exact ⟨rfl,B2.out⟩
def Few (l : Cols) : Prop := ∀ x ∈ l,x.1.size <= 1099511627776 /\ x.2.s.size <= maxLen
theorem cols_any (A : Option Addr) (n c B : Nat) (l : Cols) (w : World) (h : RdK w B A n l) (hB : B <= w.heap.size) (hn : n <= 1000000000000) (hf : Few l) :
    Calls Tryz.prog 259 #[.slice A n c] w fun x w' => x = .returned (.bool (decide (l.length <= 8) && colsB l)) /\ Below w.heap.size w w' := by
 have hl := h.1
 obtain ⟨r,hr⟩ : ∃ r,(decide (l.length <= 8) && colsB l) = r := ⟨_,rfl⟩
 rw [hr]
 rw [hl] at hr
 by_cases h8 : n <= 8
 ·have d0 : decide ((8 : Int) < (n : Nat)) = false := by simp; omega
  rw [decide_eq_true h8,Bool.true_and] at hr
  have HL := hid hl; have HR := hid hr; have HH := hid h; have HF := hid hf
  clear hl hr h hf
  go_enter Tryz.func259,Tryz.ntmps259
  go_wp2
  go_loopw [10] (fun i wr => ∃ t : Nat,t <= n /\ i = .int .i64 t /\ (List.range t).all (goodAt l) = true /\ Below w.heap.size w wr) (fun i _ => n - (intOf i).toNat)
  case atStart => exact ⟨0,Nat.zero_le _,rfl,rfl,Below.refl _ _⟩
  case round =>
   obtain ⟨t,ht,rfl,hg,hb⟩ := hrel
   have HG := hid hg; have HB := hid hb
   clear hg hb
   by_cases hlt : t < n
   ·have i1 : (t : Int) < n := by omega
    have i0 : (0 : Int) <= t := by omega
    have htl : t < l.length := by rw [HL.out]; exact hlt
    obtain ⟨g0,o0,rfl,hgB,hc⟩ := (HH.out.below (HB.out.mono hB)).2 (by omega)
    obtain ⟨e0,e1,e2,e3,e4⟩ := hc t htl
    have hgw : g0 < wr.heap.size := by have := HB.out.size; omega
    obtain ⟨⟨m,⟨cs,cd,ca,ce⟩⟩,hx⟩ : ∃ x,l[t] = x := ⟨_,rfl⟩
    have hfm := HF.out l[t] (List.getElem_mem htl)
    rw [hx] at e0 e1 e2 e3 e4 hfm
    simp only at e0 e1 e2 e3 e4 hfm
    obtain ⟨u1,hu1⟩ : ∃ u,colB (m,⟨cs,cd,ca,ce⟩) = u := ⟨_,rfl⟩
    have U1 := hid hu1; have FM := hid hfm; have HX := hid hx
    have hz := heap_alloc_new wr (.cells #[.string m,.string cs,.bool cd,.int .i64 ca,.int .i64 ce] 282)
    have ha := (Below.refl wr.heap.size wr).alloc (Nat.le_refl _) (.cells #[.string m,.string cs,.bool cd,.int .i64 ca,.int .i64 ce] 282)
    have hbu := HB.out.trans (ha.mono HB.out.size)
    have hcu := fun j (hj : j < l.length) => (ha.cell (p := ⟨g0,_,none⟩) hgw).trans (hc j hj).1
    have HC := hid hc
    clear hu1 hfm hx hc
    by_cases hz0 : t = 0
    ·have hga : goodAt l t = u1 := by
      subst hz0
      rw [good_zero htl,HX.out,U1.out]
     have j1 : decide ((0 : Int) < (t : Int)) = false := by simp; omega
     have j2 : decide (0 < t) = false := by simp; omega
     clear hz0
     have HGA := hid hga
     clear hga
     go_wp2_with fail
     obtain ⟨U,hU⟩ : ∃ U,U = wr.alloc (.cells #[.string m,.string cs,.bool cd,.int .i64 ca,.int .i64 ce] 282) := ⟨_,rfl⟩
     have hUs : U.heap.size = wr.heap.size + 1 := by rw [hU]; simp
     rw [<- hU] at hz hbu hcu ⊢
     have hall : ∀ w',Below U.heap.size U w' -> (w'.cell? ⟨wr.heap.size,0,none⟩ = some (.string m) /\ w'.cell? ⟨wr.heap.size,0 + 1,none⟩ = some (.string cs) /\ w'.cell? ⟨wr.heap.size,0 + 2,none⟩ = some (.bool cd) /\ w'.cell? ⟨wr.heap.size,0 + 3,none⟩ = some (.int .i64 ca) /\ w'.cell? ⟨wr.heap.size,0 + 4,none⟩ = some (.int .i64 ce)) /\ True := fun w' hb => by
      have hq := (hb.block wr.heap.size (by omega)).trans hz
      exact ⟨⟨cell_at hq rfl,cell_at hq rfl,cell_at hq rfl,cell_at hq rfl,cell_at hq rfl⟩,trivial⟩
     have HALL := hid hall; have HBU := hid hbu
     clear hall hz hU ha hbu hcu e0 e1 e2 e3 e4
     cases u1
     ·refine wp_region_held_drew (S := fun w' => Below U.heap.size U w') (by kernel_rfl) ?_ (fun hHeld => ?_)
      ·exact (Below.refl _ _).drew
      refine takesH [0] ?_
      repeat
       refine takesH_one (v := ?_) ?_ ?_
       rotate_left
       ·first | (refine Or.inr ⟨by rfl,?_⟩; with_reducible rfl) | (refine Or.inl ⟨by rfl,?_⟩; intro wx hSw; (try dsimp only at hSw); first | (go_simp; first | done | with_reducible rfl) | (obtain ⟨⟨_,_,_,_,_⟩,_⟩ := HALL.out _ hSw; go_simp; first | done | with_reducible rfl))
       try simp only [Act.put,zq1,zq2,zq3,zq4,zq5,zq6]
      refine takesH_nil ?_
      refine wpAnyH_ready (rs := [1]) (by kernel_rfl) (by simp) (AllReadyH.cons rfl (fun K hK => ?_) AllReadyH.nil)
      go_simp
      refine (col_any _ _ _ _ _ _ FM.out.1 FM.out.2).mono ?_
      rintro x v1 ⟨rfl,b1⟩
      rw [U1.out]
      try go_wp2_with fail
      refine hK.out _ _ ?_ (fun hHeld => ?_)
      ·exact next (by assumption) b1
      clear hK K
      try simp only [Act.put,zq1,zq2,zq3,zq4,zq5,zq6]
      refine takesH [2,3,4,5,6,7,8,9,10,11,12,13,14,15,16,17] ?_
      repeat
       refine takesH_one (v := ?_) ?_ ?_
       rotate_left
       ·first | (refine Or.inr ⟨by rfl,?_⟩; with_reducible rfl) | (refine Or.inl ⟨by rfl,?_⟩; intro wx hSw; (try dsimp only at hSw); first | (go_simp; first | done | with_reducible rfl))
       try simp only [Act.put,zq1,zq2,zq3,zq4,zq5,zq6]
      refine takesH_nil ?_
      refine wpAnyH_done (by kernel_rfl) ?_ _
      have hv : r = false := by rw [<- HR.out]; exact goods_no htl HGA.out
      subst hv
      go_wp2
      go_ret
      exact ⟨rfl,next HBU.out hHeld⟩
     ·refine wp_region_held_drew (S := fun w' => Below U.heap.size U w') (by kernel_rfl) ?_ (fun hHeld => ?_)
      ·exact (Below.refl _ _).drew
      refine takesH [0] ?_
      repeat
       refine takesH_one (v := ?_) ?_ ?_
       rotate_left
       ·first | (refine Or.inr ⟨by rfl,?_⟩; with_reducible rfl) | (refine Or.inl ⟨by rfl,?_⟩; intro wx hSw; (try dsimp only at hSw); first | (go_simp; first | done | with_reducible rfl) | (obtain ⟨⟨_,_,_,_,_⟩,_⟩ := HALL.out _ hSw; go_simp; first | done | with_reducible rfl))
       try simp only [Act.put,zq1,zq2,zq3,zq4,zq5,zq6]
      refine takesH_nil ?_
      refine wpAnyH_ready (rs := [1]) (by kernel_rfl) (by simp) (AllReadyH.cons rfl (fun K hK => ?_) AllReadyH.nil)
      go_simp
      refine (col_any _ _ _ _ _ _ FM.out.1 FM.out.2).mono ?_
      rintro x v1 ⟨rfl,b1⟩
      rw [U1.out]
      try go_wp2_with fail
      refine hK.out _ _ ?_ (fun hHeld => ?_)
      ·exact next (by assumption) b1
      clear hK K
      try simp only [Act.put,zq1,zq2,zq3,zq4,zq5,zq6]
      refine takesH [2,3,4,5,6,7,8,9,10,11,12,13,14,15,16,17] ?_
      repeat
       refine takesH_one (v := ?_) ?_ ?_
       rotate_left
       ·first | (refine Or.inr ⟨by rfl,?_⟩; with_reducible rfl) | (refine Or.inl ⟨by rfl,?_⟩; intro wx hSw; (try dsimp only at hSw); first | (go_simp; first | done | with_reducible rfl))
       try simp only [Act.put,zq1,zq2,zq3,zq4,zq5,zq6]
      refine takesH_nil ?_
      refine wpAnyH_done (by kernel_rfl) ?_ _
      go_wp2
      go_roundw
      case rel => exact ⟨t + 1,by omega,by go_num,goods_step HG.out HGA.out,next HBU.out hHeld⟩
      case measure => simp [intOf]; omega
    ·obtain ⟨u,hu⟩ : ∃ u,u + 1 = t := ⟨t - 1,by omega⟩
     have hul : u < l.length := by omega
     have hsub : IntKind.i64.wrap ((t : Int) - 1) = (u : Int) := by rw [IntKind.wrap_i64]; omega
     have j1 : (u : Int) < n := by omega
     have j0 : (0 : Int) <= u := by omega
     have j2 : decide ((0 : Int) < (t : Int)) = true := by simp; omega
     have j3 : decide (0 < t) = true := by simp; omega
     have j4 : (0 : Int) < (t : Int) := by omega
     have j5 : 0 < t := by omega
     obtain ⟨⟨pm,pc⟩,hy⟩ : ∃ y,l[u] = y := ⟨_,rfl⟩
     have hcu2 := hcu u hul
     rw [hy] at hcu2
     simp only at hcu2
     have hga : goodAt l t = (u1 && decide (nlt pm m)) := by
      subst hu
      rw [good_succ htl,HX.out,hy,U1.out]
     have HGA := hid hga; have HY := hid hy
     clear hga hy hcu
     go_wp2_with fail
     obtain ⟨U,hU⟩ : ∃ U,U = wr.alloc (.cells #[.string m,.string cs,.bool cd,.int .i64 ca,.int .i64 ce] 282) := ⟨_,rfl⟩
     have hUs : U.heap.size = wr.heap.size + 1 := by rw [hU]; simp
     rw [<- hU] at hz hbu hcu2 ⊢
     have hall : ∀ w',Below U.heap.size U w' -> (w'.cell? ⟨wr.heap.size,0,none⟩ = some (.string m) /\ w'.cell? ⟨wr.heap.size,0 + 1,none⟩ = some (.string cs) /\ w'.cell? ⟨wr.heap.size,0 + 2,none⟩ = some (.bool cd) /\ w'.cell? ⟨wr.heap.size,0 + 3,none⟩ = some (.int .i64 ca) /\ w'.cell? ⟨wr.heap.size,0 + 4,none⟩ = some (.int .i64 ce)) /\ w'.cell? ⟨g0,o0 + u * 5,none⟩ = some (.string pm) := fun w' hb => by
      have hq := (hb.block wr.heap.size (by omega)).trans hz
      exact ⟨⟨cell_at hq rfl,cell_at hq rfl,cell_at hq rfl,cell_at hq rfl,cell_at hq rfl⟩,(hb.cell (p := ⟨g0,_,none⟩) (show g0 < U.heap.size by omega)).trans hcu2⟩
     have HALL := hid hall; have HBU := hid hbu; have HU := hid hu
     clear hall hz hU ha hbu hcu2 hu e0 e1 e2 e3 e4
     cases u1
     ·refine wp_region_held_drew (S := fun w' => Below U.heap.size U w') (by kernel_rfl) ?_ (fun hHeld => ?_)
      ·exact (Below.refl _ _).drew
      refine takesH [0] ?_
      repeat
       refine takesH_one (v := ?_) ?_ ?_
       rotate_left
       ·first | (refine Or.inr ⟨by rfl,?_⟩; with_reducible rfl) | (refine Or.inl ⟨by rfl,?_⟩; intro wx hSw; (try dsimp only at hSw); first | (go_simp; first | done | with_reducible rfl) | (obtain ⟨⟨_,_,_,_,_⟩,_⟩ := HALL.out _ hSw; go_simp; first | done | with_reducible rfl))
       try simp only [Act.put,zq1,zq2,zq3,zq4,zq5,zq6]
      refine takesH_nil ?_
      refine wpAnyH_ready (rs := [1]) (by kernel_rfl) (by simp) (AllReadyH.cons rfl (fun K hK => ?_) AllReadyH.nil)
      go_simp
      refine (col_any _ _ _ _ _ _ FM.out.1 FM.out.2).mono ?_
      rintro x v1 ⟨rfl,b1⟩
      rw [U1.out]
      try go_wp2_with fail
      refine hK.out _ _ ?_ (fun hHeld => ?_)
      ·exact next (by assumption) b1
      clear hK K
      try simp only [Act.put,zq1,zq2,zq3,zq4,zq5,zq6]
      refine takesH [2,3,4,5,6,7,8,9,10,11,12,13,14,15,16,17] ?_
      repeat
       refine takesH_one (v := ?_) ?_ ?_
       rotate_left
       ·first | (refine Or.inr ⟨by rfl,?_⟩; with_reducible rfl) | (refine Or.inl ⟨by rfl,?_⟩; intro wx hSw; (try dsimp only at hSw); first | (go_simp; first | done | with_reducible rfl))
       try simp only [Act.put,zq1,zq2,zq3,zq4,zq5,zq6]
      refine takesH_nil ?_
      refine wpAnyH_done (by kernel_rfl) ?_ _
      have hv : r = false := by rw [<- HR.out]; exact goods_no htl (by rw [HGA.out]; rfl)
      subst hv
      go_wp2
      go_ret
      exact ⟨rfl,next HBU.out hHeld⟩
     ·by_cases hp : nlt pm m
      ·have hb1 : Op.bytesLess pm.toList m.toList = true := blB_true hp
       have hga2 := HGA.out
       rw [decide_eq_true hp] at hga2
       have HG2 := hid hga2
       clear hga2
       refine wp_region_held_drew (S := fun w' => Below U.heap.size U w') (by kernel_rfl) ?_ (fun hHeld => ?_)
       ·exact (Below.refl _ _).drew
       refine takesH [0] ?_
       repeat
        refine takesH_one (v := ?_) ?_ ?_
        rotate_left
        ·first | (refine Or.inr ⟨by rfl,?_⟩; with_reducible rfl) | (refine Or.inl ⟨by rfl,?_⟩; intro wx hSw; (try dsimp only at hSw); first | (go_simp; first | done | with_reducible rfl) | (obtain ⟨⟨_,_,_,_,_⟩,_⟩ := HALL.out _ hSw; go_simp; first | done | with_reducible rfl))
        try simp only [Act.put,zq1,zq2,zq3,zq4,zq5,zq6]
       refine takesH_nil ?_
       refine wpAnyH_ready (rs := [1]) (by kernel_rfl) (by simp) (AllReadyH.cons rfl (fun K hK => ?_) AllReadyH.nil)
       go_simp
       refine (col_any _ _ _ _ _ _ FM.out.1 FM.out.2).mono ?_
       rintro x v1 ⟨rfl,b1⟩
       rw [U1.out]
       try go_wp2_with fail
       refine hK.out _ _ ?_ (fun hHeld => ?_)
       ·exact next (by assumption) b1
       clear hK K
       try simp only [Act.put,zq1,zq2,zq3,zq4,zq5,zq6]
       refine takesH [2,3,4,5,6,7,8,9,10,11,12,13,14,15,16,17] ?_
       repeat
        refine takesH_one (v := ?_) ?_ ?_
        rotate_left
        ·first | (refine Or.inr ⟨by rfl,?_⟩; with_reducible rfl) | (refine Or.inl ⟨by rfl,?_⟩; intro wx hSw; (try dsimp only at hSw); first | (go_simp; first | done | with_reducible rfl) | (obtain ⟨⟨_,_,_,_,_⟩,_⟩ := HALL.out _ hSw; go_simp; first | done | with_reducible rfl))
        try simp only [Act.put,zq1,zq2,zq3,zq4,zq5,zq6]
       refine takesH_nil ?_
       refine wpAnyH_done (by kernel_rfl) ?_ _
       go_wp2
       go_roundw
       case rel => exact ⟨t + 1,by omega,by go_num,goods_step HG.out HG2.out,next HBU.out hHeld⟩
       case measure => simp [intOf]; omega
      ·have hb1 : Op.bytesLess pm.toList m.toList = false := blB_false hp
       have hv : r = false := by rw [<- HR.out]; exact goods_no htl (by rw [HGA.out,decide_eq_false hp]; rfl)
       subst hv
       refine wp_region_held_drew (S := fun w' => Below U.heap.size U w') (by kernel_rfl) ?_ (fun hHeld => ?_)
       ·exact (Below.refl _ _).drew
       refine takesH [0] ?_
       repeat
        refine takesH_one (v := ?_) ?_ ?_
        rotate_left
        ·first | (refine Or.inr ⟨by rfl,?_⟩; with_reducible rfl) | (refine Or.inl ⟨by rfl,?_⟩; intro wx hSw; (try dsimp only at hSw); first | (go_simp; first | done | with_reducible rfl) | (obtain ⟨⟨_,_,_,_,_⟩,_⟩ := HALL.out _ hSw; go_simp; first | done | with_reducible rfl))
        try simp only [Act.put,zq1,zq2,zq3,zq4,zq5,zq6]
       refine takesH_nil ?_
       refine wpAnyH_ready (rs := [1]) (by kernel_rfl) (by simp) (AllReadyH.cons rfl (fun K hK => ?_) AllReadyH.nil)
       go_simp
       refine (col_any _ _ _ _ _ _ FM.out.1 FM.out.2).mono ?_
       rintro x v1 ⟨rfl,b1⟩
       rw [U1.out]
       try go_wp2_with fail
       refine hK.out _ _ ?_ (fun hHeld => ?_)
       ·exact next (by assumption) b1
       clear hK K
       try simp only [Act.put,zq1,zq2,zq3,zq4,zq5,zq6]
       refine takesH [2,3,4,5,6,7,8,9,10,11,12,13,14,15,16,17] ?_
       repeat
        refine takesH_one (v := ?_) ?_ ?_
        rotate_left
        ·first | (refine Or.inr ⟨by rfl,?_⟩; with_reducible rfl) | (refine Or.inl ⟨by rfl,?_⟩; intro wx hSw; (try dsimp only at hSw); first | (go_simp; first | done | with_reducible rfl) | (obtain ⟨⟨_,_,_,_,_⟩,_⟩ := HALL.out _ hSw; go_simp; first | done | with_reducible rfl))
        try simp only [Act.put,zq1,zq2,zq3,zq4,zq5,zq6]
       refine takesH_nil ?_
       refine wpAnyH_done (by kernel_rfl) ?_ _
       go_wp2
       go_ret
       exact ⟨rfl,next HBU.out hHeld⟩
   ·obtain rfl : t = n := by omega
    have hv : r = true := by rw [<- HR.out]; unfold colsB; rw [HL.out]; exact HG.out
    subst hv
    go_wp2
    go_ret
    exact ⟨rfl,HB.out⟩
 ·have d0 : decide ((8 : Int) < (n : Nat)) = true := by simp; omega
  have hv : r = false := by rw [<- hr,decide_eq_false h8]; rfl
  subst hv
  go_enter Tryz.func259,Tryz.ntmps259
  go_wp2
  go_ret
  exact ⟨rfl,Below.refl _ _⟩
theorem up_of_ok {R : Ro} (h : R.ok = true) : R.Up := by
 unfold Ro.ok at h
 simp only [Bool.and_eq_true] at h
 exact ⟨colsB_rise h.2.2.2.2.2,colsB_full h.2.2.2.2.2⟩
theorem len_join (R R' : Ro) : (R.join R').cols.length <= R.cols.length + R'.cols.length := mrg_length _ _
theorem cmp_any (s t : ByteArray) (d f : Bool) (a b e g : Int) (w : World) :
    Calls Tryz.prog 245 #[.agg #[.string s,.bool d,.int .i64 a,.int .i64 e],.agg #[.string t,.bool f,.int .i64 b,.int .i64 g]] w fun x w' => x = .returned (.int .i64 (Ce.cmp ⟨s,d,a,e⟩ ⟨t,f,b,g⟩)) /\ Below w.heap.size w w' := by
 have hr : Ce.cmp ⟨s,d,a,e⟩ ⟨t,f,b,g⟩ = orI [icmp a b,bcmp d f,tcmp s t,bcmp (e == 0) (g == 0),icmp e g] := by
  simp only [Ce.cmp,orI,show ∀ x,lexI x 0 = x from fun x => by unfold lexI; split <;> omega]
 rw [hr]
 have rd := RdZ.lit ((w.alloc (.cells #[.string s,.bool d,.int .i64 a,.int .i64 e] 42)).alloc (.cells #[.string t,.bool f,.int .i64 b,.int .i64 g] 42)).drew [icmp a b,bcmp d f,tcmp s t,bcmp (e == 0) (g == 0),icmp e g] (w.heap.size + 2) (by simp)
 have RDL := hid rd
 clear hr rd
 have p1 := (CeAt.new w s d a e).alloc (by simp) (.cells #[.string t,.bool f,.int .i64 b,.int .i64 g] 42)
 have p2 := CeAt.new (w.alloc (.cells #[.string s,.bool d,.int .i64 a,.int .i64 e] 42)) t f b g
 obtain ⟨c0,c1,c2,c3⟩ := p1
 obtain ⟨k0,k1,k2,k3⟩ := p2
 have bz := ((Below.refl w.heap.size w).alloc (Nat.le_refl _) (.cells #[.string s,.bool d,.int .i64 a,.int .i64 e] 42)).alloc (by simp) (.cells #[.string t,.bool f,.int .i64 b,.int .i64 g] 42)
 have BZ := hid bz
 simp only [World.size_alloc] at c0 c1 c2 c3 k0 k1 k2 k3
 clear bz
 obtain ⟨W2,hW2⟩ : ∃ W2,(w.alloc (.cells #[.string s,.bool d,.int .i64 a,.int .i64 e] 42)).alloc (.cells #[.string t,.bool f,.int .i64 b,.int .i64 g] 42) = W2 := ⟨_,rfl⟩
 have ka : ∀ (i q : Nat) (o : Obj) (v : Value),q < w.heap.size + 2 -> W2.cell? ⟨q,i,none⟩ = some v -> (W2.drew.alloc o).cell? ⟨q,i,none⟩ = some v := fun i q o v hq h =>
  (World.cell?_alloc_lt W2.drew o ⟨q,i,none⟩ (by rw [<- hW2]; show q < ((w.alloc (.cells #[.string s,.bool d,.int .i64 a,.int .i64 e] 42)).alloc (.cells #[.string t,.bool f,.int .i64 b,.int .i64 g] 42)).heap.size; simp; omega)).trans h
 rw [hW2] at c0 c1 c2 c3 k0 k1 k2 k3
 have ka0 := fun o => ka 0 w.heap.size o _ (by omega) c0
 have ka1 := fun o => ka 1 w.heap.size o _ (by omega) c1
 have ka2 := fun o => ka 2 w.heap.size o _ (by omega) c2
 have ka3 := fun o => ka 3 w.heap.size o _ (by omega) c3
 have kb0 := fun o => ka 0 (w.heap.size + 1) o _ (by omega) k0
 have kb1 := fun o => ka 1 (w.heap.size + 1) o _ (by omega) k1
 have kb2 := fun o => ka 2 (w.heap.size + 1) o _ (by omega) k2
 have kb3 := fun o => ka 3 (w.heap.size + 1) o _ (by omega) k3
 subst hW2
 go_enter Tryz.func245,Tryz.ntmps245
 go_wp2_with fail
 go_region_held3 (fun w' => (w'.cell? ⟨w.heap.size,0,none⟩ = some (.string s) /\ w'.cell? ⟨w.heap.size,1,none⟩ = some (.bool d) /\ w'.cell? ⟨w.heap.size,2,none⟩ = some (.int .i64 a) /\ w'.cell? ⟨w.heap.size,3,none⟩ = some (.int .i64 e)) /\ (w'.cell? ⟨w.heap.size + 1,0,none⟩ = some (.string t) /\ w'.cell? ⟨w.heap.size + 1,1,none⟩ = some (.bool f) /\ w'.cell? ⟨w.heap.size + 1,2,none⟩ = some (.int .i64 b) /\ w'.cell? ⟨w.heap.size + 1,3,none⟩ = some (.int .i64 g))) (refine ⟨⟨?_,?_,?_,?_⟩,?_,?_,?_,?_⟩ <;> first | assumption | exact ka0 _ | exact ka1 _ | exact ka2 _ | exact ka3 _ | exact kb0 _ | exact kb1 _ | exact kb2 _ | exact kb3 _) (first
  | (go_at_call 65; refine (cmpi_any _ _ _).mono ?_; rintro e w1 ⟨rfl,rfl⟩)
  | (go_at_call 262; refine (cmps_any _ _ _).mono ?_; rintro e w1 ⟨rfl,rfl⟩)
  | (go_at_call 261; refine (above_any _ _ _).mono ?_; rintro e w1 ⟨rfl,rfl⟩)
  | (go_at_call 260; refine (or_any _ _ _ (w.heap.size + 3) _ _ RDL.out (by simp) (by simp)).mono ?_; rintro e w1 ⟨rfl,b1⟩
     have q0 := (b1.cell (p := ⟨w.heap.size,0,none⟩) (by simp; omega)).trans (ka0 _)
     have q1 := (b1.cell (p := ⟨w.heap.size,1,none⟩) (by simp; omega)).trans (ka1 _)
     have q2 := (b1.cell (p := ⟨w.heap.size,2,none⟩) (by simp; omega)).trans (ka2 _)
     have q3 := (b1.cell (p := ⟨w.heap.size,3,none⟩) (by simp; omega)).trans (ka3 _)
     have q4 := (b1.cell (p := ⟨w.heap.size + 1,0,none⟩) (by simp)).trans (kb0 _)
     have q5 := (b1.cell (p := ⟨w.heap.size + 1,1,none⟩) (by simp)).trans (kb1 _)
     have q6 := (b1.cell (p := ⟨w.heap.size + 1,2,none⟩) (by simp)).trans (kb2 _)
     have q7 := (b1.cell (p := ⟨w.heap.size + 1,3,none⟩) (by simp)).trans (kb3 _)))
 go_wp2
 go_ret
 exact ⟨rfl,((BZ.out.drew).alloc (by simp; omega) _).trans (b1.mono (by simp; omega))⟩
theorem join_any (s t : ByteArray) (d f : Bool) (a b e g : Int) (w : World) :
    Calls Tryz.prog 217 #[.agg #[.string s,.bool d,.int .i64 a,.int .i64 e],.agg #[.string t,.bool f,.int .i64 b,.int .i64 g]] w fun x w' => x = .returned (Ce.join ⟨s,d,a,e⟩ ⟨t,f,b,g⟩).v /\ Below w.heap.size w w' := by
 obtain ⟨r,hr⟩ : ∃ r,Ce.cmp ⟨s,d,a,e⟩ ⟨t,f,b,g⟩ = r := ⟨_,rfl⟩
 have hj : (Ce.join ⟨s,d,a,e⟩ ⟨t,f,b,g⟩) = if r < 0 then ⟨t,f,b,g⟩ else ⟨s,d,a,e⟩ := by unfold Ce.join; rw [hr]
 rw [hj]
 have HR := hid hr
 clear hj hr
 have p1 := ((CeAt.new w s d a e).alloc (by simp) (.cells #[.string t,.bool f,.int .i64 b,.int .i64 g] 42)).alloc (by simp; omega) (.cells #[.string ⟨#[]⟩,.bool false,.int .i64 0,.int .i64 0] 42)
 have p2 := (CeAt.new (w.alloc (.cells #[.string s,.bool d,.int .i64 a,.int .i64 e] 42)) t f b g).alloc (by simp) (.cells #[.string ⟨#[]⟩,.bool false,.int .i64 0,.int .i64 0] 42)
 have p3 := CeAt.new ((w.alloc (.cells #[.string s,.bool d,.int .i64 a,.int .i64 e] 42)).alloc (.cells #[.string t,.bool f,.int .i64 b,.int .i64 g] 42)) ⟨#[]⟩ false 0 0
 have hZ := heap_alloc_new ((w.alloc (.cells #[.string s,.bool d,.int .i64 a,.int .i64 e] 42)).alloc (.cells #[.string t,.bool f,.int .i64 b,.int .i64 g] 42)) (.cells #[.string ⟨#[]⟩,.bool false,.int .i64 0,.int .i64 0] 42)
 simp only [World.size_alloc] at p1 p2 p3 hZ
 have P1 := hid p1; have P2 := hid p2; have P3 := hid p3
 clear p1 p2 p3
 have BZ := hid ((((Below.refl w.heap.size w).alloc (Nat.le_refl _) (.cells #[.string s,.bool d,.int .i64 a,.int .i64 e] 42)).alloc (by simp) (.cells #[.string t,.bool f,.int .i64 b,.int .i64 g] 42)).alloc (by simp; omega) (.cells #[.string ⟨#[]⟩,.bool false,.int .i64 0,.int .i64 0] 42))
 by_cases h : r < 0
 ·rw [if_pos h]
  go_enter Tryz.func217,Tryz.ntmps217
  go_wp2_with fail
  refine (cmp_any _ _ _ _ _ _ _ _ _).mono ?_
  rintro e w1 ⟨rfl,b1⟩
  rw [HR.out]
  obtain ⟨q0,q1,q2,q3⟩ := P2.out.below b1 (by simp)
  have kz := (b1.block (w.heap.size + 1 + 1) (by simp)).trans hZ
  obtain ⟨z0,z1,z2,z3⟩ := P3.out.below b1 (by simp)
  have y0 := thawed_at (i := 0) kz
  have y1 := thawed_at (i := 1) kz
  have y2 := thawed_at (i := 2) kz
  have y3 := thawed_at (i := 3) kz
  go_wp2
  refine bodyPost_ret (v := .agg #[.string t,.bool f,.int .i64 b,.int .i64 g]) (by simp [results,Tryz.results217,go_sem,z0,z1,z2,z3]) rfl ⟨rfl,?_⟩
  exact ((((BZ.out.trans (b1.mono (by simp; omega))).setCell (by simp; omega) _).setCell (by simp; omega) _).setCell (by simp; omega) _).setCell (by simp; omega) _
 ·rw [if_neg h]
  go_enter Tryz.func217,Tryz.ntmps217
  go_wp2_with fail
  refine (cmp_any _ _ _ _ _ _ _ _ _).mono ?_
  rintro e w1 ⟨rfl,b1⟩
  rw [HR.out]
  obtain ⟨q0,q1,q2,q3⟩ := P1.out.below b1 (by simp; omega)
  have kz := (b1.block (w.heap.size + 1 + 1) (by simp)).trans hZ
  obtain ⟨z0,z1,z2,z3⟩ := P3.out.below b1 (by simp)
  have y0 := thawed_at (i := 0) kz
  have y1 := thawed_at (i := 1) kz
  have y2 := thawed_at (i := 2) kz
  have y3 := thawed_at (i := 3) kz
  go_wp2
  refine bodyPost_ret (v := .agg #[.string s,.bool d,.int .i64 a,.int .i64 e]) (by simp [results,Tryz.results217,go_sem,z0,z1,z2,z3]) rfl ⟨rfl,?_⟩
  exact ((((BZ.out.trans (b1.mono (by simp; omega))).setCell (by simp; omega) _).setCell (by simp; omega) _).setCell (by simp; omega) _).setCell (by simp; omega) _
theorem compareBytes_eq : ∀ (a b : List UInt8),Lib.compareBytes a b = if a < b then -1 else if b < a then 1 else 0
 | [],[] => by rw [if_neg (List.lt_irrefl _),if_neg (List.lt_irrefl _)]; rfl
 | [],_ :: _ => by rw [if_pos (by exact List.nil_lt_cons _ _)]; rfl
 | _ :: _,[] => by rw [if_neg (by exact fun h => by cases h),if_pos (by exact List.nil_lt_cons _ _)]; rfl
 | x :: a,y :: b => by
   have ih := compareBytes_eq a b
   unfold Lib.compareBytes
   by_cases h1 : x < y
   ·rw [if_pos h1,if_pos (List.cons_lt_cons_iff.2 (.inl h1))]
   ·rw [if_neg h1]
    by_cases h2 : y < x
    ·rw [if_pos h2,if_neg (fun h => (List.cons_lt_cons_iff.1 h).elim h1 (fun h3 => h1 (by have := h3.1; subst this; exact absurd h2 h1))),if_pos (List.cons_lt_cons_iff.2 (.inl h2))]
    ·rw [if_neg h2,ih]
     have e : x = y := by
      have h3 := UInt8.not_lt.1 h1
      have h4 := UInt8.not_lt.1 h2
      exact UInt8.le_antisymm h4 h3
     subst e
     simp only [List.cons_lt_cons_iff,UInt8.lt_irrefl,false_or,true_and]
theorem compareBytes_t (a b : ByteArray) : Lib.compareBytes a.data.toList b.data.toList = tcmp a b := compareBytes_eq _ _
theorem cmpstr_any (a b : ByteArray) (w : World) :
    Calls Tryz.prog 91 #[.string a,.string b] w fun e w' => e = .returned (.int .i64 (tcmp a b)) /\ w = w' := by
 go_enter Tryz.func91,Tryz.ntmps91
 go_wp2
 rw [run_callFunc_extern Tryz.func146 (by kernel_rfl) (by kernel_rfl) (by kernel_rfl) (e := Extern.BytealgCompare.compare) (by kernel_rfl),Lib.run_compareString,compareBytes_t]
 simp only [Result.andThen]
 rw [Oper.upon_value]
 go_wp2
 go_ret
 exact ⟨rfl,rfl⟩
theorem strcmp_any (a b : ByteArray) (w : World) :
    Calls Tryz.prog 57 #[.string a,.string b] w fun e w' => e = .returned (.int .i64 (tcmp a b)) /\ w = w' := by
 go_enter Tryz.func57,Tryz.ntmps57
 go_wp2_with fail
 refine (cmpstr_any _ _ _).mono ?_
 rintro e w' ⟨rfl,rfl⟩
 go_wp2
 go_ret
 exact ⟨rfl,rfl⟩
theorem byname_any (m s m' s' : ByteArray) (d d' : Bool) (a e a' e' : Int) (w : World) :
    Calls Tryz.prog 219 #[.agg #[.string m,.string s,.bool d,.int .i64 a,.int .i64 e],.agg #[.string m',.string s',.bool d',.int .i64 a',.int .i64 e']] w fun x w' => x = .returned (.int .i64 (tcmp m m')) /\ Below w.heap.size w w' := by
 have bz := hid (((Below.refl w.heap.size w).alloc (Nat.le_refl _) (.cells #[.string m,.string s,.bool d,.int .i64 a,.int .i64 e] 282)).alloc (by simp) (.cells #[.string m',.string s',.bool d',.int .i64 a',.int .i64 e'] 282))
 go_enter Tryz.func219,Tryz.ntmps219
 go_wp2_with fail
 refine (strcmp_any _ _ _).mono ?_
 rintro x w' ⟨rfl,rfl⟩
 go_wp2
 go_ret
 exact ⟨rfl,bz.out⟩
theorem joincols_any (m s m' s' : ByteArray) (d d' : Bool) (a e a' e' : Int) (w : World) :
    Calls Tryz.prog 220 #[.agg #[.string m,.string s,.bool d,.int .i64 a,.int .i64 e],.agg #[.string m',.string s',.bool d',.int .i64 a',.int .i64 e']] w fun x w' => ∃ js jd ja je,Ce.join ⟨s,d,a,e⟩ ⟨s',d',a',e'⟩ = ⟨js,jd,ja,je⟩ /\ x = .returned (.agg #[.string m,.string js,.bool jd,.int .i64 ja,.int .i64 je]) /\ Below w.heap.size w w' := by
 obtain ⟨⟨js,jd,ja,je⟩,hj⟩ : ∃ c,Ce.join ⟨s,d,a,e⟩ ⟨s',d',a',e'⟩ = c := ⟨_,rfl⟩
 have J1 := hid (congrArg Ce.v hj)
 unfold Ce.v at J1
 have HJ := hid hj
 have bz := ((((Below.refl w.heap.size w).alloc (Nat.le_refl _) (.cells #[.string m,.string s,.bool d,.int .i64 a,.int .i64 e] 282)).alloc (by simp) (.cells #[.string m',.string s',.bool d',.int .i64 a',.int .i64 e'] 282))).alloc (by simp; omega) (.cells #[.string ⟨#[]⟩,.string ⟨#[]⟩,.bool false,.int .i64 0,.int .i64 0] 282)
 have z0 := heap_alloc_new w (.cells #[.string m,.string s,.bool d,.int .i64 a,.int .i64 e] 282)
 have z1 := new_at z0 (.cells #[.string m',.string s',.bool d',.int .i64 a',.int .i64 e'] 282)
 have z2 := new_at z1 (.cells #[.string ⟨#[]⟩,.string ⟨#[]⟩,.bool false,.int .i64 0,.int .i64 0] 282)
 have y1 := heap_alloc_new (w.alloc (.cells #[.string m,.string s,.bool d,.int .i64 a,.int .i64 e] 282)) (.cells #[.string m',.string s',.bool d',.int .i64 a',.int .i64 e'] 282)
 simp only [World.size_alloc] at y1
 have y2 := new_at y1 (.cells #[.string ⟨#[]⟩,.string ⟨#[]⟩,.bool false,.int .i64 0,.int .i64 0] 282)
 have x2 := heap_alloc_new ((w.alloc (.cells #[.string m,.string s,.bool d,.int .i64 a,.int .i64 e] 282)).alloc (.cells #[.string m',.string s',.bool d',.int .i64 a',.int .i64 e'] 282)) (.cells #[.string ⟨#[]⟩,.string ⟨#[]⟩,.bool false,.int .i64 0,.int .i64 0] 282)
 simp only [World.size_alloc] at x2
 obtain ⟨V,hV⟩ : ∃ V,V = ((w.alloc (.cells #[.string m,.string s,.bool d,.int .i64 a,.int .i64 e] 282)).alloc (.cells #[.string m',.string s',.bool d',.int .i64 a',.int .i64 e'] 282)).alloc (.cells #[.string ⟨#[]⟩,.string ⟨#[]⟩,.bool false,.int .i64 0,.int .i64 0] 282) := ⟨_,rfl⟩
 have hVs : V.heap.size = w.heap.size + 3 := by rw [hV]; simp
 rw [<- hV] at bz z2 y2 x2
 have p0 := cell_at (i := 0) z2 rfl
 have p1 := cell_at (i := 1) z2 rfl
 have p2 := cell_at (i := 2) z2 rfl
 have p3 := cell_at (i := 3) z2 rfl
 have p4 := cell_at (i := 4) z2 rfl
 have q1 := cell_at (i := 1) y2 rfl
 have q2 := cell_at (i := 2) y2 rfl
 have q3 := cell_at (i := 3) y2 rfl
 have q4 := cell_at (i := 4) y2 rfl
 have Z2 := hid z2; have X2 := hid x2; have HVS := hid hVs; have BZ := hid bz
 have HLE := hid (show w.heap.size <= w.heap.size + 1 + 1 by omega)
 clear hj z0 z1 z2 y1 y2 x2 hVs bz
 go_enter Tryz.func220,Tryz.ntmps220
 go_wp2_with fail
 rw [<- hV]
 clear hV
 go_region_with (first
  | (go_at_call 217; refine (join_any _ _ _ _ _ _ _ _ _).mono ?_; rintro x w2 ⟨rfl,b2⟩; unfold Ce.v; rw [J1.out]
     have b2' := next (w := V) (by first | exact (Below.refl _ _).drew | exact below_draws _ _ _ | exact Below.refl _ _) b2
     have m0 := cell_at (i := 0) ((b2'.block w.heap.size (by have := HVS.out; omega)).trans Z2.out) rfl
     have T2 := (b2'.block (w.heap.size + 1 + 1) (by have := HVS.out; omega)).trans X2.out
     have k0 := cell_at (i := 0) T2 rfl
     have k1 := cell_at (i := 1) T2 rfl
     have k2 := cell_at (i := 2) T2 rfl
     have k3 := cell_at (i := 3) T2 rfl
     have k4 := cell_at (i := 4) T2 rfl
     have f0 := thawed_at (i := 0) T2
     have f1 := thawed_at (i := 1) T2
     have f2 := thawed_at (i := 2) T2
     have f3 := thawed_at (i := 3) T2
     have f4 := thawed_at (i := 4) T2
     have BL := hid (next BZ.out b2')
     clear T2))
 all_goals go_wp2
 all_goals refine bodyPost_ret (v := .agg #[.string m,.string js,.bool jd,.int .i64 ja,.int .i64 je]) ?_ rfl ⟨js,jd,ja,je,HJ.out,rfl,?_⟩
 all_goals first
  | (simp [results,Tryz.results220,go_sem,k0,k1,k2,k3,k4]; done)
  | exact ((((BL.out.setCell HLE.out _).setCell HLE.out _).setCell HLE.out _).setCell HLE.out _).setCell HLE.out _
  | exact True.intro
end Go.Proofs.YtmpcnhpdobdmcaaGreatDoor
namespace Go.Proofs.YtmpcnhpdobdmcaaGreatDoor
open Go Go.RowKit
section
variable {α : Type} {jn : α -> α -> α} {G : α -> Prop}
theorem riseK_few {key : α -> ByteArray} : ∀ {l : List α} {ks : List ByteArray},RiseK key l -> (∀ x ∈ l,key x ∈ ks) -> l.length <= ks.length
 | [],ks,_,_ => Nat.zero_le _
 | x :: l,ks,h,hk => by
   have hx : key x ∈ ks := hk x (List.mem_cons_self ..)
   have ih := riseK_few (l := l) (ks := ks.filter fun k => decide (k ≠ key x)) h.2 fun y hy => List.mem_filter.2 ⟨hk y (List.mem_cons_of_mem _ hy),decide_eq_true_iff.2 (nlt_ne (h.1 y hy)).symm⟩
   have hlt : (ks.filter fun k => decide (k ≠ key x)).length < ks.length := List.length_filter_lt_length_iff_exists.2 ⟨key x,hx,by simp⟩
   rw [List.length_cons]
   omega
end
theorem JR : JK Ro.key Ro.join Ro.Up where
 key_ := fun x y _ => rfl
 good := fun hx hy _ => hx.join hy
 comm := fun hx hy e => ro_comm e hx hy
 assoc := fun hx hy hz _ _ => ro_assoc hx hy hz
 self := fun hx => ro_self hx
abbrev Rows := List Ro
abbrev RiseR (l : Rows) : Prop := RiseK Ro.key l
abbrev mrgR (l k : Rows) : Rows := mrgK Ro.key Ro.join l k
structure Pa where
 key : ByteArray
 gone : Int
 rows : Rows
def Pa.join (a b : Pa) : Pa := ⟨a.key,max a.gone b.gone,mrgR a.rows b.rows⟩
structure Pa.Up (p : Pa) : Prop where
 rise : RiseR p.rows
 up : AllK Ro.Up p.rows
theorem Pa.Up.join {a b : Pa} (ha : a.Up) (hb : b.Up) : (a.join b).Up := ⟨mrgK_rise JR.key_ ha.rise,AllK.mrg JR ha.up hb.up⟩
theorem pa_comm {a b : Pa} (hk : a.key = b.key) (ha : a.Up) (hb : b.Up) : a.join b = b.join a := by
 unfold Pa.join mrgR
 rw [hk,Int.max_comm a.gone,mrgK_comm JR ha.rise ha.up hb.rise hb.up]
theorem pa_assoc {a b c : Pa} (ha : a.Up) (hb : b.Up) (hc : c.Up) : (a.join b).join c = a.join (b.join c) := by
 unfold Pa.join mrgR
 simp only
 rw [Int.max_assoc,mrgK_assoc JR ha.rise ha.up hb.rise hb.up hc.rise hc.up]
end Go.Proofs.YtmpcnhpdobdmcaaGreatDoor
namespace Go.Proofs.YtmpcnhpdobdmcaaGreatDoor
open Go Go.RowKit
def goodR (l : Rows) (j : Nat) : Bool :=
 match l[j]? with
 | none => true
 | some x => x.ok && (match j with
   | 0 => true
   | i + 1 => match l[i]? with
     | none => true
     | some y => decide (nlt y.key x.key))
def rowsB (l : Rows) : Bool := (List.range l.length).all (goodR l)
def Pa.ok (p : Pa) : Bool := decide (p.key.size <= 100) && (stm p.gone && (decide (p.rows.length <= 100) && rowsB p.rows))
theorem goodR_zero {l : Rows} (h : 0 < l.length) : goodR l 0 = l[0].ok := by
 unfold goodR
 rw [List.getElem?_eq_getElem h]
 simp
theorem goodR_succ {l : Rows} {i : Nat} (h : i + 1 < l.length) : goodR l (i + 1) = (l[i + 1].ok && decide (nlt l[i].key l[i + 1].key)) := by
 unfold goodR
 rw [List.getElem?_eq_getElem h]
 simp only
 rw [List.getElem?_eq_getElem (by omega)]
theorem goodsR_step {l : Rows} {t : Nat} (h : (List.range t).all (goodR l) = true) (hg : goodR l t = true) : (List.range (t + 1)).all (goodR l) = true := by
 rw [List.range_succ,List.all_append,h]
 simp [hg]
theorem goodsR_no {l : Rows} {t : Nat} (ht : t < l.length) (hg : goodR l t = false) : rowsB l = false := by
 unfold rowsB
 rw [List.all_eq_false]
 exact ⟨t,List.mem_range.2 ht,by rw [hg]; decide⟩
theorem rowsB_at {l : Rows} (h : rowsB l = true) {j : Nat} (hj : j < l.length) : goodR l j = true := List.all_eq_true.1 h j (List.mem_range.2 hj)
theorem rowsB_each {l : Rows} (h : rowsB l = true) : ∀ r ∈ l,r.ok = true := fun r hr => by
 obtain ⟨j,hj,rfl⟩ := List.mem_iff_getElem.1 hr
 have := rowsB_at h hj
 match j,hj with
 | 0,hj => rwa [goodR_zero hj] at this
 | i + 1,hj =>
   rw [goodR_succ hj,Bool.and_eq_true] at this
   exact this.1
theorem rowsB_rise {l : Rows} (h : rowsB l = true) : RiseR l := riseK_of fun i hi => by
 have := rowsB_at h hi
 rw [goodR_succ hi,Bool.and_eq_true,decide_eq_true_iff] at this
 exact this.2
theorem Pa.ok_of {p : Pa} (h : p.ok = true) : p.key.size <= 100 /\ stm p.gone = true /\ p.rows.length <= 100 /\ rowsB p.rows = true := by
 unfold Pa.ok at h
 simpa only [Bool.and_eq_true,decide_eq_true_iff] using h
theorem Pa.ok_up {p : Pa} (h : p.ok = true) : p.Up := ⟨rowsB_rise (Pa.ok_of h).2.2.2,fun r hr => up_of_ok (rowsB_each (Pa.ok_of h).2.2.2 r hr)⟩
end Go.Proofs.YtmpcnhpdobdmcaaGreatDoor
namespace Go.Proofs.YtmpcnhpdobdmcaaGreatDoor
open Go
abbrev Stm (n : Int) : Prop := 0 <= n /\ n <= 1099511627776
def tailE (c : Ce) : Bs := if c.a = 0 then [] else if c.d = true then [1] else 0 :: (tE c.s ++ numL c.e.toNat)
def cE (c : Ce) : Bs := numL c.a.toNat ++ tailE c
def tailP (a : Int) : Pz Ce := if a = 0 then retP noC else fun l => match l with
 | [] => .error 8
 | b :: r => if b = 0 then (bindP txtP fun s => bindP numP fun e => retP ⟨s,false,a,e⟩) r else if b = 1 then .ok (⟨⟨#[]⟩,true,a,0⟩,r) else .error 6
def cellP : Pz Ce := bindP numP fun a => tailP a
def Ce.Gd (c : Ce) : Prop := Stm c.a /\ (c.a = 0 -> c = noC) /\ (c.a ≠ 0 -> c.d = true -> c.s = ⟨#[]⟩ /\ c.e = 0) /\ (c.a ≠ 0 -> c.d = false -> c.s.size < 18446744073709551616 /\ Stm c.e)
theorem Ce.gd_of {c : Ce} (h : c.ok = true) : c.Gd := by
 unfold Ce.ok at h
 split at h
 ·rename_i h0
  have := (same_iff _ _).1 h
  exact ⟨by rw [h0]; exact ⟨Int.le_refl _,by decide⟩,fun _ => this,fun hn => absurd h0 hn,fun hn => absurd h0 hn⟩
 ·rename_i h0
  split at h
  ·cases h
  ·rename_i h1
   have hs : stm c.a = true := by cases e : stm c.a <;> simp_all
   unfold stm at hs
   simp only [Bool.and_eq_true,decide_eq_true_iff] at hs
   split at h
   ·rename_i h2
    have h3 := (same_iff _ _).1 h
    exact ⟨hs,fun e => absurd e h0,fun _ _ => by rw [h3]; exact ⟨rfl,rfl⟩,fun _ e => by rw [h2] at e; cases e⟩
   ·rename_i h2
    unfold stm at h
    simp only [Bool.and_eq_true,decide_eq_true_iff] at h
    exact ⟨hs,fun e => absurd e h0,fun _ e => absurd e h2,fun _ _ => ⟨by omega,h.2⟩⟩
theorem alive_codec : Codec (bindP txtP fun s => bindP numP fun e => retP (s,e)) (fun z : ByteArray × Int => tE z.1 ++ numL z.2.toNat) (fun z => z.1.size < 18446744073709551616 /\ Stm z.2) (fun z => z.1.size < 18446744073709551616 /\ Stm z.2) :=
 txt_codec.seq (q := fun _ => numP) (f := fun _ e => numL e.toNat) (H := fun _ e => Stm e) (U := fun _ e => Stm e) fun _ => num_codec
theorem alive_of (a : Int) (r : Bs) : (bindP txtP fun s => bindP numP fun e => retP (⟨s,false,a,e⟩ : Ce)) r = match (bindP txtP fun s => bindP numP fun e => retP (s,e)) r with
    | .error c => .error c
    | .ok z => .ok (⟨z.1.1,false,a,z.1.2⟩,z.2) := by
 unfold bindP
 cases txtP r with
 | error c => rfl
 | ok x =>
   dsimp only
   cases numP x.2 with
   | error c => rfl
   | ok y => rfl
theorem tail_codec (a : Int) (ha : Stm a) : Codec (tailP a) tailE (fun c => c.a = a /\ c.Gd) (fun c => c.a = a /\ c.Gd) where
 back := fun {c} r hc => by
  obtain ⟨rfl,hg⟩ := hc
  unfold tailP tailE
  by_cases h0 : c.a = 0
  ·rw [if_pos h0,if_pos h0,hg.2.1 h0]; rfl
  ·rw [if_neg h0,if_neg h0]
   cases hd : c.d
   ·rw [if_neg (by simp)]
    have h1 := alive_codec.back (x := (c.s,c.e)) r (hg.2.2.2 h0 hd)
    dsimp only at h1 ⊢
    rw [List.cons_append]
    dsimp only
    rw [if_pos rfl,alive_of,h1]
    obtain ⟨s,d,a,e⟩ := c
    simp only at hd
    subst hd
    rfl
   ·rw [if_pos rfl]
    dsimp only [List.singleton_append]
    rw [if_neg (by decide),if_pos rfl]
    have := hg.2.2.1 h0 hd
    obtain ⟨s,d,a,e⟩ := c
    simp only at this hd
    obtain ⟨rfl,rfl⟩ := this
    subst hd
    rfl
 canon := fun {l c r} h => by
  unfold tailP at h
  split at h
  ·rename_i h0
   injection h with h
   injection h with h1 h2
   subst h1; subst h2
   subst h0
   exact ⟨rfl,rfl,ha,fun _ => rfl,fun h => absurd rfl h,fun h => absurd rfl h⟩
  ·rename_i h0
   cases l with
   | nil => cases h
   | cons b t =>
     dsimp only at h
     split at h
     ·rename_i hb
      subst hb
      rw [alive_of] at h
      cases hx : (bindP txtP fun s => bindP numP fun e => retP (s,e)) t with
      | error c => rw [hx] at h; cases h
      | ok z =>
        rw [hx] at h
        injection h with h
        injection h with h1 h2
        subst h1; subst h2
        have d := alive_codec.canon hx
        refine ⟨?_,rfl,ha,fun e => absurd e h0,fun _ e => (by cases e),fun _ _ => ⟨?_,d.2.2⟩⟩
        ·unfold tailE
         rw [if_neg h0,if_neg (by simp),List.cons_append]
         exact congrArg (0 :: ·) d.1
        ·exact d.2.1
     ·split at h
      ·rename_i hb0 hb1
       injection h with h
       injection h with h1 h2
       subst h1; subst h2
       subst hb1
       refine ⟨?_,rfl,ha,fun e => absurd e h0,fun _ _ => ⟨rfl,rfl⟩,fun _ e => by cases e⟩
       unfold tailE
       rw [if_neg h0,if_pos rfl]; rfl
      ·cases h
 cut := fun {c k} hc hk => by
  obtain ⟨rfl,hg⟩ := hc
  unfold tailP
  unfold tailE at hk ⊢
  by_cases h0 : c.a = 0
  ·rw [if_pos h0] at hk; exact absurd hk (by simp)
  ·rw [if_neg h0] at hk ⊢
   rw [if_neg h0]
   cases hd : c.d
   ·rw [hd,if_neg (by simp)] at hk
    rw [if_neg (by simp)]
    cases k with
    | zero => rfl
    | succ k =>
      rw [List.take_succ_cons]
      dsimp only
      rw [if_pos rfl,alive_of,alive_codec.cut (x := (c.s,c.e)) (hg.2.2.2 h0 hd) (by simpa using hk)]
   ·rw [hd,if_pos rfl] at hk
    rw [if_pos rfl]
    obtain rfl : k = 0 := by simpa using hk
    rfl
 errs := fun {l c} h => by
  unfold tailP at h
  split at h
  ·cases h
  ·cases l with
   | nil => injection h with h; exact Or.inl h.symm
   | cons b t =>
     dsimp only at h
     split at h
     ·rw [alive_of] at h
      cases hx : (bindP txtP fun s => bindP numP fun e => retP (s,e)) t with
      | error c' => rw [hx] at h; injection h with h; subst h; exact alive_codec.errs hx
      | ok z => rw [hx] at h; cases h
     ·split at h
      ·cases h
      ·injection h with h; exact Or.inr h.symm
theorem cell_codec : Codec cellP cE Ce.Gd Ce.Gd where
 back := fun {c} r hc => by
  unfold cellP cE
  rw [List.append_assoc,bind_ok (num_codec.back _ hc.1)]
  exact (tail_codec c.a hc.1).back r ⟨rfl,hc⟩
 canon := fun {l c r} h => by
  rcases bind_cases h with ⟨x,_,hx⟩ | ⟨a,t,ha,hq⟩
  ·cases hx
  ·have d := num_codec.canon ha
   have e := (tail_codec a d.2).canon hq
   refine ⟨?_,e.2.2⟩
   unfold cE
   rw [d.1,e.1,e.2.1,List.append_assoc]
 cut := fun {c k} hc hk => by
  unfold cellP
  unfold cE at hk ⊢
  rw [List.length_append] at hk
  rcases Nat.lt_or_ge k (numL c.a.toNat).length with h1 | h1
  ·rw [List.take_append_of_le_length (Nat.le_of_lt h1)]
   exact bind_err (num_codec.cut hc.1 h1)
  ·rw [List.take_append,List.take_of_length_le h1,bind_ok (num_codec.back _ hc.1)]
   exact (tail_codec c.a hc.1).cut ⟨rfl,hc⟩ (by omega)
 errs := fun {l c} h => by
  rcases bind_cases h with ⟨x,h1,h2⟩ | ⟨a,t,ha,hq⟩
  ·injection h2 with h2; subst h2; exact num_codec.errs h1
  ·exact (tail_codec a (num_codec.canon ha).2).errs hq
def kE (x : ByteArray × Ce) : Bs := tE x.1 ++ cE x.2
def colP : Pz (ByteArray × Ce) := bindP txtP fun n => bindP cellP fun c => retP (n,c)
def ColG (x : ByteArray × Ce) : Prop := x.1.size < 18446744073709551616 /\ x.2.Gd
theorem col_codec : Codec colP kE ColG (fun x => x.1.size < 18446744073709551616 /\ x.2.Gd) :=
 txt_codec.seq (q := fun _ => cellP) (f := fun _ c => cE c) (H := fun _ c => c.Gd) (U := fun _ c => c.Gd) fun _ => cell_codec
theorem numL_pos (v : Nat) : 1 <= (numL v).length := by rw [numL_length]; omega
theorem tE_pos (s : ByteArray) (r : Bs) : 1 <= (tE s ++ r).length := by
 unfold tE
 rw [List.length_append,List.length_append]
 have := numL_pos s.size
 omega
def rE (r : Ro) : Bs := tE r.key ++ (cE r.live ++ (numL r.gone.toNat ++ (numL r.shade.toNat ++ (numL r.cols.length ++ r.cols.flatMap kE))))
def rowT : Pz (ByteArray × (Ce × (Int × (Int × Cols)))) := bindP txtP fun k => bindP (bindP cellP fun c => bindP (bindP numP fun g => bindP (bindP numP fun h => bindP (listP colP) fun l => retP (h,l)) fun y => retP (g,y)) fun y => retP (c,y)) fun y => retP (k,y)
def rowP : Pz Ro := bindP rowT fun z => retP ⟨z.1,z.2.1,z.2.2.1,z.2.2.2.1,z.2.2.2.2⟩
def Ro.Gd (r : Ro) : Prop := r.key.size < 18446744073709551616 /\ (r.live.Gd /\ (Stm r.gone /\ (Stm r.shade /\ (r.cols.length < 18446744073709551616 /\ ∀ x ∈ r.cols,ColG x))))
theorem cols_codec : Codec (listP colP) (fun l : Cols => numL l.length ++ l.flatMap kE) (fun l => l.length < 18446744073709551616 /\ ∀ x ∈ l,ColG x) (fun l => l.length < 18446744073709551616 /\ ∀ x ∈ l,x.1.size < 18446744073709551616 /\ x.2.Gd) :=
 col_codec.list fun x _ => tE_pos x.1 (cE x.2)
theorem rowT_codec : Codec rowT (fun z : ByteArray × (Ce × (Int × (Int × Cols))) => tE z.1 ++ (cE z.2.1 ++ (numL z.2.2.1.toNat ++ (numL z.2.2.2.1.toNat ++ (numL z.2.2.2.2.length ++ z.2.2.2.2.flatMap kE)))))
    (fun z => z.1.size < 18446744073709551616 /\ (z.2.1.Gd /\ (Stm z.2.2.1 /\ (Stm z.2.2.2.1 /\ (z.2.2.2.2.length < 18446744073709551616 /\ ∀ x ∈ z.2.2.2.2,ColG x)))))
    (fun z => z.1.size < 18446744073709551616 /\ (z.2.1.Gd /\ (Stm z.2.2.1 /\ (Stm z.2.2.2.1 /\ (z.2.2.2.2.length < 18446744073709551616 /\ ∀ x ∈ z.2.2.2.2,x.1.size < 18446744073709551616 /\ x.2.Gd))))) :=
 txt_codec.seq (q := fun _ => _) (f := fun _ y => _) (H := fun _ y => _) (U := fun _ y => _) fun _ =>
  cell_codec.seq (q := fun _ => _) (f := fun _ y => _) (H := fun _ y => _) (U := fun _ y => _) fun _ =>
   num_codec.seq (q := fun _ => _) (f := fun _ y => _) (H := fun _ y => _) (U := fun _ y => _) fun _ =>
    num_codec.seq (q := fun _ => _) (f := fun _ y => _) (H := fun _ y => _) (U := fun _ y => _) fun _ => cols_codec
theorem row_codec : Codec rowP rE Ro.Gd Ro.Gd :=
 rowT_codec.map (fun z => (⟨z.1,z.2.1,z.2.2.1,z.2.2.2.1,z.2.2.2.2⟩ : Ro)) (fun r => (r.key,r.live,r.gone,r.shade,r.cols)) Ro.Gd Ro.Gd (fun _ _ => rfl) (fun _ h => h) (fun _ _ => rfl) (fun _ h => h)
def pE (p : Pa) : Bs := tE p.key ++ (numL p.gone.toNat ++ (numL p.rows.length ++ p.rows.flatMap rE))
def partT : Pz (ByteArray × (Int × List Ro)) := bindP txtP fun k => bindP (bindP numP fun g => bindP (listP rowP) fun l => retP (g,l)) fun y => retP (k,y)
def partP : Pz Pa := bindP partT fun z => retP ⟨z.1,z.2.1,z.2.2⟩
def Pa.Gd (p : Pa) : Prop := p.key.size < 18446744073709551616 /\ (Stm p.gone /\ (p.rows.length < 18446744073709551616 /\ ∀ x ∈ p.rows,x.Gd))
theorem rows_codec : Codec (listP rowP) (fun l : List Ro => numL l.length ++ l.flatMap rE) (fun l => l.length < 18446744073709551616 /\ ∀ x ∈ l,x.Gd) (fun l => l.length < 18446744073709551616 /\ ∀ x ∈ l,x.Gd) :=
 row_codec.list fun x _ => tE_pos x.key _
theorem partT_codec : Codec partT (fun z : ByteArray × (Int × List Ro) => tE z.1 ++ (numL z.2.1.toNat ++ (numL z.2.2.length ++ z.2.2.flatMap rE)))
    (fun z => z.1.size < 18446744073709551616 /\ (Stm z.2.1 /\ (z.2.2.length < 18446744073709551616 /\ ∀ x ∈ z.2.2,x.Gd))) (fun z => z.1.size < 18446744073709551616 /\ (Stm z.2.1 /\ (z.2.2.length < 18446744073709551616 /\ ∀ x ∈ z.2.2,x.Gd))) :=
 txt_codec.seq (q := fun _ => _) (f := fun _ y => _) (H := fun _ y => _) (U := fun _ y => _) fun _ =>
  num_codec.seq (q := fun _ => _) (f := fun _ y => _) (H := fun _ y => _) (U := fun _ y => _) fun _ => rows_codec
theorem part_codec : Codec partP pE Pa.Gd Pa.Gd :=
 partT_codec.map (fun z => (⟨z.1,z.2.1,z.2.2⟩ : Pa)) (fun p => (p.key,p.gone,p.rows)) Pa.Gd Pa.Gd (fun _ _ => rfl) (fun _ h => h) (fun _ _ => rfl) (fun _ h => h)
theorem Ro.gd_of {r : Ro} (h : r.ok = true) : r.Gd := by
 have hc : ∀ x ∈ r.cols,colB x = true := by
  unfold Ro.ok at h
  simp only [Bool.and_eq_true,decide_eq_true_iff] at h
  intro x hx
  obtain ⟨j,hj,rfl⟩ := List.getElem_of_mem hx
  have h1 := List.all_eq_true.1 h.2.2.2.2.2 j (List.mem_range.2 hj)
  cases j with
  | zero => rwa [good_zero hj] at h1
  | succ j =>
    rw [good_succ hj,Bool.and_eq_true] at h1
    exact h1.1
 unfold Ro.ok liveB stm at h
 simp only [Bool.and_eq_true,decide_eq_true_iff] at h
 refine ⟨by omega,Ce.gd_of h.2.1.1,h.2.2.1,h.2.2.2.1,by omega,fun x hx => ?_⟩
 have h1 := hc x hx
 unfold colB nameB at h1
 simp only [Bool.and_eq_true,decide_eq_true_iff] at h1
 exact ⟨by omega,Ce.gd_of h1.2.1⟩
theorem Pa.gd_of {p : Pa} (h : p.ok = true) : p.Gd := by
 obtain ⟨h1,h2,h3,h4⟩ := Pa.ok_of h
 unfold stm at h2
 simp only [Bool.and_eq_true,decide_eq_true_iff] at h2
 exact ⟨by omega,h2,by omega,fun x hx => Ro.gd_of (rowsB_each h4 x hx)⟩
structure Bt where
 muts : List (ByteArray × Pa)
 add : List (Int × ByteArray)
 drop : List Int
def mE (m : ByteArray × Pa) : Bs := tE m.1 ++ (numL (pE m.2).length ++ pE m.2)
def aE (x : Int × ByteArray) : Bs := numL x.1.toNat ++ tE x.2
def bE (b : Bt) : Bs := (numL b.muts.length ++ b.muts.flatMap mE) ++ ((numL b.add.length ++ b.add.flatMap aE) ++ (numL b.drop.length ++ b.drop.flatMap fun v => numL v.toNat))
def mutP : Pz (ByteArray × Pa) := bindP txtP fun t => bindP (nestP partP) fun p => retP (t,p)
def addP : Pz (Int × ByteArray) := bindP numP fun i => bindP txtP fun b => retP (i,b)
def batchT : Pz (List (ByteArray × Pa) × (List (Int × ByteArray) × List Int)) := bindP (listP mutP) fun m => bindP (bindP (listP addP) fun a => bindP (listP numP) fun d => retP (a,d)) fun y => retP (m,y)
def batchP : Pz Bt := bindP batchT fun z => retP ⟨z.1,z.2.1,z.2.2⟩
theorem mut_codec : Codec mutP mE (fun m => m.1.size < 18446744073709551616 /\ (m.2.Gd /\ (pE m.2).length < 18446744073709551616)) (fun m => m.1.size < 18446744073709551616 /\ m.2.Gd) :=
 txt_codec.seq (q := fun _ => _) (f := fun _ p => _) (H := fun _ p => _) (U := fun _ p => _) fun _ => part_codec.nest
theorem add_codec : Codec addP aE (fun x => Stm x.1 /\ x.2.size < 18446744073709551616) (fun x => Stm x.1 /\ x.2.size < 18446744073709551616) :=
 num_codec.seq (q := fun _ => _) (f := fun _ p => _) (H := fun _ p => _) (U := fun _ p => _) fun _ => txt_codec
def Bt.Gd (b : Bt) : Prop := (b.muts.length < 18446744073709551616 /\ ∀ m ∈ b.muts,m.1.size < 18446744073709551616 /\ (m.2.Gd /\ (pE m.2).length < 18446744073709551616)) /\
 ((b.add.length < 18446744073709551616 /\ ∀ x ∈ b.add,Stm x.1 /\ x.2.size < 18446744073709551616) /\ (b.drop.length < 18446744073709551616 /\ ∀ v ∈ b.drop,Stm v))
theorem batchT_codec : Codec batchT (fun z : List (ByteArray × Pa) × (List (Int × ByteArray) × List Int) => (numL z.1.length ++ z.1.flatMap mE) ++ ((numL z.2.1.length ++ z.2.1.flatMap aE) ++ (numL z.2.2.length ++ z.2.2.flatMap fun v => numL v.toNat)))
    (fun z => (z.1.length < 18446744073709551616 /\ ∀ m ∈ z.1,m.1.size < 18446744073709551616 /\ (m.2.Gd /\ (pE m.2).length < 18446744073709551616)) /\ ((z.2.1.length < 18446744073709551616 /\ ∀ x ∈ z.2.1,Stm x.1 /\ x.2.size < 18446744073709551616) /\ (z.2.2.length < 18446744073709551616 /\ ∀ v ∈ z.2.2,Stm v)))
    (fun z => (z.1.length < 18446744073709551616 /\ ∀ m ∈ z.1,m.1.size < 18446744073709551616 /\ m.2.Gd) /\ ((z.2.1.length < 18446744073709551616 /\ ∀ x ∈ z.2.1,Stm x.1 /\ x.2.size < 18446744073709551616) /\ (z.2.2.length < 18446744073709551616 /\ ∀ v ∈ z.2.2,Stm v))) :=
 (mut_codec.list fun x _ => tE_pos x.1 _).seq (q := fun _ => _) (f := fun _ p => _) (H := fun _ p => _) (U := fun _ p => _) fun _ =>
   (add_codec.list fun x _ => by unfold aE; rw [List.length_append]; have := numL_pos x.1.toNat; omega).seq (q := fun _ => _) (f := fun _ p => _) (H := fun _ p => _) (U := fun _ p => _) fun _ =>
     num_codec.list fun x _ => numL_pos x.toNat
theorem batch_codec : Codec batchP bE Bt.Gd (fun _ => True) :=
 batchT_codec.map (fun z => (⟨z.1,z.2.1,z.2.2⟩ : Bt)) (fun b => (b.muts,b.add,b.drop)) Bt.Gd (fun _ => True) (fun _ _ => rfl) (fun _ h => h) (fun _ _ => rfl) (fun _ _ => trivial)
theorem numL_le {v : Nat} (h : v < 18446744073709551616) : (numL v).length <= 9 := by
 have := (nb_facts v h).1
 rw [numL_length]; omega
theorem stm_num {n : Int} (h : Stm n) : (numL n.toNat).length <= 9 := numL_le (by have := h.1; have := h.2; omega)
theorem tE_le {s : ByteArray} {b : Nat} (h : s.size <= b) (hb : b < 18446744073709551616) : (tE s).length <= 9 + b := by
 unfold tE
 rw [List.length_append]
 have := numL_le (v := s.size) (by omega)
 have e : s.data.toList.length = s.size := rfl
 omega
theorem ce_len {c : Ce} (h : c.ok = true) : (cE c).length <= 128 := by
 have hg := Ce.gd_of h
 have h1 := stm_num hg.1
 unfold cE tailE
 rw [List.length_append]
 split
 ·simp; omega
 ·rename_i h0
  split
  ·simp; omega
  ·rename_i hd
   have hd' : c.d = false := by cases e : c.d <;> simp_all
   have h2 := stm_num (hg.2.2.2 h0 hd').2
   have hs : c.s.size <= 100 := by
    unfold Ce.ok at h
    rw [if_neg h0] at h
    split at h
    ·cases h
    ·try rw [if_neg hd] at h
     simp only [Bool.and_eq_true,decide_eq_true_iff] at h
     exact h.1
   have h3 := tE_le hs (by omega)
   rw [List.length_cons,List.length_append]
   omega
theorem flat_le {α : Type} {xs : List α} {e : α -> Bs} {b : Nat} (h : ∀ x ∈ xs,(e x).length <= b) : (xs.flatMap e).length <= xs.length * b := by
 induction xs with
 | nil => exact Nat.zero_le _
 | cons x xs ih =>
   rw [List.flatMap_cons,List.length_append,List.length_cons,Nat.add_mul]
   have := h x (List.mem_cons_self ..)
   have := ih fun y hy => h y (List.mem_cons_of_mem _ hy)
   omega
theorem cols_each {r : Ro} (h : r.ok = true) : ∀ x ∈ r.cols,colB x = true := by
 unfold Ro.ok at h
 simp only [Bool.and_eq_true,decide_eq_true_iff] at h
 intro x hx
 obtain ⟨j,hj,rfl⟩ := List.getElem_of_mem hx
 have h1 := List.all_eq_true.1 h.2.2.2.2.2 j (List.mem_range.2 hj)
 cases j with
 | zero => rwa [good_zero hj] at h1
 | succ j =>
   rw [good_succ hj,Bool.and_eq_true] at h1
   exact h1.1
theorem ro_len {r : Ro} (h : r.ok = true) : (rE r).length <= 2460 := by
 have hg := Ro.gd_of h
 have hc : ∀ x ∈ r.cols,(kE x).length <= 237 := fun x hx => by
  have h1 := cols_each h x hx
  unfold colB nameB at h1
  simp only [Bool.and_eq_true,decide_eq_true_iff] at h1
  have a := tE_le h1.1.1.2 (by omega)
  have b := ce_len h1.2.1
  unfold kE
  rw [List.length_append]; omega
 have hf : (r.cols.flatMap kE).length <= r.cols.length * 237 := flat_le hc
 unfold Ro.ok liveB at h
 simp only [Bool.and_eq_true,decide_eq_true_iff] at h
 have a := tE_le h.1 (by omega)
 have b := ce_len h.2.1.1
 have c := stm_num hg.2.2.1
 have d := stm_num hg.2.2.2.1
 have e := numL_le (v := r.cols.length) (by omega)
 have f : r.cols.length * 237 <= 8 * 237 := Nat.mul_le_mul_right _ h.2.2.2.2.1
 unfold rE
 simp only [List.length_append]
 omega
theorem pa_len {p : Pa} (h : p.ok = true) : (pE p).length <= 246127 := by
 have hg := Pa.gd_of h
 obtain ⟨h1,h2,h3,h4⟩ := Pa.ok_of h
 have hf : (p.rows.flatMap rE).length <= p.rows.length * 2460 := flat_le fun x hx => ro_len (rowsB_each h4 x hx)
 have a := tE_le h1 (by omega)
 have b := stm_num hg.2.1
 have c := numL_le (v := p.rows.length) (by omega)
 have f : p.rows.length * 2460 <= 100 * 2460 := Nat.mul_le_mul_right _ h3
 unfold pE
 simp only [List.length_append]
 omega
def mutB (m : ByteArray × Pa) : Bool := nameB m.1 && m.2.ok
def addB (x : Int × ByteArray) : Bool := decide (1 <= x.1) && (decide (x.1 <= 1099511627776) && decide (x.2.size <= 4096))
def dropB (v : Int) : Bool := decide (1 <= v) && decide (v <= 1099511627776)
def Bt.ok (b : Bt) : Bool := decide (b.muts.length <= 64) && (b.muts.all mutB && (decide (b.add.length <= 300) && (b.add.all addB && (decide (b.drop.length <= 300) && b.drop.all dropB))))
theorem Bt.gd_of {b : Bt} (h : b.ok = true) : b.Gd := by
 unfold Bt.ok at h
 simp only [Bool.and_eq_true,decide_eq_true_iff,List.all_eq_true] at h
 obtain ⟨h1,h2,h3,h4,h5,h6⟩ := h
 refine ⟨⟨by omega,fun m hm => ?_⟩,⟨by omega,fun x hx => ?_⟩,by omega,fun v hv => ?_⟩
 ·have h7 := h2 m hm
  unfold mutB nameB at h7
  simp only [Bool.and_eq_true,decide_eq_true_iff] at h7
  have := pa_len h7.2
  exact ⟨by omega,Pa.gd_of h7.2,by omega⟩
 ·have h7 := h4 x hx
  unfold addB at h7
  simp only [Bool.and_eq_true,decide_eq_true_iff] at h7
  exact ⟨⟨by omega,h7.2.1⟩,by omega⟩
 ·have h7 := h6 v hv
  unfold dropB at h7
  simp only [Bool.and_eq_true,decide_eq_true_iff] at h7
  exact ⟨by omega,h7.2⟩
abbrev putBatch (b : Bt) : Except Int Bs := putP bE Bt.ok b
abbrev getBatch (l : Bs) : Except Int Bt := getP batchP Bt.ok l
theorem tE_size (s : ByteArray) : s.size <= (tE s).length := by
 unfold tE
 rw [List.length_append]
 have e : s.data.toList.length = s.size := rfl
 omega
theorem cE_size {c : Ce} (h : c.Gd) : c.s.size <= (cE c).length := by
 unfold cE tailE
 rw [List.length_append]
 split
 ·rename_i h0
  rw [h.2.1 h0]; exact Nat.zero_le _
 ·rename_i h0
  split
  ·rename_i hd
   rw [(h.2.2.1 h0 hd).1]; exact Nat.zero_le _
  ·rw [List.length_cons,List.length_append]
   have := tE_size c.s
   omega
theorem flat_in {α : Type} {xs : List α} {e : α -> Bs} {x : α} (h : x ∈ xs) : (e x).length <= (xs.flatMap e).length := by
 induction xs with
 | nil => cases h
 | cons y ys ih =>
   rw [List.flatMap_cons,List.length_append]
   rcases List.mem_cons.1 h with rfl | h
   ·omega
   ·have := ih h; omega
structure RoSizes (N : Nat) (r : Ro) : Prop where
 key : r.key.size <= N
 val : r.live.s.size <= N
 len : r.cols.length <= N
 cols : ∀ x ∈ r.cols,x.1.size <= N /\ x.2.s.size <= N
theorem ro_sizes {r : Ro} (h : r.Gd) {N : Nat} (hn : (rE r).length <= N) : RoSizes N r := by
 unfold rE at hn
 simp only [List.length_append] at hn
 have h1 := tE_size r.key
 have h2 := cE_size h.2.1
 have h3 : r.cols.length <= (r.cols.flatMap kE).length := flat_length fun x _ => tE_pos x.1 (cE x.2)
 refine ⟨by omega,by omega,by omega,fun x hx => ?_⟩
 have h4 : (kE x).length <= (r.cols.flatMap kE).length := flat_in hx
 have h7 : (kE x).length = (tE x.1).length + (cE x.2).length := by unfold kE; rw [List.length_append]
 have h5 := tE_size x.1
 have h6 := cE_size (h.2.2.2.2.2 x hx).2
 exact ⟨by omega,by omega⟩
theorem pa_sizes {p : Pa} (h : p.Gd) {N : Nat} (hn : (pE p).length <= N) : p.key.size <= N /\ p.rows.length <= N /\ ∀ r ∈ p.rows,RoSizes N r := by
 unfold pE at hn
 simp only [List.length_append] at hn
 have h1 := tE_size p.key
 have h3 : p.rows.length <= (p.rows.flatMap rE).length := flat_length fun x _ => tE_pos x.key _
 refine ⟨by omega,by omega,fun r hr => ro_sizes (h.2.2.2 r hr) ?_⟩
 have h4 : (rE r).length <= (p.rows.flatMap rE).length := flat_in hr
 omega
structure Tb where
 nm : ByteArray
 ps : List Pa
def Tb.join (a b : Tb) : Tb := ⟨a.nm,mrgK Pa.key Pa.join a.ps b.ps⟩
structure St where
 tb : List Tb
 nt : Fl
def St.new : St := ⟨[],[]⟩
def mutT (l : List Tb) (m : ByteArray × Pa) : List Tb := putK Tb.nm Tb.join l ⟨m.1,[m.2]⟩
def addsN (S : Fl) (l : Fl) : Fl := l.foldl (fun S x => (addN S x.1 x.2).1) S
def St.app (s : St) (b : Bt) : St := ⟨b.muts.foldl mutT s.tb,addsN (dropsN s.nt b.drop) b.add⟩
def St.apps (s : St) (l : List Bt) : St := l.foldl St.app s
structure St.Fits (s : St) (b : Bt) : Prop where
 ok : b.ok = true
 notes : fitN (dropsN s.nt b.drop) b.add = true
 parts : ∀ T ∈ (s.app b).tb,T.ps.length <= 100 /\ ∀ p ∈ T.ps,p.rows.length <= 100
 tabs : (s.app b).tb.length <= 8
def St.AllFit (s : St) : List Bt -> Prop
 | [] => True
 | b :: l => s.Fits b /\ (s.app b).AllFit l
theorem St.apps_snoc (s : St) (l : List Bt) (b : Bt) : s.apps (l ++ [b]) = (s.apps l).app b := by unfold St.apps; rw [List.foldl_append]; rfl
theorem St.allFit_snoc : ∀ {l : List Bt} {s : St} {b : Bt},s.AllFit (l ++ [b]) ↔ s.AllFit l /\ (s.apps l).Fits b
 | [],s,b => ⟨fun h => ⟨trivial,h.1⟩,fun h => ⟨h.2,trivial⟩⟩
 | c :: l,s,b => by
   show (s.Fits c /\ (s.app c).AllFit (l ++ [b])) ↔ (s.Fits c /\ (s.app c).AllFit l) /\ _
   rw [St.allFit_snoc (l := l) (s := s.app c) (b := b)]
   exact ⟨fun h => ⟨⟨h.1,h.2.1⟩,h.2.2⟩,fun h => ⟨h.1.1,h.1.2,h.2⟩⟩
theorem St.allFit_append : ∀ {l : List Bt} {s : St} {m : List Bt},s.AllFit (l ++ m) -> s.AllFit l /\ (s.apps l).AllFit m
 | [],s,m,h => ⟨trivial,h⟩
 | c :: l,s,m,h => by
   have h2 := St.allFit_append (l := l) (m := m) h.2
   exact ⟨⟨h.1,h2.1⟩,h2.2⟩
theorem St.AllFit.take {s : St} {l : List Bt} (h : s.AllFit l) (n : Nat) : s.AllFit (l.take n) := (St.allFit_append (m := l.drop n) (by rw [List.take_append_drop]; exact h)).1
theorem St.AllFit.get {s : St} {l : List Bt} (h : s.AllFit l) {n : Nat} (hn : n < l.length) : (s.apps (l.take n)).Fits l[n] := by
 have h2 := h.take (n + 1)
 rw [List.take_succ_eq_append_getElem hn] at h2
 exact (St.allFit_snoc.1 h2).2
theorem get_bE {b : Bt} (h : b.ok = true) (hl : (bE b).length <= 262144) : getBatch (bE b) = .ok b := by
 have h2 := batch_codec.back (x := b) [] (Bt.gd_of h)
 rw [List.append_nil] at h2
 unfold getBatch getP
 rw [if_neg (by omega),h2]
 simp [h]
def recs (l : List Bt) : Bs := puts 0 (l.map bE)
def Short (l : List Bt) : Prop := ∀ b ∈ l,(bE b).length <= 262144
structure Opens (s : St) (l : Bs) (bs : List Bt) : Prop where
 fit : s.AllFit bs
 short : Short bs
 most : ∃ r,Ans l r /\ bs.map bE <+: r /\ ∀ x,bs.map bE ++ [x] <+: r -> ∀ b,getBatch x = .ok b -> ¬ (s.apps bs).Fits b
theorem bE_inj {l m : List Bt} (hl : ∀ b ∈ l,b.ok = true) (hm : ∀ b ∈ m,b.ok = true) (sl : Short l) (sm : Short m) (h : l.map bE <+: m.map bE) : l <+: m := by
 induction l generalizing m with
 | nil => exact List.nil_prefix
 | cons b l ih =>
   cases m with
   | nil => exact absurd h.length_le (by simp)
   | cons c m =>
     rw [List.map_cons,List.map_cons,List.cons_prefix_cons] at h
     have e : b = c := by
      have h1 := get_bE (hl b (List.mem_cons_self ..)) (sl b (List.mem_cons_self ..))
      rw [h.1,get_bE (hm c (List.mem_cons_self ..)) (sm c (List.mem_cons_self ..))] at h1
      injection h1 with h1
      exact h1.symm
     subst e
     exact (List.prefix_cons_inj b).2 (ih (fun x hx => hl x (List.mem_cons_of_mem _ hx)) (fun x hx => hm x (List.mem_cons_of_mem _ hx)) (fun x hx => sl x (List.mem_cons_of_mem _ hx)) (fun x hx => sm x (List.mem_cons_of_mem _ hx)) h.2)
theorem St.AllFit.ok {s : St} {l : List Bt} (h : s.AllFit l) : ∀ b ∈ l,b.ok = true := by
 induction l generalizing s with
 | nil => intro b hb; cases hb
 | cons c l ih =>
   intro b hb
   rcases List.mem_cons.1 hb with rfl | hb
   ·exact h.1.ok
   ·exact ih h.2 b hb
theorem map_take_prefix {α β : Type} (f : α -> β) {l : List α} {r : List β} (h : l.map f <+: r) {k : Nat} (hk : k < l.length) : l.map f = (l.take k).map f ++ (f l[k] :: (l.drop (k + 1)).map f) := by
 rw [<- List.map_cons,List.getElem_cons_drop,<- List.map_append,List.take_append_drop]
theorem Opens.front {s : St} {l : Bs} {bs cs : List Bt} (h : Opens s l bs) (hc : s.AllFit cs) (sc : Short cs) (hl : recs cs <+: l) : cs <+: bs := by
 obtain ⟨r,ha,hb,hm⟩ := h.most
 have h1 := ha.front hl
 rcases Nat.lt_or_ge bs.length cs.length with hlt | hge
 ·-- the next one of cs fits,too
  have h2 : bs.map bE <+: cs.map bE := List.prefix_of_prefix_length_le hb h1 (by simp; omega)
  have h3 := bE_inj h.fit.ok hc.ok h.short sc h2
  have h4 : cs.take bs.length = bs := (List.prefix_iff_eq_take.1 h3).symm
  have h5 := hc.get hlt
  rw [h4] at h5
  refine absurd h5 (hm (bE cs[bs.length]) ?_ _ (get_bE h5.ok (sc _ (List.getElem_mem hlt))))
  have h6 := map_take_prefix bE h1 hlt
  rw [h4] at h6
  refine List.IsPrefix.trans ?_ h1
  rw [h6]
  exact ⟨(cs.drop (bs.length + 1)).map bE,by rw [List.append_assoc]; rfl⟩
 ·have h2 : cs.map bE <+: bs.map bE := List.prefix_of_prefix_length_le h1 hb (by simp; omega)
  exact bE_inj hc.ok h.fit.ok sc h.short h2
theorem recs_snoc_le (l : List Bt) (b : Bt) : (recs (l ++ [b])).length = (recs l).length + (put (recs l).length (bE b)).length := by
 unfold recs
 rw [List.map_append]
 exact puts_snoc_length _ _
theorem Opens.torn {s : St} {bs : List Bt} (h : s.AllFit bs) (sh : Short bs) (k : Nat) : ∃ j,j <= bs.length /\ Opens s ((recs bs).take k) (bs.take j) /\ (∀ c,c <= bs.length -> (recs (bs.take c)).length <= k -> c <= j) /\ (recs (bs.take j)).length <= k := by
 -- the greatest j whose records lie within
 have hex : ∀ n,n <= bs.length -> ∃ j,j <= n /\ (recs (bs.take j)).length <= k /\ ∀ c,c <= n -> (recs (bs.take c)).length <= k -> c <= j := by
  intro n
  induction n with
  | zero => exact fun _ => ⟨0,Nat.le_refl _,Nat.zero_le _,fun c hc _ => hc⟩
  | succ n ih =>
    intro hn
    by_cases hk : (recs (bs.take (n + 1))).length <= k
    ·exact ⟨n + 1,Nat.le_refl _,hk,fun c hc _ => hc⟩
    ·obtain ⟨j,h1,h2,h3⟩ := ih (by omega)
     refine ⟨j,by omega,h2,fun c hc hc2 => ?_⟩
     rcases Nat.lt_or_ge n c with h4 | h4
     ·exact absurd (by rw [show c = n + 1 by omega] at hc2; exact hc2) hk
     ·exact h3 c h4 hc2
 obtain ⟨j,h1,h2,h3⟩ := hex bs.length (Nat.le_refl _)
 have ha : Ans ((recs bs).take k) ((bs.map bE).take j) := Ans.torn _ j k (by rw [<- List.map_take]; exact h2) (fun hj => by
  rw [<- List.map_take]
  rcases Nat.lt_or_ge k (recs (bs.take (j + 1))).length with h4 | h4
  ·exact h4
  ·have := h3 (j + 1) (by rw [List.length_map] at hj; omega) h4; omega)
 rw [<- List.map_take] at ha
 exact ⟨j,h1,⟨h.take j,fun b hb => sh b (List.mem_of_mem_take hb),_,ha,List.prefix_rfl,fun x hx => absurd hx.length_le (by simp)⟩,h3,h2⟩
theorem Opens.unique {s : St} {l : Bs} {bs cs : List Bt} (h : Opens s l bs) (h' : Opens s l cs) : bs = cs := by
 obtain ⟨r,ha,hb,_⟩ := h.most
 obtain ⟨r',ha',hb',_⟩ := h'.most
 have e := ha.unique ha'
 subst e
 have f1 : cs <+: bs := h.front h'.fit h'.short ((by obtain ⟨u,hu⟩ := hb'; unfold recs; rw [<- hu,puts_append]; exact List.prefix_append _ _ : recs cs <+: puts 0 r).trans ha.1)
 have f2 : bs <+: cs := h'.front h.fit h.short ((by obtain ⟨u,hu⟩ := hb; unfold recs; rw [<- hu,puts_append]; exact List.prefix_append _ _ : recs bs <+: puts 0 r).trans ha.1)
 exact f2.eq_of_length_le f1.length_le
def sixE (p : Pa) : Bs := tE p.key ++ numL (pE p).length
def sIdx (t : ByteArray) (ps : List Pa) : Bs := tE t ++ (numL ps.length ++ ps.flatMap sixE)
def sBody (ps : List Pa) : Bs := ps.flatMap pE
def sHead (t : ByteArray) (ps : List Pa) : Bs := sBody ps ++ (sIdx t ps ++ be (sBody ps).length 4)
structure MayS (t : ByteArray) (ps : List Pa) : Prop where
 name : nameB t = true
 many : ps.length <= 100
 ok : ∀ p ∈ ps,p.ok = true
 up : ps.Pairwise fun a b => nlt a.key b.key
end Go.Proofs.YtmpcnhpdobdmcaaGreatDoor
namespace Go.Proofs.YtmpcnhpdobdmcaaGreatDoor
open Go Go.RowKit
section
variable {α β : Type} {key : α -> ByteArray} {kb : β -> ByteArray} {f : α -> β}
theorem getK_map (h : ∀ x,kb (f x) = key x) : ∀ (l : List α) (n : ByteArray),getK kb (l.map f) n = (getK key l n).map f
 | [],n => rfl
 | x :: l,n => by
   show (if kb (f x) = n then some (f x) else getK kb (l.map f) n) = _
   rw [h x]
   by_cases e : key x = n
   ·rw [if_pos e]
    show _ = (if key x = n then some x else getK key l n).map f
    rw [if_pos e]
    rfl
   ·rw [if_neg e,getK_map h l n]
    show _ = (if key x = n then some x else getK key l n).map f
    rw [if_neg e]
theorem riseK_map (h : ∀ x,kb (f x) = key x) : ∀ {l : List α},RiseK kb (l.map f) ↔ RiseK key l
 | [] => Iff.rfl
 | x :: l => by
   show (∀ y ∈ l.map f,nlt (kb (f x)) (kb y)) /\ RiseK kb (l.map f) ↔ (∀ y ∈ l,nlt (key x) (key y)) /\ RiseK key l
   rw [riseK_map h (l := l)]
   refine and_congr ⟨fun g y hy => ?_,fun g y hy => ?_⟩ Iff.rfl
   ·have := g (f y) (List.mem_map.2 ⟨y,hy,rfl⟩)
    rw [h,h] at this
    exact this
   ·obtain ⟨z,hz,rfl⟩ := List.mem_map.1 hy
    rw [h,h]
    exact g z hz
theorem getK_head_some {l : List α} (hl : l ≠ []) : ∃ n x,getK key l n = some x := by
 cases l with
 | nil => exact absurd rfl hl
 | cons x l => exact ⟨key x,x,getK_head x l⟩
end
def psOf (T : List Tb) (t : ByteArray) : List Pa := match getK Tb.nm T t with | some x => x.ps | none => []
def look (T : List Tb) (t k : ByteArray) : Option Pa := getK Pa.key (psOf T t) k
structure TbOk (T : List Tb) : Prop where
 rise : RiseK Tb.nm T
 ps : ∀ x ∈ T,RiseK Pa.key x.ps /\ x.ps ≠ []
theorem TbOk.nil : TbOk [] := ⟨trivial,fun x hx => by cases hx⟩
section
variable {T T' : List Tb} {t k : ByteArray}
theorem psOf_some {x : Tb} (h : getK Tb.nm T t = some x) : psOf T t = x.ps := by unfold psOf; rw [h]
theorem psOf_none (h : getK Tb.nm T t = none) : psOf T t = [] := by unfold psOf; rw [h]
theorem look_none (h : getK Tb.nm T t = none) : look T t k = none := by unfold look; rw [psOf_none h]; rfl
theorem TbOk.psRise (h : TbOk T) (t : ByteArray) : RiseK Pa.key (psOf T t) := by
 cases e : getK Tb.nm T t with
 | none => rw [psOf_none e]; trivial
 | some x => rw [psOf_some e]; exact (h.ps x (getK_some e).1).1
theorem TbOk.there (h : TbOk T) {x : Tb} (e : getK Tb.nm T t = some x) : ∃ k p,look T t k = some p := by
 obtain ⟨k,p,hp⟩ := getK_head_some (key := Pa.key) (h.ps x (getK_some e).1).2
 exact ⟨k,p,by unfold look; rw [psOf_some e]; exact hp⟩
theorem tb_ext (h : TbOk T) (h' : TbOk T') (e : ∀ t k,look T t k = look T' t k) : T = T' := by
 refine listK_ext h.rise h'.rise fun n => ?_
 have hps : psOf T n = psOf T' n := listK_ext (h.psRise n) (h'.psRise n) fun k => e n k
 cases h1 : getK Tb.nm T n with
 | none =>
   cases h2 : getK Tb.nm T' n with
   | none => rfl
   | some y =>
     obtain ⟨k,p,hp⟩ := h'.there h2
     rw [<- e,look_none h1] at hp
     cases hp
 | some x =>
   cases h2 : getK Tb.nm T' n with
   | none =>
     obtain ⟨k,p,hp⟩ := h.there h1
     rw [e,look_none h2] at hp
     cases hp
   | some y =>
     rw [psOf_some h1,psOf_some h2] at hps
     have e1 := (getK_some h1).2
     have e2 := (getK_some h2).2
     cases x
     cases y
     simp only at hps e1 e2
     rw [hps,e1,e2]
theorem tbj_key (x y : Tb) (h : x.nm = y.nm) : (Tb.join x y).nm = x.nm := rfl
theorem paj_key (x y : Pa) (h : x.key = y.key) : (Pa.join x y).key = x.key := rfl
theorem psOf_mutT (h : TbOk T) (m : ByteArray × Pa) (t : ByteArray) : psOf (mutT T m) t = if m.1 = t then putK Pa.key Pa.join (psOf T t) m.2 else psOf T t := by
 unfold psOf mutT
 rw [getK_put tbj_key ⟨m.1,[m.2]⟩ h.rise t]
 by_cases e : m.1 = t
 ·rw [if_pos (show Tb.nm ⟨m.1,[m.2]⟩ = t from e),if_pos e]
  cases getK Tb.nm T t with
  | none => rfl
  | some x => rfl
 ·rw [if_neg (show ¬ Tb.nm ⟨m.1,[m.2]⟩ = t from e),if_neg e]
theorem look_mutT (h : TbOk T) (m : ByteArray × Pa) (t k : ByteArray) : look (mutT T m) t k = if m.1 = t /\ m.2.key = k then joinO Pa.join (look T t k) (some m.2) else look T t k := by
 unfold look
 rw [psOf_mutT h]
 by_cases e : m.1 = t
 ·rw [if_pos e,getK_put paj_key m.2 (h.psRise t) k]
  by_cases e2 : m.2.key = k
  ·rw [if_pos e2,if_pos ⟨e,e2⟩]
  ·rw [if_neg e2,if_neg (fun h => e2 h.2)]
 ·rw [if_neg e,if_neg (fun h => e h.1)]
theorem putK_ne {α : Type} {key : α -> ByteArray} {jn : α -> α -> α} (l : List α) (c : α) : putK key jn l c ≠ [] := by
 cases l with
 | nil => exact fun h => by cases h
 | cons x l =>
   show (if nlt (key x) (key c) then x :: putK key jn l c else if key x = key c then jn x c :: l else c :: x :: l) ≠ []
   split
   ·exact fun h => by cases h
   ·split <;> exact fun h => by cases h
theorem TbOk.mut (h : TbOk T) (m : ByteArray × Pa) : TbOk (mutT T m) := by
 refine ⟨putK_rise tbj_key _ h.rise,?_⟩
 refine putK_all (p := fun (x : Tb) => RiseK Pa.key x.ps /\ x.ps ≠ []) (fun x _ hx => ?_) ?_ h.ps
 ·exact ⟨putK_rise paj_key m.2 hx.1,putK_ne _ _⟩
 ·exact ⟨⟨fun y hy => (by cases hy),trivial⟩,fun h => (by cases h)⟩
theorem TbOk.muts (h : TbOk T) (l : List (ByteArray × Pa)) : TbOk (l.foldl mutT T) := by
 induction l generalizing T with
 | nil => exact h
 | cons m l ih => exact ih (h.mut m)
def TbUp (T : List Tb) : Prop := ∀ t k p,look T t k = some p -> p.Up /\ 0 <= p.gone
theorem TbUp.mut (h : TbOk T) (u : TbUp T) {m : ByteArray × Pa} (hm : m.2.Up /\ 0 <= m.2.gone) : TbUp (mutT T m) := by
 intro t k p hp
 rw [look_mutT h] at hp
 by_cases e : m.1 = t /\ m.2.key = k
 ·rw [if_pos e] at hp
  cases e2 : look T t k with
  | none =>
    rw [e2] at hp
    injection hp with hp
    rw [<- hp]
    exact hm
  | some q =>
    rw [e2] at hp
    injection hp with hp
    rw [<- hp]
    have hq := u t k q e2
    exact ⟨hq.1.join hm.1,by show 0 <= max _ _; omega⟩
 ·rw [if_neg e] at hp
  exact u t k p hp
theorem TbUp.muts (h : TbOk T) (u : TbUp T) {l : List (ByteArray × Pa)} (hl : ∀ m ∈ l,m.2.Up /\ 0 <= m.2.gone) : TbUp (l.foldl mutT T) := by
 induction l generalizing T with
 | nil => exact u
 | cons m l ih => exact ih (h.mut m) (u.mut h (hl m (List.mem_cons_self ..))) fun x hx => hl x (List.mem_cons_of_mem _ hx)
theorem snoc_ind {α : Type} {P : List α -> Prop} (h0 : P []) (hs : ∀ l x,P l -> P (l ++ [x])) (l : List α) : P l := by
 have : ∀ r : List α,P r.reverse := fun r => by
  induction r with
  | nil => exact h0
  | cons x r ih => rw [List.reverse_cons]; exact hs _ _ ih
 have h := this l.reverse
 rw [List.reverse_reverse] at h
 exact h
theorem look_muts (h : TbOk T) (u : TbUp T) {l : List (ByteArray × Pa)} (hl : ∀ m ∈ l,m.2.Up /\ 0 <= m.2.gone) (t k : ByteArray) :
    look (l.foldl mutT T) t k = joinO Pa.join (look T t k) (look (l.foldl mutT []) t k) := by
 revert hl
 refine snoc_ind (P := fun l => (∀ m ∈ l,m.2.Up /\ 0 <= m.2.gone) -> look (l.foldl mutT T) t k = joinO Pa.join (look T t k) (look (l.foldl mutT []) t k)) (fun _ => (joinO_none _).symm) (fun l m ih hl => ?_) l
 ·have hl1 : ∀ x ∈ l,x.2.Up /\ 0 <= x.2.gone := fun x hx => hl x (List.mem_append_left _ hx)
  have hm := hl m (List.mem_append_right _ (List.mem_singleton.2 rfl))
  rw [List.foldl_append,List.foldl_append]
  show look (mutT _ m) t k = joinO Pa.join _ (look (mutT _ m) t k)
  rw [look_mutT (h.muts l),look_mutT (TbOk.nil.muts l)]
  by_cases e : m.1 = t /\ m.2.key = k
  ·rw [if_pos e,if_pos e,ih hl1]
   cases e1 : look T t k with
   | none => rfl
   | some p =>
     cases e2 : look (l.foldl mutT []) t k with
     | none => rfl
     | some q =>
       have hp := u t k p e1
       have hq := TbUp.muts TbOk.nil (fun t k p hp => by cases hp) hl1 t k q e2
       show some ((p.join q).join m.2) = some (p.join (q.join m.2))
       rw [pa_assoc hp.1 hq.1 hm.1]
  ·rw [if_neg e,if_neg e,ih hl1]
end
end Go.Proofs.YtmpcnhpdobdmcaaGreatDoor
namespace Go.Proofs.YtmpcnhpdobdmcaaGreatDoor
open Go Go.RowKit Go.Maps
theorem before_iff : ∀ (a b : List UInt8),bytesBefore a b = true ↔ a < b
 | [],[] => by simp [bytesBefore]
 | [],_ :: _ => by simp [bytesBefore]
 | _ :: _,[] => by simp [bytesBefore]
 | x :: a,y :: b => by
   have ih := before_iff a b
   unfold bytesBefore
   by_cases h : x = y
   ·subst h
    simp only [List.cons_lt_cons_iff,UInt8.lt_irrefl,if_false,true_and,false_or]
    simpa using ih
   ·rw [List.cons_lt_cons_iff]
    by_cases h2 : x < y
    ·simp [h2,h]
    ·simp [h2,h]
theorem toList_inj {a b : ByteArray} (h : a.data.toList = b.data.toList) : a = b := ba_ext h
section
variable {α H : Type} (key : α -> ByteArray) (enc : α -> H)
def entK (x : α) : Lit × DataW H := (.string (key x).data.toList,.held (enc x))
def mapK (l : List α) : DataW H := .map (l.map (entK key enc))
end
section
variable {α H : Type} {key : α -> ByteArray} {enc : α -> H}
theorem same_comp (k : ByteArray) : ((fun p : Lit × DataW H => p.1.sameKey (.string k.data.toList)) ∘ entK key enc) = fun x => decide (key x = k) := by
 funext x
 show ((key x).data.toList == k.data.toList) = _
 by_cases h : key x = k
 ·rw [h]; simp
 ·have : (key x).data.toList ≠ k.data.toList := fun e => h (toList_inj e)
  rw [decide_eq_false h]
  exact beq_eq_false_iff_ne.2 this
theorem any_getK : ∀ (l : List α) (k : ByteArray),l.any (fun x => decide (key x = k)) = (getK key l k).isSome
 | [],k => rfl
 | x :: l,k => by
   rw [List.any_cons,any_getK l k]
   show _ = (if key x = k then some x else getK key l k).isSome
   by_cases h : key x = k
   ·simp [h]
   ·simp [h]
theorem find_getK : ∀ (l : List α) (k : ByteArray),l.find? (fun x => decide (key x = k)) = getK key l k
 | [],k => rfl
 | x :: l,k => by
   rw [List.find?_cons]
   show _ = (if key x = k then some x else getK key l k)
   by_cases h : key x = k
   ·simp [h]
   ·simp [h,find_getK l k]
theorem has_mapK (l : List α) (k : ByteArray) : Maps.has (mapK key enc l) (.string k.data.toList) = (getK key l k).isSome := by
 unfold mapK
 rw [Maps.has_eq,List.any_map,<- any_getK,same_comp]
theorem atKey_mapK (l : List α) (k : ByteArray) (z : DataW H) : (mapK key enc l).atKey (.string k.data.toList) z = match getK key l k with | some x => .held (enc x) | none => z := by
 unfold mapK DataW.atKey
 simp only [List.find?_map]
 rw [same_comp,find_getK]
 cases getK key l k <;> rfl
theorem size_mapK (l : List α) : Maps.size (mapK key enc l) = l.length := by
 unfold mapK
 rw [Maps.size_eq,List.length_map]
def overK (key : α -> ByteArray) (l : List α) (c : α) : List α := putK key (fun _ y => y) l c
theorem over_key (x y : α) (h : key x = key y) : key ((fun _ y => y : α -> α -> α) x y) = key x := h.symm
theorem getK_over {l : List α} (hr : RiseK key l) (c : α) (m : ByteArray) : getK key (overK key l c) m = if key c = m then some c else getK key l m := by
 unfold overK
 rw [getK_put over_key c hr m]
 by_cases h : key c = m
 ·rw [if_pos h,if_pos h]
  cases getK key l m <;> rfl
 ·rw [if_neg h,if_neg h]
theorem over_rise {l : List α} (c : α) (hr : RiseK key l) : RiseK key (overK key l c) := putK_rise over_key c hr
theorem over_all {p : α -> Prop} {l : List α} {c : α} (hc : p c) (h : ∀ x ∈ l,p x) : ∀ x ∈ overK key l c,p x := putK_all (fun _ _ _ => hc) hc h
theorem filter_low {l : List α} {c : α} (h : ∀ x ∈ l,key x ≠ key c) : (l.map (entK key enc)).filter (fun p => !p.1.sameKey (.string (key c).data.toList)) = l.map (entK key enc) := by
 rw [List.filter_eq_self]
 intro p hp
 obtain ⟨x,hx,rfl⟩ := List.mem_map.1 hp
 have := congrFun (same_comp (key := key) (enc := enc) (key c)) x
 have h2 : (entK key enc x).1.sameKey (.string (key c).data.toList) = decide (key x = key c) := this
 rw [h2]
 simp [h x hx]
theorem before_ent (x c : α) : (entK key enc c).1.before (entK key enc x).1 = decide (nlt (key c) (key x)) := by
 show bytesBefore _ _ = _
 by_cases h : nlt (key c) (key x)
 ·rw [decide_eq_true h]; exact (before_iff _ _).2 h
 ·rw [decide_eq_false h]
  cases e : bytesBefore (key c).data.toList (key x).data.toList with
  | false => rfl
  | true => exact absurd ((before_iff _ _).1 e) h
theorem insert_mapK : ∀ {l : List α},RiseK key l -> ∀ (c : α),DataW.insert (entK key enc c) ((l.map (entK key enc)).filter fun p => !p.1.sameKey (.string (key c).data.toList)) = (overK key l c).map (entK key enc)
 | [],_,c => rfl
 | x :: l,hr,c => by
   have hx : ∀ y ∈ l,nlt (key x) (key y) := hr.1
   have e1 : (entK key enc x).1.sameKey (.string (key c).data.toList) = decide (key x = key c) := congrFun (same_comp (key := key) (enc := enc) (key c)) x
   rw [List.map_cons,List.filter_cons]
   unfold overK putK
   by_cases h1 : nlt (key x) (key c)
   ·have hne : key x ≠ key c := nlt_ne h1
    have hnb : ¬ nlt (key c) (key x) := fun h => nlt_irr _ (nlt_tr h h1)
    rw [if_pos h1,e1,decide_eq_false hne]
    simp only [Bool.not_false,if_true]
    rw [DataW.insert,before_ent,decide_eq_false hnb]
    simp only [Bool.false_eq_true,if_false]
    rw [insert_mapK hr.2 c]
    rfl
   ·rw [if_neg h1]
    by_cases h2 : key x = key c
    ·rw [if_pos h2,e1,decide_eq_true h2]
     simp only [Bool.not_true,Bool.false_eq_true,if_false]
     rw [filter_low (fun y hy => by rw [<- h2]; exact (nlt_ne (hx y hy)).symm)]
     cases l with
     | nil => rfl
     | cons y l =>
       rw [List.map_cons,DataW.insert,before_ent,decide_eq_true (by rw [<- h2]; exact hx y (List.mem_cons_self ..))]
       rfl
    ·rw [if_neg h2,e1,decide_eq_false h2]
     have h3 : nlt (key c) (key x) := by
      rcases nlt_or (key x) (key c) with h | h | h
      ·exact absurd h h1
      ·exact absurd h h2
      ·exact h
     simp only [Bool.not_false,if_true]
     rw [filter_low (fun y hy => (nlt_ne (nlt_tr h3 (hx y hy))).symm),DataW.insert,before_ent,decide_eq_true h3]
     rfl
theorem put_mapK {l : List α} (hr : RiseK key l) (c : α) : (mapK key enc l).put (.string (key c).data.toList) (.held (enc c)) = mapK key enc (overK key l c) := by
 show DataW.map (DataW.insert (entK key enc c) ((l.map (entK key enc)).filter _)) = _
 rw [insert_mapK hr c]
 rfl
def MetK (key : α -> ByteArray) (l : List α) (left : Lit -> Bool) (ss : List α) : Prop := ss.Nodup /\ ∀ x,x ∈ ss ↔ (x ∈ l /\ left (.string (key x).data.toList) = false)
theorem MetK.start {l : List α} (hr : RiseK key l) : MetK key l (Maps.has (mapK key enc l)) [] := ⟨List.nodup_nil,fun x => by
 rw [has_mapK]
 constructor
 ·intro h; cases h
 ·rintro ⟨h1,h2⟩
  rw [getK_mem hr h1] at h2
  cases h2⟩
theorem riseK_inj {l : List α} (hr : RiseK key l) {x y : α} (hx : x ∈ l) (hy : y ∈ l) (h : key x = key y) : x = y := by
 have h1 := getK_mem hr hx
 rw [h,getK_mem hr hy] at h1
 injection h1 with h1
 exact h1.symm
theorem MetK.step {l : List α} {left : Lit -> Bool} {ss : List α} (hr : RiseK key l) (h : MetK key l left ss) {x : α} (hx : x ∈ l) (hl : left (.string (key x).data.toList) = true) :
    MetK key l (fun z => left z && !z.sameKey (.string (key x).data.toList)) (ss ++ [x]) := by
 have hnew : x ∉ ss := fun hm => by have := ((h.2 x).1 hm).2; rw [hl] at this; cases this
 refine ⟨List.nodup_append.2 ⟨h.1,by simp,fun a ha b hb => by simp at hb; subst hb; exact fun e => hnew (e ▸ ha)⟩,fun y => ?_⟩
 rw [List.mem_append,h.2 y]
 show _ ↔ y ∈ l /\ (left (.string (key y).data.toList) && !((key y).data.toList == (key x).data.toList)) = false
 by_cases hy : key y = key x
 ·constructor
  ·rintro (h1 | h1)
   ·exact ⟨h1.1,by rw [h1.2]; rfl⟩
   ·simp at h1; subst h1; exact ⟨hx,by simp⟩
  ·rintro ⟨h1,h2⟩
   exact Or.inr (List.mem_singleton.2 (riseK_inj hr h1 hx hy))
 ·have hne : ((key y).data.toList == (key x).data.toList) = false := by
   cases e : ((key y).data.toList == (key x).data.toList) with
   | false => rfl
   | true => exact absurd (toList_inj (by simpa using e)) hy
  rw [hne]
  simp only [Bool.not_false,Bool.and_true]
  constructor
  ·rintro (h1 | h1)
   ·exact h1
   ·simp at h1; subst h1; exact absurd rfl hy
  ·exact fun h1 => Or.inl h1
theorem MetK.perm {l : List α} {left : Lit -> Bool} {ss : List α} (hr : RiseK key l) (h : MetK key l left ss) (hl : ∀ kl,left kl = false) : ss.Perm l := by
 have hn : l.Nodup := by
  clear h
  induction l with
  | nil => exact List.nodup_nil
  | cons x l ih => exact List.nodup_cons.2 ⟨fun hx => nlt_irr _ (hr.1 x hx),ih hr.2⟩
 exact (List.perm_ext_iff_of_nodup h.1 hn).2 fun x => by rw [h.2 x]; exact ⟨fun h => h.1,fun h => ⟨h,hl _⟩⟩
theorem mapK_met {l : List α} {k : ByteArray} {d : DataW H} (h : ∀ z,(mapK key enc l).atKey (.string k.data.toList) z = d) : ∃ x ∈ l,key x = k /\ d = .held (enc x) := by
 cases e : getK key l k with
 | some x =>
   have h1 := h d
   rw [atKey_mapK,e] at h1
   exact ⟨x,(getK_some e).1,(getK_some e).2,h1.symm⟩
 | none =>
   have h1 := h .nil
   have h2 := h (.ptr .nil)
   rw [atKey_mapK,e] at h1 h2
   have : (DataW.nil : DataW H) = .ptr .nil := (show DataW.nil = d from h1).trans (show DataW.ptr .nil = d from h2).symm
   cases this
end
end Go.Proofs.YtmpcnhpdobdmcaaGreatDoor
namespace Go.Proofs.YtmpcnhpdobdmcaaGreatDoor
open Go
structure Went {α : Type} (p : Pz α) (l : Bs) (i : Nat) (e : Int) (x : α) (j : Nat) (f : Int) : Prop where
 le : f = 0 -> i <= j
 len : j <= l.length
 stays : e ≠ 0 -> f = e
 ok : e = 0 -> f = 0 -> p (l.drop i) = .ok (x,l.drop j)
 no : e = 0 -> f ≠ 0 -> p (l.drop i) = .error f
section
variable {α β : Type} {p : Pz α} {l : Bs} {i j k : Nat} {e f g : Int} {x : α} {y : β}
theorem Went.bind {q : α -> Pz β} (h : Went p l i e x j f) (h' : Went (q x) l j f y k g) : Went (bindP p q) l i e y k g where
 le := fun hg => by
  have hf : f = 0 := by
   refine Decidable.byContradiction fun hf => ?_
   exact hf (by rw [<- h'.stays hf]; exact hg)
  exact Nat.le_trans (h.le hf) (h'.le hg)
 len := h'.len
 stays := fun he => by
  have := h.stays he
  rw [h'.stays (by rw [this]; exact he),this]
 ok := fun he hg => by
  have hf : f = 0 := by
   refine Decidable.byContradiction fun hf => ?_
   exact hf (by rw [<- h'.stays hf]; exact hg)
  rw [bind_ok (h.ok he hf)]
  exact h'.ok hf hg
 no := fun he hg => by
  by_cases hf : f = 0
  ·rw [bind_ok (h.ok he hf)]
   exact h'.no hf hg
  ·rw [h'.stays hf]
   exact bind_err (h.no he hf)
theorem Went.ret (x : α) (hi : i <= l.length) (e : Int) : Went (retP x) l i e x i e := ⟨fun _ => Nat.le_refl _,hi,fun _ => rfl,fun _ _ => rfl,fun h h' => absurd h h'⟩
theorem Went.map {q : α -> β} (h : Went p l i e x j f) : Went (bindP p fun x => retP (q x)) l i e (q x) j f := h.bind (Went.ret (q x) h.len f)
theorem Went.wrong (x : α) (c : Int) (hc : c ≠ 0) (hi : i <= l.length) (hp : e = 0 -> p (l.drop i) = .error c) : Went p l i e x i (if e = 0 then c else e) := by
 refine ⟨fun _ => Nat.le_refl _,hi,fun he => if_neg he,fun he hf => ?_,fun he hf => ?_⟩
 ·rw [if_pos he] at hf; exact absurd hf hc
 ·rw [if_pos he]; exact hp he
theorem Went.bad (x : α) (c : Int) (hc : c ≠ 0) (hj : j <= l.length) (hp : p (l.drop i) = .error c) : Went p l i 0 x j c := ⟨fun h => absurd h hc,hj,fun h => absurd rfl h,fun _ h => absurd h hc,fun _ _ => hp⟩
theorem Went.lost (x : α) (he : e ≠ 0) (hj : j <= l.length) : Went p l i e x j e := ⟨fun h => absurd h he,hj,fun _ => rfl,fun h => absurd h he,fun h => absurd h he⟩
theorem Went.off (x : α) (he : e ≠ 0) (hi : i <= j) (hj : j <= l.length) : Went p l i e x j e := ⟨fun _ => hi,hj,fun _ => rfl,fun h => absurd h he,fun h => absurd h he⟩
end
theorem Went.same {α : Type} {p q : Pz α} {l : Bs} {i j : Nat} {e f : Int} {x : α} (h : Went p l i e x j f) (hq : e = 0 -> q (l.drop i) = p (l.drop i)) : Went q l i e x j f :=
 ⟨h.le,h.len,h.stays,fun he hf => (hq he).trans (h.ok he hf),fun he hf => (hq he).trans (h.no he hf)⟩
theorem gnum_raw (l : Bs) (i : Nat) (h : i <= l.length) : gnum l i = match rawP (l.drop i) with
    | .error c => (0,0,c)
    | .ok x => (x.1,((l.length - x.2.length : Nat) : Int),0) := by
 unfold gnum
 rw [if_neg (by omega),Int.toNat_natCast]
 cases hd : l.drop i with
 | nil => rfl
 | cons c r =>
   have hl : r.length + 1 + i = l.length := by
    have := congrArg List.length hd
    rw [List.length_drop,List.length_cons] at this
    omega
   rw [rawP_cons]
   dsimp only
   split
   ·rfl
   ·split
    ·rfl
    ·rename_i h1 h2
     dsimp only
     rw [List.length_drop]
     have : i + 1 + c.toNat = l.length - (r.length - c.toNat) := by omega
     rw [this]
theorem raw_at {l : Bs} {i v : Nat} {r : Bs} (h : i <= l.length) (hr : rawP (l.drop i) = .ok (v,r)) : i <= l.length - r.length /\ l.length - r.length <= l.length /\ r = l.drop (l.length - r.length) := by
 have h1 := (raw_canon hr).1
 have h2 := congrArg List.length h1
 rw [List.length_drop,List.length_append] at h2
 refine ⟨by omega,by omega,?_⟩
 have h3 : l.length - r.length = i + (numL v).length := by omega
 rw [h3,<- List.drop_drop,h1,List.drop_left' rfl]
end Go.Proofs.YtmpcnhpdobdmcaaGreatDoor
namespace Go.Proofs.YtmpcnhpdobdmcaaGreatDoor
open Go
structure Loops {α : Type} (p : Pz α) (l : Bs) (n i : Nat) (e : Int) (K : List α) (j : Nat) (f : Int) : Prop where
 le : f = 0 -> i <= j
 len : j <= l.length
 many : K.length <= n
 stays : e ≠ 0 -> f = e
 ok : e = 0 -> f = 0 -> manyP p n (l.drop i) = (match manyP p (n - K.length) (l.drop j) with | .error c => .error c | .ok x => .ok (K ++ x.1,x.2))
 no : e = 0 -> f ≠ 0 -> manyP p n (l.drop i) = .error f
section
variable {α : Type} {p : Pz α} {l : Bs} {n i j k : Nat} {e f g : Int} {K : List α} {x : α}
theorem Loops.start (p : Pz α) (n : Nat) (hi : i <= l.length) (e : Int) : Loops p l n i e [] i e where
 le := fun _ => Nat.le_refl _
 len := hi
 many := Nat.zero_le _
 stays := fun _ => rfl
 ok := fun _ _ => by
  show manyP p n (l.drop i) = (match manyP p n (l.drop i) with | .error c => .error c | .ok x => .ok ([] ++ x.1,x.2))
  cases manyP p n (l.drop i) <;> rfl
 no := fun h h' => absurd h h'
theorem Loops.step (h : Loops p l n i e K j 0) (hn : K.length < n) (hw : Went p l j 0 x k g) : Loops p l n i e (K ++ [x]) k g where
 le := fun hg => Nat.le_trans (h.le rfl) (hw.le hg)
 len := hw.len
 many := by rw [List.length_append]; exact hn
 stays := fun he => absurd (h.stays he).symm he
 ok := fun he hg => by
  rw [h.ok he rfl,List.length_append]
  obtain ⟨m,hm⟩ : ∃ m,n - K.length = m + 1 := ⟨n - K.length - 1,by omega⟩
  have hm2 : n - (K.length + [x].length) = m := by simp; omega
  rw [hm,hm2]
  have h1 : manyP p (m + 1) (l.drop j) = (bindP (manyP p m) fun xs => retP (x :: xs)) (l.drop k) := by
   show (bindP p fun y => bindP (manyP p m) fun xs => retP (y :: xs)) (l.drop j) = _
   rw [bind_ok (hw.ok rfl hg)]
  rw [h1]
  unfold bindP
  cases manyP p m (l.drop k) with
  | error c => rfl
  | ok z => simp [retP]
 no := fun he hg => by
  rw [h.ok he rfl]
  obtain ⟨m,hm⟩ : ∃ m,n - K.length = m + 1 := ⟨n - K.length - 1,by omega⟩
  rw [hm]
  have h1 : manyP p (m + 1) (l.drop j) = .error g := by
   show (bindP p fun y => bindP (manyP p m) fun xs => retP (y :: xs)) (l.drop j) = _
   exact bind_err (hw.no rfl hg)
  rw [h1]
theorem Loops.done (h : Loops p l n i e K j f) (hd : f = 0 -> K.length = n) : Went (manyP p n) l i e K j f where
 le := h.le
 len := h.len
 stays := h.stays
 ok := fun he hf => by
  rw [h.ok he hf,hd hf,Nat.sub_self]
  show Except.ok (K ++ [],l.drop j) = _
  rw [List.append_nil]
 no := h.no
theorem Loops.list (hc : Went cntP l i e n j f) (h : Loops p l n j f K k g) (hd : g = 0 -> K.length = n) : Went (listP p) l i e K k g := hc.bind (h.done hd)
end
end Go.Proofs.YtmpcnhpdobdmcaaGreatDoor
