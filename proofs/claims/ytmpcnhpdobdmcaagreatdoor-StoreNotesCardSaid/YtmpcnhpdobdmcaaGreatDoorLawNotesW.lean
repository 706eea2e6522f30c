import Derived.Shelf.SlSortCmp.WholeK
import Derived.Shelf.SlMaps.Clone
import Derived.Test.YtmpcnhpdobdmcaaGreatDoorLawNotesO
set_option linter.unusedVariables false
set_option linter.unusedSimpArgs false
set_option maxHeartbeats 1000000
namespace Go.Proofs.YtmpcnhpdobdmcaaGreatDoor
open Go Go.RowKit Go.Shelf Go.Proofs Go.Sort
def nsortRen : Go.Shelf.Ren := ⟨fun | 6 => 63 | 15 => 84 | 14 => 99 | 28 => 136 | 29 => 137 | 20 => 154 | 21 => 155 | 22 => 156 | 23 => 157 | 24 => 158 | 25 => 159 | 26 => 160 | 27 => 161 | 46 => 206 | 47 => 177 | 48 => 178 | 49 => 207 | 50 => 208 | 57 => 234 | n => n,fun | 22 => 37 | 24 => 57 | 25 => 123 | 3 => 3 | 39 => 149 | 0 => 0 | 53 => 212 | 55 => 214 | 4 => 4 | 46 => 204 | 45 => 203 | 50 => 209 | 5 => 5 | 9 => 9 | 66 => 248 | 70 => 251 | 76 => 285 | 77 => 286 | n => n,fun | n => n⟩
theorem nsortLays : Go.Proofs.SlLaysF0.n6 Tryz.prog nsortRen := {
 mixed := by kernel_rfl
 f6 := ⟨Tryz.f63.name,by decide,Tryz.func63.trans (congrArg some (by kernel_rfl))⟩
 f14 := ⟨Tryz.f99.name,by decide,Tryz.func99.trans (congrArg some (by kernel_rfl))⟩
 f15 := Tryz.func84.trans (congrArg some (by kernel_rfl))
 f20 := ⟨Tryz.f154.name,by decide,Tryz.func154.trans (congrArg some (by kernel_rfl))⟩
 f21 := ⟨Tryz.f155.name,by decide,Tryz.func155.trans (congrArg some (by kernel_rfl))⟩
 f22 := ⟨Tryz.f156.name,by decide,Tryz.func156.trans (congrArg some (by kernel_rfl))⟩
 f23 := ⟨Tryz.f157.name,by decide,Tryz.func157.trans (congrArg some (by kernel_rfl))⟩
 f24 := ⟨Tryz.f158.name,by decide,Tryz.func158.trans (congrArg some (by kernel_rfl))⟩
 f25 := ⟨Tryz.f159.name,by decide,Tryz.func159.trans (congrArg some (by kernel_rfl))⟩
 f26 := ⟨Tryz.f160.name,by decide,Tryz.func160.trans (congrArg some (by kernel_rfl))⟩
 f27 := ⟨Tryz.f161.name,by decide,Tryz.func161.trans (congrArg some (by kernel_rfl))⟩
 f28 := Tryz.func136.trans (congrArg some (by kernel_rfl))
 f29 := Tryz.func137.trans (congrArg some (by kernel_rfl))
 f46 := ⟨Tryz.f206.name,by decide,Tryz.func206.trans (congrArg some (by kernel_rfl))⟩
 f47 := Tryz.func177.trans (congrArg some (by kernel_rfl))
 f48 := Tryz.func178.trans (congrArg some (by kernel_rfl))
 f49 := ⟨Tryz.f207.name,by decide,Tryz.func207.trans (congrArg some (by kernel_rfl))⟩
 f50 := ⟨Tryz.f208.name,by decide,Tryz.func208.trans (congrArg some (by kernel_rfl))⟩
 f57 := ⟨Tryz.f234.name,by decide,Tryz.func234.trans (congrArg some (by kernel_rfl))⟩
 t0 := Tryz.underlying0
 a0 := Tryz.isAgg0
 z0 := Tryz.sizeOf0
 v0 := Tryz.zeroValue0
 t3 := Tryz.underlying3
 a3 := Tryz.isAgg3
 z3 := Tryz.sizeOf3
 v3 := Tryz.zeroValue3
 t4 := Tryz.underlying4
 a4 := Tryz.isAgg4
 z4 := Tryz.sizeOf4
 v4 := Tryz.zeroValue4
 t5 := Tryz.underlying5
 a5 := Tryz.isAgg5
 z5 := Tryz.sizeOf5
 v5 := Tryz.zeroValue5
 t9 := Tryz.underlying9
 a9 := Tryz.isAgg9
 z9 := Tryz.sizeOf9
 v9 := Tryz.zeroValue9
 t22 := Tryz.underlying37
 a22 := Tryz.isAgg37
 z22 := Tryz.sizeOf37
 v22 := Tryz.zeroValue37
 t25 := Tryz.underlying123
 a25 := Tryz.isAgg123
 z25 := Tryz.sizeOf123
 v25 := Tryz.zeroValue123
 t39 := Tryz.underlying149
 a39 := Tryz.isAgg149
 z39 := Tryz.sizeOf149
 v39 := Tryz.zeroValue149
 t45 := Tryz.underlying203
 a45 := Tryz.isAgg203
 z45 := Tryz.sizeOf203
 v45 := Tryz.zeroValue203
 t46 := Tryz.underlying204
 a46 := Tryz.isAgg204
 z46 := Tryz.sizeOf204
 v46 := Tryz.zeroValue204
 t50 := Tryz.underlying209
 a50 := Tryz.isAgg209
 z50 := Tryz.sizeOf209
 v50 := Tryz.zeroValue209
 t53 := Tryz.underlying212
 a53 := Tryz.isAgg212
 z53 := Tryz.sizeOf212
 v53 := Tryz.zeroValue212
 t55 := Tryz.underlying214
 a55 := Tryz.isAgg214
 z55 := Tryz.sizeOf214
 v55 := Tryz.zeroValue214
 t66 := Tryz.underlying248
 a66 := Tryz.isAgg248
 z66 := Tryz.sizeOf248
 v66 := Tryz.zeroValue248
 t70 := Tryz.underlying251
 a70 := Tryz.isAgg251
 z70 := Tryz.sizeOf251
 v70 := Tryz.zeroValue251
 t76 := Tryz.underlying285
 a76 := Tryz.isAgg285
 z76 := Tryz.sizeOf285
 v76 := Tryz.zeroValue285
 t77 := Tryz.underlying286
 a77 := Tryz.isAgg286
 z77 := Tryz.sizeOf286
 v77 := Tryz.zeroValue286 }
def ncloneRen : Go.Shelf.Ren := ⟨fun | 5 => 125 | 7 => 175 | n => n,fun | 23 => 83 | 25 => 3 | 3 => 57 | 4 => 4 | 20 => 20 | n => n,fun | n => n⟩
theorem ncloneLays : Go.Proofs.SlLaysW.n5 Tryz.prog ncloneRen := {
 mixed := by kernel_rfl
 f5 := ⟨Tryz.f125.name,by decide,Tryz.func125.trans (congrArg some (by kernel_rfl))⟩
 f7 := Tryz.func175.trans (congrArg some (by kernel_rfl))
 t4 := Tryz.underlying4
 a4 := Tryz.isAgg4
 z4 := Tryz.sizeOf4
 v4 := Tryz.zeroValue4
 t20 := Tryz.underlying20
 a20 := Tryz.isAgg20
 z20 := Tryz.sizeOf20
 v20 := Tryz.zeroValue20
 t23 := Tryz.underlying83
 a23 := Tryz.isAgg83
 z23 := Tryz.sizeOf83
 v23 := Tryz.zeroValue83 }
theorem noteClone_any {H : Type} (k : TypeId) (R : Value -> Option (DataW H × List MemPlace)) (b n : Nat) (D : DataW H) (w : World) (hown : w.ownsMap Tryz.prog k R b n D) :
    Calls Tryz.prog 125 #[.map (some b)] w fun e w' => e = .returned (.map (some w.heap.size)) /\ w'.ownsMap Tryz.prog k R w.heap.size n D /\ w'.ownsMap Tryz.prog k R b n D /\ Below w.heap.size w w' :=
 AnyW.maps_Clone_owns ncloneLays k R b n D w hown
def encN (x : Int × ByteArray) : List Value := [.int .i64 x.1,.string x.2]
def ncmp (x y : Int × ByteArray) : Int := if x.1 < y.1 then -1 else if y.1 < x.1 then 1 else 0
theorem ltN (x y : Int × ByteArray) : ltOf ncmp x y = decide (x.1 < y.1) := by
 unfold ltOf ncmp
 by_cases h1 : x.1 < y.1
 ·simp [h1]
 ·by_cases h2 : y.1 < x.1 <;> simp [h1,h2]
theorem swoN : SWO (ltOf ncmp) where
 irrefl x := by rw [ltN]; simp
 trans x y z h1 h2 := by rw [ltN] at *; simp at *; omega
 ntrans x y z h1 h2 := by rw [ltN] at *; simp at *; omega
theorem nan_int11 (x : Int) (w : World) :
    Calls Tryz.prog 100 #[.int .i64 x] w fun e w' => e = .returned (.bool false) /\ w = w' := by
 go_enter Tryz.func100,Tryz.ntmps100
 go_wp2
 go_ret
 exact ⟨by simp,rfl⟩
theorem cmp_int11 (x y : Int × ByteArray) (w : World) :
    Calls Tryz.prog 65 #[.int .i64 x.1,.int .i64 y.1] w fun e w' => e = .returned (.int .i64 (ncmp x y)) /\ w = w' := by
 obtain ⟨x,s⟩ := x
 obtain ⟨y,t⟩ := y
 obtain ⟨r,hr⟩ : ∃ r,ncmp (x,s) (y,t) = r := ⟨_,rfl⟩
 rw [hr]
 unfold ncmp at hr
 dsimp only at hr ⊢
 have HR := Lib.hid hr
 clear hr
 by_cases h1 : x < y
 ·go_enter Tryz.func65,Tryz.ntmps65
  go_wp2_with (first | (go_at_call 100; refine (nan_int11 _ _).mono ?_; rintro e w1 ⟨rfl,rfl⟩))
  go_ret
  exact ⟨by show Ending.returned (.int .i64 (-1)) = _; rw [<- HR.out,if_pos h1],rfl⟩
 ·by_cases h2 : y < x
  ·go_enter Tryz.func65,Tryz.ntmps65
   go_wp2_with (first | (go_at_call 100; refine (nan_int11 _ _).mono ?_; rintro e w1 ⟨rfl,rfl⟩))
   go_ret
   exact ⟨by show Ending.returned (.int .i64 (1)) = _; rw [<- HR.out,if_neg (by omega),if_pos h2],rfl⟩
  ·go_enter Tryz.func65,Tryz.ntmps65
   go_wp2_with (first | (go_at_call 100; refine (nan_int11 _ _).mono ?_; rintro e w1 ⟨rfl,rfl⟩))
   go_ret
   exact ⟨by show Ending.returned (.int .i64 (0)) = _; rw [<- HR.out,if_neg (by omega),if_neg (by omega)],rfl⟩
theorem cmp_note (x y : Int × ByteArray) (W : World) :
    Calls Tryz.prog 64 #[.agg #[.int .i64 x.1,.string x.2],.agg #[.int .i64 y.1,.string y.2]] W fun e w' => e = .returned (.int .i64 (ncmp x y)) /\ ∃ q os',w' = grow (W.drewN q) os' := by
 have hcon := fun W' => cmp_int11 x y W'
 generalize ncmp x y = r at hcon ⊢
 go_enter Tryz.func64,Tryz.ntmps64
 go_wp2_with (go_at_call 65; refine (hcon _).mono ?_; rintro e w' ⟨rfl,rfl⟩)
 go_ret
 exact ⟨rfl,0,_,by rw [alloc_eq_grow,alloc_eq_grow,grow_grow]; rfl⟩
theorem cmpLaysN (blk off size : Nat) (w : World) : CmpLays Tryz.prog 64 #[] encN 2 ncmp blk off size w :=
 fun _ _ _ _ x y => cmp_note x y _
theorem flatN (l : Fl) : flatK encN 2 l.toArray = (tRow l).toArray := by
 refine ext_get! (by simp [tRow_length]) fun t ht => ?_
 have ht' : t < l.length * 2 := by simpa using ht
 rw [get_flatK _ _ _ t (by simpa using ht')]
 obtain ⟨j,hj⟩ : ∃ j,t / 2 = j := ⟨_,rfl⟩
 have hjl : j < l.length := by omega
 have e1 : (l.toArray[j]! : Int × ByteArray) = l[j] := by simp [hjl]
 rw [hj,e1]
 rcases Nat.mod_two_eq_zero_or_one t with hm | hm
 ·obtain rfl : t = j * 2 := by omega
  have h0 := tRow_get0 l j hjl
  have h1 : ((tRow l).toArray)[j * 2]! = .int .i64 l[j].1 := by
   rw [Array.getElem!_eq_getD,Array.getD_eq_getD_getElem?,List.getElem?_toArray,h0]
   rfl
  rw [hm,h1]
  rfl
 ·obtain rfl : t = j * 2 + 1 := by omega
  have h0 := tRow_get1 l j hjl
  have h1 : ((tRow l).toArray)[j * 2 + 1]! = .string l[j].2 := by
   rw [Array.getElem!_eq_getD,Array.getD_eq_getD_getElem?,List.getElem?_toArray,h0]
   rfl
  rw [hm,h1]
  rfl
theorem holds_of_blockV {w : World} {g : Nat} {cur : Array Value} {e : TypeId} {xs : List Value} (hb : w.heap[g]? = some (.cells cur e (0,0))) (ht : cur.toList.take xs.length = xs) : Holds id w g 0 xs.toArray := by
 intro j hj
 have hj' : j < xs.length := by simpa using hj
 refine ⟨?_,by simp [World.frozen?,hb]⟩
 have h1 := congrArg (·[j]?) ht
 simp only [List.getElem?_take_of_lt hj'] at h1
 simp only [World.cell?,hb,Nat.zero_add]
 simp only [Option.isSome_none,Bool.false_eq_true,if_false]
 rw [<- Array.getElem?_toList,h1]
 simp [hj']
theorem heap_sortedV {w : World} {g n : Nat} {os : Array Obj} {cur : Array Value} {e : TypeId} {fr : Nat × Nat} (d : Array Value) (hb : w.heap[g]? = some (.cells cur e fr)) :
    (grow (putRow id (Sort.ahead w n) g 0 d) os).heap[g]? = some (.cells (putCells id 0 d cur) e fr) := by
 have hg : g < w.heap.size := (Array.getElem?_eq_some_iff.1 hb).1
 rw [heap_grow_old _ _ (by simpa using hg)]
 simp [putRow,mapBlock,Sort.ahead,Array.getElem?_modify,hb,onCells]
theorem grownBy_sortedV {w : World} {g n : Nat} {os : Array Obj} (d : Array Value) : w.grownBy (grow (putRow id (Sort.ahead w n) g 0 d) os) (some g) := by
 refine ⟨rfl,rfl,rfl,by simp,fun k hk hne => ?_⟩
 rw [heap_grow_old _ _ (by simpa using hk)]
 have : g ≠ k := fun e => hne (by rw [e])
 simp [putRow,mapBlock,Sort.ahead,Array.getElem?_modify,this]
theorem take_putCellsV (cur : Array Value) (ts : List Value) (h : ts.length <= cur.size) : (putCells id 0 ts.toArray cur).toList.take ts.length = ts := by
 apply List.ext_getElem?
 intro j
 by_cases hj : j < ts.length
 ·rw [List.getElem?_take_of_lt hj,Array.getElem?_toList]
  simp [putCells,hj,show j < cur.size by omega]
 ·rw [List.getElem?_take_eq_none (by omega),List.getElem?_eq_none (by omega)]
theorem sorted_is {S ss : Fl} (hu : Up S) (hp : ss.Perm S) {d' : Array (Int × ByteArray)} (h1 : PermIn 0 ss.toArray.size ss.toArray d') (h2 : SortedIn (ltOf ncmp) 0 ss.toArray.size d') : d' = S.toArray := by
 obtain ⟨hsz,_,hperm⟩ := h1
 have e1 : d'.extract 0 ss.toArray.size = d' := by rw [<- hsz]; exact Array.extract_size
 rw [e1,Array.extract_size] at hperm
 have hP : d'.toList.Perm S := hperm.trans (by simpa using hp)
 have hl : d'.toList = S := by
  refine List.Perm.eq_of_pairwise (le := fun x y : Int × ByteArray => x.1 <= y.1) (fun a b ha hb h1 h2 => ?_) ?_ (hu.imp fun {a b} hab => Int.le_of_lt hab) hP
  ·exact up_inj hu (hP.mem_iff.1 ha) hb (by omega)
  ·rw [List.pairwise_iff_getElem]
   intro i j hi hj hij
   have hi' : i < d'.size := by simpa using hi
   have hj' : j < d'.size := by simpa using hj
   have h3 := h2 i j (Nat.zero_le _) hij (by rw [<- hsz]; exact hj')
   rw [ltN] at h3
   simp [hi',hj'] at h3
   simpa using h3
 rw [<- hl]
theorem sortn_any (base g cap : Nat) (S ss : Fl) (w : World) (hu : Up S) (hp : ss.Perm S) (h : w.ownsRow base 57 2 (.slice (some ⟨g,0,none⟩) ss.length cap) ss.length (tRow ss)) (hs : ss.length <= 1000000) :
    Calls Tryz.prog 63 #[.slice (some ⟨g,0,none⟩) ss.length cap,.func (.func 64) #[] #[]] w fun e w' =>
     e = .returned (.tuple #[]) /\ w'.ownsRow base 57 2 (.slice (some ⟨g,0,none⟩) ss.length cap) ss.length (tRow S) /\ w.grownBy w' (some g) := by
 have hsz : ss.length = S.length := hp.length_eq
 have hx := h.1
 rcases h.2 with ⟨e,_⟩ | ⟨g',cap',cur,e,hbase,hb,hn,hc,hz,ht⟩
 ·cases e
 ·injection e with e1 e2 e3
  injection e1 with e1
  injection e1 with e1
  subst e1
  subst e3
  have hlt : g < w.heap.size := (Array.getElem?_eq_some_iff.1 hb).1
  have eg : ∀ args w,(callFunc 64 args).run Tryz.prog w = .ok (.enter 64 args) w := enters_of Tryz.func64 (by kernel_rfl) rfl
  have ht2 : cur.toList.take (tRow ss).length = tRow ss := by rw [tRow_length]; exact ht
  have hH : HoldsK encN 2 w g 0 ss.toArray := by
   unfold HoldsK
   rw [flatN]
   exact holds_of_blockV hb ht2
  have hcon := AnyQ.slices_SortFunc nsortLays 2 Tryz.isAgg57 Tryz.sizeOf57 encN (fun _ => rfl) (fun x v hv => by simp [encN] at hv; rcases hv with rfl | rfl <;> rfl) ncmp swoN 64 #[] g 0 cap ss.toArray w eg (cmpLaysN g 0 ss.toArray.size w) hH hlt (by simp; omega)
  change Calls Tryz.prog 63 _ _ _ at hcon
  have e5 : ss.toArray.size = ss.length := by simp
  rw [e5] at hcon
  refine hcon.mono ?_
  rintro e w' ⟨rfl,d',n,os,hP,hS,rfl⟩
  have hd : d' = S.toArray := sorted_is hu hp (by rw [e5]; exact hP) (by rw [e5]; exact hS)
  subst hd
  unfold sortWorldK putRowK
  rw [flatN]
  have hrl : (tRow S).length = ss.length * 2 := by rw [tRow_length,hsz]
  refine ⟨rfl,⟨hrl,Or.inr ⟨g,cap,_,rfl,hbase,heap_sortedV _ hb,hn,hc,by simp [putCells,hz],?_⟩⟩,grownBy_sortedV _⟩
  rw [<- hrl]
  exact take_putCellsV cur (tRow S) (by rw [hrl,hz]; omega)
end Go.Proofs.YtmpcnhpdobdmcaaGreatDoor
