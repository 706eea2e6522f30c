import Derived.Shelf.SlIter.Nil
import Derived.Shelf.SortM.Plain
import Derived.Shelf.SortM.SortNone
import Derived.Test.YtmpcnhpdobdmcaaGreatDoorLawNotesBI
set_option linter.unusedVariables false
set_option linter.unusedSimpArgs false
set_option maxHeartbeats 1000000
namespace Go.Proofs.YtmpcnhpdobdmcaaGreatDoor
open Go Go.RowKit Go.Shelf Go.Proofs Go.Sort Go.Maps
def tkeysRen : Go.Shelf.Ren := ⟨fun | 7 => 60 | 10 => 95 | n => n,fun | 23 => 66 | 26 => 9 | 3 => 111 | 28 => 117 | 0 => 0 | 27 => 116 | 33 => 157 | 4 => 4 | n => n,fun | n => n⟩
theorem tkeysLays : Go.Proofs.SlLaysZ.n7 Tryz.prog tkeysRen := {
 mixed := by kernel_rfl
 f7 := ⟨Tryz.f60.name,by decide,Tryz.func60.trans (congrArg some (by kernel_rfl))⟩
 f10 := ⟨Tryz.f95.name,by decide,Tryz.func95.trans (congrArg some (by kernel_rfl))⟩
 t0 := Tryz.underlying0
 a0 := Tryz.isAgg0
 z0 := Tryz.sizeOf0
 v0 := Tryz.zeroValue0
 t4 := Tryz.underlying4
 a4 := Tryz.isAgg4
 z4 := Tryz.sizeOf4
 v4 := Tryz.zeroValue4
 t23 := Tryz.underlying66
 a23 := Tryz.isAgg66
 z23 := Tryz.sizeOf66
 v23 := Tryz.zeroValue66
 t26 := Tryz.underlying9
 a26 := Tryz.isAgg9
 z26 := Tryz.sizeOf9
 v26 := Tryz.zeroValue9
 t27 := Tryz.underlying116
 a27 := Tryz.isAgg116
 z27 := Tryz.sizeOf116
 v27 := Tryz.zeroValue116
 t28 := Tryz.underlying117
 a28 := Tryz.isAgg117
 z28 := Tryz.sizeOf117
 v28 := Tryz.zeroValue117
 t33 := Tryz.underlying157
 a33 := Tryz.isAgg157
 z33 := Tryz.sizeOf157
 v33 := Tryz.zeroValue157 }
def tsortedRen : Go.Shelf.Ren := ⟨fun | 6 => 59 | 8 => 93 | 9 => 94 | 11 => 147 | 13 => 84 | 12 => 148 | 23 => 136 | 24 => 137 | 14 => 192 | 15 => 193 | 16 => 194 | 17 => 195 | 18 => 196 | 19 => 197 | 20 => 198 | 21 => 199 | 22 => 200 | 25 => 229 | 26 => 177 | 27 => 178 | 28 => 230 | 29 => 231 | 30 => 232 | 31 => 250 | n => n,fun | 26 => 9 | 28 => 117 | 24 => 48 | 0 => 0 | 3 => 3 | 37 => 149 | 48 => 212 | 50 => 214 | 4 => 4 | 40 => 204 | 39 => 203 | 45 => 209 | 5 => 5 | 9 => 9 | 51 => 248 | 55 => 251 | 57 => 285 | 58 => 286 | 33 => 157 | n => n,fun | n => n⟩
theorem tsortedLays : Go.Proofs.SlLaysZ.n6 Tryz.prog tsortedRen := {
 mixed := by kernel_rfl
 f6 := ⟨Tryz.f59.name,by decide,Tryz.func59.trans (congrArg some (by kernel_rfl))⟩
 f8 := ⟨Tryz.f93.name,by decide,Tryz.func93.trans (congrArg some (by kernel_rfl))⟩
 f11 := ⟨Tryz.f147.name,by decide,Tryz.func147.trans (congrArg some (by kernel_rfl))⟩
 t0 := Tryz.underlying0
 a0 := Tryz.isAgg0
 z0 := Tryz.sizeOf0
 v0 := Tryz.zeroValue0
 t24 := Tryz.underlying48
 a24 := Tryz.isAgg48
 z24 := Tryz.sizeOf48
 v24 := Tryz.zeroValue48
 t26 := Tryz.underlying9
 a26 := Tryz.isAgg9
 z26 := Tryz.sizeOf9
 v26 := Tryz.zeroValue9
 t28 := Tryz.underlying117
 a28 := Tryz.isAgg117
 z28 := Tryz.sizeOf117
 v28 := Tryz.zeroValue117
 i26 := by kernel_rfl }
def tsortRen : Go.Shelf.Ren := ⟨fun | 6 => 94 | 8 => 84 | 9 => 148 | 19 => 136 | 20 => 137 | 21 => 192 | 22 => 193 | 23 => 194 | 24 => 195 | 25 => 196 | 26 => 197 | 27 => 198 | 28 => 199 | 29 => 200 | 36 => 229 | 31 => 177 | 32 => 178 | 37 => 230 | 38 => 231 | 39 => 232 | 41 => 250 | n => n,fun | 27 => 48 | 29 => 9 | 3 => 3 | 32 => 149 | 26 => 48 | 0 => 0 | 44 => 212 | 46 => 214 | 4 => 4 | 36 => 204 | 35 => 203 | 41 => 209 | 5 => 5 | 9 => 9 | 53 => 248 | 57 => 251 | 63 => 285 | 64 => 286 | n => n,fun | n => n⟩
theorem tsortLays : Go.Proofs.SlLaysM.n6 Tryz.prog tsortRen := {
 mixed := by kernel_rfl
 f6 := ⟨Tryz.f94.name,by decide,Tryz.func94.trans (congrArg some (by kernel_rfl))⟩
 f8 := Tryz.func84.trans (congrArg some (by kernel_rfl))
 f9 := ⟨Tryz.f148.name,by decide,Tryz.func148.trans (congrArg some (by kernel_rfl))⟩
 f19 := Tryz.func136.trans (congrArg some (by kernel_rfl))
 f20 := Tryz.func137.trans (congrArg some (by kernel_rfl))
 f21 := ⟨Tryz.f192.name,by decide,Tryz.func192.trans (congrArg some (by kernel_rfl))⟩
 f22 := ⟨Tryz.f193.name,by decide,Tryz.func193.trans (congrArg some (by kernel_rfl))⟩
 f23 := ⟨Tryz.f194.name,by decide,Tryz.func194.trans (congrArg some (by kernel_rfl))⟩
 f24 := ⟨Tryz.f195.name,by decide,Tryz.func195.trans (congrArg some (by kernel_rfl))⟩
 f25 := ⟨Tryz.f196.name,by decide,Tryz.func196.trans (congrArg some (by kernel_rfl))⟩
 f26 := ⟨Tryz.f197.name,by decide,Tryz.func197.trans (congrArg some (by kernel_rfl))⟩
 f27 := ⟨Tryz.f198.name,by decide,Tryz.func198.trans (congrArg some (by kernel_rfl))⟩
 f28 := ⟨Tryz.f199.name,by decide,Tryz.func199.trans (congrArg some (by kernel_rfl))⟩
 f29 := ⟨Tryz.f200.name,by decide,Tryz.func200.trans (congrArg some (by kernel_rfl))⟩
 f31 := Tryz.func177.trans (congrArg some (by kernel_rfl))
 f32 := Tryz.func178.trans (congrArg some (by kernel_rfl))
 f36 := ⟨Tryz.f229.name,by decide,Tryz.func229.trans (congrArg some (by kernel_rfl))⟩
 f37 := ⟨Tryz.f230.name,by decide,Tryz.func230.trans (congrArg some (by kernel_rfl))⟩
 f38 := ⟨Tryz.f231.name,by decide,Tryz.func231.trans (congrArg some (by kernel_rfl))⟩
 f39 := ⟨Tryz.f232.name,by decide,Tryz.func232.trans (congrArg some (by kernel_rfl))⟩
 f41 := ⟨Tryz.f250.name,by decide,Tryz.func250.trans (congrArg some (by kernel_rfl))⟩
 t0 := Tryz.underlying0
 a0 := Tryz.isAgg0
 z0 := Tryz.sizeOf0
 v0 := Tryz.zeroValue0
 t3 := Tryz.underlying3
 a3 := Tryz.isAgg3
 z3 := Tryz.sizeOf3
 v3 := Tryz.zeroValue3
 t4 := Tryz.underlying4
 a4 := Tryz.isAgg4
 z4 := Tryz.sizeOf4
 v4 := Tryz.zeroValue4
 t5 := Tryz.underlying5
 a5 := Tryz.isAgg5
 z5 := Tryz.sizeOf5
 v5 := Tryz.zeroValue5
 t9 := Tryz.underlying9
 a9 := Tryz.isAgg9
 z9 := Tryz.sizeOf9
 v9 := Tryz.zeroValue9
 t26 := Tryz.underlying48
 a26 := Tryz.isAgg48
 z26 := Tryz.sizeOf48
 v26 := Tryz.zeroValue48
 t27 := Tryz.underlying48
 a27 := Tryz.isAgg48
 z27 := Tryz.sizeOf48
 v27 := Tryz.zeroValue48
 t29 := Tryz.underlying9
 a29 := Tryz.isAgg9
 z29 := Tryz.sizeOf9
 v29 := Tryz.zeroValue9
 t32 := Tryz.underlying149
 a32 := Tryz.isAgg149
 z32 := Tryz.sizeOf149
 v32 := Tryz.zeroValue149
 t35 := Tryz.underlying203
 a35 := Tryz.isAgg203
 z35 := Tryz.sizeOf203
 v35 := Tryz.zeroValue203
 t36 := Tryz.underlying204
 a36 := Tryz.isAgg204
 z36 := Tryz.sizeOf204
 v36 := Tryz.zeroValue204
 t41 := Tryz.underlying209
 a41 := Tryz.isAgg209
 z41 := Tryz.sizeOf209
 v41 := Tryz.zeroValue209
 t44 := Tryz.underlying212
 a44 := Tryz.isAgg212
 z44 := Tryz.sizeOf212
 v44 := Tryz.zeroValue212
 t46 := Tryz.underlying214
 a46 := Tryz.isAgg214
 z46 := Tryz.sizeOf214
 v46 := Tryz.zeroValue214
 t53 := Tryz.underlying248
 a53 := Tryz.isAgg248
 z53 := Tryz.sizeOf248
 v53 := Tryz.zeroValue248
 t57 := Tryz.underlying251
 a57 := Tryz.isAgg251
 z57 := Tryz.sizeOf251
 v57 := Tryz.zeroValue251
 t63 := Tryz.underlying285
 a63 := Tryz.isAgg285
 z63 := Tryz.sizeOf285
 v63 := Tryz.zeroValue285
 t64 := Tryz.underlying286
 a64 := Tryz.isAgg286
 z64 := Tryz.sizeOf286
 v64 := Tryz.zeroValue286 }
theorem tsorts (m : Nat) : AnyZ.SortsIn Tryz.prog tsortedRen Fence.wide m :=
 ⟨fun blk off cap ss W hH hblk hsz => callsIn_wide.2 (AnyM.slices_Sort_string tsortLays blk off cap ss W hH hblk hsz),
  fun p cap W => callsIn_wide.2 (AnyM.slices_Sort_string_none tsortLays p cap W)⟩
theorem names_raw {H : Type} (b nn : Nat) (D0 : DataW H) (R : Value -> Option (DataW H × List MemPlace)) (w : World) (hown : w.ownsMap Tryz.prog 9 R b nn D0) (hmax : Maps.size D0 <= 1000) :
    Calls Tryz.prog 31 #[.map (some b)] w fun e w' => ∃ (v : Value) (ss : List (List UInt8)),e = .returned v /\ ss.Perm (strKeys D0) /\
     w'.ownsRow w.heap.size 9 1 v ss.length ((ss.mergeSort (fun x y => decide (x <= y))).map encStr) /\ (v = .slice none 0 0 ↔ ss = []) /\ Below w.heap.size w w' := by
 refine (callsIn_wide (n := 6)).1 ?_
 have hbl := hown.lt
 have hseq : SeqGives Fence.wide 2 Tryz.prog 95 #[.pointer (some ⟨w.heap.size,0,none⟩)] encStr (fun ss => ss.Perm (strKeys D0)) (Maps.size D0) (w.alloc (.cells #[.map (some b)] 66)) :=
  AnyZ.keys_gives (ρ := tkeysRen) { tkeysLays with } Fence.wide _ trivial rfl (by omega) w.heap.size b nn D0 _ (by simp) (by simp) (by
   obtain ⟨es,clock,hb,Ft,hs,hD⟩ := hown
   exact ⟨es,clock,(Below.heap_alloc _ _ b hbl).trans hb,Ft,hs,hD⟩)
 have cK : ∀ mb W,CallsIn Fence.wide 5 Tryz.prog 60 #[.map mb] W fun e w' => e = .returned (.func (.func 95) #[] #[.pointer (some ⟨W.heap.size,0,none⟩)]) /\ w' = W.alloc (.cells #[.map mb] 66) := fun mb W => AnyZ.keys_in tkeysLays Fence.wide 5 trivial rfl mb W
 have cS := AnyZ.sorted_in tsortedLays Fence.wide 5 trivial trivial trivial trivial rfl (by omega) (tsorts _) (enters_of Tryz.func94 (by kernel_rfl) rfl) 95 #[.pointer (some ⟨w.heap.size,0,none⟩)] trivial (enters_of Tryz.func95 (by kernel_rfl) rfl) _ _ (by unfold maxLen; omega) (by omega) _ hseq
 change CallsIn _ _ Tryz.prog 59 _ _ _ at cS
 have hfK : Fence.wide.fn 60 := trivial
 have hfS : Fence.wide.fn 59 := trivial
 refine callsIn_of_wp Tryz.func31 rfl trivial ?_ rfl
 simp only [Tryz.ntmps31,List.size_toArray,List.length_cons,List.length_nil,Nat.reduceAdd,Nat.reduceSub,Array.replicate_succ,Array.replicate_zero,List.push_toArray,List.append_toArray,List.nil_append,List.cons_append]
 gi_wp2_with (first
  | (gi_at_call 60; refine (cK _ _).mono ?_; rintro e w' ⟨rfl,rfl⟩)
  | (gi_at_call 59; refine cS.mono ?_; rintro e w' ⟨v,ss,rfl,hS,hrow,hnil,hb⟩))
 go_ret
 exact ⟨v,ss,rfl,hS,ownsRow_base_a hrow (by simp),hnil,((Below.refl _ w).alloc (Nat.le_refl _) _).trans (hb.mono (by simp))⟩
theorem keys_sorted {α H : Type} {key : α -> ByteArray} {enc : α -> H} {l : List α} (hr : RiseK key l) {ss : List (List UInt8)} (hp : ss.Perm (strKeys (mapK key enc l))) : (ss.mergeSort fun x y => decide (x <= y)).map encStr = strRow (l.map key) := by
 have e : strKeys (mapK key enc l) = l.map fun x => (key x).data.toList := by
  show ((l.map (entK key enc)).map fun p => strOf p.1) = _
  rw [List.map_map]
  rfl
 rw [e] at hp
 have tr : ∀ a b c : List UInt8,leB a b = true -> leB b c = true -> leB a c = true := fun a b c h1 h2 => by
  simp only [leB,decide_eq_true_eq] at *
  exact List.le_trans h1 h2
 have tt : ∀ a b : List UInt8,(leB a b || leB b a) = true := fun a b => by
  simp only [leB,Bool.or_eq_true,decide_eq_true_eq]
  exact List.le_total a b
 have hs : ss.mergeSort leB = l.map fun x => (key x).data.toList := by
  refine List.Perm.eq_of_pairwise (le := fun a b => leB a b = true) (fun a b _ _ h1 h2 => ?_) (List.pairwise_mergeSort tr tt ss) ?_ ((List.mergeSort_perm ss leB).trans hp)
  ·simp only [leB,decide_eq_true_eq] at *
   exact List.le_antisymm h1 h2
  ·clear hp e
   induction l with
   | nil => exact List.Pairwise.nil
   | cons x l ih =>
     rw [List.map_cons,List.pairwise_cons]
     refine ⟨fun b hb => ?_,ih hr.2⟩
     obtain ⟨y,hy,rfl⟩ := List.mem_map.1 hb
     have h1 : (key x).data.toList < (key y).data.toList := hr.1 y hy
     simp only [leB,decide_eq_true_eq]
     exact List.le_of_lt h1
 rw [show (fun x y : List UInt8 => decide (x <= y)) = leB from rfl,hs,List.map_map]
 unfold strRow
 rw [List.map_map]
 refine List.map_congr_left fun x _ => ?_
 show Value.string ⟨(key x).data.toList.toArray⟩ = Value.string (key x)
 rw [Array.toArray_toList]
theorem names_t (m : Nat) (T : List TA) (w : World) (h : TbAt w m T) (hn : T.length <= 1000) :
    Calls Tryz.prog 31 #[.map (some m)] w fun e w' => ∃ (A : Option Addr) (c : Nat),e = .returned (.slice A T.length c) /\ RdS w' w'.heap.size A T.length (T.map TA.nm) /\ T.length <= c /\ Below w.heap.size w w' := by
 refine (names_raw m T.length (mapK TA.nm TA.g T) elemM w h.own (by rw [size_mapK]; exact hn)).mono ?_
 rintro e w' ⟨v,ss,rfl,hp,ho,_,hb⟩
 have hlen : ss.length = T.length := by
  have := hp.length_eq
  rw [this]
  show ((T.map (entK TA.nm TA.g)).map fun p => strOf p.1).length = _
  simp
 rw [keys_sorted h.ok.rise hp,hlen] at ho
 obtain ⟨A,c,rfl,h1,_,_,h2⟩ := RdS.of_own ho
 exact ⟨A,c,rfl,h2,h1,hb⟩
end Go.Proofs.YtmpcnhpdobdmcaaGreatDoor
