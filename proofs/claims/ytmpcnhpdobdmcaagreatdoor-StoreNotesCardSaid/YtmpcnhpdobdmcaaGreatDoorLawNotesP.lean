import Derived.Shelf.SortM.Plain
import Derived.Shelf.SortM.SortNone
import Derived.Shelf.SlMaps.Clone
import Derived.Shelf.SlicesE.Clone
import Derived.Sort.OwnSortedInts
import Derived.Test.YtmpcnhpdobdmcaaGreatDoorLawNotesL
set_option linter.unusedVariables false
set_option linter.unusedSimpArgs false
namespace Go.Proofs.YtmpcnhpdobdmcaaGreatDoor
open Go Go.RowKit Go.Shelf Go.Proofs
def sortRen : Go.Shelf.Ren := ⟨fun | 5 => 51 | 8 => 84 | 7 => 83 | 19 => 136 | 20 => 137 | 10 => 127 | 11 => 128 | 12 => 129 | 13 => 130 | 14 => 131 | 15 => 132 | 16 => 133 | 17 => 134 | 18 => 135 | 30 => 176 | 31 => 177 | 32 => 178 | 33 => 179 | 34 => 180 | 35 => 100 | 40 => 221 | n => n,fun | 23 => 38 | 25 => 3 | 3 => 3 | 32 => 149 | 22 => 38 | 0 => 0 | 44 => 212 | 46 => 214 | 4 => 4 | 36 => 204 | 35 => 203 | 41 => 209 | 5 => 5 | 9 => 9 | 53 => 248 | 57 => 251 | 63 => 285 | 64 => 286 | n => n,fun | n => n⟩
theorem sortLays : Go.Proofs.SlLaysM.n5 Tryz.prog sortRen := {
 mixed := by kernel_rfl
 f5 := ⟨Tryz.f51.name,by decide,Tryz.func51.trans (congrArg some (by kernel_rfl))⟩
 f7 := ⟨Tryz.f83.name,by decide,Tryz.func83.trans (congrArg some (by kernel_rfl))⟩
 f8 := Tryz.func84.trans (congrArg some (by kernel_rfl))
 f10 := ⟨Tryz.f127.name,by decide,Tryz.func127.trans (congrArg some (by kernel_rfl))⟩
 f11 := ⟨Tryz.f128.name,by decide,Tryz.func128.trans (congrArg some (by kernel_rfl))⟩
 f12 := ⟨Tryz.f129.name,by decide,Tryz.func129.trans (congrArg some (by kernel_rfl))⟩
 f13 := ⟨Tryz.f130.name,by decide,Tryz.func130.trans (congrArg some (by kernel_rfl))⟩
 f14 := ⟨Tryz.f131.name,by decide,Tryz.func131.trans (congrArg some (by kernel_rfl))⟩
 f15 := ⟨Tryz.f132.name,by decide,Tryz.func132.trans (congrArg some (by kernel_rfl))⟩
 f16 := ⟨Tryz.f133.name,by decide,Tryz.func133.trans (congrArg some (by kernel_rfl))⟩
 f17 := ⟨Tryz.f134.name,by decide,Tryz.func134.trans (congrArg some (by kernel_rfl))⟩
 f18 := ⟨Tryz.f135.name,by decide,Tryz.func135.trans (congrArg some (by kernel_rfl))⟩
 f19 := Tryz.func136.trans (congrArg some (by kernel_rfl))
 f20 := Tryz.func137.trans (congrArg some (by kernel_rfl))
 f30 := ⟨Tryz.f176.name,by decide,Tryz.func176.trans (congrArg some (by kernel_rfl))⟩
 f31 := Tryz.func177.trans (congrArg some (by kernel_rfl))
 f32 := Tryz.func178.trans (congrArg some (by kernel_rfl))
 f33 := ⟨Tryz.f179.name,by decide,Tryz.func179.trans (congrArg some (by kernel_rfl))⟩
 f34 := ⟨Tryz.f180.name,by decide,Tryz.func180.trans (congrArg some (by kernel_rfl))⟩
 f35 := ⟨Tryz.f100.name,by decide,Tryz.func100.trans (congrArg some (by kernel_rfl))⟩
 f40 := ⟨Tryz.f221.name,by decide,Tryz.func221.trans (congrArg some (by kernel_rfl))⟩
 t0 := Tryz.underlying0
 a0 := Tryz.isAgg0
 z0 := Tryz.sizeOf0
 v0 := Tryz.zeroValue0
 t3 := Tryz.underlying3
 a3 := Tryz.isAgg3
 z3 := Tryz.sizeOf3
 v3 := Tryz.zeroValue3
 t4 := Tryz.underlying4
 a4 := Tryz.isAgg4
 z4 := Tryz.sizeOf4
 v4 := Tryz.zeroValue4
 t5 := Tryz.underlying5
 a5 := Tryz.isAgg5
 z5 := Tryz.sizeOf5
 v5 := Tryz.zeroValue5
 t9 := Tryz.underlying9
 a9 := Tryz.isAgg9
 z9 := Tryz.sizeOf9
 v9 := Tryz.zeroValue9
 t22 := Tryz.underlying38
 a22 := Tryz.isAgg38
 z22 := Tryz.sizeOf38
 v22 := Tryz.zeroValue38
 t23 := Tryz.underlying38
 a23 := Tryz.isAgg38
 z23 := Tryz.sizeOf38
 v23 := Tryz.zeroValue38
 t25 := Tryz.underlying3
 a25 := Tryz.isAgg3
 z25 := Tryz.sizeOf3
 v25 := Tryz.zeroValue3
 t32 := Tryz.underlying149
 a32 := Tryz.isAgg149
 z32 := Tryz.sizeOf149
 v32 := Tryz.zeroValue149
 t35 := Tryz.underlying203
 a35 := Tryz.isAgg203
 z35 := Tryz.sizeOf203
 v35 := Tryz.zeroValue203
 t36 := Tryz.underlying204
 a36 := Tryz.isAgg204
 z36 := Tryz.sizeOf204
 v36 := Tryz.zeroValue204
 t41 := Tryz.underlying209
 a41 := Tryz.isAgg209
 z41 := Tryz.sizeOf209
 v41 := Tryz.zeroValue209
 t44 := Tryz.underlying212
 a44 := Tryz.isAgg212
 z44 := Tryz.sizeOf212
 v44 := Tryz.zeroValue212
 t46 := Tryz.underlying214
 a46 := Tryz.isAgg214
 z46 := Tryz.sizeOf214
 v46 := Tryz.zeroValue214
 t53 := Tryz.underlying248
 a53 := Tryz.isAgg248
 z53 := Tryz.sizeOf248
 v53 := Tryz.zeroValue248
 t57 := Tryz.underlying251
 a57 := Tryz.isAgg251
 z57 := Tryz.sizeOf251
 v57 := Tryz.zeroValue251
 t63 := Tryz.underlying285
 a63 := Tryz.isAgg285
 z63 := Tryz.sizeOf285
 v63 := Tryz.zeroValue285
 t64 := Tryz.underlying286
 a64 := Tryz.isAgg286
 z64 := Tryz.sizeOf286
 v64 := Tryz.zeroValue286 }
theorem sort_any (blk off cap : Nat) (zs : List Int) (w : World) (hH : Sort.Holds (Value.int .i64) w blk off zs.toArray) (hblk : blk < w.heap.size) (hsz : zs.length < 4611686018427387904) :
    Calls Tryz.prog 51 #[.slice (some ⟨blk,off,none⟩) zs.length cap] w fun e w' =>
     e = .returned (.tuple #[]) /\ ∃ n os,w' = Sort.grow (Sort.putRow (Value.int .i64) (Sort.ahead w n) blk off (zs.mergeSort fun x y => decide (x <= y)).toArray) os :=
 AnyM.slices_Sort_int sortLays blk off cap zs w hH hblk hsz
theorem sort_none (p : Option Addr) (cap : Nat) (w : World) :
    Calls Tryz.prog 51 #[.slice p 0 cap] w fun e w' => e = .returned (.tuple #[]) /\ w = w' :=
 (AnyM.slices_Sort_int_none sortLays p cap w).mono fun e w' ⟨h,h'⟩ => ⟨h,h'.symm⟩
end Go.Proofs.YtmpcnhpdobdmcaaGreatDoor
namespace Go.Proofs.YtmpcnhpdobdmcaaGreatDoor
open Go Go.RowKit
structure Sh where
 log : List UInt8
 syn : Nat
 fs : Fl
 man : ByteArray
structure Sh.Ok (S : Sh) : Prop where
 syn : S.syn <= S.log.length
 log : S.log.length <= 262144
 len : S.fs.length <= 40
 up : Up S.fs
 wf : ∀ x ∈ S.fs,1 <= x.1 /\ x.1 <= 1099511627776
def Sh.new : Sh := ⟨[],0,[],⟨#[]⟩⟩
def clip (n : Int) (m : Nat) : Nat := min n.toNat m
def Sh.app (S : Sh) (b : ByteArray) : Sh × Int := if 262144 < S.log.length + b.size then (S,2) else ({ S with log := S.log ++ b.data.toList },0)
def Sh.sync (S : Sh) : Sh := { S with syn := S.log.length }
def Sh.cut (S : Sh) (n : Int) : Sh := { S with log := S.log.take (clip n S.log.length),syn := clip n S.log.length }
def Sh.put (S : Sh) (n : Int) (b : ByteArray) : Sh × Int :=
 if n < 1 \/ 1099511627776 < n \/ hasF S.fs n = true then (S,1)
 else if 262144 < b.size \/ 40 <= S.fs.length then (S,2) else ({ S with fs := insF S.fs n b },0)
def Sh.drop (S : Sh) (n : Int) : Sh := { S with fs := delF S.fs n }
def Sh.turn (S : Sh) (man : ByteArray) : Sh × Int := if 262144 < man.size then (S,2) else (⟨[],0,S.fs,man⟩,0)
def Sh.crash (S : Sh) (keep : Int) : Sh := S.cut (S.syn + clip keep (S.log.length - S.syn) : Nat)
theorem clip_le (n : Int) (m : Nat) : clip n m <= m := Nat.min_le_right _ _
theorem Sh.Ok.new : Sh.new.Ok := ⟨Nat.le_refl _,by simp [Sh.new],by simp [Sh.new],List.Pairwise.nil,fun x hx => by cases hx⟩
theorem Sh.Ok.app {S : Sh} (h : S.Ok) (b : ByteArray) : (S.app b).1.Ok := by
 unfold Sh.app
 split
 ·exact h
 ·rename_i hb
  have h1 := h.syn
  refine ⟨?_,?_,h.len,h.up,h.wf⟩
  ·simp only [List.length_append]; omega
  ·simp only [List.length_append,<- Lib.size_eq]; omega
theorem Sh.Ok.drop {S : Sh} (h : S.Ok) (n : Int) : (S.drop n).Ok :=
 ⟨h.syn,h.log,Nat.le_trans (delF_length_le _ _) h.len,h.up.del n,fun x hx => h.wf x (mem_delF hx)⟩
def ShAt (w : World) (F : Nat -> Prop) (p : Nat) (v : Value) (m : Nat) (S : Sh) : Prop :=
 w.heap[p]? = some (.cells #[v,.int .i64 (S.syn : Nat),.map (some m),.string S.man] 80 (0,0)) /\
 w.ownsRow 0 5 1 v S.log.length (Lib.byteCells S.log) /\ w.ownsMap Tryz.prog 3 elemF m S.fs.length (mapF S.fs) /\
 F p /\ F m /\ (∀ g,v.ownBlock = some g -> F g) /\ S.Ok
def ShIs (w : World) (F : Nat -> Prop) (p : Nat) (S : Sh) : Prop := ∃ v m,ShAt w F p v m S
section
variable {w w' : World} {F G : Nat -> Prop} {p m : Nat} {v : Value} {S : Sh}
theorem map_tight {H : Type} {P : Program} {k : TypeId} {R : Value -> Option (DataW H × List MemPlace)} {b n : Nat} {D : DataW H} (h : w.ownsMap P k R b n D) : w.ownsMap P k R b (Maps.size D) D := by
 obtain ⟨es,clock,hb,F,hs,hD⟩ := h
 refine ⟨es,clock,hb,F,?_,hD⟩
 rw [hD]
 simp [Maps.size,length_sorted]
theorem ShAt.kept (h : ShAt w G p v m S) (hk : Kept F w w') (ho : Off F G) (hG : In G w) : ShAt w' G p v m S := by
 obtain ⟨h1,h2,h3,h4,h5,h6,h7⟩ := h
 exact ⟨by rw [hk.get ho hG h4]; exact h1,own_kept h2 (fun g hg => hk.get ho hG (h6 g hg)),map_kept h3 (hk.get ho hG h5),h4,h5,h6,h7⟩
theorem ShIs.kept (h : ShIs w G p S) (hk : Kept F w w') (ho : Off F G) (hG : In G w) : ShIs w' G p S := by
 obtain ⟨v,m,h⟩ := h
 exact ⟨v,m,h.kept hk ho hG⟩
theorem ShAt.below (h : ShAt w G p v m S) (hb : Below w.heap.size w w') : ShAt w' G p v m S := by
 obtain ⟨h1,h2,h3,h4,h5,h6,h7⟩ := h
 exact ⟨by rw [hb.block p (Array.getElem?_eq_some_iff.1 h1).1]; exact h1,own_kept h2 (fun g hg => hb.block g (own_block_lt h2 g hg)),map_kept h3 (hb.block m h3.lt),h4,h5,h6,h7⟩
theorem ShIs.below (h : ShIs w G p S) (hb : Below w.heap.size w w') : ShIs w' G p S := by
 obtain ⟨v,m,h⟩ := h
 exact ⟨v,m,h.below hb⟩
theorem ShAt.drew (h : ShAt w F p v m S) : ShAt w.drew F p v m S := h
theorem ShIs.heap (h : ShIs w F p S) (e : w'.heap = w.heap) : ShIs w' F p S := by
 obtain ⟨v,m,h1,⟨h2,h3⟩,⟨es,c,h4⟩,h5⟩ := h
 exact ⟨v,m,by rw [e]; exact h1,⟨h2,by rw [e]; exact h3⟩,⟨es,c,by rw [e]; exact h4⟩,h5⟩
theorem ShIs.drew (h : ShIs w F p S) : ShIs w.drew F p S := h
theorem ShAt.ok (h : ShAt w F p v m S) : S.Ok := h.2.2.2.2.2.2
theorem ShIs.ok (h : ShIs w F p S) : S.Ok := by
 obtain ⟨v,m,h⟩ := h
 exact h.ok
theorem ShAt.ne_map (h : ShAt w F p v m S) : m ≠ p := by
 obtain ⟨h1,h2,h3,_⟩ := h
 rintro rfl
 obtain ⟨es,c,hb,_⟩ := h3
 rw [hb] at h1
 cases h1
theorem ShAt.ne_log (h : ShAt w F p v m S) : v.ownBlock ≠ some p := by
 obtain ⟨h1,h2,h3,_⟩ := h
 intro hc
 obtain ⟨cs,hcs⟩ := own_tag h2 _ hc
 rw [hcs] at h1
 injection h1 with h1
 injection h1 with _ h1
 exact absurd h1 (by decide)
theorem ShAt.log_ne_map (h : ShAt w F p v m S) : v.ownBlock ≠ some m := by
 obtain ⟨h1,h2,h3,_⟩ := h
 intro hc
 obtain ⟨cs,hcs⟩ := own_tag h2 _ hc
 obtain ⟨es,c,hb,_⟩ := h3
 rw [hb] at hcs
 cases hcs
end
theorem ShAt.cells {w : World} {F : Nat -> Prop} {p m : Nat} {v : Value} {S : Sh} (h : ShAt w F p v m S) :
    w.cell? ⟨p,0,none⟩ = some v /\ w.cell? ⟨p,1,none⟩ = some (.int .i64 (S.syn : Nat)) /\ w.cell? ⟨p,2,none⟩ = some (.map (some m)) /\ w.cell? ⟨p,3,none⟩ = some (.string S.man) /\ ∀ i,w.frozen? ⟨p,i,none⟩ = false :=
 ⟨cell_at h.1 rfl,cell_at h.1 rfl,cell_at h.1 rfl,cell_at h.1 rfl,fun i => thawed_at h.1⟩
section
variable {w w' : World} {F G : Nat -> Prop} {p m : Nat} {v : Value} {S : Sh}
theorem set_other (w : World) {a : Addr} {u : Value} {k : Nat} (h : k ≠ a.block) : (w.setCell a u).heap[k]? = w.heap[k]? := Below.heap_setCell w a u k h
theorem ShAt.set_syn (h : ShAt w F p v m S) {n : Nat} (hn : n <= S.log.length) : ShAt (w.setCell ⟨p,1,none⟩ (.int .i64 (n : Nat))) F p v m { S with syn := n } := by
 have h1 := h.ne_map
 have h2 := h.ne_log
 obtain ⟨a1,a2,a3,a4,a5,a6,a7⟩ := h
 refine ⟨?_,own_kept a2 (fun g hg => set_other w fun e => h2 (by rw [hg,e])),map_kept a3 (set_other w h1),a4,a5,a6,⟨hn,a7.log,a7.len,a7.up,a7.wf⟩⟩
 rw [heap_setCell_same w p 1 _ _ _ a1]
 rfl
theorem ShAt.set_man (h : ShAt w F p v m S) (man : ByteArray) : ShAt (w.setCell ⟨p,3,none⟩ (.string man)) F p v m { S with man := man } := by
 have h1 := h.ne_map
 have h2 := h.ne_log
 obtain ⟨a1,a2,a3,a4,a5,a6,a7⟩ := h
 refine ⟨?_,own_kept a2 (fun g hg => set_other w fun e => h2 (by rw [hg,e])),map_kept a3 (set_other w h1),a4,a5,a6,⟨a7.syn,a7.log,a7.len,a7.up,a7.wf⟩⟩
 rw [heap_setCell_same w p 3 _ _ _ a1]
 rfl
theorem ShAt.set_log {v' : Value} {l : List UInt8} {n : Nat} (a1 : w.heap[p]? = some (.cells #[v,.int .i64 (S.syn : Nat),.map (some m),.string S.man] 80 (0,0)))
    (a2 : w.ownsRow 0 5 1 v' n (Lib.byteCells l)) (hl : l.length = n) (a3 : w.ownsMap Tryz.prog 3 elemF m S.fs.length (mapF S.fs)) (a4 : F p) (a5 : F m) (a6 : ∀ g,v'.ownBlock = some g -> F g) (a7 : Sh.Ok { S with log := l }) :
    ShAt (w.setCell ⟨p,0,none⟩ v') F p v' m { S with log := l } := by
 subst hl
 have h1 : m ≠ p := by
  rintro rfl
  obtain ⟨es,c,hb,_⟩ := a3
  rw [hb] at a1
  cases a1
 have h2 : v'.ownBlock ≠ some p := by
  intro hc
  obtain ⟨cs,hcs⟩ := own_tag a2 _ hc
  rw [hcs] at a1
  injection a1 with a1
  injection a1 with _ a1
  exact absurd a1 (by decide)
 refine ⟨?_,own_kept a2 (fun g hg => set_other w fun e => h2 (by rw [hg,e])),map_kept a3 (set_other w h1),a4,a5,a6,a7⟩
 rw [heap_setCell_same w p 0 _ _ _ a1]
 rfl
theorem ShAt.set_cut {A : Option Addr} {n c : Nat} (h : ShAt w F p (.slice A n c) m S) {k : Nat} (hk : k <= S.log.length) :
    ShAt ((w.setCell ⟨p,0,none⟩ (.slice A k c)).setCell ⟨p,1,none⟩ (.int .i64 (k : Nat))) F p (.slice A k c) m { S with log := S.log.take k,syn := k } := by
 have h1 := h.ne_map
 have h2 := h.ne_log
 obtain ⟨a1,a2,a3,a4,a5,a6,a7⟩ := h
 have hn : n = S.log.length := by
  rcases a2.2 with ⟨e,e'⟩ | ⟨g,cap,cur,e,_⟩
  ·injection e with e1 e2 e3; omega
  ·injection e
 subst hn
 have hl := a7.log
 have hb : (Value.slice A k c).ownBlock = (Value.slice A S.log.length c).ownBlock := by cases A <;> rfl
 have hlen : (S.log.take k).length = k := by rw [List.length_take]; omega
 have ho := own_cut a2 hk
 rw [Nat.mul_one,show (Lib.byteCells S.log).take k = Lib.byteCells (S.log.take k) from List.map_take.symm] at ho
 have hset : ∀ j,j ≠ p -> ((w.setCell ⟨p,0,none⟩ (.slice A k c)).setCell ⟨p,1,none⟩ (.int .i64 (k : Nat))).heap[j]? = w.heap[j]? := fun j hj =>
  (set_other (a := ⟨p,1,none⟩) _ hj).trans (set_other (a := ⟨p,0,none⟩) _ hj)
 refine ⟨?_,?_,map_kept a3 (hset m h1),a4,a5,fun g hg => a6 g (by rw [<- hb]; exact hg),⟨by rw [hlen]; exact Nat.le_refl _,by rw [hlen]; omega,a7.len,a7.up,a7.wf⟩⟩
 ·rw [heap_setCell_same _ p 1 _ _ _ (heap_setCell_same w p 0 _ _ _ a1)]
  rfl
 ·show World.ownsRow _ 0 _ 1 _ (S.log.take k).length _
  rw [hlen]
  exact own_kept ho (fun g hg => hset g fun e => h2 (by rw [<- hb,hg,e]))
theorem ShAt.set_map (h : ShAt w F p v m S) {fs : Fl} {n : Nat} (hg : w.grownBy w' (some m)) (ho : w'.ownsMap Tryz.prog 3 elemF m n (mapF fs)) (hk : Sh.Ok { S with fs := fs }) : ShAt w' F p v m { S with fs := fs } := by
 have h1 := h.ne_map
 have h2 := h.log_ne_map
 obtain ⟨a1,a2,a3,a4,a5,a6,a7⟩ := h
 refine ⟨?_,own_kept a2 (fun g hg' => hg.block g (own_block_lt a2 g hg') (fun e => h2 (by rw [hg',e]))),?_,a4,a5,a6,hk⟩
 ·rw [hg.block p (Array.getElem?_eq_some_iff.1 a1).1 (fun e => h1 (by injection e with e; exact e.symm))]
  exact a1
 ·have := map_tight ho
  rw [size_mapF] at this
  exact this
end
end Go.Proofs.YtmpcnhpdobdmcaaGreatDoor
namespace Go.Proofs.YtmpcnhpdobdmcaaGreatDoor
open Go Go.RowKit
theorem swithin_any (n m : Int) (w : World) (hm : 0 <= m) (hm2 : m <= 4611686018427387904) (hn : -9223372036854775808 <= n /\ n <= 9223372036854775807) :
    Calls Tryz.prog 35 #[.int .i64 n,.int .i64 m] w fun e w' => e = .returned (.int .i64 (clip n m.toNat : Nat)) /\ w = w' := by
 obtain ⟨h1,h2⟩ := hn
 have e : ((clip n m.toNat : Nat) : Int) = max 0 (min n m) := by unfold clip; omega
 rw [e]
 go_enter Tryz.func35,Tryz.ntmps35
 go_wp2
 all_goals go_ret
 all_goals first | exact ⟨rfl,rfl⟩ | (refine ⟨?_,rfl⟩; show Ending.returned (Value.int .i64 _) = _; congr 2; omega)
theorem new_any (w : World) :
    Calls Tryz.prog 7 #[] w fun e w' => ∃ p F,e = .returned (.pointer (some ⟨p,0,none⟩)) /\ ShIs w' F p Sh.new /\ Below w.heap.size w w' /\ ∀ k,F k -> w.heap.size <= k /\ k < w'.heap.size := by
 have hmm := @run_makeMap Tryz.prog
 go_enter Tryz.func7,Tryz.ntmps7
 go_wp2
 go_ret
 have hB := ((Below.refl w.heap.size w).alloc (Nat.le_refl _) (.map #[] 0)).alloc (by simp) (.cells #[.slice none 0 0,.int .i64 0,.map (some w.heap.size),.string ⟨#[]⟩] 80)
 refine ⟨w.heap.size + 1,fun k => w.heap.size <= k /\ k < w.heap.size + 2,rfl,⟨.slice none 0 0,w.heap.size,?_,⟨rfl,Or.inl ⟨rfl,rfl⟩⟩,?_,by omega,by omega,fun g hg => (by cases hg),Sh.Ok.new⟩,hB,fun k hk => by simpa using hk⟩
 ·have := heap_alloc_new (w.alloc (.map #[] 0)) (.cells #[.slice none 0 0,.int .i64 0,.map (some w.heap.size),.string ⟨#[]⟩] 80)
  rw [show (w.alloc (.map #[] 0)).heap.size = w.heap.size + 1 by simp] at this
  exact this
 ·exact (World.ownsMap_made w _ _ _).alloc _
theorem log_any (F : Nat -> Prop) (p : Nat) (S : Sh) (w : World) (h : ShIs w F p S) :
    Calls Tryz.prog 19 #[.pointer (some ⟨p,0,none⟩)] w fun e w' => e = .returned (.string ⟨S.log.toArray⟩) /\ w = w' := by
 obtain ⟨v,m,h⟩ := h
 obtain ⟨c0,c1,c2,c3,fz⟩ := h.cells
 obtain ⟨A,c,rfl,hn,hc,hA,hr⟩ := Rd.of_own h.2.1
 have hcv := cv_string hr c
 clear h
 go_enter Tryz.func19,Tryz.ntmps19
 go_wp2
 go_ret
 exact ⟨rfl,rfl⟩
theorem unsynced_any (F : Nat -> Prop) (p : Nat) (S : Sh) (w : World) (h : ShIs w F p S) :
    Calls Tryz.prog 36 #[.pointer (some ⟨p,0,none⟩)] w fun e w' => e = .returned (.int .i64 ((S.log.length - S.syn : Nat) : Int)) /\ Kept (fun _ => False) w w' /\ w'.heap = w.heap := by
 have hok := h.ok
 have h1 := hok.syn
 have h2 := hok.log
 obtain ⟨v,m,h⟩ := h
 obtain ⟨c0,c1,c2,c3,fz⟩ := h.cells
 obtain ⟨A,c,rfl,hn,hc,hA,hr⟩ := Rd.of_own h.2.1
 have e : (((S.log.length - S.syn : Nat) : Nat) : Int) = (S.log.length : Int) - (S.syn : Nat) := by omega
 rw [e]
 clear h hr hok
 go_enter Tryz.func36,Tryz.ntmps36
 go_wp2_with fail
 go_quiet (fail)
 go_wp2
 go_ret
 exact ⟨rfl,⟨rfl,rfl,rfl,Nat.le_refl _,fun _ _ _ => rfl⟩,rfl⟩
theorem sync_any (F : Nat -> Prop) (p : Nat) (S : Sh) (w : World) (h : ShIs w F p S) :
    Calls Tryz.prog 34 #[.pointer (some ⟨p,0,none⟩)] w fun e w' => e = .returned (.tuple #[]) /\ ShIs w' F p S.sync /\ Kept F w w' := by
 obtain ⟨v,m,h⟩ := h
 obtain ⟨c0,c1,c2,c3,fz⟩ := h.cells
 obtain ⟨A,c,rfl,hn,hc,hA,hr⟩ := Rd.of_own h.2.1
 have f1 := fz 1
 have H := Lib.hid h
 clear h hr fz
 go_enter Tryz.func34,Tryz.ntmps34
 go_wp2
 go_end0
 exact ⟨rfl,⟨_,m,H.out.set_syn (Nat.le_refl _)⟩,Kept.setCell F w _ _ H.out.2.2.2.1⟩
theorem man_any (F : Nat -> Prop) (p : Nat) (S : Sh) (w : World) (h : ShIs w F p S) :
    Calls Tryz.prog 39 #[.pointer (some ⟨p,0,none⟩)] w fun e w' => e = .returned (.string S.man) /\ w = w' := by
 obtain ⟨v,m,h⟩ := h
 obtain ⟨c0,c1,c2,c3,fz⟩ := h.cells
 clear h
 go_enter Tryz.func39,Tryz.ntmps39
 go_wp2
 go_ret
 exact ⟨rfl,rfl⟩
end Go.Proofs.YtmpcnhpdobdmcaaGreatDoor
