import Derived.Test.YtmpcnhpdobdmcaaGreatDoorLawNotesB
import Derived.WalkSpells
import Derived.Lib.ConvBytes
import Derived.Test.YtmpcnhpdobdmcaaGreatDoorLawNotesL
set_option linter.unusedVariables false
set_option linter.unusedSimpArgs false
set_option maxHeartbeats 1000000
set_option maxRecDepth 8000
namespace Go.Proofs.YtmpcnhpdobdmcaaGreatDoor
open Go Go.RowKit
theorem tcut_hi (t : Int) (h : 2147483646 <= t) : tcut t = 2147483646 := by
 unfold tcut
 rw [if_neg (by omega),if_pos h]
theorem tcut_lo (t : Int) (h : t <= 0) : tcut t = 0 := by
 unfold tcut
 rw [if_pos h]
theorem tcut_in (t : Int) (h : 0 <= t) (h2 : t <= 2147483646) : ((tcut t : Nat) : Int) = t := by
 unfold tcut
 split
 ·omega
 ·split <;> omega
theorem cut_any (t : Int) (w : World) :
    Calls Tryz.prog 162 #[.int .i64 t] w fun e w' => e = .returned (.int .i64 (tcut t : Nat)) /\ w = w' := by
 by_cases h1 : 2147483646 <= t
 ·rw [tcut_hi t h1]
  go_enter Tryz.func162,Tryz.ntmps162
  go_wp2
  all_goals go_ret
  all_goals first | exact ⟨rfl,rfl⟩ | (refine ⟨?_,rfl⟩; show Ending.returned (Value.int .i64 _) = _; congr 2; omega)
 by_cases h2 : t <= 0
 ·rw [tcut_lo t h2]
  go_enter Tryz.func162,Tryz.ntmps162
  go_wp2
  all_goals go_ret
  all_goals first | exact ⟨rfl,rfl⟩ | (refine ⟨?_,rfl⟩; show Ending.returned (Value.int .i64 _) = _; congr 2; omega)
 ·have e := tcut_in t (by omega) (by omega)
  rw [e]
  go_enter Tryz.func162,Tryz.ntmps162
  go_wp2
  all_goals go_ret
  all_goals first | exact ⟨rfl,rfl⟩ | (refine ⟨?_,rfl⟩; show Ending.returned (Value.int .i64 _) = _; congr 2; omega)
theorem stepf_any (b : UInt8) (h g B : Nat) (w : World) (hg : w.heap[g]? = some (.cells #[.int .i64 (h : Nat)] 3 (0,0))) (hB : B <= g) (hh : h < 2147483647) :
    Calls Tryz.prog 235 #[.int .u8 (b.toNat : Nat),.pointer (some ⟨g,0,none⟩)] w fun e w' => e = .returned (.int .i64 (tstep h b : Nat)) /\ w'.heap[g]? = some (.cells #[.int .i64 (tstep h b : Nat)] 3 (0,0)) /\ Below B w w' := by
 have hc := cell_of_one hg
 have hf := free_of_one hg
 have hb := b.toNat_lt
 have HG := Lib.hid hg
 clear hg
 go_enter Tryz.func235,Tryz.ntmps235
 go_wp2
 go_ret
 have e : ((h : Int) * 257 + (b.toNat : Nat) + 1) % 2147483647 = (tstep h b : Nat) := by unfold tstep; omega
 refine ⟨?_,?_,(Below.refl _ _).setCell hB _⟩
 ·show Ending.returned (Value.int .i64 (((h : Int) * 257 + (b.toNat : Nat) + 1) % 2147483647)) = _
  rw [e]
 ·rw [e]
  exact one_setCell HG.out
theorem round_any (h : Nat) (w : World) :
    Calls Tryz.prog 209 #[.int .i64 (h : Nat)] w fun e w' => e = .returned (.func (.func 235) #[] #[.pointer (some ⟨w.heap.size,0,none⟩)]) /\ w' = w.alloc (.cells #[.int .i64 (h : Nat)] 3) := by
 have hmf : ∀ (fn : Fn) (first cap : Array Value) (w : World),(Instr.makeFunc fn first cap).run Tryz.prog w = .ok (.func fn first cap) w := fun _ _ _ _ => rfl
 go_enter Tryz.func209,Tryz.ntmps209
 go_wp2
 go_ret
 exact ⟨rfl,rfl⟩
theorem more_any (t : Int) (s : ByteArray) (w : World) (hs : s.size <= maxLen) :
    Calls Tryz.prog 163 #[.int .i64 t,.string s] w fun e w' => e = .returned (.int .i64 (tgo (tcut t) s.data.toList : Nat)) /\ Below w.heap.size w w' := by
 unfold maxLen at hs
 have hlen : s.data.toList.length = s.size := (Lib.size_eq s).symm
 have HLEN := Lib.hid hlen
 obtain ⟨h,hh⟩ : ∃ h,tcut t = h := ⟨_,rfl⟩
 have hlt : h < 2147483647 := by rw [<- hh]; exact tcut_lt t
 have HH := Lib.hid hh
 clear hlen
 rw [hh]
 clear hh
 go_enter Tryz.func163,Tryz.ntmps163
 go_wp2_with fail
 refine (cut_any t _).mono ?_
 rintro e w1 ⟨rfl,rfl⟩
 rw [HH.out]
 go_wp2_with fail
 refine (round_any h _).mono ?_
 rintro e w1 ⟨rfl,rfl⟩
 go_wp2
 go_loopw [5,14] (fun v i wr => ∃ k : Nat,k <= s.size /\ i = .int .i64 k /\ v = .int .i64 (tgo h (s.data.toList.take k) : Nat) /\ wr.heap[w.heap.size]? = some (.cells #[.int .i64 (tgo h (s.data.toList.take k) : Nat)] 3 (0,0)) /\ Below w.heap.size w wr) (fun _ i _ => s.size - (intOf i).toNat)
 case atStart => exact ⟨0,Nat.zero_le _,rfl,rfl,heap_alloc_new _ _,(Below.refl _ _).alloc (Nat.le_refl _) _⟩
 case round =>
  obtain ⟨k,hk,rfl,rfl,hg,hb⟩ := hrel
  have hgl := tgo_lt (s.data.toList.take k) h hlt
  by_cases hlt : k < s.size
  ·have hkl : k < s.data.toList.length := by rw [HLEN.out]; exact hlt
   have hst := tgo_take h s.data.toList k hkl
   have ek : s.data.toList[k] = s[k] := rfl
   rw [ek] at hst
   have HST := Lib.hid hst
   clear hst ek
   go_wp2_with fail
   refine (stepf_any s[k] _ w.heap.size w.heap.size wr hg (Nat.le_refl _) hgl).mono ?_
   rintro e w1 ⟨rfl,hg1,hb1⟩
   rw [<- HST.out] at hg1 ⊢
   go_wp2
   go_roundw
   case rel => exact ⟨k + 1,by omega,by go_num,rfl,hg1,hb.trans hb1⟩
   case measure => simp [intOf]; omega
  ·obtain rfl : k = s.size := by omega
   go_wp2
   go_ret
   refine ⟨?_,hb⟩
   rw [List.take_of_length_le (by rw [HLEN.out]; exact Nat.le_refl _)]
   rfl
theorem of_any (s : ByteArray) (w : World) (hs : s.size <= maxLen) :
    Calls Tryz.prog 102 #[.string s] w fun e w' => e = .returned (.int .i64 (tgo 1 s.data.toList : Nat)) /\ Below w.heap.size w w' := by
 go_enter Tryz.func102,Tryz.ntmps102
 go_wp2_with fail
 refine (more_any 1 s _ hs).mono ?_
 rintro e w1 ⟨rfl,b1⟩
 rw [show tcut 1 = 1 from rfl]
 go_wp2
 go_ret
 exact ⟨rfl,b1⟩
theorem tok_shr (v m : Nat) : (v : Int) / 2 ^ (8 * m) % 256 = ((UInt8.ofNat (v / 256 ^ m)).toNat : Nat) := by
 have e : (2 : Int) ^ (8 * m) = ((256 ^ m : Nat) : Int) := by rw [Int.pow_mul]; simp
 rw [e,UInt8.toNat_ofNat']
 simp
def half (h k : Nat) : List UInt8 := List.replicate (4 - k) 0 ++ be h k
theorem half_length (h k : Nat) (hk : k <= 4) : (half h k).length = 4 := by
 unfold half
 rw [List.length_append,List.length_replicate,be_length]
 omega
theorem half_set (h k : Nat) (hk : k < 4) : (half h k).set (3 - k) (UInt8.ofNat (h / 256 ^ k)) = half h (k + 1) := by
 rcases (show k = 0 \/ k = 1 \/ k = 2 \/ k = 3 from by omega) with rfl | rfl | rfl | rfl <;> rfl
theorem half_cells (h k : Nat) (hk : k < 4) : (Lib.byteCells (half h k)).toArray.setIfInBounds (3 - k) (.int .u8 ((h : Int) / 2 ^ (8 * k) % 256)) = (Lib.byteCells (half h (k + 1))).toArray := by
 rw [tok_shr,<- half_set h k hk]
 unfold Lib.byteCells
 rw [List.setIfInBounds_toArray,List.map_set]
theorem bytes_any (t : Int) (w : World) :
    Calls Tryz.prog 101 #[.int .i64 t] w (GivesS w (be (tcut t) 4)) := by
 obtain ⟨h,hh⟩ : ∃ h,tcut t = h := ⟨_,rfl⟩
 have hlt : h < 2147483647 := by rw [<- hh]; exact tcut_lt t
 have HH := Lib.hid hh
 rw [hh]
 clear hh
 have hmk : ∀ w : World,(Instr.makeSlice 29 (.int .i64 4) (.int .i64 4)).run Tryz.prog w = .ok (.slice (some ⟨w.heap.size,0,none⟩) 4 4) (w.alloc (.cells #[.int .u8 0,.int .u8 0,.int .u8 0,.int .u8 0] 5)) := fun _ => by kernel_rfl
 go_enter Tryz.func101,Tryz.ntmps101
 go_wp2_with fail
 refine (cut_any t _).mono ?_
 rintro e w1 ⟨rfl,rfl⟩
 rw [HH.out]
 go_wp2
 go_loopw [11] (fun i wr => ∃ k : Nat,k <= 4 /\ i = .int .i64 k /\ wr.heap[w.heap.size]? = some (.cells (Lib.byteCells (half h k)).toArray 5 (0,0)) /\ Below w.heap.size w wr) (fun i _ => 4 - (intOf i).toNat)
 case atStart => exact ⟨0,Nat.zero_le _,rfl,heap_alloc_new _ _,(Below.refl _ _).alloc (Nat.le_refl _) _⟩
 case round =>
  obtain ⟨k,hk,rfl,hg,hb⟩ := hrel
  by_cases hlt4 : k < 4
  ·have hgn := heap_setCell_same wr w.heap.size (3 - k) _ _ (.int .u8 ((h : Int) / 2 ^ (8 * k) % 256)) hg
   rw [half_cells h k hlt4] at hgn
   have hcell : ∃ u,wr.cell? ⟨w.heap.size,3 - k,none⟩ = some u := by
    have hz : 3 - k < (Lib.byteCells (half h k)).toArray.size := by
     rw [List.size_toArray,Lib.byteCells_length,half_length h k hk]
     omega
    exact ⟨_,(cell_of_row wr _ _ _ _ _ hg).trans (Array.getElem?_eq_getElem hz)⟩
   obtain ⟨u,hcell⟩ := hcell
   have hfz : wr.frozen? ⟨w.heap.size,3 - k,none⟩ = false := by simp [World.frozen?,hg]
   have HG := Lib.hid hgn
   clear hg hgn
   go_wp2
   go_roundw
   case rel => exact ⟨k + 1,by omega,by go_num,HG.out,hb.setCell (Nat.le_refl _) _⟩
   case measure => simp [intOf]; omega
  ·obtain rfl : k = 4 := by omega
   have hr := Rd.laid (l := half h 4) hg rfl
   rw [half_length h 4 (Nat.le_refl _)] at hr
   have hcv := cv_string hr 4
   clear hg
   go_wp2
   go_ret
   exact ⟨_,rfl,by simp [half],hb⟩
theorem bytes_as (t : Int) (q : ByteArray) (w : World) (h : q.data.toList = be (tcut t) 4) :
    Calls Tryz.prog 101 #[.int .i64 t] w fun e w' => e = .returned (.string q) /\ Below w.heap.size w w' := by
 refine (bytes_any t w).mono ?_
 rintro e w' ⟨s,he,hs,hb⟩
 exact ⟨by rw [he,ba_ext (hs.trans h.symm)],hb⟩
theorem of_as (s : ByteArray) (v : Nat) (w : World) (hs : s.size <= maxLen) (h : tgo 1 s.data.toList = v) :
    Calls Tryz.prog 102 #[.string s] w fun e w' => e = .returned (.int .i64 (v : Nat)) /\ Below w.heap.size w w' := by
 rw [<- h]
 exact of_any s w hs
theorem of_int (s : ByteArray) (v : Int) (w : World) (hs : s.size <= maxLen) (h : v = (tgo 1 s.data.toList : Nat)) :
    Calls Tryz.prog 102 #[.string s] w fun e w' => e = .returned (.int .i64 v) /\ Below w.heap.size w w' := by
 rw [h]
 exact of_any s w hs
theorem cv_as {w : World} {B n : Nat} {A : Option Addr} {l : List UInt8} (h : Rd w B A n l) (c : Nat) (q : ByteArray) (hq : q.data.toList = l) :
    (convert 29 9 (.slice A n c)).run Tryz.prog w = .ok (.string q) w := by
 rw [cv_string h c,mk_eq l q hq]
theorem kind_any (o e : Bool) (w : World) :
    Calls Tryz.prog 106 #[.bool o,.bool e] w fun x w' => x = .returned (.int .u8 ((pk o e).toNat : Nat)) /\ w = w' := by
 cases o <;> cases e
 all_goals
  go_enter Tryz.func106,Tryz.ntmps106
  go_wp2
  go_ret
  exact ⟨rfl,rfl⟩
theorem mark_any (k : UInt8) (s : ByteArray) (w : World) (hs : s.size <= 1048576) :
    Calls Tryz.prog 108 #[.int .u8 (k.toNat : Nat),.string s] w (GivesS w (mrk k s.data.toList)) := by
 have hk := k.toNat_lt
 obtain ⟨two,htwo⟩ : ∃ x : ByteArray,x.data.toList = hdr k s.data.toList := ⟨⟨(hdr k s.data.toList).toArray⟩,rfl⟩
 have hz2 : two.size = 2 := by rw [Lib.size_eq,htwo]; rfl
 have hcv := cv_as (Rd.two w (k.toNat : Nat) ((s.size : Int) % 256) k (UInt8.ofNat s.size) rfl (by rw [UInt8.toNat_ofNat']; omega)) 2 two (by rw [htwo,hdr,Lib.size_eq])
 obtain ⟨al,hal⟩ : ∃ x : ByteArray,two ++ s = x := ⟨_,rfl⟩
 have hadd : ∀ wx : World,(Op.stringOp .add two s).run Tryz.prog wx = .ok (.string al) wx := by
  intro wx; rw [run_string_add_sum wx two s (by omega),hal]
 have hall : al.data.toList = hdr k s.data.toList ++ s.data.toList := by rw [<- hal,<- htwo]; simp
 have halz : al.size <= maxLen := by rw [<- hal,ByteArray.size_append]; unfold maxLen; omega
 obtain ⟨q,hq⟩ : ∃ x : ByteArray,x.data.toList = be (tgo 1 al.data.toList) 4 := ⟨⟨(be (tgo 1 al.data.toList) 4).toArray⟩,rfl⟩
 have hq4 : q.size = 4 := by rw [Lib.size_eq,hq,be_length]
 obtain ⟨r,hr⟩ : ∃ x : ByteArray,two ++ q = x := ⟨_,rfl⟩
 have hadd2 : ∀ wx : World,(Op.stringOp .add two q).run Tryz.prog wx = .ok (.string r) wx := by
  intro wx; rw [run_string_add_sum wx two q (by omega),hr]
 have hrr : r.data.toList = mrk k s.data.toList := by rw [<- hr,mrk,<- hall,<- hq,<- htwo]; simp
 obtain ⟨T,hT⟩ : ∃ T : Int,T = (tgo 1 al.data.toList : Nat) := ⟨_,rfl⟩
 have hTc : q.data.toList = be (tcut T) 4 := by rw [hT,tcut_of _ (tgo_lt _ _ (by omega)),hq]
 have H1 := Lib.hid htwo
 have H2 := Lib.hid hall
 have H3 := Lib.hid halz
 have H4 := Lib.hid hT
 have H5 := Lib.hid hTc
 have H6 := Lib.hid hrr
 clear htwo hz2 hal hall halz hq hq4 hr hT hTc hrr
 go_enter Tryz.func108,Tryz.ntmps108
 go_wp2_with fail
 refine (of_int al T _ H3.out H4.out).mono ?_
 rintro e w1 ⟨rfl,b1⟩
 go_wp2_with fail
 refine (bytes_as T q _ H5.out).mono ?_
 rintro e w2 ⟨rfl,b2⟩
 go_wp2
 go_ret
 exact ⟨r,rfl,H6.out,(((Below.refl _ _).alloc (Nat.le_refl _) _).trans (b1.mono (by simp))).trans (b2.mono (by have := b1.size; simp at this; omega))⟩
theorem ext_bs (s : ByteArray) (a b : Nat) : (s.extract a b).data.toList = (s.data.toList.take b).drop a := by
 rw [Lib.extract_data,List.drop_take]
theorem str_h {s q : ByteArray} {r : List UInt8} (h : s.data.toList = q.data.toList ++ r) (x : Int) (ex : x = (q.size : Nat)) (wx : World) :
    (Instr.slice 9 (.string s) none (some (.int .i64 x)) none).run Tryz.prog wx = .ok (.string q) wx := by
 have hl := congrArg List.length h
 rw [List.length_append] at hl
 have e1 : s.data.toList.length = s.size := rfl
 have e2 : q.data.toList.length = q.size := rfl
 have e : s.extract 0 q.size = q := ba_ext (by rw [ext_bs,h,<- e2,List.take_left,List.drop_zero])
 rw [run_slice_string_h (P := Tryz.prog) (t := 9) (ht := Tryz.underlying9) (kh := .i64) (h := x) (h0 := by omega) (h2 := by omega),ex,Int.toNat_natCast,e]
theorem str_l {s q : ByteArray} {p : List UInt8} (h : s.data.toList = p ++ q.data.toList) (x : Int) (ex : x = (p.length : Nat)) (wx : World) :
    (Instr.slice 9 (.string s) (some (.int .i64 x)) none none).run Tryz.prog wx = .ok (.string q) wx := by
 have hl := congrArg List.length h
 rw [List.length_append] at hl
 have e1 : s.data.toList.length = s.size := rfl
 have e2 : q.data.toList.length = q.size := rfl
 have e : s.extract p.length s.size = q := ba_ext (by rw [ext_bs,List.take_of_length_le (by rw [e1]; exact Nat.le_refl _),h,List.drop_left])
 rw [run_slice_string_l (P := Tryz.prog) (t := 9) (ht := Tryz.underlying9) (kl := .i64) (l := x) (h0 := by omega) (h1 := by omega),ex,Int.toNat_natCast,e]
theorem byt_any (w : World) (s : ByteArray) (hs : s.size <= maxLen) : ∃ c w',(convert 9 29 (.string s)).run Tryz.prog w = .ok (.slice (some ⟨w.heap.size,0,none⟩) s.size c) w' /\ s.size <= c /\ c <= maxLen /\ Rd w' w'.heap.size (some ⟨w.heap.size,0,none⟩) s.size s.data.toList /\ w'.heap.size = w.heap.size + 1 /\ Below w.heap.size w w' := by
 refine ⟨_,Lib.bytesWorld w 5 s,Lib.run_convert_string_bytes (P := Tryz.prog) w 9 29 5 s Tryz.underlying9 Tryz.underlying29 Tryz.underlying5,grownCap_ge w s.size 0 5,grownCap_le_maxLen w s.size 0 5 hs,⟨by rw [<- Lib.size_eq],fun _ => ⟨_,rfl,by rw [Lib.bytesWorld_size]; show w.heap.size < _; omega,fun j hj => ?_⟩⟩,Lib.bytesWorld_size w _ s,rfl,rfl,rfl,by rw [Lib.bytesWorld_size]; omega,fun k hk => Lib.bytesWorld_at_old w _ s k hk⟩
 rw [Addr.add_lit,Nat.zero_add,Lib.bytesWorld_cell w _ s j (by rw [Lib.size_eq]; exact hj),List.getD_eq_getElem?_getD,List.getElem?_eq_getElem hj]
 rfl
end Go.Proofs.YtmpcnhpdobdmcaaGreatDoor
namespace Go.Proofs.YtmpcnhpdobdmcaaGreatDoor
open Go Go.RowKit
def tRow (l : Fl) : List Value := l.flatMap fun x => [.int .i64 x.1,.string x.2]
theorem tRow_length (l : Fl) : (tRow l).length = l.length * 2 := by
 unfold tRow
 induction l with
 | nil => rfl
 | cons x r ih => rw [List.flatMap_cons,List.length_append,ih]; simp; omega
theorem tRow_append (l k : Fl) : tRow (l ++ k) = tRow l ++ tRow k := by unfold tRow; rw [List.flatMap_append]
theorem tRow_take (l : Fl) (k : Nat) : (tRow l).take (k * 2) = tRow (l.take k) := by
 rcases Nat.lt_or_ge l.length k with h | h
 ·rw [List.take_of_length_le (by rw [tRow_length]; omega),List.take_of_length_le (by omega)]
 ·have e : tRow l = tRow (l.take k) ++ tRow (l.drop k) := by rw [<- tRow_append,List.take_append_drop]
  rw [e]
  have hl : (tRow (l.take k)).length = k * 2 := by rw [tRow_length,List.length_take]; omega
  rw [<- hl,List.take_left]
theorem tRow_drop (l : Fl) (k : Nat) : (tRow l).drop (k * 2) = tRow (l.drop k) := by
 rcases Nat.lt_or_ge l.length k with h | h
 ·rw [List.drop_eq_nil_of_le (by rw [tRow_length]; omega),List.drop_eq_nil_of_le (by omega)]
  rfl
 ·have e : tRow l = tRow (l.take k) ++ tRow (l.drop k) := by rw [<- tRow_append,List.take_append_drop]
  rw [e]
  have hl : (tRow (l.take k)).length = k * 2 := by rw [tRow_length,List.length_take]; omega
  rw [<- hl,List.drop_left]
theorem tRow_get0 (l : Fl) (j : Nat) (h : j < l.length) : (tRow l)[j * 2]? = some (.int .i64 l[j].1) := by
 have := congrArg (·[0]?) (tRow_drop l j)
 simp only [List.getElem?_drop,Nat.add_zero] at this
 rw [this,<- List.getElem_cons_drop (h := h)]
 rfl
theorem tRow_get1 (l : Fl) (j : Nat) (h : j < l.length) : (tRow l)[j * 2 + 1]? = some (.string l[j].2) := by
 have := congrArg (·[1]?) (tRow_drop l j)
 simp only [List.getElem?_drop] at this
 rw [this,<- List.getElem_cons_drop (h := h)]
 rfl
theorem tRow_one (l : Fl) : ∀ u ∈ tRow l,u.oneCell' = true := by
 intro u hu
 unfold tRow at hu
 rw [List.mem_flatMap] at hu
 obtain ⟨x,_,hx⟩ := hu
 simp at hx
 rcases hx with rfl | rfl <;> rfl
def RdT (w : World) (B : Nat) (A : Option Addr) (n : Nat) (l : Fl) : Prop :=
 l.length = n /\ (0 < n -> ∃ g o,A = some ⟨g,o,none⟩ /\ g < B /\ ∀ j u,(tRow l)[j]? = some u -> w.cell? ⟨g,o + j,none⟩ = some u)
section
variable {w w' : World} {B B' n : Nat} {A : Option Addr} {l : Fl}
theorem RdT.below (h : RdT w B A n l) (hb : Below B w w') : RdT w' B A n l :=
 ⟨h.1,fun hn => by
   obtain ⟨g,o,e,hg,hc⟩ := h.2 hn
   exact ⟨g,o,e,hg,fun j u hu => (hb.cell (p := ⟨g,o + j,none⟩) hg).trans (hc j u hu)⟩⟩
theorem RdT.up (h : RdT w B A n l) (hB : B <= B') : RdT w B' A n l :=
 ⟨h.1,fun hn => by
   obtain ⟨g,o,e,hg,hc⟩ := h.2 hn
   exact ⟨g,o,e,by omega,hc⟩⟩
theorem RdT.drew (h : RdT w B A n l) : RdT w.drew B A n l := h
theorem RdT.of_own {base n : Nat} {A : Option Addr} {c : Nat} (h : w.ownsRow base 57 2 (.slice A n c) n (tRow l)) : RdT w w.heap.size A n l := by
 have hl : l.length = n := by have := h.1; rw [tRow_length] at this; omega
 rcases h.2 with ⟨e,rfl⟩ | ⟨g,cap,cur,e,hb,hh,hn,hm,hs,ht⟩
 ·exact ⟨hl,fun h => absurd h (by omega)⟩
 ·injection e with e1 e2 e3
  subst e1
  refine ⟨hl,fun hn => ⟨g,0,rfl,(Array.getElem?_eq_some_iff.1 hh).1,fun j u hu => ?_⟩⟩
  have := h.cells (g := g) rfl j u hu
  rw [Addr.add_lit] at this
  exact this
end
theorem infoT : (Tryz.prog.info? 57).map (fun i => (i.zero,i.size,i.bytes)) = some (some (.agg #[.int .i64 0,.string ⟨#[]⟩]),2,24) := by kernel_rfl
theorem run_appT {w : World} (base : Nat) {v : Value} {n : Nat} {l : Fl} (hown : w.ownsRow base 57 2 v n (tRow l)) {B m c : Nat} {A : Option Addr} {k : Fl} (hr : RdT w B A m k)
    (hsz : n + m <= 1000000) (hbase : base <= w.heap.size) (ty : TypeId) :
    ∃ v' w',(Builtin.append_ #[37,37] ty #[v,.slice A m c]).run Tryz.prog w = .ok v' w' /\ (w'.ownsRow base 57 2 v' (n + m) (tRow (l ++ k)) /\ (w.grownBy w' v.ownBlock /\ (v'.ownBlock = v.ownBlock \/ v'.ownBlock = some w.heap.size))) := by
 obtain ⟨i,hi,hz0,hz1,hz2⟩ := info_parts infoT
 cases A with
 | none =>
   have h0 : m = 0 := by
    rcases Nat.eq_zero_or_pos m with h1 | h1
    ·exact h1
    ·obtain ⟨g,o,e,_⟩ := hr.2 h1; cases e
   subst h0
   obtain rfl : k = [] := List.eq_nil_of_length_eq_zero hr.1
   refine ⟨v,w,?_,by simpa using hown,⟨rfl,rfl,rfl,Nat.le_refl _,fun _ _ _ => rfl⟩,Or.inl rfl⟩
   rcases hown.2 with ⟨rfl,rfl⟩ | ⟨g,cap,cur,rfl,_,_,hnc,_⟩
   ·simp [Builtin.append_,run_underlying Tryz.underlying37,sizeOf,typeInfo,hi,Builtin.lenOf,Builtin.firstCells]
   ·simp [Builtin.append_,run_underlying Tryz.underlying37,sizeOf,typeInfo,hi,Builtin.lenOf,Builtin.firstCells,hnc,storeCells]
 | some ad =>
   have hcells : ∀ j u,(tRow k)[j]? = some u -> w.cell? (ad.add j) = some u := by
    intro j u hu
    have hj : j < (tRow k).length := by
     rcases Nat.lt_or_ge j (tRow k).length with h1 | h1
     ·exact h1
     ·rw [List.getElem?_eq_none h1] at hu; cases hu
    rw [tRow_length,hr.1] at hj
    obtain ⟨g,o,e,_,hc⟩ := hr.2 (by omega)
    injection e with e
    subst e
    rw [Addr.add_lit]
    exact hc j u hu
   obtain ⟨v',w',h1,h2,h3,_,h5⟩ := run_append_own_at (P := Tryz.prog) w base 37 ty 57 i (.agg #[.int .i64 0,.string ⟨#[]⟩]) 2 24 Tryz.underlying37 hi hz0 hz1 hz2 rfl (by decide) v n (tRow l) hown ad m c (tRow k)
    (by rw [tRow_length,hr.1]) hcells (tRow_one k) (by unfold maxLen; omega) (by omega) hbase
   exact ⟨v',w',h1,by rw [tRow_append]; exact h2,h3,h5⟩
theorem one_rdT (w : World) (n : Int) (s : ByteArray) : RdT (w.alloc (.cells #[.int .i64 n,.string s] 57)) (w.heap.size + 1) (some ⟨w.heap.size,0,none⟩) 1 [(n,s)] := by
 refine ⟨rfl,fun _ => ⟨_,0,rfl,Nat.lt_succ_self _,fun j u hu => ?_⟩⟩
 rw [Nat.zero_add]
 have hb := heap_alloc_new w (.cells #[.int .i64 n,.string s] 57)
 refine cell_at hb ?_
 rw [<- Array.getElem?_toList]
 exact hu
end Go.Proofs.YtmpcnhpdobdmcaaGreatDoor
