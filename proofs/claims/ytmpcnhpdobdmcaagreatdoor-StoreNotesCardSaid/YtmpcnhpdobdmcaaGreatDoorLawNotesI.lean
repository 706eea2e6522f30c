import Derived.Test.YtmpcnhpdobdmcaaGreatDoorLawNotesG
import Derived.WalkSpells
import Derived.Sort.Walk0
import Derived.Laws.Cover1
import Derived.Deep.QuietTactic
set_option linter.unusedVariables false
set_option linter.unusedSimpArgs false
set_option maxHeartbeats 1000000
namespace Go.Proofs.YtmpcnhpdobdmcaaGreatDoor
open Go Go.RowKit
theorem blB_iff (a b : ByteArray) : Op.bytesLess a.toList b.toList = true ↔ a.data.toList < b.data.toList := by
 rw [bytesLess_eq,Lib.toList_data,Lib.toList_data]
 simp
def orI : List Int -> Int
 | [] => 0
 | x :: l => lexI x (orI l)
def RdZ (w : World) (B : Nat) (A : Option Addr) (n : Nat) (l : List Int) : Prop :=
 l.length = n /\ (0 < n -> ∃ g o,A = some ⟨g,o,none⟩ /\ g < B /\ ∀ j (hj : j < l.length),w.cell? ⟨g,o + j,none⟩ = some (.int .i64 l[j]))
theorem RdZ.below {w w' : World} {B n : Nat} {A : Option Addr} {l : List Int} (h : RdZ w B A n l) (hb : Below B w w') : RdZ w' B A n l :=
 ⟨h.1,fun hn => by
   obtain ⟨g,o,e,hg,hc⟩ := h.2 hn
   exact ⟨g,o,e,hg,fun j hj => (hb.cell (p := ⟨g,o + j,none⟩) hg).trans (hc j hj)⟩⟩
def colB (x : ByteArray × Ce) : Bool := nameB x.1 && (x.2.ok && decide (1 <= x.2.a))
def goodAt (l : Cols) (j : Nat) : Bool :=
 match l[j]? with
 | none => true
 | some x => colB x && (match j with
   | 0 => true
   | i + 1 => match l[i]? with
     | none => true
     | some y => decide (nlt y.1 x.1))
def colsB (l : Cols) : Bool := (List.range l.length).all (goodAt l)
def liveB (c : Ce) : Bool := c.ok && (c.s.toList.isEmpty && !c.d)
def Ro.ok (r : Ro) : Bool := decide (r.key.size <= 400) && (liveB r.live && (stm r.gone && (stm r.shade && (decide (r.cols.length <= 8) && colsB r.cols))))
theorem good_zero {l : Cols} (h : 0 < l.length) : goodAt l 0 = colB l[0] := by
 unfold goodAt
 rw [List.getElem?_eq_getElem h]
 simp
theorem good_succ {l : Cols} {i : Nat} (h : i + 1 < l.length) : goodAt l (i + 1) = (colB l[i + 1] && decide (nlt l[i].1 l[i + 1].1)) := by
 unfold goodAt
 rw [List.getElem?_eq_getElem h]
 simp only
 rw [List.getElem?_eq_getElem (by omega)]
theorem goods_step {l : Cols} {t : Nat} (h : (List.range t).all (goodAt l) = true) (hg : goodAt l t = true) : (List.range (t + 1)).all (goodAt l) = true := by
 rw [List.range_succ,List.all_append,h]
 simp [hg]
theorem goods_no {l : Cols} {t : Nat} (ht : t < l.length) (hg : goodAt l t = false) : colsB l = false := by
 unfold colsB
 rw [List.all_eq_false]
 exact ⟨t,List.mem_range.2 ht,by rw [hg]; decide⟩
theorem colsB_at {l : Cols} (h : colsB l = true) {j : Nat} (hj : j < l.length) : goodAt l j = true := List.all_eq_true.1 h j (List.mem_range.2 hj)
theorem colB_a {x : ByteArray × Ce} (h : colB x = true) : 1 <= x.2.a := by
 unfold colB at h
 rw [Bool.and_eq_true,Bool.and_eq_true,decide_eq_true_iff] at h
 exact h.2.2
theorem colsB_each {l : Cols} (h : colsB l = true) {j : Nat} (hj : j < l.length) : colB l[j] = true := by
 have := colsB_at h hj
 match j,hj with
 | 0,hj => rwa [good_zero hj] at this
 | i + 1,hj =>
   rw [good_succ hj,Bool.and_eq_true] at this
   exact this.1
theorem rise_of : ∀ {l : Cols},(∀ i (h : i + 1 < l.length),nlt l[i].1 l[i + 1].1) -> Rise l
 | [],_ => trivial
 | [x],_ => ⟨fun y hy => (by cases hy),trivial⟩
 | x :: y :: l,h => by
   have h0 : nlt x.1 y.1 := h 0 (by simp)
   have ih : Rise (y :: l) := rise_of fun i hi => h (i + 1) (by simpa using hi)
   refine ⟨fun z hz => ?_,ih⟩
   rcases List.mem_cons.1 hz with rfl | hz
   ·exact h0
   ·exact nlt_tr h0 (ih.1 z hz)
theorem colsB_full {l : Cols} (h : colsB l = true) : Full l := fun x hx => by
 obtain ⟨j,hj,rfl⟩ := List.mem_iff_getElem.1 hx
 exact colB_a (colsB_each h hj)
theorem colsB_rise {l : Cols} (h : colsB l = true) : Rise l := rise_of fun i hi => by
 have := colsB_at h hi
 rw [good_succ hi,Bool.and_eq_true,decide_eq_true_iff] at this
 exact this.2
theorem blB_true {a b : ByteArray} (h : nlt a b) : Op.bytesLess a.toList b.toList = true := (blB_iff _ _).2 h
theorem blB_false {a b : ByteArray} (h : ¬ nlt a b) : Op.bytesLess a.toList b.toList = false := by
 rw [Bool.eq_false_iff]
 exact fun e => h ((blB_iff _ _).1 e)
theorem nan_int (x : Int) (w : World) :
    Calls Tryz.prog 100 #[.int .i64 x] w fun e w' => e = .returned (.bool false) /\ w = w' := by
 go_enter Tryz.func100,Tryz.ntmps100
 go_wp2
 go_ret
 exact ⟨by simp,rfl⟩
theorem nan_str (x : ByteArray) (w : World) :
    Calls Tryz.prog 232 #[.string x] w fun e w' => e = .returned (.bool false) /\ w = w' := by
 have hb : (!(x.toList == x.toList)) = false := by rw [eqB_true rfl]; rfl
 have hb2 : (x.toList != x.toList) = false := hb
 go_enter Tryz.func232,Tryz.ntmps232
 go_wp2
 go_ret
 exact ⟨by simp,rfl⟩
theorem cmpi_any (x y : Int) (w : World) :
    Calls Tryz.prog 65 #[.int .i64 x,.int .i64 y] w fun e w' => e = .returned (.int .i64 (icmp x y)) /\ w = w' := by
 obtain ⟨r,hr⟩ : ∃ r,icmp x y = r := ⟨_,rfl⟩
 rw [hr]
 have HR := Lib.hid hr
 clear hr
 by_cases h1 : x < y
 ·go_enter Tryz.func65,Tryz.ntmps65
  go_wp2_with (first | (go_at_call 100; refine (nan_int _ _).mono ?_; rintro e w1 ⟨rfl,rfl⟩))
  go_ret
  exact ⟨by show Ending.returned (.int .i64 (-1)) = _; rw [show r = -1 from by rw [<- HR.out]; unfold icmp; omega],rfl⟩
 ·by_cases h2 : y < x
  ·go_enter Tryz.func65,Tryz.ntmps65
   go_wp2_with (first | (go_at_call 100; refine (nan_int _ _).mono ?_; rintro e w1 ⟨rfl,rfl⟩))
   go_ret
   exact ⟨by show Ending.returned (.int .i64 (1)) = _; rw [show r = 1 from by rw [<- HR.out]; unfold icmp; omega],rfl⟩
  ·go_enter Tryz.func65,Tryz.ntmps65
   go_wp2_with (first | (go_at_call 100; refine (nan_int _ _).mono ?_; rintro e w1 ⟨rfl,rfl⟩))
   go_ret
   exact ⟨by show Ending.returned (.int .i64 (0)) = _; rw [show r = 0 from by rw [<- HR.out]; unfold icmp; omega],rfl⟩
theorem cmps_any (x y : ByteArray) (w : World) :
    Calls Tryz.prog 262 #[.string x,.string y] w fun e w' => e = .returned (.int .i64 (tcmp x y)) /\ w = w' := by
 obtain ⟨r,hr⟩ : ∃ r,tcmp x y = r := ⟨_,rfl⟩
 rw [hr]
 have HR := Lib.hid hr
 clear hr
 by_cases h1 : x.data.toList < y.data.toList
 ·have f1 : Op.bytesLess x.toList y.toList = true := (blB_iff _ _).2 h1
  have hv : r = -1 := by rw [<- HR.out]; unfold tcmp; rw [if_pos h1]
  subst hv
  clear h1
  go_enter Tryz.func262,Tryz.ntmps262
  go_wp2_with (first | (go_at_call 232; refine (nan_str _ _).mono ?_; rintro e w1 ⟨rfl,rfl⟩))
  go_ret
  exact ⟨rfl,rfl⟩
 ·have f1 : Op.bytesLess x.toList y.toList = false := by rw [Bool.eq_false_iff]; exact fun h => h1 ((blB_iff _ _).1 h)
  by_cases h2 : y.data.toList < x.data.toList
  ·have f2 : (x.toList == y.toList) = false := eqB_false fun h => by subst h; exact h1 h2
   have f3 : (!Op.bytesLess x.toList y.toList && !(x.toList == y.toList)) = true := by rw [f1,f2]; rfl
   have hv : r = 1 := by rw [<- HR.out]; unfold tcmp; rw [if_neg h1,if_pos h2]
   subst hv
   clear h1 h2
   go_enter Tryz.func262,Tryz.ntmps262
   go_wp2_with (first | (go_at_call 232; refine (nan_str _ _).mono ?_; rintro e w1 ⟨rfl,rfl⟩))
   go_ret
   exact ⟨rfl,rfl⟩
  ·have e1 := ba_ext (lt_or h1 h2)
   have f2 : (x.toList == y.toList) = true := eqB_true e1
   have f3 : (!Op.bytesLess x.toList y.toList && !(x.toList == y.toList)) = false := by rw [f1,f2]; rfl
   have hv : r = 0 := by rw [<- HR.out]; unfold tcmp; rw [if_neg h1,if_neg h2]
   subst hv
   clear h1 h2 e1
   go_enter Tryz.func262,Tryz.ntmps262
   go_wp2_with (first | (go_at_call 232; refine (nan_str _ _).mono ?_; rintro e w1 ⟨rfl,rfl⟩))
   go_ret
   exact ⟨rfl,rfl⟩
theorem above_any (x y : Bool) (w : World) :
    Calls Tryz.prog 261 #[.bool x,.bool y] w fun e w' => e = .returned (.int .i64 (bcmp x y)) /\ w = w' := by
 cases x <;> cases y
 all_goals
  go_enter Tryz.func261,Tryz.ntmps261
  go_wp2
  go_ret
  exact ⟨rfl,rfl⟩
theorem or_any (A : Option Addr) (n c B : Nat) (l : List Int) (w : World) (h : RdZ w B A n l) (hB : B <= w.heap.size) (hn : n <= 1000000000000) :
    Calls Tryz.prog 260 #[.slice A n c] w fun e w' => e = .returned (.int .i64 (orI l)) /\ Below w.heap.size w w' := by
 have hl := h.1
 obtain ⟨v,hv⟩ : ∃ v : Int,orI l = v := ⟨_,rfl⟩
 rw [hv]
 have HV := Lib.hid hv
 have HL := Lib.hid hl
 clear hv hl
 go_enter Tryz.func260,Tryz.ntmps260
 go_wp2
 go_loopw [8] (fun i wr => ∃ k : Nat,k <= n /\ i = .int .i64 k /\ orI (l.drop k) = v /\ Below w.heap.size w wr) (fun i _ => n - (intOf i).toNat)
 case atStart => exact ⟨0,Nat.zero_le _,rfl,HV.out,Below.refl _ _⟩
 case round =>
  obtain ⟨k,hk,rfl,hz,hb⟩ := hrel
  have HZ := Lib.hid hz
  clear hz
  by_cases hlt : k < n
  ·have g1 := h.below (hb.mono hB)
   have i1 : (k : Int) < n := by omega
   have i0 : (0 : Int) <= k := by omega
   have hkl : k < l.length := by rw [HL.out]; exact hlt
   have hd : l.drop k = l[k] :: l.drop (k + 1) := List.drop_eq_getElem_cons hkl
   obtain ⟨g,o,rfl,_,hc⟩ := g1.2 (by omega)
   have hck := hc k hkl
   obtain ⟨x,hx⟩ : ∃ x,l[k] = x := ⟨_,rfl⟩
   rw [hx] at hck hd
   have HD := Lib.hid hd
   clear hd hc hx g1 h
   by_cases h0 : x = 0
   ·subst h0
    have hz2 : orI (l.drop (k + 1)) = v := by rw [<- HZ.out,HD.out]; rfl
    have HZ2 := Lib.hid hz2
    clear hz2
    go_wp2
    go_roundw
    case rel => exact ⟨k + 1,by omega,by go_num,HZ2.out,hb.trans ⟨rfl,rfl,rfl,Nat.le_refl _,fun _ _ => rfl⟩⟩
    case measure => simp [intOf]; omega
   ·have hv : v = x := by rw [<- HZ.out,HD.out]; show lexI x _ = x; unfold lexI; rw [if_neg h0]
    subst hv
    have hne : (v != 0) = true := by rw [bne_iff_ne]; exact h0
    go_wp2
    go_ret
    exact ⟨rfl,hb.trans ⟨rfl,rfl,rfl,Nat.le_refl _,fun _ _ => rfl⟩⟩
  ·obtain rfl : k = n := by omega
   have hf : v = 0 := by
    rw [<- HZ.out,List.drop_of_length_le (by rw [HL.out]; exact Nat.le_refl _)]
    rfl
   subst hf
   go_wp2
   go_ret
   exact ⟨rfl,hb⟩
end Go.Proofs.YtmpcnhpdobdmcaaGreatDoor
