import Derived.Test.YtmpcnhpdobdmcaaGreatDoorLawNotesC
import Derived.Test.YtmpcnhpdobdmcaaGreatDoorProg
import Derived.WalkKit
import Derived.Lib.Hide
import Derived.Deep.AppendLies
import Derived.Lib.BufferWrite
open Go.Lib (hid)
set_option linter.unusedVariables false
set_option linter.unusedSimpArgs false
set_option maxHeartbeats 1600000
set_option maxRecDepth 100000
namespace Go.Proofs.YtmpcnhpdobdmcaaGreatDoor
open Go Go.RowKit
theorem ret_bool {a b : Bool} (h : a = b) : Ending.returned (.bool a) = .returned (.bool b) := by rw [h]
theorem slPrefix_any (s p : ByteArray) (w : World) :
    Calls Tryz.prog 268 #[.string s,.string p] w fun e w' => e = .returned (.bool (Lib.hasPrefix s.data.toList p.data.toList)) /\ w = w' := by
 rw [<- Lib.hasPrefix_of_take,<- Lib.size_eq,<- Lib.size_eq]
 go_enter Tryz.func268,Tryz.ntmps268
 go_wp2
 ·rename_i h
  go_ret
  refine ⟨?_,rfl⟩
  show Ending.returned (Value.bool ((s.extract 0 p.size).toList == p.toList)) = _
  rw [Lib.extract_toList,Lib.toList_data]
  simp [h]
 ·rename_i h
  go_ret
  refine ⟨?_,rfl⟩
  show Ending.returned (Value.bool false) = _
  simp [h]
theorem prefix_any (s p : ByteArray) (w : World) :
    Calls Tryz.prog 256 #[.string s,.string p] w fun e w' => e = .returned (.bool (Lib.hasPrefix s.data.toList p.data.toList)) /\ w = w' := by
 go_enter Tryz.func256,Tryz.ntmps256
 go_wp2_with (go_at_call 268; refine (slPrefix_any _ _ _).mono ?_; rintro e w' ⟨rfl,rfl⟩)
 go_ret
 exact ⟨rfl,rfl⟩
def rightAt (s : ByteArray) (i : Nat) (r : Int) : Bool := !(r == 65533) || Lib.hasPrefix (s.data.toList.drop i) [239,191,189]
theorem take_drop_all (s : ByteArray) (i : Nat) : List.take (s.size - i) (List.drop i s.data.toList) = s.data.toList.drop i := by
 rw [List.take_of_length_le]
 rw [List.length_drop,Lib.size_eq]
 exact Nat.le_refl _
theorem right_any (s : ByteArray) (i : Nat) (r : Int) (w : World) (hi : i <= s.size) (hs : s.size <= 1099511627776) :
    Calls Tryz.prog 243 #[.string s,.int .i64 i,.int .i32 r] w fun e w' => e = .returned (.bool (rightAt s i r)) /\ w = w' := by
 unfold rightAt
 by_cases hr : r = 65533
 ·subst hr
  have h1 : ((65533 : Int) == 65533) = true := rfl
  have h2 : ((65533 : Int) != 65533) = false := rfl
  go_enter Tryz.func243,Tryz.ntmps243
  go_wp2_with (go_at_call 256; refine (prefix_any _ _ _).mono ?_; rintro e w' ⟨rfl,rfl⟩)
  go_ret
  exact ⟨ret_bool (by rw [take_drop_all]; rfl),rfl⟩
 ·have h1 : (r == 65533) = false := by simpa using hr
  have h2 : (r != 65533) = true := by simpa using hr
  go_enter Tryz.func243,Tryz.ntmps243
  go_wp2
  go_ret
  exact ⟨ret_bool (by rw [h1]; rfl),rfl⟩
theorem rightAt_cp (s : ByteArray) (p : Nat) : rightAt s p ((Utf8.decode s p).1 : Nat) = rightB ((Utf8.decode s p).1,p,(Utf8.decode s p).2) := by
 unfold rightAt rightB
 by_cases h : (Utf8.decode s p).1 = 65533
 ·rw [right_width s p h,h]; rfl
 ·have h1 : (((Utf8.decode s p).1 : Nat) : Int) ≠ 65533 := by omega
  rw [beq_eq_false_iff_ne.2 h,beq_eq_false_iff_ne.2 h1]
  rfl
def letterAt (s : ByteArray) (i : Nat) (r : Int) : Bool := (decide (97 <= r) && decide (r <= 122)) || (r == 95) || (decide (128 <= r) && rightAt s i r)
theorem letter_any (s : ByteArray) (i : Nat) (r : Int) (w : World) (hi : i <= s.size) (hs : s.size <= 1099511627776) :
    Calls Tryz.prog 214 #[.string s,.int .i64 i,.int .i32 r] w fun e w' => e = .returned (.bool (letterAt s i r)) /\ w = w' := by
 by_cases h1 : 128 <= r
 ·have h2 : (r == 95) = false := by simp; omega
  go_enter Tryz.func214,Tryz.ntmps214
  go_wp2_with (go_at_call 243; refine (right_any _ _ _ _ hi hs).mono ?_; rintro e w' ⟨rfl,rfl⟩)
  go_ret
  exact ⟨ret_bool (by unfold letterAt; rw [h2,decide_eq_true h1,decide_eq_false (show ¬ r <= 122 by omega)]; simp),rfl⟩
 ·by_cases h3 : r = 95
  ·subst h3
   have h2 : ((95 : Int) == 95) = true := rfl
   go_enter Tryz.func214,Tryz.ntmps214
   go_wp2
   go_ret
   exact ⟨rfl,rfl⟩
  ·have h2 : (r == 95) = false := by simpa using h3
   by_cases h4 : 97 <= r
   ·by_cases h5 : r <= 122
    ·go_enter Tryz.func214,Tryz.ntmps214
     go_wp2
     go_ret
     exact ⟨ret_bool (by unfold letterAt; rw [decide_eq_true h4,decide_eq_true h5]; rfl),rfl⟩
    ·go_enter Tryz.func214,Tryz.ntmps214
     go_wp2
     go_ret
     exact ⟨ret_bool (by unfold letterAt; rw [h2,decide_eq_false (show ¬ 128 <= r by omega),decide_eq_false (show ¬ r <= 122 by omega)]; simp),rfl⟩
   ·go_enter Tryz.func214,Tryz.ntmps214
    go_wp2
    go_ret
    exact ⟨ret_bool (by unfold letterAt; rw [h2,decide_eq_false (show ¬ 128 <= r by omega),decide_eq_false (show ¬ 97 <= r by omega)]; simp),rfl⟩
def digitB (r : Int) : Bool := decide (48 <= r) && decide (r <= 57)
def letterB (c : Nat × Nat × Nat) : Bool := (decide (97 <= c.1) && decide (c.1 <= 122)) || (c.1 == 95) || (decide (128 <= c.1) && rightB c)
def nameCp (c : Nat × Nat × Nat) : Bool := letterB c || (!(c.2.1 == 0) && digitB (c.1 : Nat))
def nameB (s : ByteArray) : Bool := decide (1 <= s.size) && decide (s.size <= 100) && (cps s).all nameCp
theorem letterAt_cp (s : ByteArray) (p : Nat) : letterAt s p ((Utf8.decode s p).1 : Nat) = letterB ((Utf8.decode s p).1,p,(Utf8.decode s p).2) := by
 unfold letterAt letterB
 rw [rightAt_cp]
 congr 1
 ·congr 1
  ·rw [Bool.eq_iff_iff]; simp; omega
  ·rw [Bool.eq_iff_iff]; simp; omega
 ·congr 1
  rw [Bool.eq_iff_iff]; simp; omega
theorem name_any (s : ByteArray) (w : World) (hs : s.size <= 1099511627776) :
    Calls Tryz.prog 169 #[.string s] w fun e w' => e = .returned (.bool (nameB s)) /\ Below w.heap.size w w' := by
 by_cases h0 : s.size = 0
 ·have hv : nameB s = false := by unfold nameB; rw [h0]; rfl
  have hb : ((s.size : Int) == 0) = true := by rw [h0]; rfl
  have HV := hid hv
  clear hv h0
  go_enter Tryz.func169,Tryz.ntmps169
  go_wp2
  go_ret
  exact ⟨ret_bool HV.out.symm,Below.refl _ _⟩
 have hb : ((s.size : Int) == 0) = false := by simpa using h0
 by_cases h1 : 100 < s.size
 ·have hv : nameB s = false := by unfold nameB; rw [decide_eq_false (show ¬ s.size <= 100 by omega)]; simp
  have HV := hid hv
  clear hv
  go_enter Tryz.func169,Tryz.ntmps169
  go_wp2
  go_ret
  exact ⟨ret_bool HV.out.symm,Below.refl _ _⟩
 have hv : nameB s = (cps s).all nameCp := by unfold nameB; rw [decide_eq_true (show s.size <= 100 by omega),decide_eq_true (show 1 <= s.size by omega)]; simp
 have HV := hid hv
 clear hv
 have hd1 : decide ((100 : Int) < s.size) = false := by simp; omega
 go_enter Tryz.func169,Tryz.ntmps169
 go_wp2
 go_loopw [] (fun wr => ∃ (pos f : Nat),wr = w.iter s pos /\ (cpsF s f pos).all nameCp = (cps s).all nameCp /\ s.size <= pos + f) (fun wr => s.size - wr.iterPos w.heap.size)
 case atStart => exact ⟨0,s.size,rfl,rfl,by omega⟩
 case round =>
  obtain ⟨pos,f,rfl,hc,hf⟩ := hrel
  have HC := hid hc
  clear hc
  by_cases hp : pos < s.size
  ·have hnx : ∀ ty,(Instr.next (.pointer (some ⟨w.heap.size,0,none⟩)) true ty).run Tryz.prog (w.iter s pos) = _ := fun ty => run_next_any w s pos ty hp
   obtain ⟨g,hg1,hg2,hg3⟩ := cpsF_step s f pos hp hf
   have H1 := hid hg1
   have H2 := hid hg2
   clear hg1 hg2
   have hwd := width_pos s pos hp
   have hn : nameCp ((Utf8.decode s pos).1,pos,(Utf8.decode s pos).2) = (letterAt s pos ((Utf8.decode s pos).1 : Nat) || (!(pos == 0) && digitB ((Utf8.decode s pos).1 : Nat))) := by
    rw [letterAt_cp]; rfl
   have HN := hid hn
   clear hn
   have hrl := decode_le s pos
   by_cases hL : letterAt s pos ((Utf8.decode s pos).1 : Nat) = true
   ·have HY := hid hL
    by_cases h48 : (48 : Int) <= (Utf8.decode s pos).1
    all_goals
     go_wp2_with (go_at_call 214; refine (letter_any _ _ _ _ (by omega) hs).mono ?_; rintro e w' ⟨rfl,rfl⟩)
     go_roundw
     case rel => exact ⟨_,g,rfl,by rw [<- HC.out,H2.out,List.all_cons,HN.out,HY.out]; simp,hg3⟩
     case measure => simp; omega
   ·have hL' : letterAt s pos ((Utf8.decode s pos).1 : Nat) = false := by simpa using hL
    clear hL
    have HY := hid hL'
    by_cases h0 : pos = 0
    ·have hb0 : ((pos : Int) == 0) = true := by simpa using h0
     have H0 := hid h0
     clear h0
     have hf : nameB s = false := by rw [HV.out,<- HC.out,H2.out,List.all_cons,HN.out,HY.out,H0.out]; simp
     have HF := hid hf
     clear hf
     by_cases h48 : (48 : Int) <= (Utf8.decode s pos).1
     all_goals
      go_wp2_with (go_at_call 214; refine (letter_any _ _ _ _ (by omega) hs).mono ?_; rintro e w' ⟨rfl,rfl⟩)
      go_ret
      exact ⟨ret_bool HF.out.symm,(Below.refl _ _).alloc (Nat.le_refl _) _⟩
    ·have hb0 : ((pos : Int) == 0) = false := by simpa using h0
     have hbn : (pos == 0) = false := by simpa using h0
     have HB0 := hid hbn
     clear h0 hbn
     by_cases h48 : (48 : Int) <= (Utf8.decode s pos).1
     ·by_cases h57 : ((Utf8.decode s pos).1 : Int) <= 57
      ·have hdg : digitB ((Utf8.decode s pos).1 : Nat) = true := by unfold digitB; rw [decide_eq_true h48,decide_eq_true h57]; rfl
       have HD := hid hdg
       clear hdg
       go_wp2_with (go_at_call 214; refine (letter_any _ _ _ _ (by omega) hs).mono ?_; rintro e w' ⟨rfl,rfl⟩)
       go_roundw
       case rel => exact ⟨_,g,rfl,by rw [<- HC.out,H2.out,List.all_cons,HN.out,HD.out,HB0.out]; simp,hg3⟩
       case measure => simp; omega
      ·have hdg : digitB ((Utf8.decode s pos).1 : Nat) = false := by unfold digitB; rw [decide_eq_false h57]; simp
       have hf : nameB s = false := by rw [HV.out,<- HC.out,H2.out,List.all_cons,HN.out,HY.out,hdg]; simp
       have HF := hid hf
       clear hf hdg
       go_wp2_with (go_at_call 214; refine (letter_any _ _ _ _ (by omega) hs).mono ?_; rintro e w' ⟨rfl,rfl⟩)
       go_ret
       exact ⟨ret_bool HF.out.symm,(Below.refl _ _).alloc (Nat.le_refl _) _⟩
     ·have hdg : digitB ((Utf8.decode s pos).1 : Nat) = false := by unfold digitB; rw [decide_eq_false h48]; simp
      have hf : nameB s = false := by rw [HV.out,<- HC.out,H2.out,List.all_cons,HN.out,HY.out,hdg]; simp
      have HF := hid hf
      clear hf hdg
      go_wp2_with (go_at_call 214; refine (letter_any _ _ _ _ (by omega) hs).mono ?_; rintro e w' ⟨rfl,rfl⟩)
      go_ret
      exact ⟨ret_bool HF.out.symm,(Below.refl _ _).alloc (Nat.le_refl _) _⟩
  ·have hnx : ∀ ty,(Instr.next (.pointer (some ⟨w.heap.size,0,none⟩)) true ty).run Tryz.prog (w.iter s pos) = _ := fun ty => run_next_end w s pos ty hp
   go_wp2
   go_ret
   exact ⟨ret_bool (by rw [HV.out,<- HC.out,cpsF_end _ _ _ hp,List.all_nil]),(Below.refl _ _).alloc (Nat.le_refl _) _⟩
end Go.Proofs.YtmpcnhpdobdmcaaGreatDoor
namespace Go.Proofs.YtmpcnhpdobdmcaaGreatDoor
open Go Go.RowKit
theorem addr_block (a : Addr) (n : Nat) : (a.add n).block = a.block := by unfold Addr.add; split <;> rfl
theorem addr_add (a : Addr) (i j : Nat) : (a.add i).add j = a.add (i + j) := by
 unfold Addr.add
 by_cases hi : i = 0 <;> by_cases hj : j = 0 <;> simp [hi,hj,Nat.add_assoc]
def Rd (w : World) (B : Nat) (A : Option Addr) (n : Nat) (l : List UInt8) : Prop :=
 l.length = n /\ (0 < n -> ∃ ad,A = some ad /\ ad.block < B /\ ∀ j (hj : j < l.length),w.cell? (ad.add j) = some (.int .u8 (l[j].toNat : Nat)))
section
variable {w w' : World} {B B' n : Nat} {A : Option Addr} {l : List UInt8}
theorem Rd.nil (w : World) (B : Nat) : Rd w B none 0 [] := ⟨rfl,fun h => absurd h (by omega)⟩
theorem Rd.keep (h : Rd w B A n l) (hk : ∀ p : Addr,p.block < B -> w'.cell? p = w.cell? p) : Rd w' B A n l :=
 ⟨h.1,fun hn => by
   obtain ⟨ad,e,hb,hc⟩ := h.2 hn
   exact ⟨ad,e,hb,fun j hj => (hk _ (by rw [addr_block]; exact hb)).trans (hc j hj)⟩⟩
theorem Rd.below (h : Rd w B A n l) (hb : Below B w w') : Rd w' B A n l := h.keep fun _ hp => hb.cell hp
theorem Rd.up (h : Rd w B A n l) (hB : B <= B') : Rd w B' A n l :=
 ⟨h.1,fun hn => by
   obtain ⟨ad,e,hb,hc⟩ := h.2 hn
   exact ⟨ad,e,by omega,hc⟩⟩
theorem Rd.on (h : Rd w B A n l) (hb : Below B w w') (hB : B <= B') : Rd w' B' A n l := (h.below hb).up hB
theorem Rd.alloc (h : Rd w B A n l) (hB : B <= w.heap.size) (o : Obj) : Rd (w.alloc o) B A n l := h.keep fun p hp => World.cell?_alloc_lt w o p (by omega)
theorem Rd.drew (h : Rd w B A n l) : Rd w.drew B A n l := h
theorem Rd.at_ (h : Rd w B A n l) {j : Nat} (hj : j < n) : ∃ ad,A = some ad /\ ad.block < B /\ ∀ i (hi : i < l.length),w.cell? (ad.add i) = some (.int .u8 (l[i].toNat : Nat)) := h.2 (by omega)
theorem Rd.at2 (h : Rd w B A n l) {j : Nat} (hj : j < n) : ∃ g o,A = some ⟨g,o,none⟩ /\ g < B /\ ∀ i (hi : i < l.length),w.cell? ⟨g,o + i,none⟩ = some (.int .u8 (l[i].toNat : Nat)) := by
 obtain ⟨ad,rfl,hb,hc⟩ := h.2 (by omega)
 have h0 := hc 0 (by have := h.1; omega)
 have hs : ad.spot = none := by simpa [Addr.add] using World.cell?_spot h0
 obtain ⟨g,o,sp⟩ := ad
 simp only at hs
 subst hs
 exact ⟨g,o,rfl,hb,fun i hi => by rw [<- Addr.add_lit]; exact hc i hi⟩
theorem Rd.cut (h : Rd w B A n l) {k m mx : Nat} (hk : k <= m) (hm : m <= n) (hx : m <= mx) :
    Rd w B (if mx = k then A else A.map (·.add k)) (m - k) ((l.take m).drop k) := by
 refine ⟨by rw [List.length_drop,List.length_take,h.1]; omega,fun hn => ?_⟩
 obtain ⟨ad,rfl,hb,hc⟩ := h.2 (by omega)
 rw [if_neg (by omega)]
 refine ⟨ad.add k,rfl,by rw [addr_block]; exact hb,fun j hj => ?_⟩
 rw [addr_add]
 have hj2 : k + j < l.length := by rw [List.length_drop,List.length_take] at hj; omega
 rw [hc (k + j) hj2]
 simp
theorem Rd.pre (h : Rd w B A n l) {m : Nat} (hm : m <= n) : Rd w B A m (l.take m) := by
 refine ⟨by rw [List.length_take,h.1]; omega,fun h0 => ?_⟩
 obtain ⟨ad,e,hb,hc⟩ := h.2 (by omega)
 refine ⟨ad,e,hb,fun j hj => ?_⟩
 have hj2 : j < l.length := by rw [List.length_take] at hj; omega
 rw [hc j hj2]
 simp
theorem byteCells_get (l : List UInt8) (j : Nat) : (Lib.byteCells l)[j]? = (l[j]?).map fun b => Value.int .u8 b.toNat := by
 unfold Lib.byteCells
 rw [List.getElem?_map]
theorem Rd.cells (h : Rd w B A n l) {ad : Addr} (ha : A = some ad) : ∀ j u,(Lib.byteCells l)[j]? = some u -> w.cell? (ad.add j) = some u := by
 intro j u hu
 rw [byteCells_get] at hu
 have hj : j < l.length := by
  rcases Nat.lt_or_ge j l.length with h1 | h1
  ·exact h1
  ·rw [List.getElem?_eq_none h1] at hu; cases hu
 rw [List.getElem?_eq_getElem hj] at hu
 obtain ⟨ad',e,_,hc⟩ := h.2 (by have := h.1; omega)
 rw [ha] at e
 injection e with e
 subst e
 rw [hc j hj]
 exact hu
theorem Rd.of_own {base : Nat} {v : Value} {n : Nat} {l : List UInt8} (h : w.ownsRow base 5 1 v n (Lib.byteCells l)) :
    ∃ A c,v = .slice A n c /\ n <= c /\ c <= maxLen /\ (A = none -> c = 0) /\ Rd w w.heap.size A n l := by
 have hl : l.length = n := by have := h.1; rw [Lib.byteCells_length] at this; omega
 rcases h.2 with ⟨rfl,rfl⟩ | ⟨g,cap,cur,rfl,hb,hh,hn,hm,hs,ht⟩
 ·exact ⟨none,0,rfl,Nat.le_refl _,Nat.zero_le _,fun _ => rfl,hl,fun h => absurd h (by omega)⟩
 ·refine ⟨some ⟨g,0,none⟩,cap,rfl,hn,hm,fun h => (by cases h),hl,fun hn => ⟨_,rfl,(Array.getElem?_eq_some_iff.1 hh).1,fun j hj => ?_⟩⟩
  refine h.cells (g := g) rfl j _ ?_
  rw [byteCells_get,List.getElem?_eq_getElem hj]
  rfl
end
theorem own_down {w : World} {b b' n size : Nat} {e : TypeId} {v : Value} {xs : List Value} (h : w.ownsRow b e size v n xs) (hb : b' <= b) : w.ownsRow b' e size v n xs := by
 refine ⟨h.1,?_⟩
 rcases h.2 with h1 | ⟨g,cap,cur,h1,h2,h3⟩
 ·exact Or.inl h1
 ·exact Or.inr ⟨g,cap,cur,h1,Nat.le_trans hb h2,h3⟩
theorem infoB : (Tryz.prog.info? 5).map (fun i => (i.zero,i.size,i.bytes)) = some (some (.int .u8 0),1,1) := by kernel_rfl
theorem cv_string {w : World} {B n : Nat} {A : Option Addr} {l : List UInt8} (h : Rd w B A n l) (c : Nat) :
    (convert 29 9 (.slice A n c)).run Tryz.prog w = .ok (.string ⟨l.toArray⟩) w := by
 have hl := h.1
 cases A with
 | none =>
   have h0 : n = 0 := by
    rcases Nat.eq_zero_or_pos n with h1 | h1
    ·exact h1
    ·obtain ⟨ad,e,_⟩ := h.2 h1; cases e
   subst h0
   obtain rfl : l = [] := List.eq_nil_of_length_eq_zero hl
   exact run_convert_bytes_nil w _ _ Tryz.underlying29 Tryz.underlying5 0 c _ Tryz.underlying9
 | some ad =>
   subst hl
   refine run_convert_bytes_back w _ _ _ ad c l Tryz.underlying29 Tryz.underlying5 Tryz.underlying9 (fun j hj => ?_)
   obtain ⟨ad',e,_,hc⟩ := h.2 (by omega)
   injection e with e
   subst e
   exact hc j hj
theorem run_app_none {w : World} (base : Nat) {ty : TypeId} {v : Value} {n : Nat} {xs : List Value} (hown : w.ownsRow base 5 1 v n xs) (c : Nat) :
    (Builtin.append_ #[29,29] ty #[v,.slice none 0 c]).run Tryz.prog w = .ok v w := by
 obtain ⟨i,hi,hz0,hz1,hz2⟩ := info_parts infoB
 rcases hown.2 with ⟨rfl,rfl⟩ | ⟨g,cap,cur,rfl,_,_,hnc,_⟩
 ·simp [Builtin.append_,run_underlying Tryz.underlying29,sizeOf,typeInfo,hi,Builtin.lenOf,Builtin.firstCells]
 ·simp [Builtin.append_,run_underlying Tryz.underlying29,sizeOf,typeInfo,hi,Builtin.lenOf,Builtin.firstCells,hnc,storeCells]
theorem run_app {w : World} (base : Nat) {ty : TypeId} {v : Value} {n : Nat} {l : List UInt8} (hown : w.ownsRow base 5 1 v n (Lib.byteCells l)) {B m c : Nat} {A : Option Addr} {k : List UInt8} (hr : Rd w B A m k)
    (hsz : n + m <= 140737488355328) (hbase : base <= w.heap.size) :
    ∃ v' w',(Builtin.append_ #[29,29] ty #[v,.slice A m c]).run Tryz.prog w = .ok v' w' /\ w'.ownsRow base 5 1 v' (n + m) (Lib.byteCells (l ++ k)) /\ w.grownBy w' v.ownBlock := by
 obtain ⟨i,hi,hz0,hz1,hz2⟩ := info_parts infoB
 cases A with
 | none =>
   have h0 : m = 0 := by
    rcases Nat.eq_zero_or_pos m with h1 | h1
    ·exact h1
    ·obtain ⟨ad,e,_⟩ := hr.2 h1; cases e
   subst h0
   obtain rfl : k = [] := List.eq_nil_of_length_eq_zero hr.1
   exact ⟨v,w,run_app_none base hown c,by simpa using hown,⟨rfl,rfl,rfl,Nat.le_refl _,fun _ _ _ => rfl⟩⟩
 | some ad =>
   obtain ⟨v',w',h1,h2,h3,_⟩ := run_append_own (P := Tryz.prog) w base 29 ty 5 i (.int .u8 0) 1 1 Tryz.underlying29 hi hz0 hz1 hz2 rfl (by decide) v n (Lib.byteCells l) hown ad m c (Lib.byteCells k)
    (by rw [Lib.byteCells_length,hr.1]; omega) (hr.cells rfl) (Lib.byteCells_one k) (by unfold maxLen; omega) (by omega) hbase
   exact ⟨v',w',h1,by rw [Lib.byteCells_append]; exact h2,h3⟩
theorem wp_app {w : World} {o : Oper} {a : Act} {K : Act -> World -> Prop} {Q : Exit -> Act -> World -> Prop} (s x : Operand)
    (ho : o.op = .call { callee := .builtin .append,args := #[s,x],argTypes := #[29,29] })
    (base : Nat) (v : Value) (n : Nat) (l : List UInt8) (hs : a.eval s = v) (hown : w.ownsRow base 5 1 v n (Lib.byteCells l)) (B : Nat) (A : Option Addr) (m c : Nat) (k : List UInt8) (hx : a.eval x = .slice A m c) (hr : Rd w B A m k)
    (hsz : n + m <= 140737488355328) (hbase : base <= w.heap.size)
    (h : ∀ v' w',w'.ownsRow base 5 1 v' (n + m) (Lib.byteCells (l ++ k)) -> w.grownBy w' v.ownBlock -> K (a.put o.dst v') w') : o.wp Tryz.prog a w K Q := by
 obtain ⟨v',w',hrun,h2,h3⟩ := run_app (w := w) base (ty := o.type) hown (c := c) hr hsz hbase
 unfold Oper.wp execOp
 simp only [ho,resolve,invoke,builtin,Sem.run_bind,Sem.run_pure,Result.andThen_ok,List.map_toArray,List.map_cons,List.map_nil,hs,hx,hrun]
 exact h v' w' h2 h3
theorem wpList_app {w : World} {ops : Array Oper} {rest : List Oper} {o : Oper} {a : Act} {Q : Exit -> Act -> World -> Prop} (hgd : o.guard = none) (s x : Operand)
    (ho : o.op = .call { callee := .builtin .append,args := #[s,x],argTypes := #[29,29] })
    (base : Nat) (v : Value) (n : Nat) (l : List UInt8) (hs : a.eval s = v) (hown : w.ownsRow base 5 1 v n (Lib.byteCells l)) (B : Nat) (A : Option Addr) (m c : Nat) (k : List UInt8) (hx : a.eval x = .slice A m c) (hr : Rd w B A m k)
    (hsz : n + m <= 140737488355328) (hbase : base <= w.heap.size)
    (h : ∀ v' w',w'.ownsRow base 5 1 v' (n + m) (Lib.byteCells (l ++ k)) -> w.grownBy w' v.ownBlock -> wpList Tryz.prog ops Q rest (a.put o.dst v') w') : wpList Tryz.prog ops Q (o :: rest) a w :=
 wpList_plain hgd fun K hK => wp_app s x ho base v n l hs hown B A m c k hx hr hsz hbase fun v' w' h2 h3 => hK _ _ (h v' w' h2 h3)
theorem wpList_appFull {w : World} {ops : Array Oper} {rest : List Oper} {o : Oper} {a : Act} {Q : Exit -> Act -> World -> Prop} (hgd : o.guard = none) (s x : Operand)
    (ho : o.op = .call { callee := .builtin .append,args := #[s,x],argTypes := #[29,29] })
    (A0 : Option Addr) (n : Nat) (l : List UInt8) (B0 : Nat) (hs : a.eval s = .slice A0 n n) (hr0 : Rd w B0 A0 n l) (B : Nat) (ad : Addr) (m c : Nat) (k : List UInt8) (hx : a.eval x = .slice (some ad) m c) (hr : Rd w B (some ad) m k) (hm : 0 < m)
    (hsz : n + m <= 140737488355328)
    (h : ∀ v' w',w'.ownsRow w.heap.size 5 1 v' (n + m) (Lib.byteCells (l ++ k)) -> w.grownBy w' none -> wpList Tryz.prog ops Q rest (a.put o.dst v') w') : wpList Tryz.prog ops Q (o :: rest) a w := by
 obtain ⟨i,hi,hz0,hz1,hz2⟩ := info_parts infoB
 refine wpList_append_grows w hgd s x 29 ho 5 i (.int .u8 0) 1 1 Tryz.underlying29 hi hz0 hz1 hz2 rfl (by decide) A0 n n (Lib.byteCells l) hs (fun e => ?_) (by rw [Lib.byteCells_length,hr0.1]; omega) (fun b e => hr0.cells e)
  ad m c (Lib.byteCells k) hx (by rw [Lib.byteCells_length,hr.1]; omega) (hr.cells rfl) (Lib.byteCells_one k) (by omega) (by unfold maxLen; omega) (by omega) (fun v' w' h2 h3 => h v' w' (by rw [Lib.byteCells_append]; exact h2) h3)
 subst e
 rcases Nat.eq_zero_or_pos n with h1 | h1
 ·exact ⟨h1,h1⟩
 ·obtain ⟨ad,e,_⟩ := hr0.2 h1; cases e
theorem Rd.laid {w : World} {g : Nat} {l : List UInt8} {cs : Array Value} {t : TypeId} (hb : w.heap[g]? = some (.cells cs t (0,0))) (hc : cs.toList = Lib.byteCells l) : Rd w w.heap.size (some ⟨g,0,none⟩) l.length l := by
 refine ⟨rfl,fun _ => ⟨_,rfl,(Array.getElem?_eq_some_iff.1 hb).1,fun j hj => ?_⟩⟩
 refine World.news_of_block hb j _ ?_
 rw [hc,byteCells_get,List.getElem?_eq_getElem hj]
 rfl
theorem Rd.one (w : World) (x : Int) (b : UInt8) (h : x = (b.toNat : Nat)) : Rd (w.alloc (.cells #[.int .u8 x] 5)) (w.heap.size + 1) (some ⟨w.heap.size,0,none⟩) 1 [b] := by
 have := Rd.laid (w := w.alloc (.cells #[.int .u8 x] 5)) (g := w.heap.size) (l := [b]) (heap_alloc_new w _) (by rw [h]; rfl)
 simpa using this
theorem Rd.two (w : World) (x y : Int) (b d : UInt8) (h : x = (b.toNat : Nat)) (k : y = (d.toNat : Nat)) : Rd (w.alloc (.cells #[.int .u8 x,.int .u8 y] 5)) (w.heap.size + 1) (some ⟨w.heap.size,0,none⟩) 2 [b,d] := by
 have := Rd.laid (w := w.alloc (.cells #[.int .u8 x,.int .u8 y] 5)) (g := w.heap.size) (l := [b,d]) (heap_alloc_new w _) (by rw [h,k]; rfl)
 simpa using this
def GivesB (w : World) (l : List UInt8) (e : Ending) (w' : World) : Prop :=
 ∃ A n c,e = .returned (.slice A n c) /\ l.length = n /\ n <= c /\ c <= maxLen /\ (A = none -> c = 0) /\ Rd w' w'.heap.size A n l /\ Below w.heap.size w w'
def GivesS (w : World) (l : List UInt8) (e : Ending) (w' : World) : Prop :=
 ∃ s : ByteArray,e = .returned (.string s) /\ s.data.toList = l /\ Below w.heap.size w w'
theorem GivesB.of_own {w w' : World} {base n : Nat} {v : Value} {l : List UInt8} (h : w'.ownsRow base 5 1 v n (Lib.byteCells l)) (hb : Below w.heap.size w w') : GivesB w l (.returned v) w' := by
 obtain ⟨A,c,rfl,h1,h2,h3,h4⟩ := Rd.of_own h
 exact ⟨A,n,c,rfl,h4.1,h1,h2,h3,h4,hb⟩
end Go.Proofs.YtmpcnhpdobdmcaaGreatDoor
