import Derived.Test.YtmpcnhpdobdmcaaGreatDoorLawNotesB
import Derived.Test.YtmpcnhpdobdmcaaGreatDoorLawNotesH
import Derived.WalkSpells
import Derived.Lib.ConvBytes
open Go.Lib (hid)
set_option linter.unusedVariables false
set_option linter.unusedSimpArgs false
set_option maxHeartbeats 4000000
namespace Go.Proofs.YtmpcnhpdobdmcaaGreatDoor
open Go Go.RowKit
theorem full_any (A : Option Addr) (n c : Nat) (w : World) (hn : n <= c) (hc : c <= maxLen) :
    Calls Tryz.prog 225 #[.slice A n c] w fun e w' => e = .returned (.slice A n n) /\ w = w' := by
 unfold maxLen at hc
 go_enter Tryz.func225,Tryz.ntmps225
 go_wp2
 go_ret
 exact ⟨by simp,rfl⟩
theorem be_snoc (l : List UInt8) (v m : Nat) (r : List UInt8) (h : l ++ be v (m + 1) = r) : (l ++ [UInt8.ofNat (v / 256 ^ m)]) ++ be v m = r := by
 rw [<- h,be,List.append_assoc]
 rfl
theorem shr_byte (v m : Nat) : (v : Int) / 2 ^ (8 * m) % 256 = ((UInt8.ofNat (v / 256 ^ m)).toNat : Nat) := by
 have e : (2 : Int) ^ (8 * m) = ((256 ^ m : Nat) : Int) := by rw [Int.pow_mul]; simp
 rw [e,UInt8.toNat_ofNat']
 simp
theorem put_any (s : Value) (k n v : Nat) (l : List UInt8) (B : Nat) (w : World) (hown : w.ownsRow B 5 1 s k (Lib.byteCells l)) (hB : B <= w.heap.size) (hv : v < 18446744073709551616) (hn : n <= 8) (hk : k <= 70368744177664) :
    Calls Tryz.prog 224 #[s,.int .u64 (v : Nat),.int .i64 (n : Nat)] w fun e w' => ∃ s',e = .returned s' /\ w'.ownsRow B 5 1 s' (k + n) (Lib.byteCells (l ++ be v n)) /\ Below B w w' := by
 go_enter Tryz.func224,Tryz.ntmps224
 go_wp2
 go_loopw [0,2] (fun s i wr => ∃ (m : Nat) (r : List UInt8),i = .int .i64 m /\ m <= n /\ wr.ownsRow B 5 1 s (k + (n - m)) (Lib.byteCells r) /\ r ++ be v m = l ++ be v n /\ Below B w wr) (fun _ i _ => (intOf i).toNat)
 case atStart => exact ⟨n,l,rfl,Nat.le_refl _,by rw [Nat.sub_self]; exact hown,rfl,Below.refl _ _⟩
 case round =>
  obtain ⟨m,r,rfl,hm,ho,hr,hb⟩ := hrel
  by_cases h0 : 0 < m
  ·obtain ⟨m,rfl⟩ : ∃ q,m = q + 1 := ⟨m - 1,by omega⟩
   have hr2 := be_snoc r v m _ hr
   have HR := hid hr2
   clear hr hr2
   have hz := hb.size
   go_wp2_with (at_builtin; refine wpList_app rfl _ _ rfl B _ (k + (n - (m + 1))) r rfl (ho.alloc _) (wr.heap.size + 1) (some ⟨wr.heap.size,0,none⟩) 1 1 [UInt8.ofNat (v / 256 ^ m)] rfl ?c1 ?c2 ?c3 ?_)
   case c1 => exact Rd.one _ _ _ (shr_byte v m)
   case c2 => omega
   case c3 => simp; omega
   intro s' w1 ho1 hg1
   have hb1 := (hb.alloc (by omega) (.cells #[.int .u8 ((v : Int) / 2 ^ (8 * m) % 256)] 5)).grown hg1 (by simp; omega) (fun g hg => (ho.lt g hg).1)
   go_wp2
   go_roundw
   case rel => exact ⟨m,_,rfl,by omega,by rw [show k + (n - m) = k + (n - (m + 1)) + 1 from by omega]; exact ho1,HR.out,hb1⟩
   case measure => simp [intOf]
  ·obtain rfl : m = 0 := by omega
   have HR := hid hr
   clear hr
   go_wp2
   go_ret
   refine ⟨_,rfl,?_,hb⟩
   rw [<- HR.out,be,List.append_nil]
   simpa using ho
theorem num_any (A : Option Addr) (n c v B : Nat) (l : List UInt8) (w : World) (h : Rd w B A n l) (hB : B <= w.heap.size) (hn : n <= c) (hc : c <= maxLen) (hsz : n <= 35184372088832) (hv : v < 18446744073709551616) :
    Calls Tryz.prog 183 #[.slice A n c,.int .u64 (v : Nat)] w (GivesB w (l ++ numL v)) := by
 obtain ⟨g1,g2,g3⟩ := nb_facts v hv
 have e1 : (((Lib.bitLen v : Nat) : Int) + 7) / 8 = (nb v : Nat) := by unfold nb; omega
 have hbl := (bitLen_facts v hv).1
 obtain ⟨bl,hbe⟩ : ∃ bl,Lib.bitLen v = bl := ⟨_,rfl⟩
 rw [hbe] at e1 hbl
 obtain ⟨k,hk⟩ : ∃ k,nb v = k := ⟨_,rfl⟩
 rw [hk] at e1 g1
 have HK := hid hk
 have HBE := hid hbe
 have HE := hid e1
 clear g2 g3 hk hbe e1
 go_enter Tryz.func183,Tryz.ntmps183
 go_wp2_with fail
 refine (len64_any (v : Nat) _ (by omega) (by omega)).mono ?_
 rintro e w1 ⟨rfl,rfl⟩
 rw [Int.toNat_natCast,HBE.out]
 go_wp2_with fail
 rw [HE.out]
 refine (full_any A n c _ hn hc).mono ?_
 rintro e w1 ⟨rfl,rfl⟩
 go_wp2_with (at_builtin; refine wpList_appFull rfl _ _ rfl A n l (B + 0) rfl (h.alloc hB _) (w.heap.size + 1) ⟨w.heap.size,0,none⟩ 1 1 [UInt8.ofNat k] rfl ?c1 (by omega) ?c2 ?_)
 case c1 => exact Rd.one _ _ _ (by rw [UInt8.toNat_ofNat']; omega)
 case c2 => omega
 intro s1 w1 ho1 hg1
 have hb1 : Below w.heap.size w w1 := ((Below.refl _ _).alloc (Nat.le_refl _) (.cells #[.int .u8 (k : Int)] 5)).grown hg1 (by simp) (fun g hg => by cases hg)
 have hz := hb1.size
 have ho1 := own_down ho1 (b' := w.heap.size) (by simp)
 go_wp2_with fail
 refine (put_any s1 (n + 1) k v (l ++ [UInt8.ofNat k]) w.heap.size _ ho1 hz hv g1 (by omega)).mono ?_
 rintro e w2 ⟨s2,rfl,ho2,hb2⟩
 go_wp2
 go_ret
 refine GivesB.of_own (base := w.heap.size) (n := n + 1 + k) ?_ (hb1.trans hb2)
 rw [numL,HK.out]
 rw [List.append_assoc] at ho2
 exact ho2
theorem within_any (A : Option Addr) (n c : Nat) (i : Int) (w : World) :
    Calls Tryz.prog 241 #[.slice A n c,.int .i64 i] w fun e w' => e = .returned (.bool (decide (0 <= i) && decide (i <= n))) /\ w = w' := by
 by_cases h0 : 0 <= i
 ·go_enter Tryz.func241,Tryz.ntmps241
  go_wp2
  go_ret
  exact ⟨by simp [h0],rfl⟩
 ·have hb : decide (0 <= i) = false := by simp; omega
  go_enter Tryz.func241,Tryz.ntmps241
  go_wp2
  go_ret
  exact ⟨by simp,rfl⟩
theorem or_byte (a b : Nat) (hb : b < 256) : a * 256 ||| b = a * 256 + b := by
 rw [Nat.mul_comm,show (256 : Nat) = 2 ^ 8 from rfl,Nat.two_pow_add_eq_or_of_lt (by omega)]
theorem vl_step (a : Nat) (b : UInt8) (h : a < 72057594037927936) : bits BinOp.or IntKind.u64 (IntKind.u64.wrap ((a : Int) * 256)) (b.toNat : Int) = ((a * 256 + b.toNat : Nat) : Int) := by
 have hb := b.toNat_lt
 rw [IntWalk.u64_in _ (by omega),show (a : Int) * 256 = ((a * 256 : Nat) : Int) from by omega,bits_or_u64_nat _ _ (by omega) (by omega),or_byte a b.toNat (by omega)]
theorem vl_small (l : List UInt8) (k : Nat) (h : k <= 7) : vl (l.take k) < 72057594037927936 := by
 have h1 := vl_lt (l.take k)
 have h2 : (l.take k).length <= 7 := by rw [List.length_take]; omega
 have h3 : 256 ^ (l.take k).length <= 256 ^ 7 := Nat.pow_le_pow_right (by omega) h2
 have h4 : (256 : Nat) ^ 7 = 72057594037927936 := rfl
 omega
theorem get_any (A : Option Addr) (n c B : Nat) (l : List UInt8) (w : World) (h : Rd w B A n l) (hn : n <= 8) :
    Calls Tryz.prog 242 #[.slice A n c] w fun e w' => e = .returned (.int .u64 (vl l : Nat)) /\ w = w' := by
 have hl := h.1
 have HL := hid hl
 clear hl
 go_enter Tryz.func242,Tryz.ntmps242
 go_wp2
 go_loop [3,8] (fun v i => ∃ k : Nat,k <= n /\ i = .int .i64 k /\ v = .int .u64 (vl (l.take k) : Nat)) (fun _ i => n - (intOf i).toNat)
 case atStart => exact ⟨0,Nat.zero_le _,rfl,rfl⟩
 case round =>
  obtain ⟨k,hk,rfl,rfl⟩ := hrel
  by_cases hlt : k < n
  ·obtain ⟨ad,rfl,_,hc⟩ := h.at_ hlt
   have hkl : k < l.length := by rw [HL.out]; exact hlt
   have hck := hc k hkl
   have hst : vl (l.take (k + 1)) = vl (l.take k) * 256 + l[k].toNat := by
    rw [List.take_succ_eq_append_getElem hkl,vl_snoc]
   have hv := vl_small l k (by omega)
   have hbk := l[k].toNat_lt
   have HC := hid hc
   have HS := hid hst
   have HV := hid hv
   clear hc hst hv
   go_wp2
   go_round
   case rel => exact ⟨k + 1,by omega,by go_num,by rw [vl_step _ _ HV.out,HS.out]⟩
   case measure => simp [intOf]; omega
  ·obtain rfl : k = n := by omega
   go_wp2
   go_ret
   refine ⟨?_,rfl⟩
   show Ending.returned (.int .u64 ((vl (l.take k) : Nat) : Int)) = _
   rw [List.take_of_length_le (by rw [HL.out]; exact Nat.le_refl _)]
def numV (x : Nat × Int × Int) : Value := .tuple #[.int .u64 (x.1 : Nat),.int .i64 x.2.1,.int .i64 x.2.2]
theorem gnum_out (l : List UInt8) (i : Int) (h : i < 0 \/ (l.length : Int) < i) : gnum l i = (0,0,1) := by
 unfold gnum; rw [if_pos h]
theorem gnum_end (l : List UInt8) : gnum l (l.length : Nat) = (0,0,8) := by
 unfold gnum
 rw [if_neg (by omega),Int.toNat_natCast,List.drop_length]
theorem gnum_at (l : List UInt8) (i : Nat) (h : i < l.length) : gnum l (i : Nat) =
    if 8 < l[i].toNat \/ (0 < l[i].toNat /\ l[i + 1]? = some 0) then ((0,0,6) : Nat × Int × Int) else if l.length - (i + 1) < l[i].toNat then (0,0,8) else (vl ((l.drop (i + 1)).take l[i].toNat),((i + 1 + l[i].toNat : Nat) : Int),0) := by
 unfold gnum
 rw [if_neg (by omega),Int.toNat_natCast,List.drop_eq_getElem_cons h]
 simp only [List.head?_drop,List.length_drop]
theorem getNum_out (A : Option Addr) (n c B : Nat) (l : List UInt8) (i : Int) (w : World) (h : Rd w B A n l) (hi : i < 0 \/ (n : Int) < i) :
    Calls Tryz.prog 213 #[.slice A n c,.int .i64 i] w fun e w' => e = .returned (numV (gnum l i)) /\ w = w' := by
 rw [gnum_out l i (by rw [h.1]; exact hi)]
 have hd : (decide (0 <= i) && decide (i <= n)) = false := by
  rcases hi with h1 | h1
  ·rw [show decide (0 <= i) = false from by simp; omega]; rfl
  ·rw [show decide (i <= (n : Int)) = false from by simp; omega,Bool.and_false]
 have HD := hid hd
 clear hd
 go_enter Tryz.func213,Tryz.ntmps213
 go_wp2_with fail
 refine (within_any A n c i _).mono ?_
 rintro e w1 ⟨rfl,rfl⟩
 rw [HD.out]
 go_wp2
 go_ret3
 exact ⟨rfl,rfl⟩
theorem getNum_end (A : Option Addr) (n c B : Nat) (l : List UInt8) (w : World) (h : Rd w B A n l) (hn : n <= 140737488355328) :
    Calls Tryz.prog 213 #[.slice A n c,.int .i64 (n : Nat)] w fun e w' => e = .returned (numV (gnum l (n : Nat))) /\ w = w' := by
 have hg := gnum_end l
 rw [h.1] at hg
 rw [hg]
 clear hg
 have hd : (decide (0 <= (n : Int)) && decide ((n : Int) <= n)) = true := by simp
 have HD := hid hd
 clear hd
 have hb : ((n : Int) == n) = true := by simp
 go_enter Tryz.func213,Tryz.ntmps213
 go_wp2_with fail
 refine (within_any A n c _ _).mono ?_
 rintro e w1 ⟨rfl,rfl⟩
 rw [HD.out]
 go_wp2
 go_ret3
 exact ⟨rfl,rfl⟩
theorem getNum_in (A : Option Addr) (n c B : Nat) (l : List UInt8) (i : Nat) (w : World) (h : Rd w B A n l) (hi : i < n) (hn : n <= c) (hc : c <= maxLen) (hs : n <= 70368744177664) :
    Calls Tryz.prog 213 #[.slice A n c,.int .i64 (i : Nat)] w fun e w' => e = .returned (numV (gnum l (i : Nat))) /\ w = w' := by
 unfold maxLen at hc
 have hl := h.1
 have hil : i < l.length := by omega
 have hg := gnum_at l i hil
 obtain ⟨g,o,rfl,_,hcell⟩ := h.at2 hi
 have hc0 := hcell i hil
 obtain ⟨b,hbe⟩ : ∃ b : Nat,l[i].toNat = b := ⟨_,rfl⟩
 have hb255 : b < 256 := by rw [<- hbe]; exact l[i].toNat_lt
 rw [hbe] at hg hc0
 have hd : (decide (0 <= (i : Int)) && decide ((i : Int) <= n)) = true := by simp; omega
 have HD := hid hd
 have HL := hid hl
 have HBE := hid hbe
 have HC := hid hcell
 clear hd hl hbe hcell
 have hin : ((i : Int) == n) = false := by simp; omega
 have w1 : IntKind.i64.wrap ((i : Int) + 1) = (i : Int) + 1 := IntWalk.i64_in _ (by omega)
 by_cases h8 : 8 < b
 ·rw [if_pos (Or.inl h8)] at hg
  rw [hg]
  clear hg
  have t1 : decide ((8 : Int) < b) = true := by simp; omega
  go_enter Tryz.func213,Tryz.ntmps213
  go_wp2_with fail
  refine (within_any _ n c _ _).mono ?_
  rintro e w1 ⟨rfl,rfl⟩
  rw [HD.out]
  go_wp2
  go_ret3
  exact ⟨rfl,rfl⟩
 have t1 : decide ((8 : Int) < b) = false := by simp; omega
 by_cases h0 : b = 0
 ·subst h0
  rw [if_neg (by omega),if_neg (by omega)] at hg
  rw [hg]
  clear hg
  have t2 : decide ((0 : Int) < ((0 : Nat) : Int)) = false := by simp
  have hr : Rd w B (if i + 1 = i + 1 then some ⟨g,o,none⟩ else (some (⟨g,o,none⟩ : Addr)).map (·.add (i + 1))) (i + 1 - (i + 1)) ((l.take (i + 1)).drop (i + 1)) := h.cut (Nat.le_refl _) (by omega) (Nat.le_refl _)
  rw [if_pos rfl,Nat.sub_self,show (l.take (i + 1)).drop (i + 1) = [] from List.drop_of_length_le (by rw [List.length_take]; omega)] at hr
  go_enter Tryz.func213,Tryz.ntmps213
  go_wp2_with fail
  refine (within_any _ n c _ _).mono ?_
  rintro e w1 ⟨rfl,rfl⟩
  rw [HD.out]
  go_wp2_with fail
  refine (get_any _ 0 _ B [] _ hr (by omega)).mono ?_
  rintro e w1 ⟨rfl,rfl⟩
  go_wp2
  go_ret3
  refine ⟨?_,rfl⟩
  simp [numV,vl,vlF]
 have t2 : decide ((0 : Int) < b) = true := by simp; omega
 by_cases hlast : i + 1 = n
 ·rw [if_neg (by
   rintro (h1 | ⟨_,h1⟩)
   ·omega
   ·rw [List.getElem?_eq_none (by have := HL.out; omega)] at h1; cases h1),if_pos (by have := HL.out; omega)] at hg
  rw [hg]
  clear hg
  have t3 : decide ((i : Int) + 1 < n) = false := by simp; omega
  have t4 : decide ((n : Int) - ((i : Int) + 1) < b) = true := by simp; omega
  have w2 : IntKind.i64.wrap ((n : Int) - ((i : Int) + 1)) = (n : Int) - ((i : Int) + 1) := IntWalk.i64_in _ (by omega)
  have h5 : i + 1 <= n := by omega
  have HLA := hid hlast
  clear hlast
  go_enter Tryz.func213,Tryz.ntmps213
  go_wp2_with fail
  refine (within_any _ n c _ _).mono ?_
  rintro e w1 ⟨rfl,rfl⟩
  rw [HD.out]
  go_wp2
  go_ret3
  exact ⟨rfl,rfl⟩
 have hi2 : i + 1 < l.length := by have := HL.out; omega
 have hc1 := HC.out (i + 1) hi2
 have t3 : decide ((i : Int) + 1 < n) = true := by simp; omega
 by_cases hz : l[i + 1] = 0
 ·rw [if_pos (Or.inr ⟨by omega,by rw [List.getElem?_eq_getElem hi2,hz]⟩)] at hg
  rw [hg]
  clear hg
  rw [hz] at hc1
  go_enter Tryz.func213,Tryz.ntmps213
  go_wp2_with fail
  refine (within_any _ n c _ _).mono ?_
  rintro e w1 ⟨rfl,rfl⟩
  rw [HD.out]
  go_wp2
  go_ret3
  exact ⟨rfl,rfl⟩
 have hz2 : ((l[i + 1].toNat : Int) == 0) = false := by
  rw [beq_eq_false_iff_ne]
  intro h1
  exact hz (UInt8.toNat_inj.1 (by rw [show l[i + 1].toNat = 0 from by omega]; rfl))
 have hif : ¬ (8 < b \/ (0 < b /\ l[i + 1]? = some 0)) := by
  rintro (h1 | ⟨_,h1⟩)
  ·omega
  ·rw [List.getElem?_eq_getElem hi2] at h1
   exact hz (Option.some.inj h1)
 rw [if_neg hif] at hg
 clear hif
 have w2 : IntKind.i64.wrap ((n : Int) - ((i : Int) + 1)) = (n : Int) - ((i : Int) + 1) := IntWalk.i64_in _ (by omega)
 by_cases hsh : n - (i + 1) < b
 ·rw [if_pos (by rw [HL.out]; exact hsh)] at hg
  rw [hg]
  clear hg
  have HZ := hid hz
  clear hz
  have t4 : decide ((n : Int) - ((i : Int) + 1) < b) = true := by simp; omega
  go_enter Tryz.func213,Tryz.ntmps213
  go_wp2_with fail
  refine (within_any _ n c _ _).mono ?_
  rintro e w1 ⟨rfl,rfl⟩
  rw [HD.out]
  go_wp2
  go_ret3
  exact ⟨rfl,rfl⟩
 ·rw [if_neg (by rw [HL.out]; exact hsh)] at hg
  rw [hg]
  clear hg
  have HZ := hid hz
  clear hz
  have t4 : decide ((n : Int) - ((i : Int) + 1) < b) = false := by simp; omega
  have hr : Rd w B (if i + 1 + b = i + 1 then some ⟨g,o,none⟩ else (some (⟨g,o,none⟩ : Addr)).map (·.add (i + 1))) (i + 1 + b - (i + 1)) ((l.take (i + 1 + b)).drop (i + 1)) := h.cut (by omega) (by omega) (Nat.le_refl _)
  rw [if_neg (by omega),Nat.add_sub_cancel_left,List.drop_take,Nat.add_sub_cancel_left,Option.map_some,Addr.add_lit] at hr
  go_enter Tryz.func213,Tryz.ntmps213
  go_wp2_with fail
  refine (within_any _ n c _ _).mono ?_
  rintro e w1 ⟨rfl,rfl⟩
  rw [HD.out]
  go_wp2_with fail
  refine (get_any _ b _ B _ _ hr (by omega)).mono ?_
  rintro e w1 ⟨rfl,rfl⟩
  go_wp2
  go_ret3
  refine ⟨?_,rfl⟩
  simp [numV]
theorem getNum_any (A : Option Addr) (n c B : Nat) (l : List UInt8) (i : Int) (w : World) (h : Rd w B A n l) (hn : n <= c) (hc : c <= maxLen) (hs : n <= 70368744177664) :
    Calls Tryz.prog 213 #[.slice A n c,.int .i64 i] w fun e w' => e = .returned (numV (gnum l i)) /\ w = w' := by
 by_cases ho : i < 0 \/ (n : Int) < i
 ·exact getNum_out A n c B l i w h ho
 ·obtain ⟨k,rfl⟩ : ∃ k : Nat,i = (k : Nat) := ⟨i.toNat,by omega⟩
  by_cases hk : k = n
  ·subst hk
   exact getNum_end A k c B l w h (by omega)
  ·exact getNum_in A n c B l k w h (by omega) hn hc hs
end Go.Proofs.YtmpcnhpdobdmcaaGreatDoor
