import Derived.Test.YtmpcnhpdobdmcaaGreatDoorLawNotesO
import Derived.Deep.RegionLaw
open Go.Lib (hid)
set_option linter.unusedVariables false
set_option linter.unusedSimpArgs false
set_option maxHeartbeats 2000000
set_option maxRecDepth 20000
namespace Go.Proofs.YtmpcnhpdobdmcaaGreatDoor
open Go Go.RowKit
theorem mark_as (k : UInt8) (s q : ByteArray) (w : World) (hs : s.size <= 1048576) (h : q.data.toList = mrk k s.data.toList) :
    Calls Tryz.prog 108 #[.int .u8 (k.toNat : Nat),.string s] w fun e w' => e = .returned (.string q) /\ Below w.heap.size w w' := by
 refine (mark_any k s w hs).mono ?_
 rintro e w' ⟨x,he,hx,hb⟩
 exact ⟨by rw [he,ba_ext (hx.trans h.symm)],hb⟩
theorem lay_length_le : ∀ (n : Nat) (c : List UInt8) (r : Nat) (o : Bool),c.length <= n -> 0 < r -> (lay r o c).length <= 7 * c.length + 6
 | n,c,r,o,hn,h0 => by
   by_cases hc : c.length <= r
   ·rw [lay_short hc,pc_length]; omega
   ·rw [lay_long h0 (by omega),List.length_append,pc_length,List.length_take]
    match n,hn with
    | 0,hn => omega
    | n + 1,hn =>
      have := lay_length_le n (c.drop r) 122 false (by rw [List.length_drop]; omega) (by omega)
      rw [List.length_drop] at this
      omega
theorem gap_le (p : Nat) : gap p <= 6 := by
 unfold gap
 split <;> omega
theorem put_length_le (p : Nat) (c : List UInt8) : (put p c).length <= 7 * c.length + 12 := by
 unfold put frm
 rw [List.length_append,List.length_replicate]
 have := lay_length_le c.length c (rm p) true (Nat.le_refl _) (rm_pos p).1
 have := gap_le p
 omega
theorem put_mod (p : Nat) (c : List UInt8) : put (p % 128) c = put p c := by
 unfold put frm gap rm left
 rw [Nat.mod_mod]
def strSize : Value -> Nat
 | .string q => q.size
 | _ => 0
theorem lay_any (at0 : Nat) (s : ByteArray) (w : World) (h0 : at0 < 128) (hs : s.size <= 1099511627776) (hg : 7 <= 128 - at0) :
    Calls Tryz.prog 126 #[.int .i64 (at0 : Nat),.string s] w (GivesB w (put at0 s.data.toList)) := by
 have hput := put_length_le at0 s.data.toList
 rw [<- Lib.size_eq] at hput
 have hgap : gap at0 = 0 := by unfold gap left; rw [if_neg (by omega)]
 obtain ⟨P,hP⟩ : ∃ P,put at0 s.data.toList = P := ⟨_,rfl⟩
 have hP2 : [] ++ lay (rm at0) true s.data.toList = P := by rw [<- hP,put,frm_of hgap,List.nil_append]
 rw [hP] at hput ⊢
 have HP := hid hP2
 have HG := hid hgap
 have HL := hid hput
 have hdec : decide ((128 : Int) - (at0 : Nat) < 7) = false := by simp; omega
 clear hP hP2 hgap hput
 go_enter Tryz.func126,Tryz.ntmps126
 go_wp2
 go_loopw [0,1,5,6] (fun v0 v1 v5 v6 wr => ∃ (p m : Nat) (q : ByteArray) (r : List UInt8) (o : Bool),v0 = .int .i64 p /\ v1 = .string q /\ v6 = .bool o /\ p <= 121 /\ q.size <= s.size /\ wr.ownsRow w.heap.size 5 1 v5 m (Lib.byteCells r) /\ r ++ lay (rm p) o q.data.toList = P /\ Below w.heap.size w wr) (fun _ v1 _ _ _ => strSize v1)
 case atStart => exact ⟨at0,0,s,[],true,rfl,rfl,rfl,by omega,Nat.le_refl _,World.ownsRow_nil _ _ _ _,HP.out,Below.refl _ _⟩
 case round =>
  obtain ⟨p,m,q,r,o,rfl,rfl,rfl,hp,hq,ho,hr,hb⟩ := hrel
  have hz := hb.size
  have hrm : rm p = 122 - p := by unfold rm left; rw [if_neg (by omega),Nat.mod_eq_of_lt (by omega)]; omega
  have hm : m <= P.length := by
   have h1 := ho.1
   rw [Lib.byteCells_length] at h1
   rw [<- hr,List.length_append]
   omega
  have hm2 : m <= 8796093022207 * 2 := by have := HL.out; omega
  have hql : q.data.toList.length = q.size := (Lib.size_eq q).symm
  by_cases hend : q.size <= 122 - p
  ·have hlay : lay (rm p) o q.data.toList = pc (pk o true) q.data.toList := lay_short (by rw [hrm,hql]; exact hend)
   rw [hlay] at hr
   obtain ⟨mk,hmk⟩ : ∃ x : ByteArray,x.data.toList = mrk (pk o true) q.data.toList := ⟨⟨(mrk (pk o true) q.data.toList).toArray⟩,rfl⟩
   have hmz : mk.size = 6 := by rw [Lib.size_eq,hmk,mrk_length]
   obtain ⟨x,hx⟩ : ∃ x : ByteArray,q.extract 0 q.size = x := ⟨_,rfl⟩
   have hxq : x = q := by
    rw [<- hx]; apply ba_ext; rw [Lib.extract_data,List.drop_zero,Nat.sub_zero,<- hql,List.take_length]
   have hsl : ∀ wx : World,(Instr.slice 9 (.string q) none (some (.int .i64 (q.size : Int))) none).run Tryz.prog wx = .ok (.string q) wx := by
    intro wx
    rw [run_slice_string_h (P := Tryz.prog) (t := 9) (ht := Tryz.underlying9) (kh := .i64) (h := q.size) (h0 := by omega) (h2 := by omega)]
    rw [Int.toNat_natCast,hx,hxq]
   have HR := hid hr
   have HMK := hid hmk
   clear hr hmk hrm hlay hx hxq hql
   have heq : ((q.size : Int) == (q.size : Int)) = true := by simp
   go_wp2_with fail
   go_region_law (first
    | (refine step_ex rfl (.tmp 25) (.tmp 32) _ _ rfl u5 (.string mk) (by simp [Act.eval,Act.put]) (by simp [Act.eval,Act.put]) (run_appStr w.heap.size ((own_below ho.drew b2)) mk ?s1 ?s2) ?_
       case s1 => rw [hmz]; omega
       case s2 => exact Nat.le_trans hz b2.size
       intro v1 w3 ho3 hg3)
    | (go_simp; go_at_call 106; refine (kind_any o true _).mono ?_; rintro e w1 ⟨rfl,rfl⟩)
    | (go_simp; go_at_call 108; refine (mark_as (pk o true) q mk _ (by omega) HMK.out).mono ?_; rintro e w2 ⟨rfl,b2⟩))
   have hb3 : Below w.heap.size w w3 := grown_own (hb.trans ((Below.drew (Below.refl _ _)).trans b2 |>.mono hz)) (own_below ho.drew b2) hg3
   go_wp2_with (at_builtin; refine list_ex rfl (.tmp 34) (.tmp 37) _ _ rfl _ _ rfl rfl (run_appStr w.heap.size ho3 q ?s3 ?s4) ?_)
   case s3 => rw [hmz]; omega
   case s4 => exact hb3.size
   intro v4 w4 ho4 hg4
   have hb4 := grown_own hb3 ho3 hg4
   go_wp2
   go_ret
   refine GivesB.of_own (base := w.heap.size) (n := m + 6 + q.size) ?_ hb4
   rw [<- HR.out,pc,<- HMK.out]
   exact ho4
  ·obtain ⟨k,hk⟩ : ∃ k : Nat,122 - p = k := ⟨_,rfl⟩
   have hkp : (128 : Int) - (p : Nat) - 6 = (k : Nat) := by omega
   have hlay : lay (rm p) o q.data.toList = pc (pk o false) (q.data.toList.take k) ++ lay 122 false (q.data.toList.drop k) := by
    rw [hrm,hk]
    exact lay_long (by omega) (by rw [hql]; omega)
   rw [hlay] at hr
   obtain ⟨x,hx⟩ : ∃ x : ByteArray,q.extract 0 k = x := ⟨_,rfl⟩
   obtain ⟨y,hy⟩ : ∃ x : ByteArray,q.extract k q.size = x := ⟨_,rfl⟩
   have hxl : x.data.toList = q.data.toList.take k := by rw [<- hx,Lib.extract_data,List.drop_zero,Nat.sub_zero]
   have hyl : y.data.toList = q.data.toList.drop k := by
    rw [<- hy,Lib.extract_data,<- hql,<- List.length_drop,List.take_length]
   have hxz : x.size = k := by rw [Lib.size_eq,hxl,List.length_take,hql]; omega
   have hyz : y.size = q.size - k := by rw [Lib.size_eq,hyl,List.length_drop,hql]
   rw [<- hxl,<- hyl] at hr
   have hsl : ∀ wx : World,(Instr.slice 9 (.string q) none (some (.int .i64 (128 - (p : Int) - 6))) none).run Tryz.prog wx = .ok (.string x) wx := by
    intro wx
    rw [hkp,run_slice_string_h (P := Tryz.prog) (t := 9) (ht := Tryz.underlying9) (kh := .i64) (h := k) (h0 := by omega) (h2 := by omega)]
    rw [Int.toNat_natCast,hx]
   have hsr : ∀ wx : World,(Instr.slice 9 (.string q) (some (.int .i64 (128 - (p : Int) - 6))) none none).run Tryz.prog wx = .ok (.string y) wx := by
    intro wx
    rw [hkp,run_slice_string_l (P := Tryz.prog) (t := 9) (ht := Tryz.underlying9) (kl := .i64) (l := k) (h0 := by omega) (h1 := by omega)]
    rw [Int.toNat_natCast,hy]
   obtain ⟨mk,hmk⟩ : ∃ z : ByteArray,z.data.toList = mrk (pk o false) x.data.toList := ⟨⟨(mrk (pk o false) x.data.toList).toArray⟩,rfl⟩
   have hmz : mk.size = 6 := by rw [Lib.size_eq,hmk,mrk_length]
   have heq : ((128 : Int) - (p : Nat) - 6 == (q.size : Int)) = false := by rw [beq_eq_false_iff_ne]; omega
   have hq2 : y.size < q.size := by omega
   have hx2 : x.size <= 122 := by omega
   have hpk : 128 - (p : Int) - 6 < q.size := by omega
   have hq3 : k < q.size := by omega
   have HR := hid hr
   have HMK := hid hmk
   clear hr hmk hrm hlay hx hxl hyl hxz hyz hql hy hkp hend
   go_wp2_with fail
   go_region_law (first
    | (refine step_ex rfl (.tmp 25) (.tmp 32) _ _ rfl u5 (.string mk) (by simp [Act.eval,Act.put]) (by simp [Act.eval,Act.put]) (run_appStr w.heap.size ((own_below ho.drew b2)) mk ?s1 ?s2) ?_
       case s1 => rw [hmz]; omega
       case s2 => exact Nat.le_trans hz b2.size
       intro v1 w3 ho3 hg3)
    | (go_simp; go_at_call 106; refine (kind_any o false _).mono ?_; rintro e w1 ⟨rfl,rfl⟩)
    | (go_simp; go_at_call 108; refine (mark_as (pk o false) x mk _ (by omega) HMK.out).mono ?_; rintro e w2 ⟨rfl,b2⟩))
   have hb3 : Below w.heap.size w w3 := grown_own (hb.trans ((Below.drew (Below.refl _ _)).trans b2 |>.mono hz)) (own_below ho.drew b2) hg3
   go_wp2_with (at_builtin; refine list_ex rfl (.tmp 34) (.tmp 37) _ _ rfl _ _ rfl rfl (run_appStr w.heap.size ho3 x ?s3 ?s4) ?_)
   case s3 => rw [hmz]; omega
   case s4 => exact hb3.size
   intro v4 w4 ho4 hg4
   have hb4 := grown_own hb3 ho3 hg4
   go_wp2
   go_roundw
   case rel => exact ⟨0,m + 6 + x.size,y,_,false,rfl,rfl,rfl,by omega,by omega,ho4,by rw [<- HR.out,pc,<- HMK.out]; simp; rfl,hb4⟩
   case measure => simp [strSize]; omega
theorem lay_gap (at0 : Nat) (s : ByteArray) (w : World) (h0 : at0 < 128) (hs : s.size <= 1099511627776) (hg : 128 - at0 < 7) :
    Calls Tryz.prog 126 #[.int .i64 (at0 : Nat),.string s] w (GivesB w (put at0 s.data.toList)) := by
 have hput := put_length_le at0 s.data.toList
 rw [<- Lib.size_eq] at hput
 obtain ⟨z,hz0⟩ : ∃ z,128 - at0 = z := ⟨_,rfl⟩
 have hzz : (128 : Int) - (at0 : Nat) = (z : Nat) := by omega
 have hgap : gap at0 = z := by unfold gap left; rw [if_pos (by omega)]; omega
 have hrm0 : rm at0 = rm 0 := by unfold rm left; rw [if_pos (by omega),if_neg (by omega)]
 obtain ⟨P,hP⟩ : ∃ P,put at0 s.data.toList = P := ⟨_,rfl⟩
 have hP2 : List.replicate z 0 ++ lay (rm 0) true s.data.toList = P := by rw [<- hP,put,frm,hgap,hrm0]
 rw [hP] at hput ⊢
 obtain ⟨cs,hcs⟩ : ∃ cs,madeCells (Value.int .u8 0).cells (z * 1) = cs := ⟨_,rfl⟩
 have hmkz : ∀ wx : World,(Instr.makeSlice 29 (.int .i64 (128 - (at0 : Nat))) (.int .i64 (128 - (at0 : Nat)))).run Tryz.prog wx = .ok (.slice (some ⟨wx.heap.size,0,none⟩) z z) (wx.alloc (.cells cs 5)) := by
  intro wx
  rw [hzz,run_makeB wx z (by omega),hcs]
 have hown := made_own w z (by omega)
 rw [hcs] at hown
 have HP := hid hP2
 have HG := hid hgap
 have HL := hid hput
 have HO := hid hown
 have hdec : decide ((128 : Int) - (at0 : Nat) < 7) = true := by simp; omega
 clear hP hP2 hgap hput hown hz0 hzz hrm0 hcs
 go_enter Tryz.func126,Tryz.ntmps126
 go_wp2
 go_loopw [0,1,5,6] (fun v0 v1 v5 v6 wr => ∃ (p m : Nat) (q : ByteArray) (r : List UInt8) (o : Bool),v0 = .int .i64 p /\ v1 = .string q /\ v6 = .bool o /\ p <= 121 /\ q.size <= s.size /\ wr.ownsRow w.heap.size 5 1 v5 m (Lib.byteCells r) /\ r ++ lay (rm p) o q.data.toList = P /\ Below w.heap.size w wr) (fun _ v1 _ _ _ => strSize v1)
 case atStart => exact ⟨0,z,s,List.replicate z 0,true,rfl,rfl,rfl,by omega,Nat.le_refl _,HO.out,HP.out,(Below.refl _ _).alloc (Nat.le_refl _) _⟩
 case round =>
  obtain ⟨p,m,q,r,o,rfl,rfl,rfl,hp,hq,ho,hr,hb⟩ := hrel
  have hz := hb.size
  have hrm : rm p = 122 - p := by unfold rm left; rw [if_neg (by omega),Nat.mod_eq_of_lt (by omega)]; omega
  have hm : m <= P.length := by
   have h1 := ho.1
   rw [Lib.byteCells_length] at h1
   rw [<- hr,List.length_append]
   omega
  have hm2 : m <= 8796093022207 * 2 := by have := HL.out; omega
  have hql : q.data.toList.length = q.size := (Lib.size_eq q).symm
  by_cases hend : q.size <= 122 - p
  ·have hlay : lay (rm p) o q.data.toList = pc (pk o true) q.data.toList := lay_short (by rw [hrm,hql]; exact hend)
   rw [hlay] at hr
   obtain ⟨mk,hmk⟩ : ∃ x : ByteArray,x.data.toList = mrk (pk o true) q.data.toList := ⟨⟨(mrk (pk o true) q.data.toList).toArray⟩,rfl⟩
   have hmz : mk.size = 6 := by rw [Lib.size_eq,hmk,mrk_length]
   obtain ⟨x,hx⟩ : ∃ x : ByteArray,q.extract 0 q.size = x := ⟨_,rfl⟩
   have hxq : x = q := by
    rw [<- hx]; apply ba_ext; rw [Lib.extract_data,List.drop_zero,Nat.sub_zero,<- hql,List.take_length]
   have hsl : ∀ wx : World,(Instr.slice 9 (.string q) none (some (.int .i64 (q.size : Int))) none).run Tryz.prog wx = .ok (.string q) wx := by
    intro wx
    rw [run_slice_string_h (P := Tryz.prog) (t := 9) (ht := Tryz.underlying9) (kh := .i64) (h := q.size) (h0 := by omega) (h2 := by omega)]
    rw [Int.toNat_natCast,hx,hxq]
   have HR := hid hr
   have HMK := hid hmk
   clear hr hmk hrm hlay hx hxq hql
   have heq : ((q.size : Int) == (q.size : Int)) = true := by simp
   go_wp2_with fail
   go_region_law (first
    | (refine step_ex rfl (.tmp 25) (.tmp 32) _ _ rfl u5 (.string mk) (by simp [Act.eval,Act.put]) (by simp [Act.eval,Act.put]) (run_appStr w.heap.size ((own_below ho.drew b2)) mk ?s1 ?s2) ?_
       case s1 => rw [hmz]; omega
       case s2 => exact Nat.le_trans hz b2.size
       intro v1 w3 ho3 hg3)
    | (go_simp; go_at_call 106; refine (kind_any o true _).mono ?_; rintro e w1 ⟨rfl,rfl⟩)
    | (go_simp; go_at_call 108; refine (mark_as (pk o true) q mk _ (by omega) HMK.out).mono ?_; rintro e w2 ⟨rfl,b2⟩))
   have hb3 : Below w.heap.size w w3 := grown_own (hb.trans ((Below.drew (Below.refl _ _)).trans b2 |>.mono hz)) (own_below ho.drew b2) hg3
   go_wp2_with (at_builtin; refine list_ex rfl (.tmp 34) (.tmp 37) _ _ rfl _ _ rfl rfl (run_appStr w.heap.size ho3 q ?s3 ?s4) ?_)
   case s3 => rw [hmz]; omega
   case s4 => exact hb3.size
   intro v4 w4 ho4 hg4
   have hb4 := grown_own hb3 ho3 hg4
   go_wp2
   go_ret
   refine GivesB.of_own (base := w.heap.size) (n := m + 6 + q.size) ?_ hb4
   rw [<- HR.out,pc,<- HMK.out]
   exact ho4
  ·obtain ⟨k,hk⟩ : ∃ k : Nat,122 - p = k := ⟨_,rfl⟩
   have hkp : (128 : Int) - (p : Nat) - 6 = (k : Nat) := by omega
   have hlay : lay (rm p) o q.data.toList = pc (pk o false) (q.data.toList.take k) ++ lay 122 false (q.data.toList.drop k) := by
    rw [hrm,hk]
    exact lay_long (by omega) (by rw [hql]; omega)
   rw [hlay] at hr
   obtain ⟨x,hx⟩ : ∃ x : ByteArray,q.extract 0 k = x := ⟨_,rfl⟩
   obtain ⟨y,hy⟩ : ∃ x : ByteArray,q.extract k q.size = x := ⟨_,rfl⟩
   have hxl : x.data.toList = q.data.toList.take k := by rw [<- hx,Lib.extract_data,List.drop_zero,Nat.sub_zero]
   have hyl : y.data.toList = q.data.toList.drop k := by
    rw [<- hy,Lib.extract_data,<- hql,<- List.length_drop,List.take_length]
   have hxz : x.size = k := by rw [Lib.size_eq,hxl,List.length_take,hql]; omega
   have hyz : y.size = q.size - k := by rw [Lib.size_eq,hyl,List.length_drop,hql]
   rw [<- hxl,<- hyl] at hr
   have hsl : ∀ wx : World,(Instr.slice 9 (.string q) none (some (.int .i64 (128 - (p : Int) - 6))) none).run Tryz.prog wx = .ok (.string x) wx := by
    intro wx
    rw [hkp,run_slice_string_h (P := Tryz.prog) (t := 9) (ht := Tryz.underlying9) (kh := .i64) (h := k) (h0 := by omega) (h2 := by omega)]
    rw [Int.toNat_natCast,hx]
   have hsr : ∀ wx : World,(Instr.slice 9 (.string q) (some (.int .i64 (128 - (p : Int) - 6))) none none).run Tryz.prog wx = .ok (.string y) wx := by
    intro wx
    rw [hkp,run_slice_string_l (P := Tryz.prog) (t := 9) (ht := Tryz.underlying9) (kl := .i64) (l := k) (h0 := by omega) (h1 := by omega)]
    rw [Int.toNat_natCast,hy]
   obtain ⟨mk,hmk⟩ : ∃ z : ByteArray,z.data.toList = mrk (pk o false) x.data.toList := ⟨⟨(mrk (pk o false) x.data.toList).toArray⟩,rfl⟩
   have hmz : mk.size = 6 := by rw [Lib.size_eq,hmk,mrk_length]
   have heq : ((128 : Int) - (p : Nat) - 6 == (q.size : Int)) = false := by rw [beq_eq_false_iff_ne]; omega
   have hq2 : y.size < q.size := by omega
   have hx2 : x.size <= 122 := by omega
   have hpk : 128 - (p : Int) - 6 < q.size := by omega
   have hq3 : k < q.size := by omega
   have HR := hid hr
   have HMK := hid hmk
   clear hr hmk hrm hlay hx hxl hyl hxz hyz hql hy hkp hend
   go_wp2_with fail
   go_region_law (first
    | (refine step_ex rfl (.tmp 25) (.tmp 32) _ _ rfl u5 (.string mk) (by simp [Act.eval,Act.put]) (by simp [Act.eval,Act.put]) (run_appStr w.heap.size ((own_below ho.drew b2)) mk ?s1 ?s2) ?_
       case s1 => rw [hmz]; omega
       case s2 => exact Nat.le_trans hz b2.size
       intro v1 w3 ho3 hg3)
    | (go_simp; go_at_call 106; refine (kind_any o false _).mono ?_; rintro e w1 ⟨rfl,rfl⟩)
    | (go_simp; go_at_call 108; refine (mark_as (pk o false) x mk _ (by omega) HMK.out).mono ?_; rintro e w2 ⟨rfl,b2⟩))
   have hb3 : Below w.heap.size w w3 := grown_own (hb.trans ((Below.drew (Below.refl _ _)).trans b2 |>.mono hz)) (own_below ho.drew b2) hg3
   go_wp2_with (at_builtin; refine list_ex rfl (.tmp 34) (.tmp 37) _ _ rfl _ _ rfl rfl (run_appStr w.heap.size ho3 x ?s3 ?s4) ?_)
   case s3 => rw [hmz]; omega
   case s4 => exact hb3.size
   intro v4 w4 ho4 hg4
   have hb4 := grown_own hb3 ho3 hg4
   go_wp2
   go_roundw
   case rel => exact ⟨0,m + 6 + x.size,y,_,false,rfl,rfl,rfl,by omega,by omega,ho4,by rw [<- HR.out,pc,<- HMK.out]; simp; rfl,hb4⟩
   case measure => simp [strSize]; omega
theorem lay_int (x : Int) (p : Nat) (s : ByteArray) (w : World) (hx : x = (p % 128 : Nat)) (hs : s.size <= 1099511627776) :
    Calls Tryz.prog 126 #[.int .i64 x,.string s] w (GivesB w (put p s.data.toList)) := by
 have hl : p % 128 < 128 := Nat.mod_lt _ (by omega)
 rw [hx,<- put_mod]
 by_cases hg : 7 <= 128 - p % 128
 ·exact lay_any _ s w hl hs hg
 ·exact lay_gap _ s w hl hs (by omega)
theorem gput_any (A : Option Addr) (n c B : Nat) (l : List UInt8) (s : ByteArray) (w : World) (h : Rd w B A n l) (hB : B <= w.heap.size) (hn : n <= c) (hc : c <= maxLen) (hsz : n <= 17592186044416) (hs : s.size <= 1099511627776) :
    Calls Tryz.prog 81 #[.slice A n c,.string s] w (GivesB w (l ++ put n s.data.toList)) := by
 have hput := put_length_le n s.data.toList
 rw [<- Lib.size_eq] at hput
 have hput6 := frm_length_ge n true s.data.toList
 change 6 <= (put n s.data.toList).length at hput6
 obtain ⟨P,hP⟩ : ∃ P,put n s.data.toList = P := ⟨_,rfl⟩
 rw [hP] at hput hput6 ⊢
 have HP := hid hP
 clear hP
 unfold maxLen at hc
 go_enter Tryz.func81,Tryz.ntmps81
 go_wp2_with fail
 go_region_law (first
  | (refine step_ex rfl (.tmp 10) (.tmp 15) _ _ rfl (.slice A n n) (.slice (some ad1) n1 c1) (by simp [Act.eval,Act.put]) (by simp [Act.eval,Act.put]) (run_appFull (h.drew.below (b1.mono hB)) c1 hr1 (by omega) ?s1) ?_
     case s1 => omega
     intro v1 w3 ho3 hg3)
  | (go_simp; go_at_call 126; refine (lay_int _ n s _ ?hx hs).mono ?_; (case hx => rw [Int.tmod_eq_emod_of_nonneg (by omega)]; omega); rintro e w1 ⟨A1,n1,c1,rfl,hl1,hn1,hc1,hA1,hr1,b1⟩; rw [HP.out] at hl1; obtain ⟨ad1,rfl,_⟩ := hr1.2 (by omega)))
 have b2 : Below w.heap.size w w1 := (Below.drew (Below.refl _ _)).trans b1
 have b3 := b2.grown hg3 b2.size (fun g hg => by cases hg)
 rw [HP.out] at ho3
 go_wp2
 go_ret
 refine GivesB.of_own (base := w.heap.size) (n := n + n1) ?_ b3
 exact own_down ho3 b2.size
theorem all_zero (l : List UInt8) : (l.all (· == 0)) = true ↔ l = List.replicate l.length 0 := by
 rw [List.all_eq_true,List.eq_replicate_iff]
 constructor
 ·intro h
  exact ⟨rfl,fun b hb => by simpa using h b hb⟩
 ·rintro ⟨_,h⟩ b hb
  simp [h b hb]
theorem noughts_any (A : Option Addr) (n c B : Nat) (l : List UInt8) (w : World) (h : Rd w B A n l) (hn : n <= 1099511627776) :
    Calls Tryz.prog 73 #[.slice A n c] w fun e w' => e = .returned (.bool (l.all (· == 0))) /\ w = w' := by
 have hl := h.1
 have HL := hid hl
 clear hl
 go_enter Tryz.func73,Tryz.ntmps73
 go_wp2
 go_loop [7] (fun i => ∃ k : Nat,k <= n /\ i = .int .i64 k /\ (l.take k).all (· == 0) = true) (fun i => n - (intOf i).toNat)
 case atStart => exact ⟨0,Nat.zero_le _,rfl,rfl⟩
 case round =>
  obtain ⟨k,hk,rfl,hz⟩ := hrel
  have HZ := hid hz
  clear hz
  by_cases hlt : k < n
  ·obtain ⟨g,o,rfl,hgB,hc⟩ := h.at2 hlt
   have hkl : k < l.length := by rw [HL.out]; exact hlt
   have hck := hc k hkl
   have hbk := l[k].toNat_lt
   by_cases h0 : l[k] = 0
   ·have hb : ((l[k].toNat : Int) != 0) = false := by rw [h0]; rfl
    have hz2 : (l.take (k + 1)).all (· == 0) = true := by
     rw [List.take_succ_eq_append_getElem hkl,List.all_append,HZ.out,h0]; rfl
    have HZ2 := hid hz2
    have HC := hid hc
    clear hz2 h0 hc
    go_wp2
    go_round
    case rel => exact ⟨k + 1,by omega,by go_num,HZ2.out⟩
    case measure => simp [intOf]; omega
   ·have hb : ((l[k].toNat : Int) != 0) = true := by
     rw [bne_iff_ne]
     intro e
     exact h0 (UInt8.toNat_inj.1 (by rw [show l[k].toNat = 0 from by omega]; rfl))
    have hf : l.all (· == 0) = false := by
     rw [Bool.eq_false_iff]
     intro e
     rw [List.all_eq_true] at e
     exact h0 (by simpa using e l[k] (List.getElem_mem hkl))
    have HF := hid hf
    have HC := hid hc
    clear hf h0 hc
    go_wp2
    go_ret
    exact ⟨by rw [HF.out]; rfl,rfl⟩
  ·obtain rfl : k = n := by omega
   go_wp2
   go_ret
   refine ⟨?_,rfl⟩
   have := HZ.out
   rw [List.take_of_length_le (by rw [HL.out]; exact Nat.le_refl _)] at this
   rw [this]
   rfl
def fitB (k : UInt8) (s : ByteArray) (tq : Nat) : Bool := if k = 2 \/ k = 3 then tq == 128 else if k = 4 then s.size != 0 else true
theorem u8_eq (k : UInt8) (m : Nat) (hm : m < 256) : (((k.toNat : Nat) : Int) == ((m : Nat) : Int)) = decide (k = UInt8.ofNat m) := by
 have h := k.toNat_lt
 by_cases hk : k = UInt8.ofNat m
 ·rw [hk,decide_eq_true rfl,UInt8.toNat_ofNat',beq_iff_eq]
  omega
 ·rw [decide_eq_false hk,beq_eq_false_iff_ne]
  intro e
  exact hk (UInt8.toNat_inj.1 (by rw [UInt8.toNat_ofNat']; omega))
theorem fits_any (k : UInt8) (s : ByteArray) (tq : Nat) (w : World) :
    Calls Tryz.prog 107 #[.int .u8 (k.toNat : Nat),.string s,.int .i64 (tq : Nat)] w fun e w' => e = .returned (.bool (fitB k s tq)) /\ w = w' := by
 have e2 := u8_eq k 2 (by omega)
 have e3 := u8_eq k 3 (by omega)
 have e4 := u8_eq k 4 (by omega)
 have es : (s.toList != []) = (s.size != 0) := by
  rw [Lib.toList_data,Lib.size_eq]
  cases s.data.toList <;> rfl
 have et : (((tq : Nat) : Int) == 128) = (tq == 128) := by
  rw [Bool.eq_iff_iff,beq_iff_eq,beq_iff_eq]
  omega
 by_cases h2 : k = 2
 ·subst h2
  go_enter Tryz.func107,Tryz.ntmps107
  go_wp2
  go_ret
  exact ⟨by simp [fitB,et],rfl⟩
 by_cases h3 : k = 3
 ·subst h3
  go_enter Tryz.func107,Tryz.ntmps107
  go_wp2
  go_ret
  exact ⟨by simp [fitB,et],rfl⟩
 by_cases h4 : k = 4
 ·subst h4
  by_cases h0 : s.size = 0
  ·obtain rfl : s = ⟨#[]⟩ := by
    apply ba_ext
    exact List.eq_nil_of_length_eq_zero (by rw [<- Lib.size_eq]; exact h0)
   clear es
   go_enter Tryz.func107,Tryz.ntmps107
   go_wp2
   go_ret
   exact ⟨rfl,rfl⟩
  ·have es2 : (s.size != 0) = true := by simpa using h0
   rw [es2] at es
   have hs : s.toList ≠ [] := by simpa using es
   go_enter Tryz.func107,Tryz.ntmps107
   go_wp2
   go_ret
   exact ⟨by simp [fitB,es2,hs],rfl⟩
 ·have d2 : decide (k = UInt8.ofNat 2) = false := by simpa using h2
  have d3 : decide (k = UInt8.ofNat 3) = false := by simpa using h3
  have d4 : decide (k = UInt8.ofNat 4) = false := by simpa using h4
  rw [d2] at e2
  rw [d3] at e3
  rw [d4] at e4
  have hv : fitB k s tq = true := by unfold fitB; rw [if_neg (by rintro (h | h); exact h2 h; exact h3 h),if_neg h4]
  rw [hv]
  clear hv es et h2 h3 h4 d2 d3 d4
  go_enter Tryz.func107,Tryz.ntmps107
  go_wp2
  go_ret
  exact ⟨rfl,rfl⟩
end Go.Proofs.YtmpcnhpdobdmcaaGreatDoor
