/-
  Contracts of the document's own answers, chapter 4, second part: Put.
-/
import Derived.Test.YtcihgnkmikhboaaRs1
set_option linter.unusedVariables false
set_option linter.unusedSimpArgs false
namespace Go.Proofs.Ytcihgnkmikhboaa
open Go Go.RowKit
attribute [local go_sem ↓] Go.wp_at_zero Go.wp_at_succ

theorem left_gap (p : Nat) : left (p + gap p) = rm p + 6 := by
  unfold rm gap left
  split
  · omega
  · rw [Nat.add_zero]; omega
theorem next_gap (p : Nat) : (p + gap p + 6 + rm p) % 128 = 0 := by
  unfold rm gap left
  split
  · omega
  · omega
theorem frm_short {p : Nat} {o : Bool} {c : List UInt8} (h : c.length ≤ rm p) : frm p o c = List.replicate (gap p) 0 ++ pc (pk o true) c := by
  unfold frm
  rw [lay_short h]
theorem frm_long {p : Nat} {o : Bool} {c : List UInt8} (h : rm p < c.length) : frm p o c = List.replicate (gap p) 0 ++ (pc (pk o false) (c.take (rm p)) ++ frm (p + gap p + 6 + rm p) false (c.drop (rm p))) := by
  have hn := next_gap p
  unfold frm
  rw [lay_long (rm_pos p).1 h, (at_full hn).1, (at_full hn).2]
  rfl

set_option maxHeartbeats 4000000 in
set_option maxRecDepth 100000 in
theorem rput_any (n : Nat) (s : ByteArray) (w : World) (hn : n ≤ 1000000000000) (hs : s.size ≤ 1000000000000) :
    Calls Try.prog 12 #[.int .i64 (n : Nat), .string s] w (GivesS w (put n s.data.toList)) := by
  obtain ⟨P, hP⟩ : ∃ P, put n s.data.toList = P := ⟨_, rfl⟩
  have hPL := put_length_le n s.data.toList
  rw [← Lib.size_eq, hP] at hPL
  have hP2 : [] ++ frm (n + 0) true s.data.toList = P := by rw [← hP]; rfl
  rw [hP]
  have HP := Lib.hid hP2
  have HPL := Lib.hid hPL
  clear hP hP2 hPL
  go_enter Try.func12, Try.ntmps12
  go_wp2
  go_loopw [1, 5, 6] (fun v1 v5 v6 wr => ∃ (q r : ByteArray) (o : Bool), v1 = .string q ∧ v5 = .string r ∧ v6 = .bool o ∧ q.size ≤ s.size ∧ r.data.toList ++ frm (n + r.size) o q.data.toList = P ∧ Below w.heap.size w wr) (fun v1 _ _ _ => strSize v1)
  case atStart => exact ⟨s, ⟨#[]⟩, true, rfl, rfl, rfl, Nat.le_refl _, HP.out, Below.refl _ _⟩
  case round =>
    obtain ⟨q, r, o, rfl, rfl, rfl, hq, hr, hb⟩ := hrel
    have hz := hb.size
    have hrl : r.size ≤ 8000000000000 := by
      have h1 := congrArg List.length hr
      rw [List.length_append, ← Lib.size_eq] at h1
      have := HPL.out
      omega
    obtain ⟨p, hp⟩ : ∃ p, n + r.size = p := ⟨_, rfl⟩
    rw [hp] at hr
    have hpI : (n : Int) + (r.size : Nat) = (p : Nat) := by omega
    obtain ⟨g, hg⟩ : ∃ g, gap p = g := ⟨_, rfl⟩
    have hg6 : g ≤ 6 := by rw [← hg]; exact gap_le p
    obtain ⟨z, hzz⟩ : ∃ z : ByteArray, z.data.toList = List.replicate g 0 := ⟨⟨(List.replicate g 0).toArray⟩, rfl⟩
    have hzs : z.size = g := by rw [Lib.size_eq, hzz, List.length_replicate]
    obtain ⟨r1, hr1⟩ : ∃ x : ByteArray, r ++ z = x := ⟨_, rfl⟩
    have hadd : ∀ wx : World, (Op.stringOp .add r z).run Try.prog wx = .ok (.string r1) wx := by
      intro wx; rw [run_string_add_sum wx r z (by omega), hr1]
    have hr1l : r1.data.toList = r.data.toList ++ List.replicate g 0 := by rw [← hr1, ← hzz]; simp
    have hr1z : r1.size = r.size + g := by rw [← hr1, ByteArray.size_append, hzs]
    obtain ⟨v, hv⟩ : ∃ v, rm p + 6 = v := ⟨_, rfl⟩
    have hvl : left (p + g) = v := by rw [← hg, left_gap, hv]
    have hrm := rm_pos p
    have hv2 : 7 ≤ v ∧ v ≤ 128 := by omega
    have hpI2 : (n : Int) + (r1.size : Nat) = ((p + g : Nat) : Int) := by omega
    have hql : q.data.toList.length = q.size := (Lib.size_eq q).symm
    have HGP := Lib.hid hg
    have HV := Lib.hid hvl
    have HPI := Lib.hid hpI
    have HPI2 := Lib.hid hpI2
    have HZ := Lib.hid hzz
    have hpl : p + g ≤ 4611686018427387904 := by omega
    have hr1b : r1.size ≤ 9000000000000 := by omega
    rcases (show q.size < v - 6 ∨ q.size = v - 6 ∨ v - 6 < q.size from by omega) with hc | hc | hc
    · have hkI : (q.size : Int) = ((q.size : Nat) : Int) := by omega
      obtain ⟨x, hx⟩ : ∃ x : ByteArray, q.extract 0 q.size = x := ⟨_, rfl⟩
      obtain ⟨y, hy⟩ : ∃ x : ByteArray, q.extract q.size q.size = x := ⟨_, rfl⟩
      have hxl : x.data.toList = q.data.toList.take q.size := by rw [← hx, Lib.extract_data, List.drop_zero, Nat.sub_zero]
      have hyl : y.data.toList = q.data.toList.drop q.size := by
        rw [← hy, Lib.extract_data, ← hql, ← List.length_drop, List.take_length]
      have hxz : x.size ≤ 122 := by rw [Lib.size_eq, hxl, List.length_take, hql]; omega
      have hyz : y.size = q.size - q.size := by rw [Lib.size_eq, hyl, List.length_drop, hql]
      have hsl : ∀ wx : World, (Instr.slice 9 (.string q) none (some (.int .i64 (q.size : Int))) none).run Try.prog wx = .ok (.string x) wx := by
        intro wx
        rw [hkI, run_slice_string_h (P := Try.prog) (t := 9) (ht := Try.underlying9) (kh := .i64) (h := (q.size : Nat)) (h0 := by omega) (h2 := by omega)]
        rw [Int.toNat_natCast, hx]
      have hsr : ∀ wx : World, (Instr.slice 9 (.string q) (some (.int .i64 (q.size : Int))) none none).run Try.prog wx = .ok (.string y) wx := by
        intro wx
        rw [hkI, run_slice_string_l (P := Try.prog) (t := 9) (ht := Try.underlying9) (kl := .i64) (l := (q.size : Nat)) (h0 := by omega) (h1 := by omega)]
        rw [Int.toNat_natCast, hy]
      obtain ⟨pq, hpq⟩ : ∃ z : ByteArray, z.data.toList = pc (pk o true) x.data.toList := ⟨⟨(pc (pk o true) x.data.toList).toArray⟩, rfl⟩
      have hpz : pq.size ≤ 128 := by rw [Lib.size_eq, hpq, pc_length, ← Lib.size_eq]; omega
      obtain ⟨r2, hr2⟩ : ∃ x : ByteArray, r1 ++ pq = x := ⟨_, rfl⟩
      have hadd2 : ∀ wx : World, (Op.stringOp .add r1 pq).run Try.prog wx = .ok (.string r2) wx := by
        intro wx; rw [run_string_add_sum wx r1 pq (by omega), hr2]
      have hr2l : r2.data.toList = r.data.toList ++ (List.replicate g 0 ++ pc (pk o true) x.data.toList) := by rw [← hr2, ← hpq, ← List.append_assoc, ← hr1l]; simp
      obtain ⟨KK, hKK⟩ : ∃ KK : Int, KK = ((pk o true).toNat : Nat) := ⟨_, rfl⟩
      have heq : ((q.size : Int) == (q.size : Int)) = true := by simp
      have hfin : r2.data.toList = P := by
        rw [hr2l, ← hr, frm_short (by rw [hql]; omega), hg, hxl, List.take_of_length_le (by rw [hql]; exact Nat.le_refl _)]
      have hy0 : y.toList = [] := by
        rw [Lib.toList_data]
        exact List.eq_nil_of_length_eq_zero (by rw [← Lib.size_eq]; omega)
      have HF := Lib.hid hfin
      have HPQ := Lib.hid hpq
      have HKK := Lib.hid hKK
      clear hfin hr hp hpI hg hzz hr1 hr1l hr1z hv hvl hrm hpI2 hql hkI hx hy hxl hyl hyz hpq hpz hr2 hr2l hKK
      go_wp2_with fail
      refine (rgap_int _ p g _ (by omega) HPI.out HGP.out).mono ?_
      rintro e w1 ⟨rfl, rfl⟩
      go_wp2_with fail
      refine (rzeros_as g z _ (by omega) HZ.out).mono ?_
      rintro e w2 ⟨rfl, b2⟩
      go_wp2_with fail
      refine (rleft_int _ (p + g) v _ hpl HPI2.out HV.out).mono ?_
      rintro e w3 ⟨rfl, rfl⟩
      have hb2 := hb.trans (b2.mono hz)
      go_wp2_with fail
      go_region_held3 (fun w' => True) (trivial) (first
        | (go_at_call 23; refine (rkind_as _ _ KK _ HKK.out).mono ?_; rintro e w4 ⟨rfl, rfl⟩)
        | (go_at_call 22; refine (rpiece_as _ KK x pq _ HKK.out (Nat.le_trans hxz (by decide)) HPQ.out).mono ?_; rintro e w5 ⟨rfl, b5⟩))
      have hb5 := (hb2.drew).trans (b5.mono hb2.size)
      go_wp2
      go_ret
      exact ⟨r2, rfl, HF.out, hb5⟩
    · have hkI : ((v : Int) - 6) = ((q.size : Nat) : Int) := by omega
      obtain ⟨x, hx⟩ : ∃ x : ByteArray, q.extract 0 q.size = x := ⟨_, rfl⟩
      obtain ⟨y, hy⟩ : ∃ x : ByteArray, q.extract q.size q.size = x := ⟨_, rfl⟩
      have hxl : x.data.toList = q.data.toList.take q.size := by rw [← hx, Lib.extract_data, List.drop_zero, Nat.sub_zero]
      have hyl : y.data.toList = q.data.toList.drop q.size := by
        rw [← hy, Lib.extract_data, ← hql, ← List.length_drop, List.take_length]
      have hxz : x.size ≤ 122 := by rw [Lib.size_eq, hxl, List.length_take, hql]; omega
      have hyz : y.size = q.size - q.size := by rw [Lib.size_eq, hyl, List.length_drop, hql]
      have hsl : ∀ wx : World, (Instr.slice 9 (.string q) none (some (.int .i64 ((v : Int) - 6))) none).run Try.prog wx = .ok (.string x) wx := by
        intro wx
        rw [hkI, run_slice_string_h (P := Try.prog) (t := 9) (ht := Try.underlying9) (kh := .i64) (h := (q.size : Nat)) (h0 := by omega) (h2 := by omega)]
        rw [Int.toNat_natCast, hx]
      have hsr : ∀ wx : World, (Instr.slice 9 (.string q) (some (.int .i64 ((v : Int) - 6))) none none).run Try.prog wx = .ok (.string y) wx := by
        intro wx
        rw [hkI, run_slice_string_l (P := Try.prog) (t := 9) (ht := Try.underlying9) (kl := .i64) (l := (q.size : Nat)) (h0 := by omega) (h1 := by omega)]
        rw [Int.toNat_natCast, hy]
      obtain ⟨pq, hpq⟩ : ∃ z : ByteArray, z.data.toList = pc (pk o true) x.data.toList := ⟨⟨(pc (pk o true) x.data.toList).toArray⟩, rfl⟩
      have hpz : pq.size ≤ 128 := by rw [Lib.size_eq, hpq, pc_length, ← Lib.size_eq]; omega
      obtain ⟨r2, hr2⟩ : ∃ x : ByteArray, r1 ++ pq = x := ⟨_, rfl⟩
      have hadd2 : ∀ wx : World, (Op.stringOp .add r1 pq).run Try.prog wx = .ok (.string r2) wx := by
        intro wx; rw [run_string_add_sum wx r1 pq (by omega), hr2]
      have hr2l : r2.data.toList = r.data.toList ++ (List.replicate g 0 ++ pc (pk o true) x.data.toList) := by rw [← hr2, ← hpq, ← List.append_assoc, ← hr1l]; simp
      obtain ⟨KK, hKK⟩ : ∃ KK : Int, KK = ((pk o true).toNat : Nat) := ⟨_, rfl⟩
      have heq : (((v : Int) - 6) == (q.size : Int)) = true := by rw [beq_iff_eq]; omega
      have hfin : r2.data.toList = P := by
        rw [hr2l, ← hr, frm_short (by rw [hql]; omega), hg, hxl, List.take_of_length_le (by rw [hql]; exact Nat.le_refl _)]
      have hy0 : y.toList = [] := by
        rw [Lib.toList_data]
        exact List.eq_nil_of_length_eq_zero (by rw [← Lib.size_eq]; omega)
      have HF := Lib.hid hfin
      have hc1 : q.size ≤ v - 6 := by omega
      have hc2 : v - 6 ≤ q.size := by omega
      clear hc
      have HPQ := Lib.hid hpq
      have hKK2 : KK = ((pk o (((v : Int) - 6) == (q.size : Int))).toNat : Nat) := by rw [heq]; exact hKK
      have HKK2 := Lib.hid hKK2
      have HKK := Lib.hid hKK
      clear hKK2
      clear hfin hr hp hpI hg hzz hr1 hr1l hr1z hv hvl hrm hpI2 hql hkI hx hy hxl hyl hyz hpq hpz hr2 hr2l hKK
      go_wp2_with fail
      refine (rgap_int _ p g _ (by omega) HPI.out HGP.out).mono ?_
      rintro e w1 ⟨rfl, rfl⟩
      go_wp2_with fail
      refine (rzeros_as g z _ (by omega) HZ.out).mono ?_
      rintro e w2 ⟨rfl, b2⟩
      go_wp2_with fail
      refine (rleft_int _ (p + g) v _ hpl HPI2.out HV.out).mono ?_
      rintro e w3 ⟨rfl, rfl⟩
      have hb2 := hb.trans (b2.mono hz)
      go_wp2_with fail
      go_region_held3 (fun w' => True) (trivial) (first
        | (go_at_call 23; refine (rkind_as o true KK _ HKK.out).mono ?_; rintro e w4 ⟨rfl, rfl⟩)
        | (go_at_call 22; refine (rpiece_as _ KK x pq _ HKK.out (Nat.le_trans hxz (by decide)) HPQ.out).mono ?_; rintro e w5 ⟨rfl, b5⟩))
      have hb5 := (hb2.drew).trans (b5.mono hb2.size)
      go_wp2
      go_ret
      exact ⟨r2, rfl, HF.out, hb5⟩
    · have hkI : ((v : Int) - 6) = ((v - 6 : Nat) : Int) := by omega
      obtain ⟨x, hx⟩ : ∃ x : ByteArray, q.extract 0 (v - 6) = x := ⟨_, rfl⟩
      obtain ⟨y, hy⟩ : ∃ x : ByteArray, q.extract (v - 6) q.size = x := ⟨_, rfl⟩
      have hxl : x.data.toList = q.data.toList.take (v - 6) := by rw [← hx, Lib.extract_data, List.drop_zero, Nat.sub_zero]
      have hyl : y.data.toList = q.data.toList.drop (v - 6) := by
        rw [← hy, Lib.extract_data, ← hql, ← List.length_drop, List.take_length]
      have hxz : x.size ≤ 122 := by rw [Lib.size_eq, hxl, List.length_take, hql]; omega
      have hyz : y.size = q.size - (v - 6) := by rw [Lib.size_eq, hyl, List.length_drop, hql]
      have hsl : ∀ wx : World, (Instr.slice 9 (.string q) none (some (.int .i64 ((v : Int) - 6))) none).run Try.prog wx = .ok (.string x) wx := by
        intro wx
        rw [hkI, run_slice_string_h (P := Try.prog) (t := 9) (ht := Try.underlying9) (kh := .i64) (h := ((v - 6) : Nat)) (h0 := by omega) (h2 := by omega)]
        rw [Int.toNat_natCast, hx]
      have hsr : ∀ wx : World, (Instr.slice 9 (.string q) (some (.int .i64 ((v : Int) - 6))) none none).run Try.prog wx = .ok (.string y) wx := by
        intro wx
        rw [hkI, run_slice_string_l (P := Try.prog) (t := 9) (ht := Try.underlying9) (kl := .i64) (l := ((v - 6) : Nat)) (h0 := by omega) (h1 := by omega)]
        rw [Int.toNat_natCast, hy]
      obtain ⟨pq, hpq⟩ : ∃ z : ByteArray, z.data.toList = pc (pk o false) x.data.toList := ⟨⟨(pc (pk o false) x.data.toList).toArray⟩, rfl⟩
      have hpz : pq.size ≤ 128 := by rw [Lib.size_eq, hpq, pc_length, ← Lib.size_eq]; omega
      obtain ⟨r2, hr2⟩ : ∃ x : ByteArray, r1 ++ pq = x := ⟨_, rfl⟩
      have hadd2 : ∀ wx : World, (Op.stringOp .add r1 pq).run Try.prog wx = .ok (.string r2) wx := by
        intro wx; rw [run_string_add_sum wx r1 pq (by omega), hr2]
      have hr2l : r2.data.toList = r.data.toList ++ (List.replicate g 0 ++ pc (pk o false) x.data.toList) := by rw [← hr2, ← hpq, ← List.append_assoc, ← hr1l]; simp
      obtain ⟨KK, hKK⟩ : ∃ KK : Int, KK = ((pk o false).toNat : Nat) := ⟨_, rfl⟩
      have heq : (((v : Int) - 6) == (q.size : Int)) = false := by rw [beq_eq_false_iff_ne]; omega
      have hfin : r2.data.toList ++ frm (n + r2.size) false y.data.toList = P := by
        have hr2z : n + r2.size = p + gap p + 6 + rm p := by
          rw [Lib.size_eq, hr2l, List.length_append, List.length_append, List.length_replicate, pc_length, ← Lib.size_eq, hxl, List.length_take, hql, hg]
          omega
        have e := frm_long (p := p) (o := o) (c := q.data.toList) (by rw [hql]; omega)
        rw [hr2z, hr2l, ← hr, e, hg, hxl, hyl, show v - 6 = rm p from by omega, List.append_assoc, List.append_assoc]
      have hy0 : y.toList ≠ [] := by
        rw [Lib.toList_data]
        intro e
        have := congrArg List.length e
        rw [← Lib.size_eq, List.length_nil] at this
        omega
      have hy1 : (y.toList == []) = false := by simpa using hy0
      have hy2 : y.toList.isEmpty = false := by simpa using hy0
      have hyq : y.size < q.size := by omega
      have HF := Lib.hid hfin
      have HPQ := Lib.hid hpq
      have hKK2 : KK = ((pk o (((v : Int) - 6) == (q.size : Int))).toNat : Nat) := by rw [heq]; exact hKK
      have HKK2 := Lib.hid hKK2
      have HKK := Lib.hid hKK
      clear hKK2
      clear hfin hr hp hpI hg hzz hr1 hr1l hr1z hv hvl hrm hpI2 hql hkI hx hy hxl hyl hyz hpq hpz hr2 hr2l hKK
      go_wp2_with fail
      refine (rgap_int _ p g _ (by omega) HPI.out HGP.out).mono ?_
      rintro e w1 ⟨rfl, rfl⟩
      go_wp2_with fail
      refine (rzeros_as g z _ (by omega) HZ.out).mono ?_
      rintro e w2 ⟨rfl, b2⟩
      go_wp2_with fail
      refine (rleft_int _ (p + g) v _ hpl HPI2.out HV.out).mono ?_
      rintro e w3 ⟨rfl, rfl⟩
      have hb2 := hb.trans (b2.mono hz)
      go_wp2_with fail
      go_region_held3 (fun w' => True) (trivial) (first
        | (go_at_call 23; refine (rkind_as o false KK _ HKK.out).mono ?_; rintro e w4 ⟨rfl, rfl⟩)
        | (go_at_call 22; refine (rpiece_as _ KK x pq _ HKK.out (Nat.le_trans hxz (by decide)) HPQ.out).mono ?_; rintro e w5 ⟨rfl, b5⟩))
      have hb5 := (hb2.drew).trans (b5.mono hb2.size)
      go_wp2
      go_roundw
      case rel => exact ⟨y, r2, false, rfl, rfl, rfl, by omega, HF.out, hb5⟩
      case measure => simp [strSize]; omega
end Go.Proofs.Ytcihgnkmikhboaa
