/-
  The walk of TokenParts.
-/
import Derived.Test.YtiikjemmeijbhaaTaw
import Derived.Lib.ConvBytes
import Derived.Deep.RegionHeld3
import Derived.Deep.DrawnRows
import Derived.WalkSpells
set_option linter.unusedVariables false
set_option linter.unusedSimpArgs false
namespace Go.Proofs.Ytiikjemmeijbhaa
open Go Go.RowKit
attribute [local go_sem ↓] Go.wp_at_zero Go.wp_at_succ

theorem tparts_below (w : World) (e : TypeId) (s : ByteArray) : Below w.heap.size w (Lib.bytesWorld w e s) :=
  ⟨rfl, rfl, rfl, by rw [Lib.bytesWorld_size]; omega, fun k hk => Lib.bytesWorld_at_old w e s k hk⟩
/-- A byte of a text in a new row. -/
theorem turn_cell (w : World) (e : TypeId) (s : ByteArray) (i : Nat) (hi : i < s.data.toList.length) : (Lib.bytesWorld w e s).cell? ⟨w.heap.size, i, none⟩ = some (.int .u8 (s.data.toList[i].toNat : Nat)) := by
  rw [Lib.bytesWorld_cell w e s i (by rw [Lib.size_eq]; exact hi), List.getD_eq_getElem?_getD, List.getElem?_eq_getElem hi]
  rfl
theorem turn_free (w : World) (e : TypeId) (s : ByteArray) (i : Nat) (hi : i < s.size) : (Lib.bytesWorld w e s).frozen? ⟨w.heap.size, i, none⟩ = false := by
  have h0 := Lib.bytesWorld_at_new w e s
  have hz : s.size ≤ (Lib.bytesCells w e s).size := by
    unfold Lib.bytesCells
    rw [Array.size_append, Array.size_map]
    exact Nat.le_add_right _ _
  simp only [World.frozen?, h0]
  simp
  omega
/-- The bytes of a text in a new row, one of them turned. -/
theorem turn_rd (w : World) (e : TypeId) (s : ByteArray) (i : Nat) (hi : i < s.size) (c : UInt8) :
    Rd ((Lib.bytesWorld w e s).setCell ⟨w.heap.size, i, none⟩ (.int .u8 (c.toNat : Nat))) (w.heap.size + 1) (some ⟨w.heap.size, 0, none⟩) s.size (s.data.toList.set i c) := by
  have hl : s.data.toList.length = s.size := (Lib.size_eq s).symm
  refine ⟨by rw [List.length_set, hl], fun _ => ⟨_, rfl, by show w.heap.size < _; omega, fun j hj => ?_⟩⟩
  have hj2 := hj
  rw [List.length_set, hl] at hj2
  rw [Addr.add_lit, Nat.zero_add]
  by_cases h : i = j
  · subst h
    rw [World.cell?_setCell_same _ _ _ (turn_cell w e s i (by omega)), List.getElem_set_self]
  · rw [World.cell?_setCell_other _ _ _ _ (by simp [h]), turn_cell w e s j (by omega), List.getElem_set_ne (by omega)]

theorem bits_xor_u8_nat (a b : UInt8) : bits BinOp.xor IntKind.u8 (a.toNat : Int) (b.toNat : Int) = ((a ^^^ b).toNat : Nat) := by
  have ha := a.toNat_lt
  have hb := b.toNat_lt
  have hx : a.toNat ^^^ b.toNat < 2 ^ 8 := Nat.xor_lt_two_pow (by omega) (by omega)
  have h1 : (BitVec.ofInt 8 (a.toNat : Int)).toNat = a.toNat := by
    rw [BitVec.ofInt_natCast, BitVec.toNat_ofNat]; exact Nat.mod_eq_of_lt (by omega)
  have h2 : (BitVec.ofInt 8 (b.toNat : Int)).toNat = b.toNat := by
    rw [BitVec.ofInt_natCast, BitVec.toNat_ofNat]; exact Nat.mod_eq_of_lt (by omega)
  show IntKind.u8.wrap ((BitVec.ofInt 8 (a.toNat : Int) ^^^ BitVec.ofInt 8 (b.toNat : Int)).toNat : Int) = _
  have hw : ∀ n : Int, IntKind.u8.wrap n = n % 256 := fun n => by simp [IntKind.wrap, IntKind.bits, IntKind.signed]
  rw [BitVec.toNat_xor, h1, h2, UInt8.toNat_xor, hw]
  omega
theorem xor_other (a b : UInt8) (h : b ≠ 0) : a ^^^ b ≠ a := by
  intro e
  apply h
  have : a ^^^ (a ^^^ b) = a ^^^ a := by rw [e]
  rw [← UInt8.xor_assoc, UInt8.xor_self, UInt8.zero_xor] at this
  exact this
theorem tgo_set (h : Nat) (l : List UInt8) (i : Nat) (hi : i < l.length) (c : UInt8) (hc : c ≠ l[i]) : tgo h (l.set i c) ≠ tgo h l := by
  have e : l = l.take i ++ l[i] :: l.drop (i + 1) := by rw [← List.drop_eq_getElem_cons hi, List.take_append_drop]
  have e2 : l.set i c = l.take i ++ c :: l.drop (i + 1) := List.set_eq_take_append_cons_drop.trans (by rw [if_pos hi])
  rw [e2]
  intro hh
  refine tgo_turned h (l.take i) (l.drop (i + 1)) c l[i] hc ?_
  rw [hh, ← e]

set_option maxHeartbeats 2000000 in
set_option maxRecDepth 100000 in
theorem tparts_none (s qa qb q : ByteArray) (cut at' y T Tk k : Int) (w : World) (hs : s.size ≤ 1000) (HSM : Hid (s.size ≤ maxLen)) (HAM : Hid (qa.size ≤ maxLen)) (HBM : Hid (qb.size ≤ maxLen)) (HQM : Hid (q.size ≤ maxLen))
    (hcut : -9223372036854775808 ≤ cut ∧ cut ≤ 9223372036854775807) (hat : -9223372036854775808 ≤ at' ∧ at' ≤ 9223372036854775807)
    (HK : Hid (cut % ((s.size : Int) + 1) = k)) (hk0 : 0 ≤ k) (hk1 : k ≤ s.size) (hT0 : 0 ≤ T) (hT1 : T < 2147483647)
    (HT : Hid (T = (tgo 1 s.data.toList : Nat))) (HTK : Hid (Tk = (tgo 1 qa.data.toList : Nat))) (HTB : Hid (T = (tgo (tcut Tk) qb.data.toList : Nat)))
    (HQ : Hid (q.data.toList = be (tcut T) 4)) (HQN : Hid (tnum q.data.toList = (T.toNat, true))) (HTV : Hid (T = (T.toNat : Nat)))
    (hsl1 : ∀ wx : World, (Instr.slice 9 (.string s) none (some (.int .i64 k)) none).run Try.prog wx = .ok (.string qa) wx)
    (hsl2 : ∀ wx : World, (Instr.slice 9 (.string s) (some (.int .i64 k)) none none).run Try.prog wx = .ok (.string qb) wx)
    (hz : ((s.size : Int) == 0) = true) :
    Calls Try.prog 4 #[.string s, .int .i64 cut, .int .i64 at', .int .u8 y] w fun e w' => e = .returned (.bool true) ∧ Below w.heap.size w w' := by
  have hbd : decide ((1000 : Int) < s.size) = false := by simp; omega
  have t1 : (T != T) = false := by rw [bne_eq_false_iff_eq]
  have t2 : decide (T < 0) = false := by simp; omega
  have t3 : decide ((2147483647 : Int) ≤ T) = false := by simp; omega
  go_enter Try.func4, Try.ntmps4
  go_wp2_with fail
  refine (place_any cut _ _ (by omega) (by omega) hcut).mono ?_
  rintro e w1 ⟨rfl, rfl⟩
  rw [HK.out]
  go_wp2_with fail
  refine (of_int s T _ HSM.out HT.out).mono ?_
  rintro e w1 ⟨rfl, b1⟩
  go_wp2_with fail
  refine (bytes_as T q _ HQ.out).mono ?_
  rintro e w2 ⟨rfl, b2⟩
  have c2 := b1.trans (b2.mono b1.size)
  go_wp2_with fail
  refine (number_int q T _ true _ HQM.out HQN.out HTV.out).mono ?_
  rintro e w3 ⟨rfl, rfl⟩
  go_wp2_with fail
  go_region_held3 (fun w' => True) (trivial) (first | (go_at_call 10; refine (of_int qa Tk _ HAM.out HTK.out).mono ?_; rintro e w3 ⟨rfl, b3⟩) | (go_at_call 12; refine (more_int Tk qb T _ HBM.out HTB.out).mono ?_; rintro e w4 ⟨rfl, b4⟩))
  have c4 := c2.drew.trans ((b3.mono c2.size).trans (b4.mono (Nat.le_trans c2.size b3.size)))
  clear hsl1 hsl2 t1 t2 t3
  go_wp2_with fail
  refine (awake_any _).mono ?_
  rintro e w5 ⟨rfl, b5⟩
  go_wp2
  go_ret
  exact ⟨rfl, c4.trans (b5.mono c4.size)⟩

set_option maxHeartbeats 2000000 in
set_option maxRecDepth 100000 in
theorem tparts_same (s qa qb q : ByteArray) (cut at' y T Tk k : Int) (w : World) (hs : s.size ≤ 1000) (HSM : Hid (s.size ≤ maxLen)) (HAM : Hid (qa.size ≤ maxLen)) (HBM : Hid (qb.size ≤ maxLen)) (HQM : Hid (q.size ≤ maxLen))
    (hcut : -9223372036854775808 ≤ cut ∧ cut ≤ 9223372036854775807) (hat : -9223372036854775808 ≤ at' ∧ at' ≤ 9223372036854775807)
    (HK : Hid (cut % ((s.size : Int) + 1) = k)) (hk0 : 0 ≤ k) (hk1 : k ≤ s.size) (hT0 : 0 ≤ T) (hT1 : T < 2147483647)
    (HT : Hid (T = (tgo 1 s.data.toList : Nat))) (HTK : Hid (Tk = (tgo 1 qa.data.toList : Nat))) (HTB : Hid (T = (tgo (tcut Tk) qb.data.toList : Nat)))
    (HQ : Hid (q.data.toList = be (tcut T) 4)) (HQN : Hid (tnum q.data.toList = (T.toNat, true))) (HTV : Hid (T = (T.toNat : Nat)))
    (hsl1 : ∀ wx : World, (Instr.slice 9 (.string s) none (some (.int .i64 k)) none).run Try.prog wx = .ok (.string qa) wx)
    (hsl2 : ∀ wx : World, (Instr.slice 9 (.string s) (some (.int .i64 k)) none none).run Try.prog wx = .ok (.string qb) wx)
    (hz : ((s.size : Int) == 0) = false) (hy : y = 0) :
    Calls Try.prog 4 #[.string s, .int .i64 cut, .int .i64 at', .int .u8 y] w fun e w' => e = .returned (.bool true) ∧ Below w.heap.size w w' := by
  subst hy
  have hbd : decide ((1000 : Int) < s.size) = false := by simp; omega
  have t1 : (T != T) = false := by rw [bne_eq_false_iff_eq]
  have t2 : decide (T < 0) = false := by simp; omega
  have t3 : decide ((2147483647 : Int) ≤ T) = false := by simp; omega
  go_enter Try.func4, Try.ntmps4
  go_wp2_with fail
  refine (place_any cut _ _ (by omega) (by omega) hcut).mono ?_
  rintro e w1 ⟨rfl, rfl⟩
  rw [HK.out]
  go_wp2_with fail
  refine (of_int s T _ HSM.out HT.out).mono ?_
  rintro e w1 ⟨rfl, b1⟩
  go_wp2_with fail
  refine (bytes_as T q _ HQ.out).mono ?_
  rintro e w2 ⟨rfl, b2⟩
  have c2 := b1.trans (b2.mono b1.size)
  go_wp2_with fail
  refine (number_int q T _ true _ HQM.out HQN.out HTV.out).mono ?_
  rintro e w3 ⟨rfl, rfl⟩
  go_wp2_with fail
  go_region_held3 (fun w' => True) (trivial) (first | (go_at_call 10; refine (of_int qa Tk _ HAM.out HTK.out).mono ?_; rintro e w3 ⟨rfl, b3⟩) | (go_at_call 12; refine (more_int Tk qb T _ HBM.out HTB.out).mono ?_; rintro e w4 ⟨rfl, b4⟩))
  have c4 := c2.drew.trans ((b3.mono c2.size).trans (b4.mono (Nat.le_trans c2.size b3.size)))
  clear hsl1 hsl2 t1 t2 t3
  go_wp2_with fail
  refine (awake_any _).mono ?_
  rintro e w5 ⟨rfl, b5⟩
  go_wp2
  go_ret
  exact ⟨rfl, c4.trans (b5.mono c4.size)⟩

set_option maxHeartbeats 2000000 in
set_option maxRecDepth 100000 in
theorem tparts_turned (s qa qb q : ByteArray) (cut at' y T Tk k : Int) (w : World) (hs : s.size ≤ 1000) (HSM : Hid (s.size ≤ maxLen)) (HAM : Hid (qa.size ≤ maxLen)) (HBM : Hid (qb.size ≤ maxLen)) (HQM : Hid (q.size ≤ maxLen))
    (hcut : -9223372036854775808 ≤ cut ∧ cut ≤ 9223372036854775807) (hat : -9223372036854775808 ≤ at' ∧ at' ≤ 9223372036854775807)
    (HK : Hid (cut % ((s.size : Int) + 1) = k)) (hk0 : 0 ≤ k) (hk1 : k ≤ s.size) (hT0 : 0 ≤ T) (hT1 : T < 2147483647)
    (HT : Hid (T = (tgo 1 s.data.toList : Nat))) (HTK : Hid (Tk = (tgo 1 qa.data.toList : Nat))) (HTB : Hid (T = (tgo (tcut Tk) qb.data.toList : Nat)))
    (HQ : Hid (q.data.toList = be (tcut T) 4)) (HQN : Hid (tnum q.data.toList = (T.toNat, true))) (HTV : Hid (T = (T.toNat : Nat)))
    (hsl1 : ∀ wx : World, (Instr.slice 9 (.string s) none (some (.int .i64 k)) none).run Try.prog wx = .ok (.string qa) wx)
    (hsl2 : ∀ wx : World, (Instr.slice 9 (.string s) (some (.int .i64 k)) none none).run Try.prog wx = .ok (.string qb) wx)
    (p : ByteArray) (m : Nat) (T2 : Int) (b d c : UInt8) (hz : ((s.size : Int) == 0) = false) (hs0 : 0 < s.size) (hy0 : y = (b.toNat : Nat)) (hyb : (((b.toNat : Nat) : Int) == 0) = false) (HM : Hid (at' % (s.size : Int) = (m : Nat))) (hm : m < s.size) (HL : Hid (s.data.toList.length = s.size))
    (HD : Hid (s.data.toList[m]'(by rw [HL.out]; exact hm) = d)) (hx : bits BinOp.xor IntKind.u8 (d.toNat : Int) (b.toNat : Int) = (c.toNat : Nat)) (HP : Hid (p.data.toList = s.data.toList.set m c)) (HPM : Hid (p.size ≤ maxLen))
    (HT2 : Hid (T2 = (tgo 1 p.data.toList : Nat))) (hne : (T2 != T) = true) :
    Calls Try.prog 4 #[.string s, .int .i64 cut, .int .i64 at', .int .u8 y] w fun e w' => e = .returned (.bool true) ∧ Below w.heap.size w w' := by
  subst hy0
  have hbd : decide ((1000 : Int) < s.size) = false := by simp; omega
  have t1 : (T != T) = false := by rw [bne_eq_false_iff_eq]
  have t2 : decide (T < 0) = false := by simp; omega
  have t3 : decide ((2147483647 : Int) ≤ T) = false := by simp; omega
  go_enter Try.func4, Try.ntmps4
  go_wp2_with fail
  refine (place_any cut _ _ (by omega) (by omega) hcut).mono ?_
  rintro e w1 ⟨rfl, rfl⟩
  rw [HK.out]
  go_wp2_with fail
  refine (of_int s T _ HSM.out HT.out).mono ?_
  rintro e w1 ⟨rfl, b1⟩
  go_wp2_with fail
  refine (bytes_as T q _ HQ.out).mono ?_
  rintro e w2 ⟨rfl, b2⟩
  have c2 := b1.trans (b2.mono b1.size)
  go_wp2_with fail
  refine (number_int q T _ true _ HQM.out HQN.out HTV.out).mono ?_
  rintro e w3 ⟨rfl, rfl⟩
  go_wp2_with fail
  go_region_held3 (fun w' => True) (trivial) (first | (go_at_call 10; refine (of_int qa Tk _ HAM.out HTK.out).mono ?_; rintro e w3 ⟨rfl, b3⟩) | (go_at_call 12; refine (more_int Tk qb T _ HBM.out HTB.out).mono ?_; rintro e w4 ⟨rfl, b4⟩))
  have c4 := c2.drew.trans ((b3.mono c2.size).trans (b4.mono (Nat.le_trans c2.size b3.size)))
  clear hsl1 hsl2 t1 t2 t3
  go_wp2_with fail
  refine (place_any at' _ _ (by omega) (by omega) hat).mono ?_
  rintro e w5 ⟨rfl, rfl⟩
  rw [HM.out]
  have hcv := Lib.run_convert_string_bytes (P := Try.prog) w4 9 30 5 s Try.underlying9 Try.underlying30 Try.underlying5
  have hcell := turn_cell w4 5 s m (by rw [HL.out]; exact hm)
  rw [HD.out] at hcell
  have hfree := turn_free w4 5 s m hm
  have hrd := turn_rd w4 5 s m hm c
  have c5 := (c4.trans ((tparts_below w4 5 s).mono c4.size)).setCell (p := ⟨w4.heap.size, m, none⟩) c4.size (.int .u8 (c.toNat : Nat))
  have hcv2 := cv_as hrd (grownCap w4 s.size 0 5) p HP.out
  have HRD := Lib.hid hrd
  clear hrd
  go_wp2_with fail
  refine (of_int p T2 _ HPM.out HT2.out).mono ?_
  rintro e w6 ⟨rfl, b6⟩
  have c6 := c5.trans (b6.mono c5.size)
  go_wp2_with fail
  refine (awake_any _).mono ?_
  rintro e w5 ⟨rfl, b5⟩
  go_wp2
  go_ret
  exact ⟨rfl, c6.trans (b5.mono c6.size)⟩

end Go.Proofs.Ytiikjemmeijbhaa
