/-
  Contracts of package order, second part: get, Int, GetInt, Text.
-/
import Derived.Test.YtkahcblonfbdaaaOr1
import Derived.Lib.ConvBytes
import Derived.Laws.Bits64b
set_option linter.unusedVariables false
namespace Go.Proofs.Ytkahcblonfbdaaa
open Go Go.RowKit

theorem vl_step (a : Nat) (b : UInt8) (h : a < 72057594037927936) : bits BinOp.or IntKind.u64 (IntKind.u64.wrap ((a : Int) * 256)) (b.toNat : Int) = ((a * 256 + b.toNat : Nat) : Int) := by
  have hb := b.toNat_lt
  rw [IntWalk.u64_in _ (by omega), show (a : Int) * 256 = ((a * 256 : Nat) : Int) from by omega, bits_or_u64_nat _ _ (by omega) (by omega), or_byte a b.toNat (by omega)]
theorem vl_small (l : List UInt8) (k : Nat) (h : k ≤ 7) : vl (l.take k) < 72057594037927936 := by
  have h1 := vl_lt (l.take k)
  have h2 : (l.take k).length ≤ 7 := by rw [List.length_take]; omega
  have h3 : 256 ^ (l.take k).length ≤ 256 ^ 7 := Nat.pow_le_pow_right (by omega) h2
  have h4 : (256 : Nat) ^ 7 = 72057594037927936 := rfl
  omega

set_option maxHeartbeats 1000000 in
theorem get_any (A : Option Addr) (n c B : Nat) (l : List UInt8) (w : World) (h : Rd w B A n l) (hn : n ≤ 8) :
    Calls Try.prog 26 #[.slice A n c] w fun e w' => e = .returned (.int .u64 (vl l : Nat)) ∧ w = w' := by
  have hl := h.1
  have HL := Lib.hid hl
  clear hl
  go_enter Try.func26, Try.ntmps26
  go_wp2
  go_loop [3, 8] (fun v i => ∃ k : Nat, k ≤ n ∧ i = .int .i64 k ∧ v = .int .u64 (vl (l.take k) : Nat)) (fun _ i => n - (intOf i).toNat)
  case atStart => exact ⟨0, Nat.zero_le _, rfl, rfl⟩
  case round =>
    obtain ⟨k, hk, rfl, rfl⟩ := hrel
    by_cases hlt : k < n
    · obtain ⟨ad, rfl, _, hc⟩ := h.at_ hlt
      have hkl : k < l.length := by rw [HL.out]; exact hlt
      have hck := hc k hkl
      have hst : vl (l.take (k + 1)) = vl (l.take k) * 256 + l[k].toNat := by
        rw [List.take_succ_eq_append_getElem hkl, vl_snoc]
      have hv := vl_small l k (by omega)
      have hbk := l[k].toNat_lt
      have HC := Lib.hid hc
      have HS := Lib.hid hst
      have HV := Lib.hid hv
      clear hc hst hv
      go_wp2
      go_round
      case rel => exact ⟨k + 1, by omega, by go_num, by rw [vl_step _ _ HV.out, HS.out]⟩
      case measure => simp [intOf]; omega
    · obtain rfl : k = n := by omega
      go_wp2
      go_ret
      refine ⟨?_, rfl⟩
      show Ending.returned (.int .u64 ((vl (l.take k) : Nat) : Int)) = _
      rw [List.take_of_length_le (by rw [HL.out]; exact Nat.le_refl _)]
/-- A whole number as eight bytes. -/
def intL (v : Int) : List UInt8 := be (v + 9223372036854775808).toNat 8

set_option maxHeartbeats 1000000 in
theorem int_any (v : Int) (w : World) (h1 : -9223372036854775808 ≤ v) (h2 : v ≤ 9223372036854775807) :
    Calls Try.prog 13 #[.int .i64 v] w (GivesS w (intL v)) := by
  obtain ⟨u, hu⟩ : ∃ u : Nat, (v + 9223372036854775808).toNat = u := ⟨_, rfl⟩
  have hul : u < 18446744073709551616 := by omega
  have e : IntKind.u64.wrap (IntKind.u64.wrap v + 9223372036854775808) = (u : Int) := by
    rw [← hu]; simp only [IntKind.wrap_u64]; omega
  have HE := Lib.hid e
  have HU := Lib.hid hu
  clear e hu
  go_enter Try.func13, Try.ntmps13
  go_wp2_with fail
  rw [HE.out]
  refine (put_any (.slice none 0 0) 0 8 u [] w.heap.size _ (World.ownsRow_nil _ _ _ _) (Nat.le_refl _) hul (by omega) (by omega)).mono ?_
  rintro e w1 ⟨s, rfl, ho, hb⟩
  obtain ⟨A, c, rfl, g1, g2, g3, g4⟩ := Rd.of_own ho
  have hcv := cv_string g4 c
  go_wp2
  go_ret
  exact ⟨_, rfl, by simp [intL, HU.out], hb⟩

theorem bytesWorld_below (w : World) (e : TypeId) (s : ByteArray) : Below w.heap.size w (Lib.bytesWorld w e s) :=
  ⟨rfl, rfl, rfl, by rw [Lib.bytesWorld_size]; omega, fun k hk => Lib.bytesWorld_at_old w e s k hk⟩
theorem bytesWorld_rd (w : World) (e : TypeId) (s : ByteArray) : Rd (Lib.bytesWorld w e s) (w.heap.size + 1) (some ⟨w.heap.size, 0, none⟩) s.size s.data.toList := by
  refine ⟨(Lib.size_eq s).symm, fun _ => ⟨_, rfl, Nat.lt_succ_self _, fun j hj => ?_⟩⟩
  rw [Addr.add_lit, Nat.zero_add, Lib.bytesWorld_cell w e s j (by rw [Lib.size_eq]; exact hj)]
  rw [List.getD_eq_getElem?_getD, List.getElem?_eq_getElem hj]
  rfl

set_option maxHeartbeats 1000000 in
theorem getInt_no (s : ByteArray) (w : World) (h : s.size ≠ 8) (hs : s.size ≤ maxLen) :
    Calls Try.prog 19 #[.string s] w fun e w' => e = .returned (.tuple #[.int .i64 0, .bool false]) ∧ Below w.heap.size w w' := by
  have hb : ((s.size : Int) != 8) = true := by rw [bne_iff_ne]; omega
  go_enter Try.func19, Try.ntmps19
  go_wp2
  go_ret2
  exact ⟨rfl, Below.refl _ _⟩

set_option maxHeartbeats 1000000 in
theorem getInt_yes (s : ByteArray) (w : World) (h : s.size = 8) :
    Calls Try.prog 19 #[.string s] w fun e w' => e = .returned (.tuple #[.int .i64 ((vl s.data.toList : Nat) - 9223372036854775808), .bool true]) ∧ Below w.heap.size w w' := by
  have hb : ((s.size : Int) != 8) = false := by rw [bne_eq_false_iff_eq]; omega
  have hcv := Lib.run_convert_string_bytes (P := Try.prog) w 9 22 5 s Try.underlying9 Try.underlying22 Try.underlying5
  have hlt := vl_lt s.data.toList
  rw [← Lib.size_eq, h, show (256 : Nat) ^ 8 = 18446744073709551616 from rfl] at hlt
  obtain ⟨u, hu⟩ : ∃ u : Nat, vl s.data.toList = u := ⟨_, rfl⟩
  rw [hu] at hlt
  have e : wrap64 (IntKind.u64.wrap ((u : Int) - 9223372036854775808)) = (u : Int) - 9223372036854775808 := by
    simp only [IntKind.wrap_u64, wrap64]; omega
  have HU := Lib.hid hu
  have HE := Lib.hid e
  have HS := Lib.hid h
  clear e hu h
  go_enter Try.func19, Try.ntmps19
  go_wp2_with fail
  refine (get_any _ _ _ (w.heap.size + 1) s.data.toList _ (bytesWorld_rd w _ s) (by have := HS.out; omega)).mono ?_
  rintro e w1 ⟨rfl, rfl⟩
  rw [HU.out]
  go_wp2
  go_ret2
  refine ⟨?_, bytesWorld_below w _ s⟩
  show Ending.returned (.tuple #[.int .i64 (wrap64 (IntKind.u64.wrap ((u : Int) - 9223372036854775808))), .bool true]) = _
  rw [HE.out, ← HU.out]
theorem esc_snoc0 (l : List UInt8) (i : Nat) (h : i < l.length) (h0 : l[i] = 0) : esc (l.take (i + 1)) = esc (l.take i) ++ [0] ++ [255] := by
  rw [List.take_succ_eq_append_getElem h, esc_append, h0]
  simp [esc]
theorem esc_snoc (l : List UInt8) (i : Nat) (h : i < l.length) (h0 : l[i] ≠ 0) : esc (l.take (i + 1)) = esc (l.take i) ++ [l[i]] := by
  rw [List.take_succ_eq_append_getElem h, esc_append]
  simp [esc, h0]

set_option maxHeartbeats 2000000 in
theorem text_any (A : Option Addr) (n c B : Nat) (l : List UInt8) (s : ByteArray) (w : World) (h : Rd w B A n l) (hB : B ≤ w.heap.size) (hn : n ≤ c) (hc : c ≤ maxLen) (hsz : n ≤ 17592186044416) (hs : s.size ≤ 17592186044416) :
    Calls Try.prog 11 #[.slice A n c, .string s] w (GivesB w (l ++ txtL s.data.toList)) := by
  have hl : s.data.toList.length = s.size := (Lib.size_eq s).symm
  have HL := Lib.hid hl
  clear hl
  go_enter Try.func11, Try.ntmps11
  go_wp2_with fail
  refine (full_any A n c _ hn hc).mono ?_
  rintro e w1 ⟨rfl, rfl⟩
  go_wp2
  go_loopw [0, 10] (fun v i wr => ∃ (k m : Nat) (r : List UInt8), i = .int .i64 k ∧ k ≤ s.size ∧ Free w v m r wr ∧ m ≤ n + 2 * k ∧ r = l ++ esc (s.data.toList.take k)) (fun _ i _ => s.size - (intOf i).toNat)
  case atStart => exact ⟨0, n, l, rfl, Nat.zero_le _, Free.full h hB, by omega, by simp [esc]⟩
  case round =>
    obtain ⟨k, m, r, rfl, hk, hf, hm, hr⟩ := hrel
    have HR := Lib.hid hr
    clear hr
    by_cases hlt : k < s.size
    · have hkl : k < s.data.toList.length := by rw [HL.out]; exact hlt
      have ek : s.data.toList[k] = s[k] := rfl
      have HEK := Lib.hid ek
      clear ek
      by_cases h0 : s[k] = 0
      · have hb : ((s[k].toNat : Int) == 0) = true := by rw [h0]; rfl
        have hst := esc_snoc0 s.data.toList k hkl (by rw [HEK.out]; exact h0)
        have HS := Lib.hid hst
        have H0 := Lib.hid h0
        clear hst h0
        go_wp2_with (at_builtin; refine wpList_appFree rfl (.tmp 13) _ rfl w _ m r rfl (hf.alloc _) (wr.heap.size + 1) ⟨wr.heap.size, 0, none⟩ 1 1 [s[k]] rfl (Rd.one _ _ _ rfl) (by omega) ?c2 ?_)
        case c2 => omega
        intro v1 w1 ho1 hb1
        go_wp2_with (at_builtin; refine wpList_appFree rfl (.tmp 23) _ rfl w _ (m + 1) _ rfl ((Free.own hb1 ho1).alloc _) (w1.heap.size + 1) ⟨w1.heap.size, 0, none⟩ 1 1 [255] rfl (Rd.one _ _ _ rfl) (by omega) ?c3 ?_)
        case c3 => omega
        intro v2 w2 ho2 hb2
        go_wp2
        go_roundw
        case rel => exact ⟨k + 1, m + 1 + 1, _, by go_num, by omega, Free.own hb2 ho2, by omega, by rw [HS.out, HR.out, H0.out]; simp⟩
        case measure => simp [intOf]; omega
      · have hb : ((s[k].toNat : Int) == 0) = false := by
          rw [beq_eq_false_iff_ne]
          intro h1
          exact h0 (UInt8.toNat_inj.1 (by rw [show s[k].toNat = 0 from by omega]; rfl))
        have hst := esc_snoc s.data.toList k hkl (by rw [HEK.out]; exact h0)
        have HS := Lib.hid hst
        clear hst h0
        go_wp2_with (at_builtin; refine wpList_appFree rfl (.tmp 13) _ rfl w _ m r rfl (hf.alloc _) (wr.heap.size + 1) ⟨wr.heap.size, 0, none⟩ 1 1 [s[k]] rfl (Rd.one _ _ _ rfl) (by omega) ?c2 ?_)
        case c2 => omega
        intro v1 w1 ho1 hb1
        go_wp2
        go_roundw
        case rel => exact ⟨k + 1, m + 1, _, by go_num, by omega, Free.own hb1 ho1, by omega, by rw [HS.out, HR.out, HEK.out, List.append_assoc]⟩
        case measure => simp [intOf]; omega
    · obtain rfl : k = s.size := by omega
      go_wp2_with (at_builtin; refine wpList_appFree rfl (.tmp 27) _ rfl w _ m r rfl (hf.alloc _) (wr.heap.size + 1) ⟨wr.heap.size, 0, none⟩ 2 2 [0, 1] rfl (Rd.two _ _ _ _ _ rfl rfl) (by omega) ?c2 ?_)
      case c2 => omega
      intro v1 w1 ho1 hb1
      go_wp2
      go_ret
      refine GivesB.of_own (base := w.heap.size) (n := m + 2) ?_ hb1
      rw [HR.out, List.take_of_length_le (by rw [HL.out]; exact Nat.le_refl _), List.append_assoc] at ho1
      exact ho1
end Go.Proofs.Ytkahcblonfbdaaa
