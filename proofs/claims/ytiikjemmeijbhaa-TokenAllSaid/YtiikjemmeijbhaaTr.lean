/-
  Contracts of the document's own answers, chapter 3.
-/
import Derived.Test.YtiikjemmeijbhaaTaw
import Derived.Deep.QuietTactic
import Derived.BigQuiet
set_option linter.unusedVariables false
set_option linter.unusedSimpArgs false
namespace Go.Proofs.Ytiikjemmeijbhaa
open Go Go.RowKit

set_option maxHeartbeats 400000 in
theorem rcut_any (t : Int) (w : World) :
    Calls Try.prog 19 #[.int .i64 t] w fun e w' => e = .returned (.int .i64 (tcut t : Nat)) ∧ w = w' := by
  by_cases h1 : 2147483646 < t
  · rw [tcut_hi t (by omega)]
    go_enter Try.func19, Try.ntmps19
    go_wp2
    all_goals go_ret
    all_goals first | exact ⟨rfl, rfl⟩ | (refine ⟨?_, rfl⟩; show Ending.returned (Value.int .i64 _) = _; congr 2; omega)
  by_cases h2 : t < 0
  · rw [tcut_lo t (by omega)]
    go_enter Try.func19, Try.ntmps19
    go_wp2
    all_goals go_ret
    all_goals first | exact ⟨rfl, rfl⟩ | (refine ⟨?_, rfl⟩; show Ending.returned (Value.int .i64 _) = _; congr 2; omega)
  · have e := tcut_in t (by omega) (by omega)
    rw [e]
    go_enter Try.func19, Try.ntmps19
    go_wp2
    all_goals go_ret
    all_goals first | exact ⟨rfl, rfl⟩ | (refine ⟨?_, rfl⟩; show Ending.returned (Value.int .i64 _) = _; congr 2; omega)

set_option maxHeartbeats 1000000 in
theorem rmore_any (t : Int) (s : ByteArray) (w : World) (hs : s.size ≤ maxLen) :
    Calls Try.prog 13 #[.int .i64 t, .string s] w fun e w' => e = .returned (.int .i64 (tgo (tcut t) s.data.toList : Nat)) ∧ w = w' := by
  unfold maxLen at hs
  have hlen : s.data.toList.length = s.size := (Lib.size_eq s).symm
  have HLEN := Lib.hid hlen
  obtain ⟨h, hh⟩ : ∃ h, tcut t = h := ⟨_, rfl⟩
  have hlt : h < 2147483647 := by rw [← hh]; exact tcut_lt t
  have HH := Lib.hid hh
  clear hlen
  rw [hh]
  clear hh
  go_enter Try.func13, Try.ntmps13
  go_wp2_with fail
  refine (rcut_any t _).mono ?_
  rintro e w1 ⟨rfl, rfl⟩
  rw [HH.out]
  go_wp2
  go_loop [5, 6] (fun v i => ∃ k : Nat, k ≤ s.size ∧ i = .int .i64 k ∧ v = .int .i64 (tgo h (s.data.toList.take k) : Nat)) (fun _ i => s.size - (intOf i).toNat)
  case atStart => exact ⟨0, Nat.zero_le _, rfl, rfl⟩
  case round =>
    obtain ⟨k, hk, rfl, rfl⟩ := hrel
    have hgl := tgo_lt (s.data.toList.take k) h hlt
    by_cases hlt : k < s.size
    · have hkl : k < s.data.toList.length := by rw [HLEN.out]; exact hlt
      have hst := tgo_take h s.data.toList k hkl
      have ek : s.data.toList[k] = s[k] := rfl
      rw [ek] at hst
      have hbk := s[k].toNat_lt
      have hsi : ((tgo h (s.data.toList.take (k + 1)) : Nat) : Int) = (257 * ((tgo h (s.data.toList.take k) : Nat) : Int) + (s[k].toNat : Nat) + 1) % 2147483647 := by
        rw [hst]; unfold tstep; omega
      have HST := Lib.hid hsi
      clear hst ek hsi
      go_wp2
      go_round
      case rel => exact ⟨k + 1, by omega, by go_num, by rw [HST.out]⟩
      case measure => simp [intOf]; omega
    · obtain rfl : k = s.size := by omega
      go_wp2
      go_ret
      refine ⟨?_, rfl⟩
      rw [List.take_of_length_le (by rw [HLEN.out]; exact Nat.le_refl _)]
      rfl

theorem rof_any (s : ByteArray) (w : World) (hs : s.size ≤ maxLen) :
    Calls Try.prog 11 #[.string s] w fun e w' => e = .returned (.int .i64 (tgo 1 s.data.toList : Nat)) ∧ w = w' := by
  go_enter Try.func11, Try.ntmps11
  go_wp2_with fail
  refine (rmore_any 1 s _ hs).mono ?_
  rintro e w1 ⟨rfl, rfl⟩
  rw [show tcut 1 = 1 from rfl]
  go_wp2
  go_ret
  exact ⟨rfl, rfl⟩

set_option maxHeartbeats 1000000 in
theorem rbytes_any (t : Int) (w : World) :
    Calls Try.prog 15 #[.int .i64 t] w (GivesS w (be (tcut t) 4)) := by
  obtain ⟨h, hh⟩ : ∃ h, tcut t = h := ⟨_, rfl⟩
  have hlt : h < 2147483647 := by rw [← hh]; exact tcut_lt t
  have HH := Lib.hid hh
  rw [hh]
  clear hh
  go_enter Try.func15, Try.ntmps15
  go_wp2_with fail
  refine (rcut_any t _).mono ?_
  rintro e w1 ⟨rfl, rfl⟩
  rw [HH.out]
  have hrd := Rd.laid (w := w.alloc (.cells #[.int .u8 ((h : Int) / 16777216), .int .u8 ((h : Int) / 65536 % 256), .int .u8 ((h : Int) / 256 % 256), .int .u8 ((h : Int) % 256)] 5)) (g := w.heap.size) (l := be h 4) (heap_alloc_new w _) (by
    have e0 : (h : Int) / 16777216 = ((UInt8.ofNat (h / 256 ^ 3)).toNat : Nat) := by rw [UInt8.toNat_ofNat']; omega
    have e1 : (h : Int) / 65536 % 256 = ((UInt8.ofNat (h / 256 ^ 2)).toNat : Nat) := by rw [UInt8.toNat_ofNat']; omega
    have e2 : (h : Int) / 256 % 256 = ((UInt8.ofNat (h / 256 ^ 1)).toNat : Nat) := by rw [UInt8.toNat_ofNat']; omega
    have e3 : (h : Int) % 256 = ((UInt8.ofNat (h / 256 ^ 0)).toNat : Nat) := by rw [UInt8.toNat_ofNat']; omega
    rw [e0, e1, e2, e3]
    rfl)
  rw [be_length] at hrd
  have hcv := cv_as hrd 4 ⟨(be h 4).toArray⟩ rfl
  have HRD := Lib.hid hrd
  clear hrd
  go_wp2
  go_ret
  exact ⟨_, rfl, rfl, (Below.refl _ _).alloc (Nat.le_refl _) _⟩

set_option maxHeartbeats 1000000 in
set_option maxRecDepth 100000 in
theorem rnumber_no (s : ByteArray) (w : World) (h : s.size ≠ 4) (hs : s.size ≤ maxLen) :
    Calls Try.prog 9 #[.string s] w fun e w' => e = .returned (.tuple #[.int .i64 0, .bool false]) ∧ w = w' := by
  have hb : ((s.size : Int) != 4) = true := by rw [bne_iff_ne]; omega
  go_enter Try.func9, Try.ntmps9
  go_wp2
  go_ret2
  exact ⟨rfl, rfl⟩

theorem or_three (a b c d : Nat) (ha : a < 256) (hb : b < 256) (hc : c < 256) (hd : d < 256) :
    bits .or .i64 ((a : Int) * 16777216) ((b : Int) * 65536) = ((a * 16777216 + b * 65536 : Nat) : Int) ∧
    bits .or .i64 ((a * 16777216 + b * 65536 : Nat) : Int) ((c : Int) * 256) = ((a * 16777216 + b * 65536 + c * 256 : Nat) : Int) ∧
    bits .or .i64 ((a * 16777216 + b * 65536 + c * 256 : Nat) : Int) (d : Int) = ((a * 16777216 + b * 65536 + c * 256 + d : Nat) : Int) := by
  have k : ∀ x y n m : Nat, m = 2 ^ n → y < m → m * x ||| y = m * x + y := by
    intro x y n m hm hy
    subst hm
    rw [Nat.two_pow_add_eq_or_of_lt hy]
  refine ⟨?_, ?_, ?_⟩
  · rw [show (a : Int) * 16777216 = ((16777216 * a : Nat) : Int) from by omega, show (b : Int) * 65536 = ((b * 65536 : Nat) : Int) from by omega, bits_or_i64_nat _ _ (by omega) (by omega), k a (b * 65536) 24 16777216 rfl (by omega)]
    omega
  · rw [show ((a * 16777216 + b * 65536 : Nat) : Int) = ((65536 * (a * 256 + b) : Nat) : Int) from by omega, show (c : Int) * 256 = ((c * 256 : Nat) : Int) from by omega, bits_or_i64_nat _ _ (by omega) (by omega), k (a * 256 + b) (c * 256) 16 65536 rfl (by omega)]
    omega
  · rw [show ((a * 16777216 + b * 65536 + c * 256 : Nat) : Int) = ((256 * (a * 65536 + b * 256 + c) : Nat) : Int) from by omega, bits_or_i64_nat _ _ (by omega) (by omega), k (a * 65536 + b * 256 + c) d 8 256 rfl (by omega)]
    omega
theorem vl_of_four (s : ByteArray) (h : s.size = 4) : vl s.data.toList = s[0].toNat * 16777216 + s[1].toNat * 65536 + s[2].toNat * 256 + s[3].toNat := by
  obtain ⟨⟨l⟩⟩ := s
  have hl : l.length = 4 := by rw [← h]; rfl
  match l, hl with
  | [a, b, c, d], _ =>
    show vl [a, b, c, d] = a.toNat * 16777216 + b.toNat * 65536 + c.toNat * 256 + d.toNat
    simp [vl, vlF]
    omega

set_option maxHeartbeats 2000000 in
set_option maxRecDepth 100000 in
theorem rnumber_four (s : ByteArray) (w : World) (h : s.size = 4) :
    Calls Try.prog 9 #[.string s] w fun e w' => e = .returned (tnumV (tnum s.data.toList)) ∧ Below w.heap.size w w' := by
  have hb : ((s.size : Int) != 4) = false := by rw [bne_eq_false_iff_eq]; omega
  have hl : s.data.toList.length = 4 := by rw [← Lib.size_eq, h]
  have i0 : (0 : Int) < s.size := by omega
  have i1 : (1 : Int) < s.size := by omega
  have i2 : (2 : Int) < s.size := by omega
  have i3 : (3 : Int) < s.size := by omega
  have j0 : 0 < s.size := by omega
  have j1 : 1 < s.size := by omega
  have j2 : 2 < s.size := by omega
  have j3 : 3 < s.size := by omega
  have hv := vl_of_four s h
  obtain ⟨r1, r2, r3⟩ := or_three s[0].toNat s[1].toNat s[2].toNat s[3].toNat s[0].toNat_lt s[1].toNat_lt s[2].toNat_lt s[3].toNat_lt
  have q0 : (s[0].toNat : Int) < 256 := by have := s[0].toNat_lt; omega
  have q1 : (s[1].toNat : Int) < 256 := by have := s[1].toNat_lt; omega
  have q2 : (s[2].toNat : Int) < 256 := by have := s[2].toNat_lt; omega
  have q3 : (s[3].toNat : Int) < 256 := by have := s[3].toNat_lt; omega
  obtain ⟨x1, hx1⟩ : ∃ x : Int, ((s[0].toNat * 16777216 + s[1].toNat * 65536 : Nat) : Int) = x := ⟨_, rfl⟩
  obtain ⟨x2, hx2⟩ : ∃ x : Int, ((s[0].toNat * 16777216 + s[1].toNat * 65536 + s[2].toNat * 256 : Nat) : Int) = x := ⟨_, rfl⟩
  obtain ⟨u, hu⟩ : ∃ x : Int, ((vl s.data.toList : Nat) : Int) = x := ⟨_, rfl⟩
  rw [← hv, hx2, hu] at r3
  rw [hx2, hx1] at r2
  rw [hx1] at r1
  have hR : u < 2147483647 ∧ tnum s.data.toList = (u.toNat, true) ∨ 2147483647 ≤ u ∧ tnum s.data.toList = (0, false) := by
    by_cases hc : u < 2147483647
    · refine Or.inl ⟨hc, ?_⟩
      unfold tnum
      rw [if_pos ⟨hl, by omega⟩, ← hu, Int.toNat_natCast]
    · refine Or.inr ⟨by omega, ?_⟩
      unfold tnum
      rw [if_neg (by omega)]
  have hu0 : 0 ≤ u := by omega
  have H := Lib.hid h
  have HL := Lib.hid hl
  clear h hl hx1 hx2 hu hv
  rcases hR with ⟨hc, he⟩ | ⟨hc, he⟩
  · have HE := Lib.hid he
    clear he
    go_enter Try.func9, Try.ntmps9
    go_wp2_with fail
    go_quiet (fail)
    go_wp2
    go_ret2
    refine ⟨?_, ⟨rfl, rfl, rfl, Nat.le_refl _, fun _ _ => rfl⟩⟩
    rw [HE.out]
    show Ending.returned (Value.tuple #[.int .i64 u, .bool true]) = Ending.returned (.tuple #[.int .i64 (u.toNat : Nat), .bool true])
    rw [Int.toNat_of_nonneg hu0]
  · have HE := Lib.hid he
    clear he
    go_enter Try.func9, Try.ntmps9
    go_wp2_with fail
    go_quiet (fail)
    go_wp2
    go_ret2
    refine ⟨?_, ⟨rfl, rfl, rfl, Nat.le_refl _, fun _ _ => rfl⟩⟩
    rw [HE.out]
    rfl

theorem rnumber_any (s : ByteArray) (w : World) (hs : s.size ≤ maxLen) :
    Calls Try.prog 9 #[.string s] w fun e w' => e = .returned (tnumV (tnum s.data.toList)) ∧ Below w.heap.size w w' := by
  by_cases h : s.size = 4
  · exact rnumber_four s w h
  · have he : tnum s.data.toList = (0, false) := by
      unfold tnum
      rw [if_neg (by rw [← Lib.size_eq]; omega)]
    rw [he]
    refine (rnumber_no s w h hs).mono ?_
    rintro e w' ⟨rfl, rfl⟩
    exact ⟨rfl, Below.refl _ _⟩
end Go.Proofs.Ytiikjemmeijbhaa
