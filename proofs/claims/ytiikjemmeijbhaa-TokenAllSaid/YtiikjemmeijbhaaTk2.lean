/-
  Contracts of package token, second part: Bytes, Number.
-/
import Derived.Test.YtiikjemmeijbhaaTk1
import Derived.Test.YtiikjemmeijbhaaSl
import Derived.Laws.Bits64b
set_option linter.unusedVariables false
set_option linter.unusedSimpArgs false
namespace Go.Proofs.Ytiikjemmeijbhaa
open Go Go.RowKit

theorem tok_shr (v m : Nat) : (v : Int) / 2 ^ (8 * m) % 256 = ((UInt8.ofNat (v / 256 ^ m)).toNat : Nat) := by
  have e : (2 : Int) ^ (8 * m) = ((256 ^ m : Nat) : Int) := by rw [Int.pow_mul]; simp
  rw [e, UInt8.toNat_ofNat']
  simp

/-- The four bytes when k of them are written. -/
def half (h k : Nat) : List UInt8 := List.replicate (4 - k) 0 ++ be h k
theorem half_length (h k : Nat) (hk : k ≤ 4) : (half h k).length = 4 := by
  unfold half
  rw [List.length_append, List.length_replicate, be_length]
  omega
theorem half_set (h k : Nat) (hk : k < 4) : (half h k).set (3 - k) (UInt8.ofNat (h / 256 ^ k)) = half h (k + 1) := by
  rcases (show k = 0 ∨ k = 1 ∨ k = 2 ∨ k = 3 from by omega) with rfl | rfl | rfl | rfl <;> rfl

theorem half_cells (h k : Nat) (hk : k < 4) : (Lib.byteCells (half h k)).toArray.setIfInBounds (3 - k) (.int .u8 ((h : Int) / 2 ^ (8 * k) % 256)) = (Lib.byteCells (half h (k + 1))).toArray := by
  rw [tok_shr, ← half_set h k hk]
  unfold Lib.byteCells
  rw [List.setIfInBounds_toArray, List.map_set]

set_option maxHeartbeats 1000000 in
theorem bytes_any (t : Int) (w : World) :
    Calls Try.prog 14 #[.int .i64 t] w (GivesS w (be (tcut t) 4)) := by
  obtain ⟨h, hh⟩ : ∃ h, tcut t = h := ⟨_, rfl⟩
  have hlt : h < 2147483647 := by rw [← hh]; exact tcut_lt t
  have HH := Lib.hid hh
  rw [hh]
  clear hh
  have hmk : ∀ w : World, (Instr.makeSlice 30 (.int .i64 4) (.int .i64 4)).run Try.prog w = .ok (.slice (some ⟨w.heap.size, 0, none⟩) 4 4) (w.alloc (.cells #[.int .u8 0, .int .u8 0, .int .u8 0, .int .u8 0] 5)) := fun _ => by kernel_rfl
  go_enter Try.func14, Try.ntmps14
  go_wp2_with fail
  refine (cut_any t _).mono ?_
  rintro e w1 ⟨rfl, rfl⟩
  rw [HH.out]
  go_wp2
  go_loopw [11] (fun i wr => ∃ k : Nat, k ≤ 4 ∧ i = .int .i64 k ∧ wr.heap[w.heap.size]? = some (.cells (Lib.byteCells (half h k)).toArray 5 (0, 0)) ∧ Below w.heap.size w wr) (fun i _ => 4 - (intOf i).toNat)
  case atStart => exact ⟨0, Nat.zero_le _, rfl, heap_alloc_new _ _, (Below.refl _ _).alloc (Nat.le_refl _) _⟩
  case round =>
    obtain ⟨k, hk, rfl, hg, hb⟩ := hrel
    by_cases hlt4 : k < 4
    · have hgn := heap_setCell_same wr w.heap.size (3 - k) _ _ (.int .u8 ((h : Int) / 2 ^ (8 * k) % 256)) hg
      rw [half_cells h k hlt4] at hgn
      have hcell : ∃ u, wr.cell? ⟨w.heap.size, 3 - k, none⟩ = some u := by
        have hz : 3 - k < (Lib.byteCells (half h k)).toArray.size := by
          rw [List.size_toArray, Lib.byteCells_length, half_length h k hk]
          omega
        exact ⟨_, (cell_of_row wr _ _ _ _ _ hg).trans (Array.getElem?_eq_getElem hz)⟩
      obtain ⟨u, hcell⟩ := hcell
      have hfz : wr.frozen? ⟨w.heap.size, 3 - k, none⟩ = false := by simp [World.frozen?, hg]
      have HG := Lib.hid hgn
      clear hg hgn
      go_wp2
      go_roundw
      case rel => exact ⟨k + 1, by omega, by go_num, HG.out, hb.setCell (Nat.le_refl _) _⟩
      case measure => simp [intOf]; omega
    · obtain rfl : k = 4 := by omega
      have hr := Rd.laid (l := half h 4) hg rfl
      rw [half_length h 4 (Nat.le_refl _)] at hr
      have hcv := cv_string hr 4
      clear hg
      go_wp2
      go_ret
      exact ⟨_, rfl, by simp [half], hb⟩

def tnumV (x : Nat × Bool) : Value := .tuple #[.int .i64 (x.1 : Nat), .bool x.2]

theorem bits_or_i64_nat (a b : Nat) (ha : a < 9223372036854775808) (hb : b < 9223372036854775808) :
    bits .or .i64 (a : Int) (b : Int) = ((a ||| b : Nat) : Int) := by
  have hx : a ||| b < 2 ^ 63 := Nat.or_lt_two_pow (by omega) (by omega)
  have h1 : (BitVec.ofInt 64 (a : Int)).toNat = a := by
    rw [BitVec.ofInt_natCast, BitVec.toNat_ofNat]; exact Nat.mod_eq_of_lt (by omega)
  have h2 : (BitVec.ofInt 64 (b : Int)).toNat = b := by
    rw [BitVec.ofInt_natCast, BitVec.toNat_ofNat]; exact Nat.mod_eq_of_lt (by omega)
  show IntKind.i64.wrap ((BitVec.ofInt 64 (a : Int) ||| BitVec.ofInt 64 (b : Int)).toNat : Int) = _
  rw [BitVec.toNat_or, h1, h2, IntKind.wrap_i64]
  omega
theorem tok_byte (a b : Nat) (hb : b < 256) : a * 256 ||| b = a * 256 + b := by
  rw [Nat.mul_comm, show (256 : Nat) = 2 ^ 8 from rfl, Nat.two_pow_add_eq_or_of_lt (by omega)]
theorem tok_or (a : Nat) (b : UInt8) (h : a < 16777216) : bits BinOp.or IntKind.i64 (wrap64 ((a : Int) * 256)) (b.toNat : Int) = ((a * 256 + b.toNat : Nat) : Int) := by
  have hb := b.toNat_lt
  have e : wrap64 ((a : Int) * 256) = ((a * 256 : Nat) : Int) := by unfold wrap64; omega
  rw [e, bits_or_i64_nat _ _ (by omega) (by omega), tok_byte a b.toNat (by omega)]
theorem tok_small (l : List UInt8) (k : Nat) (h : k < 4) : vl (l.take k) < 16777216 := by
  have h1 := vl_lt (l.take k)
  have h2 : (l.take k).length ≤ 3 := by rw [List.length_take]; omega
  have h3 : 256 ^ (l.take k).length ≤ 256 ^ 3 := Nat.pow_le_pow_right (by omega) h2
  have h4 : (256 : Nat) ^ 3 = 16777216 := rfl
  omega

theorem number_no (s : ByteArray) (w : World) (h : s.size ≠ 4) (hs : s.size ≤ maxLen) :
    Calls Try.prog 8 #[.string s] w fun e w' => e = .returned (.tuple #[.int .i64 0, .bool false]) ∧ w = w' := by
  have hb : ((s.size : Int) != 4) = true := by rw [bne_iff_ne]; omega
  go_enter Try.func8, Try.ntmps8
  go_wp2
  go_ret2
  exact ⟨rfl, rfl⟩

set_option maxHeartbeats 2000000 in
set_option maxRecDepth 100000 in
theorem number_four (s : ByteArray) (w : World) (h : s.size = 4) :
    Calls Try.prog 8 #[.string s] w fun e w' => e = .returned (tnumV (tnum s.data.toList)) ∧ w = w' := by
  have hb : ((s.size : Int) != 4) = false := by rw [bne_eq_false_iff_eq]; omega
  have hl : s.data.toList.length = 4 := by rw [← Lib.size_eq, h]
  have hlt := vl_lt s.data.toList
  rw [hl, show (256 : Nat) ^ 4 = 4294967296 from rfl] at hlt
  obtain ⟨u, hu⟩ : ∃ u : Nat, vl s.data.toList = u := ⟨_, rfl⟩
  rw [hu] at hlt
  have HU := Lib.hid hu
  have HS := Lib.hid h
  have h8 : s.size ≤ 4 ∧ 4 ≤ s.size := by omega
  obtain ⟨h81, h82⟩ := h8
  have HL := Lib.hid hl
  clear hu h hl
  go_enter Try.func8, Try.ntmps8
  go_wp2
  go_loop [4, 9] (fun v i => ∃ k : Nat, k ≤ 4 ∧ i = .int .i64 k ∧ v = .int .i64 (vl (s.data.toList.take k) : Nat)) (fun _ i => 4 - (intOf i).toNat)
  case atStart => exact ⟨0, Nat.zero_le _, rfl, rfl⟩
  case round =>
    obtain ⟨k, hk, rfl, rfl⟩ := hrel
    by_cases hlt : k < 4
    · have hks : k < s.size := by omega
      have hkl : k < s.data.toList.length := by rw [HL.out]; exact hlt
      have ek : s.data.toList[k] = s[k] := rfl
      have hst : vl (s.data.toList.take (k + 1)) = vl (s.data.toList.take k) * 256 + s[k].toNat := by
        rw [List.take_succ_eq_append_getElem hkl, vl_snoc, ek]
      have hbk := s[k].toNat_lt
      have HST := Lib.hid hst
      clear hst ek
      go_wp2
      go_round
      case rel => exact ⟨k + 1, by omega, by go_num, by rw [tok_or _ _ (tok_small s.data.toList k hlt), HST.out]⟩
      case measure => simp [intOf]; omega
    · obtain rfl : k = 4 := by omega
      rw [List.take_of_length_le (by rw [HL.out]; exact Nat.le_refl _), HU.out]
      by_cases hr : 2147483647 ≤ u
      · have he : tnum s.data.toList = (0, false) := by
          unfold tnum
          rw [if_neg (by rw [HU.out]; omega)]
        have t1 : decide ((2147483647 : Int) ≤ (u : Int)) = true := by simp; omega
        have HE := Lib.hid he
        clear hr he
        go_wp2
        go_ret2
        exact ⟨by rw [HE.out]; rfl, rfl⟩
      · have he : tnum s.data.toList = (u, true) := by
          unfold tnum
          rw [if_pos ⟨HL.out, by rw [HU.out]; omega⟩, HU.out]
        have t1 : decide ((2147483647 : Int) ≤ (u : Int)) = false := by simp; omega
        have HE := Lib.hid he
        clear hr he
        go_wp2
        go_ret2
        exact ⟨by rw [HE.out]; rfl, rfl⟩

theorem number_any (s : ByteArray) (w : World) (hs : s.size ≤ maxLen) :
    Calls Try.prog 8 #[.string s] w fun e w' => e = .returned (tnumV (tnum s.data.toList)) ∧ w = w' := by
  by_cases h : s.size = 4
  · exact number_four s w h
  · have he : tnum s.data.toList = (0, false) := by
      unfold tnum
      rw [if_neg (by rw [← Lib.size_eq]; omega)]
    rw [he]
    exact number_no s w h hs
theorem number_as (s : ByteArray) (v : Nat) (b : Bool) (w : World) (hs : s.size ≤ maxLen) (h : tnum s.data.toList = (v, b)) :
    Calls Try.prog 8 #[.string s] w fun e w' => e = .returned (.tuple #[.int .i64 (v : Nat), .bool b]) ∧ w = w' := by
  have := number_any s w hs
  rw [h] at this
  exact this
end Go.Proofs.Ytiikjemmeijbhaa
