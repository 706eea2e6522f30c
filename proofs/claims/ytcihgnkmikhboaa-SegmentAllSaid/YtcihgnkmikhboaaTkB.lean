/-
  Contracts of package token, second part: Bytes; numbers or-ed.
-/
import Derived.Test.YtcihgnkmikhboaaTk1
import Derived.Test.YtcihgnkmikhboaaSl
import Derived.Laws.Bits64b
set_option linter.unusedVariables false
set_option linter.unusedSimpArgs false
namespace Go.Proofs.Ytcihgnkmikhboaa
open Go Go.RowKit

theorem tok_shr (v m : Nat) : (v : Int) / 2 ^ (8 * m) % 256 = ((UInt8.ofNat (v / 256 ^ m)).toNat : Nat) := by
  have e : (2 : Int) ^ (8 * m) = ((256 ^ m : Nat) : Int) := by rw [Int.pow_mul]; simp
  rw [e, UInt8.toNat_ofNat']
  simp

/-- The four bytes when k of them are written. -/
def half (h k : Nat) : List UInt8 := List.replicate (4 - k) 0 ++ be h k
theorem half_length (h k : Nat) (hk : k ≤ 4) : (half h k).length = 4 := by
  unfold half
  rw [List.length_append, List.length_replicate, be_length]
  omega
theorem half_set (h k : Nat) (hk : k < 4) : (half h k).set (3 - k) (UInt8.ofNat (h / 256 ^ k)) = half h (k + 1) := by
  rcases (show k = 0 ∨ k = 1 ∨ k = 2 ∨ k = 3 from by omega) with rfl | rfl | rfl | rfl <;> rfl

theorem half_cells (h k : Nat) (hk : k < 4) : (Lib.byteCells (half h k)).toArray.setIfInBounds (3 - k) (.int .u8 ((h : Int) / 2 ^ (8 * k) % 256)) = (Lib.byteCells (half h (k + 1))).toArray := by
  rw [tok_shr, ← half_set h k hk]
  unfold Lib.byteCells
  rw [List.setIfInBounds_toArray, List.map_set]

set_option maxHeartbeats 1000000 in
theorem bytes_any (t : Int) (w : World) :
    Calls Try.prog 29 #[.int .i64 t] w (GivesS w (be (tcut t) 4)) := by
  obtain ⟨h, hh⟩ : ∃ h, tcut t = h := ⟨_, rfl⟩
  have hlt : h < 2147483647 := by rw [← hh]; exact tcut_lt t
  have HH := Lib.hid hh
  rw [hh]
  clear hh
  have hmk : ∀ w : World, (Instr.makeSlice 22 (.int .i64 4) (.int .i64 4)).run Try.prog w = .ok (.slice (some ⟨w.heap.size, 0, none⟩) 4 4) (w.alloc (.cells #[.int .u8 0, .int .u8 0, .int .u8 0, .int .u8 0] 5)) := fun _ => by kernel_rfl
  go_enter Try.func29, Try.ntmps29
  go_wp2_with fail
  refine (cut_any t _).mono ?_
  rintro e w1 ⟨rfl, rfl⟩
  rw [HH.out]
  go_wp2
  go_loopw [11] (fun i wr => ∃ k : Nat, k ≤ 4 ∧ i = .int .i64 k ∧ wr.heap[w.heap.size]? = some (.cells (Lib.byteCells (half h k)).toArray 5 (0, 0)) ∧ Below w.heap.size w wr) (fun i _ => 4 - (intOf i).toNat)
  case atStart => exact ⟨0, Nat.zero_le _, rfl, heap_alloc_new _ _, (Below.refl _ _).alloc (Nat.le_refl _) _⟩
  case round =>
    obtain ⟨k, hk, rfl, hg, hb⟩ := hrel
    by_cases hlt4 : k < 4
    · have hgn := heap_setCell_same wr w.heap.size (3 - k) _ _ (.int .u8 ((h : Int) / 2 ^ (8 * k) % 256)) hg
      rw [half_cells h k hlt4] at hgn
      have hcell : ∃ u, wr.cell? ⟨w.heap.size, 3 - k, none⟩ = some u := by
        have hz : 3 - k < (Lib.byteCells (half h k)).toArray.size := by
          rw [List.size_toArray, Lib.byteCells_length, half_length h k hk]
          omega
        exact ⟨_, (cell_of_row wr _ _ _ _ _ hg).trans (Array.getElem?_eq_getElem hz)⟩
      obtain ⟨u, hcell⟩ := hcell
      have hfz : wr.frozen? ⟨w.heap.size, 3 - k, none⟩ = false := by simp [World.frozen?, hg]
      have HG := Lib.hid hgn
      clear hg hgn
      go_wp2
      go_roundw
      case rel => exact ⟨k + 1, by omega, by go_num, HG.out, hb.setCell (Nat.le_refl _) _⟩
      case measure => simp [intOf]; omega
    · obtain rfl : k = 4 := by omega
      have hr := Rd.laid (l := half h 4) hg rfl
      rw [half_length h 4 (Nat.le_refl _)] at hr
      have hcv := cv_string hr 4
      clear hg
      go_wp2
      go_ret
      exact ⟨_, rfl, by simp [half], hb⟩

theorem bits_or_i64_nat (a b : Nat) (ha : a < 9223372036854775808) (hb : b < 9223372036854775808) :
    bits .or .i64 (a : Int) (b : Int) = ((a ||| b : Nat) : Int) := by
  have hx : a ||| b < 2 ^ 63 := Nat.or_lt_two_pow (by omega) (by omega)
  have h1 : (BitVec.ofInt 64 (a : Int)).toNat = a := by
    rw [BitVec.ofInt_natCast, BitVec.toNat_ofNat]; exact Nat.mod_eq_of_lt (by omega)
  have h2 : (BitVec.ofInt 64 (b : Int)).toNat = b := by
    rw [BitVec.ofInt_natCast, BitVec.toNat_ofNat]; exact Nat.mod_eq_of_lt (by omega)
  show IntKind.i64.wrap ((BitVec.ofInt 64 (a : Int) ||| BitVec.ofInt 64 (b : Int)).toNat : Int) = _
  rw [BitVec.toNat_or, h1, h2, IntKind.wrap_i64]
  omega
theorem tok_byte (a b : Nat) (hb : b < 256) : a * 256 ||| b = a * 256 + b := by
  rw [Nat.mul_comm, show (256 : Nat) = 2 ^ 8 from rfl, Nat.two_pow_add_eq_or_of_lt (by omega)]
end Go.Proofs.Ytcihgnkmikhboaa
