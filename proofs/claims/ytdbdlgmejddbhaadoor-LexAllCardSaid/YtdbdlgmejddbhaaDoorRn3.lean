/-
  Contracts of package runes that make texts: Quote, Unquote.
-/
import Derived.Test.YtdbdlgmejddbhaaDoorRn2
import Derived.Test.YtdbdlgmejddbhaaDoorBld
set_option linter.unusedVariables false
namespace Go.Proofs.YtdbdlgmejddbhaaDoor
open Go Go.RowKit

/-- A code point below 128 is one byte; else no byte of it is that number. -/
theorem low_width (s : ByteArray) (p a : Nat) (ha : a < 128) : ((Utf8.decode s p).1 = a → (Utf8.decode s p).2 = 1 ∧ bt s p = a) ∧
    ((Utf8.decode s p).1 ≠ a → ∀ j, j < (Utf8.decode s p).2 → bt s (p + j) ≠ a) := by
  have hc := decode_cases s p
  unfold goesOn at hc
  rcases hc with ⟨h0, e⟩ | ⟨h0, h1, h2, e⟩ | ⟨h0, h1, h2, h3, c, hc, h4, h5, e⟩ | ⟨h0, h1, h2, h3, h4, c, hc, h5, h6, e⟩ | ⟨h0, e, h1, h2, h3⟩
  all_goals rw [e]; dsimp only
  all_goals refine ⟨fun hx => ⟨by omega, by omega⟩, fun hx j hj => ?_⟩
  all_goals
    have hj : j = 0 ∨ j = 1 ∨ j = 2 ∨ j = 3 := by omega
    rcases hj with rfl | rfl | rfl | rfl
    all_goals first | omega | (rw [Nat.add_zero]; omega)

/-- The bytes of the code point at p. -/
def piece (s : ByteArray) (p : Nat) : List UInt8 := (s.data.toList.drop p).take (Utf8.decode s p).2
theorem piece_mem (s : ByteArray) (p : Nat) (hp : p < s.size) (c : UInt8) (hc : c ∈ piece s p) : ∃ j, j < (Utf8.decode s p).2 ∧ bt s (p + j) = c.toNat := by
  unfold piece at hc
  obtain ⟨j, hj, e⟩ := List.mem_iff_getElem.1 hc
  simp only [List.length_take, List.length_drop] at hj
  have hl : s.data.toList.length = s.size := by rw [Lib.size_eq]
  refine ⟨j, by omega, ?_⟩
  rw [bt_at s (p + j) (by omega), ← e]
  simp
theorem piece_low (s : ByteArray) (p a : Nat) (hp : p < s.size) (ha : a < 128) (hr : (Utf8.decode s p).1 = a) : piece s p = [UInt8.ofNat a] := by
  have hw := (low_width s p a ha).1 hr
  have hl : s.data.toList.length = s.size := by rw [Lib.size_eq]
  have hb := bt_at s p hp
  unfold piece
  rw [hw.1, List.drop_eq_getElem_cons (by omega)]
  simp only [List.take_succ_cons, List.take_zero, List.cons.injEq, and_true]
  apply UInt8.toNat_inj.1
  rw [← hb, hw.2]
  simp
  omega
theorem piece_other (s : ByteArray) (p a : Nat) (hp : p < s.size) (ha : a < 128) (hr : (Utf8.decode s p).1 ≠ a) : ∀ c ∈ piece s p, c ≠ UInt8.ofNat a := by
  intro c hc e
  obtain ⟨j, hj, hb⟩ := piece_mem s p hp c hc
  refine (low_width s p a ha).2 hr j hj ?_
  rw [hb, e]
  simp
  omega

end Go.Proofs.YtdbdlgmejddbhaaDoor
