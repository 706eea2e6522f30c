/-
  Plain words: places on the ring. No program is named here.
-/
import Derived.Test.YtcihgnkmikhboaaOb
set_option linter.unusedVariables false
namespace Go.Proofs.Ytcihgnkmikhboaa
open Go

/-- One byte further on the ring. -/
def tstep (h : Nat) (b : UInt8) : Nat := (h * 257 + b.toNat + 1) % 2147483647
/-- The place of bytes behind a place. -/
def tgo (h : Nat) (l : List UInt8) : Nat := l.foldl tstep h
/-- A number cut to the ring. -/
def tcut (t : Int) : Nat := if t ≤ 0 then 0 else if 2147483646 ≤ t then 2147483646 else t.toNat

theorem tstep_lt (h : Nat) (b : UInt8) : tstep h b < 2147483647 := Nat.mod_lt _ (by omega)
theorem tgo_lt : ∀ (l : List UInt8) (h : Nat), h < 2147483647 → tgo h l < 2147483647
  | [], _, hh => hh
  | b :: l, h, _ => tgo_lt l (tstep h b) (tstep_lt h b)
theorem tgo_append (h : Nat) (a b : List UInt8) : tgo h (a ++ b) = tgo (tgo h a) b := by unfold tgo; rw [List.foldl_append]
theorem tgo_snoc (h : Nat) (a : List UInt8) (b : UInt8) : tgo h (a ++ [b]) = tstep (tgo h a) b := by rw [tgo_append]; rfl
theorem tgo_take (h : Nat) (l : List UInt8) (k : Nat) (hk : k < l.length) : tgo h (l.take (k + 1)) = tstep (tgo h (l.take k)) l[k] := by
  rw [List.take_succ_eq_append_getElem hk, tgo_snoc]
theorem tcut_lt (t : Int) : tcut t < 2147483647 := by
  unfold tcut
  split
  · omega
  · split <;> omega
theorem tcut_of (t : Nat) (h : t < 2147483647) : tcut (t : Nat) = t := by
  unfold tcut
  split
  · omega
  · split <;> omega

theorem tstep_inj (a a' : Nat) (b : UInt8) (h : a < 2147483647) (h' : a' < 2147483647) (e : tstep a b = tstep a' b) : a = a' := by
  unfold tstep at e
  have hb := b.toNat_lt
  omega
theorem tgo_inj : ∀ (l : List UInt8) (a a' : Nat), a < 2147483647 → a' < 2147483647 → tgo a l = tgo a' l → a = a'
  | [], _, _, _, _, e => e
  | b :: l, a, a', h, h', e => tstep_inj a a' b h h' (tgo_inj l _ _ (tstep_lt a b) (tstep_lt a' b) e)
theorem tstep_other (a : Nat) (b c : UInt8) (h : b ≠ c) : tstep a b ≠ tstep a c := by
  intro e
  unfold tstep at e
  have hb := b.toNat_lt
  have hc := c.toNat_lt
  exact h (UInt8.toNat_inj.1 (by omega))
/-- One byte turned is told. -/
theorem tgo_turned (h : Nat) (p q : List UInt8) (b c : UInt8) (hbc : b ≠ c) : tgo h (p ++ b :: q) ≠ tgo h (p ++ c :: q) := by
  intro e
  rw [tgo_append, tgo_append] at e
  exact tstep_other _ b c hbc (tgo_inj q _ _ (tstep_lt _ _) (tstep_lt _ _) e)

/-- Four bytes as a place. -/
def tnum (l : List UInt8) : Nat × Bool := if l.length = 4 ∧ vl l < 2147483647 then (vl l, true) else (0, false)
theorem tnum_be (t : Nat) (h : t < 2147483647) : tnum (be t 4) = (t, true) := by
  have e : vl (be t 4) = t := by rw [vl_be]; exact Nat.mod_eq_of_lt (by omega)
  unfold tnum
  rw [if_pos ⟨be_length t 4, by rw [e]; exact h⟩, e]
end Go.Proofs.Ytcihgnkmikhboaa
