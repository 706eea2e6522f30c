/-
  The library's contracts that package order leans on: bits.Len64, bytes.IndexByte.
-/
import Derived.Shelf.Strconv.Itoa0
import Derived.Shelf.Bytes.SlIndexAt
import Derived.Shelf.Bytes.IndexByte
import Derived.Test.YtkahcblonfbdaaaSl
set_option linter.unusedVariables false
namespace Go.Proofs.Ytkahcblonfbdaaa
open Go Go.RowKit Go.Shelf Go.Proofs

def lenRen : Go.Shelf.Ren := ⟨fun | 129 => 22 | n => n, fun | 53 => 23 | 3 => 3 | 4 => 4 | 46 => 40 | 5 => 5 | 9 => 9 | n => n, fun | n => n⟩
theorem lenLays : Go.Proofs.Lays.n129 Try.prog lenRen := {
  mixed := by kernel_rfl
  f129 := Try.func22.trans (congrArg some (by kernel_rfl))
  t3 := Try.underlying3
  a3 := Try.isAgg3
  z3 := Try.sizeOf3
  v3 := Try.zeroValue3
  t4 := Try.underlying4
  a4 := Try.isAgg4
  z4 := Try.sizeOf4
  v4 := Try.zeroValue4
  t5 := Try.underlying5
  a5 := Try.isAgg5
  z5 := Try.sizeOf5
  v5 := Try.zeroValue5
  t9 := Try.underlying9
  a9 := Try.isAgg9
  z9 := Try.sizeOf9
  v9 := Try.zeroValue9
  t46 := Try.underlying40
  a46 := Try.isAgg40
  z46 := Try.sizeOf40
  v46 := Try.zeroValue40
  t53 := Try.underlying23
  a53 := Try.isAgg23
  z53 := Try.sizeOf23
  v53 := Try.zeroValue23 }
theorem len64_any (v : Int) (w : World) (h0 : 0 ≤ v) (h1 : v ≤ 18446744073709551615) :
    Calls Try.prog 22 #[.int .u64 v] w fun e w' => e = .returned (.int .i64 (Lib.bitLen v.toNat)) ∧ w = w' :=
  (Any.bits_Len64 lenLays v w h0 h1).mono fun e w' ⟨h, h'⟩ => ⟨h, h'.symm⟩

def ibRen : Go.Shelf.Ren := ⟨fun | 187 => 27 | 255 => 28 | n => n, fun | 37 => 22 | 5 => 5 | 3 => 3 | n => n, fun | n => n⟩
theorem ibLays : Go.Proofs.Lays.n187 Try.prog ibRen := {
  mixed := by kernel_rfl
  f187 := Try.func27.trans (congrArg some (by kernel_rfl))
  f255 := Try.func28.trans (congrArg some (by kernel_rfl))
  t3 := Try.underlying3
  a3 := Try.isAgg3
  z3 := Try.sizeOf3
  v3 := Try.zeroValue3
  t5 := Try.underlying5
  a5 := Try.isAgg5
  z5 := Try.sizeOf5
  v5 := Try.zeroValue5
  t37 := Try.underlying22
  a37 := Try.isAgg22
  z37 := Try.sizeOf22
  v37 := Try.zeroValue22 }

/-- Where the first byte c stands, or -1. -/
def ixB (c : UInt8) : List UInt8 → Int
  | [] => -1
  | d :: l => if d = c then 0 else if ixB c l = -1 then -1 else ixB c l + 1
theorem ixB_cases (c : UInt8) : ∀ l : List UInt8, (ixB c l = -1 ∧ ∀ d ∈ l, d ≠ c) ∨ ∃ p r : List UInt8, l = p ++ c :: r ∧ (∀ d ∈ p, d ≠ c) ∧ ixB c l = (p.length : Nat)
  | [] => Or.inl ⟨rfl, fun d h => by cases h⟩
  | d :: l => by
    by_cases h : d = c
    · exact Or.inr ⟨[], l, by rw [h]; rfl, fun d h => (by cases h), by rw [ixB, if_pos h]; rfl⟩
    · rcases ixB_cases c l with ⟨h1, h2⟩ | ⟨p, r, h1, h2, h3⟩
      · exact Or.inl ⟨by rw [ixB, if_neg h, if_pos h1], fun x hx => by
          rcases List.mem_cons.1 hx with rfl | hx
          · exact h
          · exact h2 x hx⟩
      · refine Or.inr ⟨d :: p, r, by rw [h1]; rfl, fun x hx => ?_, ?_⟩
        · rcases List.mem_cons.1 hx with rfl | hx
          · exact h
          · exact h2 x hx
        · rw [ixB, if_neg h, if_neg (by omega), h3, List.length_cons]; omega
theorem ixB_eq (c : UInt8) : ∀ l : List UInt8, Lib.indexByte l c = ixB c l
  | [] => rfl
  | d :: l => by
    rw [Lib.indexByte, ixB, ixB_eq c l]
    by_cases h : d = c
    · rw [if_pos (by simpa using h), if_pos h]
    · rw [if_neg (by simpa using h), if_neg h]
      by_cases h2 : ixB c l = -1
      · rw [if_pos (by simpa using h2), if_pos h2]
      · rw [if_neg (by simpa using h2), if_neg h2]
/-- bytes.IndexByte, the bytes from anywhere. -/
theorem ix_any (A : Option Addr) (n c : Nat) (l : List UInt8) (B : Nat) (b : UInt8) (w : World) (h : Rd w B A n l) (hn : A = none → c = 0) :
    Calls Try.prog 27 #[.slice A n c, .int .u8 (b.toNat : Nat)] w fun e w' => e = .returned (.int .i64 (ixB b l)) ∧ w = w' := by
  cases A with
  | none =>
    have h0 : n = 0 := by
      rcases Nat.eq_zero_or_pos n with h1 | h1
      · exact h1
      · obtain ⟨ad, e, _⟩ := h.2 h1; cases e
    subst h0
    rw [hn rfl]
    obtain rfl : l = [] := List.eq_nil_of_length_eq_zero h.1
    exact (Any.bytes_IndexByte_nil ibLays _ w).mono fun e w' ⟨h1, h2⟩ => ⟨h1, h2.symm⟩
  | some ad =>
    refine (Any.bytes_IndexByte_at ibLays ad n c (l.map fun x => (x.toNat : Int)) _ w (by rw [List.length_map, h.1]) (fun i hi => ?_)).mono fun e w' ⟨h1, h2⟩ => ⟨?_, h2.symm⟩
    · obtain ⟨ad', e, _, hc⟩ := h.2 (by omega)
      injection e with e
      subst e
      have hi2 : i < l.length := by rw [h.1]; exact hi
      rw [hc i hi2]
      simp [List.getD, hi2]
    · rw [h1, ← ixB_eq]
      congr 4
      · unfold Lib.bytesOf
        rw [List.map_map]
        conv => rhs; rw [← List.map_id l]
        refine List.map_congr_left fun x _ => ?_
        apply UInt8.toNat_inj.1
        have := x.toNat_lt
        simp
      · apply UInt8.toNat_inj.1
        have := b.toNat_lt
        simp
end Go.Proofs.Ytkahcblonfbdaaa
