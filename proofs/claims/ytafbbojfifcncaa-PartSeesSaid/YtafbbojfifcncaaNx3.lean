/-
  A cell by numbers: it may be.
-/
import Derived.Test.YtafbbojfifcncaaNx2
import Derived.Test.YtafbbojfifcncaaCeOk
set_option linter.unusedVariables false
set_option linter.unusedSimpArgs false
namespace Go.Proofs.Ytafbbojfifcncaa
open Go Go.RowKit Go.Joins

theorem xyz_at (i : Int) (i0 : 0 ≤ i) (i1 : i < 3) : ∃ s : ByteArray, s.size = 1 ∧ ∀ wx : World, (Instr.slice 9 (.string ⟨#[120, 121, 122]⟩) (some (.int .i64 i)) (some (.int .i64 (i + 1))) none).run Try.prog wx = .ok (.string s) wx := by
  refine ⟨(⟨#[120, 121, 122]⟩ : ByteArray).extract i.toNat (i + 1).toNat, ?_, fun wx => ?_⟩
  · rw [ByteArray.size_extract]
    show min (i + 1).toNat 3 - i.toNat = 1
    omega
  · rw [run_slice_string_if (P := Try.prog) wx 9 ⟨#[120, 121, 122]⟩ .i64 .i64 i (i + 1) Try.underlying9]
    rw [if_pos ⟨by omega, by show (i + 1) ≤ ((3 : Nat) : Int); omega⟩, if_pos ⟨i0, by omega⟩]

theorem cell_num (q n c B : Nat) (A : Option Addr) (x : Int) (l : List Int) (w : World) (h : LAt w q A n c) (hr : RdZ w B A n (x :: l)) (hnc : n ≤ c) (hc : c ≤ maxLen) (hBq : B ≤ q) (hx : -9223372036854775808 ≤ x ∧ x ≤ 9223372036854775807) :
    Calls Try.prog 83 #[.pointer (some ⟨q, 0, none⟩)] w fun e w' => ∃ (s : ByteArray) (d : Bool) (a b : Int), e = .returned (.agg #[.string s, .bool d, .int .i64 a, .int .i64 b]) ∧ Ce.ok ⟨s, d, a, b⟩ = true ∧ s.size ≤ 1 ∧ ∃ A', LAt w' q A' (n - 1) (c - 1) ∧ RdZ w' B A' (n - 1) l ∧ Kept (fun k => k = q) w w' := by
  have v0 : 0 ≤ x % 1048576 := Int.emod_nonneg _ (by decide)
  have v1 : x % 1048576 < 1048576 := Int.emod_lt_of_pos _ (by decide)
  obtain ⟨v, hv⟩ : ∃ v, x % 1048576 = v := ⟨_, rfl⟩
  rw [hv] at v0 v1
  have td : ∀ (m k : Int), 0 ≤ m → m < 1048576 → 1 ≤ k → 0 ≤ m.tdiv k ∧ m.tdiv k < 1048576 := fun m k h0 h1 hk => by
    rw [Int.tdiv_eq_ediv_of_nonneg h0]
    exact ⟨Int.ediv_nonneg h0 (by omega), Int.lt_of_le_of_lt (Int.ediv_le_self _ h0) h1⟩
  have tm : ∀ (m k : Int), 0 ≤ m → 1 ≤ k → 0 ≤ m.tmod k ∧ m.tmod k < k := fun m k h0 hk => by
    rw [Int.tmod_eq_emod_of_nonneg h0]
    exact ⟨Int.emod_nonneg _ (by omega), Int.emod_lt_of_pos _ (by omega)⟩
  obtain ⟨a0, a1⟩ := tm v 7 v0 (by omega)
  obtain ⟨p0, p1⟩ := td v 7 v0 v1 (by omega)
  by_cases hm : (v.tdiv 7).tmod 4 = 0
  · refine (cell_dead q n c B A x v _ _ _ l w h hr hnc hc hBq hx hv v0 v1 rfl a0 a1 rfl rfl hm p0 p1).mono ?_
    rintro e w' ⟨rfl, hw⟩
    refine ⟨_, _, _, _, rfl, ?_, by decide, hw⟩
    unfold Ce.ok stm
    simp only
    rw [if_neg (by omega), if_neg (by simp; omega)]
    exact same_self _
  · obtain ⟨y0, y1⟩ := td v 28 v0 v1 (by omega)
    obtain ⟨i0, i1⟩ := tm (v.tdiv 28) 3 y0 (by omega)
    obtain ⟨z0, z1⟩ := td v 84 v0 v1 (by omega)
    obtain ⟨u0, u1⟩ := td v 336 v0 v1 (by omega)
    obtain ⟨b0, b1⟩ := tm (v.tdiv 336) 10 u0 (by omega)
    obtain ⟨s, hs1, hs⟩ := xyz_at _ i0 i1
    refine (cell_alive q n c B A x v _ _ _ _ _ _ _ _ s l w h hr hnc hc hBq hx hv v0 v1 rfl a0 a1 rfl rfl (by rw [beq_eq_false_iff_ne]; exact hm) p0 p1 rfl y0 y1 rfl i0 i1 rfl z0 z1 rfl rfl u0 u1 _ _ rfl b0 b1 ⟨_, rfl, rfl⟩ hs).mono ?_
    rintro e w' ⟨rfl, hw⟩
    refine ⟨_, _, _, _, rfl, ?_, by omega, hw⟩
    unfold Ce.ok stm
    simp only
    rw [if_neg (by omega), if_neg (by simp; omega), if_neg (by decide), decide_eq_true (show s.size ≤ 100 by omega)]
    split <;> simp <;> omega
end Go.Proofs.Ytafbbojfifcncaa
