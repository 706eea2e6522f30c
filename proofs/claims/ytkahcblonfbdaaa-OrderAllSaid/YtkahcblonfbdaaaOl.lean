/-
  Plain words: the order of numbers' and texts' bytes. No program is named here.
-/
import Derived.Test.YtkahcblonfbdaaaOb
set_option linter.unusedVariables false
namespace Go.Proofs.Ytkahcblonfbdaaa
open Go

theorem lt_cc (a b : UInt8) (l m : List UInt8) : (a :: l < b :: m) ↔ (a.toNat < b.toNat ∨ (a = b ∧ l < m)) := by
  rw [List.cons_lt_cons_iff, UInt8.lt_iff_toNat_lt]
theorem lt_irr (l : List UInt8) : ¬ l < l := List.lt_irrefl l
theorem u8_ne {a b : UInt8} (h : a ≠ b) : a.toNat ≠ b.toNat := fun e => h (UInt8.toNat_inj.1 e)
theorem u8_pos {a : UInt8} (h : a ≠ 0) : 0 < a.toNat := by
  have := u8_ne h
  have e : (0 : UInt8).toNat = 0 := rfl
  omega

theorem esc_cons (c : UInt8) (l : List UInt8) : esc (c :: l) = if c = 0 then 0 :: 255 :: esc l else c :: esc l := rfl
theorem lt_txt : ∀ (a b u v : List UInt8), (txtL a ++ u < txtL b ++ v) ↔ ((a = b ∧ u < v) ∨ a < b)
  | [], [], u, v => by
    show (0 :: 1 :: u < 0 :: 1 :: v) ↔ _
    rw [lt_cc, lt_cc]
    simp
  | [], c :: b, u, v => by
    have hr : ([] : List UInt8) < c :: b := List.nil_lt_cons c b
    unfold txtL
    rw [esc_cons]
    by_cases h : c = 0
    · rw [if_pos h]
      show (0 :: 1 :: u < 0 :: 255 :: ((esc b ++ [0, 1]) ++ v)) ↔ _
      rw [lt_cc, lt_cc]
      simp only [hr, or_true, iff_true]
      exact Or.inr ⟨trivial, Or.inl (by decide)⟩
    · rw [if_neg h]
      show (0 :: 1 :: u < c :: ((esc b ++ [0, 1]) ++ v)) ↔ _
      rw [lt_cc]
      simp only [hr, or_true, iff_true]
      exact Or.inl (u8_pos h)
  | c :: a, [], u, v => by
    have hr : ¬ (c :: a < ([] : List UInt8)) := List.not_lt_nil _
    unfold txtL
    rw [esc_cons]
    by_cases h : c = 0
    · rw [if_pos h]
      show (0 :: 255 :: ((esc a ++ [0, 1]) ++ u) < 0 :: 1 :: v) ↔ _
      rw [lt_cc, lt_cc]
      simp [hr]
    · rw [if_neg h]
      show (c :: ((esc a ++ [0, 1]) ++ u) < 0 :: 1 :: v) ↔ _
      rw [lt_cc]
      simp [hr, h]
  | c :: a, d :: b, u, v => by
    have ih := lt_txt a b u v
    unfold txtL at ih ⊢
    rw [esc_cons, esc_cons]
    by_cases h : c = d
    · subst h
      by_cases h0 : c = 0
      · rw [if_pos h0, if_pos h0]
        show (0 :: 255 :: ((esc a ++ [0, 1]) ++ u) < 0 :: 255 :: ((esc b ++ [0, 1]) ++ v)) ↔ _
        rw [lt_cc, lt_cc, ih]
        simp
      · rw [if_neg h0, if_neg h0]
        show (c :: ((esc a ++ [0, 1]) ++ u) < c :: ((esc b ++ [0, 1]) ++ v)) ↔ _
        rw [lt_cc, ih]
        simp
    · have hne : ¬ (c :: a = d :: b) := fun e => h (List.cons.inj e).1
      by_cases h0 : c = 0
      · subst h0
        rw [if_pos rfl, if_neg (fun e => h e.symm)]
        show (0 :: 255 :: ((esc a ++ [0, 1]) ++ u) < d :: ((esc b ++ [0, 1]) ++ v)) ↔ _
        rw [lt_cc, lt_cc 0 d a b]
        simp [h]
      · rw [if_neg h0]
        by_cases h1 : d = 0
        · subst h1
          rw [if_pos rfl]
          show (c :: ((esc a ++ [0, 1]) ++ u) < 0 :: 255 :: ((esc b ++ [0, 1]) ++ v)) ↔ _
          rw [lt_cc, lt_cc c 0 a b]
          simp [h]
        · rw [if_neg h1]
          show (c :: ((esc a ++ [0, 1]) ++ u) < d :: ((esc b ++ [0, 1]) ++ v)) ↔ _
          rw [lt_cc, lt_cc c d a b]
          simp [h]
theorem txt_inj (a b u v : List UInt8) (h : txtL a ++ u = txtL b ++ v) : a = b ∧ u = v := by
  have h1 := unesc_txt a u
  have h2 := unesc_txt b v
  rw [h, h2] at h1
  have h3 : b = a := by injection h1 with h1; injection h1
  subst h3
  exact ⟨rfl, List.append_cancel_left h⟩
theorem lt_txt0 (a b : List UInt8) : (txtL a < txtL b) ↔ a < b := by
  have := lt_txt a b [] []
  rw [List.append_nil, List.append_nil] at this
  rw [this]
  simp
theorem txt_eq (a b : List UInt8) : txtL a = txtL b ↔ a = b := by
  refine ⟨fun h => (txt_inj a b [] [] (by rw [h])).1, fun h => by rw [h]⟩

theorem lt_be (v w : Nat) (x y : List UInt8) : ∀ k, (be v k ++ x < be w k ++ y) ↔ (v % 256 ^ k < w % 256 ^ k ∨ (v % 256 ^ k = w % 256 ^ k ∧ x < y))
  | 0 => by simp [be, Nat.mod_one]
  | k + 1 => by
    rw [be, be, List.cons_append, List.cons_append, lt_cc, lt_be v w x y k, ← UInt8.toNat_inj, UInt8.toNat_ofNat', UInt8.toNat_ofNat']
    have e : ∀ u : Nat, u % 256 ^ (k + 1) = u % 256 ^ k + 256 ^ k * (u / 256 ^ k % 256) := fun u => by rw [Nat.pow_succ, Nat.mod_mul]
    have hp : 0 < 256 ^ k := Nat.pow_pos (by omega)
    have h1 := Nat.mod_lt v hp
    have h2 := Nat.mod_lt w hp
    rw [e v, e w, show (2 : Nat) ^ 8 = 256 from rfl]
    obtain ⟨p, hpk⟩ : ∃ p, 256 ^ k = p := ⟨_, rfl⟩
    rw [hpk] at h1 h2 hp ⊢
    obtain ⟨a, ha⟩ : ∃ a, v / p % 256 = a := ⟨_, rfl⟩
    obtain ⟨b, hb⟩ : ∃ b, w / p % 256 = b := ⟨_, rfl⟩
    obtain ⟨c, hc⟩ : ∃ c, v % p = c := ⟨_, rfl⟩
    obtain ⟨d, hd⟩ : ∃ d, w % p = d := ⟨_, rfl⟩
    rw [ha, hb, hc, hd]
    rw [hc] at h1
    rw [hd] at h2
    rcases Nat.lt_trichotomy a b with h | h | h
    · have : p * (a + 1) ≤ p * b := Nat.mul_le_mul_left _ h
      rw [Nat.mul_add, Nat.mul_one] at this
      have h3 : c + p * a < d + p * b := by omega
      simp [h, h3]
    · subst h
      simp
    · have : p * (b + 1) ≤ p * a := Nat.mul_le_mul_left _ h
      rw [Nat.mul_add, Nat.mul_one] at this
      have h3 : ¬ c + p * a < d + p * b := by omega
      have h4 : ¬ c + p * a = d + p * b := by omega
      have h5 : ¬ a < b := by omega
      have h6 : ¬ a = b := by omega
      simp [h3, h4, h5, h6]
theorem nb_mono {v w : Nat} (hv : v < 18446744073709551616) (hw : w < 18446744073709551616) (h : nb v < nb w) : v < w := by
  obtain ⟨a1, a2, a3⟩ := nb_facts v hv
  obtain ⟨b1, b2, b3⟩ := nb_facts w hw
  have hw0 : w ≠ 0 := by rintro rfl; rw [nb_zero] at h; omega
  obtain ⟨b4, b5⟩ := b3 hw0
  have : 256 ^ nb v ≤ 256 ^ (nb w - 1) := Nat.pow_le_pow_right (by omega) (by omega)
  omega
theorem lt_num (v w : Nat) (x y : List UInt8) (hv : v < 18446744073709551616) (hw : w < 18446744073709551616) : (numL v ++ x < numL w ++ y) ↔ (v < w ∨ (v = w ∧ x < y)) := by
  obtain ⟨a1, a2, a3⟩ := nb_facts v hv
  obtain ⟨b1, b2, b3⟩ := nb_facts w hw
  unfold numL
  rw [List.cons_append, List.cons_append, lt_cc, ← UInt8.toNat_inj, UInt8.toNat_ofNat', UInt8.toNat_ofNat', Nat.mod_eq_of_lt (by omega), Nat.mod_eq_of_lt (by omega)]
  rcases Nat.lt_trichotomy (nb v) (nb w) with h | h | h
  · have h1 := nb_mono hv hw h
    simp [h, h1]
  · rw [← h] at b2 ⊢
    rw [lt_be, Nat.mod_eq_of_lt a2, Nat.mod_eq_of_lt b2]
    simp
  · have h1 := nb_mono hw hv h
    have h2 : ¬ nb v < nb w := by omega
    have h3 : ¬ nb v = nb w := by omega
    have h4 : ¬ v < w := by omega
    have h5 : ¬ v = w := by omega
    simp [h2, h3, h4, h5]
theorem lt_num0 (v w : Nat) (hv : v < 18446744073709551616) (hw : w < 18446744073709551616) : (numL v < numL w) ↔ v < w := by
  have := lt_num v w [] [] hv hw
  rw [List.append_nil, List.append_nil] at this
  rw [this]
  simp
theorem num_eq (v w : Nat) (hv : v < 18446744073709551616) (hw : w < 18446744073709551616) : numL v = numL w ↔ v = w := by
  refine ⟨fun h => ?_, fun h => by rw [h]⟩
  rcases Nat.lt_trichotomy v w with h1 | h1 | h1
  · have := (lt_num0 v w hv hw).2 h1
    rw [h] at this
    exact absurd this (lt_irr _)
  · exact h1
  · have := (lt_num0 w v hw hv).2 h1
    rw [h] at this
    exact absurd this (lt_irr _)
theorem lt_be0 (v w k : Nat) (hv : v < 256 ^ k) (hw : w < 256 ^ k) : (be v k < be w k) ↔ v < w := by
  have := lt_be v w [] [] k
  rw [List.append_nil, List.append_nil, Nat.mod_eq_of_lt hv, Nat.mod_eq_of_lt hw] at this
  rw [this]
  simp
end Go.Proofs.Ytkahcblonfbdaaa
