/-
  Contracts of the document's own answers of layer 1: one, as the model decodes; All.
-/
import Derived.Test.YtdbdlgmejddbhaaDoorRf2
set_option linter.unusedVariables false
namespace Go.Proofs.YtdbdlgmejddbhaaDoor
open Go Go.RowKit

theorem contB_iff (s : ByteArray) (p n : Nat) : contB s (p + 1) n = true ↔ ∀ j, j < n → goesOn s (p + 1 + j) := by
  unfold contB
  rw [List.all_eq_true]
  constructor
  · intro h j hj; exact (goB_iff s _).1 (h j (List.mem_range.2 hj))
  · intro h j hj; exact (goB_iff s _).2 (h j (List.mem_range.1 hj))

theorem oneV_bad (s : ByteArray) (p : Nat) (h : Utf8.decode s p = (65533, 1)) : oneV (Utf8.decode s p) p = .agg #[.int .i32 65533, .int .i64 (p : Nat), .int .i64 1, .bool false] := by
  rw [h]; rfl

theorem wrong2_iff (R : Nat) : wrongR 2 R = true ↔ (R < 2048 ∨ (55296 ≤ R ∧ R < 57344)) := by
  unfold wrongR
  simp
theorem wrong3_iff (R : Nat) : wrongR 3 R = true ↔ (R < 65536 ∨ 1114111 < R) := by
  unfold wrongR
  simp

theorem dec3 (s : ByteArray) (p : Nat) (h1 : 224 ≤ bt s p) (h2 : bt s p < 240) (g1 : goesOn s (p + 1)) (g2 : goesOn s (p + 2)) :
    (wrongR 2 (rr s p (bt s p % 16) 2) = true ∧ Utf8.decode s p = (65533, 1)) ∨ (wrongR 2 (rr s p (bt s p % 16) 2) = false ∧ Utf8.decode s p = (rr s p (bt s p % 16) 2, 3)) := by
  obtain ⟨R, hR⟩ : ∃ R, rr s p (bt s p % 16) 2 = R := ⟨_, rfl⟩
  rw [hR]
  simp only [rr, Nat.zero_add, Nat.reduceAdd] at hR
  rw [Bool.eq_false_iff, ne_eq, wrong2_iff]
  rcases decode_cases s p with ⟨x0, e⟩ | ⟨x0, x1, x2, e⟩ | ⟨x0, x1, x2, x3, c, hc, x4, x5, e⟩ | ⟨x0, x1, x2, x3, x4, c, hc, x5, x6, e⟩ | ⟨x0, e, x1, x2, x3⟩
  · omega
  · omega
  · obtain rfl : c = R := by omega
    exact .inr ⟨by omega, e⟩
  · omega
  · refine .inl ⟨?_, e⟩
    rcases Nat.lt_or_ge R 2048 with h | h
    · exact .inl h
    · right
      by_cases h3 : 55296 ≤ R ∧ R < 57344
      · exact h3
      · exact absurd ⟨h1, h2, g1, g2, by omega, by omega⟩ x2
theorem dec4 (s : ByteArray) (p : Nat) (h1 : 240 ≤ bt s p) (h2 : bt s p < 248) (g1 : goesOn s (p + 1)) (g2 : goesOn s (p + 2)) (g3 : goesOn s (p + 3)) :
    (wrongR 3 (rr s p (bt s p % 8) 3) = true ∧ Utf8.decode s p = (65533, 1)) ∨ (wrongR 3 (rr s p (bt s p % 8) 3) = false ∧ Utf8.decode s p = (rr s p (bt s p % 8) 3, 4)) := by
  obtain ⟨R, hR⟩ : ∃ R, rr s p (bt s p % 8) 3 = R := ⟨_, rfl⟩
  rw [hR]
  simp only [rr, Nat.zero_add, Nat.reduceAdd] at hR
  rw [Bool.eq_false_iff, ne_eq, wrong3_iff]
  rcases decode_cases s p with ⟨x0, e⟩ | ⟨x0, x1, x2, e⟩ | ⟨x0, x1, x2, x3, c, hc, x4, x5, e⟩ | ⟨x0, x1, x2, x3, x4, c, hc, x5, x6, e⟩ | ⟨x0, e, x1, x2, x3⟩
  · omega
  · omega
  · omega
  · obtain rfl : c = R := by omega
    exact .inr ⟨by omega, e⟩
  · refine .inl ⟨?_, e⟩
    rcases Nat.lt_or_ge R 65536 with h | h
    · exact .inl h
    · right
      rcases Nat.lt_or_ge 1114111 R with h3 | h3
      · exact h3
      · exact absurd ⟨h1, h2, g1, g2, g3, by omega, by omega⟩ x3

theorem moreV_two (R p : Nat) (h : wrongR 2 R = false) : moreV 2 R p = oneV (R, 3) p := by
  have hr : rightB (R, p, 3) = true := by unfold rightB; simp
  unfold moreV oneV
  rw [h, hr, if_neg (by decide)]
theorem moreV_three (R p : Nat) (h : wrongR 3 R = false) : moreV 3 R p = oneV (R, 4) p := by
  have hn : ¬ (R < 65536 ∨ 1114111 < R) := by rw [← wrong3_iff, h]; decide
  have hr : rightB (R, p, 4) = true := by unfold rightB; rw [beq_eq_false_iff_ne.2 (show R ≠ 65533 by omega)]; rfl
  unfold moreV oneV
  rw [h, hr, if_neg (by decide)]
theorem moreV_no (n R p : Nat) (h : wrongR n R = true) : moreV n R p = oneV (65533, 1) p := by
  unfold moreV
  rw [if_pos h]
  rfl

set_option maxRecDepth 100000 in
theorem one_any (s : ByteArray) (p : Nat) (w : World) (hs : s.size ≤ 1099511627776) (hp : p < s.size) :
    Calls Tryd.prog 28 #[.string s, .int .i64 p] w fun e w' => e = .returned (oneV (Utf8.decode s p) p) ∧ Below w.heap.size w w' := by
  have hbt : bt s p = s[p].toNat := bt_at s p hp
  have hb256 := bt_lt s p
  have hd := decode_cases s p
  rw [hbt] at hd hb256
  by_cases h128 : s[p].toNat < 128
  · have e : Utf8.decode s p = (s[p].toNat, 1) := by
      rcases hd with ⟨x0, e⟩ | ⟨x0, x1, x2, e⟩ | ⟨x0, x1, x2, x3, c, hc, x4, x5, e⟩ | ⟨x0, x1, x2, x3, x4, c, hc, x5, x6, e⟩ | ⟨x0, e, x1, x2, x3⟩
      · exact e
      all_goals omega
    have hr : rightB (s[p].toNat, p, 1) = true := by unfold rightB; rw [beq_eq_false_iff_ne.2 (show s[p].toNat ≠ 65533 by omega)]; rfl
    rw [e]
    unfold oneV
    rw [hr]
    exact one_low s p w hs hp h128
  by_cases h194 : s[p].toNat < 194
  · have e : Utf8.decode s p = (65533, 1) := by
      rcases hd with ⟨x0, e⟩ | ⟨x0, x1, x2, e⟩ | ⟨x0, x1, x2, x3, c, hc, x4, x5, e⟩ | ⟨x0, x1, x2, x3, x4, c, hc, x5, x6, e⟩ | ⟨x0, e, x1, x2, x3⟩
      · omega
      · omega
      · omega
      · omega
      · exact e
    rw [oneV_bad s p e]
    exact one_bad1 s p w hs hp (by omega) h194
  by_cases h245 : 245 ≤ s[p].toNat
  · have e : Utf8.decode s p = (65533, 1) := by
      rcases hd with ⟨x0, e⟩ | ⟨x0, x1, x2, e⟩ | ⟨x0, x1, x2, x3, c, hc, x4, x5, e⟩ | ⟨x0, x1, x2, x3, x4, c, hc, x5, x6, e⟩ | ⟨x0, e, x1, x2, x3⟩
      · omega
      · omega
      · omega
      · have := bt_lt s (p + 1); omega
      · exact e
    rw [oneV_bad s p e]
    exact one_bad2 s p w hs hp h245
  by_cases h224 : s[p].toNat < 224
  · by_cases hc : contB s (p + 1) 1 = true
    · have g := (contB_iff s p 1).1 hc
      have g1 := g 0 (by omega)
      have e : Utf8.decode s p = (s[p].toNat % 32 * 64 + bt s (p + 1) % 64, 2) := by
        rcases hd with ⟨x0, e⟩ | ⟨x0, x1, x2, e⟩ | ⟨x0, x1, x2, x3, c, hc, x4, x5, e⟩ | ⟨x0, x1, x2, x3, x4, c, hc, x5, x6, e⟩ | ⟨x0, e, x1, x2, x3⟩
        · omega
        · exact e
        · omega
        · omega
        · exact absurd ⟨by omega, h224, g1⟩ x1
      have hr : rightB (s[p].toNat % 32 * 64 + bt s (p + 1) % 64, p, 2) = true := by unfold rightB; rw [beq_eq_false_iff_ne.2 (show s[p].toNat % 32 * 64 + bt s (p + 1) % 64 ≠ 65533 by omega)]; rfl
      refine (one_more1 s p _ w hs hp (by omega) h224 rfl hc (by have := g1.1; omega)).mono fun e' w' ⟨h1, h2⟩ => ⟨?_, h2⟩
      rw [h1, e]
      unfold oneV
      rw [hr]
      rfl
    · have hc2 : contB s (p + 1) 1 = false := by simpa using hc
      have e : Utf8.decode s p = (65533, 1) := by
        rcases hd with ⟨x0, e⟩ | ⟨x0, x1, x2, e⟩ | ⟨x0, x1, x2, x3, c, hc, x4, x5, e⟩ | ⟨x0, x1, x2, x3, x4, c, hc, x5, x6, e⟩ | ⟨x0, e, x1, x2, x3⟩
        · omega
        · exact absurd ((contB_iff s p 1).2 (fun j hj => by obtain rfl : j = 0 := by omega
                                                            exact x2)) hc
        · omega
        · omega
        · exact e
      rw [oneV_bad s p e]
      exact one_cut1 s p w hs hp (by omega) h224 hc2
  by_cases h240 : s[p].toNat < 240
  · by_cases hc : contB s (p + 1) 2 = true
    · have g := (contB_iff s p 2).1 hc
      have g1 := g 0 (by omega)
      have g2 := g 1 (by omega)
      refine (one_more2 s p _ w hs hp (by omega) h240 rfl hc (by have := g2.1; omega)).mono fun e' w' ⟨h1, h2⟩ => ⟨?_, h2⟩
      rw [h1]
      congr 1
      have h3 := dec3 s p (by omega) (by omega) g1 g2
      rw [hbt] at h3
      rcases h3 with ⟨hw, e⟩ | ⟨hw, e⟩
      · rw [e, moreV_no 2 _ p hw]
      · rw [e, moreV_two _ p hw]
    · have hc2 : contB s (p + 1) 2 = false := by simpa using hc
      have e : Utf8.decode s p = (65533, 1) := by
        rcases hd with ⟨x0, e⟩ | ⟨x0, x1, x2, e⟩ | ⟨x0, x1, x2, x3, c, hc, x4, x5, e⟩ | ⟨x0, x1, x2, x3, x4, c, hc, x5, x6, e⟩ | ⟨x0, e, x1, x2, x3⟩
        · omega
        · omega
        · exact absurd ((contB_iff s p 2).2 (fun j hj => by
            have : j = 0 ∨ j = 1 := by omega
            rcases this with rfl | rfl
            · exact x2
            · exact x3)) (by rw [hc2]; decide)
        · omega
        · exact e
      rw [oneV_bad s p e]
      exact one_cut2 s p w hs hp (by omega) h240 hc2
  · by_cases hc : contB s (p + 1) 3 = true
    · have g := (contB_iff s p 3).1 hc
      have g1 := g 0 (by omega)
      have g2 := g 1 (by omega)
      have g3 := g 2 (by omega)
      refine (one_more3 s p _ w hs hp (by omega) (by omega) rfl hc (by have := g3.1; omega)).mono fun e' w' ⟨h1, h2⟩ => ⟨?_, h2⟩
      rw [h1]
      congr 1
      have h3 := dec4 s p (by omega) (by omega) g1 g2 g3
      rw [hbt] at h3
      rcases h3 with ⟨hw, e⟩ | ⟨hw, e⟩
      · rw [e, moreV_no 3 _ p hw]
      · rw [e, moreV_three _ p hw]
    · have hc2 : contB s (p + 1) 3 = false := by simpa using hc
      have e : Utf8.decode s p = (65533, 1) := by
        rcases hd with ⟨x0, e⟩ | ⟨x0, x1, x2, e⟩ | ⟨x0, x1, x2, x3, c, hc, x4, x5, e⟩ | ⟨x0, x1, x2, x3, x4, c, hc, x5, x6, e⟩ | ⟨x0, e, x1, x2, x3⟩
        · omega
        · omega
        · omega
        · exact absurd ((contB_iff s p 3).2 (fun j hj => by
            have : j = 0 ∨ j = 1 ∨ j = 2 := by omega
            rcases this with rfl | rfl | rfl
            · exact x2
            · exact x3
            · exact x4)) (by rw [hc2]; decide)
        · exact e
      rw [oneV_bad s p e]
      exact one_cut3 s p w hs hp (by omega) (by omega) hc2
end Go.Proofs.YtdbdlgmejddbhaaDoor
