/-
  Plain words on texts put one behind the other: where code points begin, what an added text turns.
-/
import Derived.Test.YtdjncindngifhaaRn4
set_option linter.unusedVariables false
namespace Go.Proofs.Ytdjncindngifhaa
open Go Go.RowKit

theorem ba_size_list (s : ByteArray) : s.data.toList.length = s.size := by rw [Lib.size_eq]
theorem bt_left (s t : ByteArray) (i : Nat) (h : i < s.size) : bt (s ++ t) i = bt s i := by
  have h2 : i < (s ++ t).size := by rw [ByteArray.size_append]; omega
  rw [bt_at s i h, bt_at (s ++ t) i h2]
  congr 1
  simp only [ByteArray.data_append, Array.toList_append]
  rw [List.getElem_append_left (by rw [ba_size_list]; exact h)]
theorem bt_right (s t : ByteArray) (i : Nat) (h : i < t.size) : bt (s ++ t) (s.size + i) = bt t i := by
  have h2 : s.size + i < (s ++ t).size := by rw [ByteArray.size_append]; omega
  rw [bt_at t i h, bt_at (s ++ t) _ h2]
  congr 1
  simp only [ByteArray.data_append, Array.toList_append]
  rw [List.getElem_append_right (by rw [ba_size_list]; omega)]
  congr 1
  rw [ba_size_list]
  omega

/-- Inside a code point every byte goes on. -/
theorem inside_goesOn (s : ByteArray) (p j : Nat) (h0 : 0 < j) (hj : j < (Utf8.decode s p).2) : goesOn s (p + j) := by
  rcases decode_cases s p with ⟨h0, e⟩ | ⟨h0, h1, h2, e⟩ | ⟨h0, h1, h2, h3, c, hc, h4, h5, e⟩ | ⟨h0, h1, h2, h3, h4, c, hc, h5, h6, e⟩ | ⟨h0, e, h1, h2, h3⟩
  all_goals rw [e] at hj; dsimp only at hj
  · omega
  · obtain rfl : j = 1 := by omega
    exact h2
  · have : j = 1 ∨ j = 2 := by omega
    rcases this with rfl | rfl
    · exact h2
    · exact h3
  · have : j = 1 ∨ j = 2 ∨ j = 3 := by omega
    rcases this with rfl | rfl | rfl
    · exact h2
    · exact h3
    · exact h4
  · omega

theorem cpsF_mem (s : ByteArray) (i : Nat) (hi : i < s.size) (hb : ¬ goesOn s i) : ∀ f p, s.size ≤ p + f → p ≤ i → ((Utf8.decode s i).1, i, (Utf8.decode s i).2) ∈ cpsF s f p
  | f, p, hf, hp => by
    obtain ⟨g, e1, e2, e3⟩ := cpsF_step s f p (by omega) hf
    rw [e2]
    by_cases h : p = i
    · rw [h]; exact List.mem_cons_self
    · refine List.mem_cons_of_mem _ (cpsF_mem s i hi hb g _ e3 ?_)
      rcases Nat.lt_or_ge i (p + (Utf8.decode s p).2) with h2 | h2
      · have := inside_goesOn s p (i - p) (by omega) (by omega)
        rw [show p + (i - p) = i from by omega] at this
        exact absurd this hb
      · exact h2
  termination_by f => f
  decreasing_by omega

theorem cps_mem (s : ByteArray) (i : Nat) (hi : i < s.size) (hb : ¬ goesOn s i) : ((Utf8.decode s i).1, i, (Utf8.decode s i).2) ∈ cps s :=
  cpsF_mem s i hi hb _ _ (by omega) (Nat.zero_le _)

/-- Two places with the same bytes have the same code point. -/
theorem decode_same (u v : ByteArray) (p q : Nat) (h0 : bt u p = bt v q) (h1 : goesOn u (p + 1) ↔ goesOn v (q + 1)) (h2 : goesOn u (p + 2) ↔ goesOn v (q + 2)) (h3 : goesOn u (p + 3) ↔ goesOn v (q + 3))
    (b1 : goesOn u (p + 1) → bt u (p + 1) = bt v (q + 1)) (b2 : goesOn u (p + 2) → bt u (p + 2) = bt v (q + 2)) (b3 : goesOn u (p + 3) → bt u (p + 3) = bt v (q + 3)) : Utf8.decode u p = Utf8.decode v q := by
  have hu := decode_cases u p
  have hv := decode_cases v q
  rw [← h0, ← h1, ← h2, ← h3] at hv
  generalize goesOn u (p + 1) = G1 at *
  generalize goesOn u (p + 2) = G2 at *
  generalize goesOn u (p + 3) = G3 at *
  clear h1 h2 h3
  generalize Utf8.decode u p = d at *
  generalize Utf8.decode v q = d' at *
  rcases hu with ⟨x0, e⟩ | ⟨x0, x1, x2, e⟩ | ⟨x0, x1, x2, x3, c, hc, x4, x5, e⟩ | ⟨x0, x1, x2, x3, x4, c, hc, x5, x6, e⟩ | ⟨x0, e, x1, x2, x3⟩
  · rcases hv with ⟨y0, e'⟩ | ⟨y0, y1, y2, e'⟩ | ⟨y0, y1, y2, y3, c', hc', y4, y5, e'⟩ | ⟨y0, y1, y2, y3, y4, c', hc', y5, y6, e'⟩ | ⟨y0, e', y1, y2, y3⟩
    · rw [e, e']
    all_goals omega
  · rw [b1 x2] at e
    rcases hv with ⟨y0, e'⟩ | ⟨y0, y1, y2, e'⟩ | ⟨y0, y1, y2, y3, c', hc', y4, y5, e'⟩ | ⟨y0, y1, y2, y3, y4, c', hc', y5, y6, e'⟩ | ⟨y0, e', y1, y2, y3⟩
    · omega
    · rw [e, e']
    · omega
    · omega
    · exact absurd ⟨x0, x1, x2⟩ y1
  · have z1 := b1 x2
    have z2 := b2 x3
    rcases hv with ⟨y0, e'⟩ | ⟨y0, y1, y2, e'⟩ | ⟨y0, y1, y2, y3, c', hc', y4, y5, e'⟩ | ⟨y0, y1, y2, y3, y4, c', hc', y5, y6, e'⟩ | ⟨y0, e', y1, y2, y3⟩
    · omega
    · omega
    · rw [e, e', hc, hc', z1, z2]
    · omega
    · exact absurd ⟨x0, x1, x2, x3, by omega, by omega⟩ y2
  · have z1 := b1 x2
    have z2 := b2 x3
    have z3 := b3 x4
    rcases hv with ⟨y0, e'⟩ | ⟨y0, y1, y2, e'⟩ | ⟨y0, y1, y2, y3, c', hc', y4, y5, e'⟩ | ⟨y0, y1, y2, y3, y4, c', hc', y5, y6, e'⟩ | ⟨y0, e', y1, y2, y3⟩
    · omega
    · omega
    · omega
    · rw [e, e', hc, hc', z1, z2, z3]
    · exact absurd ⟨x0, x1, x2, x3, x4, by omega, by omega⟩ y3
  · rcases hv with ⟨y0, e'⟩ | ⟨y0, y1, y2, e'⟩ | ⟨y0, y1, y2, y3, c', hc', y4, y5, e'⟩ | ⟨y0, y1, y2, y3, y4, c', hc', y5, y6, e'⟩ | ⟨y0, e', y1, y2, y3⟩
    · omega
    · exact absurd ⟨y0, y1, y2⟩ x1
    · exact absurd ⟨y0, y1, y2, y3, by rw [b1 y2, b2 y3]; omega, by rw [b1 y2, b2 y3]; omega⟩ x2
    · exact absurd ⟨y0, y1, y2, y3, y4, by rw [b1 y2, b2 y3, b3 y4]; omega, by rw [b1 y2, b2 y3, b3 y4]; omega⟩ x3
    · rw [e, e']

theorem decode_right (s t : ByteArray) (p : Nat) (hp : p < t.size) : Utf8.decode (s ++ t) (s.size + p) = Utf8.decode t p := by
  have hg : ∀ i, goesOn (s ++ t) (s.size + i) ↔ goesOn t i := by
    intro i
    unfold goesOn
    rw [ByteArray.size_append]
    by_cases h : i < t.size
    · rw [bt_right s t i h]; omega
    · omega
  have hb : ∀ i, goesOn (s ++ t) (s.size + i) → bt (s ++ t) (s.size + i) = bt t i := fun i h => bt_right s t i ((hg i).1 h).1
  exact decode_same _ _ _ _ (bt_right s t p hp) (hg (p + 1)) (hg (p + 2)) (hg (p + 3)) (hb (p + 1)) (hb (p + 2)) (hb (p + 3))

theorem goesOn_left (s t : ByteArray) (i : Nat) (h : goesOn s i) : goesOn (s ++ t) i := by
  unfold goesOn at *
  rw [bt_left s t i h.1, ByteArray.size_append]
  omega

/-- A right code point stays, whatever comes behind. -/
theorem decode_left (s t : ByteArray) (p : Nat) (hp : p < s.size) (hr : rightB ((Utf8.decode s p).1, p, (Utf8.decode s p).2) = true) : Utf8.decode (s ++ t) p = Utf8.decode s p := by
  have hb := bt_left s t p hp
  have hv := decode_cases (s ++ t) p
  rw [hb] at hv
  generalize he' : Utf8.decode (s ++ t) p = d' at *
  rcases decode_cases s p with ⟨x0, e⟩ | ⟨x0, x1, x2, e⟩ | ⟨x0, x1, x2, x3, c, hc, x4, x5, e⟩ | ⟨x0, x1, x2, x3, x4, c, hc, x5, x6, e⟩ | ⟨x0, e, x1, x2, x3⟩
  · rcases hv with ⟨y0, e'⟩ | ⟨y0, y1, y2, e'⟩ | ⟨y0, y1, y2, y3, c', hc', y4, y5, e'⟩ | ⟨y0, y1, y2, y3, y4, c', hc', y5, y6, e'⟩ | ⟨y0, e', y1, y2, y3⟩
    · rw [e, e']
    all_goals omega
  · have z1 := bt_left s t (p + 1) x2.1
    have g1 := goesOn_left s t _ x2
    rcases hv with ⟨y0, e'⟩ | ⟨y0, y1, y2, e'⟩ | ⟨y0, y1, y2, y3, c', hc', y4, y5, e'⟩ | ⟨y0, y1, y2, y3, y4, c', hc', y5, y6, e'⟩ | ⟨y0, e', y1, y2, y3⟩
    · omega
    · rw [e, e', z1]
    · omega
    · omega
    · exact absurd ⟨x0, x1, g1⟩ y1
  · have z1 := bt_left s t (p + 1) x2.1
    have z2 := bt_left s t (p + 2) x3.1
    have g1 := goesOn_left s t _ x2
    have g2 := goesOn_left s t _ x3
    rcases hv with ⟨y0, e'⟩ | ⟨y0, y1, y2, e'⟩ | ⟨y0, y1, y2, y3, c', hc', y4, y5, e'⟩ | ⟨y0, y1, y2, y3, y4, c', hc', y5, y6, e'⟩ | ⟨y0, e', y1, y2, y3⟩
    · omega
    · omega
    · rw [e, e', hc, hc', z1, z2]
    · omega
    · exact absurd ⟨x0, x1, g1, g2, by omega, by omega⟩ y2
  · have z1 := bt_left s t (p + 1) x2.1
    have z2 := bt_left s t (p + 2) x3.1
    have z3 := bt_left s t (p + 3) x4.1
    have g1 := goesOn_left s t _ x2
    have g2 := goesOn_left s t _ x3
    have g3 := goesOn_left s t _ x4
    rcases hv with ⟨y0, e'⟩ | ⟨y0, y1, y2, e'⟩ | ⟨y0, y1, y2, y3, c', hc', y4, y5, e'⟩ | ⟨y0, y1, y2, y3, y4, c', hc', y5, y6, e'⟩ | ⟨y0, e', y1, y2, y3⟩
    · omega
    · omega
    · omega
    · rw [e, e', hc, hc', z1, z2, z3]
    · exact absurd ⟨x0, x1, g1, g2, g3, by omega, by omega⟩ y3
  · rw [e] at hr
    simp [rightB] at hr

def shift (n : Nat) (c : Nat × Nat × Nat) : Nat × Nat × Nat := (c.1, n + c.2.1, c.2.2)

theorem cpsF_shift (s t : ByteArray) : ∀ f p, cpsF (s ++ t) f (s.size + p) = (cpsF t f p).map (shift s.size)
  | 0, p => rfl
  | f + 1, p => by
    unfold cpsF
    rw [ByteArray.size_append]
    by_cases h : p < t.size
    · rw [if_pos (by omega), if_pos h, decode_right s t p h, Nat.add_assoc, cpsF_shift s t f, List.map_cons]
      rfl
    · rw [if_neg (by omega), if_neg h]
      rfl

theorem cpsF_append (s t : ByteArray) : ∀ f p F, s.size ≤ p + f → p ≤ s.size → (s ++ t).size ≤ p + F → (cpsF s f p).all rightB = true →
    cpsF (s ++ t) F p = cpsF s f p ++ (cps t).map (shift s.size)
  | f, p, F, hf, hp, hF, hr => by
    rw [ByteArray.size_append] at hF
    by_cases h : p < s.size
    · obtain ⟨g, e1, e2, e3⟩ := cpsF_step s f p h hf
      rw [e2, List.all_cons, Bool.and_eq_true] at hr
      have hd := decode_left s t p h hr.1
      obtain ⟨G, E1, E2, E3⟩ := cpsF_step (s ++ t) F p (by rw [ByteArray.size_append]; omega) (by rw [ByteArray.size_append]; omega)
      rw [hd] at E2 E3
      rw [E2, e2, cpsF_append s t g _ G e3 (decode_in s p h) E3 hr.2]
      rfl
    · obtain rfl : p = s.size := by omega
      rw [cpsF_end s f s.size h, List.nil_append]
      have := cpsF_shift s t F 0
      rw [Nat.add_zero] at this
      rw [this]
      congr 1
      exact cpsF_fuel t _ _ 0 (by omega) (by omega)
  termination_by f => f
  decreasing_by omega

/-- A right text keeps its code points; those of the other come behind. -/
theorem cps_append (s t : ByteArray) (h : validB s = true) : cps (s ++ t) = cps s ++ (cps t).map (shift s.size) :=
  cpsF_append s t _ 0 _ (by omega) (Nat.zero_le _) (by omega) h

theorem validB_append (s t : ByteArray) (h : validB s = true) : validB (s ++ t) = validB t := by
  have e : validB (s ++ t) = (cps (s ++ t)).all rightB := rfl
  rw [e, cps_append s t h, List.all_append]
  have e2 : (cps s).all rightB = true := h
  rw [e2, Bool.true_and, List.all_map]
  rfl

theorem name_valid (s : ByteArray) (h : nameB s = true) : validB s = true := by
  unfold nameB at h
  rw [Bool.and_eq_true] at h
  have h2 := h.2
  unfold validB
  rw [List.all_eq_true] at h2 ⊢
  intro c hc
  have h3 := h2 c hc
  unfold nameCp letterB digitB at h3
  unfold rightB
  by_cases h4 : c.1 = 65533
  · rw [h4] at h3
    simp [rightB, h4] at h3
    simp [h4, h3]
  · simp [h4]

theorem name_size (s : ByteArray) (h : nameB s = true) : 1 ≤ s.size ∧ s.size ≤ 100 := by
  unfold nameB at h
  simp only [Bool.and_eq_true, decide_eq_true_eq] at h
  exact h.1

/-- A name with one that may stand in it behind. -/
theorem name_more (s m : ByteArray) (h : nameB s = true) (hm : ((cps m).map (shift s.size)).all nameCp = true) : nameB (s ++ m) = decide (s.size + m.size ≤ 100) := by
  have hs := name_size s h
  have hv := name_valid s h
  unfold nameB
  rw [cps_append s m hv, List.all_append, hm, ByteArray.size_append]
  unfold nameB at h
  rw [Bool.and_eq_true] at h
  rw [h.2, decide_eq_true (show 1 ≤ s.size + m.size by omega)]
  simp

/-- No name: some code point may not stand in one. -/
theorem name_no (s : ByteArray) (i : Nat) (hi : i < s.size) (hb : ¬ goesOn s i) (hc : nameCp ((Utf8.decode s i).1, i, (Utf8.decode s i).2) = false) : nameB s = false := by
  have hm := cps_mem s i hi hb
  unfold nameB
  have : (cps s).all nameCp = false := by
    rw [List.all_eq_false]
    exact ⟨_, hm, by rw [hc]; decide⟩
  rw [this, Bool.and_false]

/-- The last byte of a text with one byte more. -/
theorem last_bt (s : ByteArray) (c : UInt8) : bt (s ++ ⟨#[c]⟩) s.size = c.toNat := by
  have := bt_right s ⟨#[c]⟩ 0 (show 0 < 1 by omega)
  rw [Nat.add_zero] at this
  rw [this]
  rfl

theorem name_bad (s : ByteArray) (c : UInt8) (hc : c = 32 ∨ c = 45 ∨ c = 255 ∨ c = 65 ∨ c = 39) : nameB (s ++ ⟨#[c]⟩) = false := by
  have hb := last_bt s c
  have hn : ¬ goesOn (s ++ ⟨#[c]⟩) s.size := by
    unfold goesOn
    rw [hb]
    rcases hc with rfl | rfl | rfl | rfl | rfl <;> simp
  have h := decode_cases (s ++ ⟨#[c]⟩) s.size
  rw [hb] at h
  refine name_no _ s.size (by rw [ByteArray.size_append]; exact Nat.lt_succ_self _) hn ?_
  have hbeyond : ¬ goesOn (s ++ ⟨#[c]⟩) (s.size + 1) := by
    unfold goesOn
    rw [ByteArray.size_append, show (⟨#[c]⟩ : ByteArray).size = 1 from rfl]
    omega
  rcases h with ⟨h0, e⟩ | ⟨h0, h1, h2, e⟩ | ⟨h0, h1, h2, h3, x, hx, h4, h5, e⟩ | ⟨h0, h1, h2, h3, h4, x, hx, h5, h6, e⟩ | ⟨h0, e, h1, h2, h3⟩
  · rw [e]
    rcases hc with rfl | rfl | rfl | rfl | rfl
    all_goals first
      | (exact absurd h0 (by decide))
      | (simp [nameCp, letterB, digitB, rightB])
  · exact absurd h2 hbeyond
  · exact absurd h2 hbeyond
  · exact absurd h2 hbeyond
  · rw [e]
    simp [nameCp, letterB, digitB, rightB]

theorem name_seven (s : ByteArray) : nameB (⟨#[55]⟩ ++ s) = false := by
  have hb : bt (⟨#[55]⟩ ++ s) 0 = 55 := by
    have := bt_left ⟨#[55]⟩ s 0 (show 0 < 1 by omega)
    rw [this]
    rfl
  have hn : ¬ goesOn (⟨#[55]⟩ ++ s) 0 := by
    unfold goesOn
    rw [hb]
    omega
  refine name_no _ 0 (by rw [ByteArray.size_append, show (⟨#[55]⟩ : ByteArray).size = 1 from rfl]; omega) hn ?_
  have h := decode_cases (⟨#[55]⟩ ++ s) 0
  rw [hb] at h
  rcases h with ⟨h0, e⟩ | ⟨h0, h1, h2, e⟩ | ⟨h0, h1, h2, h3, x, hx, h4, h5, e⟩ | ⟨h0, h1, h2, h3, h4, x, hx, h5, h6, e⟩ | ⟨h0, e, h1, h2, h3⟩
  · rw [e]
    simp [nameCp, letterB]
  all_goals omega

theorem foldC_idem (c : UInt8) : foldC (foldC c) = foldC c := by
  unfold foldC
  by_cases h : 65 ≤ c.toNat ∧ c.toNat ≤ 90
  · rw [if_pos h, if_neg]
    rw [UInt8.toNat_add]
    simp
    omega
  · rw [if_neg h, if_neg h]
theorem foldL_idem (l : List UInt8) : foldL (foldL l) = foldL l := by
  unfold foldL
  rw [List.map_map]
  congr 1
  funext c
  exact foldC_idem c
theorem foldL_length (l : List UInt8) : (foldL l).length = l.length := by simp [foldL]

theorem fold_name (s : ByteArray) (h : nameB s = true) : foldL s.data.toList = s.data.toList := by
  have key : ∀ c ∈ s.data.toList, foldC c = c := by
    intro c hc
    obtain ⟨i, hi, e⟩ := List.mem_iff_getElem.1 hc
    have hi2 : i < s.size := by rw [← ba_size_list]; exact hi
    have hb := bt_at s i hi2
    rw [e] at hb
    unfold foldC
    by_cases hr : 65 ≤ c.toNat ∧ c.toNat ≤ 90
    · exfalso
      have hn : ¬ goesOn s i := by unfold goesOn; omega
      have hd := decode_cases s i
      have hd2 : Utf8.decode s i = (bt s i, 1) := by
        rcases hd with ⟨h0, e⟩ | ⟨h0, h1, h2, e⟩ | ⟨h0, h1, h2, h3, x, hx, h4, h5, e⟩ | ⟨h0, h1, h2, h3, h4, x, hx, h5, h6, e⟩ | ⟨h0, e, h1, h2, h3⟩
        · exact e
        all_goals omega
      have : nameB s = false := by
        refine name_no s i hi2 hn ?_
        rw [hd2]
        simp [nameCp, letterB, digitB, rightB]
        omega
      rw [this] at h
      cases h
    · rw [if_neg hr]
  unfold foldL
  rw [List.map_congr_left key, List.map_id']
end Go.Proofs.Ytdjncindngifhaa
