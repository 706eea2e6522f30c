/-
  Plain words on the code points of a text, and where tokens begin.
-/
import Derived.Test.YtdbdlgmejddbhaaDoorLxb
set_option linter.unusedVariables false
namespace Go.Proofs.YtdbdlgmejddbhaaDoor
open Go Go.Lib

/-- No text that goes on a code point. -/
def HeadNC (Z : List UInt8) : Prop := ∀ b r, Z = b :: r → ¬ (128 ≤ b.toNat ∧ b.toNat < 192)
theorem HeadNC.nil : HeadNC [] := fun b r h => by cases h
theorem HeadNC.low {b : UInt8} {r : List UInt8} (h : b.toNat < 128) : HeadNC (b :: r) := fun b' r' h' => by injection h' with h1 h2; subst h1; omega
theorem HeadNC.at0 {Z : List UInt8} (h : HeadNC Z) : Z = [] ∨ (∃ b r, Z = b :: r ∧ b.toNat / 64 ≠ 2) := by
  cases Z with
  | nil => exact .inl rfl
  | cons b r => exact .inr ⟨b, r, rfl, by have := h b r rfl; omega⟩

set_option maxHeartbeats 1000000 in
/-- What follows turns nothing of the code point ahead of it. -/
theorem dec_pre {p Z : List UInt8} (hp : p ≠ []) (hz : HeadNC Z) : decodeL (p ++ Z) = decodeL p := by
  rw [decodeL_N, decodeL_N]
  have hz := hz.at0
  match p, hp with
  | [a], _ =>
    simp only [List.cons_append, List.nil_append, List.getD_cons_zero, List.getD_cons_succ, List.length_cons, List.length_nil]
    rcases hz with rfl | ⟨z, r, rfl, h2⟩
    · rfl
    · simp only [List.getD_cons_zero, List.getD_cons_succ]
      unfold decodeN
      simp [h2]
  | [a, b], _ =>
    simp only [List.cons_append, List.nil_append, List.getD_cons_zero, List.getD_cons_succ, List.length_cons, List.length_nil]
    rcases hz with rfl | ⟨z, r, rfl, h2⟩
    · rfl
    · simp only [List.getD_cons_zero, List.getD_cons_succ]
      unfold decodeN
      simp [h2]
  | [a, b, c], _ =>
    simp only [List.cons_append, List.nil_append, List.getD_cons_zero, List.getD_cons_succ, List.length_cons, List.length_nil]
    rcases hz with rfl | ⟨z, r, rfl, h2⟩
    · rfl
    · simp only [List.getD_cons_zero]
      unfold decodeN
      simp [h2]
  | a :: b :: c :: d :: r, _ =>
    simp only [List.cons_append, List.getD_cons_zero, List.getD_cons_succ, List.length_cons]
    unfold decodeN
    simp
theorem drop_pre {p Z : List UInt8} (hp : p ≠ []) (hz : HeadNC Z) : (p ++ Z).drop (decodeL (p ++ Z)).2 = p.drop (decodeL p).2 ++ Z := by
  rw [dec_pre hp hz, List.drop_append_of_le_length (wd_le hp)]

/-- How many code points there are; the byte at which the m-th begins. -/
def cntF : Nat → List UInt8 → Nat
  | 0, _ => 0
  | f + 1, l => if l = [] then 0 else 1 + cntF f (l.drop (decodeL l).2)
def cntL (l : List UInt8) : Nat := cntF l.length l
theorem cntF_fuel : ∀ f g (l : List UInt8), l.length ≤ f → l.length ≤ g → cntF f l = cntF g l
  | 0, g, l, h, _ => by
    have h0 : l = [] := List.length_eq_zero_iff.1 (by omega)
    subst h0
    cases g with
    | zero => rfl
    | succ g => simp [cntF]
  | f + 1, 0, l, _, h => by
    have h0 : l = [] := List.length_eq_zero_iff.1 (by omega)
    subst h0
    simp [cntF]
  | f + 1, g + 1, l, h, h' => by
    simp only [cntF]
    by_cases h0 : l = []
    · rw [if_pos h0, if_pos h0]
    · have := drop_lt h0
      rw [if_neg h0, if_neg h0, cntF_fuel f g _ (by omega) (by omega)]
theorem cntL_nil : cntL [] = 0 := rfl
theorem cntL_step {l : List UInt8} (h : l ≠ []) : cntL l = 1 + cntL (l.drop (decodeL l).2) := by
  have h2 := List.length_pos_iff.2 h
  have hd := drop_lt h
  obtain ⟨f, hf⟩ : ∃ f, l.length = f + 1 := ⟨l.length - 1, by omega⟩
  unfold cntL
  rw [hf]
  simp only [cntF]
  rw [if_neg h, cntF_fuel f _ _ (by omega) (Nat.le_refl _)]
def advL : Nat → List UInt8 → Nat
  | 0, _ => 0
  | m + 1, l => if l = [] then 0 else (decodeL l).2 + advL m (l.drop (decodeL l).2)
theorem advL_le : ∀ (m : Nat) (l : List UInt8), advL m l ≤ l.length
  | 0, l => by simp [advL]
  | m + 1, l => by
    simp only [advL]
    by_cases h0 : l = []
    · rw [if_pos h0]; omega
    · rw [if_neg h0]
      have := advL_le m (l.drop (decodeL l).2)
      have := wd_le h0
      rw [List.length_drop] at *
      omega
/-- The code points ahead of the m-th are m. -/
theorem cnt_take : ∀ (m : Nat) (l : List UInt8), HeadNC (l.drop (advL m l)) → l.drop (advL m l) ≠ [] → cntL (l.take (advL m l)) = m
  | 0, l, _, _ => by simp [advL, cntL_nil]
  | m + 1, l, h, h' => by
    by_cases h0 : l = []
    · subst h0; exact absurd rfl h'
    · have hw := wd_le h0
      have hw1 := wd_pos l
      have e : advL (m + 1) l = (decodeL l).2 + advL m (l.drop (decodeL l).2) := by simp only [advL]; rw [if_neg h0]
      have hne : l.take (advL (m + 1) l) ≠ [] := by
        intro hx
        have := congrArg List.length hx
        rw [List.length_take] at this
        have := List.length_pos_iff.2 h0
        simp only [List.length_nil] at *
        omega
      have hd : decodeL (l.take (advL (m + 1) l)) = decodeL l := by
        have := dec_pre hne h
        rw [List.take_append_drop] at this
        exact this.symm
      rw [cntL_step hne, hd, e, List.take_add, List.drop_append_of_le_length (by rw [List.length_take]; omega), List.drop_eq_nil_of_le (by rw [List.length_take]; omega), List.nil_append, Nat.add_comm 1]
      congr 1
      refine cnt_take m (l.drop (decodeL l).2) ?_ ?_
      · rw [List.drop_drop, ← e]; exact h
      · rw [List.drop_drop, ← e]; exact h'

/-- Whether a token begins here. -/
def Here (X : List UInt8) : Prop := X ≠ [] ∧ blankB (decodeL X).1 = false ∧ X.take 2 ≠ [45, 45] ∧ ∃ t, tok X = some t
theorem Here.nc {X : List UInt8} (h : Here X) : HeadNC X := by
  obtain ⟨h1, h2, h3, t, h4⟩ := h
  intro b r hb hx
  subst hb
  have hd : decodeL (b :: r) = (65533, 1) := by
    rw [decodeL_N]
    unfold decodeN
    rw [show ((b :: r).getD 0 0).toNat = b.toNat from rfl, if_neg (by omega), if_neg (by omega), if_neg (by omega), if_neg (by omega)]
  unfold tok at h4
  rw [hd] at h4
  have e : ltrC (65533, 1) = false := by decide
  have e2 : dgtC (65533, 1) = false := by decide
  have e3 : signB 65533 = false := by decide
  simp [e, e2, e3] at h4

theorem cons1_ok {t : Nat × List UInt8 × Int × Nat} {n : Nat} {r : Except Nat (List Tk4)} {L : List Tk4} (h : cons1 t n r = .ok L) : ∃ L', r = .ok L' ∧ L = (t.1, t.2.1, t.2.2.1, n) :: L' := by
  unfold cons1 at h
  cases r with
  | ok L' => injection h with h; exact ⟨L', rfl, h.symm⟩
  | error e => cases h

/-- The ways that a text goes on. -/
theorem lx_ways {l : List UInt8} (h : l ≠ []) (n k : Nat) :
    (0 < k) ∨ (k = 0 ∧ blankB (decodeL l).1 = true) ∨ (k = 0 ∧ l.take 2 = [45, 45]) ∨ (k = 0 ∧ blankB (decodeL l).1 = false ∧ l.take 2 ≠ [45, 45] ∧ tok l = none) ∨
    (k = 0 ∧ blankB (decodeL l).1 = false ∧ l.take 2 ≠ [45, 45] ∧ ∃ t, tok l = some t) := by
  by_cases hk : 0 < k
  · exact .inl hk
  have hk : k = 0 := by omega
  cases hb : blankB (decodeL l).1 with
  | true => exact .inr (.inl ⟨hk, rfl⟩)
  | false =>
    by_cases hc : l.take 2 = [45, 45]
    · exact .inr (.inr (.inl ⟨hk, hc⟩))
    · cases ht : tok l with
      | none => exact .inr (.inr (.inr (.inl ⟨hk, rfl, hc, rfl⟩)))
      | some t => exact .inr (.inr (.inr (.inr ⟨hk, rfl, hc, t, rfl⟩)))

/-- Each token's place is that of a code point from here on, and there it begins. -/
theorem lx_here (l : List UInt8) : ∀ (n k : Nat) (L : List Tk4), lx l n k = .ok L → ∀ t ∈ L, ∃ m, t.2.2.2 = n + m ∧ Here (l.drop (advL m l)) := by
  induction l using len_ind with
  | h l ih =>
    intro n k L h t ht
    by_cases h0 : l = []
    · subst h0
      rw [lx_nil] at h
      injection h with h
      subst h
      cases ht
    have go : ∀ k' L', lx (l.drop (decodeL l).2) (n + 1) k' = .ok L' → t ∈ L' → ∃ m, t.2.2.2 = n + m ∧ Here (l.drop (advL m l)) := by
      intro k' L' h' ht'
      obtain ⟨m, e, hm⟩ := ih h0 _ _ _ h' t ht'
      refine ⟨m + 1, by omega, ?_⟩
      simp only [advL]
      rw [if_neg h0, ← List.drop_drop]
      exact hm
    rcases lx_ways h0 n k with hk | ⟨rfl, hb⟩ | ⟨rfl, hc⟩ | ⟨rfl, hb, hc, hn⟩ | ⟨rfl, hb, hc, x, hx⟩
    · rw [lx_skip h0 hk] at h
      exact go _ _ h ht
    · rw [lx_blank n hb] at h
      exact go _ _ h ht
    · rw [lx_eq h0, if_neg (by omega)] at h
      split at h
      · exact go _ _ h ht
      · exact go _ _ h ht
    · rw [lx_none n h0 hb hc hn] at h
      cases h
    · rw [lx_tok n h0 hb hc hx] at h
      obtain ⟨L', h', rfl⟩ := cons1_ok h
      rcases List.mem_cons.1 ht with rfl | ht
      · exact ⟨0, rfl, by simp only [advL, List.drop_zero]; exact ⟨h0, hb, hc, x, hx⟩⟩
      · rw [lx_skip h0 (tok_len hx)] at h'
        exact go _ _ h' ht
theorem lx_from {l : List UInt8} {n k : Nat} {L : List Tk4} (h : lx l n k = .ok L) {t : Tk4} (ht : t ∈ L) : n ≤ t.2.2.2 := by
  obtain ⟨m, e, _⟩ := lx_here l n k L h t ht
  omega

def shiftT (c : Nat) (t : Tk4) : Tk4 := (t.1, t.2.1, t.2.2.1, t.2.2.2 + c)
/-- Numbers that begin later. -/
theorem lx_shift (c : Nat) (l : List UInt8) : ∀ (n k : Nat) (L : List Tk4), lx l n k = .ok L → lx l (n + c) k = .ok (L.map (shiftT c)) := by
  induction l using len_ind with
  | h l ih =>
    intro n k L h
    by_cases h0 : l = []
    · subst h0
      rw [lx_nil] at h ⊢
      injection h with h
      subst h
      rfl
    rcases lx_ways h0 n k with hk | ⟨rfl, hb⟩ | ⟨rfl, hc⟩ | ⟨rfl, hb, hc, hn⟩ | ⟨rfl, hb, hc, x, hx⟩
    · rw [lx_skip h0 hk] at h ⊢
      have := ih h0 _ _ _ h
      rw [show n + 1 + c = n + c + 1 from by omega] at this
      exact this
    · rw [lx_blank n hb] at h
      rw [lx_blank (n + c) hb]
      have := ih h0 _ _ _ h
      rw [show n + 1 + c = n + c + 1 from by omega] at this
      exact this
    · have hl : 0 < lineLen l := by
        obtain ⟨_, r, rfl⟩ := dec45 hc
        simp [lineLen]
      rw [lx_line n hc, lx_skip h0 hl] at h
      rw [lx_line (n + c) hc, lx_skip h0 hl]
      have := ih h0 _ _ _ h
      rw [show n + 1 + c = n + c + 1 from by omega] at this
      exact this
    · rw [lx_none n h0 hb hc hn] at h
      cases h
    · rw [lx_tok n h0 hb hc hx] at h
      rw [lx_tok (n + c) h0 hb hc hx]
      obtain ⟨L', h', rfl⟩ := cons1_ok h
      rw [lx_skip h0 (tok_len hx)] at h' ⊢
      have := ih h0 _ _ _ h'
      rw [show n + 1 + c = n + c + 1 from by omega] at this
      rw [this]
      rfl

theorem unq_pos (l : List UInt8) : ∀ x, unq l = some x → 1 ≤ x.2 ∧ x.2 ≤ l.length := by
  induction l using unq.induct with
  | case1 => intro x h; simp [unq] at h
  | case2 => intro x h; simp [unq] at h; subst h; simp
  | case3 c hc => intro x h; simp [unq, hc] at h
  | case4 t ih =>
    intro x h
    rw [unq, if_pos rfl, if_pos rfl] at h
    cases hu : unq t with
    | none => rw [hu] at h; cases h
    | some y => rw [hu] at h; injection h with h; subst h; have := ih y hu; simp; omega
  | case5 d t hd =>
    intro x h
    rw [unq, if_pos rfl, if_neg hd] at h
    injection h with h
    subst h
    simp
  | case6 c d t hc ih =>
    intro x h
    rw [unq, if_neg hc] at h
    cases hu : unq (d :: t) with
    | none => rw [hu] at h; cases h
    | some y => rw [hu] at h; injection h with h; subst h; have := ih y hu; simp at this ⊢; omega
end Go.Proofs.YtdbdlgmejddbhaaDoor
