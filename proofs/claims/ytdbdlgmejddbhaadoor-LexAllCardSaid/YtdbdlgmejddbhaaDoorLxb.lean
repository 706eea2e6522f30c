/-
  Plain words on numbers of a text: digit by digit.
-/
import Derived.Test.YtdbdlgmejddbhaaDoorLxa
import Derived.Lib.AtoiAllCases
set_option linter.unusedVariables false
namespace Go.Proofs.YtdbdlgmejddbhaaDoor
open Go Go.Lib

/-- The number under way, digit by digit: v so far (never more than the greatest), whether it may be; then: the end, what stands behind, how many digits. -/
def numLF : Nat → List UInt8 → Nat → Bool → Nat × Bool × Bool × Nat
  | 0, l, v, ok => (v, ok, ltrC (decodeL l), 0)
  | f + 1, l, v, ok =>
    if dgtC (decodeL l) = true then
      let x := numLF f (l.drop 1) (min (10 * v + ((decodeL l).1 - 48)) 1099511627776) (ok && decide (10 * v + ((decodeL l).1 - 48) ≤ 1099511627776))
      (x.1, x.2.1, x.2.2.1, x.2.2.2 + 1)
    else (v, ok, ltrC (decodeL l), 0)
def numR (l : List UInt8) (v : Nat) (ok : Bool) : Nat × Bool × Bool × Nat := numLF l.length l v ok

theorem dgt_cons {l : List UInt8} (h : dgtC (decodeL l) = true) : ∃ c r, l = c :: r ∧ decodeL l = (c.toNat, 1) ∧ 48 ≤ c.toNat ∧ c.toNat ≤ 57 := by
  have h0 : l ≠ [] := by intro h0; rw [h0, decodeL_nil] at h; revert h; decide
  obtain ⟨c, r, rfl⟩ := List.exists_cons_of_ne_nil h0
  have hd := decodeN_shape (c :: r).length ((c :: r).getD 0 0).toNat ((c :: r).getD 1 0).toNat ((c :: r).getD 2 0).toNat ((c :: r).getD 3 0).toNat
  rw [← decodeL_N, show ((c :: r).getD 0 0).toNat = c.toNat from rfl] at hd
  unfold dgtC at h
  simp only [Bool.and_eq_true, decide_eq_true_eq] at h
  rcases hd with ⟨x, e⟩ | ⟨c1, c2, c3, cv, e⟩ | ⟨c1, c2, c3, c4, cv, cs, e⟩ | ⟨c1, c2, c3, c4, c5, cv, cw, e⟩ | e
  all_goals rw [e] at h; dsimp only at h
  · exact ⟨c, r, rfl, e, h.1, h.2⟩
  all_goals omega
theorem dgt_byte {c : UInt8} {r : List UInt8} (h : 48 ≤ c.toNat) (h' : c.toNat ≤ 57) : dgtC (decodeL (c :: r)) = true := by
  rw [decodeL_ascii c r (by omega)]
  simp [dgtC, h, h']

theorem numLF_fuel : ∀ f g (l : List UInt8) (v : Nat) (ok : Bool), l.length ≤ f → l.length ≤ g → numLF f l v ok = numLF g l v ok
  | 0, g, l, v, ok, h, _ => by
    have h0 : l = [] := List.length_eq_zero_iff.1 (by omega)
    subst h0
    cases g with
    | zero => rfl
    | succ g => simp only [numLF]; rw [decodeL_nil]; rfl
  | f + 1, 0, l, v, ok, _, h => by
    have h0 : l = [] := List.length_eq_zero_iff.1 (by omega)
    subst h0
    simp only [numLF]; rw [decodeL_nil]; rfl
  | f + 1, g + 1, l, v, ok, h, h' => by
    simp only [numLF]
    by_cases hc : dgtC (decodeL l) = true
    · obtain ⟨c, r, rfl, e, _, _⟩ := dgt_cons hc
      rw [if_pos hc, if_pos hc, numLF_fuel f g _ _ _ (by simp at h ⊢; omega) (by simp at h' ⊢; omega)]
    · rw [if_neg hc, if_neg hc]
theorem numR_step {l : List UInt8} {v : Nat} {ok : Bool} (h : dgtC (decodeL l) = true) {x : Nat × Bool × Bool × Nat}
    (hx : x = numR (l.drop 1) (min (10 * v + ((decodeL l).1 - 48)) 1099511627776) (ok && decide (10 * v + ((decodeL l).1 - 48) ≤ 1099511627776))) :
    numR l v ok = (x.1, x.2.1, x.2.2.1, x.2.2.2 + 1) := by
  obtain ⟨c, r, rfl, e, _, _⟩ := dgt_cons h
  unfold numR at hx ⊢
  rw [show (c :: r).length = r.length + 1 from rfl]
  simp only [numLF]
  rw [if_pos h, hx]
  rfl
theorem numR_stop {l : List UInt8} {v : Nat} {ok : Bool} (h : dgtC (decodeL l) = false) : numR l v ok = (v, ok, ltrC (decodeL l), 0) := by
  unfold numR
  cases l.length with
  | zero => rfl
  | succ f => simp only [numLF]; rw [h]; rfl
theorem numR_ind {P : List UInt8 → Prop} (h : ∀ l, (dgtC (decodeL l) = true → P (l.drop 1)) → P l) (l : List UInt8) : P l := by
  induction l using len_ind with
  | h l ih => exact h l (fun hd => by
      obtain ⟨c, r, rfl, e, _, _⟩ := dgt_cons hd
      have := ih (by simp)
      rw [e] at this
      exact this)
theorem numR_false (l : List UInt8) : ∀ v, (numR l v false).2.1 = false := by
  induction l using numR_ind with
  | h l ih =>
    intro v
    by_cases hc : dgtC (decodeL l) = true
    · rw [numR_step hc rfl]
      exact ih hc _
    · rw [numR_stop (by simpa using hc)]
theorem numR_le (l : List UInt8) : ∀ v ok, v ≤ 1099511627776 → (numR l v ok).1 ≤ 1099511627776 := by
  induction l using numR_ind with
  | h l ih =>
    intro v ok hv
    by_cases hc : dgtC (decodeL l) = true
    · rw [numR_step hc rfl]
      exact ih hc _ _ (Nat.min_le_right _ _)
    · rw [numR_stop (by simpa using hc)]
      exact hv
theorem numR_run (l : List UInt8) : ∀ v ok, (numR l v ok).2.2.1 = false → (numR l v ok).2.2.2 = run l := by
  induction l using numR_ind with
  | h l ih =>
    intro v ok h
    by_cases hc : dgtC (decodeL l) = true
    · have hl : ldC (decodeL l) = true := by unfold ldC; rw [hc]; rfl
      rw [numR_step hc rfl] at h ⊢
      have := ih hc _ _ h
      dsimp only
      rw [this, run_step hl]
      obtain ⟨c, r, rfl, e, _, _⟩ := dgt_cons hc
      rw [e]
      exact Nat.add_comm _ _
    · rw [numR_stop (by simpa using hc)] at h ⊢
      exact (run_stop (by unfold ldC; rw [show dgtC (decodeL l) = false from by simpa using hc]; exact h)).symm
theorem take_cons {l : List UInt8} (h : l ≠ []) (hc : ldC (decodeL l) = true) : ∃ c r, l = c :: r ∧ ∃ t, l.take (run l) = c :: t := by
  obtain ⟨c, r, rfl⟩ := List.exists_cons_of_ne_nil h
  have := run_pos hc
  obtain ⟨k, hk⟩ : ∃ k, run (c :: r) = k + 1 := ⟨run (c :: r) - 1, by omega⟩
  exact ⟨c, r, rfl, r.take k, by rw [hk]; rfl⟩
theorem parse_num (l : List UInt8) : ∀ (acc v : Nat) (ok : Bool), (ok = true → acc = v ∧ acc ≤ 1099511627776) → (ok = false → 1099511627776 < acc) →
    match parseUint10 acc (l.take (run l)) with
    | .ok u => (numR l v ok).2.2.1 = false ∧ ((numR l v ok).2.1 = true → u = (numR l v ok).1) ∧ ((numR l v ok).2.1 = false → 1099511627776 < u)
    | .range => (numR l v ok).2.2.1 = true ∨ (numR l v ok).2.1 = false
    | _ => (numR l v ok).2.2.1 = true := by
  induction l using numR_ind with
  | h l ih =>
    intro acc v ok h1 h2
    by_cases hc : dgtC (decodeL l) = true
    · have hl : ldC (decodeL l) = true := by unfold ldC; rw [hc]; rfl
      have IH := ih hc
      obtain ⟨c, r, rfl, e, hc1, hc2⟩ := dgt_cons hc
      have hr : run (c :: r) = run r + 1 := by rw [run_step hl, e]; exact Nat.add_comm _ _
      have hn := numR_step (v := v) (ok := ok) hc rfl
      rw [e] at hn
      rw [hr, List.take_succ_cons, hn]
      simp only [parseUint10]
      rw [if_pos ⟨hc1, hc2⟩]
      have hd : List.drop 1 (c :: r) = r := rfl
      rw [hd] at IH ⊢
      have hfl : 1099511627776 < 10 * acc + (c.toNat - 48) → (ok && decide (10 * v + (c.toNat - 48) ≤ 1099511627776)) = false := by
        intro hx
        cases ok with
        | false => rfl
        | true =>
          have := (h1 rfl).1
          simp
          omega
      by_cases hb : 1844674407370955162 ≤ acc
      · rw [if_pos hb]
        right
        rw [hfl (by omega)]
        exact numR_false _ _
      · rw [if_neg hb]
        by_cases hb2 : 18446744073709551616 ≤ acc * 10 + (c.toNat - 48)
        · rw [if_pos hb2]
          right
          rw [hfl (by omega)]
          exact numR_false _ _
        · rw [if_neg hb2]
          refine IH (acc * 10 + (c.toNat - 48)) _ _ ?_ ?_
          · intro hx
            simp only [Bool.and_eq_true, decide_eq_true_eq] at hx
            have := h1 hx.1
            rw [Nat.min_eq_left hx.2]
            omega
          · intro hx
            cases ok with
            | false => have := h2 rfl; omega
            | true =>
              have := h1 rfl
              simp at hx
              omega
    · have hf : dgtC (decodeL l) = false := by simpa using hc
      rw [numR_stop hf]
      by_cases hl : ltrC (decodeL l) = true
      · have hld : ldC (decodeL l) = true := by unfold ldC; rw [hl]; simp
        obtain ⟨c, r, rfl, t, ht⟩ := take_cons (ne_of_ld hld) hld
        rw [ht]
        simp only [parseUint10]
        rw [if_neg (fun hx => by rw [dgt_byte hx.1 hx.2] at hf; cases hf)]
        exact hl
      · have hlf : ltrC (decodeL l) = false := by simpa using hl
        rw [run_stop (by unfold ldC; rw [hf, hlf]; rfl)]
        simp only [List.take_zero, parseUint10]
        exact ⟨hlf, fun hx => (h1 hx).1, h2⟩

theorem mag_num (l : List UInt8) :
    match parseMag (l.take (run l)) with
    | .ok u => (numR l 0 (dgtC (decodeL l))).2.2.1 = false ∧ ((numR l 0 (dgtC (decodeL l))).2.1 = true → u = (numR l 0 (dgtC (decodeL l))).1) ∧ ((numR l 0 (dgtC (decodeL l))).2.1 = false → 1099511627776 < u)
    | .range => (numR l 0 (dgtC (decodeL l))).2.2.1 = true ∨ (numR l 0 (dgtC (decodeL l))).2.1 = false
    | _ => (numR l 0 (dgtC (decodeL l))).2.2.1 = true ∨ (numR l 0 (dgtC (decodeL l))).2.1 = false := by
  unfold parseMag
  cases hd : dgtC (decodeL l) with
  | true =>
    have hld : ldC (decodeL l) = true := by unfold ldC; rw [hd]; rfl
    obtain ⟨c, r, rfl, t, ht⟩ := take_cons (ne_of_ld hld) hld
    rw [if_neg (by rw [ht]; simp)]
    have := parse_num (c :: r) 0 0 true (fun _ => ⟨rfl, by omega⟩) (fun h => by cases h)
    revert this
    cases parseUint10 0 ((c :: r).take (run (c :: r))) with
    | ok u => exact fun h => h
    | range => exact fun h => h
    | _ => exact fun h => .inl h
  | false =>
    have hs := numR_stop (v := 0) (ok := false) hd
    rw [hs]
    split
    · rename_i u hu
      split at hu
      · cases hu
      · rename_i hne
        by_cases hl : ltrC (decodeL l) = true
        · have hld : ldC (decodeL l) = true := by unfold ldC; rw [hl]; simp
          obtain ⟨c, r, rfl, t, ht⟩ := take_cons (ne_of_ld hld) hld
          rw [ht] at hu
          simp only [parseUint10] at hu
          rw [if_neg (fun hx => by rw [dgt_byte hx.1 hx.2] at hd; cases hd)] at hu
          cases hu
        · exfalso
          apply hne
          rw [run_stop (by unfold ldC; rw [hd, show ltrC (decodeL l) = false from by simpa using hl]; rfl)]
          rfl
    · exact .inr rfl
    · exact .inr rfl

def numFin (e : NumEnd Int) (n : Nat) : Option (Nat × List UInt8 × Int × Nat) :=
  match e with
  | .ok v => if -1099511627776 ≤ v ∧ v ≤ 1099511627776 then some (2, [], v, n) else none
  | _ => none
theorem numTok_fin (l : List UInt8) : numTok l = numFin (atoiAll (l.take ((if l.head? = some 45 then 1 else 0) + run (l.drop (if l.head? = some 45 then 1 else 0))))) ((if l.head? = some 45 then 1 else 0) + run (l.drop (if l.head? = some 45 then 1 else 0))) := rfl
theorem fin_ok (v : Int) (n : Nat) (h : -1099511627776 ≤ v ∧ v ≤ 1099511627776) : numFin (.ok v) n = some (2, [], v, n) := if_pos h
theorem fin_out (v : Int) (n : Nat) (h : ¬ (-1099511627776 ≤ v ∧ v ≤ 1099511627776)) : numFin (.ok v) n = none := if_neg h
/-- The number at the front, digit by digit. -/
theorem numTok_plain (l : List UInt8) (hd : dgtC (decodeL l) = true) :
    numTok l = if (numR l 0 true).2.1 = true ∧ (numR l 0 true).2.2.1 = false then some (2, [], (((numR l 0 true).1 : Nat) : Int), (numR l 0 true).2.2.2) else none := by
  obtain ⟨c, r, rfl, e, h1, h2⟩ := dgt_cons hd
  have hne : (c :: r).head? ≠ some 45 := by
    intro h
    simp only [List.head?_cons, Option.some.injEq] at h
    rw [h] at h1
    revert h1; decide
  have hld : ldC (decodeL (c :: r)) = true := by unfold ldC; rw [hd]; rfl
  have hm := mag_num (c :: r)
  have hrun := numR_run (c :: r) 0 true
  have hle := numR_le (c :: r) 0 true (by omega)
  rw [hd] at hm
  rw [numTok_fin]
  simp only [if_neg hne, List.drop_zero, Nat.zero_add]
  obtain ⟨c', r', e', t, ht⟩ := take_cons (l := c :: r) (by simp) hld
  injection e' with e1 e2
  subst e1; subst e2
  rw [ht] at hm ⊢
  rw [atoiAll_plain c t (by omega) (by omega)]
  revert hm
  generalize numR (c :: r) 0 true = x at *
  cases parseMag (c :: t) with
  | ok u =>
    intro hm
    obtain ⟨m1, m2, m3⟩ := hm
    unfold signless
    by_cases hx : x.2.1 = true
    · have := m2 hx
      rw [if_pos ⟨hx, m1⟩, hrun m1]
      dsimp only
      rw [if_neg (by omega), fin_ok _ _ (by omega), this]
    · have := m3 (by simpa using hx)
      rw [if_neg (fun h => hx h.1)]
      dsimp only
      by_cases hb : 9223372036854775808 ≤ u
      · rw [if_pos hb]; rfl
      · rw [if_neg hb, fin_out _ _ (by omega)]
  | _ => intro hm; rw [if_neg (fun h => by rcases hm with h' | h' <;> simp [h'] at h)]; rfl
theorem numTok_minus (r : List UInt8) :
    numTok (45 :: r) = if (numR r 0 (dgtC (decodeL r))).2.1 = true ∧ (numR r 0 (dgtC (decodeL r))).2.2.1 = false then some (2, [], -(((numR r 0 (dgtC (decodeL r))).1 : Nat) : Int), 1 + (numR r 0 (dgtC (decodeL r))).2.2.2) else none := by
  have hm := mag_num r
  have hrun := numR_run r 0 (dgtC (decodeL r))
  have hle := numR_le r 0 (dgtC (decodeL r)) (by omega)
  rw [numTok_fin]
  simp only [List.head?_cons, if_true, List.drop_succ_cons, List.drop_zero]
  rw [Nat.add_comm 1 (run r), List.take_succ_cons, atoiAll_minus]
  revert hm
  generalize numR r 0 (dgtC (decodeL r)) = x at *
  cases parseMag (r.take (run r)) with
  | ok u =>
    intro hm
    obtain ⟨m1, m2, m3⟩ := hm
    unfold signed
    by_cases hx : x.2.1 = true
    · have := m2 hx
      rw [if_pos ⟨hx, m1⟩, hrun m1, Nat.add_comm 1 (run r)]
      dsimp only
      rw [if_neg (by omega), fin_ok _ _ (by omega), this]
    · have := m3 (by simpa using hx)
      rw [if_neg (fun h => hx h.1)]
      dsimp only
      by_cases hb : 9223372036854775808 < u
      · rw [if_pos hb]; rfl
      · rw [if_neg hb, fin_out _ _ (by omega)]
  | _ => intro hm; rw [if_neg (fun h => by rcases hm with h' | h' <;> simp [h'] at h)]; rfl
end Go.Proofs.YtdbdlgmejddbhaaDoor
