/-
  Plain words on numbers by their digits: what All makes of them. No program is named here.
-/
import Derived.Test.YtdbdlgmejddbhaaDoorLxd
set_option linter.unusedVariables false
namespace Go.Proofs.YtdbdlgmejddbhaaDoor
open Go Go.Lib

/-- A number's digits. -/
def decs (d : Nat) : List UInt8 := if d < 10 then [UInt8.ofNat (48 + d)] else decs (d / 10) ++ [UInt8.ofNat (48 + d % 10)]
termination_by d
decreasing_by omega
theorem decs_low {d : Nat} (h : d < 10) : decs d = [UInt8.ofNat (48 + d)] := by rw [decs, if_pos h]
theorem decs_high {d : Nat} (h : 10 ≤ d) : decs d = decs (d / 10) ++ [UInt8.ofNat (48 + d % 10)] := by rw [decs, if_neg (by omega)]
theorem ofNat_dig {k : Nat} (h : k < 10) : (UInt8.ofNat (48 + k)).toNat = 48 + k := by
  rw [UInt8.toNat_ofNat']
  omega
theorem decs_dig (d : Nat) : ∀ c ∈ decs d, 48 ≤ c.toNat ∧ c.toNat ≤ 57 := by
  induction d using Nat.strongRecOn with
  | ind d ih =>
    intro c hc
    by_cases h : d < 10
    · rw [decs_low h] at hc
      simp only [List.mem_singleton] at hc
      rw [hc, ofNat_dig h]
      omega
    · rw [decs_high (by omega)] at hc
      rcases List.mem_append.1 hc with hc | hc
      · exact ih (d / 10) (by omega) c hc
      · simp only [List.mem_singleton] at hc
        rw [hc, ofNat_dig (by omega)]
        omega
theorem decs_len (d : Nat) : ∀ k, d < 10 ^ (k + 1) → (decs d).length ≤ k + 1 := by
  induction d using Nat.strongRecOn with
  | ind d ih =>
    intro k hk
    by_cases h : d < 10
    · rw [decs_low h]; simp
    · rw [decs_high (by omega), List.length_append]
      cases k with
      | zero => simp at hk; omega
      | succ k =>
        have := ih (d / 10) (by omega) k (by rw [Nat.pow_succ] at hk; omega)
        simp
        omega
def nval (v : Nat) (D : List UInt8) : Nat := D.foldl (fun v c => 10 * v + (c.toNat - 48)) v
theorem nval_app (v : Nat) (D E : List UInt8) : nval v (D ++ E) = nval (nval v D) E := by simp [nval]
theorem nval_cons (v : Nat) (c : UInt8) (D : List UInt8) : nval v (c :: D) = nval (10 * v + (c.toNat - 48)) D := by simp only [nval, List.foldl_cons]
theorem nval_ge (D : List UInt8) : ∀ v, v ≤ nval v D := by
  induction D with
  | nil => intro v; exact Nat.le_refl _
  | cons c D ih =>
    intro v
    rw [nval_cons]
    have := ih (10 * v + (c.toNat - 48))
    omega
theorem nval_one (v : Nat) (c : UInt8) : nval v [c] = 10 * v + (c.toNat - 48) := by simp only [nval, List.foldl_cons, List.foldl_nil]
theorem nval_decs (d : Nat) : nval 0 (decs d) = d := by
  induction d using Nat.strongRecOn with
  | ind d ih =>
    by_cases h : d < 10
    · rw [decs_low h, nval_one, ofNat_dig h]
      omega
    · rw [decs_high (by omega), nval_app, ih (d / 10) (by omega), nval_one, ofNat_dig (by omega)]
      omega
theorem nval_zeros (z : Nat) : nval 0 (List.replicate z 48) = 0 := by
  induction z with
  | zero => rfl
  | succ z ih => rw [List.replicate_succ, nval_cons]; exact ih
theorem numR_digits (D : List UInt8) : ∀ (E : List UInt8) (v : Nat), (∀ c ∈ D, 48 ≤ c.toNat ∧ c.toNat ≤ 57) → dgtC (decodeL E) = false → nval v D ≤ 1099511627776 →
    numR (D ++ E) v true = (nval v D, true, ltrC (decodeL E), D.length) := by
  induction D with
  | nil => intro E v _ hE _; exact numR_stop hE
  | cons c D ih =>
    intro E v hD hE hv
    have hc := hD c (by simp)
    have hg := dgt_byte (c := c) (r := D ++ E) hc.1 hc.2
    have hd : decodeL (c :: (D ++ E)) = (c.toNat, 1) := decodeL_ascii _ _ (by omega)
    rw [nval_cons] at hv
    have hle := nval_ge D (10 * v + (c.toNat - 48))
    have hst := numR_step (l := c :: (D ++ E)) (v := v) (ok := true) hg rfl
    rw [hd] at hst
    dsimp only at hst
    rw [List.cons_append, hst, Nat.min_eq_left (by omega), decide_eq_true (by omega : 10 * v + (c.toNat - 48) ≤ 1099511627776)]
    show ((numR (D ++ E) _ (true && true)).1, (numR (D ++ E) _ (true && true)).2.1, (numR (D ++ E) _ (true && true)).2.2.1, (numR (D ++ E) _ (true && true)).2.2.2 + 1) = _
    rw [Bool.and_true, ih E _ (fun x hx => hD x (by simp [hx])) hE hv]
    rfl

theorem lx_ascii (A : List UInt8) : ∀ (E : List UInt8) (n : Nat), (∀ c ∈ A, c.toNat < 128) → lx (A ++ E) n A.length = lx E (n + A.length) 0 := by
  induction A with
  | nil => intro E n _; rfl
  | cons c A ih =>
    intro E n hA
    have hd : decodeL (c :: (A ++ E)) = (c.toNat, 1) := decodeL_ascii _ _ (hA c (by simp))
    rw [List.cons_append, lx_skip (by simp) (by simp : 0 < (c :: A).length), hd]
    show lx (A ++ E) (n + 1) (A.length + 1 - 1) = _
    rw [Nat.add_sub_cancel, ih E (n + 1) (fun x hx => hA x (by simp [hx])), List.length_cons, Nat.add_right_comm, Nat.add_assoc]
theorem lx_space (l : List UInt8) (n : Nat) : lx (32 :: l) n 0 = lx l (n + 1) 0 := by
  have hd : decodeL (32 :: l) = (32, 1) := decodeL_ascii _ _ (by decide)
  rw [lx_blank n (by rw [hd]; rfl), hd]
  rfl
/-- A token of ASCII, whole, and what follows it. -/
theorem lx_whole {A E : List UInt8} {t : Nat × List UInt8 × Int × Nat} (n : Nat) (hA : ∀ c ∈ A, c.toNat < 128) (hb : blankB (decodeL (A ++ E)).1 = false) (hc : (A ++ E).take 2 ≠ [45, 45]) (ht : tok (A ++ E) = some t) (hl : t.2.2.2 = A.length) (h0 : A ≠ []) :
    lx (A ++ E) n 0 = cons1 t n (lx E (n + A.length) 0) := by
  rw [lx_tok n (by simp [h0]) hb hc ht, hl, lx_ascii A E n hA]

theorem comma (n : Nat) : lx [44] n 0 = .ok [(4, [44], 0, n)] := by
  have hd : decodeL [44] = (44, 1) := decodeL_ascii _ _ (by decide)
  rw [lx_tok (t := (4, [44], 0, 1)) n (by simp) (by rw [hd]; rfl) (by simp) (by unfold tok; rw [hd]; decide), lx_skip (by simp) (by decide), hd]
  rfl
theorem dec_head {D E : List UInt8} (hD : ∀ c ∈ D, 48 ≤ c.toNat ∧ c.toNat ≤ 57) (h0 : D ≠ []) : ∃ c r, D ++ E = c :: r ∧ 48 ≤ c.toNat ∧ c.toNat ≤ 57 ∧ decodeL (D ++ E) = (c.toNat, 1) ∧ dgtC (decodeL (D ++ E)) = true := by
  obtain ⟨c, r, rfl⟩ := List.exists_cons_of_ne_nil h0
  have hc := hD c (by simp)
  exact ⟨c, r ++ E, rfl, hc.1, hc.2, decodeL_ascii _ _ (by omega), dgt_byte hc.1 hc.2⟩

/-- A number's text: with a sign or without, what it is, and what stands behind it. -/
theorem num_tok (D E : List UInt8) (b : Bool) (hD : ∀ c ∈ D, 48 ≤ c.toNat ∧ c.toNat ≤ 57) (h0 : D ≠ []) (hv : nval 0 D ≤ 1099511627776) (hE : dgtC (decodeL E) = false) :
    tok ((if b then [45] else []) ++ (D ++ E)) = if ltrC (decodeL E) = true then none else some (2, [], if b then -((nval 0 D : Nat) : Int) else ((nval 0 D : Nat) : Int), (if b then 1 else 0) + D.length) := by
  obtain ⟨c, r, hcr, h1, h2, hd, hg⟩ := dec_head (E := E) hD h0
  have hn := numR_digits D E 0 hD hE hv
  cases b with
  | true =>
    have hdm : decodeL (45 :: (D ++ E)) = (45, 1) := decodeL_ascii _ _ (by decide)
    show tok (45 :: (D ++ E)) = _
    unfold tok
    rw [hdm, if_neg (by decide), if_pos (.inl rfl), numTok_minus, hg, hn]
    cases ltrC (decodeL E) <;> simp
  | false =>
    show tok (D ++ E) = _
    unfold tok
    rw [if_neg (by rw [hd]; dsimp only; omega), if_pos (.inr hg), numTok_plain _ hg, hn]
    cases ltrC (decodeL E) <;> simp
theorem num_front (D E : List UInt8) (b : Bool) (hD : ∀ c ∈ D, 48 ≤ c.toNat ∧ c.toNat ≤ 57) (h0 : D ≠ []) :
    blankB (decodeL ((if b then [45] else []) ++ (D ++ E))).1 = false ∧ ((if b then [45] else []) ++ (D ++ E)).take 2 ≠ [45, 45] ∧ (if b then [45] else []) ++ (D ++ E) ≠ [] := by
  obtain ⟨c, r, hcr, h1, h2, hd, hg⟩ := dec_head (E := E) hD h0
  cases b with
  | true =>
    have hdm : decodeL (45 :: (D ++ E)) = (45, 1) := decodeL_ascii _ _ (by decide)
    refine ⟨by show blankB (decodeL (45 :: (D ++ E))).1 = false; rw [hdm]; rfl, ?_, by simp⟩
    show (45 :: (D ++ E)).take 2 ≠ _
    rw [hcr]
    intro h
    simp only [List.take_succ_cons, List.take_zero, List.cons.injEq, and_true, true_and] at h
    rw [h] at h1
    revert h1
    decide
  | false =>
    refine ⟨?_, ?_, by simp [h0]⟩
    · show blankB (decodeL (D ++ E)).1 = false
      rw [hd]
      unfold blankB
      simp
      omega
    · show (D ++ E).take 2 ≠ _
      rw [hcr]
      cases r with
      | nil => simp
      | cons x r =>
        intro h
        simp only [List.take_succ_cons, List.take_zero, List.cons.injEq, and_true] at h
        rw [h.1] at h1
        revert h1
        decide

theorem lx_number (D : List UInt8) (b : Bool) (hD : ∀ c ∈ D, 48 ≤ c.toNat ∧ c.toNat ≤ 57) (h0 : D ≠ []) (hv : nval 0 D ≤ 1099511627776) :
    ∃ m, lx (32 :: ((if b then [45] else []) ++ (D ++ [44]))) 0 0 = .ok [(2, [], if b then -((nval 0 D : Nat) : Int) else ((nval 0 D : Nat) : Int), 1), (4, [44], 0, m)] := by
  obtain ⟨f1, f2, f3⟩ := num_front D [44] b hD h0
  have ht := num_tok D [44] b hD h0 hv (by decide)
  rw [if_neg (show ¬ ltrC (decodeL [44]) = true from by decide)] at ht
  rw [← List.append_assoc] at f1 f2 ht ⊢
  refine ⟨0 + 1 + ((if b then [45] else []) ++ D : List UInt8).length, ?_⟩
  rw [lx_space, lx_whole _ ?_ f1 f2 ht ?_ (by simp [h0]), comma]
  · rfl
  · intro c hc
    rcases List.mem_append.1 hc with hc | hc
    · cases b with
      | true => simp at hc; rw [hc]; decide
      | false => simp at hc
    · have := hD c hc
      omega
  · cases b <;> simp <;> omega
theorem lx_number_x (D : List UInt8) (b : Bool) (hD : ∀ c ∈ D, 48 ≤ c.toNat ∧ c.toNat ≤ 57) (h0 : D ≠ []) (hv : nval 0 D ≤ 1099511627776) :
    lx (32 :: ((if b then [45] else []) ++ (D ++ [120]))) 0 0 = .error 1 := by
  obtain ⟨f1, f2, f3⟩ := num_front D [120] b hD h0
  have ht := num_tok D [120] b hD h0 hv (by decide)
  rw [if_pos (show ltrC (decodeL [120]) = true from by decide)] at ht
  rw [lx_space, lx_none _ f3 f1 f2 ht]
def isErr (r : Except Nat (List Tk4)) (n : Nat) : Bool := match r with
  | .ok _ => false
  | .error e => e == n
theorem err_of {r : Except Nat (List Tk4)} {n : Nat} (h : isErr r n = true) : r = .error n := by
  cases r with
  | ok L => cases h
  | error e => exact congrArg _ (by simpa [isErr] using h)
theorem lx_great (b : Bool) : lx ((if b then [45] else []) ++ [49, 48, 57, 57, 53, 49, 49, 54, 50, 55, 55, 55, 55]) 0 0 = .error 0 := by
  cases b with
  | true => exact err_of (by decide +kernel)
  | false => exact err_of (by decide +kernel)
end Go.Proofs.YtdbdlgmejddbhaaDoor
