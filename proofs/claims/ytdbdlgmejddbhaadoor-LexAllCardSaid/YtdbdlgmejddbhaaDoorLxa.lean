/-
  Plain words on the words of a text: what a token is, and how the tokens of a text follow one another.
-/
import Derived.Test.YtdbdlgmejddbhaaDoorRn4
import Derived.Lib.MapLaws
import Derived.Lib.AtoiAll
import Derived.Lib.TrimAscii
import Derived.Lib.Strings
set_option linter.unusedVariables false
namespace Go.Proofs.YtdbdlgmejddbhaaDoor
open Go Go.Lib

/-- Of a code point, by its number and its width: a letter as lex has it; a digit; a blank; a sign. -/
def ltrC (d : Nat × Nat) : Bool := letterB (d.1, 0, d.2) || (decide (65 ≤ d.1) && decide (d.1 ≤ 90))
def dgtC (d : Nat × Nat) : Bool := decide (48 ≤ d.1) && decide (d.1 ≤ 57)
def ldC (d : Nat × Nat) : Bool := dgtC d || ltrC d
def blankB (c : Nat) : Bool := c == 32 || c == 9 || c == 10 || c == 13
def signB (c : Nat) : Bool := c == 40 || c == 41 || c == 44 || c == 59 || c == 61 || c == 42

/-- How many bytes the letters and digits at the front have. -/
def runF : Nat → List UInt8 → Nat
  | 0, _ => 0
  | f + 1, l => if ldC (decodeL l) then (decodeL l).2 + runF f (l.drop (decodeL l).2) else 0
def run (l : List UInt8) : Nat := runF l.length l

theorem decodeL_nil : decodeL [] = (0, 1) := by decide
theorem ne_of_dec {l : List UInt8} (h : (decodeL l).1 ≠ 0) : l ≠ [] := by
  intro h0
  rw [h0, decodeL_nil] at h
  exact h rfl
theorem ne_of_ld {l : List UInt8} (h : ldC (decodeL l) = true) : l ≠ [] := by
  intro h0
  rw [h0, decodeL_nil] at h
  revert h
  decide
theorem wd_pos (l : List UInt8) : 1 ≤ (decodeL l).2 := decodeL_width l
theorem drop_lt {l : List UInt8} (h : l ≠ []) : (l.drop (decodeL l).2).length < l.length := by
  have h1 := wd_pos l
  have h2 := List.length_pos_iff.2 h
  rw [List.length_drop]
  omega

theorem runF_fuel : ∀ f g (l : List UInt8), l.length ≤ f → l.length ≤ g → runF f l = runF g l
  | 0, g, l, h, _ => by
    have h0 : l = [] := List.length_eq_zero_iff.1 (by omega)
    subst h0
    cases g with
    | zero => rfl
    | succ g => simp only [runF]; rw [decodeL_nil]; rfl
  | f + 1, 0, l, _, h => by
    have h0 : l = [] := List.length_eq_zero_iff.1 (by omega)
    subst h0
    simp only [runF]; rw [decodeL_nil]; rfl
  | f + 1, g + 1, l, h, h' => by
    simp only [runF]
    by_cases hc : ldC (decodeL l) = true
    · have := drop_lt (ne_of_ld hc)
      rw [if_pos hc, if_pos hc, runF_fuel f g _ (by omega) (by omega)]
    · rw [if_neg hc, if_neg hc]

theorem run_step {l : List UInt8} (h : ldC (decodeL l) = true) : run l = (decodeL l).2 + run (l.drop (decodeL l).2) := by
  have h1 := drop_lt (ne_of_ld h)
  have h2 := List.length_pos_iff.2 (ne_of_ld h)
  obtain ⟨f, hf⟩ : ∃ f, l.length = f + 1 := ⟨l.length - 1, by omega⟩
  unfold run
  rw [hf]
  simp only [runF]
  rw [if_pos h, runF_fuel f _ _ (by omega) (Nat.le_refl _)]
theorem run_stop {l : List UInt8} (h : ldC (decodeL l) = false) : run l = 0 := by
  unfold run
  cases l.length with
  | zero => rfl
  | succ f => simp only [runF]; rw [h]; rfl
theorem run_pos {l : List UInt8} (h : ldC (decodeL l) = true) : 0 < run l := by
  rw [run_step h]
  have := wd_pos l
  omega
theorem wd_le {l : List UInt8} (h : l ≠ []) : (decodeL l).2 ≤ l.length := decodeL_le l h
theorem len_ind {P : List UInt8 → Prop} (h : ∀ l, (l ≠ [] → P (l.drop (decodeL l).2)) → P l) (l : List UInt8) : P l := by
  obtain ⟨n, hn⟩ : ∃ n, l.length ≤ n := ⟨_, Nat.le_refl _⟩
  induction n generalizing l with
  | zero =>
    have h0 : l = [] := List.length_eq_zero_iff.1 (by omega)
    exact h l (fun h1 => absurd h0 h1)
  | succ n ih =>
    exact h l (fun h1 => ih _ (by have := drop_lt h1; omega))
theorem run_le (l : List UInt8) : run l ≤ l.length := by
  induction l using len_ind with
  | h l ih =>
    by_cases hc : ldC (decodeL l) = true
    · have h0 := ne_of_ld hc
      have := ih h0
      have := wd_le h0
      rw [run_step hc]
      rw [List.length_drop] at *
      omega
    · rw [run_stop (by simpa using hc)]
      omega

/-- How many bytes there are up to the end of the line. -/
def lineLen (l : List UInt8) : Nat := (l.takeWhile (fun c => c != 10)).length

/-- The number at the front: what it is, and how many bytes it has. -/
def numTok (l : List UInt8) : Option (Nat × List UInt8 × Int × Nat) :=
  match atoiAll (l.take ((if l.head? = some 45 then 1 else 0) + run (l.drop (if l.head? = some 45 then 1 else 0)))) with
  | .ok v => if -1099511627776 ≤ v ∧ v ≤ 1099511627776 then some (2, [], v, (if l.head? = some 45 then 1 else 0) + run (l.drop (if l.head? = some 45 then 1 else 0))) else none
  | _ => none
def textTok (l : List UInt8) : Option (Nat × List UInt8 × Int × Nat) :=
  match unq (l.drop 1) with
  | some x => if x.1.length ≤ 100 ∧ validB ⟨x.1.toArray⟩ = true then some (3, x.1, 0, 1 + x.2) else none
  | none => none
def wordTok (l : List UInt8) : Option (Nat × List UInt8 × Int × Nat) :=
  if run l ≤ 100 then some (1, foldL (l.take (run l)), 0, run l) else none
/-- The token at the front: its kind, its text, its number, how many bytes it has. -/
def tok (l : List UInt8) : Option (Nat × List UInt8 × Int × Nat) :=
  if (decodeL l).1 = 39 then textTok l
  else if (decodeL l).1 = 45 ∨ dgtC (decodeL l) = true then numTok l
  else if ltrC (decodeL l) = true then wordTok l
  else if signB (decodeL l).1 = true then some (4, [UInt8.ofNat (decodeL l).1], 0, 1) else none

/-- A token: its kind, its text, its number, its place. -/
abbrev Tk4 := Nat × List UInt8 × Int × Nat
def cons1 (t : Nat × List UInt8 × Int × Nat) (n : Nat) (r : Except Nat (List Tk4)) : Except Nat (List Tk4) :=
  match r with
  | .ok L => .ok ((t.1, t.2.1, t.2.2.1, n) :: L)
  | .error e => .error e
/-- The tokens from here on: n is the number of the next code point; k bytes are taken already. -/
def lexK : Nat → List UInt8 → Nat → Nat → Except Nat (List Tk4)
  | 0, _, _, _ => .ok []
  | f + 1, l, n, k =>
    if l = [] then .ok []
    else if 0 < k then lexK f (l.drop (decodeL l).2) (n + 1) (k - (decodeL l).2)
    else if blankB (decodeL l).1 then lexK f (l.drop (decodeL l).2) (n + 1) 0
    else if l.take 2 = [45, 45] then lexK f (l.drop (decodeL l).2) (n + 1) (lineLen l - (decodeL l).2)
    else match tok l with
      | none => .error n
      | some t => cons1 t n (lexK f (l.drop (decodeL l).2) (n + 1) (t.2.2.2 - (decodeL l).2))
def lx (l : List UInt8) (n k : Nat) : Except Nat (List Tk4) := lexK l.length l n k

theorem lexK_nil (f n k : Nat) : lexK f [] n k = .ok [] := by
  cases f with
  | zero => rfl
  | succ f => simp [lexK]
theorem lexK_fuel : ∀ f g (l : List UInt8) (n k : Nat), l.length ≤ f → l.length ≤ g → lexK f l n k = lexK g l n k
  | 0, g, l, n, k, h, _ => by
    have h0 : l = [] := List.length_eq_zero_iff.1 (by omega)
    subst h0
    rw [lexK_nil, lexK_nil]
  | f + 1, 0, l, n, k, _, h => by
    have h0 : l = [] := List.length_eq_zero_iff.1 (by omega)
    subst h0
    rw [lexK_nil, lexK_nil]
  | f + 1, g + 1, l, n, k, h, h' => by
    by_cases h0 : l = []
    · subst h0
      rw [lexK_nil, lexK_nil]
    have hd := drop_lt h0
    have e : ∀ n k, lexK f (l.drop (decodeL l).2) n k = lexK g (l.drop (decodeL l).2) n k := fun n k => lexK_fuel f g _ n k (by omega) (by omega)
    simp only [lexK, e]
theorem lx_eq {l : List UInt8} (h : l ≠ []) (n k : Nat) : lx l n k =
    if 0 < k then lx (l.drop (decodeL l).2) (n + 1) (k - (decodeL l).2)
    else if blankB (decodeL l).1 then lx (l.drop (decodeL l).2) (n + 1) 0
    else if l.take 2 = [45, 45] then lx (l.drop (decodeL l).2) (n + 1) (lineLen l - (decodeL l).2)
    else match tok l with
      | none => .error n
      | some t => cons1 t n (lx (l.drop (decodeL l).2) (n + 1) (t.2.2.2 - (decodeL l).2)) := by
  have h2 := List.length_pos_iff.2 h
  have hd := drop_lt h
  obtain ⟨f, hf⟩ : ∃ f, l.length = f + 1 := ⟨l.length - 1, by omega⟩
  have e : ∀ n k, lx (l.drop (decodeL l).2) n k = lexK f (l.drop (decodeL l).2) n k := fun n k => lexK_fuel _ _ _ _ _ (Nat.le_refl _) (by omega)
  simp only [e]
  unfold lx
  rw [hf]
  simp only [lexK, if_neg h]
theorem lx_nil (n k : Nat) : lx [] n k = .ok [] := rfl
theorem lx_skip {l : List UInt8} (h : l ≠ []) {n k : Nat} (hk : 0 < k) : lx l n k = lx (l.drop (decodeL l).2) (n + 1) (k - (decodeL l).2) := by
  rw [lx_eq h, if_pos hk]
theorem lx_blank {l : List UInt8} (n : Nat) (hb : blankB (decodeL l).1 = true) : lx l n 0 = lx (l.drop (decodeL l).2) (n + 1) 0 := by
  have h : l ≠ [] := ne_of_dec (by intro h0; rw [h0] at hb; revert hb; decide)
  rw [lx_eq h, if_neg (by omega), if_pos hb]
theorem dec45 {l : List UInt8} (h : l.take 2 = [45, 45]) : (decodeL l) = (45, 1) ∧ ∃ r, l = 45 :: 45 :: r := by
  match l, h with
  | a :: b :: r, h =>
    simp only [List.take_succ_cons, List.take_zero, List.cons.injEq, and_true] at h
    obtain ⟨rfl, rfl⟩ := h
    exact ⟨decodeL_ascii _ _ (by decide), r, rfl⟩
  | [a], h => simp at h
  | [], h => simp at h
theorem lx_line {l : List UInt8} (n : Nat) (hb : l.take 2 = [45, 45]) : lx l n 0 = lx l n (lineLen l) := by
  obtain ⟨hd, r, rfl⟩ := dec45 hb
  have h : (45 :: 45 :: r : List UInt8) ≠ [] := by simp
  rw [lx_eq h, if_neg (by omega), if_neg (by rw [hd]; decide), if_pos hb, lx_skip h (k := lineLen (45 :: 45 :: r)) (by simp [lineLen])]
theorem tok_len {l : List UInt8} {t : Nat × List UInt8 × Int × Nat} (h : tok l = some t) : 0 < t.2.2.2 := by
  unfold tok at h
  split at h
  · unfold textTok at h
    split at h
    · split at h
      · injection h with h; subst h; dsimp only; omega
      · cases h
    · cases h
  · rename_i h39
    split at h
    · rename_i h1
      unfold numTok at h
      split at h
      · split at h
        · injection h with h; subst h
          dsimp only
          rcases h1 with h1 | h1
          · have : l.head? = some 45 := by
              have h0 : l ≠ [] := ne_of_dec (by omega)
              obtain ⟨a, t, rfl⟩ := List.exists_cons_of_ne_nil h0
              have hb : a.toNat < 128 ∨ 128 ≤ a.toNat := by omega
              rcases hb with hb | hb
              · rw [decodeL_ascii a t hb] at h1
                dsimp only at h1
                rw [show a = UInt8.ofNat 45 from by apply UInt8.toNat_inj.1; rw [h1]; rfl]
                rfl
              · exfalso
                rw [decodeL_N] at h1
                have := decodeN_shape (a :: t).length ((a :: t).getD 0 0).toNat ((a :: t).getD 1 0).toNat ((a :: t).getD 2 0).toNat ((a :: t).getD 3 0).toNat
                have ha : ((a :: t).getD 0 0).toNat = a.toNat := rfl
                rw [ha] at this h1
                rcases this with ⟨c, e⟩ | ⟨c1, c2, c3, cv, e⟩ | ⟨c1, c2, c3, c4, cv, cs, e⟩ | ⟨c1, c2, c3, c4, c5, cv, cw, e⟩ | e <;> rw [e] at h1 <;> dsimp only at h1 <;> omega
            rw [this]; simp; omega
          · have h2 : ldC (decodeL l) = true := by unfold ldC; rw [h1]; rfl
            have := run_pos h2
            by_cases hh : l.head? = some 45
            · rw [if_pos hh]; omega
            · rw [if_neg hh, List.drop_zero]; omega
        · cases h
      · cases h
    · split at h
      · rename_i h1
        unfold wordTok at h
        split at h
        · injection h with h; subst h
          exact run_pos (by unfold ldC; rw [h1]; simp)
        · cases h
      · split at h
        · injection h with h; subst h; dsimp only; omega
        · cases h
theorem lx_tok {l : List UInt8} {t : Nat × List UInt8 × Int × Nat} (n : Nat) (h : l ≠ []) (hb : blankB (decodeL l).1 = false) (hc : l.take 2 ≠ [45, 45]) (ht : tok l = some t) : lx l n 0 = cons1 t n (lx l n t.2.2.2) := by
  rw [lx_eq h, if_neg (by omega), if_neg (by rw [hb]; simp), if_neg hc, ht, lx_skip h (k := t.2.2.2) (tok_len ht)]
theorem lx_none {l : List UInt8} (n : Nat) (h : l ≠ []) (hb : blankB (decodeL l).1 = false) (hc : l.take 2 ≠ [45, 45]) (ht : tok l = none) : lx l n 0 = .error n := by
  rw [lx_eq h, if_neg (by omega), if_neg (by rw [hb]; simp), if_neg hc, ht]
end Go.Proofs.YtdbdlgmejddbhaaDoor
