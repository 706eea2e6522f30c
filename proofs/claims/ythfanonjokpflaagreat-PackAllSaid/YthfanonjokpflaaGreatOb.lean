/-
  Plain words: numbers and texts as bytes that stand in their order. No program is named here.
-/
import Derived.Lib.BitFns
import Derived.Lib.ItoaNum
set_option linter.unusedVariables false
namespace Go.Proofs.YthfanonjokpflaaGreat
open Go

/-- The lowest n bytes of v, the highest first. -/
def be (v : Nat) : Nat → List UInt8
  | 0 => []
  | n + 1 => UInt8.ofNat (v / 256 ^ n) :: be v n
theorem be_length (v : Nat) : ∀ n, (be v n).length = n
  | 0 => rfl
  | n + 1 => by rw [be, List.length_cons, be_length v n]

/-- The number that bytes are, the highest first. -/
def vlF (a : Nat) (l : List UInt8) : Nat := l.foldl (fun a c => a * 256 + c.toNat) a
def vl (l : List UInt8) : Nat := vlF 0 l
theorem vlF_cons (a : Nat) (c : UInt8) (l : List UInt8) : vlF a (c :: l) = vlF (a * 256 + c.toNat) l := rfl
theorem vlF_eq : ∀ (l : List UInt8) (a : Nat), vlF a l = a * 256 ^ l.length + vl l
  | [], a => by simp [vlF, vl]
  | c :: l, a => by
    rw [vlF_cons, vlF_eq l, show vl (c :: l) = vlF (0 * 256 + c.toNat) l from rfl, vlF_eq l (0 * 256 + c.toNat), List.length_cons, Nat.pow_succ]
    rw [Nat.add_mul, Nat.zero_mul, Nat.zero_add, Nat.mul_assoc, Nat.mul_comm 256, Nat.add_assoc]
theorem vl_snoc (l : List UInt8) (c : UInt8) : vl (l ++ [c]) = vl l * 256 + c.toNat := by
  unfold vl vlF
  rw [List.foldl_append]
  rfl
theorem vl_cons (c : UInt8) (l : List UInt8) : vl (c :: l) = c.toNat * 256 ^ l.length + vl l := by
  rw [show vl (c :: l) = vlF (0 * 256 + c.toNat) l from rfl, vlF_eq, Nat.zero_mul, Nat.zero_add]
theorem vl_lt : ∀ l : List UInt8, vl l < 256 ^ l.length
  | [] => by simp [vl, vlF]
  | c :: l => by
    have h1 := vl_lt l
    have h2 := c.toNat_lt
    rw [vl_cons, List.length_cons, Nat.pow_succ]
    have h3 : c.toNat * 256 ^ l.length ≤ 255 * 256 ^ l.length := Nat.mul_le_mul_right _ (by omega)
    omega
theorem vl_be (v : Nat) : ∀ n, vl (be v n) = v % 256 ^ n
  | 0 => by simp [be, vl, vlF, Nat.mod_one]
  | n + 1 => by
    rw [be, vl_cons, be_length, vl_be v n, UInt8.toNat_ofNat']
    rw [show (2 : Nat) ^ 8 = 256 from rfl, Nat.mul_comm, Nat.pow_succ, Nat.add_comm, Nat.mod_mul]
theorem be_vl : ∀ l : List UInt8, be (vl l) l.length = l
  | [] => rfl
  | c :: l => by
    have h1 := vl_lt l
    have hp : 0 < 256 ^ l.length := Nat.pow_pos (by omega)
    have e : ∀ a b n : Nat, be (a * 256 ^ n + b) n = be b n := by
      intro a b n
      have g : ∀ m, m ≤ n → be (a * 256 ^ n + b) m = be b m := by
        intro m
        induction m with
        | zero => intro _; rfl
        | succ m ih =>
          intro hm
          rw [be, be, ih (by omega)]
          congr 1
          apply UInt8.toNat_inj.1
          rw [UInt8.toNat_ofNat', UInt8.toNat_ofNat']
          obtain ⟨k, rfl⟩ : ∃ k, n = m + 1 + k := ⟨n - (m + 1), by omega⟩
          rw [show a * 256 ^ (m + 1 + k) + b = b + 256 ^ m * (256 * (a * 256 ^ k)) from by
            rw [Nat.pow_add, Nat.pow_succ, Nat.add_comm]; congr 1; ac_rfl]
          rw [Nat.add_mul_div_left _ _ (Nat.pow_pos (by omega)), show (2 : Nat) ^ 8 = 256 from rfl, Nat.add_mul_mod_self_left]
      exact g n (Nat.le_refl n)
    rw [List.length_cons, be, vl_cons, e, be_vl l]
    congr 1
    apply UInt8.toNat_inj.1
    rw [UInt8.toNat_ofNat', Nat.mul_comm, Nat.mul_add_div hp, Nat.div_eq_of_lt h1]
    have := c.toNat_lt
    omega

/-- How many bytes a number has. -/
def nb (v : Nat) : Nat := (Lib.bitLen v + 7) / 8
theorem bitLen_facts (v : Nat) (h : v < 18446744073709551616) : Lib.bitLen v ≤ 64 ∧ v < 2 ^ Lib.bitLen v ∧ (v ≠ 0 → 1 ≤ Lib.bitLen v ∧ 2 ^ (Lib.bitLen v - 1) ≤ v) := by
  by_cases h0 : v = 0
  · subst h0
    exact ⟨by decide, by decide, fun h => absurd rfl h⟩
  · have := Lib.bitLenAux_bounds 64 v (by simpa using h) h0
    exact ⟨Lib.bitLen_le v 64 (by omega) (by simpa using h), this.2.2, fun _ => ⟨this.1, this.2.1⟩⟩
theorem nb_facts (v : Nat) (h : v < 18446744073709551616) : nb v ≤ 8 ∧ v < 256 ^ nb v ∧ (v ≠ 0 → 1 ≤ nb v ∧ 256 ^ (nb v - 1) ≤ v) := by
  obtain ⟨h1, h2, h3⟩ := bitLen_facts v h
  unfold nb
  refine ⟨by omega, ?_, fun h0 => ?_⟩
  · refine Nat.lt_of_lt_of_le h2 ?_
    rw [show (256 : Nat) = 2 ^ 8 from rfl, ← Nat.pow_mul]
    exact Nat.pow_le_pow_right (by omega) (by omega)
  · obtain ⟨h4, h5⟩ := h3 h0
    refine ⟨by omega, Nat.le_trans ?_ h5⟩
    rw [show (256 : Nat) = 2 ^ 8 from rfl, ← Nat.pow_mul]
    exact Nat.pow_le_pow_right (by omega) (by omega)
theorem nb_zero : nb 0 = 0 := by decide
/-- It is the one number of bytes that is right. -/
theorem nb_unique (v k : Nat) (h : v < 18446744073709551616) (h1 : v < 256 ^ k) (h2 : k ≠ 0 → 256 ^ (k - 1) ≤ v) : nb v = k := by
  obtain ⟨g1, g2, g3⟩ := nb_facts v h
  by_cases h0 : v = 0
  · subst h0
    rw [nb_zero]
    by_cases hk : k = 0
    · exact hk.symm
    · have := h2 hk
      have hp : 0 < 256 ^ (k - 1) := Nat.pow_pos (by omega)
      omega
  · obtain ⟨g4, g5⟩ := g3 h0
    rcases Nat.lt_trichotomy (nb v) k with hlt | heq | hgt
    · have a := h2 (by omega)
      have b : 256 ^ nb v ≤ 256 ^ (k - 1) := Nat.pow_le_pow_right (by omega) (by omega)
      omega
    · exact heq
    · have b : 256 ^ k ≤ 256 ^ (nb v - 1) := Nat.pow_le_pow_right (by omega) (by omega)
      omega
theorem nb_step (v : Nat) (h : v < 18446744073709551616) (h0 : v ≠ 0) : nb v = nb (v / 256) + 1 := by
  obtain ⟨g1, g2, g3⟩ := nb_facts (v / 256) (by omega)
  refine nb_unique v _ h ?_ (fun _ => ?_)
  · rw [Nat.pow_succ]
    omega
  · rw [Nat.add_sub_cancel]
    by_cases hz : v / 256 = 0
    · rw [hz, nb_zero]; omega
    · obtain ⟨g4, g5⟩ := g3 hz
      have e : 256 ^ nb (v / 256) = 256 ^ (nb (v / 256) - 1) * 256 := by rw [← Nat.pow_succ]; congr 1; omega
      rw [e]
      omega

/-- A number as bytes. -/
def numL (v : Nat) : List UInt8 := UInt8.ofNat (nb v) :: be v (nb v)
theorem numL_length (v : Nat) : (numL v).length = nb v + 1 := by rw [numL, List.length_cons, be_length]
theorem be_append (v : Nat) : ∀ n, be (v / 256) n ++ [UInt8.ofNat v] = be v (n + 1)
  | 0 => by simp [be]
  | n + 1 => by
    rw [be, List.cons_append, be_append v n, be.eq_2 v (n + 1)]
    congr 1
    rw [Nat.pow_succ, Nat.mul_comm, Nat.div_div_eq_div_mul]

/-- The number at a place: its value, the place behind, what is wrong. -/
def gnum (l : List UInt8) (i : Int) : Nat × Int × Int :=
  if i < 0 ∨ (l.length : Int) < i then (0, 0, 1)
  else match l.drop i.toNat with
  | [] => (0, 0, 8)
  | c :: r => if 8 < c.toNat ∨ (0 < c.toNat ∧ r.head? = some 0) then (0, 0, 6) else if r.length < c.toNat then (0, 0, 8) else (vl (r.take c.toNat), (i.toNat + 1 + c.toNat : Nat), 0)

/-- What is read of an escaped text: the text and how many bytes it takes, or what is wrong. -/
def unesc : List UInt8 → Except Int (List UInt8 × Nat)
  | [] => .error 8
  | [_] => .error 8
  | c :: d :: r => if c = 0 then (if d = 1 then .ok ([], 2) else if d = 255 then (unesc r).map (fun x => (0 :: x.1, 2 + x.2)) else .error 6) else (unesc (d :: r)).map (fun x => (c :: x.1, 1 + x.2))
theorem unesc_one (c : UInt8) (r : List UInt8) (h : c ≠ 0) : unesc (c :: r) = (unesc r).map (fun x => (c :: x.1, 1 + x.2)) := by
  cases r with
  | nil => rfl
  | cons d r => rw [unesc, if_neg h]
theorem unesc_null (r : List UInt8) : unesc (0 :: 255 :: r) = (unesc r).map (fun x => (0 :: x.1, 2 + x.2)) := by
  rw [unesc, if_pos rfl, if_neg (by decide), if_pos rfl]
theorem unesc_bad (d : UInt8) (r : List UInt8) (h1 : d ≠ 1) (h2 : d ≠ 255) : unesc (0 :: d :: r) = .error 6 := by
  rw [unesc, if_pos rfl, if_neg h1, if_neg h2]
/-- Bytes that are not 0 are themselves. -/
theorem unesc_run : ∀ (p r : List UInt8), (∀ c ∈ p, c ≠ 0) → unesc (p ++ r) = (unesc r).map (fun x => (p ++ x.1, p.length + x.2))
  | [], r, _ => by
    rw [List.nil_append]
    cases unesc r <;> simp [Except.map]
  | c :: p, r, h => by
    rw [List.cons_append, unesc_one c _ (h c (by simp)), unesc_run p r (fun x hx => h x (by simp [hx]))]
    cases unesc r with
    | error e => rfl
    | ok x => simp [Except.map]; omega
theorem unesc_short (p : List UInt8) (h : ∀ c ∈ p, c ≠ 0) : unesc p = .error 8 := by
  have := unesc_run p [] h
  rw [List.append_nil] at this
  rw [this]; rfl

end Go.Proofs.YthfanonjokpflaaGreat
