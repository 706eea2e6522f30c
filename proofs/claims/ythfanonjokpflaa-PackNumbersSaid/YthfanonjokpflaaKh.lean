/-
  Plain: a reading under way: where it is, what is wrong; what a step of it says (chapter 9's reader, and any that goes on so).
-/
import Derived.Test.YthfanonjokpflaaKe
set_option linter.unusedVariables false
set_option linter.unusedSimpArgs false
namespace Go.Proofs.Ythfanonjokpflaa
open Go

/-- From place 'i', 'e' wrong so far, 'p' has read x and is at 'j', 'f' wrong. -/
structure Went {α : Type} (p : Pz α) (l : Bs) (i : Nat) (e : Int) (x : α) (j : Nat) (f : Int) : Prop where
  le : f = 0 → i ≤ j
  len : j ≤ l.length
  stays : e ≠ 0 → f = e
  ok : e = 0 → f = 0 → p (l.drop i) = .ok (x, l.drop j)
  no : e = 0 → f ≠ 0 → p (l.drop i) = .error f
section
variable {α β : Type} {p : Pz α} {l : Bs} {i j k : Nat} {e f g : Int} {x : α} {y : β}
theorem Went.bind {q : α → Pz β} (h : Went p l i e x j f) (h' : Went (q x) l j f y k g) : Went (bindP p q) l i e y k g where
  le := fun hg => by
    have hf : f = 0 := by
      refine Decidable.byContradiction fun hf => ?_
      exact hf (by rw [← h'.stays hf]; exact hg)
    exact Nat.le_trans (h.le hf) (h'.le hg)
  len := h'.len
  stays := fun he => by
    have := h.stays he
    rw [h'.stays (by rw [this]; exact he), this]
  ok := fun he hg => by
    have hf : f = 0 := by
      refine Decidable.byContradiction fun hf => ?_
      exact hf (by rw [← h'.stays hf]; exact hg)
    rw [bind_ok (h.ok he hf)]
    exact h'.ok hf hg
  no := fun he hg => by
    by_cases hf : f = 0
    · rw [bind_ok (h.ok he hf)]
      exact h'.no hf hg
    · rw [h'.stays hf]
      exact bind_err (h.no he hf)
theorem Went.ret (x : α) (hi : i ≤ l.length) (e : Int) : Went (retP x) l i e x i e := ⟨fun _ => Nat.le_refl _, hi, fun _ => rfl, fun _ _ => rfl, fun h h' => absurd h h'⟩
theorem Went.map {q : α → β} (h : Went p l i e x j f) : Went (bindP p fun x => retP (q x)) l i e (q x) j f := h.bind (Went.ret (q x) h.len f)
/-- Something is wrong here. -/
theorem Went.wrong (x : α) (c : Int) (hc : c ≠ 0) (hi : i ≤ l.length) (hp : e = 0 → p (l.drop i) = .error c) : Went p l i e x i (if e = 0 then c else e) := by
  refine ⟨fun _ => Nat.le_refl _, hi, fun he => if_neg he, fun he hf => ?_, fun he hf => ?_⟩
  · rw [if_pos he] at hf; exact absurd hf hc
  · rw [if_pos he]; exact hp he
/-- Where something is wrong a reader may be anywhere. -/
theorem Went.bad (x : α) (c : Int) (hc : c ≠ 0) (hj : j ≤ l.length) (hp : p (l.drop i) = .error c) : Went p l i 0 x j c := ⟨fun h => absurd h hc, hj, fun h => absurd rfl h, fun _ h => absurd h hc, fun _ _ => hp⟩
theorem Went.lost (x : α) (he : e ≠ 0) (hj : j ≤ l.length) : Went p l i e x j e := ⟨fun h => absurd h he, hj, fun _ => rfl, fun h => absurd h he, fun h => absurd h he⟩
/-- Nothing more is read where something is wrong. -/
theorem Went.off (x : α) (he : e ≠ 0) (hi : i ≤ j) (hj : j ≤ l.length) : Went p l i e x j e := ⟨fun _ => hi, hj, fun _ => rfl, fun h => absurd h he, fun h => absurd h he⟩
end
theorem Went.same {α : Type} {p q : Pz α} {l : Bs} {i j : Nat} {e f : Int} {x : α} (h : Went p l i e x j f) (hq : e = 0 → q (l.drop i) = p (l.drop i)) : Went q l i e x j f :=
  ⟨h.le, h.len, h.stays, fun he hf => (hq he).trans (h.ok he hf), fun he hf => (hq he).trans (h.no he hf)⟩
theorem gnum_raw (l : Bs) (i : Nat) (h : i ≤ l.length) : gnum l i = match rawP (l.drop i) with
    | .error c => (0, 0, c)
    | .ok x => (x.1, ((l.length - x.2.length : Nat) : Int), 0) := by
  unfold gnum
  rw [if_neg (by omega), Int.toNat_natCast]
  cases hd : l.drop i with
  | nil => rfl
  | cons c r =>
    have hl : r.length + 1 + i = l.length := by
      have := congrArg List.length hd
      rw [List.length_drop, List.length_cons] at this
      omega
    rw [rawP_cons]
    dsimp only
    split
    · rfl
    · split
      · rfl
      · rename_i h1 h2
        dsimp only
        rw [List.length_drop]
        have : i + 1 + c.toNat = l.length - (r.length - c.toNat) := by omega
        rw [this]
theorem raw_at {l : Bs} {i v : Nat} {r : Bs} (h : i ≤ l.length) (hr : rawP (l.drop i) = .ok (v, r)) : i ≤ l.length - r.length ∧ l.length - r.length ≤ l.length ∧ r = l.drop (l.length - r.length) := by
  have h1 := (raw_canon hr).1
  have h2 := congrArg List.length h1
  rw [List.length_drop, List.length_append] at h2
  refine ⟨by omega, by omega, ?_⟩
  have h3 : l.length - r.length = i + (numL v).length := by omega
  rw [h3, ← List.drop_drop, h1, List.drop_left' rfl]
end Go.Proofs.Ythfanonjokpflaa
