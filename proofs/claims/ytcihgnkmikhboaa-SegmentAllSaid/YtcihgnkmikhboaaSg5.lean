/-
  Plain words for Scan: a block, and what is in it.
-/
import Derived.Test.YtcihgnkmikhboaaSg4
set_option linter.unusedVariables false
namespace Go.Proofs.Ytcihgnkmikhboaa
open Go Go.RowKit

theorem fit_take {t : List UInt8} {k r : Nat} {o : Bool} {x : List UInt8} {d : Bool} (hk : 6 + r ≤ k ∨ t.length ≤ k) : Fit (t.take k) r o x d ↔ Fit t r o x d := by
  rcases hk with hk | hk
  · constructor
    · rintro ⟨f1, f2, f3⟩
      exact ⟨f1.trans (List.take_prefix _ _), f2, f3⟩
    · rintro ⟨f1, f2, f3⟩
      refine ⟨List.prefix_take_iff.2 ⟨f1, ?_⟩, f2, f3⟩
      rw [pc_length]
      omega
  · rw [List.take_of_length_le hk]

theorem pos_in {f p : Nat} (hf : f % 128 = 0) (hp : p ≤ 121) : gap (f + p) = 0 ∧ rm (f + p) = 122 - p := by
  unfold gap rm left
  rw [if_neg (by omega), if_neg (by omega)]
  omega
theorem pos_end {f p : Nat} (hf : f % 128 = 0) (hp : 121 < p) (hp2 : p < 128) : gap (f + p) = 128 - p := by
  unfold gap left
  rw [if_pos (by omega)]
  omega

theorem puts_count : ∀ (l : List (List UInt8)) (p : Nat), l.length ≤ (puts p l).length
  | [], p => Nat.zero_le _
  | b :: l, p => by
    rw [puts, List.length_append, List.length_cons]
    have h1 := puts_count l (p + (put p b).length)
    have h2 := frm_length_ge p true b
    unfold put at *
    omega

/-- What is left of a block. -/
theorem blk_drop (s : List UInt8) (f hi p : Nat) : ((s.take hi).drop f).drop p = (s.drop (f + p)).take (hi - f - p) := by
  rw [List.drop_drop, List.drop_take, Nat.sub_sub]

section
variable {s : List UInt8} {q f p hi : Nat} {o : Bool} {a : List UInt8}
theorem Scn.blk_fit (h : Scn s q (f + p) o a) (hf : f % 128 = 0) (hp : p ≤ 121) (hh : (hi = f + 128 ∧ f + 128 ≤ s.length) ∨ hi = s.length) (x : List UInt8) (d : Bool) :
    Fit (((s.take hi).drop f).drop p) (122 - p) o x d ↔ Fit (s.drop (f + p)) (rm (f + p)) o x d := by
  rw [blk_drop, (pos_in hf hp).2]
  refine fit_take ?_
  rw [List.length_drop]
  omega
theorem Scn.blk_next (h : Scn s q (f + p) o a) (hf : f % 128 = 0) (hp : 121 < p) (hp2 : p ≤ 128) (hh : hi = f + 128) (hl : f + 128 ≤ s.length) (hz : (((s.take hi).drop f).drop p).all (· == 0) = true) : Scn s q (f + 128) o a := by
  by_cases h8 : p = 128
  · subst h8
    exact h
  · have hg := pos_end hf hp (by omega)
    have ho : o = true := by
      cases o with
      | true => rfl
      | false => have := h.al rfl; omega
    have e : f + 128 = f + p + gap (f + p) := by rw [hg]; omega
    rw [e]
    refine h.zero ho ?_
    rw [all_zero, blk_drop, List.length_take, List.length_drop] at hz
    rw [show min (hi - f - p) (s.length - (f + p)) = 128 - p from by omega, show hi - f - p = 128 - p from by omega] at hz
    rw [hg, ← hz]
    exact List.take_prefix _ _
theorem Scn.blk_last (h : Scn s q (f + p) o a) (hf : f % 128 = 0) (hp : 121 < p) (hp2 : p ≤ 128) (hl : s.length < f + 128) (b : List UInt8) : ¬ put q b <+: s.drop q := by
  have h1 := h.pl
  have hg := pos_end hf hp (by omega)
  refine h.stopZ (fun hz => ?_) b
  have := hz.length_le
  rw [List.length_replicate, List.length_drop, hg] at this
  omega
theorem Scn.blk_bad (h : Scn s q (f + p) o a) (hf : f % 128 = 0) (hp : 121 < p) (hp2 : p ≤ 128) (hh : hi ≤ f + 128) (hz : (((s.take hi).drop f).drop p).all (· == 0) = false) (b : List UInt8) : ¬ put q b <+: s.drop q := by
  have h1 := h.pl
  refine h.stopZ (fun hr => ?_) b
  rw [Bool.eq_false_iff] at hz
  apply hz
  by_cases h8 : p = 128
  · subst h8
    rw [blk_drop, show hi - f - 128 = 0 from by omega]
    rfl
  · have hg := pos_end hf hp (by omega)
    obtain ⟨u, hu⟩ := hr
    rw [blk_drop, ← hu, List.take_append_of_le_length (by rw [List.length_replicate, hg]; omega), List.take_replicate, List.all_replicate]
    split <;> rfl
end

theorem own_zero {w : World} {base n c : Nat} {e : TypeId} {A : Option Addr} {xs : List Value} (h : w.ownsRow base e 1 (.slice A n c) n xs) : w.ownsRow base e 1 (.slice A 0 c) 0 [] := by
  refine ⟨rfl, ?_⟩
  rcases h.2 with ⟨h1, h2⟩ | ⟨g, cap, cur, h1, h2, h3, h4, h5, h6, h7⟩
  · injection h1 with h1 h3 h4
    subst h1
    subst h4
    exact Or.inl ⟨rfl, rfl⟩
  · injection h1 with h1 h8 h9
    subst h1
    subst h9
    exact Or.inr ⟨g, c, cur, rfl, h2, h3, Nat.zero_le _, h5, h6, by simp⟩

/-- The lists of the texts. -/
def lists (l : List ByteArray) : List (List UInt8) := l.map fun b => b.data.toList
theorem lists_snoc (l : List ByteArray) (b : ByteArray) : lists (l ++ [b]) = lists l ++ [b.data.toList] := by
  unfold lists
  rw [List.map_append]
  rfl
theorem lists_length (l : List ByteArray) : (lists l).length = l.length := by
  unfold lists
  rw [List.length_map]
theorem lists_inj {l m : List ByteArray} (h : lists l = lists m) : l = m := by
  unfold lists at h
  exact List.map_inj_right (fun a b h => ba_ext h) |>.1 h

/-- What Scan hands back. -/
def ScanR (s : List UInt8) (w : World) (e : Ending) (w' : World) : Prop :=
  ∃ A n c l, e = .returned (.tuple #[.slice A n c, .int .i64 ((puts 0 (lists l)).length : Nat)]) ∧ Below w.heap.size w w' ∧ RdS w' w'.heap.size A n l ∧ n ≤ c ∧ c ≤ maxLen ∧ (A = none → c = 0) ∧ Ans s (lists l)

/-- Where the scan stands at a block's begin. -/
def AtBlock (s : List UInt8) (q f : Nat) (o : Bool) (a : List UInt8) : Prop := (Scn s q f o a ∨ (s.length ≤ f ∧ ∀ b, ¬ put q b <+: s.drop q))
end Go.Proofs.Ytcihgnkmikhboaa
