/-
  What a call keeps: all but the blocks of one thing, and how that thing's blocks grow. GENERAL.
-/
import Derived.Test.YtdbdlgmejddbhaaDoorApp
set_option linter.unusedVariables false
namespace Go.Proofs.YtdbdlgmejddbhaaDoor
open Go Go.RowKit

/-- All blocks of w stay but those in F. -/
structure Kept (F : Nat → Prop) (w w' : World) : Prop where
  os : w'.os = w.os
  tape : w'.tape = w.tape
  output : w'.output = w.output
  size : w.heap.size ≤ w'.heap.size
  block : ∀ k, k < w.heap.size → ¬ F k → w'.heap[k]? = w.heap[k]?

/-- .. and F' is F with some of the new blocks. -/
structure Step (F : Nat → Prop) (w : World) (F' : Nat → Prop) (w' : World) : Prop where
  kept : Kept F w w'
  new : ∀ k, F' k → F k ∨ (w.heap.size ≤ k ∧ k < w'.heap.size)

def Plus (F : Nat → Prop) (w w' : World) : Nat → Prop := fun k => F k ∨ (w.heap.size ≤ k ∧ k < w'.heap.size)
/-- Two footprints that share nothing. -/
def Off (F G : Nat → Prop) : Prop := ∀ k, F k → ¬ G k
/-- A footprint within the heap. -/
def In (F : Nat → Prop) (w : World) : Prop := ∀ k, F k → k < w.heap.size

section
variable {F F' F'' G G' : Nat → Prop} {w w' w'' : World}
theorem Kept.refl (F : Nat → Prop) (w : World) : Kept F w w := ⟨rfl, rfl, rfl, Nat.le_refl _, fun _ _ _ => rfl⟩
theorem Kept.mono (h : Kept F w w') (hs : ∀ k, F k → G k) : Kept G w w' := ⟨h.os, h.tape, h.output, h.size, fun k hk hn => h.block k hk fun hf => hn (hs k hf)⟩
theorem Kept.trans (h : Kept F w w') (h' : Kept F' w' w'') (hs : ∀ k, F' k → F k ∨ w.heap.size ≤ k) : Kept F w w'' :=
  ⟨h'.os.trans h.os, h'.tape.trans h.tape, h'.output.trans h.output, Nat.le_trans h.size h'.size, fun k hk hn =>
    (h'.block k (Nat.lt_of_lt_of_le hk h.size) fun hf => (hs k hf).elim hn (by omega)).trans (h.block k hk hn)⟩
theorem Kept.of_below (h : Below w.heap.size w w') (F : Nat → Prop) : Kept F w w' := ⟨h.os, h.tape, h.output, h.size, fun k hk _ => h.block k hk⟩
theorem Kept.of_grown {row : Option Nat} (h : w.grownBy w' row) (hr : ∀ k, row = some k → F k) : Kept F w w' :=
  ⟨h.os, h.tape, h.output, h.size, fun k hk hn => h.block k hk fun e => hn (hr k e.symm)⟩
theorem Kept.below (h : Kept F w w') {B : Nat} (hF : ∀ k, F k → B ≤ k) (hB : B ≤ w.heap.size) : Below B w w' :=
  ⟨h.os, h.tape, h.output, h.size, fun k hk => h.block k (by omega) fun hf => by have := hF k hf; omega⟩
theorem Kept.setCell (F : Nat → Prop) (w : World) (p : Addr) (u : Value) (hp : F p.block) : Kept F w (w.setCell p u) :=
  ⟨rfl, rfl, rfl, by simp [World.setCell], fun k hk hn => Below.heap_setCell w p u k fun e => hn (by rw [e]; exact hp)⟩
theorem Kept.alloc (F : Nat → Prop) (w : World) (o : Obj) : Kept F w (w.alloc o) := Kept.of_below ((Below.refl _ w).alloc (Nat.le_refl _) o) F

theorem Kept.drew (h : Kept F w w') : Kept F w w'.drew := ⟨h.os, h.tape, h.output, h.size, h.block⟩
theorem Kept.undrew (h : Kept F w.drew w') : Kept F w w' := ⟨h.os, h.tape, h.output, h.size, h.block⟩

theorem Step.refl (F : Nat → Prop) (w : World) : Step F w F w := ⟨Kept.refl F w, fun _ h => Or.inl h⟩
theorem Step.plus (h : Kept F w w') : Step F w (Plus F w w') w' := ⟨h, fun _ h => h⟩
theorem Step.same (h : Kept F w w') : Step F w F w' := ⟨h, fun _ h => Or.inl h⟩
theorem Step.trans (h : Step F w F' w') (h' : Step F' w' F'' w'') : Step F w F'' w'' :=
  ⟨h.kept.trans h'.kept fun k hk => (h.new k hk).imp id (fun x => x.1), fun k hk => by
    have h1 := h.kept.size
    have h2 := h'.kept.size
    rcases h'.new k hk with h3 | h3
    · rcases h.new k h3 with h4 | h4
      · exact Or.inl h4
      · exact Or.inr (by omega)
    · exact Or.inr (by omega)⟩
theorem Step.below (h : Step F w F' w') {B : Nat} (hF : ∀ k, F k → B ≤ k) (hB : B ≤ w.heap.size) : Below B w w' := h.kept.below hF hB
theorem Step.above (h : Step F w F' w') {B : Nat} (hF : ∀ k, F k → B ≤ k) (hB : B ≤ w.heap.size) : ∀ k, F' k → B ≤ k := fun k hk => by
  rcases h.new k hk with h1 | h1
  · exact hF k h1
  · omega
theorem Step.in_ (h : Step F w F' w') (hi : In F w) : In F' w' := fun k hk => by
  have := h.kept.size
  rcases h.new k hk with h1 | h1
  · have := hi k h1
    omega
  · exact h1.2
theorem Step.off (h : Step F w F' w') (ho : Off F G) (hG : In G w) : Off F' G := fun k hk hg => by
  rcases h.new k hk with h1 | h1
  · exact ho k h1 hg
  · have := hG k hg
    omega
theorem Off.symm (h : Off F G) : Off G F := fun k hk hf => h k hf hk
theorem In.up (h : In F w) (hs : w.heap.size ≤ w'.heap.size) : In F w' := fun k hk => Nat.lt_of_lt_of_le (h k hk) hs
/-- One thing is turned, the other stands beside it: together they are one thing. -/
theorem Step.left (h : Step F w F' w') (G : Nat → Prop) : Step (fun k => F k ∨ G k) w (fun k => F' k ∨ G k) w' :=
  ⟨h.kept.mono fun _ hk => Or.inl hk, fun k hk => hk.elim (fun h1 => (h.new k h1).imp Or.inl id) (fun h1 => Or.inl (Or.inr h1))⟩
theorem Step.right (h : Step F w F' w') (G : Nat → Prop) : Step (fun k => G k ∨ F k) w (fun k => G k ∨ F' k) w' :=
  ⟨h.kept.mono fun _ hk => Or.inr hk, fun k hk => hk.elim (fun h1 => Or.inl (Or.inl h1)) (fun h1 => (h.new k h1).imp Or.inr id)⟩
theorem Step.mono (h : Step F w F' w') (hs : ∀ k, F k → G k) : Step G w F' w' := ⟨h.kept.mono hs, fun k hk => (h.new k hk).imp (hs k) id⟩

theorem Kept.get (h : Kept F w w') (ho : Off F G) (hG : In G w) {k : Nat} (hk : G k) : w'.heap[k]? = w.heap[k]? := h.block k (hG k hk) fun hf => ho k hf hk
theorem own_kept {b n size : Nat} {e : TypeId} {v : Value} {xs : List Value} (h : w.ownsRow b e size v n xs) (hk : ∀ g, v.ownBlock = some g → w'.heap[g]? = w.heap[g]?) : w'.ownsRow b e size v n xs := by
  refine ⟨h.1, ?_⟩
  rcases h.2 with h1 | ⟨g, cap, cur, h1, h2, h3, h4⟩
  · exact Or.inl h1
  · exact Or.inr ⟨g, cap, cur, h1, h2, by rw [hk g (by rw [h1]; rfl)]; exact h3, h4⟩
/-- An own row cut behind so many. -/
theorem own_cut {b n size : Nat} {e : TypeId} {A : Option Addr} {c : Nat} {xs : List Value} (h : w.ownsRow b e size (.slice A n c) n xs) {m : Nat} (hm : m ≤ n) : w.ownsRow b e size (.slice A m c) m (xs.take (m * size)) := by
  have hx := h.1
  have hms : m * size ≤ n * size := Nat.mul_le_mul_right _ hm
  refine ⟨by rw [List.length_take]; omega, ?_⟩
  rcases h.2 with ⟨h1, h2⟩ | ⟨g, cap, cur, h1, h2, h3, h4, h5, h6, h7⟩
  · have : m = 0 := by omega
    subst this
    injection h1 with h1 h1' h1''
    subst h1
    subst h1''
    exact Or.inl ⟨rfl, rfl⟩
  · injection h1 with h1 h1' h1''
    subst h1
    subst h1''
    refine Or.inr ⟨g, c, cur, rfl, h2, h3, by omega, h5, h6, ?_⟩
    rw [← h7, List.take_take, Nat.min_eq_left hms]
theorem own_slice {b n size : Nat} {e : TypeId} {v : Value} {xs : List Value} (h : w.ownsRow b e size v n xs) : ∃ A c, v = .slice A n c ∧ n ≤ c ∧ c ≤ maxLen ∧ (A = none → c = 0) := by
  rcases h.2 with ⟨rfl, rfl⟩ | ⟨g, cap, cur, rfl, h2, h3, h4, h5, _⟩
  · exact ⟨none, 0, rfl, Nat.le_refl _, Nat.zero_le _, fun _ => rfl⟩
  · exact ⟨_, cap, rfl, h4, h5, fun h => by cases h⟩
theorem own_block_lt {b n size : Nat} {e : TypeId} {v : Value} {xs : List Value} (h : w.ownsRow b e size v n xs) : ∀ g, v.ownBlock = some g → g < w.heap.size := by
  rcases h.2 with ⟨rfl, rfl⟩ | ⟨g, cap, cur, rfl, h2, h3, h4, h5, _⟩
  · intro g hg; cases hg
  · intro g' hg
    injection hg with hg
    subst hg
    exact (Array.getElem?_eq_some_iff.1 h3).1
/-- The block of an own row bears the type of its cells. -/
theorem own_tag {b n size : Nat} {e : TypeId} {v : Value} {xs : List Value} (h : w.ownsRow b e size v n xs) : ∀ g, v.ownBlock = some g → ∃ cs, w.heap[g]? = some (.cells cs e (0, 0)) := by
  rcases h.2 with ⟨rfl, rfl⟩ | ⟨g, cap, cur, rfl, h2, h3, h4, h5, _⟩
  · intro g hg; cases hg
  · intro g' hg
    injection hg with hg
    subst hg
    exact ⟨_, h3⟩
/-- A cell of a block that is written out. -/
theorem cell_at {g i : Nat} {cs : Array Value} {t : TypeId} (h : w.heap[g]? = some (.cells cs t (0, 0))) {v : Value} (hv : cs[i]? = some v) : w.cell? ⟨g, i, none⟩ = some v := by
  simp [World.cell?, h, hv]
theorem thawed_at {g i : Nat} {cs : Array Value} {t : TypeId} (h : w.heap[g]? = some (.cells cs t (0, 0))) : w.frozen? ⟨g, i, none⟩ = false := by
  simp [World.frozen?, h]
end
end Go.Proofs.YtdbdlgmejddbhaaDoor
