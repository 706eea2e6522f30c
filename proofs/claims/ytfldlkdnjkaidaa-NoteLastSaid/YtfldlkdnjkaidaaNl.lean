/-
  NoteLast (plain): twenty texts, and the notes that are as they say.
-/
import Derived.Test.YtfldlkdnjkaidaaNc
import Derived.Test.YtfldlkdnjkaidaaKq
set_option linter.unusedVariables false
set_option linter.unusedSimpArgs false
namespace Go.Proofs.Ytfldlkdnjkaidaa
open Go Go.RowKit

/-! ### twenty texts in an array -/
def arrC (T : Nat → ByteArray) : Array Value := ((List.range 20).map fun i => Value.string (T i)).toArray
def updT (T : Nat → ByteArray) (i : Nat) (s : ByteArray) : Nat → ByteArray := fun j => if j = i then s else T j
theorem arrC_get {T : Nat → ByteArray} {i : Nat} (h : i < 20) : (arrC T)[i]? = some (.string (T i)) := by
  unfold arrC
  simp [h]
theorem arrC_set (T : Nat → ByteArray) (i : Nat) (s : ByteArray) : (arrC T).setIfInBounds i (.string s) = arrC (updT T i s) := by
  apply Array.ext'
  unfold arrC updT
  rw [Array.toList_setIfInBounds]
  apply List.ext_getElem?
  intro j
  rw [List.getElem?_set]
  by_cases hij : i = j
  · subst hij
    by_cases h : i < 20
    · simp [h]
    · simp [h]
  · by_cases h : j < 20
    · simp [h, hij, Ne.symm hij]
    · simp [h, hij]
theorem arrC_none : arrC (fun _ => ⟨#[]⟩) = #[.string ⟨#[]⟩, .string ⟨#[]⟩, .string ⟨#[]⟩, .string ⟨#[]⟩, .string ⟨#[]⟩, .string ⟨#[]⟩, .string ⟨#[]⟩, .string ⟨#[]⟩, .string ⟨#[]⟩, .string ⟨#[]⟩, .string ⟨#[]⟩, .string ⟨#[]⟩, .string ⟨#[]⟩, .string ⟨#[]⟩, .string ⟨#[]⟩, .string ⟨#[]⟩, .string ⟨#[]⟩, .string ⟨#[]⟩, .string ⟨#[]⟩, .string ⟨#[]⟩] := rfl
def ArrAt (w : World) (q : Nat) (T : Nat → ByteArray) : Prop := w.heap[q]? = some (.cells (arrC T) 45 (0, 0))
section
variable {w w' : World} {q : Nat} {T : Nat → ByteArray}
theorem ArrAt.lt (h : ArrAt w q T) : q < w.heap.size := (Array.getElem?_eq_some_iff.1 h).1
theorem ArrAt.cell (h : ArrAt w q T) {i : Nat} (hi : i < 20) : w.cell? ⟨q, i, none⟩ = some (.string (T i)) := cell_at h (arrC_get hi)
theorem ArrAt.thaw (h : ArrAt w q T) (i : Nat) : w.frozen? ⟨q, i, none⟩ = false := thawed_at h
theorem ArrAt.set (h : ArrAt w q T) (i : Nat) (s : ByteArray) : ArrAt (w.setCell ⟨q, i, none⟩ (.string s)) q (updT T i s) := by
  unfold ArrAt
  rw [heap_setCell_same w q i _ _ _ h, arrC_set]
theorem ArrAt.kept {F : Nat → Prop} (h : ArrAt w q T) (hk : Kept F w w') (hn : ¬ F q) : ArrAt w' q T := (hk.block q h.lt hn).trans h
theorem ArrAt.below (h : ArrAt w q T) (hb : Below w.heap.size w w') : ArrAt w' q T := (hb.block q h.lt).trans h
end

theorem empty_bit {s : ByteArray} {u : Bool} (h : u = true ↔ s ≠ ⟨#[]⟩) : (s.toList == []) = !u ∧ (s.toList != []) = u := by
  by_cases hs : s = ⟨#[]⟩
  · have hu : u = false := by
      cases u with
      | false => rfl
      | true => exact absurd hs (h.1 rfl)
    subst hu
    subst hs
    rw [Lib.toList_data]
    exact ⟨rfl, rfl⟩
  · have hu : u = true := h.2 hs
    subst hu
    have hn : s.toList ≠ [] := by
      rw [Lib.toList_data]
      intro he
      exact hs (by obtain ⟨⟨l⟩⟩ := s; simp at he; subst he; rfl)
    exact ⟨by simpa using hn, by simpa using hn⟩
/-! ### notes of few numbers -/
structure LastI (S : Fl) (T : Nat → ByteArray) : Prop where
  ok : NOk S
  get : ∀ i : Nat, 1 ≤ i → i < 20 → getF S (i : Int) = T i
  has : ∀ i : Nat, 1 ≤ i → i < 20 → (hasF S (i : Int) = true ↔ T i ≠ ⟨#[]⟩)
  low : ∀ x ∈ S, x.1 ≤ 19
theorem LastI.start : LastI [] (fun _ => ⟨#[]⟩) := ⟨NOk.nil, fun i _ _ => rfl, fun i _ _ => by simp [hasF], fun x hx => (by cases hx)⟩
theorem up_ge {S : Fl} (hu : Up S) (hw : ∀ x ∈ S, 1 ≤ x.1) : ∀ i (h : i < S.length), ((i : Int) + 1) ≤ S[i].1
  | 0, h => by have := hw _ (List.getElem_mem h); omega
  | i + 1, h => by
    have h1 := up_ge hu hw i (by omega)
    have h2 := List.pairwise_iff_getElem.1 hu i (i + 1) (by omega) h (by omega)
    omega
theorem LastI.few {S : Fl} {T : Nat → ByteArray} (h : LastI S T) : S.length ≤ 19 := by
  rcases Nat.eq_zero_or_pos S.length with h0 | h0
  · omega
  · have h1 := up_ge h.ok.up (fun x hx => (h.ok.wf x hx).1) (S.length - 1) (by omega)
    have h2 := h.low _ (List.getElem_mem (show S.length - 1 < S.length by omega))
    omega
theorem LastI.add {S : Fl} {T : Nat → ByteArray} (h : LastI S T) {i : Nat} (h1 : 1 ≤ i) (h2 : i < 20) {s : ByteArray} (hs : s.size = 1) : addN S (i : Int) s = (putN S (i : Int) s, true) := by
  unfold addN
  rw [if_neg]
  have := h.few
  unfold BadN
  rintro (h | h | h | h)
  · omega
  · omega
  · omega
  · omega
theorem LastI.put {S : Fl} {T : Nat → ByteArray} (h : LastI S T) {i : Nat} (h1 : 1 ≤ i) (h2 : i < 20) {s : ByteArray} (hs : s.size = 1) : LastI (putN S (i : Int) s) (updT T i s) := by
  have ha := h.add h1 h2 hs
  have hok := h.ok.add (i : Int) s
  rw [ha] at hok
  refine ⟨hok, fun j hj1 hj2 => ?_, fun j hj1 hj2 => ?_, fun x hx => ?_⟩
  · rw [getF_put h.ok.up]
    unfold updT
    by_cases e : j = i
    · subst e; rw [if_pos rfl, if_pos rfl]
    · rw [if_neg (by omega), if_neg e]; exact h.get j hj1 hj2
  · rw [hasF_put h.ok.up]
    unfold updT
    by_cases e : j = i
    · subst e
      rw [if_pos rfl]
      simp
      intro hn
      rw [hn] at hs
      cases hs
    · rw [if_neg e, ← h.has j hj1 hj2]
      have : ((i : Int) == (j : Int)) = false := by simp; omega
      rw [this, Bool.false_or]
  · unfold putN at hx
    split at hx
    · unfold setF at hx
      rcases List.mem_or_eq_of_mem_set hx with h4 | h4
      · exact h.low x h4
      · rw [h4]; show (i : Int) ≤ 19; omega
    · rcases mem_insF hx with h4 | h4
      · rw [h4]; show (i : Int) ≤ 19; omega
      · exact h.low x h4
theorem LastI.del {S : Fl} {T : Nat → ByteArray} (h : LastI S T) {i : Nat} (h1 : 1 ≤ i) (h2 : i < 20) : LastI (delF S (i : Int)) (updT T i ⟨#[]⟩) := by
  refine ⟨h.ok.del _, fun j hj1 hj2 => ?_, fun j hj1 hj2 => ?_, fun x hx => h.low x (mem_delF hx)⟩
  · unfold updT
    by_cases e : j = i
    · subst e
      rw [if_pos rfl]
      exact getF_none (by rw [hasF_dels]; simp)
    · rw [if_neg e, getF_dels S (by omega)]; exact h.get j hj1 hj2
  · unfold updT
    rw [hasF_dels]
    by_cases e : j = i
    · subst e
      rw [if_pos rfl]
      simp
    · rw [if_neg e, ← h.has j hj1 hj2]
      have : ((j : Int) == (i : Int)) = false := by simp; omega
      rw [this]
      simp
/-! ### how many stand below a number -/
theorem idx_step {S : Fl} (hu : Up S) (n : Int) (h : hasF S n = true) : ∃ hl : idxF S n < S.length, S[idxF S n].1 = n ∧ S[idxF S n].2 = getF S n ∧ idxF S (n + 1) = idxF S n + 1 := by
  obtain ⟨hl, he⟩ := (hasF_iff hu n).1 h
  refine ⟨hl, he, (getF_at hl he).symm, idxF_eq (by omega) (fun j hj => ?_) (fun hk => ?_)⟩
  · rcases Nat.lt_or_ge j (idxF S n) with h1 | h1
    · have := idxF_lt h1; omega
    · obtain rfl : j = idxF S n := by omega
      omega
  · have := List.pairwise_iff_getElem.1 hu (idxF S n) (idxF S n + 1) hl hk (by omega)
    omega
theorem idx_stay {S : Fl} (hu : Up S) (n : Int) (h : hasF S n = false) : idxF S (n + 1) = idxF S n := by
  refine idxF_eq (idxF_le S n) (fun j hj => ?_) (fun hk => ?_)
  · have := idxF_lt hj; omega
  · have h1 := idxF_ge hk
    have h2 := hasF_false h _ (List.getElem_mem hk)
    omega
theorem LastI.all {S : Fl} {T : Nat → ByteArray} (h : LastI S T) : idxF S 20 = S.length :=
  idxF_eq (Nat.le_refl _) (fun j hj => by have := h.low _ (List.getElem_mem hj); omega) (fun hk => absurd hk (Nat.lt_irrefl _))
theorem LastI.none {S : Fl} {T : Nat → ByteArray} (h : LastI S T) : idxF S 1 = 0 :=
  idxF_eq (Nat.zero_le _) (fun j hj => absurd hj (Nat.not_lt_zero _)) (fun hk => (h.ok.wf _ (List.getElem_mem hk)).1)
end Go.Proofs.Ytfldlkdnjkaidaa
