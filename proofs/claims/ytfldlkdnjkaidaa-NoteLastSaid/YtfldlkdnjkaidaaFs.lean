/-
  Files by numbers: a rising list, and the map that reads as it.
-/
import Derived.Test.YtfldlkdnjkaidaaKp
import Derived.Test.YtfldlkdnjkaidaaSab
import Derived.Test.YtfldlkdnjkaidaaPlc
import Derived.Maps.RangeWalk
set_option linter.unusedVariables false
set_option linter.unusedSimpArgs false
namespace Go.Proofs.Ytfldlkdnjkaidaa
open Go Go.RowKit Go.Maps

abbrev Fl := List (Int × ByteArray)
/-- Numbers rise. -/
def Up (fs : Fl) : Prop := fs.Pairwise fun a b => a.1 < b.1
def hasF (fs : Fl) (n : Int) : Bool := fs.any fun x => x.1 == n
def getF (fs : Fl) (n : Int) : ByteArray := match fs.find? fun x => x.1 == n with | some x => x.2 | none => ⟨#[]⟩
/-- How many are below n: where n stands, or would. -/
def idxF (fs : Fl) (n : Int) : Nat := (fs.takeWhile fun x => decide (x.1 < n)).length
def insF (fs : Fl) (n : Int) (b : ByteArray) : Fl := fs.take (idxF fs n) ++ (n, b) :: fs.drop (idxF fs n)
def delF (fs : Fl) (n : Int) : Fl := fs.filter fun x => !(x.1 == n)

theorem idxF_le (fs : Fl) (n : Int) : idxF fs n ≤ fs.length := by
  induction fs with
  | nil => simp [idxF]
  | cons x r ih =>
    unfold idxF at ih ⊢
    rw [List.takeWhile_cons]
    split
    · simp only [List.length_cons]; omega
    · simp
theorem idxF_cons (x : Int × ByteArray) (r : Fl) (n : Int) : idxF (x :: r) n = if x.1 < n then idxF r n + 1 else 0 := by
  unfold idxF
  rw [List.takeWhile_cons]
  by_cases h : x.1 < n
  · simp [h]
  · simp [h]
theorem idxF_lt {fs : Fl} {n : Int} {j : Nat} (hj : j < idxF fs n) : (fs[j]'(Nat.lt_of_lt_of_le hj (idxF_le fs n))).1 < n := by
  induction fs generalizing j with
  | nil => simp [idxF] at hj
  | cons x r ih =>
    rw [idxF_cons] at hj
    split at hj
    · rename_i h
      rcases j with _ | j
      · exact h
      · simp only [List.getElem_cons_succ]
        exact ih (by omega)
    · omega
theorem idxF_ge {fs : Fl} {n : Int} (h : idxF fs n < fs.length) : n ≤ (fs[idxF fs n]'h).1 := by
  induction fs with
  | nil => simp at h
  | cons x r ih =>
    by_cases hx : x.1 < n
    · have e : idxF (x :: r) n = idxF r n + 1 := by rw [idxF_cons, if_pos hx]
      have h' : idxF r n < r.length := by rw [e] at h; simpa using h
      simp only [e, List.getElem_cons_succ]
      exact ih h'
    · have e : idxF (x :: r) n = 0 := by rw [idxF_cons, if_neg hx]
      simp only [e, List.getElem_cons_zero]
      omega
theorem idxF_eq {fs : Fl} {n : Int} {k : Nat} (hk : k ≤ fs.length) (h1 : ∀ j (h : j < k), (fs[j]'(by omega)).1 < n) (h2 : ∀ h : k < fs.length, n ≤ (fs[k]'h).1) : idxF fs n = k := by
  rcases Nat.lt_trichotomy (idxF fs n) k with h | h | h
  · have := idxF_ge (fs := fs) (n := n) (by omega)
    have := h1 _ h
    omega
  · exact h
  · have h3 := idxF_le fs n
    have := idxF_lt h
    have := h2 (by omega)
    omega
/-- n is there just where the one that is not below it is n. -/
theorem hasF_iff {fs : Fl} (hu : Up fs) (n : Int) : hasF fs n = true ↔ ∃ h : idxF fs n < fs.length, (fs[idxF fs n]'h).1 = n := by
  unfold hasF
  rw [List.any_eq_true]
  constructor
  · rintro ⟨x, hx, he⟩
    obtain ⟨j, hj, rfl⟩ := List.getElem_of_mem hx
    have he : (fs[j]).1 = n := by simpa using he
    have hji : ¬ j < idxF fs n := fun h => by have := idxF_lt h; omega
    have hlt : idxF fs n < fs.length := by omega
    refine ⟨hlt, ?_⟩
    have h1 := idxF_ge hlt
    rcases Nat.lt_or_ge (idxF fs n) j with h2 | h2
    · have := List.pairwise_iff_getElem.1 hu _ _ hlt hj h2
      omega
    · have : j = idxF fs n := by omega
      subst this
      exact he
  · rintro ⟨h, he⟩
    exact ⟨_, List.getElem_mem h, by simpa using he⟩
theorem getF_at {fs : Fl} {n : Int} (h : idxF fs n < fs.length) (he : (fs[idxF fs n]'h).1 = n) : getF fs n = (fs[idxF fs n]'h).2 := by
  induction fs with
  | nil => simp at h
  | cons x r ih =>
    unfold getF
    by_cases hx : x.1 < n
    · have e : idxF (x :: r) n = idxF r n + 1 := by rw [idxF_cons, if_pos hx]
      have h' : idxF r n < r.length := by rw [e] at h; simpa using h
      simp only [e, List.getElem_cons_succ] at he ⊢
      rw [List.find?_cons_of_neg (by simp; omega)]
      exact ih h' he
    · have e : idxF (x :: r) n = 0 := by rw [idxF_cons, if_neg hx]
      simp only [e, List.getElem_cons_zero] at he ⊢
      rw [List.find?_cons_of_pos (by simpa using he)]
theorem getF_none {fs : Fl} {n : Int} (h : hasF fs n = false) : getF fs n = ⟨#[]⟩ := by
  unfold getF
  unfold hasF at h
  rw [List.find?_eq_none.2 (by simpa using h)]
theorem hasF_false {fs : Fl} {n : Int} (h : hasF fs n = false) : ∀ x ∈ fs, x.1 ≠ n := by
  intro x hx e
  have := List.any_eq_false.1 h x hx
  simp [e] at this
theorem delF_none {fs : Fl} {n : Int} (h : hasF fs n = false) : delF fs n = fs := by
  unfold delF
  rw [List.filter_eq_self]
  intro x hx
  have := hasF_false h x hx
  simpa using this
/-- .. where it stands: what is ahead and what is behind. -/
theorem delF_at {fs : Fl} (hu : Up fs) {n : Int} (h : idxF fs n < fs.length) (he : (fs[idxF fs n]'h).1 = n) : delF fs n = fs.take (idxF fs n) ++ fs.drop (idxF fs n + 1) := by
  have hs : fs = fs.take (idxF fs n) ++ fs[idxF fs n] :: fs.drop (idxF fs n + 1) := by
    rw [List.getElem_cons_drop, List.take_append_drop]
  have h1 : ∀ x ∈ fs.take (idxF fs n), (!(x.1 == n)) = true := by
    intro x hx
    obtain ⟨j, hj, rfl⟩ := List.getElem_of_mem hx
    have hj2 : j < idxF fs n := by rw [List.length_take] at hj; omega
    have := idxF_lt hj2
    simp
    omega
  have h2 : ∀ x ∈ fs.drop (idxF fs n + 1), (!(x.1 == n)) = true := by
    intro x hx
    obtain ⟨j, hj, rfl⟩ := List.getElem_of_mem hx
    have hj2 : idxF fs n + 1 + j < fs.length := by rw [List.length_drop] at hj; omega
    have := List.pairwise_iff_getElem.1 hu (idxF fs n) (idxF fs n + 1 + j) h hj2 (by omega)
    simp
    omega
  unfold delF
  conv => lhs; rw [hs]
  rw [List.filter_append, List.filter_cons_of_neg (by simpa using he), List.filter_eq_self.2 h1, List.filter_eq_self.2 h2]
theorem Up.ins {fs : Fl} (hu : Up fs) {n : Int} (h : hasF fs n = false) (b : ByteArray) : Up (insF fs n b) := by
  unfold Up insF
  have hu' : Up (fs.take (idxF fs n) ++ fs.drop (idxF fs n)) := by rw [List.take_append_drop]; exact hu
  unfold Up at hu'
  rw [List.pairwise_append] at hu' ⊢
  obtain ⟨h1, h2, h3⟩ := hu'
  have hd : ∀ x ∈ fs.drop (idxF fs n), n < x.1 := by
    intro x hx
    obtain ⟨j, hj, rfl⟩ := List.getElem_of_mem hx
    have hne := hasF_false h _ (List.mem_of_mem_drop hx)
    have hj2 : idxF fs n + j < fs.length := by rw [List.length_drop] at hj; omega
    have h0 := idxF_ge (fs := fs) (n := n) (by omega)
    rw [List.getElem_drop] at hne ⊢
    rcases Nat.eq_zero_or_pos j with e | e
    · subst e
      simp only [Nat.add_zero] at hne ⊢
      omega
    · have := List.pairwise_iff_getElem.1 hu (idxF fs n) (idxF fs n + j) (by omega) hj2 (by omega)
      omega
  have ht : ∀ x ∈ fs.take (idxF fs n), x.1 < n := by
    intro x hx
    obtain ⟨j, hj, rfl⟩ := List.getElem_of_mem hx
    have hj2 : j < idxF fs n := by rw [List.length_take] at hj; omega
    simpa using idxF_lt hj2
  refine ⟨h1, List.pairwise_cons.2 ⟨fun x hx => hd x hx, h2⟩, fun a ha c hc => ?_⟩
  rcases List.mem_cons.1 hc with rfl | hc
  · exact ht a ha
  · exact h3 a ha c hc
theorem Up.del {fs : Fl} (hu : Up fs) (n : Int) : Up (delF fs n) := hu.filter _
theorem insF_length (fs : Fl) (n : Int) (b : ByteArray) : (insF fs n b).length = fs.length + 1 := by
  have := idxF_le fs n
  unfold insF
  rw [List.length_append, List.length_cons, List.length_take, List.length_drop]
  omega
theorem delF_length_le (fs : Fl) (n : Int) : (delF fs n).length ≤ fs.length := List.length_filter_le _ _
theorem mem_insF {fs : Fl} {n : Int} {b : ByteArray} {x : Int × ByteArray} (h : x ∈ insF fs n b) : x = (n, b) ∨ x ∈ fs := by
  unfold insF at h
  rcases List.mem_append.1 h with h | h
  · exact Or.inr (List.mem_of_mem_take h)
  · rcases List.mem_cons.1 h with h | h
    · exact Or.inl h
    · exact Or.inr (List.mem_of_mem_drop h)
theorem mem_delF {fs : Fl} {n : Int} {x : Int × ByteArray} (h : x ∈ delF fs n) : x ∈ fs := (List.mem_filter.1 h).1

/-! ### the map -/
def encF (b : ByteArray) : DataW Unit := .agg [.lit (.string b.data.toList)]
def entF (x : Int × ByteArray) : Lit × DataW Unit := (.int .i64 x.1, encF x.2)
def mapF (fs : Fl) : DataW Unit := .map (fs.map entF)
theorem same_int (a b : Int) : (Lit.int .i64 a).sameKey (Lit.int .i64 b) = (a == b) := by
  unfold Lit.sameKey
  by_cases h : a = b
  · simp [h]
  · simp [h]
theorem has_mapF (fs : Fl) (n : Int) : Maps.has (mapF fs) (.int .i64 n) = hasF fs n := by
  unfold mapF hasF
  rw [Maps.has_eq, List.any_map]
  congr 1
  funext x
  exact same_int x.1 n
/-- Its numbers, as they stand. -/
def numsF (fs : Fl) : List Int := fs.map (·.1)
theorem numsF_up {fs : Fl} (hu : Up fs) : (numsF fs).Pairwise (· < ·) := List.pairwise_map.2 hu
theorem mem_numsF {fs : Fl} {n : Int} : n ∈ numsF fs ↔ hasF fs n = true := by
  unfold numsF hasF
  rw [List.mem_map, List.any_eq_true]
  exact ⟨fun ⟨x, h, e⟩ => ⟨x, h, by simpa using e⟩, fun ⟨x, h, e⟩ => ⟨x, h, by simpa using e⟩⟩

/-- The numbers met so far, in whatever order. -/
def MetF (fs : Fl) (left : Lit → Bool) (ss : List Int) : Prop := ss.Nodup ∧ ∀ x, x ∈ ss ↔ (hasF fs x = true ∧ left (.int .i64 x) = false)
theorem MetF.start (fs : Fl) : MetF fs (Maps.has (mapF fs)) [] := ⟨List.nodup_nil, fun x => by rw [has_mapF]; cases hasF fs x <;> simp⟩
theorem MetF.step {fs : Fl} {left : Lit → Bool} {ss : List Int} (h : MetF fs left ss) {x : Int} (hx : hasF fs x = true) (hl : left (.int .i64 x) = true) : MetF fs (fun z => left z && !z.sameKey (.int .i64 x)) (ss ++ [x]) := by
  have hnew : x ∉ ss := fun hm => by have := ((h.2 x).1 hm).2; rw [hl] at this; cases this
  refine ⟨List.nodup_append.2 ⟨h.1, by simp, fun a ha b hb => by simp at hb; subst hb; exact fun e => hnew (e ▸ ha)⟩, fun y => ?_⟩
  rw [List.mem_append, h.2 y]
  show _ ↔ hasF fs y = true ∧ (left (.int .i64 y) && !(Lit.int .i64 y).sameKey (.int .i64 x)) = false
  rw [same_int]
  by_cases hy : y = x
  · subst hy; simp [hx]
  · simp [hy]
theorem MetF.sorted {fs : Fl} {left : Lit → Bool} {ss : List Int} (h : MetF fs left ss) (hu : Up fs) (hl : ∀ kl, left kl = false) : ss.mergeSort (fun x y => decide (x ≤ y)) = numsF fs := by
  have hnd : (numsF fs).Nodup := (numsF_up hu).imp fun {a b} hab e => by omega
  have hp : ss.Perm (numsF fs) := (List.perm_ext_iff_of_nodup h.1 hnd).2 fun x => by rw [h.2 x, mem_numsF, hl]; simp
  have tr : ∀ a b c : Int, decide (a ≤ b) = true → decide (b ≤ c) = true → decide (a ≤ c) = true := fun a b c h1 h2 => by simp at *; omega
  have to : ∀ a b : Int, (decide (a ≤ b) || decide (b ≤ a)) = true := fun a b => by simp; omega
  refine List.Perm.eq_of_pairwise (le := fun a b : Int => decide (a ≤ b) = true) (fun a b _ _ h1 h2 => ?_) (List.pairwise_mergeSort tr to ss) ((numsF_up hu).imp fun {a b} hab => by simp; omega) ((List.mergeSort_perm ss _).trans hp)
  simp at h1 h2
  omega
end Go.Proofs.Ytfldlkdnjkaidaa
