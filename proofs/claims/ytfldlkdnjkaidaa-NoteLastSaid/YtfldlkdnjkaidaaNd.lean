/-
  Notes by numbers: a map of notes that reads as them (plain).
-/
import Derived.Test.YtfldlkdnjkaidaaNm
set_option linter.unusedVariables false
set_option linter.unusedSimpArgs false
namespace Go.Proofs.Ytfldlkdnjkaidaa
open Go Go.RowKit Go.Maps

def encD (x : Int × ByteArray) : DataW Unit := .agg [.lit (.int .i64 x.1), .lit (.string x.2.data.toList)]
def entD (x : Int × ByteArray) : Lit × DataW Unit := (.int .i64 x.1, encD x)
def mapD (fs : Fl) : DataW Unit := .map (fs.map entD)
/-- How a note of a map reads. -/
def elemD (v : Value) : Option (DataW Unit × List MemPlace) :=
  match v with
  | .agg cs => match cs.toList with
    | [.int .i64 n, .string s] => some (encD (n, s), [])
    | _ => none
  | _ => none
theorem elemD_mk (x : Int × ByteArray) : elemD (.agg #[.int .i64 x.1, .string x.2]) = some (encD x, []) := rfl
theorem elemD_inv {v : Value} {z : DataW Unit × List MemPlace} (h : elemD v = some z) : ∃ x : Int × ByteArray, v = .agg #[.int .i64 x.1, .string x.2] ∧ z = (encD x, []) := by
  unfold elemD at h
  split at h
  · rename_i cs
    split at h
    · rename_i n s hs
      injection h with h
      refine ⟨(n, s), ?_, h.symm⟩
      congr 1
      apply Array.ext'
      rw [hs]
    · cases h
  · cases h
theorem encD_inj {a b : Int × ByteArray} (h : encD a = encD b) : a = b := by
  unfold encD at h
  injection h with h
  injection h with h1 h
  injection h with h2 h
  injection h1 with h1
  injection h1 with _ h1
  injection h2 with h2
  injection h2 with h2
  exact Prod.ext h1 (ba_ext h2)
theorem has_mapD (fs : Fl) (n : Int) : Maps.has (mapD fs) (.int .i64 n) = hasF fs n := by
  unfold mapD hasF
  rw [Maps.has_eq, List.any_map]
  congr 1
  funext x
  exact same_int x.1 n
/-- The number that a look-up of n bears. -/
def numF (fs : Fl) (n : Int) : Int := if hasF fs n = true then n else 0
theorem find_fst {fs : Fl} {n : Int} {x : Int × ByteArray} (h : fs.find? (fun x => x.1 == n) = some x) : x.1 = n := by
  have := List.find?_some h
  simpa using this
theorem atKey_mapD (fs : Fl) (n : Int) : (mapD fs).atKey (.int .i64 n) (encD (0, ⟨#[]⟩)) = encD (numF fs n, getF fs n) := by
  have e : ((fun p : Lit × DataW Unit => p.1.sameKey (.int .i64 n)) ∘ entD) = fun x => x.1 == n := by
    funext x
    exact same_int x.1 n
  have hh : hasF fs n = (fs.find? fun x => x.1 == n).isSome := by
    unfold hasF
    rw [List.isSome_find?]
  unfold mapD numF getF DataW.atKey
  rw [hh]
  simp only [List.find?_map]
  rw [e]
  cases hf : fs.find? (fun x => x.1 == n) with
  | none => rfl
  | some x =>
    have hx := find_fst hf
    show encD x = encD (if true = true then n else 0, x.2)
    rw [if_pos rfl, ← hx]
theorem size_mapD (fs : Fl) : Maps.size (mapD fs) = fs.length := by
  unfold mapD
  rw [Maps.size_eq, List.length_map]
theorem filter_mapD (fs : Fl) (n : Int) : (fs.map entD).filter (fun p => !p.1.sameKey (.int .i64 n)) = (delF fs n).map entD := by
  unfold delF
  rw [List.filter_map]
  congr 2
  funext x
  exact congrArg (! ·) (same_int x.1 n)
theorem del_mapD (fs : Fl) (n : Int) : (mapD fs).del (.int .i64 n) = mapD (delF fs n) := by
  show DataW.map ((fs.map entD).filter _) = _
  rw [filter_mapD]
  rfl
theorem insert_mapD (fs : Fl) (hu : Up fs) (n : Int) (h : hasF fs n = false) (b : ByteArray) : DataW.insert (entD (n, b)) (fs.map entD) = (insF fs n b).map entD := by
  induction fs with
  | nil => rfl
  | cons x r ih =>
    have hx := hasF_false h x (by simp)
    have hr : hasF r n = false := by
      unfold hasF at h ⊢
      rw [List.any_cons, Bool.or_eq_false_iff] at h
      exact h.2
    have hur : Up r := (List.pairwise_cons.1 hu).2
    rw [List.map_cons, DataW.insert]
    have hb : (entD (n, b)).1.before (entD x).1 = decide (n < x.1) := rfl
    rw [hb]
    by_cases hlt : n < x.1
    · rw [if_pos (by simpa using hlt)]
      unfold insF
      rw [idxF_cons, if_neg (by omega)]
      rfl
    · rw [if_neg (by simpa using hlt), ih hur hr]
      unfold insF
      rw [idxF_cons, if_pos (by omega)]
      rfl
/-- Whatever is put. -/
theorem put_mapD (fs : Fl) (hu : Up fs) (n : Int) (b : ByteArray) : (mapD fs).put (.int .i64 n) (encD (n, b)) = mapD (putN fs n b) := by
  show DataW.map (DataW.insert (entD (n, b)) ((fs.map entD).filter _)) = _
  unfold putN
  by_cases h : hasF fs n = true
  · rw [if_pos h, ← insF_del hu h b, filter_mapD, insert_mapD _ (hu.del n) n (hasF_del fs n) b]
    rfl
  · rw [if_neg h, filter_mapD, delF_none (by simpa using h), insert_mapD fs hu n (by simpa using h) b]
    rfl

/-! ### the notes met so far, in whatever order -/
def MetD (fs : Fl) (left : Lit → Bool) (ss : Fl) : Prop := ss.Nodup ∧ ∀ x, x ∈ ss ↔ (x ∈ fs ∧ left (.int .i64 x.1) = false)
theorem mem_has {fs : Fl} {x : Int × ByteArray} (h : x ∈ fs) : hasF fs x.1 = true := by
  unfold hasF
  rw [List.any_eq_true]
  exact ⟨x, h, by simp⟩
theorem MetD.start (fs : Fl) : MetD fs (Maps.has (mapD fs)) [] := ⟨List.nodup_nil, fun x => by
  rw [has_mapD]
  constructor
  · intro h; cases h
  · rintro ⟨h1, h2⟩
    rw [mem_has h1] at h2
    cases h2⟩
theorem up_inj {fs : Fl} (hu : Up fs) {x y : Int × ByteArray} (hx : x ∈ fs) (hy : y ∈ fs) (h : x.1 = y.1) : x = y := by
  obtain ⟨i, hi, rfl⟩ := List.getElem_of_mem hx
  obtain ⟨j, hj, rfl⟩ := List.getElem_of_mem hy
  have hp := List.pairwise_iff_getElem.1 hu
  rcases Nat.lt_trichotomy i j with h1 | h1 | h1
  · have := hp i j hi hj h1; omega
  · subst h1; rfl
  · have := hp j i hj hi h1; omega
theorem MetD.step {fs : Fl} {left : Lit → Bool} {ss : Fl} (hu : Up fs) (h : MetD fs left ss) {x : Int × ByteArray} (hx : x ∈ fs) (hl : left (.int .i64 x.1) = true) : MetD fs (fun z => left z && !z.sameKey (.int .i64 x.1)) (ss ++ [x]) := by
  have hnew : x ∉ ss := fun hm => by have := ((h.2 x).1 hm).2; rw [hl] at this; cases this
  refine ⟨List.nodup_append.2 ⟨h.1, by simp, fun a ha b hb => by simp at hb; subst hb; exact fun e => hnew (e ▸ ha)⟩, fun y => ?_⟩
  rw [List.mem_append, h.2 y]
  show _ ↔ y ∈ fs ∧ (left (.int .i64 y.1) && !(Lit.int .i64 y.1).sameKey (.int .i64 x.1)) = false
  rw [same_int]
  by_cases hy : y.1 = x.1
  · constructor
    · rintro (h1 | h1)
      · exact ⟨h1.1, by rw [h1.2]; rfl⟩
      · simp at h1; subst h1; exact ⟨hx, by simp⟩
    · rintro ⟨h1, _⟩
      exact Or.inr (by simp; exact up_inj hu h1 hx hy)
  · have hne : y ≠ x := fun e => hy (by rw [e])
    simp [hy, hne]
theorem MetD.perm {fs : Fl} {left : Lit → Bool} {ss : Fl} (hu : Up fs) (h : MetD fs left ss) (hl : ∀ kl, left kl = false) : ss.Perm fs := by
  have hnd : fs.Nodup := hu.imp fun {a b} hab e => by rw [e] at hab; omega
  exact (List.perm_ext_iff_of_nodup h.1 hnd).2 fun x => by rw [h.2 x, hl]; simp
/-- What comes of a note that was found under its number. -/
theorem mem_of_atKey {fs : Fl} {n : Int} {c : Int × ByteArray} (h : ∀ zd, (mapD fs).atKey (.int .i64 n) zd = encD c) : c ∈ fs ∧ c.1 = n := by
  have e : ((fun p : Lit × DataW Unit => p.1.sameKey (.int .i64 n)) ∘ entD) = fun x => x.1 == n := by
    funext x
    exact same_int x.1 n
  have h1 : ∀ zd, ((fs.map entD).find? (fun p => p.1.sameKey (.int .i64 n))).elim zd (·.2) = encD c := by
    intro zd
    have := h zd
    unfold mapD DataW.atKey at this
    cases hf : (fs.map entD).find? (fun p => p.1.sameKey (.int .i64 n)) <;> simp only [hf] at this ⊢ <;> exact this
  rw [List.find?_map, e] at h1
  cases hf : fs.find? (fun x => x.1 == n) with
  | none =>
    have ha := h1 (.agg [])
    rw [hf] at ha
    exact absurd ha (by intro h; injection h with h; cases h)
  | some x =>
    have ha := h1 (.agg [])
    rw [hf] at ha
    have : x = c := encD_inj ha
    subst this
    exact ⟨List.mem_of_find?_eq_some hf, find_fst hf⟩
end Go.Proofs.Ytfldlkdnjkaidaa
