/-
  Two lists of columns in order, the next one always at the end (plain): it is what is merged.
-/
import Derived.Test.YtafbbojfifcncaaRo
set_option linter.unusedVariables false
set_option linter.unusedSimpArgs false
namespace Go.Proofs.Ytafbbojfifcncaa
open Go Go.RowKit

def pushC (M : Cols) (x : ByteArray × Ce) : Cols :=
  match M.getLast? with
  | some y => if y.1 = x.1 then M.dropLast ++ [(y.1, y.2.join x.2)] else M ++ [x]
  | none => [x]
def runC : Cols → Cols → Cols → Cols
  | M, [], [] => M
  | M, x :: a, [] => runC (pushC M x) a []
  | M, [], y :: b => runC (pushC M y) [] b
  | M, x :: a, y :: b => if nlt y.1 x.1 then runC (pushC M y) (x :: a) b else runC (pushC M x) a (y :: b)
termination_by _ a b => a.length + b.length
theorem runC_nil (M : Cols) : runC M [] [] = M := by unfold runC; rfl
theorem runC_a (M : Cols) (x : ByteArray × Ce) (a : Cols) : runC M (x :: a) [] = runC (pushC M x) a [] := by rw [runC]
theorem runC_b (M : Cols) (y : ByteArray × Ce) (b : Cols) : runC M [] (y :: b) = runC (pushC M y) [] b := by rw [runC]
theorem runC_ab (M : Cols) (x y : ByteArray × Ce) (a b : Cols) (h : ¬ nlt y.1 x.1) : runC M (x :: a) (y :: b) = runC (pushC M x) a (y :: b) := by rw [runC, if_neg h]
theorem runC_ba (M : Cols) (x y : ByteArray × Ce) (a b : Cols) (h : nlt y.1 x.1) : runC M (x :: a) (y :: b) = runC (pushC M y) (x :: a) b := by rw [runC, if_pos h]
theorem pushC_nil (x : ByteArray × Ce) : pushC [] x = [x] := rfl
theorem pushC_last (M : Cols) (y x : ByteArray × Ce) : pushC (M ++ [y]) x = if y.1 = x.1 then M ++ [(y.1, y.2.join x.2)] else (M ++ [y]) ++ [x] := by
  unfold pushC
  rw [List.getLast?_concat, List.dropLast_concat]
theorem pushC_length (M : Cols) (x : ByteArray × Ce) : (pushC M x).length ≤ M.length + 1 := by
  rcases List.eq_nil_or_concat M with rfl | ⟨L, y, rfl⟩
  · simp [pushC]
  · rw [List.concat_eq_append, pushC_last]
    split <;> simp
/-- At the end is where it is put. -/
theorem pushC_put : ∀ {M : Cols} (x : ByteArray × Ce), Rise M → (∀ m ∈ M, ¬ nlt x.1 m.1) → pushC M x = putC M x.1 x.2
  | [], x, _, _ => rfl
  | [(m, d)], (n, c), _, h => by
    have h1 : ¬ nlt n m := h _ (List.mem_cons_self ..)
    show pushC ([] ++ [(m, d)]) (n, c) = if nlt m n then (m, d) :: [(n, c)] else if m = n then [(m, d.join c)] else (n, c) :: [(m, d)]
    rw [pushC_last]
    by_cases h2 : m = n
    · rw [if_pos h2, if_neg (fun h3 => nlt_ne h3 h2), if_pos h2]
      rfl
    · rw [if_neg h2, if_pos ((nlt_or m n).resolve_right fun h3 => h3.elim h2 h1)]
      rfl
  | (m, d) :: z :: M, (n, c), hr, h => by
    have ih := pushC_put (M := z :: M) (n, c) hr.2 fun y hy => h y (List.mem_cons_of_mem _ hy)
    have h1 : nlt m n := by
      have h2 := hr.1 z (List.mem_cons_self ..)
      rcases nlt_or z.1 n with h3 | h3 | h3
      · exact nlt_tr h2 h3
      · exact h3 ▸ h2
      · exact absurd h3 (h z (List.mem_cons_of_mem _ (List.mem_cons_self ..)))
    have e : pushC ((m, d) :: z :: M) (n, c) = (m, d) :: pushC (z :: M) (n, c) := by
      rcases List.eq_nil_or_concat (z :: M) with h4 | ⟨L, y, h4⟩
      · cases h4
      · rw [h4, List.concat_eq_append, pushC_last, ← List.cons_append, pushC_last]
        split <;> rfl
    rw [e, ih]
    show _ = if nlt m n then (m, d) :: putC (z :: M) n c else _
    rw [if_pos h1]
def Under (M l : Cols) : Prop := ∀ x ∈ l, ∀ m ∈ M, ¬ nlt x.1 m.1
theorem under_put {M l : Cols} {x : ByteArray × Ce} (h : Under M l) (hx : ∀ y ∈ l, ¬ nlt y.1 x.1) : Under (putC M x.1 x.2) l := fun y hy m hm =>
  putC_all (p := fun z => ¬ nlt y.1 z.1) (n := x.1) (c := x.2) (fun _ hd => hd) (hx y hy) (fun z hz => h y hy z hz) m hm
theorem runC_ok : ∀ (k : Nat) (M a b : Cols), a.length + b.length ≤ k → Rise M → Full M → Rise a → Full a → Rise b → Full b → Under M a → Under M b →
    Rise (runC M a b) ∧ Full (runC M a b) ∧ ∀ n, getC (runC M a b) n = (getC M n).join ((getC a n).join (getC b n))
  | k, M, [], [], _, rM, fM, _, _, _, _, _, _ => by
    rw [runC_nil]
    refine ⟨rM, fM, fun n => ?_⟩
    show getC M n = (getC M n).join (noC.join noC)
    rw [join_self, join_no (getC_has fM n)]
  | 0, M, x :: a, b, h, _, _, _, _, _, _, _, _ => by simp at h
  | 0, M, [], y :: b, h, _, _, _, _, _, _, _, _ => by simp at h
  | k + 1, M, x :: a, [], h, rM, fM, ra, fa, rb, fb, ua, ub => by
    have hp : pushC M x = putC M x.1 x.2 := pushC_put x rM fun m hm => ua x (List.mem_cons_self ..) m hm
    rw [runC_a, hp]
    obtain ⟨h1, h2, h3⟩ := runC_ok k (putC M x.1 x.2) a [] (by simp at h ⊢; omega) (putC_rise _ _ rM) (putC_full fM fa.head) ra.2 fa.tail rb fb
      (under_put (fun y hy m hm => ua y (List.mem_cons_of_mem _ hy) m hm) fun y hy h4 => nlt_irr _ (nlt_tr (ra.1 y hy) h4)) (fun y hy => by cases hy)
    refine ⟨h1, h2, fun n => ?_⟩
    rw [h3, getC_put x.1 x.2 rM (.inl fa.head)]
    by_cases hn : x.1 = n
    · subst hn
      rw [if_pos rfl, show getC (x :: a) x.1 = x.2 from getC_head _ _ _, getC_low ra.1]
      show ((getC M x.1).join x.2).join (noC.join noC) = (getC M x.1).join (x.2.join noC)
      rw [join_self, join_assoc]
    · rw [if_neg hn, show getC (x :: a) n = getC a n from getC_next _ _ hn]
  | k + 1, M, [], y :: b, h, rM, fM, ra, fa, rb, fb, ua, ub => by
    have hp : pushC M y = putC M y.1 y.2 := pushC_put y rM fun m hm => ub y (List.mem_cons_self ..) m hm
    rw [runC_b, hp]
    obtain ⟨h1, h2, h3⟩ := runC_ok k (putC M y.1 y.2) [] b (by simp at h ⊢; omega) (putC_rise _ _ rM) (putC_full fM fb.head) ra fa rb.2 fb.tail
      (fun y hy => by cases hy) (under_put (fun x hx m hm => ub x (List.mem_cons_of_mem _ hx) m hm) fun x hx h4 => nlt_irr _ (nlt_tr (rb.1 x hx) h4))
    refine ⟨h1, h2, fun n => ?_⟩
    rw [h3, getC_put y.1 y.2 rM (.inl fb.head)]
    by_cases hn : y.1 = n
    · subst hn
      rw [if_pos rfl, show getC (y :: b) y.1 = y.2 from getC_head _ _ _, getC_low rb.1]
      show ((getC M y.1).join y.2).join (noC.join noC) = (getC M y.1).join (noC.join y.2)
      rw [join_self, join_assoc, join_comm noC]
    · rw [if_neg hn, show getC (y :: b) n = getC b n from getC_next _ _ hn]
  | k + 1, M, x :: a, y :: b, h, rM, fM, ra, fa, rb, fb, ua, ub => by
    by_cases hyx : nlt y.1 x.1
    · have hp : pushC M y = putC M y.1 y.2 := pushC_put y rM fun m hm => ub y (List.mem_cons_self ..) m hm
      rw [runC_ba _ _ _ _ _ hyx, hp]
      obtain ⟨h1, h2, h3⟩ := runC_ok k (putC M y.1 y.2) (x :: a) b (by simp at h ⊢; omega) (putC_rise _ _ rM) (putC_full fM fb.head) ra fa rb.2 fb.tail
        (under_put ua fun z hz h4 => by
          rcases List.mem_cons.1 hz with rfl | hz
          · exact nlt_irr _ (nlt_tr hyx h4)
          · exact nlt_irr _ (nlt_tr (nlt_tr hyx (ra.1 z hz)) h4))
        (under_put (fun x hx m hm => ub x (List.mem_cons_of_mem _ hx) m hm) fun x hx h4 => nlt_irr _ (nlt_tr (rb.1 x hx) h4))
      refine ⟨h1, h2, fun n => ?_⟩
      rw [h3, getC_put y.1 y.2 rM (.inl fb.head)]
      by_cases hn : y.1 = n
      · subst hn
        have hl : getC (x :: a) y.1 = noC := getC_low fun z hz => by
          rcases List.mem_cons.1 hz with rfl | hz
          · exact hyx
          · exact nlt_tr hyx (ra.1 z hz)
        rw [if_pos rfl, show getC (y :: b) y.1 = y.2 from getC_head _ _ _, getC_low rb.1, hl, join_self, join_assoc, join_comm noC]
      · rw [if_neg hn, show getC (y :: b) n = getC b n from getC_next _ _ hn]
    · have hp : pushC M x = putC M x.1 x.2 := pushC_put x rM fun m hm => ua x (List.mem_cons_self ..) m hm
      rw [runC_ab _ _ _ _ _ hyx, hp]
      obtain ⟨h1, h2, h3⟩ := runC_ok k (putC M x.1 x.2) a (y :: b) (by simp at h ⊢; omega) (putC_rise _ _ rM) (putC_full fM fa.head) ra.2 fa.tail rb fb
        (under_put (fun y hy m hm => ua y (List.mem_cons_of_mem _ hy) m hm) fun y hy h4 => nlt_irr _ (nlt_tr (ra.1 y hy) h4))
        (under_put ub fun z hz h4 => by
          rcases List.mem_cons.1 hz with rfl | hz
          · exact hyx h4
          · exact hyx (nlt_tr (rb.1 z hz) h4))
      refine ⟨h1, h2, fun n => ?_⟩
      rw [h3, getC_put x.1 x.2 rM (.inl fa.head)]
      by_cases hn : x.1 = n
      · subst hn
        rw [if_pos rfl, show getC (x :: a) x.1 = x.2 from getC_head _ _ _, getC_low ra.1, join_assoc]
        rw [no_join (getC_has fb _)]
      · rw [if_neg hn, show getC (x :: a) n = getC a n from getC_next _ _ hn]
/-- What is so put together is what is merged. -/
theorem runC_mrg {l k : Cols} (rl : Rise l) (fl : Full l) (rk : Rise k) (fk : Full k) : runC [] l k = mrg l k := by
  obtain ⟨h1, h2, h3⟩ := runC_ok _ [] l k (Nat.le_refl _) trivial (fun x hx => by cases hx) rl fl rk fk (fun x _ m hm => by cases hm) (fun x _ m hm => by cases hm)
  refine mrg_eq rl fl rk fk h1 h2 fun n => ?_
  rw [h3]
  show noC.join _ = _
  exact no_join (has_join (getC_has fl n) (getC_has fk n))
end Go.Proofs.Ytafbbojfifcncaa
