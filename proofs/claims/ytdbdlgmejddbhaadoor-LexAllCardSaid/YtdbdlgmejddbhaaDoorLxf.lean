/-
  Plain words on blanks laid between two tokens: the four of the statement, and what All makes of the text then. No program is named here.
-/
import Derived.Test.YtdbdlgmejddbhaaDoorLxe
set_option linter.unusedVariables false
namespace Go.Proofs.YtdbdlgmejddbhaaDoor
open Go Go.Lib

theorem advL_add : ∀ (a b : Nat) (l : List UInt8), advL (a + b) l = advL a l + advL b (l.drop (advL a l))
  | 0, b, l => by simp [advL]
  | a + 1, b, l => by
    rw [Nat.add_right_comm]
    simp only [advL]
    by_cases h0 : l = []
    · subst h0
      cases b <;> simp [advL]
    · rw [if_neg h0, if_neg h0, advL_add a b (l.drop (decodeL l).2), List.drop_drop, Nat.add_assoc]
theorem advL_nil (m : Nat) : advL m [] = 0 := by cases m <;> simp [advL]
theorem advL_one (a : Nat) (l : List UInt8) (h : l.drop (advL a l) ≠ []) : advL (a + 1) l = advL a l + (decodeL (l.drop (advL a l))).2 := by
  rw [advL_add a 1 l]
  simp only [advL]
  rw [if_neg h, Nat.add_zero]
theorem advL_in (a b : Nat) (l : List UInt8) (h : l.drop (advL (a + b) l) ≠ []) : l.drop (advL a l) ≠ [] := by
  intro h0
  apply h
  rw [advL_add, h0, advL_nil, Nat.add_zero, h0]

theorem advL_ge (n : Nat) (l : List UInt8) (h : l.drop (advL n l) ≠ []) : n ≤ advL n l := by
  induction n with
  | zero => exact Nat.zero_le _
  | succ n ih =>
    have h1 := advL_in n 1 l h
    rw [advL_one n l h1]
    have := ih h1
    have := wd_pos (l.drop (advL n l))
    omega

/-- Blanks: c code points. -/
def Bl (Y : List UInt8) (c : Nat) : Prop := HeadBl Y ∧ 0 < c ∧ ∀ (X : List UInt8) (m : Nat), lx (Y ++ X) m 0 = lx X (m + c) 0
theorem lx_bl (y : UInt8) (l : List UInt8) (n : Nat) (hy : y = 32 ∨ y = 9 ∨ y = 10 ∨ y = 13) : lx (y :: l) n 0 = lx l (n + 1) 0 := by
  have hd : decodeL (y :: l) = (y.toNat, 1) := decodeL_ascii _ _ (by rcases hy with rfl | rfl | rfl | rfl <;> decide)
  rw [lx_blank n (by rw [hd]; rcases hy with rfl | rfl | rfl | rfl <;> decide), hd]
  rfl
theorem Bl.cons {Y : List UInt8} {c : Nat} (h : Bl Y c) (y : UInt8) (hy : y = 32 ∨ y = 9 ∨ y = 10 ∨ y = 13) : Bl (y :: Y) (c + 1) :=
  ⟨⟨y, Y, rfl, hy⟩, by omega, fun X m => by rw [List.cons_append, lx_bl y _ _ hy, h.2.2, Nat.add_right_comm, Nat.add_assoc]⟩
theorem Bl.one (y : UInt8) (hy : y = 32 ∨ y = 9 ∨ y = 10 ∨ y = 13) : Bl [y] 1 := ⟨⟨y, [], rfl, hy⟩, by omega, fun X m => lx_bl y X m hy⟩
theorem Bl.line : Bl [32, 45, 45, 32, 105, 116, 39, 115, 32, 40, 10] 11 := by
  refine ⟨⟨32, _, rfl, .inl rfl⟩, by omega, fun X m => ?_⟩
  have hl : lineLen ([45, 45, 32, 105, 116, 39, 115, 32, 40] ++ (10 :: X)) = [45, 45, 32, 105, 116, 39, 115, 32, (40 : UInt8)].length := by simp [lineLen]
  have e : [32, 45, 45, 32, 105, 116, 39, 115, 32, 40, 10] ++ X = 32 :: ([45, 45, 32, 105, 116, 39, 115, 32, 40] ++ (10 :: X)) := by simp
  rw [e, lx_bl 32 _ _ (.inl rfl), lx_line _ (by simp), hl, lx_ascii _ _ _ (by decide), lx_bl 10 _ _ (.inr (.inr (.inl rfl)))]
  exact congrArg (fun n => lx X n 0) (by simp)
/-- The four that are laid. -/
def blk4 : Nat → List UInt8
  | 0 => [32]
  | 1 => [10, 9]
  | 2 => [32, 45, 45, 32, 105, 116, 39, 115, 32, 40, 10]
  | _ => [13, 10, 32, 32]
theorem blk4_bl (j : Nat) : ∃ c, Bl (blk4 j) c := by
  match j with
  | 0 => exact ⟨_, Bl.one 32 (.inl rfl)⟩
  | 1 => exact ⟨_, (Bl.one 9 (.inr (.inl rfl))).cons 10 (.inr (.inr (.inl rfl)))⟩
  | 2 => exact ⟨_, Bl.line⟩
  | j + 3 => exact ⟨_, (((Bl.one 32 (.inl rfl)).cons 32 (.inl rfl)).cons 10 (.inr (.inr (.inl rfl)))).cons 13 (.inr (.inr (.inr rfl)))⟩

/-- The tokens with blanks laid ahead of the k-th. -/
def later (L : List Tk4) (k c : Nat) : List Tk4 := L.take k ++ (L.drop k).map (shiftT c)
theorem later_length (L : List Tk4) (k c : Nat) : (later L k c).length = L.length := by
  unfold later
  rw [List.length_append, List.length_map, List.length_take, List.length_drop]
  omega
theorem later_get (L : List Tk4) (k c i : Nat) (t : Tk4) (h : L[i]? = some t) : (later L k c)[i]? = some (if i < k then t else shiftT c t) := by
  have hi : i < L.length := (List.getElem?_eq_some_iff.1 h).1
  unfold later
  rw [List.getElem?_append]
  by_cases hk : i < k
  · rw [if_pos (by rw [List.length_take]; omega), List.getElem?_take, if_pos hk, if_pos hk, h]
  · rw [if_neg (by rw [List.length_take]; omega), if_neg hk, List.getElem?_map, List.getElem?_drop, List.length_take, show k + (i - min k L.length) = i from by omega, h]
    rfl
theorem blanks_at {l : List UInt8} {L : List Tk4} (h : lx l 0 0 = .ok L) {k : Nat} {t : Tk4} (hk : L[k]? = some t) {Y : List UInt8} {c : Nat} (hY : Bl Y c) :
    Here (l.drop (advL t.2.2.2 l)) ∧ lx (l.take (advL t.2.2.2 l) ++ (Y ++ l.drop (advL t.2.2.2 l))) 0 0 = .ok (later L k c) := by
  obtain ⟨m, hm, hh⟩ := lx_here l 0 0 L h t (List.mem_of_getElem? hk)
  rw [Nat.zero_add] at hm
  rw [hm]
  have hc := cnt_take m l hh.nc hh.1
  refine ⟨hh, ?_⟩
  refine lx_ins c (l.take (advL m l)) (l.drop (advL m l)) Y 0 0 k L (.inr hh) hY.1 (fun h0 => absurd h0 hh.1) (fun n => hY.2.2 _ n) (Nat.zero_le _) (.inr ⟨hh.1, t, hk, ?_⟩) ?_
  · rw [hm, hc, Nat.zero_add]
  · rw [List.take_append_drop]
    exact h
theorem blanks_end {l : List UInt8} {L : List Tk4} (h : lx l 0 0 = .ok L) {Y : List UInt8} {c : Nat} (hY : Bl (10 :: Y) c) : lx (l ++ (10 :: Y)) 0 0 = .ok (later L L.length c) := by
  have := lx_ins c l [] (10 :: Y) 0 0 L.length L (.inl rfl) hY.1 (fun _ => ⟨Y, rfl⟩) (fun n => hY.2.2 _ n) (Nat.zero_le _) (.inl ⟨rfl, rfl⟩) (by rw [List.append_nil]; exact h)
  rw [List.append_nil] at this
  exact this
end Go.Proofs.YtdbdlgmejddbhaaDoor
