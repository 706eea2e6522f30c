/-
  append as an operation of whatever region; own rows. GENERAL: no type is named here.
-/
import Derived.Test.YtfldlkdnjkaidaaPlc
import Derived.Lib.AppendStr
import Derived.Laws.OwnMore
import Derived.Laws.MakeOwn
set_option linter.unusedVariables false
namespace Go.Proofs.Ytfldlkdnjkaidaa
open Go Go.RowKit

/-- append, in a plain region. -/
theorem list_ex {w : World} {ops : Array Oper} {rest : List Oper} {o : Oper} {a : Act} {Q : Exit → Act → World → Prop} (hgd : o.guard = none) (s x : Operand) (t u : TypeId)
    (ho : o.op = .call { callee := .builtin .append, args := #[s, x], argTypes := #[t, u] }) (va vb : Value) (hs : a.eval s = va) (hx : a.eval x = vb) {R1 R2 : Value → World → Prop}
    (hr : ∀ ty, ∃ v' w', (Builtin.append_ #[t, u] ty #[va, vb]).run Try.prog w = .ok v' w' ∧ (R1 v' w' ∧ R2 v' w'))
    (h : ∀ v' w', R1 v' w' → R2 v' w' → wpList Try.prog ops Q rest (a.put o.dst v') w') : wpList Try.prog ops Q (o :: rest) a w := by
  refine wpList_plain hgd fun K hK => ?_
  obtain ⟨v', w', hrun, h2, h3⟩ := hr o.type
  unfold Oper.wp execOp
  simp only [ho, resolve, invoke, builtin, Sem.run_bind, Sem.run_pure, Result.andThen_ok, List.map_toArray, List.map_cons, List.map_nil, hs, hx, hrun]
  exact hK _ _ (h v' w' h2 h3)
/-- append, at a step of a region that draws its order. -/
theorem step_ex {w : World} {ops : Array Oper} {o : Oper} {a : Act} {K : Act → World → Prop} {Q : Exit → Act → World → Prop} {E : Prop} (hgd : o.guard = none) (s x : Operand) (t u : TypeId)
    (ho : o.op = .call { callee := .builtin .append, args := #[s, x], argTypes := #[t, u] }) (va vb : Value) (hs : a.eval s = va) (hx : a.eval x = vb) {R1 R2 : Value → World → Prop}
    (hr : ∀ ty, ∃ v' w', (Builtin.append_ #[t, u] ty #[va, vb]).run Try.prog w = .ok v' w' ∧ (R1 v' w' ∧ R2 v' w'))
    (h : ∀ v' w', R1 v' w' → R2 v' w' → K (a.put o.dst v') w') : if Region.wanted o (yielded ops a.tmps) = true then Oper.wp Try.prog o a w K Q else E := by
  have hw : Region.wanted o (yielded ops a.tmps) = true := by simp [Region.wanted, hgd]
  rw [if_pos hw]
  obtain ⟨v', w', hrun, h2, h3⟩ := hr o.type
  unfold Oper.wp execOp
  simp only [ho, resolve, invoke, builtin, Sem.run_bind, Sem.run_pure, Result.andThen_ok, List.map_toArray, List.map_cons, List.map_nil, hs, hx, hrun]
  exact h v' w' h2 h3

theorem own_below {w w' : World} {base n size : Nat} {e : TypeId} {v : Value} {xs : List Value} (h : w.ownsRow base e size v n xs) (hb : Below w.heap.size w w') : w'.ownsRow base e size v n xs := by
  refine ⟨h.1, ?_⟩
  rcases h.2 with h1 | ⟨g, cap, cur, h1, h2, h3, h4⟩
  · exact Or.inl h1
  · exact Or.inr ⟨g, cap, cur, h1, h2, by rw [hb.block g (Array.getElem?_eq_some_iff.1 h3).1]; exact h3, h4⟩

end Go.Proofs.Ytfldlkdnjkaidaa
