/-
  append as an operation of whatever region; own rows. GENERAL: no type is named here.
-/
import Derived.Test.YtdbdlgmejddbhaaDoorPlc
import Derived.Lib.AppendStr
import Derived.Laws.OwnMore
import Derived.Laws.MakeOwn
set_option linter.unusedVariables false
namespace Go.Proofs.YtdbdlgmejddbhaaDoor
open Go Go.RowKit

/-- append, in a plain region. -/
theorem list_ex {w : World} {ops : Array Oper} {rest : List Oper} {o : Oper} {a : Act} {Q : Exit → Act → World → Prop} (hgd : o.guard = none) (s x : Operand) (t u : TypeId)
    (ho : o.op = .call { callee := .builtin .append, args := #[s, x], argTypes := #[t, u] }) (va vb : Value) (hs : a.eval s = va) (hx : a.eval x = vb) {R1 R2 : Value → World → Prop}
    (hr : ∀ ty, ∃ v' w', (Builtin.append_ #[t, u] ty #[va, vb]).run Tryd.prog w = .ok v' w' ∧ (R1 v' w' ∧ R2 v' w'))
    (h : ∀ v' w', R1 v' w' → R2 v' w' → wpList Tryd.prog ops Q rest (a.put o.dst v') w') : wpList Tryd.prog ops Q (o :: rest) a w := by
  refine wpList_plain hgd fun K hK => ?_
  obtain ⟨v', w', hrun, h2, h3⟩ := hr o.type
  unfold Oper.wp execOp
  simp only [ho, resolve, invoke, builtin, Sem.run_bind, Sem.run_pure, Result.andThen_ok, List.map_toArray, List.map_cons, List.map_nil, hs, hx, hrun]
  exact hK _ _ (h v' w' h2 h3)
/-- append, at a step of a region that draws its order. -/
theorem step_ex {w : World} {ops : Array Oper} {o : Oper} {a : Act} {K : Act → World → Prop} {Q : Exit → Act → World → Prop} {E : Prop} (hgd : o.guard = none) (s x : Operand) (t u : TypeId)
    (ho : o.op = .call { callee := .builtin .append, args := #[s, x], argTypes := #[t, u] }) (va vb : Value) (hs : a.eval s = va) (hx : a.eval x = vb) {R1 R2 : Value → World → Prop}
    (hr : ∀ ty, ∃ v' w', (Builtin.append_ #[t, u] ty #[va, vb]).run Tryd.prog w = .ok v' w' ∧ (R1 v' w' ∧ R2 v' w'))
    (h : ∀ v' w', R1 v' w' → R2 v' w' → K (a.put o.dst v') w') : if Region.wanted o (yielded ops a.tmps) = true then Oper.wp Tryd.prog o a w K Q else E := by
  have hw : Region.wanted o (yielded ops a.tmps) = true := by simp [Region.wanted, hgd]
  rw [if_pos hw]
  obtain ⟨v', w', hrun, h2, h3⟩ := hr o.type
  unfold Oper.wp execOp
  simp only [ho, resolve, invoke, builtin, Sem.run_bind, Sem.run_pure, Result.andThen_ok, List.map_toArray, List.map_cons, List.map_nil, hs, hx, hrun]
  exact h v' w' h2 h3

/-- What grows in a call's own row is below all that the call came upon. -/
theorem grown_own {w0 w w' : World} {v : Value} {n : Nat} {xs : List Value} {e : TypeId} (hb : Below w0.heap.size w0 w) (ho : w.ownsRow w0.heap.size e 1 v n xs) (hg : w.grownBy w' v.ownBlock) : Below w0.heap.size w0 w' :=
  hb.grown hg hb.size fun g h => (ho.lt g h).1

theorem own_below {w w' : World} {base n size : Nat} {e : TypeId} {v : Value} {xs : List Value} (h : w.ownsRow base e size v n xs) (hb : Below w.heap.size w w') : w'.ownsRow base e size v n xs := by
  refine ⟨h.1, ?_⟩
  rcases h.2 with h1 | ⟨g, cap, cur, h1, h2, h3, h4⟩
  · exact Or.inl h1
  · exact Or.inr ⟨g, cap, cur, h1, h2, by rw [hb.block g (Array.getElem?_eq_some_iff.1 h3).1]; exact h3, h4⟩
theorem own_apart {w : World} {b b' n n' size size' : Nat} {e e' : TypeId} {v v' : Value} {xs xs' : List Value} (h : w.ownsRow b e size v n xs) (h' : w.ownsRow b' e' size' v' n' xs') (he : e ≠ e') : v.ownBlock = none ∨ v.ownBlock ≠ v'.ownBlock := by
  rcases h.2 with ⟨rfl, _⟩ | ⟨g, cap, cur, rfl, h2, h3, h4⟩
  · exact Or.inl rfl
  · refine Or.inr ?_
    rcases h'.2 with ⟨rfl, _⟩ | ⟨g', cap', cur', rfl, h2', h3', h4'⟩
    · intro hc; cases hc
    · intro hc
      have hg : g = g' := by
        have : some g = some g' := hc
        injection this
      subst hg
      rw [h3] at h3'
      injection h3' with h3'
      injection h3' with _ h5
      exact he h5

end Go.Proofs.YtdbdlgmejddbhaaDoor
