/-
  A region that draws whose operation z writes what others read: what needs no memory is taken at any time; behind z the world at hand goes on. GENERAL.
-/
import Derived.Test.YthfanonjokpflaaRgz
set_option linter.unusedVariables false
set_option linter.unusedSimpArgs false
namespace Go.Proofs.Ythfanonjokpflaa
open Go

section
variable {P : Program} {ops : Array Oper} {Q : Exit → Act → World → Prop} {md : Region.Mode} {S : World → Prop} {z : Nat}
def selfB (ops : Array Oper) (oi : Oper) : Bool := match oi.dst with | some d => !(oi.looksAt ops).contains d | none => true
theorem wpAnyZ_takeT {i : Nat} {oi : Oper} {v : Value} {fuel : Nat} {listed : Array Bool} {a : Act} {w : World} (hi : ops[i]? = some oi)
    (hs : Region.noSelect ops = true) (hf : Region.free md ops listed i = true) (hr : (Region.ready md ops listed).contains i = true) (hz : (decide (i ≠ z) && selfB ops oi) = true)
    (hQ : ∀ c a w, Q (.panic c) (a.put oi.dst v) w → Q (.panic c) a w) (hy : YieldsIf P ops (fun _ => True) oi v a) (hS : listed.getD z true = false → S w)
    (h : wpAnyZ P md ops Q S z fuel (listed.setIfInBounds i true) (a.put oi.dst v) w) : wpAnyZ P md ops Q S z (fuel + 1) listed a w := by
  rw [Bool.and_eq_true, decide_eq_true_iff] at hz
  obtain ⟨hz1, hz2⟩ := hz
  have hself : ∀ d, oi.dst = some d → d ∉ oi.looksAt ops := fun d hd => by
    unfold selfB at hz2
    rw [hd] at hz2
    simpa using hz2
  have hready : i ∈ Region.ready md ops listed := by simpa using hr
  exact goes_first (D := fun _ => True) (R := Eq) (T := knownZ S z) ⟨hi, Region.noSelect_spec hs, hself, hQ⟩ (fun _ => rfl) (fun h h' => h.trans h') (fun _ => True)
    (fun _ _ _ _ _ _ => trivial) (fun _ _ _ _ _ => trivial) (fun L a w w' _ hT e => e ▸ hT) (fun L a w _ => by unfold knownZ; rw [getD_set_ne true hz1])
    fuel listed a w trivial (Region.free_spec hi hf) hready (hy.imp (fun h => ⟨h.1, fun w hw => Or.inl (h.2 w hw)⟩) id) hS (fun w' e _ => by subst e; exact h)
theorem takesZ_oneT {z i : Nat} {is : List Nat} {oi : Oper} {v : Value} {fuel : Nat} {listed : Array Bool} {a : Act} {w : World} (hy : YieldsIf P ops (fun _ => True) oi v a)
    (h : TakeZ P md ops Q S z is fuel (listed.setIfInBounds i true) (a.put oi.dst v) w) (hS : listed.getD z true = false → S w) (hi : ops[i]? = some oi := by rfl)
    (hs : Region.noSelect ops = true := by kernel_rfl) (hf : Region.free md ops listed i = true := by kernel_rfl) (hr : (Region.ready md ops listed).contains i = true := by kernel_rfl) (hz : (decide (i ≠ z) && selfB ops oi) = true := by kernel_rfl)
    (hQ : ∀ c a w, Q (.panic c) (a.put oi.dst v) w → Q (.panic c) a w := by exact fun _ _ _ h => h) : TakeZ P md ops Q S z (i :: is) (fuel + 1) listed a w :=
  ⟨wpAnyZ_takeT hi hs hf hr hz hQ hy hS h.run⟩
/-- Behind z: one alone may come up. -/
theorem wpAnyZ_past {fuel : Nat} {listed : Array Bool} {a : Act} {w : World} {i : Nat} {o : Oper} (hr : Region.ready md ops listed = [i]) (ho : ops[i]? = some o) (hz : listed.getD z true = true)
    (h : ∀ K' : Act → World → Prop, Shut (∀ a w, wpAnyZ P md ops Q S z fuel (listed.setIfInBounds i true) a w → K' a w) → if Region.wanted o (yielded ops a.tmps) = true then Oper.wp P o a w K' Q else K' (a.put o.dst undef) w) :
    wpAnyZ P md ops Q S z (fuel + 1) listed a w := by
  refine ⟨fun e => (by rw [hr] at e; cases e), fun j hj => ?_⟩
  rw [hr] at hj
  rw [List.mem_singleton.1 hj]
  refine wpOp_step ho fun K' hK => h K' fun a' w' hgo => hK a' w' ⟨fun e => ?_, fun w'' e _ => by subst e; exact hgo⟩
  rcases Nat.decEq z i with hne | heq
  · rw [getD_set_ne true (fun e => hne e.symm)] at e
    rw [hz] at e
    cases e
  · subst heq
    rcases Nat.lt_or_ge z listed.size with hs | hs
    · simp [hs] at e
    · simp [Array.getElem?_eq_none hs] at e
end
end Go.Proofs.Ythfanonjokpflaa
