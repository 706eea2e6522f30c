/-
  A region that draws, in which calls stand beside allocations that wait for nothing: a call that hands back one value in whatever world (and lets the world grow) is taken first; the rest goes from whatever world has grown. GENERAL.
-/
import Derived.Test.YtnoblhacgmeddaaRgz
import Derived.Test.YtnoblhacgmeddaaApp
set_option linter.unusedVariables false
namespace Go.Proofs.Ytnoblhacgmeddaa
open Go Go.RowKit

section
variable {P : Program} {ops : Array Oper} {Q : Exit → Act → World → Prop} {md : Region.Mode} {W : World}

/-- w' is w, grown. -/
def Grown (w w' : World) : Prop := Below w.heap.size w w'
theorem Grown.refl (w : World) : Grown w w := Below.refl _ _
theorem Grown.on {x y z : World} (h : Grown x y) (h' : Grown y z) : Grown x z := Below.trans h (Below.mono h' h.size)
def wpAnyG (P : Program) (md : Region.Mode) (ops : Array Oper) (Q : Exit → Act → World → Prop) (W : World) : Nat → Array Bool → Act → World → Prop := Goes P md ops Q (fun _ _ w => Grown W w) Grown
def selfB (ops : Array Oper) (oi : Oper) : Bool := match oi.dst with
  | some d => !(oi.looksAt ops).contains d
  | none => true
theorem self_of {oi : Oper} (h : selfB ops oi = true) : ∀ d, oi.dst = some d → d ∉ oi.looksAt ops := fun d hd => by
  unfold selfB at h
  rw [hd] at h
  simpa using h
/-- Taken first: from whatever world has grown out of W. -/
theorem wpAnyG_take {i : Nat} {oi : Oper} {v : Value} {n : Nat} {L : Array Bool} {a : Act} (hi : ops[i]? = some oi)
    (hs : Region.noSelect ops = true) (hf : Region.free md ops L i = true) (hr : (Region.ready md ops L).contains i = true) (hself : selfB ops oi = true)
    (hQ : ∀ c a w, Q (.panic c) (a.put oi.dst v) w → Q (.panic c) a w) (hy : Gives P ops Grown (Grown W) oi v a)
    (h : ∀ w, Grown W w → wpAnyG P md ops Q W n (L.setIfInBounds i true) (a.put oi.dst v) w) : ∀ w, Grown W w → wpAnyG P md ops Q W (n + 1) L a w := fun w hw =>
  goes_first (D := Grown W) (R := Grown) (T := fun _ _ w => Grown W w) ⟨hi, Region.noSelect_spec hs, self_of hself, hQ⟩ Grown.refl Grown.on (fun _ => True) (fun _ _ _ _ _ _ => trivial)
    (fun _ _ _ _ h => h) (fun _ _ _ _ _ h h' => h.on h') (fun _ _ _ _ => Iff.rfl) n L a w trivial (Region.free_spec hi hf) (by simpa using hr) hy hw (fun w' _ hw' => h w' hw')
theorem gives_value {o : Oper} {v : Value} {a : Act} (hw : Region.wanted o (yielded ops a.tmps) = true) (h : ∀ w, Grown W w → (execOp a.eval o).run P w = .ok (.value v) w) : Gives P ops Grown (Grown W) o v a :=
  Or.inl ⟨hw, fun w hD => Or.inl (h w hD)⟩
theorem gives_call {o : Oper} {v : Value} {a : Act} (f : FuncId) (args : Array Value) (hw : Region.wanted o (yielded ops a.tmps) = true) (h : ∀ w, Grown W w → (execOp a.eval o).run P w = .ok (.enter f args) w)
    (hc : ∀ w, Grown W w → Calls P f args w fun e w' => e = .returned v ∧ Below w.heap.size w w') : Gives P ops Grown (Grown W) o v a :=
  Or.inl ⟨hw, fun w hD => Or.inr ⟨f, args, h w hD, (hc w hD).mono fun e w' he => he⟩⟩
/-- Each of those that may come up. -/
def AllG (P : Program) (md : Region.Mode) (ops : Array Oper) (Q : Exit → Act → World → Prop) (W : World) (n : Nat) (L : Array Bool) (a : Act) (w : World) (rs : List Nat) : Prop :=
  ∀ i ∈ rs, wpOp P ops Q i (fun a' w' => Grown W w' ∧ ∀ w'', Grown w' w'' → Grown W w'' → wpAnyG P md ops Q W n (L.setIfInBounds i true) a' w'') a w
theorem AllG.nil {n : Nat} {L : Array Bool} {a : Act} {w : World} : AllG P md ops Q W n L a w [] := fun _ h => by cases h
theorem AllG.cons {n : Nat} {L : Array Bool} {a : Act} {w : World} {i : Nat} {o : Oper} {rs : List Nat} (ho : ops[i]? = some o)
    (h : ∀ K' : Act → World → Prop, Shut (∀ a w, Grown W w → (∀ w'', Below w.heap.size w w'' → wpAnyG P md ops Q W n (L.setIfInBounds i true) a w'') → K' a w) → if Region.wanted o (yielded ops a.tmps) = true then Oper.wp P o a w K' Q else K' (a.put o.dst undef) w)
    (hs : AllG P md ops Q W n L a w rs) : AllG P md ops Q W n L a w (i :: rs) := fun j hj => by
  rcases List.mem_cons.1 hj with e | hj
  · rw [e]
    exact wpOp_step ho fun K' hK => h K' fun a' w' hg hgo => hK a' w' ⟨hg, fun w'' h1 _ => hgo w'' h1⟩
  · exact hs j hj
theorem wpAnyG_ready {rs : List Nat} {n : Nat} {L : Array Bool} {a : Act} {w : World} (hr : Region.ready md ops L = rs) (hne : rs ≠ []) (h : AllG P md ops Q W n L a w rs) : wpAnyG P md ops Q W (n + 1) L a w :=
  ⟨fun e => absurd (hr.symm.trans e) hne, fun i hi => h i (hr ▸ hi)⟩
theorem wpAnyG_done {L : Array Bool} {a : Act} {w : World} (hr : Region.ready md ops L = []) (h : Q .normal a w) : ∀ n, wpAnyG P md ops Q W n L a w
  | 0 => ⟨hr, h⟩
  | _ + 1 => ⟨fun _ => h, fun i hi => by rw [hr] at hi; cases hi⟩
theorem wp_region_g {id : Nat} {a : Act} {w : World} (hm : P.follows .mixedOrders = true)
    (h : ∀ w', Grown w w' → wpAnyG P .any ops Q w ops.size (Array.replicate ops.size false) a w') : (Code.region id ops true).wp P Q a w :=
  wp_region_any hm (goes_any Grown.refl _ _ _ _ (h _ ((Below.refl w.heap.size w).drew)))
end
end Go.Proofs.Ytnoblhacgmeddaa
