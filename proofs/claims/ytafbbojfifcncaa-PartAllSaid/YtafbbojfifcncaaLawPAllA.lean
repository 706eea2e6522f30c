/-
  The developers' Merge of rows.
-/
import Derived.Test.YtafbbojfifcncaaRw2
import Derived.Lib.SmallJoins
import Derived.Test.YtafbbojfifcncaaProg
import Derived.Deep.RegionHeld3
import Derived.KernelRfl
import Derived.Test.YtafbbojfifcncaaTkl
import Derived.Test.YtafbbojfifcncaaRo5
import Derived.Test.YtafbbojfifcncaaRnN
import Derived.Test.YtafbbojfifcncaaPlc
import Derived.WalkSpells
import Derived.Deep.QuietTactic
import Derived.BigQuiet
import Derived.Test.YtafbbojfifcncaaRo1
import Derived.Test.YtafbbojfifcncaaRoB
import Derived.Test.YtafbbojfifcncaaRc3
import Derived.Test.YtafbbojfifcncaaCe5
import Derived.Test.YtafbbojfifcncaaRw4
import Derived.Test.YtafbbojfifcncaaRoV
import Derived.Test.YtafbbojfifcncaaRoU
import Derived.Test.YtafbbojfifcncaaRo2
import Derived.Test.YtafbbojfifcncaaPd4
import Derived.Test.YtafbbojfifcncaaPd1
import Derived.Test.YtafbbojfifcncaaPm0
import Derived.Deep.DeepCutAuto
import Derived.Deep.CutBlock
set_option linter.unusedVariables false
set_option linter.unusedSimpArgs false
namespace Go.Proofs.Ytafbbojfifcncaa
open Go Go.RowKit Go.Joins

/-- A row's block, the columns as they are. -/
def RJ (w : World) (r : Nat) (k s : ByteArray) (d : Bool) (a e g h : Int) (A : Option Addr) (n c : Nat) : Prop := w.heap[r]? = some (.cells #[.string k, .string s, .bool d, .int .i64 a, .int .i64 e, .int .i64 g, .int .i64 h, .slice A n c] 36 (0, 0))
theorem RJ.cells {w : World} {r : Nat} {k s : ByteArray} {d : Bool} {a e g h : Int} {A : Option Addr} {n c : Nat} (hr : RJ w r k s d a e g h A n c) : RoAt w r k s d a e g h A n c :=
  ⟨cell_at hr rfl, cell_at hr rfl, cell_at hr rfl, cell_at hr rfl, cell_at hr rfl, cell_at hr rfl, cell_at hr rfl, cell_at hr rfl⟩
theorem RJ.set {w : World} {r : Nat} {k s : ByteArray} {d : Bool} {a e g h : Int} {A : Option Addr} {n c : Nat} (hr : RJ w r k s d a e g h A n c) (k' s' : ByteArray) (d' : Bool) (a' e' g' h' : Int) (A' : Option Addr) (n' c' : Nat) :
    RJ ((((((((w.setCell ⟨r, 0, none⟩ (.string k')).setCell ⟨r, 1, none⟩ (.string s')).setCell ⟨r, 2, none⟩ (.bool d')).setCell ⟨r, 3, none⟩ (.int .i64 a')).setCell ⟨r, 4, none⟩ (.int .i64 e')).setCell ⟨r, 5, none⟩ (.int .i64 g')).setCell ⟨r, 6, none⟩ (.int .i64 h')).setCell ⟨r, 7, none⟩ (.slice A' n' c')) r k' s' d' a' e' g' h' A' n' c' := by
  have m := block_setCell (i := 7) (block_setCell (i := 6) (block_setCell (i := 5) (block_setCell (i := 4) (block_setCell (i := 3) (block_setCell (i := 2) (block_setCell (i := 1) (block_setCell (i := 0) hr (.string k')) (.string s')) (.bool d')) (.int .i64 a')) (.int .i64 e')) (.int .i64 g')) (.int .i64 h')) (.slice A' n' c')
  simp only [List.setIfInBounds_toArray, List.set_cons_zero, List.set_cons_succ] at m
  exact m
theorem RJ.set7 {w : World} {r : Nat} {k s : ByteArray} {d : Bool} {a e g h : Int} {A : Option Addr} {n c : Nat} (hr : RJ w r k s d a e g h A n c) (A' : Option Addr) (n' c' : Nat) :
    RJ (w.setCell ⟨r, 7, none⟩ (.slice A' n' c')) r k s d a e g h A' n' c' := by
  have m := block_setCell (i := 7) hr (.slice A' n' c')
  simp only [List.setIfInBounds_toArray, List.set_cons_zero, List.set_cons_succ] at m
  exact m
theorem RJ.thawed {w : World} {r : Nat} {k s : ByteArray} {d : Bool} {a e g h : Int} {A : Option Addr} {n c : Nat} (hr : RJ w r k s d a e g h A n c) (i : Nat) : w.frozen? ⟨r, i, none⟩ = false := thawed_at (i := i) hr
/-- Eight stores into one block. -/
theorem eight_heap (w : World) (r : Nat) (v0 v1 v2 v3 v4 v5 v6 v7 : Value) (j : Nat) (hj : j ≠ r) :
    ((((((((w.setCell ⟨r, 0, none⟩ v0).setCell ⟨r, 1, none⟩ v1).setCell ⟨r, 2, none⟩ v2).setCell ⟨r, 3, none⟩ v3).setCell ⟨r, 4, none⟩ v4).setCell ⟨r, 5, none⟩ v5).setCell ⟨r, 6, none⟩ v6).setCell ⟨r, 7, none⟩ v7).heap[j]? = w.heap[j]? := by
  iterate 8 rw [Below.heap_setCell _ _ _ _ hj]
theorem eight_below {B : Nat} {w0 w : World} (h : Below B w0 w) (r : Nat) (hr : B ≤ r) (v0 v1 v2 v3 v4 v5 v6 v7 : Value) :
    Below B w0 ((((((((w.setCell ⟨r, 0, none⟩ v0).setCell ⟨r, 1, none⟩ v1).setCell ⟨r, 2, none⟩ v2).setCell ⟨r, 3, none⟩ v3).setCell ⟨r, 4, none⟩ v4).setCell ⟨r, 5, none⟩ v5).setCell ⟨r, 6, none⟩ v6).setCell ⟨r, 7, none⟩ v7) :=
  (((((((h.setCell (p := ⟨r, 0, none⟩) hr v0).setCell (p := ⟨r, 1, none⟩) hr v1).setCell (p := ⟨r, 2, none⟩) hr v2).setCell (p := ⟨r, 3, none⟩) hr v3).setCell (p := ⟨r, 4, none⟩) hr v4).setCell (p := ⟨r, 5, none⟩) hr v5).setCell (p := ⟨r, 6, none⟩) hr v6).setCell (p := ⟨r, 7, none⟩) hr v7

theorem own_ne {w : World} {b n size : Nat} {e e' : TypeId} {v : Value} {xs : List Value} {r : Nat} {cs : Array Value} (h : w.ownsRow b e size v n xs) (hr : w.heap[r]? = some (.cells cs e' (0, 0))) (he : e ≠ e') : ∀ g, v.ownBlock = some g → g ≠ r := fun g hg hgr => by
  subst hgr
  obtain ⟨cs', h1⟩ := own_tag h g hg
  rw [h1] at hr
  injection hr with hr
  injection hr with _ h2
  exact he h2
theorem Cur.eight {w0 w : World} {v : Value} {C : Cols} (hc : Cur w0 w v C) {r : Nat} {k s : ByteArray} {d : Bool} {a e g h : Int} {A : Option Addr} {n c : Nat} (hr : RJ w r k s d a e g h A n c) (hb : w0.heap.size ≤ r) (v0 v1 v2 v3 v4 v5 v6 v7 : Value) :
    Cur w0 ((((((((w.setCell ⟨r, 0, none⟩ v0).setCell ⟨r, 1, none⟩ v1).setCell ⟨r, 2, none⟩ v2).setCell ⟨r, 3, none⟩ v3).setCell ⟨r, 4, none⟩ v4).setCell ⟨r, 5, none⟩ v5).setCell ⟨r, 6, none⟩ v6).setCell ⟨r, 7, none⟩ v7) v C :=
  ⟨own_kept hc.own fun g hg => eight_heap _ _ _ _ _ _ _ _ _ _ g (own_ne hc.own hr (by decide) g hg), eight_below hc.below r hb _ _ _ _ _ _ _ _⟩
end Go.Proofs.Ytafbbojfifcncaa
set_option linter.unusedVariables false
set_option linter.unusedSimpArgs false
namespace Go.Proofs.Ytafbbojfifcncaa
open Go

section
variable {P : Program} {ops : Array Oper} {Q : Exit → Act → World → Prop} {md : Region.Mode} {T : Array Bool → Act → World → Prop} {R : World → World → Prop} {D : World → Prop}

/-- A step leaves a frame as it was, but for its own slot (and what is deferred). -/
def Only (o : Oper) (a a' : Act) : Prop := ∃ u ds, a' = ({ a with defers := ds } : Act).put o.dst u
theorem step_only {j : Nat} {oj : Oper} (hj : ops[j]? = some oj) {K : Act → World → Prop} {a : Act} {w : World} (h : wpOp P ops Q j K a w) : wpOp P ops Q j (fun a' w' => K a' w' ∧ Only oj a a') a w := by
  have here : ∀ (u : Value) (w' : World), K (a.put oj.dst u) w' → K (a.put oj.dst u) w' ∧ Only oj a (a.put oj.dst u) := fun u w' hk => ⟨hk, u, a.defers, rfl⟩
  unfold wpOp at h ⊢
  rw [hj] at h ⊢
  dsimp only at h ⊢
  by_cases hw : Region.wanted oj (yielded ops a.tmps) = true
  · rw [if_pos hw] at h ⊢
    refine h.imp_left fun h => ?_
    unfold Oper.wp at h ⊢
    rcases hrun : (execOp a.eval oj).run P w with ⟨n, w'⟩ | ⟨x, w'⟩
    · rw [hrun] at h
      cases n with
      | value u => exact here u w' h
      | skip => exact here undef w' h
      | defer d => exact ⟨h, undef, d :: a.defers, rfl⟩
      | enter f args =>
        refine Calls.mono h fun e w'' he => ?_
        cases e with
        | returned u => exact here u w'' he
        | panicked c => exact he
        | outgrown => exact he
      | row row args => exact Rows.mono h fun u w'' he => here u w'' he
      | _ => exact h
    · rw [hrun] at h
      cases x <;> exact h
  · rw [if_neg hw] at h ⊢
    exact here undef w h

/-- What comes of an operation: a value and the world as it was; or a call that hands it back, in a world that may come. -/
def Out (P : Program) (R : World → World → Prop) (E : Sem Next) (v : Value) (w : World) : Prop :=
  E.run P w = .ok (.value v) w ∨ ∃ f args, E.run P w = .ok (.enter f args) w ∧ Calls P f args w fun e w' => e = .returned v ∧ R w w'
def Gives (P : Program) (ops : Array Oper) (R : World → World → Prop) (D : World → Prop) (o : Oper) (v : Value) (a : Act) : Prop :=
  (Region.wanted o (yielded ops a.tmps) = true ∧ ∀ w, D w → Out P R (execOp a.eval o) v w) ∨ (Region.wanted o (yielded ops a.tmps) = false ∧ v = undef)
theorem Gives.step {i : Nat} {o : Oper} {v : Value} {a : Act} (hi : ops[i]? = some o) (h : Gives P ops R D o v a) {w : World} (hD : D w) (hr : R w w) {K : Act → World → Prop} (hk : ∀ w', R w w' → K (a.put o.dst v) w') : wpOp P ops Q i K a w := by
  unfold wpOp
  rw [hi]
  dsimp only
  rcases h with ⟨hw, h⟩ | ⟨hw, rfl⟩
  · rw [if_pos hw]
    refine Or.inl ?_
    unfold Oper.wp
    rcases h w hD with hrun | ⟨f, args, hrun, hc⟩ <;> rw [hrun]
    · exact hk w hr
    · exact hc.mono fun e w' ⟨he, hR⟩ => by subst he; exact hk w' hR
  · rw [if_neg (by rw [hw]; decide)]
    exact hk w hr

/-- Whatever comes up next, what is known is known of it, and from whatever world may come of it the rest goes. -/
def Goes (P : Program) (md : Region.Mode) (ops : Array Oper) (Q : Exit → Act → World → Prop) (T : Array Bool → Act → World → Prop) (R : World → World → Prop) : Nat → Array Bool → Act → World → Prop
  | 0, L, a, w => Region.ready md ops L = [] ∧ Q .normal a w
  | n + 1, L, a, w => (Region.ready md ops L = [] → Q .normal a w) ∧ ∀ i ∈ Region.ready md ops L,
      wpOp P ops Q i (fun a' w' => T (L.setIfInBounds i true) a' w' ∧ ∀ w'', R w' w'' → T (L.setIfInBounds i true) a' w'' → Goes P md ops Q T R n (L.setIfInBounds i true) a' w'') a w
theorem goes_any (hr : ∀ w, R w w) : ∀ (n : Nat) (L : Array Bool) (a : Act) (w : World), Goes P md ops Q T R n L a w → wpAny P md ops Q n L a w
  | 0, _, _, _, h => h
  | n + 1, _, _, _, h => ⟨h.1, fun i hi => wpOp_mono (fun a' w' hk => goes_any hr n _ a' w' (hk.2 w' (hr w') hk.1)) (h.2 i hi)⟩
/-- The side conditions of taking operation i first. -/
structure First (ops : Array Oper) (md : Region.Mode) (i : Nat) (oi : Oper) (Q : Exit → Act → World → Prop) (v : Value) : Prop where
  at_ : ops[i]? = some oi
  sel : ∀ (j : Nat) (o : Oper) cs b, ops[j]? = some o → o.op ≠ .select cs b
  self : ∀ d, oi.dst = some d → d ∉ oi.looksAt ops
  out : ∀ c a w, Q (.panic c) (a.put oi.dst v) w → Q (.panic c) a w
/-- No operation that is still to come touches what i reads or writes, but those that wait for it. -/
def Clear (ops : Array Oper) (md : Region.Mode) (i : Nat) (oi : Oper) (L : Array Bool) : Prop :=
  ∀ j oj, ops[j]? = some oj → j ≠ i → L.getD j true = false → (∀ e ∈ oj.after, Region.binds md e = true → e.on ≠ i) → oi.apart ops oj = true
theorem Clear.on {i : Nat} {oi : Oper} {L : Array Bool} (h : Clear ops md i oi L) (j : Nat) : Clear ops md i oi (L.setIfInBounds j true) := fun k ok hk hne hun hno => by
  refine h k ok hk hne ?_ hno
  rcases Nat.decEq j k with hjk | hjk
  · rwa [getD_set_ne true hjk] at hun
  · subst hjk
    rcases Nat.lt_or_ge j L.size with hs | hs
    · simp [hs] at hun
    · simp [Array.getElem?_eq_none hs] at hun
/-- **What is ready and gives one value in whatever world may be first.** F: what lists it may be ready in (kept by all that does not wait for it). -/
theorem goes_first {i : Nat} {oi : Oper} {v : Value} (hi : First ops md i oi Q v) (hr : ∀ w, R w w) (ht : ∀ {x y z}, R x y → R y z → R x z) (F : Array Bool → Prop)
    (hF : ∀ L j oj, F L → ops[j]? = some oj → (∀ e ∈ oj.after, Region.binds md e = true → e.on ≠ i) → F (L.setIfInBounds j true))
    (hD : ∀ L a w, F L → T L a w → D w) (hG : ∀ L a w w', F L → T L a w → R w w' → T L a w')
    (hT : ∀ L a w, F L → (T L a w ↔ T (L.setIfInBounds i true) (a.put oi.dst v) w)) :
    ∀ (n : Nat) (L : Array Bool) (a : Act) (w : World), F L → Clear ops md i oi L → i ∈ Region.ready md ops L → Gives P ops R D oi v a → T L a w →
      (∀ w', R w w' → T L a w' → Goes P md ops Q T R n (L.setIfInBounds i true) (a.put oi.dst v) w') → Goes P md ops Q T R (n + 1) L a w
  | n, L, a, w, hFL, hC, hir, hy, hTw, H => by
    have none_ : Region.ready md ops L = [] → Q .normal a w := fun e => by rw [e] at hir; cases hir
    refine ⟨none_, fun j hj => ?_⟩
    rcases Nat.decEq j i with hne | heq
    · -- another one comes up: i may have been first
      obtain ⟨hun, oj, hoj, hdep⟩ := mem_ready.1 hj
      have hno : ∀ e ∈ oj.after, Region.binds md e = true → e.on ≠ i := fun e he hb hon => by
        have hl := hdep e he hb
        have hu := (mem_ready.1 hir).1
        rw [hon] at hl
        rcases Nat.lt_or_ge i L.size with hs | hs
        · simp [hs] at hu hl
          rw [hu] at hl
          cases hl
        · simp [Array.getElem?_eq_none hs] at hl
      have hap := hC j oj hoj hne hun hno
      obtain ⟨p1, p2, p3⟩ := Oper.apart_spec hap
      cases n with
      | zero =>
        have h0 := (H w (hr w) hTw).1
        have hjr := ready_mono hj hne
        rw [h0] at hjr
        cases hjr
      | succ n =>
        have h1 := (H w (hr w) hTw).2 j (ready_mono hj hne)
        have hyF : YieldsIf P ops (fun _ => False) oi v a := hy.imp (fun h => ⟨h.1, fun _ hf => hf.elim⟩) id
        have h2 := wpOp_putIf hoj hap (fun cs b => hi.sel i oi cs b hi.at_) (fun cs b => hi.sel j oj cs b hoj) hi.out hyF (step_only hoj h1)
        refine wpOp_mono (fun a' w' hk => ?_) h2
        obtain ⟨_, ⟨hT', hgo⟩, u, ds, hon⟩ := hk
        rw [Array.setIfInBounds_comm _ _ (Ne.symm hne)] at hT' hgo
        have hF' := hF L j oj hFL hoj hno
        have hT2 := (hT _ a' w' hF').2 hT'
        -- i reads at a' what it read at a
        have eval_ : execOp a'.eval oi = execOp a.eval oi := by
          rw [← execOp_put oi (fun cs b => hi.sel i oi cs b hi.at_) a' oi.dst v hi.self, hon, execOp_put oi (fun cs b => hi.sel i oi cs b hi.at_) _ oj.dst u p3]
          exact execOp_put oi (fun cs b => hi.sel i oi cs b hi.at_) a oi.dst v hi.self
        have want_ : Region.wanted oi (yielded ops a'.tmps) = Region.wanted oi (yielded ops a.tmps) := by
          rw [← wanted_put oi a' oi.dst v hi.self, hon, wanted_put oi _ oj.dst u p3]
          exact wanted_put oi a oi.dst v hi.self
        have hy' : Gives P ops R D oi v a' := by
          unfold Gives at hy ⊢
          rw [eval_, want_]
          exact hy
        refine ⟨hT2, fun w'' hw hTw'' => goes_first hi hr ht F hF hD hG hT n _ a' w'' hF' (hC.on j) (ready_mono hir (Ne.symm hne)) hy' hTw'' fun w3 hw3 hT3 => ?_⟩
        exact hgo w3 (ht hw hw3) ((hT _ a' w3 hF').1 hT3)
    · subst heq
      refine hy.step hi.at_ (hD L a w hFL hTw) (hr w) fun w' hw => ?_
      have h1 := hG L a w w' hFL hTw hw
      exact ⟨(hT L a w' hFL).1 h1, fun w'' hw2 hT2 => H w'' (ht hw hw2) ((hT L a w'' hFL).2 hT2)⟩

/-! A region whose last operation, z, writes what others read: S is known till z comes up; each world is the one at hand. -/
variable {S : World → Prop} {z : Nat}
def knownZ (S : World → Prop) (z : Nat) : Array Bool → Act → World → Prop := fun L _ w => L.getD z true = false → S w
def wpAnyZ (P : Program) (md : Region.Mode) (ops : Array Oper) (Q : Exit → Act → World → Prop) (S : World → Prop) (z : Nat) : Nat → Array Bool → Act → World → Prop := Goes P md ops Q (knownZ S z) Eq
/-- Does operation z wait for i? Does i leave alone what it reads? -/
def waitsB (md : Region.Mode) (ops : Array Oper) (z i : Nat) : Bool := match ops[z]?, ops[i]? with
  | some o, some oi => o.after.any (fun e => Region.binds md e && e.on == i) && (match oi.dst with | some d => !(oi.looksAt ops).contains d | none => true)
  | _, _ => false
theorem wpAnyZ_take {i : Nat} {oi : Oper} {v : Value} {fuel : Nat} {listed : Array Bool} {a : Act} {w : World} (hi : ops[i]? = some oi)
    (hs : Region.noSelect ops = true) (hf : Region.free md ops listed i = true) (hr : (Region.ready md ops listed).contains i = true) (hz : (waitsB md ops z i && !listed.getD z true) = true)
    (hQ : ∀ c a w, Q (.panic c) (a.put oi.dst v) w → Q (.panic c) a w) (hy : YieldsIf P ops S oi v a) (hS : S w)
    (h : wpAnyZ P md ops Q S z fuel (listed.setIfInBounds i true) (a.put oi.dst v) w) : wpAnyZ P md ops Q S z (fuel + 1) listed a w := by
  rw [Bool.and_eq_true, Bool.not_eq_true'] at hz
  obtain ⟨hz1, hz2⟩ := hz
  unfold waitsB at hz1
  cases ho : ops[z]? with
  | none => rw [ho] at hz1; cases hz1
  | some oz =>
    rw [ho, hi] at hz1
    simp only [Bool.and_eq_true] at hz1
    obtain ⟨hw1, hw2⟩ := hz1
    obtain ⟨k, hk, he⟩ := Array.any_eq_true.1 hw1
    rw [Bool.and_eq_true, beq_iff_eq] at he
    have zi : z ≠ i ∨ True := Or.inr trivial
    have hself : ∀ d, oi.dst = some d → d ∉ oi.looksAt ops := fun d hd => by
      rw [hd] at hw2
      simpa using hw2
    have hready : i ∈ Region.ready md ops listed := by simpa using hr
    -- a list that i may be added to or not: z is none of it
    have hset : ∀ (L : Array Bool) (j : Nat), j ≠ z → (L.setIfInBounds j true).getD z true = L.getD z true := fun L j hj => getD_set_ne true hj
    have hiz : i ≠ z := fun e => by
      subst e
      have := mem_ready.1 hready
      obtain ⟨hl0, o, ho', hd⟩ := this
      rw [ho] at ho'
      injection ho' with ho'
      subst ho'
      have h1 := hd _ (Array.getElem_mem hk) he.1
      rw [he.2] at h1
      rcases Nat.lt_or_ge i listed.size with hs2 | hs2
      · simp [hs2] at h1 hz2
        rw [h1] at hz2
        cases hz2
      · simp [Array.getElem?_eq_none hs2] at h1
    exact goes_first (D := S) (R := Eq) (T := knownZ S z) ⟨hi, Region.noSelect_spec hs, hself, hQ⟩ (fun _ => rfl) (fun h h' => h.trans h') (fun L => L.getD z true = false)
      (fun L j oj hL hj hno => by
        refine (hset L j fun e => ?_).trans hL
        subst e
        rw [ho] at hj
        injection hj with hj
        subst hj
        exact hno _ (Array.getElem_mem hk) he.1 he.2)
      (fun L a w hL hT => hT hL) (fun L a w w' hL hT e => e ▸ hT) (fun L a w hL => by unfold knownZ; rw [hset L i hiz])
      fuel listed a w hz2 (Region.free_spec hi hf) hready (hy.imp (fun h => ⟨h.1, fun w hw => Or.inl (h.2 w hw)⟩) id) (fun _ => hS) (fun w' e _ => by subst e; exact h)
/-- 'is' are to be taken first (as takesH, XTkl). -/
structure TakeZ (P : Program) (md : Region.Mode) (ops : Array Oper) (Q : Exit → Act → World → Prop) (S : World → Prop) (z : Nat) (is : List Nat) (fuel : Nat) (listed : Array Bool) (a : Act) (w : World) : Prop where
  run : wpAnyZ P md ops Q S z fuel listed a w
theorem takesZ {z : Nat} (is : List Nat) {fuel : Nat} {listed : Array Bool} {a : Act} {w : World} (h : TakeZ P md ops Q S z is fuel listed a w) : wpAnyZ P md ops Q S z fuel listed a w := h.run
theorem takesZ_nil {z : Nat} {fuel : Nat} {listed : Array Bool} {a : Act} {w : World} (h : wpAnyZ P md ops Q S z fuel listed a w) : TakeZ P md ops Q S z [] fuel listed a w := ⟨h⟩
theorem takesZ_one {z i : Nat} {is : List Nat} {oi : Oper} {v : Value} {fuel : Nat} {listed : Array Bool} {a : Act} {w : World} (hy : YieldsIf P ops S oi v a)
    (h : TakeZ P md ops Q S z is fuel (listed.setIfInBounds i true) (a.put oi.dst v) w) (hi : ops[i]? = some oi := by rfl)
    (hs : Region.noSelect ops = true := by kernel_rfl) (hf : Region.free md ops listed i = true := by kernel_rfl) (hr : (Region.ready md ops listed).contains i = true := by kernel_rfl) (hz : (waitsB md ops z i && !listed.getD z true) = true := by kernel_rfl)
    (hQ : ∀ c a w, Q (.panic c) (a.put oi.dst v) w → Q (.panic c) a w := by exact fun _ _ _ h => h) (hS : S w := by assumption) : TakeZ P md ops Q S z (i :: is) (fuel + 1) listed a w :=
  ⟨wpAnyZ_take hi hs hf hr hz hQ hy hS h.run⟩
theorem wpAnyZ_done {listed : Array Bool} {a : Act} {w : World} (hr : Region.ready md ops listed = []) (h : Q .normal a w) : ∀ fuel, wpAnyZ P md ops Q S z fuel listed a w
  | 0 => ⟨hr, h⟩
  | _ + 1 => ⟨fun _ => h, fun i hi => by rw [hr] at hi; cases hi⟩
/-- One alone may come up. -/
theorem wpAnyZ_one {fuel : Nat} {listed : Array Bool} {a : Act} {w : World} {i : Nat} {o : Oper} (hr : Region.ready md ops listed = [i]) (ho : ops[i]? = some o)
    (h : ∀ K' : Act → World → Prop, Shut (∀ a w, S w → (S w → wpAnyZ P md ops Q S z fuel (listed.setIfInBounds i true) a w) → K' a w) → if Region.wanted o (yielded ops a.tmps) = true then Oper.wp P o a w K' Q else K' (a.put o.dst undef) w) :
    wpAnyZ P md ops Q S z (fuel + 1) listed a w := by
  refine ⟨fun e => (by rw [hr] at e; cases e), fun j hj => ?_⟩
  rw [hr] at hj
  rw [List.mem_singleton.1 hj]
  exact wpOp_step ho fun K' hK => h K' fun a' w' hS hgo => hK a' w' ⟨fun _ => hS, fun w'' e _ => by subst e; exact hgo hS⟩
/-- .. and it is z. -/
theorem wpAnyZ_last {fuel : Nat} {listed : Array Bool} {a : Act} {w : World} {o : Oper} (hr : Region.ready md ops listed = [z]) (ho : ops[z]? = some o)
    (h : ∀ K' : Act → World → Prop, Shut (∀ a w, wpAnyZ P md ops Q S z fuel (listed.setIfInBounds z true) a w → K' a w) → if Region.wanted o (yielded ops a.tmps) = true then Oper.wp P o a w K' Q else K' (a.put o.dst undef) w) :
    wpAnyZ P md ops Q S z (fuel + 1) listed a w := by
  refine ⟨fun e => (by rw [hr] at e; cases e), fun j hj => ?_⟩
  rw [hr] at hj
  rw [List.mem_singleton.1 hj]
  refine wpOp_step ho fun K' hK => h K' fun a' w' hgo => hK a' w' ⟨fun e => ?_, fun w'' e _ => by subst e; exact hgo⟩
  rcases Nat.lt_or_ge z listed.size with hs | hs
  · simp [hs] at e
  · simp [Array.getElem?_eq_none hs] at e
theorem wp_region_z {id : Nat} {a : Act} {w : World} (z : Nat) (hm : P.follows .mixedOrders = true) (hS : S w.drew)
    (h : S w.drew → wpAnyZ P .any ops Q S z ops.size (Array.replicate ops.size false) a w.drew) : (Code.region id ops true).wp P Q a w :=
  wp_region_any hm (goes_any (fun _ => rfl) _ _ _ _ (h hS))
/-- More may be held from here on. -/
theorem held_upz {S' : World → Prop} (hSS : ∀ w, S' w → S w) : ∀ (fuel : Nat) (listed : Array Bool) (a : Act) (w : World), wpAnyZ P md ops Q S' z fuel listed a w → wpAnyZ P md ops Q S z fuel listed a w
  | 0, _, _, _, h => h
  | fuel + 1, _, _, _, h => ⟨h.1, fun i hi => wpOp_mono (fun a' w' hk => ⟨fun hz => hSS _ (hk.1 hz), fun w'' e _ => by subst e; exact held_upz hSS fuel _ a' w' (hk.2 w' rfl hk.1)⟩) (h.2 i hi)⟩
end
end Go.Proofs.Ytafbbojfifcncaa
set_option linter.unusedVariables false
set_option linter.unusedSimpArgs false
namespace Go.Proofs.Ytafbbojfifcncaa
open Go Go.RowKit Go.Joins

theorem mrg_snoc (l k : Cols) (x : ByteArray × Ce) : mrg l (k ++ [x]) = putC (mrg l k) x.1 x.2 := by
  unfold mrg
  rw [List.foldl_append]
  rfl
set_option maxRecDepth 8000 in
set_option maxHeartbeats 4000000 in
theorem rjoinrow_any (k s k' s' : ByteArray) (d d' : Bool) (a e g h a' e' g' h' : Int) (A A' : Option Addr) (n c n' c' B B' : Nat) (l l' : Cols) (w : World) (hr : RdK w B A n l) (hr' : RdK w B' A' n' l') (hB : B ≤ w.heap.size) (hB' : B' ≤ w.heap.size) (hnc : n ≤ c) (hnc' : n' ≤ c') (hn : n + n' ≤ 1000) :
    Calls Try.prog 60 #[.agg #[.string k, .string s, .bool d, .int .i64 a, .int .i64 e, .int .i64 g, .int .i64 h, .slice A n c], .agg #[.string k', .string s', .bool d', .int .i64 a', .int .i64 e', .int .i64 g', .int .i64 h', .slice A' n' c']] w fun x w' => ∃ js jd ja je Aj cj, Ce.join ⟨s, d, a, e⟩ ⟨s', d', a', e'⟩ = ⟨js, jd, ja, je⟩ ∧ x = .returned (.agg #[.string k, .string js, .bool jd, .int .i64 ja, .int .i64 je, .int .i64 (max g g'), .int .i64 (max h h'), .slice Aj (mrg l l').length cj]) ∧ Cur w w' (.slice Aj (mrg l l').length cj) (mrg l l') := by
  obtain ⟨⟨js, jd, ja, je⟩, hj⟩ : ∃ c, Ce.join ⟨s, d, a, e⟩ ⟨s', d', a', e'⟩ = c := ⟨_, rfl⟩
  have J1 := Lib.hid (congrArg Ce.v hj)
  unfold Ce.v at J1
  have HJ := Lib.hid hj
  obtain ⟨mg, hmg⟩ : ∃ m, max g g' = m := ⟨_, rfl⟩
  obtain ⟨mh, hmh⟩ : ∃ m, max h h' = m := ⟨_, rfl⟩
  rw [hmg, hmh]
  obtain ⟨M, hM⟩ : ∃ M, mrg l l' = M := ⟨_, rfl⟩
  rw [hM]
  have HMM := Lib.hid hM
  clear hM
  have hl := hr.1
  have hl' := hr'.1
  have bz := (((Below.refl w.heap.size w).alloc (Nat.le_refl _) (.cells #[.string k, .string s, .bool d, .int .i64 a, .int .i64 e, .int .i64 g, .int .i64 h, .slice A n c] 36)).alloc (by simp) (.cells #[.string k', .string s', .bool d', .int .i64 a', .int .i64 e', .int .i64 g', .int .i64 h', .slice A' n' c'] 36)).alloc (by (simp <;> omega)) (.cells #[.string ⟨#[]⟩, .string ⟨#[]⟩, .bool false, .int .i64 0, .int .i64 0, .int .i64 0, .int .i64 0, .slice none 0 0] 36)
  have ro := (RoAt.new w k s d a e g h A n c).below (((Below.refl (w.heap.size + 1) _).alloc (by simp) (.cells #[.string k', .string s', .bool d', .int .i64 a', .int .i64 e', .int .i64 g', .int .i64 h', .slice A' n' c'] 36)).alloc (by (simp <;> omega)) (.cells #[.string ⟨#[]⟩, .string ⟨#[]⟩, .bool false, .int .i64 0, .int .i64 0, .int .i64 0, .int .i64 0, .slice none 0 0] 36)) (by omega)
  have ro' := (RoAt.new (w.alloc (.cells #[.string k, .string s, .bool d, .int .i64 a, .int .i64 e, .int .i64 g, .int .i64 h, .slice A n c] 36)) k' s' d' a' e' g' h' A' n' c').below ((Below.refl (w.heap.size + 2) _).alloc (by simp) (.cells #[.string ⟨#[]⟩, .string ⟨#[]⟩, .bool false, .int .i64 0, .int .i64 0, .int .i64 0, .int .i64 0, .slice none 0 0] 36)) (by simp)
  simp only [World.size_alloc] at ro'
  have hz := heap_alloc_new ((w.alloc (.cells #[.string k, .string s, .bool d, .int .i64 a, .int .i64 e, .int .i64 g, .int .i64 h, .slice A n c] 36)).alloc (.cells #[.string k', .string s', .bool d', .int .i64 a', .int .i64 e', .int .i64 g', .int .i64 h', .slice A' n' c'] 36)) (.cells #[.string ⟨#[]⟩, .string ⟨#[]⟩, .bool false, .int .i64 0, .int .i64 0, .int .i64 0, .int .i64 0, .slice none 0 0] 36)
  simp only [World.size_alloc] at hz
  obtain ⟨U, hU⟩ : ∃ U, U = ((w.alloc (.cells #[.string k, .string s, .bool d, .int .i64 a, .int .i64 e, .int .i64 g, .int .i64 h, .slice A n c] 36)).alloc (.cells #[.string k', .string s', .bool d', .int .i64 a', .int .i64 e', .int .i64 g', .int .i64 h', .slice A' n' c'] 36)).alloc (.cells #[.string ⟨#[]⟩, .string ⟨#[]⟩, .bool false, .int .i64 0, .int .i64 0, .int .i64 0, .int .i64 0, .slice none 0 0] 36) := ⟨_, rfl⟩
  have hUs : U.heap.size = w.heap.size + 3 := by rw [hU]; simp
  rw [← hU] at bz ro ro' hz
  have hall : ∀ w', Below U.heap.size U w' → (w'.cell? ⟨w.heap.size, 0, none⟩ = some (.string k) ∧ w'.cell? ⟨w.heap.size, 1, none⟩ = some (.string s) ∧ w'.cell? ⟨w.heap.size, 2, none⟩ = some (.bool d) ∧ w'.cell? ⟨w.heap.size, 3, none⟩ = some (.int .i64 a) ∧ w'.cell? ⟨w.heap.size, 4, none⟩ = some (.int .i64 e) ∧ w'.cell? ⟨w.heap.size, 5, none⟩ = some (.int .i64 g) ∧ w'.cell? ⟨w.heap.size, 6, none⟩ = some (.int .i64 h) ∧ w'.cell? ⟨w.heap.size, 7, none⟩ = some (.slice A n c)) ∧ (w'.cell? ⟨w.heap.size + 1, 0, none⟩ = some (.string k') ∧ w'.cell? ⟨w.heap.size + 1, 1, none⟩ = some (.string s') ∧ w'.cell? ⟨w.heap.size + 1, 2, none⟩ = some (.bool d') ∧ w'.cell? ⟨w.heap.size + 1, 3, none⟩ = some (.int .i64 a') ∧ w'.cell? ⟨w.heap.size + 1, 4, none⟩ = some (.int .i64 e') ∧ w'.cell? ⟨w.heap.size + 1, 5, none⟩ = some (.int .i64 g') ∧ w'.cell? ⟨w.heap.size + 1, 6, none⟩ = some (.int .i64 h') ∧ w'.cell? ⟨w.heap.size + 1, 7, none⟩ = some (.slice A' n' c')) ∧ RdK w' B A n l ∧ RdK w' B' A' n' l' := fun w' hb =>
    ⟨ro.below hb (by omega), ro'.below hb (by omega), (hr.below (bz.mono hB)).below (hb.mono (by omega)), (hr'.below (bz.mono hB')).below (hb.mono (by omega))⟩
  have HALL := Lib.hid hall; have BZ := Lib.hid bz; have HUS := Lib.hid hUs; have HZ := Lib.hid hz; have HB := Lib.hid hB; have HB' := Lib.hid hB'; have MG := Lib.hid hmg; have MH := Lib.hid hmh; have HL := Lib.hid hl; have HL' := Lib.hid hl'
  clear hj hmg hmh bz ro ro' hz hUs hall hr hr' hB hB' hl hl'
  have mg1 := MG.out
  have mh1 := MH.out
  go_enter Try.func60, Try.ntmps60
  go_upto_region 1 with fail
  rw [← hU]
  clear hU
  go_cut [5] from 7 to 27 (fun s5 wx => ∃ r A1 m1 c1, s5 = .pointer (some ⟨r, 0, none⟩) ∧ U.heap.size ≤ r ∧ RJ wx r k js jd ja je mg mh A1 m1 c1 ∧ Cur U wx (.slice A1 m1 c1) l)
  case first =>
    refine wp_region_held_drew (S := fun w' => Below U.heap.size U w') (by kernel_rfl) ?_ (fun hHeld => ?_)
    · exact (Below.refl _ _).drew
    refine takesH [0, 1, 2, 3, 4, 5, 7, 8, 9, 10, 11, 12, 13, 14, 15, 16, 17, 18] ?_
    repeat
      refine takesH_one (v := ?_) ?_ ?_
      rotate_left
      · first | (refine Or.inr ⟨by rfl, ?_⟩; with_reducible rfl) | (refine Or.inl ⟨by rfl, ?_⟩; intro wx hSw; (try dsimp only at hSw); first | (go_simp; first | done | with_reducible rfl) | (obtain ⟨⟨_, _, _, _, _, _, _, _⟩, ⟨_, _, _, _, _, _, _, _⟩, _⟩ := HALL.out _ hSw; go_simp; first | done | with_reducible rfl))
      try simp only [Act.put, List.getElem_toArray, List.getElem_cons_succ, List.getElem_cons_zero, List.setIfInBounds_toArray, List.set_cons_zero, List.set_cons_succ]
    refine takesH_nil ?_
    refine wpAnyH_ready (rs := [6, 21]) (by kernel_rfl) (by simp) (AllReadyH.cons rfl (fun K hK => ?_) (AllReadyH.cons rfl (fun K hK => ?_) AllReadyH.nil))
    · go_simp
      refine (rjoin_any _ _ _ _ _ _ _ _ _).mono ?_
      rintro x v1 ⟨rfl, b1⟩
      unfold Ce.v
      rw [J1.out]
      have CB1 := Lib.hid (hHeld.trans (b1.mono hHeld.size))
      clear b1
      try go_wp2_with fail
      refine hK.out _ _ ?_ (fun hHeld => ?_)
      · exact CB1.out
      clear hK K
      try simp only [Act.put, List.getElem_toArray, List.getElem_cons_succ, List.getElem_cons_zero, List.setIfInBounds_toArray, List.set_cons_zero, List.set_cons_succ]
      refine wpAnyH_ready (rs := [19, 21]) (by kernel_rfl) (by simp) (AllReadyH.cons rfl (fun K hK => ?_) (AllReadyH.cons rfl (fun K hK => ?_) AllReadyH.nil))
      · refine step_ex rfl (.const (.slice none 0 0)) (.tmp 25) _ _ rfl (.slice none 0 0) (.slice A n c) (by simp [Act.eval]) (by simp [Act.eval]) (run_appK U.heap.size (own_nilK _ _) (HALL.out _ hHeld).2.2.1 ?s3 ?s4) ?_
        case s3 => omega
        case s4 => exact hHeld.size
        intro v3 w3 ho3 hg3
        obtain ⟨hg3, _⟩ := hg3
        obtain ⟨A3, m3, c3, rfl, hc3⟩ := (⟨own_nilK _ _, hHeld⟩ : Cur U _ (.slice none 0 0) []).appN ho3 hg3
        rw [List.nil_append] at hc3
        have C3 := Lib.hid hc3
        clear ho3 hg3 hc3
        refine hK.out _ _ ?_ (fun hHeld => ?_)
        · exact C3.out.below
        clear hK K
        try simp only [Act.put, List.getElem_toArray, List.getElem_cons_succ, List.getElem_cons_zero, List.setIfInBounds_toArray, List.set_cons_zero, List.set_cons_succ]
        refine takesH [20] ?_
        repeat
          refine takesH_one (v := ?_) ?_ ?_
          rotate_left
          · first | (refine Or.inr ⟨by rfl, ?_⟩; with_reducible rfl) | (refine Or.inl ⟨by rfl, ?_⟩; intro wx hSw; (try dsimp only at hSw); first | (go_simp; first | done | with_reducible rfl))
          try simp only [Act.put, List.getElem_toArray, List.getElem_cons_succ, List.getElem_cons_zero, List.setIfInBounds_toArray, List.set_cons_zero, List.set_cons_succ]
        refine takesH_nil ?_
        refine wpAnyH_ready (rs := [21]) (by kernel_rfl) (by simp) (AllReadyH.cons rfl (fun K hK => ?_) AllReadyH.nil)
        go_simp
        have RZ := Lib.hid (heap_alloc_new (w3) (.cells #[.string ⟨#[]⟩, .string ⟨#[]⟩, .bool false, .int .i64 0, .int .i64 0, .int .i64 0, .int .i64 0, .slice none 0 0] 36))
        have CBa : Below U.heap.size U ((w3).alloc (.cells #[.string ⟨#[]⟩, .string ⟨#[]⟩, .bool false, .int .i64 0, .int .i64 0, .int .i64 0, .int .i64 0, .slice none 0 0] 36)) := hHeld.alloc hHeld.size _
        have C3 := Lib.hid (C3.out.on ((Below.refl w3.heap.size w3).alloc (Nat.le_refl _) (.cells #[.string ⟨#[]⟩, .string ⟨#[]⟩, .bool false, .int .i64 0, .int .i64 0, .int .i64 0, .int .i64 0, .slice none 0 0] 36)))
        have HRR := Lib.hid (show U.heap.size ≤ (w3).heap.size from hHeld.size)
        generalize (w3).alloc (.cells #[.string ⟨#[]⟩, .string ⟨#[]⟩, .bool false, .int .i64 0, .int .i64 0, .int .i64 0, .int .i64 0, .slice none 0 0] 36) = wa at *
        refine hK.out _ _ ?_ (fun hHeld => ?_)
        · exact CBa
        clear hK K
        try simp only [Act.put, List.getElem_toArray, List.getElem_cons_succ, List.getElem_cons_zero, List.setIfInBounds_toArray, List.set_cons_zero, List.set_cons_succ]
        refine wpAnyH_ready (rs := [22]) (by kernel_rfl) (by simp) (AllReadyH.cons rfl (fun K hK => ?_) AllReadyH.nil)
        obtain ⟨k0, k1, k2, k3, k4, k5, k6, k7⟩ := RJ.cells RZ.out
        have f0 := RJ.thawed RZ.out 0
        have f1 := RJ.thawed RZ.out 1
        have f2 := RJ.thawed RZ.out 2
        have f3 := RJ.thawed RZ.out 3
        have f4 := RJ.thawed RZ.out 4
        have f5 := RJ.thawed RZ.out 5
        have f6 := RJ.thawed RZ.out 6
        have f7 := RJ.thawed RZ.out 7
        go_simp
        refine hK.out _ _ ?_ (fun hHeld => ?_)
        · exact eight_below hHeld _ HRR.out _ _ _ _ _ _ _ _
        clear hK K
        try simp only [Act.put, List.getElem_toArray, List.getElem_cons_succ, List.getElem_cons_zero, List.setIfInBounds_toArray, List.set_cons_zero, List.set_cons_succ]
        refine wpAnyH_done (by kernel_rfl) ?_ _
        go_wp2_with fail
        go_meet
        exact ⟨_, A3, m3, c3, rfl, HRR.out, RJ.set RZ.out _ _ _ _ _ _ _ _ _ _, C3.out.eight RZ.out HRR.out _ _ _ _ _ _ _ _⟩
      · go_simp
        have RZ := Lib.hid (heap_alloc_new (v1) (.cells #[.string ⟨#[]⟩, .string ⟨#[]⟩, .bool false, .int .i64 0, .int .i64 0, .int .i64 0, .int .i64 0, .slice none 0 0] 36))
        have CBa : Below U.heap.size U ((v1).alloc (.cells #[.string ⟨#[]⟩, .string ⟨#[]⟩, .bool false, .int .i64 0, .int .i64 0, .int .i64 0, .int .i64 0, .slice none 0 0] 36)) := hHeld.alloc hHeld.size _
        have HRR := Lib.hid (show U.heap.size ≤ (v1).heap.size from hHeld.size)
        generalize (v1).alloc (.cells #[.string ⟨#[]⟩, .string ⟨#[]⟩, .bool false, .int .i64 0, .int .i64 0, .int .i64 0, .int .i64 0, .slice none 0 0] 36) = wa at *
        refine hK.out _ _ ?_ (fun hHeld => ?_)
        · exact CBa
        clear hK K
        try simp only [Act.put, List.getElem_toArray, List.getElem_cons_succ, List.getElem_cons_zero, List.setIfInBounds_toArray, List.set_cons_zero, List.set_cons_succ]
        refine wpAnyH_ready (rs := [19]) (by kernel_rfl) (by simp) (AllReadyH.cons rfl (fun K hK => ?_) AllReadyH.nil)
        refine step_ex rfl (.const (.slice none 0 0)) (.tmp 25) _ _ rfl (.slice none 0 0) (.slice A n c) (by simp [Act.eval]) (by simp [Act.eval]) (run_appK U.heap.size (own_nilK _ _) (HALL.out _ hHeld).2.2.1 ?s3 ?s4) ?_
        case s3 => omega
        case s4 => exact hHeld.size
        intro v3 w3 ho3 hg3
        obtain ⟨hg3, _⟩ := hg3
        obtain ⟨A3, m3, c3, rfl, hc3⟩ := (⟨own_nilK _ _, hHeld⟩ : Cur U _ (.slice none 0 0) []).appN ho3 hg3
        rw [List.nil_append] at hc3
        have C3 := Lib.hid hc3
        have RZ := Lib.hid ((hg3.block _ (Array.getElem?_eq_some_iff.1 RZ.out).1 (fun e => by cases e)).trans RZ.out)
        clear ho3 hg3 hc3
        refine hK.out _ _ ?_ (fun hHeld => ?_)
        · exact C3.out.below
        clear hK K
        try simp only [Act.put, List.getElem_toArray, List.getElem_cons_succ, List.getElem_cons_zero, List.setIfInBounds_toArray, List.set_cons_zero, List.set_cons_succ]
        refine takesH [20] ?_
        repeat
          refine takesH_one (v := ?_) ?_ ?_
          rotate_left
          · first | (refine Or.inr ⟨by rfl, ?_⟩; with_reducible rfl) | (refine Or.inl ⟨by rfl, ?_⟩; intro wx hSw; (try dsimp only at hSw); first | (go_simp; first | done | with_reducible rfl))
          try simp only [Act.put, List.getElem_toArray, List.getElem_cons_succ, List.getElem_cons_zero, List.setIfInBounds_toArray, List.set_cons_zero, List.set_cons_succ]
        refine takesH_nil ?_
        refine wpAnyH_ready (rs := [22]) (by kernel_rfl) (by simp) (AllReadyH.cons rfl (fun K hK => ?_) AllReadyH.nil)
        obtain ⟨k0, k1, k2, k3, k4, k5, k6, k7⟩ := RJ.cells RZ.out
        have f0 := RJ.thawed RZ.out 0
        have f1 := RJ.thawed RZ.out 1
        have f2 := RJ.thawed RZ.out 2
        have f3 := RJ.thawed RZ.out 3
        have f4 := RJ.thawed RZ.out 4
        have f5 := RJ.thawed RZ.out 5
        have f6 := RJ.thawed RZ.out 6
        have f7 := RJ.thawed RZ.out 7
        go_simp
        refine hK.out _ _ ?_ (fun hHeld => ?_)
        · exact eight_below hHeld _ HRR.out _ _ _ _ _ _ _ _
        clear hK K
        try simp only [Act.put, List.getElem_toArray, List.getElem_cons_succ, List.getElem_cons_zero, List.setIfInBounds_toArray, List.set_cons_zero, List.set_cons_succ]
        refine wpAnyH_done (by kernel_rfl) ?_ _
        go_wp2_with fail
        go_meet
        exact ⟨_, A3, m3, c3, rfl, HRR.out, RJ.set RZ.out _ _ _ _ _ _ _ _ _ _, C3.out.eight RZ.out HRR.out _ _ _ _ _ _ _ _⟩
    · go_simp
      have HRR := Lib.hid (show U.heap.size ≤ (U.drew).heap.size from hHeld.size)
      have RZ : Hid (((U.alloc (.cells #[.string ⟨#[]⟩, .string ⟨#[]⟩, .bool false, .int .i64 0, .int .i64 0, .int .i64 0, .int .i64 0, .slice none 0 0] 36)).drew).heap[U.heap.size]? = some ((.cells #[.string ⟨#[]⟩, .string ⟨#[]⟩, .bool false, .int .i64 0, .int .i64 0, .int .i64 0, .int .i64 0, .slice none 0 0] 36))) := Lib.hid (heap_alloc_new U _)
      have CBa : Below U.heap.size U ((U.alloc (.cells #[.string ⟨#[]⟩, .string ⟨#[]⟩, .bool false, .int .i64 0, .int .i64 0, .int .i64 0, .int .i64 0, .slice none 0 0] 36)).drew) := ((Below.refl U.heap.size U).alloc (Nat.le_refl _) _).drew
      generalize (U.alloc (.cells #[.string ⟨#[]⟩, .string ⟨#[]⟩, .bool false, .int .i64 0, .int .i64 0, .int .i64 0, .int .i64 0, .slice none 0 0] 36)).drew = wa at *
      refine hK.out _ _ ?_ (fun hHeld => ?_)
      · exact CBa
      clear hK K
      try simp only [Act.put, List.getElem_toArray, List.getElem_cons_succ, List.getElem_cons_zero, List.setIfInBounds_toArray, List.set_cons_zero, List.set_cons_succ]
      refine wpAnyH_ready (rs := [6]) (by kernel_rfl) (by simp) (AllReadyH.cons rfl (fun K hK => ?_) AllReadyH.nil)
      go_simp
      refine (rjoin_any _ _ _ _ _ _ _ _ _).mono ?_
      rintro x v1 ⟨rfl, b1⟩
      unfold Ce.v
      rw [J1.out]
      have CB1 := Lib.hid (hHeld.trans (b1.mono hHeld.size))
      have RZ := Lib.hid ((b1.block _ (Array.getElem?_eq_some_iff.1 RZ.out).1).trans RZ.out)
      clear b1
      try go_wp2_with fail
      refine hK.out _ _ ?_ (fun hHeld => ?_)
      · exact CB1.out
      clear hK K
      try simp only [Act.put, List.getElem_toArray, List.getElem_cons_succ, List.getElem_cons_zero, List.setIfInBounds_toArray, List.set_cons_zero, List.set_cons_succ]
      refine wpAnyH_ready (rs := [19]) (by kernel_rfl) (by simp) (AllReadyH.cons rfl (fun K hK => ?_) AllReadyH.nil)
      refine step_ex rfl (.const (.slice none 0 0)) (.tmp 25) _ _ rfl (.slice none 0 0) (.slice A n c) (by simp [Act.eval]) (by simp [Act.eval]) (run_appK U.heap.size (own_nilK _ _) (HALL.out _ hHeld).2.2.1 ?s3 ?s4) ?_
      case s3 => omega
      case s4 => exact hHeld.size
      intro v3 w3 ho3 hg3
      obtain ⟨hg3, _⟩ := hg3
      obtain ⟨A3, m3, c3, rfl, hc3⟩ := (⟨own_nilK _ _, hHeld⟩ : Cur U _ (.slice none 0 0) []).appN ho3 hg3
      rw [List.nil_append] at hc3
      have C3 := Lib.hid hc3
      have RZ := Lib.hid ((hg3.block _ (Array.getElem?_eq_some_iff.1 RZ.out).1 (fun e => by cases e)).trans RZ.out)
      clear ho3 hg3 hc3
      refine hK.out _ _ ?_ (fun hHeld => ?_)
      · exact C3.out.below
      clear hK K
      try simp only [Act.put, List.getElem_toArray, List.getElem_cons_succ, List.getElem_cons_zero, List.setIfInBounds_toArray, List.set_cons_zero, List.set_cons_succ]
      refine takesH [20] ?_
      repeat
        refine takesH_one (v := ?_) ?_ ?_
        rotate_left
        · first | (refine Or.inr ⟨by rfl, ?_⟩; with_reducible rfl) | (refine Or.inl ⟨by rfl, ?_⟩; intro wx hSw; (try dsimp only at hSw); first | (go_simp; first | done | with_reducible rfl))
        try simp only [Act.put, List.getElem_toArray, List.getElem_cons_succ, List.getElem_cons_zero, List.setIfInBounds_toArray, List.set_cons_zero, List.set_cons_succ]
      refine takesH_nil ?_
      refine wpAnyH_ready (rs := [22]) (by kernel_rfl) (by simp) (AllReadyH.cons rfl (fun K hK => ?_) AllReadyH.nil)
      obtain ⟨k0, k1, k2, k3, k4, k5, k6, k7⟩ := RJ.cells RZ.out
      have f0 := RJ.thawed RZ.out 0
      have f1 := RJ.thawed RZ.out 1
      have f2 := RJ.thawed RZ.out 2
      have f3 := RJ.thawed RZ.out 3
      have f4 := RJ.thawed RZ.out 4
      have f5 := RJ.thawed RZ.out 5
      have f6 := RJ.thawed RZ.out 6
      have f7 := RJ.thawed RZ.out 7
      go_simp
      refine hK.out _ _ ?_ (fun hHeld => ?_)
      · exact eight_below hHeld _ HRR.out _ _ _ _ _ _ _ _
      clear hK K
      try simp only [Act.put, List.getElem_toArray, List.getElem_cons_succ, List.getElem_cons_zero, List.setIfInBounds_toArray, List.set_cons_zero, List.set_cons_succ]
      refine wpAnyH_done (by kernel_rfl) ?_ _
      go_wp2_with fail
      go_meet
      exact ⟨_, A3, m3, c3, rfl, HRR.out, RJ.set RZ.out _ _ _ _ _ _ _ _ _ _, C3.out.eight RZ.out HRR.out _ _ _ _ _ _ _ _⟩
  case rest =>
    obtain ⟨r, A1, m1, c1, rfl, hrr, hrj, hc1⟩ := hcut
    obtain ⟨A1', c1', e1, _⟩ := hc1.slice
    injection e1 with e1 e2 e3
    subst e1; subst e2; subst e3
    have RJ1 := Lib.hid hrj; have C1 := Lib.hid hc1
    have HRR := Lib.hid hrr
    clear hrj hc1 J1
    go_wp2_with fail
    go_loopw [6] (fun i wr => ∃ (t : Nat) (A2 : Option Addr) (c2 : Nat) (C : Cols), t ≤ n' ∧ i = .int .i64 t ∧ mrg l (l'.take t) = C ∧ RJ wr r k js jd ja je mg mh A2 C.length c2 ∧ Cur U wr (.slice A2 C.length c2) C) (fun i _ => n' - (intOf i).toNat)
    case atStart => exact ⟨0, A1, c1, l, Nat.zero_le _, rfl, rfl, RJ1.out, C1.out⟩
    case round =>
      obtain ⟨t, A2, c2, C, ht, rfl, hmc, hrj, hcc⟩ := hrel
      have HMC := Lib.hid hmc; have HRJ := Lib.hid hrj; have HC := Lib.hid hcc
      have hCl : C.length ≤ 1000 := by
        have h1 := mrg_length (l'.take t) l
        rw [hmc, List.length_take, HL'.out, HL.out] at h1
        omega
      have HCL := Lib.hid hCl
      clear hmc hrj hcc hCl
      obtain ⟨_, ⟨_, _, _, _, _, _, _, _⟩, _⟩ := HALL.out _ HC.out.below
      by_cases hlt : t < n'
      · have i1 : (t : Int) < n' := by omega
        have i0 : (0 : Int) ≤ t := by omega
        have htl : t < l'.length := by rw [HL'.out]; exact hlt
        obtain ⟨g0, o0, rfl, hg0, hcols⟩ := (HALL.out _ (Below.refl _ _)).2.2.2.2 (by omega)
        have hct := hcols t htl
        have hk2 : ∀ w', Below U.heap.size U w' → w'.cell? ⟨g0, o0 + t * 5, none⟩ = some (.string l'[t].1) ∧ w'.cell? ⟨g0, o0 + t * 5 + 1, none⟩ = some (.string l'[t].2.s) ∧ w'.cell? ⟨g0, o0 + t * 5 + 2, none⟩ = some (.bool l'[t].2.d) ∧ w'.cell? ⟨g0, o0 + t * 5 + 3, none⟩ = some (.int .i64 l'[t].2.a) ∧ w'.cell? ⟨g0, o0 + t * 5 + 4, none⟩ = some (.int .i64 l'[t].2.e) := fun w' hb => by
          obtain ⟨d0, d1, d2, d3, d4⟩ := hct
          have hgu : g0 < U.heap.size := by have := HUS.out; have := HB'.out; omega
          exact ⟨(hb.cell (p := ⟨g0, _, none⟩) hgu).trans d0, (hb.cell (p := ⟨g0, _, none⟩) hgu).trans d1, (hb.cell (p := ⟨g0, _, none⟩) hgu).trans d2, (hb.cell (p := ⟨g0, _, none⟩) hgu).trans d3, (hb.cell (p := ⟨g0, _, none⟩) hgu).trans d4⟩
        have HK2 := Lib.hid hk2
        obtain ⟨D, hD⟩ : ∃ D, putC C l'[t].1 ⟨l'[t].2.s, l'[t].2.d, l'[t].2.a, l'[t].2.e⟩ = D := ⟨_, rfl⟩
        have HD := Lib.hid hD
        clear hcols hct hk2 hD
        go_wp2_with fail
        refine wp_region_z (S := fun w' => RJ w' r k js jd ja je mg mh A2 C.length c2 ∧ Below U.heap.size U w') 9 (by kernel_rfl) ?_ (fun hHeld => ?_)
        · exact ⟨HRJ.out, HC.out.below.drew⟩
        refine takesZ [0, 1, 2, 3, 4, 5, 6] ?_
        repeat
          refine takesZ_one (v := ?_) ?_ ?_
          rotate_left
          · first | (refine Or.inr ⟨by rfl, ?_⟩; with_reducible rfl) | (refine Or.inl ⟨by rfl, ?_⟩; intro wx hSw; (try dsimp only at hSw); first | (go_simp; first | done | with_reducible rfl) | (obtain ⟨_, _, _, _, _, _, _, _⟩ := RJ.cells hSw.1; go_simp; first | done | with_reducible rfl) | (obtain ⟨_, ⟨_, _, _, _, _, _, _, _⟩, _⟩ := HALL.out _ hSw.2; go_simp; first | done | with_reducible rfl) | (obtain ⟨_, _, _, _, _⟩ := HK2.out _ hSw.2; go_simp; first | done | with_reducible rfl))
          try simp only [Act.put, List.getElem_toArray, List.getElem_cons_succ, List.getElem_cons_zero, List.setIfInBounds_toArray, List.set_cons_zero, List.set_cons_succ]
        refine takesZ_nil ?_
        refine wpAnyZ_one (i := 7) (by kernel_rfl) rfl (fun K hK => ?_)
        go_simp
        obtain ⟨A2', c2', e2, h2a, h2b, h2c, h2d⟩ := HC.out.slice
        injection e2 with e2 e3 e4
        subst e2; subst e4
        refine (rput_any A2 C.length c2 wr.heap.size C _ _ _ _ _ _ (h2d.below ((Below.refl wr.heap.size wr).drew)) (Nat.le_refl _) h2a h2c HCL.out).mono ?_
        rintro x v4 ⟨v, rfl, hcur⟩
        rw [HD.out] at hcur
        obtain ⟨A4, c4, rfl, _⟩ := hcur.slice
        have C4 := Lib.hid hcur
        clear hcur h2a h2b h2c h2d e3
        try go_wp2_with fail
        refine hK.out _ _ ?_ (fun hHeld => ?_)
        · exact ⟨(C4.out.below.block r (Array.getElem?_eq_some_iff.1 HRJ.out).1).trans HRJ.out, (HC.out.below.drew).trans (C4.out.below.mono HC.out.below.drew.size)⟩
        clear hK K
        try simp only [Act.put, List.getElem_toArray, List.getElem_cons_succ, List.getElem_cons_zero, List.setIfInBounds_toArray, List.set_cons_zero, List.set_cons_succ]
        have k7 := cell_at (i := 7) hHeld.1 rfl
        have f7 := thawed_at (i := 7) hHeld.1
        refine takesZ [8] ?_
        repeat
          refine takesZ_one (v := ?_) ?_ ?_
          rotate_left
          · first | (refine Or.inr ⟨by rfl, ?_⟩; with_reducible rfl) | (refine Or.inl ⟨by rfl, ?_⟩; intro wx hSw; (try dsimp only at hSw); first | (go_simp; first | done | with_reducible rfl))
          try simp only [Act.put, List.getElem_toArray, List.getElem_cons_succ, List.getElem_cons_zero, List.setIfInBounds_toArray, List.set_cons_zero, List.set_cons_succ]
        refine takesZ_nil ?_
        refine wpAnyZ_last (by kernel_rfl) rfl (fun K hK => ?_)
        go_simp
        refine hK.out _ _ ?_
        clear hK K
        try simp only [Act.put, List.getElem_toArray, List.getElem_cons_succ, List.getElem_cons_zero, List.setIfInBounds_toArray, List.set_cons_zero, List.set_cons_succ]
        refine wpAnyZ_done (by kernel_rfl) ?_ _
        have hD2 : mrg l (l'.take (t + 1)) = D := by rw [List.take_succ_eq_append_getElem htl, mrg_snoc, HMC.out]; exact HD.out
        have hrj9 := RJ.set7 hHeld.1 A4 D.length c4
        have hc9 : Cur U (v4.setCell ⟨r, 7, none⟩ (.slice A4 D.length c4)) (.slice A4 D.length c4) D := by
          have h4 := C4.out.lower HC.out.below.drew
          refine ⟨own_kept h4.own fun g hg => Below.heap_setCell _ _ _ _ (own_ne h4.own hHeld.1 (by decide) g hg), h4.below.setCell (p := ⟨r, 7, none⟩) HRR.out _⟩
        generalize v4.setCell ⟨r, 7, none⟩ (.slice A4 D.length c4) = w9 at *
        have RJ9 := Lib.hid hrj9; have C9 := Lib.hid hc9; have HD2 := Lib.hid hD2
        clear hrj9 hc9 hD2 hHeld k7 f7
        go_wp2
        go_roundw
        case rel => exact ⟨t + 1, A4, c4, D, by omega, by go_num, HD2.out, RJ9.out, C9.out⟩
        case measure => simp [intOf]; omega
      · obtain rfl : t = n' := by omega
        have d0 : decide ((t : Int) < (t : Int)) = false := by simp
        have hfin : C = M := by
          have h1 := HMC.out
          rw [List.take_of_length_le (by rw [HL'.out]; exact Nat.le_refl _), HMM.out] at h1
          exact h1.symm
        have HFIN := Lib.hid hfin
        clear hfin
        obtain ⟨q0, q1, q2, q3, q4, q5, q6, q7⟩ := RJ.cells HRJ.out
        have hzz : RJ wr (w.heap.size + 1 + 1) ⟨#[]⟩ ⟨#[]⟩ false 0 0 0 0 none 0 0 := (HC.out.below.block (w.heap.size + 1 + 1) (by have := HUS.out; omega)).trans HZ.out
        have HZZ := Lib.hid hzz
        have hz1 := block_setCell (i := 0) hzz (.string k)
        have hz2 := block_setCell (i := 1) hz1 (.string js)
        have hz3 := block_setCell (i := 2) hz2 (.bool jd)
        have hz4 := block_setCell (i := 3) hz3 (.int .i64 ja)
        have hz5 := block_setCell (i := 4) hz4 (.int .i64 je)
        have hz6 := block_setCell (i := 5) hz5 (.int .i64 mg)
        have hz7 := block_setCell (i := 6) hz6 (.int .i64 mh)
        simp only [List.setIfInBounds_toArray, List.set_cons_zero, List.set_cons_succ] at hz1 hz2 hz3 hz4 hz5 hz6 hz7
        have x0 := cell_at (i := 0) hzz rfl
        have x1 := cell_at (i := 1) hz1 rfl
        have x2 := cell_at (i := 2) hz2 rfl
        have x3 := cell_at (i := 3) hz3 rfl
        have x4 := cell_at (i := 4) hz4 rfl
        have x5 := cell_at (i := 5) hz5 rfl
        have x6 := cell_at (i := 6) hz6 rfl
        have x7 := cell_at (i := 7) hz7 rfl
        have y0 := thawed_at (i := 0) hzz
        have y1 := thawed_at (i := 1) hz1
        have y2 := thawed_at (i := 2) hz2
        have y3 := thawed_at (i := 3) hz3
        have y4 := thawed_at (i := 4) hz4
        have y5 := thawed_at (i := 5) hz5
        have y6 := thawed_at (i := 6) hz6
        have y7 := thawed_at (i := 7) hz7
        clear hzz hz1 hz2 hz3 hz4 hz5 hz6 hz7
        go_wp2
        have hrz := RJ.set HZZ.out k js jd ja je mg mh A2 C.length c2
        have hcz := (HC.out.lower BZ.out).eight HZZ.out (by omega) (.string k) (.string js) (.bool jd) (.int .i64 ja) (.int .i64 je) (.int .i64 mg) (.int .i64 mh) (.slice A2 C.length c2)
        generalize ((((((((wr.setCell ⟨w.heap.size + 1 + 1, 0, none⟩ (.string k)).setCell ⟨w.heap.size + 1 + 1, 1, none⟩ (.string js)).setCell ⟨w.heap.size + 1 + 1, 2, none⟩ (.bool jd)).setCell ⟨w.heap.size + 1 + 1, 3, none⟩ (.int .i64 ja)).setCell ⟨w.heap.size + 1 + 1, 4, none⟩ (.int .i64 je)).setCell ⟨w.heap.size + 1 + 1, 5, none⟩ (.int .i64 mg)).setCell ⟨w.heap.size + 1 + 1, 6, none⟩ (.int .i64 mh)).setCell ⟨w.heap.size + 1 + 1, 7, none⟩ (.slice A2 C.length c2)) = w9 at hrz hcz ⊢
        clear x0 x1 x2 x3 x4 x5 x6 x7 y0 y1 y2 y3 y4 y5 y6 y7
        obtain ⟨z0, z1, z2, z3, z4, z5, z6, z7⟩ := RJ.cells hrz
        refine bodyPost_ret (v := .agg #[.string k, .string js, .bool jd, .int .i64 ja, .int .i64 je, .int .i64 mg, .int .i64 mh, .slice A2 C.length c2]) (by simp [results, Try.results60, go_sem, z0, z1, z2, z3, z4, z5, z6, z7]) rfl ⟨js, jd, ja, je, A2, c2, HJ.out, by rw [HFIN.out], by rw [HFIN.out] at hcz; exact hcz⟩
end Go.Proofs.Ytafbbojfifcncaa
set_option linter.unusedVariables false
namespace Go.Proofs.Ytafbbojfifcncaa
open Go Go.RowKit

def goB (s : ByteArray) (i : Nat) : Bool := decide (i < s.size) && decide (128 ≤ bt s i) && decide (bt s i < 192)
theorem goB_iff (s : ByteArray) (i : Nat) : goB s i = true ↔ goesOn s i := by
  unfold goB goesOn
  simp [and_assoc]
def contB (s : ByteArray) (a n : Nat) : Bool := (List.range n).all fun j => goB s (a + j)

theorem and192_all : ∀ x : Fin 256, (bits BinOp.and IntKind.u8 (x.val : Int) 192 != 128) = !(decide (128 ≤ x.val) && decide (x.val < 192)) := by decide +kernel
theorem and192 (x : Nat) (h : x < 256) : (bits BinOp.and IntKind.u8 (x : Int) 192 != 128) = !(decide (128 ≤ x) && decide (x < 192)) := and192_all ⟨x, h⟩
theorem and31_all : ∀ x : Fin 256, bits BinOp.and IntKind.i32 (x.val : Int) 31 = ((x.val % 32 : Nat) : Int) := by decide +kernel
theorem and15_all : ∀ x : Fin 256, bits BinOp.and IntKind.i32 (x.val : Int) 15 = ((x.val % 16 : Nat) : Int) := by decide +kernel
theorem and7_all : ∀ x : Fin 256, bits BinOp.and IntKind.i32 (x.val : Int) 7 = ((x.val % 8 : Nat) : Int) := by decide +kernel
theorem and31 (x : Nat) (h : x < 256) : bits BinOp.and IntKind.i32 (x : Int) 31 = ((x % 32 : Nat) : Int) := and31_all ⟨x, h⟩
theorem and15 (x : Nat) (h : x < 256) : bits BinOp.and IntKind.i32 (x : Int) 15 = ((x % 16 : Nat) : Int) := and15_all ⟨x, h⟩
theorem and7 (x : Nat) (h : x < 256) : bits BinOp.and IntKind.i32 (x : Int) 7 = ((x % 8 : Nat) : Int) := and7_all ⟨x, h⟩
theorem and63_all : ∀ x : Fin 256, bits BinOp.and IntKind.u8 (x.val : Int) 63 = ((x.val % 64 : Nat) : Int) := by decide +kernel

set_option maxHeartbeats 1600000 in
set_option maxRecDepth 100000 in
theorem cont_any (s : ByteArray) (a n : Nat) (w : World) (hs : s.size ≤ 1099511627776) (ha : a ≤ s.size) (hn : n ≤ 3) :
    Calls Try.prog 95 #[.string s, .int .i64 a, .int .i64 n] w fun e w' => e = .returned (.bool (contB s a n)) ∧ w = w' := by
  by_cases hb : (s.size : Int) < (a : Int) + n
  · have hc : contB s a n = false := by
      unfold contB
      rw [List.all_eq_false]
      refine ⟨s.size - a, by rw [List.mem_range]; omega, ?_⟩
      unfold goB
      rw [show a + (s.size - a) = s.size from by omega]
      simp
    have HC := Lib.hid hc
    clear hc
    go_enter Try.func95, Try.ntmps95
    go_wp2
    go_ret
    exact ⟨ret_bool HC.out.symm, rfl⟩
  · go_enter Try.func95, Try.ntmps95
    go_wp2
    go_loop [7] (fun i => ∃ k : Nat, k ≤ n ∧ i = .int .i64 ((a : Int) + k) ∧ (List.range k).all (fun j => goB s (a + j)) = true) (fun i => (a + n) - (intOf i).toNat)
    case atStart => exact ⟨0, Nat.zero_le _, by simp, by simp⟩
    case round =>
      obtain ⟨k, hk, rfl, hall⟩ := hrel
      have HA := Lib.hid hall
      clear hall
      by_cases hlt : (a : Int) + k < (a : Int) + n
      · have hin : (a : Int) + k < s.size := by omega
        have hin2 : a + k < s.size := by omega
        have hin0 : (0 : Int) ≤ (a : Int) + k := by omega
        have hbt : bt s (a + k) = s[a + k].toNat := bt_at s (a + k) hin2
        have h256 := bt_lt s (a + k)
        have hand := and192 (s[a + k].toNat) (by omega)
        by_cases hg : goB s (a + k) = true
        · have hf : (bits BinOp.and IntKind.u8 (s[a + k].toNat : Int) 192 != 128) = false := by
            rw [hand, ← hbt]
            unfold goB at hg
            simp only [Bool.and_eq_true, decide_eq_true_eq] at hg
            rw [decide_eq_true hg.1.2, decide_eq_true hg.2]
            rfl
          have HG := Lib.hid hg
          clear hand hg hbt
          go_wp2
          go_round
          case rel => exact ⟨k + 1, by omega, by congr 1, by rw [List.range_succ, List.all_append, HA.out]; simp [HG.out]⟩
          case measure => simp [intOf]; omega
        · have hf : (bits BinOp.and IntKind.u8 (s[a + k].toNat : Int) 192 != 128) = true := by
            rw [hand, ← hbt]
            unfold goB at hg
            rw [decide_eq_true hin2, Bool.true_and] at hg
            rw [Bool.eq_false_iff.2 hg]
            rfl
          have hc : contB s a n = false := by
            unfold contB
            rw [List.all_eq_false]
            exact ⟨k, by rw [List.mem_range]; omega, hg⟩
          have HC := Lib.hid hc
          clear hand hg hbt hc
          go_wp2
          go_ret
          exact ⟨ret_bool HC.out.symm, rfl⟩
      · obtain rfl : k = n := by omega
        go_wp2
        go_ret
        exact ⟨ret_bool HA.out.symm, rfl⟩

def oneV (c : Nat × Nat) (p : Nat) : Value := .agg #[.int .i32 (c.1 : Nat), .int .i64 (p : Nat), .int .i64 (c.2 : Nat), .bool (rightB (c.1, p, c.2))]

set_option maxHeartbeats 3200000 in
set_option maxRecDepth 100000 in
theorem one_low (s : ByteArray) (p : Nat) (w : World) (hs : s.size ≤ 1099511627776) (hp : p < s.size) (h : s[p].toNat < 128) :
    Calls Try.prog 86 #[.string s, .int .i64 p] w fun e w' => e = .returned (.agg #[.int .i32 (s[p].toNat : Nat), .int .i64 (p : Nat), .int .i64 1, .bool true]) ∧ Below w.heap.size w w' := by
  go_enter Try.func86, Try.ntmps86
  go_wp2
  exact bodyPost_ret (v := .agg #[.int .i32 (s[p].toNat : Nat), .int .i64 (p : Nat), .int .i64 1, .bool true]) (by simp [results, Try.results86, go_sem]) rfl ⟨rfl, ((Below.refl _ _).alloc (Nat.le_refl _) _).alloc (by simp) _⟩

theorem or_step (x b : Nat) (hx : x ≤ 131071) (hb : b < 256) : Value.int .i32 (bits .or .i32 ((x : Int) * 64) (wrap32 (bits .and .u8 (b : Int) 63))) = Value.int .i32 ((x * 64 + b % 64 : Nat) : Int) := by
  have h1 : bits BinOp.and IntKind.u8 (b : Int) 63 = ((b % 64 : Nat) : Int) := and63_all ⟨b, hb⟩
  have h2 : wrap32 ((b % 64 : Nat) : Int) = ((b % 64 : Nat) : Int) := by unfold wrap32; omega
  rw [h1, h2, i32_or6 (x := (x : Int) * 64) (y := ((b % 64 : Nat) : Int)) (by omega) (by omega) (by omega) (by omega) (by omega)]
  congr 1

/-- What the bytes behind the first one make of r0. -/
def rr (s : ByteArray) (p r0 : Nat) : Nat → Nat
  | 0 => r0
  | k + 1 => rr s p r0 k * 64 + bt s (p + (k + 1)) % 64
theorem rr_small (s : ByteArray) (p r0 k : Nat) (h : r0 ≤ 31) (hk : k ≤ 2) : rr s p r0 k ≤ 131071 := by
  have : k = 0 ∨ k = 1 ∨ k = 2 := by omega
  rcases this with rfl | rfl | rfl <;> simp only [rr] <;> omega

/-- Whether so many bytes made a code point too small, or none. -/
def wrongR (n r : Nat) : Bool := (n == 2 && (decide (r < 2048) || (decide (55296 ≤ r) && decide (r < 57344)))) || (n == 3 && (decide (r < 65536) || decide (1114111 < r)))

set_option maxHeartbeats 1600000 in
set_option maxRecDepth 100000 in
theorem one_bad1 (s : ByteArray) (p : Nat) (w : World) (hs : s.size ≤ 1099511627776) (hp : p < s.size) (h1 : 128 ≤ s[p].toNat) (h2 : s[p].toNat < 194) :
    Calls Try.prog 86 #[.string s, .int .i64 p] w fun e w' => e = .returned (.agg #[.int .i32 65533, .int .i64 (p : Nat), .int .i64 1, .bool false]) ∧ Below w.heap.size w w' := by
  have f0 : ¬ (s[p].toNat : Int) < 128 := by omega
  have f1 : ¬ 194 ≤ (s[p].toNat : Int) := by omega
  have f2 : ¬ 224 ≤ (s[p].toNat : Int) := by omega
  have f3 : ¬ 240 ≤ (s[p].toNat : Int) := by omega
  go_enter Try.func86, Try.ntmps86
  go_wp2
  exact bodyPost_ret (v := .agg #[.int .i32 65533, .int .i64 (p : Nat), .int .i64 1, .bool false]) (by simp [results, Try.results86, go_sem]) rfl ⟨rfl, ((Below.refl _ _).alloc (Nat.le_refl _) _).alloc (by simp) _⟩

set_option maxHeartbeats 1600000 in
set_option maxRecDepth 100000 in
theorem one_bad2 (s : ByteArray) (p : Nat) (w : World) (hs : s.size ≤ 1099511627776) (hp : p < s.size) (h1 : 245 ≤ s[p].toNat) :
    Calls Try.prog 86 #[.string s, .int .i64 p] w fun e w' => e = .returned (.agg #[.int .i32 65533, .int .i64 (p : Nat), .int .i64 1, .bool false]) ∧ Below w.heap.size w w' := by
  have hlt : s[p].toNat < 256 := s[p].toNat_lt
  have f0 : ¬ (s[p].toNat : Int) < 128 := by omega
  have f1 : 194 ≤ (s[p].toNat : Int) := by omega
  have f2 : ¬ (s[p].toNat : Int) < 224 := by omega
  have f3 : 224 ≤ (s[p].toNat : Int) := by omega
  have f4 : ¬ (s[p].toNat : Int) < 240 := by omega
  have f5 : 240 ≤ (s[p].toNat : Int) := by omega
  have f6 : ¬ (s[p].toNat : Int) < 245 := by omega
  go_enter Try.func86, Try.ntmps86
  go_wp2
  exact bodyPost_ret (v := .agg #[.int .i32 65533, .int .i64 (p : Nat), .int .i64 1, .bool false]) (by simp [results, Try.results86, go_sem]) rfl ⟨rfl, ((Below.refl _ _).alloc (Nat.le_refl _) _).alloc (by simp) _⟩

set_option maxHeartbeats 1600000 in
set_option maxRecDepth 100000 in
theorem one_cut1 (s : ByteArray) (p : Nat) (w : World) (hs : s.size ≤ 1099511627776) (hp : p < s.size) (h1 : 194 ≤ s[p].toNat) (h2 : s[p].toNat < 224) (hc : contB s (p + 1) 1 = false) :
    Calls Try.prog 86 #[.string s, .int .i64 p] w fun e w' => e = .returned (.agg #[.int .i32 65533, .int .i64 (p : Nat), .int .i64 1, .bool false]) ∧ Below w.heap.size w w' := by
  have HC := Lib.hid hc
  clear hc
  have f0 : ¬ (s[p].toNat : Int) < 128 := by omega
  have f1 : 194 ≤ (s[p].toNat : Int) := by omega
  have f2 : (s[p].toNat : Int) < 224 := by omega
  go_enter Try.func86, Try.ntmps86
  go_wp2_with (go_at_call 95; refine (cont_any s (p + 1) 1 _ hs (by omega) (by omega)).mono ?_; rintro e w' ⟨rfl, rfl⟩; rw [HC.out])
  exact bodyPost_ret (v := .agg #[.int .i32 65533, .int .i64 (p : Nat), .int .i64 1, .bool false]) (by simp [results, Try.results86, go_sem]) rfl ⟨rfl, ((Below.refl _ _).alloc (Nat.le_refl _) _).alloc (by simp) _⟩

set_option maxHeartbeats 1600000 in
set_option maxRecDepth 100000 in
theorem one_cut2 (s : ByteArray) (p : Nat) (w : World) (hs : s.size ≤ 1099511627776) (hp : p < s.size) (h1 : 224 ≤ s[p].toNat) (h2 : s[p].toNat < 240) (hc : contB s (p + 1) 2 = false) :
    Calls Try.prog 86 #[.string s, .int .i64 p] w fun e w' => e = .returned (.agg #[.int .i32 65533, .int .i64 (p : Nat), .int .i64 1, .bool false]) ∧ Below w.heap.size w w' := by
  have HC := Lib.hid hc
  clear hc
  have f0 : ¬ (s[p].toNat : Int) < 128 := by omega
  have f1 : 194 ≤ (s[p].toNat : Int) := by omega
  have f2 : ¬ (s[p].toNat : Int) < 224 := by omega
  have f3 : 224 ≤ (s[p].toNat : Int) := by omega
  have f4 : (s[p].toNat : Int) < 240 := by omega
  go_enter Try.func86, Try.ntmps86
  go_wp2_with (go_at_call 95; refine (cont_any s (p + 1) 2 _ hs (by omega) (by omega)).mono ?_; rintro e w' ⟨rfl, rfl⟩; rw [HC.out])
  exact bodyPost_ret (v := .agg #[.int .i32 65533, .int .i64 (p : Nat), .int .i64 1, .bool false]) (by simp [results, Try.results86, go_sem]) rfl ⟨rfl, ((Below.refl _ _).alloc (Nat.le_refl _) _).alloc (by simp) _⟩

set_option maxHeartbeats 1600000 in
set_option maxRecDepth 100000 in
theorem one_cut3 (s : ByteArray) (p : Nat) (w : World) (hs : s.size ≤ 1099511627776) (hp : p < s.size) (h1 : 240 ≤ s[p].toNat) (h2 : s[p].toNat < 245) (hc : contB s (p + 1) 3 = false) :
    Calls Try.prog 86 #[.string s, .int .i64 p] w fun e w' => e = .returned (.agg #[.int .i32 65533, .int .i64 (p : Nat), .int .i64 1, .bool false]) ∧ Below w.heap.size w w' := by
  have HC := Lib.hid hc
  clear hc
  have f0 : ¬ (s[p].toNat : Int) < 128 := by omega
  have f1 : 194 ≤ (s[p].toNat : Int) := by omega
  have f2 : ¬ (s[p].toNat : Int) < 224 := by omega
  have f3 : 224 ≤ (s[p].toNat : Int) := by omega
  have f4 : ¬ (s[p].toNat : Int) < 240 := by omega
  have f5 : 240 ≤ (s[p].toNat : Int) := by omega
  have f6 : (s[p].toNat : Int) < 245 := by omega
  go_enter Try.func86, Try.ntmps86
  go_wp2_with (go_at_call 95; refine (cont_any s (p + 1) 3 _ hs (by omega) (by omega)).mono ?_; rintro e w' ⟨rfl, rfl⟩; rw [HC.out])
  exact bodyPost_ret (v := .agg #[.int .i32 65533, .int .i64 (p : Nat), .int .i64 1, .bool false]) (by simp [results, Try.results86, go_sem]) rfl ⟨rfl, ((Below.refl _ _).alloc (Nat.le_refl _) _).alloc (by simp) _⟩

end Go.Proofs.Ytafbbojfifcncaa
set_option linter.unusedVariables false
namespace Go.Proofs.Ytafbbojfifcncaa
open Go Go.RowKit

/-- What one answers of n bytes that go on. -/
def moreV (n r p : Nat) : Value := if wrongR n r then .agg #[.int .i32 65533, .int .i64 (p : Nat), .int .i64 1, .bool false] else .agg #[.int .i32 (r : Nat), .int .i64 (p : Nat), .int .i64 (n + 1 : Nat), .bool true]
theorem moreV_bad {n r p : Nat} (h : wrongR n r = true) : Ending.returned (.agg #[.int .i32 65533, .int .i64 (p : Nat), .int .i64 1, .bool false]) = Ending.returned (moreV n r p) := by
  unfold moreV; rw [if_pos h]
theorem moreV_ok {n r p : Nat} (h : wrongR n r = false) : Ending.returned (.agg #[.int .i32 (r : Nat), .int .i64 (p : Nat), .int .i64 ((n : Int) + 1), .bool true]) = Ending.returned (moreV n r p) := by
  unfold moreV; rw [if_neg (by rw [h]; decide)]; rfl

set_option maxHeartbeats 6400000 in
set_option maxRecDepth 100000 in
theorem one_more1 (s : ByteArray) (p r0 : Nat) (w : World) (hs : s.size ≤ 1099511627776) (hp : p < s.size)
    (h1 : 194 ≤ s[p].toNat) (h2 : s[p].toNat < 224) (h3 : s[p].toNat % 32 = r0)
    (hc : contB s (p + 1) 1 = true) (hin : p + 1 < s.size) :
    Calls Try.prog 86 #[.string s, .int .i64 p] w fun e w' => e = .returned (moreV 1 (rr s p r0 1) p) ∧ Below w.heap.size w w' := by
  have HC := Lib.hid hc
  clear hc
  have hr31 : r0 ≤ 31 := by omega
  have f0 : ¬ (s[p].toNat : Int) < 128 := by omega
  have f1 : 194 ≤ (s[p].toNat : Int) := by omega
  have f2 : (s[p].toNat : Int) < 224 := by omega
  have hand : bits .and .i32 (s[p].toNat : Int) 31 = (r0 : Int) := by rw [and31 _ (by omega), h3]
  have H3 := Lib.hid h3
  clear h3
  go_enter Try.func86, Try.ntmps86
  go_wp2_with (go_at_call 95; refine (cont_any s (p + 1) 1 _ hs (by omega) (by omega)).mono ?_; rintro e w' ⟨rfl, rfl⟩; rw [HC.out])
  go_loop [8, 9] (fun r i => ∃ k : Nat, k ≤ 1 ∧ i = .int .i64 (k + 1 : Nat) ∧ r = .int .i32 (rr s p r0 k : Nat)) (fun _ i => 2 - (intOf i).toNat)
  case atStart => exact ⟨0, Nat.zero_le _, rfl, rfl⟩
  case round =>
    obtain ⟨k, hk, rfl, rfl⟩ := hrel
    by_cases hlt : k < 1
    · have hsm := rr_small s p r0 k hr31 (by omega)
      have hbt := bt_at s (p + (k + 1)) (by omega)
      have hor := or_step (rr s p r0 k) (bt s (p + (k + 1))) hsm (bt_lt s _)
      rw [hbt] at hor
      have HO := Lib.hid hor
      have HB := Lib.hid hbt
      clear hor hbt
      go_wp2
      go_round
      case rel => exact ⟨k + 1, by omega, by go_num, HO.out.trans (by rw [rr, HB.out])⟩
      case measure => simp [intOf]; omega
    · obtain rfl : k = 1 := by omega
      have hw : wrongR 1 (rr s p r0 1) = false := rfl
      have HW := Lib.hid hw
      clear hw
      have hsm : rr s p r0 1 ≤ 131071 := rr_small s p r0 1 hr31 (by omega)
      go_wp2
      refine bodyPost_ret (v := .agg #[.int .i32 (rr s p r0 1 : Nat), .int .i64 (p : Nat), .int .i64 2, .bool true]) (by simp [results, Try.results86, go_sem]) rfl ⟨by first | exact moreV_bad HW.out | exact moreV_ok HW.out, ((Below.refl _ _).alloc (Nat.le_refl _) _).alloc (by simp) _⟩

set_option maxHeartbeats 6400000 in
set_option maxRecDepth 100000 in
theorem one_more2 (s : ByteArray) (p r0 : Nat) (w : World) (hs : s.size ≤ 1099511627776) (hp : p < s.size)
    (h1 : 224 ≤ s[p].toNat) (h2 : s[p].toNat < 240) (h3 : s[p].toNat % 16 = r0)
    (hc : contB s (p + 1) 2 = true) (hin : p + 2 < s.size) :
    Calls Try.prog 86 #[.string s, .int .i64 p] w fun e w' => e = .returned (moreV 2 (rr s p r0 2) p) ∧ Below w.heap.size w w' := by
  have HC := Lib.hid hc
  clear hc
  have hr31 : r0 ≤ 31 := by omega
  have f0 : ¬ (s[p].toNat : Int) < 128 := by omega
  have f1 : 194 ≤ (s[p].toNat : Int) := by omega
  have f2 : ¬ (s[p].toNat : Int) < 224 := by omega
  have f3 : 224 ≤ (s[p].toNat : Int) := by omega
  have f4 : (s[p].toNat : Int) < 240 := by omega
  have hand : bits .and .i32 (s[p].toNat : Int) 15 = (r0 : Int) := by rw [and15 _ (by omega), h3]
  have H3 := Lib.hid h3
  clear h3
  go_enter Try.func86, Try.ntmps86
  go_wp2_with (go_at_call 95; refine (cont_any s (p + 1) 2 _ hs (by omega) (by omega)).mono ?_; rintro e w' ⟨rfl, rfl⟩; rw [HC.out])
  go_loop [8, 9] (fun r i => ∃ k : Nat, k ≤ 2 ∧ i = .int .i64 (k + 1 : Nat) ∧ r = .int .i32 (rr s p r0 k : Nat)) (fun _ i => 3 - (intOf i).toNat)
  case atStart => exact ⟨0, Nat.zero_le _, rfl, rfl⟩
  case round =>
    obtain ⟨k, hk, rfl, rfl⟩ := hrel
    by_cases hlt : k < 2
    · have hsm := rr_small s p r0 k hr31 (by omega)
      have hbt := bt_at s (p + (k + 1)) (by omega)
      have hor := or_step (rr s p r0 k) (bt s (p + (k + 1))) hsm (bt_lt s _)
      rw [hbt] at hor
      have HO := Lib.hid hor
      have HB := Lib.hid hbt
      clear hor hbt
      go_wp2
      go_round
      case rel => exact ⟨k + 1, by omega, by go_num, HO.out.trans (by rw [rr, HB.out])⟩
      case measure => simp [intOf]; omega
    · obtain rfl : k = 2 := by omega
      have hsm : rr s p r0 2 ≤ 131071 := rr_small s p r0 2 hr31 (by omega)
      by_cases c1 : ((rr s p r0 2 : Nat) : Int) < 2048
      · have hw : wrongR 2 (rr s p r0 2) = true := by unfold wrongR; rw [decide_eq_true (show rr s p r0 2 < 2048 by omega)]; simp
        have HW := Lib.hid hw
        clear hw
        go_wp2
        refine bodyPost_ret (v := .agg #[.int .i32 65533, .int .i64 (p : Nat), .int .i64 1, .bool false]) (by simp [results, Try.results86, go_sem]) rfl ⟨by first | exact moreV_bad HW.out | exact moreV_ok HW.out, ((Below.refl _ _).alloc (Nat.le_refl _) _).alloc (by simp) _⟩
      · by_cases c2 : (55296 : Int) ≤ (rr s p r0 2 : Nat)
        · by_cases c3 : ((rr s p r0 2 : Nat) : Int) < 57344
          · have hw : wrongR 2 (rr s p r0 2) = true := by unfold wrongR; rw [decide_eq_true (show 55296 ≤ rr s p r0 2 by omega), decide_eq_true (show rr s p r0 2 < 57344 by omega)]; simp
            have HW := Lib.hid hw
            clear hw
            go_wp2
            refine bodyPost_ret (v := .agg #[.int .i32 65533, .int .i64 (p : Nat), .int .i64 1, .bool false]) (by simp [results, Try.results86, go_sem]) rfl ⟨by first | exact moreV_bad HW.out | exact moreV_ok HW.out, ((Below.refl _ _).alloc (Nat.le_refl _) _).alloc (by simp) _⟩
          · have hw : wrongR 2 (rr s p r0 2) = false := by unfold wrongR; rw [decide_eq_false (show ¬ rr s p r0 2 < 2048 by omega), decide_eq_false (show ¬ rr s p r0 2 < 57344 by omega)]; simp
            have HW := Lib.hid hw
            clear hw
            go_wp2
            refine bodyPost_ret (v := .agg #[.int .i32 (rr s p r0 2 : Nat), .int .i64 (p : Nat), .int .i64 3, .bool true]) (by simp [results, Try.results86, go_sem]) rfl ⟨by first | exact moreV_bad HW.out | exact moreV_ok HW.out, ((Below.refl _ _).alloc (Nat.le_refl _) _).alloc (by simp) _⟩
        · have hw : wrongR 2 (rr s p r0 2) = false := by unfold wrongR; rw [decide_eq_false (show ¬ rr s p r0 2 < 2048 by omega), decide_eq_false (show ¬ 55296 ≤ rr s p r0 2 by omega)]; simp
          have HW := Lib.hid hw
          clear hw
          go_wp2
          refine bodyPost_ret (v := .agg #[.int .i32 (rr s p r0 2 : Nat), .int .i64 (p : Nat), .int .i64 3, .bool true]) (by simp [results, Try.results86, go_sem]) rfl ⟨by first | exact moreV_bad HW.out | exact moreV_ok HW.out, ((Below.refl _ _).alloc (Nat.le_refl _) _).alloc (by simp) _⟩

set_option maxHeartbeats 6400000 in
set_option maxRecDepth 100000 in
theorem one_more3 (s : ByteArray) (p r0 : Nat) (w : World) (hs : s.size ≤ 1099511627776) (hp : p < s.size)
    (h1 : 240 ≤ s[p].toNat) (h2 : s[p].toNat < 245) (h3 : s[p].toNat % 8 = r0)
    (hc : contB s (p + 1) 3 = true) (hin : p + 3 < s.size) :
    Calls Try.prog 86 #[.string s, .int .i64 p] w fun e w' => e = .returned (moreV 3 (rr s p r0 3) p) ∧ Below w.heap.size w w' := by
  have HC := Lib.hid hc
  clear hc
  have hr31 : r0 ≤ 31 := by omega
  have f0 : ¬ (s[p].toNat : Int) < 128 := by omega
  have f1 : 194 ≤ (s[p].toNat : Int) := by omega
  have f2 : ¬ (s[p].toNat : Int) < 224 := by omega
  have f3 : 224 ≤ (s[p].toNat : Int) := by omega
  have f4 : ¬ (s[p].toNat : Int) < 240 := by omega
  have f5 : 240 ≤ (s[p].toNat : Int) := by omega
  have f6 : (s[p].toNat : Int) < 245 := by omega
  have hand : bits .and .i32 (s[p].toNat : Int) 7 = (r0 : Int) := by rw [and7 _ (by omega), h3]
  have H3 := Lib.hid h3
  clear h3
  go_enter Try.func86, Try.ntmps86
  go_wp2_with (go_at_call 95; refine (cont_any s (p + 1) 3 _ hs (by omega) (by omega)).mono ?_; rintro e w' ⟨rfl, rfl⟩; rw [HC.out])
  go_loop [8, 9] (fun r i => ∃ k : Nat, k ≤ 3 ∧ i = .int .i64 (k + 1 : Nat) ∧ r = .int .i32 (rr s p r0 k : Nat)) (fun _ i => 4 - (intOf i).toNat)
  case atStart => exact ⟨0, Nat.zero_le _, rfl, rfl⟩
  case round =>
    obtain ⟨k, hk, rfl, rfl⟩ := hrel
    by_cases hlt : k < 3
    · have hsm := rr_small s p r0 k hr31 (by omega)
      have hbt := bt_at s (p + (k + 1)) (by omega)
      have hor := or_step (rr s p r0 k) (bt s (p + (k + 1))) hsm (bt_lt s _)
      rw [hbt] at hor
      have HO := Lib.hid hor
      have HB := Lib.hid hbt
      clear hor hbt
      go_wp2
      go_round
      case rel => exact ⟨k + 1, by omega, by go_num, HO.out.trans (by rw [rr, HB.out])⟩
      case measure => simp [intOf]; omega
    · obtain rfl : k = 3 := by omega
      have hsm : rr s p r0 3 ≤ 8388607 := by have := rr_small s p r0 2 hr31 (by omega); have := bt_lt s (p + 3); simp only [rr] at *; omega
      by_cases c1 : ((rr s p r0 3 : Nat) : Int) < 65536
      · have hw : wrongR 3 (rr s p r0 3) = true := by unfold wrongR; rw [decide_eq_true (show rr s p r0 3 < 65536 by omega)]; simp
        have HW := Lib.hid hw
        clear hw
        go_wp2
        refine bodyPost_ret (v := .agg #[.int .i32 65533, .int .i64 (p : Nat), .int .i64 1, .bool false]) (by simp [results, Try.results86, go_sem]) rfl ⟨by first | exact moreV_bad HW.out | exact moreV_ok HW.out, ((Below.refl _ _).alloc (Nat.le_refl _) _).alloc (by simp) _⟩
      · by_cases c2 : (1114111 : Int) < (rr s p r0 3 : Nat)
        · have hw : wrongR 3 (rr s p r0 3) = true := by unfold wrongR; rw [decide_eq_true (show 1114111 < rr s p r0 3 by omega)]; simp
          have HW := Lib.hid hw
          clear hw
          go_wp2
          refine bodyPost_ret (v := .agg #[.int .i32 65533, .int .i64 (p : Nat), .int .i64 1, .bool false]) (by simp [results, Try.results86, go_sem]) rfl ⟨by first | exact moreV_bad HW.out | exact moreV_ok HW.out, ((Below.refl _ _).alloc (Nat.le_refl _) _).alloc (by simp) _⟩
        · have hw : wrongR 3 (rr s p r0 3) = false := by unfold wrongR; rw [decide_eq_false (show ¬ rr s p r0 3 < 65536 by omega), decide_eq_false (show ¬ 1114111 < rr s p r0 3 by omega)]; simp
          have HW := Lib.hid hw
          clear hw
          go_wp2
          refine bodyPost_ret (v := .agg #[.int .i32 (rr s p r0 3 : Nat), .int .i64 (p : Nat), .int .i64 4, .bool true]) (by simp [results, Try.results86, go_sem]) rfl ⟨by first | exact moreV_bad HW.out | exact moreV_ok HW.out, ((Below.refl _ _).alloc (Nat.le_refl _) _).alloc (by simp) _⟩

end Go.Proofs.Ytafbbojfifcncaa
set_option linter.unusedVariables false
namespace Go.Proofs.Ytafbbojfifcncaa
open Go Go.RowKit

theorem contB_iff (s : ByteArray) (p n : Nat) : contB s (p + 1) n = true ↔ ∀ j, j < n → goesOn s (p + 1 + j) := by
  unfold contB
  rw [List.all_eq_true]
  constructor
  · intro h j hj; exact (goB_iff s _).1 (h j (List.mem_range.2 hj))
  · intro h j hj; exact (goB_iff s _).2 (h j (List.mem_range.1 hj))

theorem oneV_bad (s : ByteArray) (p : Nat) (h : Utf8.decode s p = (65533, 1)) : oneV (Utf8.decode s p) p = .agg #[.int .i32 65533, .int .i64 (p : Nat), .int .i64 1, .bool false] := by
  rw [h]; rfl

theorem wrong2_iff (R : Nat) : wrongR 2 R = true ↔ (R < 2048 ∨ (55296 ≤ R ∧ R < 57344)) := by
  unfold wrongR
  simp
theorem wrong3_iff (R : Nat) : wrongR 3 R = true ↔ (R < 65536 ∨ 1114111 < R) := by
  unfold wrongR
  simp

theorem dec3 (s : ByteArray) (p : Nat) (h1 : 224 ≤ bt s p) (h2 : bt s p < 240) (g1 : goesOn s (p + 1)) (g2 : goesOn s (p + 2)) :
    (wrongR 2 (rr s p (bt s p % 16) 2) = true ∧ Utf8.decode s p = (65533, 1)) ∨ (wrongR 2 (rr s p (bt s p % 16) 2) = false ∧ Utf8.decode s p = (rr s p (bt s p % 16) 2, 3)) := by
  obtain ⟨R, hR⟩ : ∃ R, rr s p (bt s p % 16) 2 = R := ⟨_, rfl⟩
  rw [hR]
  simp only [rr, Nat.zero_add, Nat.reduceAdd] at hR
  rw [Bool.eq_false_iff, ne_eq, wrong2_iff]
  rcases decode_cases s p with ⟨x0, e⟩ | ⟨x0, x1, x2, e⟩ | ⟨x0, x1, x2, x3, c, hc, x4, x5, e⟩ | ⟨x0, x1, x2, x3, x4, c, hc, x5, x6, e⟩ | ⟨x0, e, x1, x2, x3⟩
  · omega
  · omega
  · obtain rfl : c = R := by omega
    exact .inr ⟨by omega, e⟩
  · omega
  · refine .inl ⟨?_, e⟩
    rcases Nat.lt_or_ge R 2048 with h | h
    · exact .inl h
    · right
      by_cases h3 : 55296 ≤ R ∧ R < 57344
      · exact h3
      · exact absurd ⟨h1, h2, g1, g2, by omega, by omega⟩ x2
theorem dec4 (s : ByteArray) (p : Nat) (h1 : 240 ≤ bt s p) (h2 : bt s p < 248) (g1 : goesOn s (p + 1)) (g2 : goesOn s (p + 2)) (g3 : goesOn s (p + 3)) :
    (wrongR 3 (rr s p (bt s p % 8) 3) = true ∧ Utf8.decode s p = (65533, 1)) ∨ (wrongR 3 (rr s p (bt s p % 8) 3) = false ∧ Utf8.decode s p = (rr s p (bt s p % 8) 3, 4)) := by
  obtain ⟨R, hR⟩ : ∃ R, rr s p (bt s p % 8) 3 = R := ⟨_, rfl⟩
  rw [hR]
  simp only [rr, Nat.zero_add, Nat.reduceAdd] at hR
  rw [Bool.eq_false_iff, ne_eq, wrong3_iff]
  rcases decode_cases s p with ⟨x0, e⟩ | ⟨x0, x1, x2, e⟩ | ⟨x0, x1, x2, x3, c, hc, x4, x5, e⟩ | ⟨x0, x1, x2, x3, x4, c, hc, x5, x6, e⟩ | ⟨x0, e, x1, x2, x3⟩
  · omega
  · omega
  · omega
  · obtain rfl : c = R := by omega
    exact .inr ⟨by omega, e⟩
  · refine .inl ⟨?_, e⟩
    rcases Nat.lt_or_ge R 65536 with h | h
    · exact .inl h
    · right
      rcases Nat.lt_or_ge 1114111 R with h3 | h3
      · exact h3
      · exact absurd ⟨h1, h2, g1, g2, g3, by omega, by omega⟩ x3

theorem moreV_two (R p : Nat) (h : wrongR 2 R = false) : moreV 2 R p = oneV (R, 3) p := by
  have hr : rightB (R, p, 3) = true := by unfold rightB; simp
  unfold moreV oneV
  rw [h, hr, if_neg (by decide)]
theorem moreV_three (R p : Nat) (h : wrongR 3 R = false) : moreV 3 R p = oneV (R, 4) p := by
  have hn : ¬ (R < 65536 ∨ 1114111 < R) := by rw [← wrong3_iff, h]; decide
  have hr : rightB (R, p, 4) = true := by unfold rightB; rw [beq_eq_false_iff_ne.2 (show R ≠ 65533 by omega)]; rfl
  unfold moreV oneV
  rw [h, hr, if_neg (by decide)]
theorem moreV_no (n R p : Nat) (h : wrongR n R = true) : moreV n R p = oneV (65533, 1) p := by
  unfold moreV
  rw [if_pos h]
  rfl

set_option maxRecDepth 100000 in
theorem one_any (s : ByteArray) (p : Nat) (w : World) (hs : s.size ≤ 1099511627776) (hp : p < s.size) :
    Calls Try.prog 86 #[.string s, .int .i64 p] w fun e w' => e = .returned (oneV (Utf8.decode s p) p) ∧ Below w.heap.size w w' := by
  have hbt : bt s p = s[p].toNat := bt_at s p hp
  have hb256 := bt_lt s p
  have hd := decode_cases s p
  rw [hbt] at hd hb256
  by_cases h128 : s[p].toNat < 128
  · have e : Utf8.decode s p = (s[p].toNat, 1) := by
      rcases hd with ⟨x0, e⟩ | ⟨x0, x1, x2, e⟩ | ⟨x0, x1, x2, x3, c, hc, x4, x5, e⟩ | ⟨x0, x1, x2, x3, x4, c, hc, x5, x6, e⟩ | ⟨x0, e, x1, x2, x3⟩
      · exact e
      all_goals omega
    have hr : rightB (s[p].toNat, p, 1) = true := by unfold rightB; rw [beq_eq_false_iff_ne.2 (show s[p].toNat ≠ 65533 by omega)]; rfl
    rw [e]
    unfold oneV
    rw [hr]
    exact one_low s p w hs hp h128
  by_cases h194 : s[p].toNat < 194
  · have e : Utf8.decode s p = (65533, 1) := by
      rcases hd with ⟨x0, e⟩ | ⟨x0, x1, x2, e⟩ | ⟨x0, x1, x2, x3, c, hc, x4, x5, e⟩ | ⟨x0, x1, x2, x3, x4, c, hc, x5, x6, e⟩ | ⟨x0, e, x1, x2, x3⟩
      · omega
      · omega
      · omega
      · omega
      · exact e
    rw [oneV_bad s p e]
    exact one_bad1 s p w hs hp (by omega) h194
  by_cases h245 : 245 ≤ s[p].toNat
  · have e : Utf8.decode s p = (65533, 1) := by
      rcases hd with ⟨x0, e⟩ | ⟨x0, x1, x2, e⟩ | ⟨x0, x1, x2, x3, c, hc, x4, x5, e⟩ | ⟨x0, x1, x2, x3, x4, c, hc, x5, x6, e⟩ | ⟨x0, e, x1, x2, x3⟩
      · omega
      · omega
      · omega
      · have := bt_lt s (p + 1); omega
      · exact e
    rw [oneV_bad s p e]
    exact one_bad2 s p w hs hp h245
  by_cases h224 : s[p].toNat < 224
  · by_cases hc : contB s (p + 1) 1 = true
    · have g := (contB_iff s p 1).1 hc
      have g1 := g 0 (by omega)
      have e : Utf8.decode s p = (s[p].toNat % 32 * 64 + bt s (p + 1) % 64, 2) := by
        rcases hd with ⟨x0, e⟩ | ⟨x0, x1, x2, e⟩ | ⟨x0, x1, x2, x3, c, hc, x4, x5, e⟩ | ⟨x0, x1, x2, x3, x4, c, hc, x5, x6, e⟩ | ⟨x0, e, x1, x2, x3⟩
        · omega
        · exact e
        · omega
        · omega
        · exact absurd ⟨by omega, h224, g1⟩ x1
      have hr : rightB (s[p].toNat % 32 * 64 + bt s (p + 1) % 64, p, 2) = true := by unfold rightB; rw [beq_eq_false_iff_ne.2 (show s[p].toNat % 32 * 64 + bt s (p + 1) % 64 ≠ 65533 by omega)]; rfl
      refine (one_more1 s p _ w hs hp (by omega) h224 rfl hc (by have := g1.1; omega)).mono fun e' w' ⟨h1, h2⟩ => ⟨?_, h2⟩
      rw [h1, e]
      unfold oneV
      rw [hr]
      rfl
    · have hc2 : contB s (p + 1) 1 = false := by simpa using hc
      have e : Utf8.decode s p = (65533, 1) := by
        rcases hd with ⟨x0, e⟩ | ⟨x0, x1, x2, e⟩ | ⟨x0, x1, x2, x3, c, hc, x4, x5, e⟩ | ⟨x0, x1, x2, x3, x4, c, hc, x5, x6, e⟩ | ⟨x0, e, x1, x2, x3⟩
        · omega
        · exact absurd ((contB_iff s p 1).2 (fun j hj => by obtain rfl : j = 0 := by omega
                                                            exact x2)) hc
        · omega
        · omega
        · exact e
      rw [oneV_bad s p e]
      exact one_cut1 s p w hs hp (by omega) h224 hc2
  by_cases h240 : s[p].toNat < 240
  · by_cases hc : contB s (p + 1) 2 = true
    · have g := (contB_iff s p 2).1 hc
      have g1 := g 0 (by omega)
      have g2 := g 1 (by omega)
      refine (one_more2 s p _ w hs hp (by omega) h240 rfl hc (by have := g2.1; omega)).mono fun e' w' ⟨h1, h2⟩ => ⟨?_, h2⟩
      rw [h1]
      congr 1
      have h3 := dec3 s p (by omega) (by omega) g1 g2
      rw [hbt] at h3
      rcases h3 with ⟨hw, e⟩ | ⟨hw, e⟩
      · rw [e, moreV_no 2 _ p hw]
      · rw [e, moreV_two _ p hw]
    · have hc2 : contB s (p + 1) 2 = false := by simpa using hc
      have e : Utf8.decode s p = (65533, 1) := by
        rcases hd with ⟨x0, e⟩ | ⟨x0, x1, x2, e⟩ | ⟨x0, x1, x2, x3, c, hc, x4, x5, e⟩ | ⟨x0, x1, x2, x3, x4, c, hc, x5, x6, e⟩ | ⟨x0, e, x1, x2, x3⟩
        · omega
        · omega
        · exact absurd ((contB_iff s p 2).2 (fun j hj => by
            have : j = 0 ∨ j = 1 := by omega
            rcases this with rfl | rfl
            · exact x2
            · exact x3)) (by rw [hc2]; decide)
        · omega
        · exact e
      rw [oneV_bad s p e]
      exact one_cut2 s p w hs hp (by omega) h240 hc2
  · by_cases hc : contB s (p + 1) 3 = true
    · have g := (contB_iff s p 3).1 hc
      have g1 := g 0 (by omega)
      have g2 := g 1 (by omega)
      have g3 := g 2 (by omega)
      refine (one_more3 s p _ w hs hp (by omega) (by omega) rfl hc (by have := g3.1; omega)).mono fun e' w' ⟨h1, h2⟩ => ⟨?_, h2⟩
      rw [h1]
      congr 1
      have h3 := dec4 s p (by omega) (by omega) g1 g2 g3
      rw [hbt] at h3
      rcases h3 with ⟨hw, e⟩ | ⟨hw, e⟩
      · rw [e, moreV_no 3 _ p hw]
      · rw [e, moreV_three _ p hw]
    · have hc2 : contB s (p + 1) 3 = false := by simpa using hc
      have e : Utf8.decode s p = (65533, 1) := by
        rcases hd with ⟨x0, e⟩ | ⟨x0, x1, x2, e⟩ | ⟨x0, x1, x2, x3, c, hc, x4, x5, e⟩ | ⟨x0, x1, x2, x3, x4, c, hc, x5, x6, e⟩ | ⟨x0, e, x1, x2, x3⟩
        · omega
        · omega
        · omega
        · exact absurd ((contB_iff s p 3).2 (fun j hj => by
            have : j = 0 ∨ j = 1 ∨ j = 2 := by omega
            rcases this with rfl | rfl | rfl
            · exact x2
            · exact x3
            · exact x4)) (by rw [hc2]; decide)
        · exact e
      rw [oneV_bad s p e]
      exact one_cut3 s p w hs hp (by omega) (by omega) hc2
end Go.Proofs.Ytafbbojfifcncaa
set_option linter.unusedVariables false
namespace Go.Proofs.Ytafbbojfifcncaa
open Go Go.RowKit

def rcells (c : Nat × Nat × Nat) : List Value := [.int .i32 (c.1 : Nat), .int .i64 (c.2.1 : Nat), .int .i64 (c.2.2 : Nat), .bool (rightB c)]
theorem rcells_length (l : List (Nat × Nat × Nat)) : (l.flatMap rcells).length = l.length * 4 := by
  induction l with
  | nil => rfl
  | cons c l ih => rw [List.flatMap_cons, List.length_append, ih, List.length_cons]; simp [rcells]; omega

theorem below_grown {w w' : World} (h : Below w.heap.size w w') : w.grownBy w' none := ⟨h.os, h.tape, h.output, h.size, fun k hk _ => h.block k hk⟩
theorem owns_below {w w' : World} {B : Nat} {e : TypeId} {sz : Nat} {v : Value} {n : Nat} {xs : List Value} (h : w.ownsRow B e sz v n xs) (hb : Below w.heap.size w w') : w'.ownsRow B e sz v n xs :=
  h.kept (below_grown hb) (by cases hv : v.ownBlock <;> simp)

theorem infoRune : (Try.prog.info? 95).map (fun i => (i.zero, i.size, i.bytes)) = some (some (.agg #[.int .i32 0, .int .i64 0, .int .i64 0, .bool false]), 4, 32) := by kernel_rfl

theorem news_list (w : World) (l : List Value) (T : TypeId) (g : Nat) (hg : g = w.heap.size) : ∀ j u, l[j]? = some u → (w.alloc (.cells l.toArray T)).cell? ((⟨g, 0, none⟩ : Addr).add j) = some u := by
  intro j u h
  subst hg
  rw [Addr.add_lit, Nat.zero_add, blk_cell (heap_alloc_new w _)]
  simpa using h

/-- What All answers: a slice of the call's own with the code points. -/
def IsAll (B : Nat) (v : Value) (l : List (Nat × Nat × Nat)) (w : World) : Prop := w.ownsRow B 95 4 v l.length (l.flatMap rcells)

set_option maxHeartbeats 3200000 in
set_option maxRecDepth 100000 in
theorem all_any (s : ByteArray) (w : World) (hs : s.size ≤ 1099511627776) :
    Calls Try.prog 75 #[.string s] w fun e w' => ∃ v, e = .returned v ∧ IsAll w.heap.size v (cps s) w' ∧ Below w.heap.size w w' := by
  have hlen := cps_length s
  obtain ⟨i0, hi, hz0, hz1, hz2⟩ := info_parts infoRune
  go_enter Try.func75, Try.ntmps75
  go_wp2
  go_loopw [3, 4] (fun l a wr => ∃ (v : Value) (pos f : Nat) (done : List (Nat × Nat × Nat)), v = l ∧ a = .int .i64 pos ∧ IsAll w.heap.size v done wr ∧ Below w.heap.size w wr ∧ done ++ cpsF s f pos = cps s ∧ s.size ≤ pos + f) (fun _ a _ => s.size - (intOf a).toNat)
  case atStart => exact ⟨_, 0, s.size, [], rfl, rfl, ⟨by simp, .inl ⟨rfl, rfl⟩⟩, Below.refl _ _, rfl, by omega⟩
  case round =>
    obtain ⟨v, pos, f, done, rfl, rfl, hown, hbw, hd, hf⟩ := hrel
    have hdl : done.length ≤ s.size := by
      have := congrArg List.length hd
      rw [List.length_append] at this
      omega
    have HD := Lib.hid hd
    clear hd
    by_cases hp : pos < s.size
    · obtain ⟨g, hg1, hg2, hg3⟩ := cpsF_step s f pos hp hf
      have H2 := Lib.hid hg2
      clear hg1 hg2
      have hwd := width_pos s pos hp
      have hin := decode_in s pos hp
      go_wp2_with fail
      refine (one_any s pos _ hs hp).mono ?_
      rintro e w1 ⟨rfl, b1⟩
      have hown1 : IsAll w.heap.size v done w1 := owns_below hown b1
      unfold IsAll at hown1
      have hw0 := hbw.size
      have hw1 := b1.size
      unfold oneV
      go_wp2_with (at_builtin; refine wpList_append_own _ rfl _ _ 91 rfl w.heap.size 95 i0 (.agg #[.int .i32 0, .int .i64 0, .int .i64 0, .bool false]) 4 32 Try.underlying91 hi hz0 hz1 hz2 rfl (by decide) _ _ _ rfl ((hown1.alloc _).alloc _) ⟨w1.heap.size + 1, 0, none⟩ 1 1 (rcells ((Utf8.decode s pos).1, pos, (Utf8.decode s pos).2)) rfl rfl ?c1 ?c2 ?c3 ?c4 ?c5 ?_)
      case c1 => exact news_list (w1.alloc _) (rcells ((Utf8.decode s pos).1, pos, (Utf8.decode s pos).2)) _ _ (by simp)
      case c2 => intro u hu; simp [rcells] at hu; rcases hu with rfl | rfl | rfl | rfl <;> rfl
      case c3 => unfold maxLen; omega
      case c4 => omega
      case c5 => simp; omega
      intro v' w2 hown' hgrow _
      have hx : v.ownBlock ≠ some w1.heap.size := fun e => by
        have := (hown1.lt _ e).2
        omega
      have hcell : w2.cell? ⟨w1.heap.size, 2, none⟩ = some (.int .i64 ((Utf8.decode s pos).2 : Nat)) := by
        have h1 := hgrow.block w1.heap.size (by simp; omega) (fun e => hx e.symm)
        rw [Below.heap_alloc _ _ _ (by simp), heap_alloc_new w1 _] at h1
        rw [blk_cell h1]
        rfl
      go_wp2
      go_roundw
      case rel =>
        refine ⟨v', pos + (Utf8.decode s pos).2, g, done ++ [((Utf8.decode s pos).1, pos, (Utf8.decode s pos).2)], rfl, by go_num, ?_, ?_, ?_, hg3⟩
        · unfold IsAll
          rw [List.length_append, List.flatMap_append]
          simpa using hown'
        · exact ((hbw.trans (b1.mono hw0)).alloc (by omega) _).alloc (by simp; omega) _ |>.grown hgrow (by simp; omega) (fun k hk => (hown1.lt k hk).1)
        · rw [List.append_assoc]
          have := HD.out
          rw [H2.out] at this
          exact this
      case measure => simp [intOf]; omega
    · have hnil : cpsF s f pos = [] := cpsF_end _ _ _ hp
      go_wp2
      go_ret
      refine ⟨v, rfl, ?_, hbw⟩
      have := HD.out
      rw [hnil, List.append_nil] at this
      rw [← this]
      exact hown
end Go.Proofs.Ytafbbojfifcncaa
set_option linter.unusedVariables false
namespace Go.Proofs.Ytafbbojfifcncaa
open Go Go.RowKit

theorem flat_get : ∀ (l : List (Nat × Nat × Nat)) (k j : Nat) (c : Nat × Nat × Nat), l[k]? = some c → j < 4 → (l.flatMap rcells)[k * 4 + j]? = (rcells c)[j]?
  | [], k, j, c, h, _ => by simp at h
  | a :: l, 0, j, c, h, hj => by
    simp at h
    subst h
    rw [List.flatMap_cons, List.getElem?_append_left (by simp [rcells]; omega), Nat.zero_mul, Nat.zero_add]
  | a :: l, k + 1, j, c, h, hj => by
    rw [List.flatMap_cons, List.getElem?_append_right (by simp [rcells]; omega)]
    have : (k + 1) * 4 + j - (rcells a).length = k * 4 + j := by simp [rcells]; omega
    rw [this]
    exact flat_get l k j c (by simpa using h) hj

theorem IsAll.form {B : Nat} {v : Value} {l : List (Nat × Nat × Nat)} {w : World} (h : IsAll B v l w) :
    ∃ (A : Option Addr) (cap : Nat), v = .slice A l.length cap ∧ l.length ≤ cap ∧ cap ≤ maxLen ∧ (l = [] ∨ ∃ g, A = some ⟨g, 0, none⟩ ∧ ∀ k c, l[k]? = some c →
      w.cell? ⟨g, k * 4, none⟩ = some (.int .i32 (c.1 : Nat)) ∧ w.cell? ⟨g, k * 4 + 1, none⟩ = some (.int .i64 (c.2.1 : Nat)) ∧ w.cell? ⟨g, k * 4 + 2, none⟩ = some (.int .i64 (c.2.2 : Nat)) ∧ w.cell? ⟨g, k * 4 + 3, none⟩ = some (.bool (rightB c))) := by
  obtain ⟨h1, h2⟩ := h
  rcases h2 with ⟨rfl, h0⟩ | ⟨g, cap, cur, rfl, hg, hh, hn, hm, hs, ht⟩
  · exact ⟨none, 0, by rw [h0], by omega, by unfold maxLen; omega, .inl (List.eq_nil_of_length_eq_zero h0)⟩
  · refine ⟨_, cap, rfl, hn, hm, .inr ⟨g, rfl, fun k c hk => ?_⟩⟩
    have hkl : k < l.length := (List.getElem?_eq_some_iff.1 hk).1
    have key : ∀ j u, j < 4 → (rcells c)[j]? = some u → w.cell? ⟨g, k * 4 + j, none⟩ = some u := by
      intro j u hj hu
      rw [blk_cell hh, ← hu, ← flat_get l k j c hk hj, ← ht, List.getElem?_take, if_pos (by omega)]
      simp
    exact ⟨key 0 _ (by omega) rfl, key 1 _ (by omega) rfl, key 2 _ (by omega) rfl, key 3 _ (by omega) rfl⟩

/-- Letter, as the document's own answer asks it. -/
def rletter (c : Nat × Nat × Nat) : Bool := rightB c && ((decide (97 ≤ c.1) && decide (c.1 ≤ 122)) || c.1 == 95 || decide (128 ≤ c.1))
theorem rletter_eq (c : Nat × Nat × Nat) : rletter c = letterB c := by
  unfold rletter letterB
  by_cases h : 128 ≤ c.1
  · rw [decide_eq_true h, decide_eq_false (show ¬ c.1 ≤ 122 by omega), beq_eq_false_iff_ne.2 (show c.1 ≠ 95 by omega)]
    simp
  · have hr : rightB c = true := by unfold rightB; rw [beq_eq_false_iff_ne.2 (show c.1 ≠ 65533 by omega)]; rfl
    rw [hr, decide_eq_false h]
    simp

set_option maxHeartbeats 1600000 in
set_option maxRecDepth 100000 in
theorem rletter_any (r p wd : Nat) (w : World) (hr : r ≤ 2147483647) :
    Calls Try.prog 76 #[.agg #[.int .i32 (r : Nat), .int .i64 (p : Nat), .int .i64 (wd : Nat), .bool (rightB (r, p, wd))]] w fun e w' => e = .returned (.bool (letterB (r, p, wd))) ∧ Below w.heap.size w w' := by
  rw [← rletter_eq]
  obtain ⟨rb, hrb⟩ : ∃ b, rightB (r, p, wd) = b := ⟨_, rfl⟩
  have hl : rletter (r, p, wd) = (rb && ((decide (97 ≤ r) && decide (r ≤ 122)) || r == 95 || decide (128 ≤ r))) := by unfold rletter; rw [hrb]
  rw [hrb]
  have HL := Lib.hid hl
  clear hl hrb
  cases rb with
  | false =>
    go_enter Try.func76, Try.ntmps76
    go_wp2
    go_ret
    exact ⟨ret_bool (by rw [HL.out]; rfl), (Below.refl _ _).alloc (Nat.le_refl _) _⟩
  | true =>
    by_cases h128 : (128 : Int) ≤ (r : Int)
    · have f1 : ((r : Int) == 95) = false := by simp; omega
      have hv : rletter (r, p, wd) = true := by rw [HL.out, decide_eq_true (show 128 ≤ r by omega)]; simp
      have HV := Lib.hid hv
      clear hv
      go_enter Try.func76, Try.ntmps76
      go_wp2
      go_ret
      exact ⟨ret_bool HV.out.symm, (Below.refl _ _).alloc (Nat.le_refl _) _⟩
    by_cases h95 : r = 95
    · subst h95
      have hv : rletter (95, p, wd) = true := by rw [HL.out]; rfl
      have HV := Lib.hid hv
      clear hv
      have f1 : (((95 : Nat) : Int) == 95) = true := rfl
      go_enter Try.func76, Try.ntmps76
      go_wp2
      go_ret
      exact ⟨ret_bool HV.out.symm, (Below.refl _ _).alloc (Nat.le_refl _) _⟩
    have f1 : ((r : Int) == 95) = false := by simp; omega
    by_cases h97 : (97 : Int) ≤ (r : Int)
    · by_cases h122 : (r : Int) ≤ 122
      · have hv : rletter (r, p, wd) = true := by rw [HL.out, decide_eq_true (show 97 ≤ r by omega), decide_eq_true (show r ≤ 122 by omega)]; simp
        have HV := Lib.hid hv
        clear hv
        go_enter Try.func76, Try.ntmps76
        go_wp2
        go_ret
        exact ⟨ret_bool HV.out.symm, (Below.refl _ _).alloc (Nat.le_refl _) _⟩
      · have hv : rletter (r, p, wd) = false := by rw [HL.out, decide_eq_false (show ¬ r ≤ 122 by omega), beq_eq_false_iff_ne.2 h95, decide_eq_false (show ¬ 128 ≤ r by omega)]; simp
        have HV := Lib.hid hv
        clear hv
        go_enter Try.func76, Try.ntmps76
        go_wp2
        go_ret
        exact ⟨ret_bool HV.out.symm, (Below.refl _ _).alloc (Nat.le_refl _) _⟩
    · have hv : rletter (r, p, wd) = false := by rw [HL.out, decide_eq_false (show ¬ 97 ≤ r by omega), beq_eq_false_iff_ne.2 h95, decide_eq_false (show ¬ 128 ≤ r by omega)]; simp
      have HV := Lib.hid hv
      clear hv
      go_enter Try.func76, Try.ntmps76
      go_wp2
      go_ret
      exact ⟨ret_bool HV.out.symm, (Below.refl _ _).alloc (Nat.le_refl _) _⟩
end Go.Proofs.Ytafbbojfifcncaa
set_option linter.unusedVariables false
namespace Go.Proofs.Ytafbbojfifcncaa
open Go Go.RowKit

theorem cpsF_bound (s : ByteArray) : ∀ f p c, c ∈ cpsF s f p → c.1 ≤ 2147483647 ∧ c.2.1 < s.size
  | 0, p, c, h => by simp [cpsF] at h
  | f + 1, p, c, h => by
    unfold cpsF at h
    by_cases hp : p < s.size
    · rw [if_pos hp] at h
      rcases List.mem_cons.1 h with h | h
      · rw [h]; exact ⟨decode_le s p, hp⟩
      · exact cpsF_bound s f _ c h
    · rw [if_neg hp] at h; cases h

theorem cpsF_pos (s : ByteArray) : ∀ f p k c, (cpsF s f p)[k]? = some c → p + k ≤ c.2.1 ∧ (k = 0 → c.2.1 = p)
  | 0, p, k, c, h => by simp [cpsF] at h
  | f + 1, p, k, c, h => by
    unfold cpsF at h
    by_cases hp : p < s.size
    · rw [if_pos hp] at h
      have hw := width_pos s p hp
      cases k with
      | zero => simp at h; subst h; simp
      | succ k =>
        have := cpsF_pos s f (p + (Utf8.decode s p).2) k c (by simpa using h)
        omega
    · rw [if_neg hp] at h; simp at h

set_option maxHeartbeats 3200000 in
set_option maxRecDepth 100000 in
theorem rname_any (s : ByteArray) (w : World) (hs : s.size ≤ 1099511627776) :
    Calls Try.prog 50 #[.string s] w fun e w' => e = .returned (.bool (nameB s)) ∧ Below w.heap.size w w' := by
  have hlen := cps_length s
  go_enter Try.func50, Try.ntmps50
  go_wp2_with fail
  refine (all_any s _ hs).mono ?_
  rintro e w1 ⟨v, rfl, ha, b1⟩
  obtain ⟨A, cap, rfl, hcap, hmax, hform⟩ := ha.form
  clear ha
  unfold maxLen at hmax
  have hw1 := b1.size
  go_wp2
  go_loopw [4] (fun i wr => ∃ k : Nat, k ≤ (cps s).length ∧ i = .int .i64 k ∧ Below w1.heap.size w1 wr ∧ ((cps s).take k).all nameCp = true) (fun i _ => (cps s).length - (intOf i).toNat)
  case atStart => exact ⟨0, Nat.zero_le _, rfl, Below.refl _ _, by simp⟩
  case round =>
    obtain ⟨k, hk, rfl, hbw, hall⟩ := hrel
    have HA := Lib.hid hall
    clear hall
    by_cases hlt : k < (cps s).length
    · obtain ⟨g, hA, hcell⟩ : ∃ g, A = some ⟨g, 0, none⟩ ∧ ∀ k c, (cps s)[k]? = some c → w1.cell? ⟨g, k * 4, none⟩ = some (.int .i32 (c.1 : Nat)) ∧ w1.cell? ⟨g, k * 4 + 1, none⟩ = some (.int .i64 (c.2.1 : Nat)) ∧ w1.cell? ⟨g, k * 4 + 2, none⟩ = some (.int .i64 (c.2.2 : Nat)) ∧ w1.cell? ⟨g, k * 4 + 3, none⟩ = some (.bool (rightB c)) := by
        rcases hform with h | h
        · rw [h] at hlt; simp at hlt
        · exact h
      clear hform
      subst hA
      obtain ⟨⟨r, p, wd⟩, hc⟩ : ∃ c, (cps s)[k]? = some c := ⟨_, List.getElem?_eq_getElem hlt⟩
      obtain ⟨hc0, hc1, hc2, hc3⟩ := hcell k _ hc
      have hr := (cpsF_bound s _ _ _ (List.mem_of_getElem? hc)).1
      have hpos := cpsF_pos s _ _ _ _ hc
      simp only at hc0 hc1 hc2 hr hpos
      have hgl : g < w1.heap.size := by
        rcases Nat.lt_or_ge g w1.heap.size with h | h
        · exact h
        · simp [World.cell?, Array.getElem?_eq_none h] at hc0
      have hst : ((cps s).take (k + 1)).all nameCp = nameCp (r, p, wd) := by
        rw [List.take_succ_eq_append_getElem hlt, List.all_append, HA.out, Bool.true_and]
        rw [List.getElem?_eq_getElem hlt] at hc
        injection hc with hc
        simp [hc]
      have hno : nameCp (r, p, wd) = false → nameB s = false := by
        intro h
        unfold nameB
        have : (cps s).all nameCp = false := by
          rw [List.all_eq_false]
          exact ⟨_, List.mem_of_getElem? hc, by rw [h]; decide⟩
        rw [this, Bool.and_false]
      have hne : nameCp (r, p, wd) = (letterB (r, p, wd) || (!(p == 0) && (decide ((48 : Int) ≤ (r : Int)) && decide ((r : Int) ≤ 57)))) := rfl
      have hpk : (p == 0) = ((k : Int) == 0) := by
        rw [Bool.eq_iff_iff]
        simp only [beq_iff_eq]
        constructor
        · intro h; omega
        · intro h; have := hpos.2 (by omega); omega
      rw [hpk] at hne
      have hd0 : wr.cell? ⟨g, k * 4, none⟩ = some (.int .i32 (r : Nat)) := (hbw.cell (p := ⟨g, k * 4, none⟩) hgl).trans hc0
      have hd1 : wr.cell? ⟨g, k * 4 + 1, none⟩ = some (.int .i64 (p : Nat)) := (hbw.cell (p := ⟨g, k * 4 + 1, none⟩) hgl).trans hc1
      have hd2 : wr.cell? ⟨g, k * 4 + 2, none⟩ = some (.int .i64 (wd : Nat)) := (hbw.cell (p := ⟨g, k * 4 + 2, none⟩) hgl).trans hc2
      have hd3 : wr.cell? ⟨g, k * 4 + 3, none⟩ = some (.bool (rightB (r, p, wd))) := (hbw.cell (p := ⟨g, k * 4 + 3, none⟩) hgl).trans hc3
      have HS := Lib.hid hst
      have HN := Lib.hid hno
      have HE := Lib.hid hne
      clear hcell hc hst hno hne hpk hpos hc0 hc1 hc2 hc3
      have hww := hbw.size
      go_wp2_with fail
      refine (rletter_any r p wd _ hr).mono ?_
      rintro e w2 ⟨rfl, b2⟩
      have hf0 : w2.cell? ⟨g, k * 4, none⟩ = some (.int .i32 (r : Nat)) := (b2.cell (p := ⟨g, k * 4, none⟩) (show g < wr.heap.size by omega)).trans hd0
      obtain ⟨lb, hlb⟩ : ∃ b, letterB (r, p, wd) = b := ⟨_, rfl⟩
      rw [hlb]
      have hE2 := HE.out
      rw [hlb] at hE2
      have HE2 := Lib.hid hE2
      clear hlb hE2
      cases lb with
      | true =>
        go_wp2
        go_roundw
        case rel => exact ⟨k + 1, by omega, by go_num, hbw.trans (b2.mono hww), by rw [HS.out, HE2.out]; rfl⟩
        case measure => simp [intOf]; omega
      | false =>
        by_cases h0 : k = 0
        · have hk0 : ((k : Int) == 0) = true := by simpa using h0
          have hf := HN.out (by rw [HE2.out, hk0]; rfl)
          have HF := Lib.hid hf
          clear hf h0
          go_wp2
          go_ret
          exact ⟨ret_bool HF.out.symm, b1.trans ((hbw.trans (b2.mono hww)).mono hw1)⟩
        · have hk0 : ((k : Int) == 0) = false := by simpa using h0
          by_cases h48 : (r : Int) < 48
          · have hf := HN.out (by rw [HE2.out, hk0, decide_eq_false (show ¬ (48 : Int) ≤ (r : Int) by omega)]; rfl)
            have HF := Lib.hid hf
            clear hf h0
            go_wp2
            go_ret
            exact ⟨ret_bool HF.out.symm, b1.trans ((hbw.trans (b2.mono hww)).mono hw1)⟩
          · by_cases h57 : (57 : Int) < (r : Int)
            · have hf := HN.out (by rw [HE2.out, hk0, decide_eq_false (show ¬ (r : Int) ≤ 57 by omega)]; simp)
              have HF := Lib.hid hf
              clear hf h0
              go_wp2
              go_ret
              exact ⟨ret_bool HF.out.symm, b1.trans ((hbw.trans (b2.mono hww)).mono hw1)⟩
            · have HK := Lib.hid hk0
              clear h0
              go_wp2
              go_roundw
              case rel => exact ⟨k + 1, by omega, by go_num, hbw.trans (b2.mono hww), by rw [HS.out, HE2.out, HK.out, decide_eq_true (show (48 : Int) ≤ (r : Int) by omega), decide_eq_true (show (r : Int) ≤ 57 by omega)]; rfl⟩
              case measure => simp [intOf]; omega
    · obtain rfl : k = (cps s).length := by omega
      have hv : nameB s = (decide (1 ≤ s.size) && decide (s.size ≤ 100)) := by
        have := HA.out
        rw [List.take_length] at this
        unfold nameB
        rw [this, Bool.and_true]
      have HV := Lib.hid hv
      clear hv
      by_cases h1 : (1 : Int) ≤ s.size
      · by_cases h2 : (s.size : Int) ≤ 100
        · go_wp2
          go_ret
          exact ⟨ret_bool (by rw [HV.out, decide_eq_true (show 1 ≤ s.size by omega), decide_eq_true (show s.size ≤ 100 by omega)]; rfl), b1.trans (hbw.mono hw1)⟩
        · go_wp2
          go_ret
          exact ⟨ret_bool (by rw [HV.out, decide_eq_false (show ¬ s.size ≤ 100 by omega), Bool.and_false]), b1.trans (hbw.mono hw1)⟩
      · go_wp2
        go_ret
        exact ⟨ret_bool (by rw [HV.out, decide_eq_false (show ¬ 1 ≤ s.size by omega), Bool.false_and]), b1.trans (hbw.mono hw1)⟩

end Go.Proofs.Ytafbbojfifcncaa
set_option linter.unusedVariables false
set_option linter.unusedSimpArgs false
namespace Go.Proofs.Ytafbbojfifcncaa
open Go Go.RowKit

theorem rrstamp_any (n : Int) (w : World) :
    Calls Try.prog 49 #[.int .i64 n] w fun x w' => x = .returned (.bool (stm n)) ∧ w' = w := by
  by_cases h0 : 0 ≤ n
  · by_cases h1 : n ≤ 1099511627776
    · have hv : stm n = true := by unfold stm; rw [decide_eq_true h0, decide_eq_true h1]; rfl
      rw [hv]
      go_enter Try.func49, Try.ntmps49
      go_wp2
      go_ret
      exact ⟨rfl, rfl⟩
    · have hv : stm n = false := by unfold stm; rw [decide_eq_true h0, decide_eq_false h1]; rfl
      rw [hv]
      go_enter Try.func49, Try.ntmps49
      go_wp2
      go_ret
      exact ⟨rfl, rfl⟩
  · have hv : stm n = false := by unfold stm; rw [decide_eq_false h0]; rfl
    rw [hv]
    go_enter Try.func49, Try.ntmps49
    go_wp2
    go_ret
    exact ⟨rfl, rfl⟩
set_option maxHeartbeats 8000000 in
/-- The columns' loop, from the row's box on. -/
theorem rcheckrow_any (k s : ByteArray) (d : Bool) (a e g h : Int) (A : Option Addr) (n c B : Nat) (l : Cols) (w : World) (hr : RdK w B A n l) (hB : B ≤ w.heap.size) (hn : n ≤ 1000000000000) (hf : Few l) (hs : s.size ≤ maxLen) :
    Calls Try.prog 31 #[.agg #[.string k, .string s, .bool d, .int .i64 a, .int .i64 e, .int .i64 g, .int .i64 h, .slice A n c]] w fun x w' => x = .returned (.bool (Ro.ok ⟨k, ⟨s, d, a, e⟩, g, h, l⟩)) ∧ Below w.heap.size w w' := by
  obtain ⟨R, hrr⟩ : ∃ r, Ro.ok ⟨k, ⟨s, d, a, e⟩, g, h, l⟩ = r := ⟨_, rfl⟩
  rw [hrr]
  unfold Ro.ok liveB at hrr
  simp only at hrr
  have hl := hr.1
  obtain ⟨u1, hu1⟩ : ∃ u, decide (k.size ≤ 400) = u := ⟨_, rfl⟩
  have hu1i : decide (400 < k.size) = !u1 := by rw [← hu1]; rw [Bool.eq_iff_iff]; simp
  have hu1j : decide ((400 : Int) < ((k.size : Nat) : Int)) = !u1 := by rw [← hu1i]; simp; omega
  obtain ⟨u2, hu2⟩ : ∃ u, Ce.ok ⟨s, d, a, e⟩ = u := ⟨_, rfl⟩
  obtain ⟨u3, hu3⟩ : ∃ u, stm g = u := ⟨_, rfl⟩
  obtain ⟨u4, hu4⟩ : ∃ u, stm h = u := ⟨_, rfl⟩
  rw [hu1, hu2, hu3, hu4, hl] at hrr
  have RR := Lib.hid hrr; have U2_ := Lib.hid hu2; have U3 := Lib.hid hu3; have U4 := Lib.hid hu4
  have bz := (Below.refl w.heap.size w).alloc (Nat.le_refl _) (.cells #[.string k, .string s, .bool d, .int .i64 a, .int .i64 e, .int .i64 g, .int .i64 h, .slice A n c] 36)
  have ro := RoAt.new w k s d a e g h A n c
  have BZ := Lib.hid bz; have RO_ := Lib.hid ro; have HR0 := Lib.hid (hr.below (bz.mono hB)); have HF := Lib.hid hf; have HL := Lib.hid hl
  clear hrr hu1 hu2 hu3 hu4 bz ro hr hf hl
  obtain ⟨Z, hZ⟩ : ∃ U, U = w.alloc (.cells #[.string k, .string s, .bool d, .int .i64 a, .int .i64 e, .int .i64 g, .int .i64 h, .slice A n c] 36) := ⟨_, rfl⟩
  have hZs : Z.heap.size = w.heap.size + 1 := by rw [hZ]; simp
  rw [← hZ] at BZ RO_ HR0
  have hall0 : ∀ w', Below Z.heap.size Z w' → w'.cell? ⟨w.heap.size, 0, none⟩ = some (.string k) ∧ w'.cell? ⟨w.heap.size, 1, none⟩ = some (.string s) ∧ w'.cell? ⟨w.heap.size, 2, none⟩ = some (.bool d) ∧ w'.cell? ⟨w.heap.size, 3, none⟩ = some (.int .i64 a) ∧ w'.cell? ⟨w.heap.size, 4, none⟩ = some (.int .i64 e) ∧ w'.cell? ⟨w.heap.size, 5, none⟩ = some (.int .i64 g) ∧ w'.cell? ⟨w.heap.size, 6, none⟩ = some (.int .i64 h) ∧ w'.cell? ⟨w.heap.size, 7, none⟩ = some (.slice A n c) := fun w' hb => RO_.out.below hb (by omega)
  have HALL0 := Lib.hid hall0; have HZS := Lib.hid hZs
  obtain ⟨_, _, _, _, _, _, _, _⟩ := hall0 Z (Below.refl _ _)
  clear hall0 hZs
  go_enter Try.func31, Try.ntmps31
  cases u1
  · have hv : R = false := by rw [← RR.out]; rfl
    subst hv
    subst hZ
    go_wp2
    go_ret
    exact ⟨rfl, BZ.out⟩
  · go_wp2_with fail
    rw [← hZ]
    refine (rcheck_any _ _ _ _ _ hs).mono ?_
    rintro x w1 ⟨rfl, b1⟩
    rw [U2_.out]
    have B1 := Lib.hid b1
    obtain ⟨_, _, _, _, _, _, _, _⟩ := HALL0.out _ b1
    clear b1 hZ
    cases u2
    · have hv : R = false := by rw [← RR.out]; rfl
      subst hv
      go_wp2
      go_ret
      exact ⟨rfl, next BZ.out B1.out⟩
    · by_cases hs0 : s = ⟨#[]⟩
      · subst hs0
        cases d
        · go_wp2_with fail
          refine (rrstamp_any _ _).mono ?_
          rintro x w2 ⟨rfl, rfl⟩
          rw [U3.out]
          cases u3
          · have hv : R = false := by rw [← RR.out]; simp
            subst hv
            go_wp2
            go_ret
            exact ⟨rfl, next BZ.out B1.out⟩
          · go_wp2_with fail
            refine (rrstamp_any _ _).mono ?_
            rintro x w2 ⟨rfl, rfl⟩
            rw [U4.out]
            cases u4
            · have hv : R = false := by rw [← RR.out]; simp
              subst hv
              go_wp2
              go_ret
              exact ⟨rfl, next BZ.out B1.out⟩
            · by_cases h8 : n ≤ 8
              · have d0 : decide ((8 : Int) < (n : Nat)) = false := by simp; omega
                have d1 : decide (8 < n) = false := by simp; omega
                have hr : colsB l = R := by rw [← RR.out, decide_eq_true h8, Lib.toList_data]; simp
                have HR := Lib.hid hr
                clear hr
                clear d0 d1
                go_wp2_with fail
                go_loopw [3] (fun i wr => ∃ t : Nat, t ≤ n ∧ i = .int .i64 t ∧ (List.range t).all (goodAt l) = true ∧ Below Z.heap.size Z wr) (fun i _ => n - (intOf i).toNat)
                case atStart => exact ⟨0, Nat.zero_le _, rfl, rfl, B1.out⟩
                case round =>
                  obtain ⟨t, ht, rfl, hg, hb⟩ := hrel
                  have HG := Lib.hid hg; have HB := Lib.hid hb
                  clear hg hb
                  obtain ⟨_, _, _, _, _, _, _, q7⟩ := HALL0.out _ HB.out
                  have Q7 := Lib.hid q7
                  clear q7
                  by_cases hlt : t < n
                  · have i1 : (t : Int) < n := by omega
                    have i0 : (0 : Int) ≤ t := by omega
                    have htl : t < l.length := by rw [HL.out]; exact hlt
                    obtain ⟨g0, o0, rfl, hgB, hc⟩ := (HR0.out.below (HB.out.mono (by have := HZS.out; omega))).2 (by omega)
                    obtain ⟨e0, e1, e2, e3, e4⟩ := hc t htl
                    have hgw : g0 < wr.heap.size := by have := HB.out.size; have := HZS.out; omega
                    obtain ⟨⟨m, ⟨cs, cd, ca, ce⟩⟩, hx⟩ : ∃ x, l[t] = x := ⟨_, rfl⟩
                    have hfm := HF.out l[t] (List.getElem_mem htl)
                    rw [hx] at e0 e1 e2 e3 e4 hfm
                    simp only at e0 e1 e2 e3 e4 hfm
                    obtain ⟨u1, hu1⟩ : ∃ u, nameB m = u := ⟨_, rfl⟩
                    obtain ⟨u2, hu2⟩ : ∃ u, Ce.ok ⟨cs, cd, ca, ce⟩ = u := ⟨_, rfl⟩
                    have U1 := Lib.hid hu1; have U2 := Lib.hid hu2; have FM := Lib.hid hfm; have HX := Lib.hid hx
                    have hz := heap_alloc_new wr (.cells #[.string m, .string cs, .bool cd, .int .i64 ca, .int .i64 ce] 66)
                    have ha := (Below.refl wr.heap.size wr).alloc (Nat.le_refl _) (.cells #[.string m, .string cs, .bool cd, .int .i64 ca, .int .i64 ce] 66)
                    have hbu := HB.out.trans (ha.mono HB.out.size)
                    have hcu := fun j (hj : j < l.length) => (ha.cell (p := ⟨g0, _, none⟩) hgw).trans (hc j hj).1
                    have hqu := (ha.cell (p := ⟨w.heap.size, 7, none⟩) (show w.heap.size < wr.heap.size by have := HB.out.size; have := HZS.out; omega)).trans Q7.out
                    have q7 := Q7.out
                    clear hu1 hu2 hfm hx
                    by_cases hz0 : t = 0
                    · have hga : goodAt l t = (u1 && (u2 && decide (1 ≤ ca))) := by
                        subst hz0
                        rw [good_zero htl, HX.out]
                        unfold colB
                        simp only
                        rw [U1.out, U2.out]
                      have j1 : decide ((0 : Int) < (t : Int)) = false := by simp; omega
                      have j2 : decide (0 < t) = false := by simp; omega
                      clear hz0 hc
                      have HGA := Lib.hid hga
                      clear hga
                      go_wp2_with fail
                      obtain ⟨U, hU⟩ : ∃ U, U = wr.alloc (.cells #[.string m, .string cs, .bool cd, .int .i64 ca, .int .i64 ce] 66) := ⟨_, rfl⟩
                      have hUs : U.heap.size = wr.heap.size + 1 := by rw [hU]; simp
                      rw [← hU] at hz hbu hcu hqu ⊢
                      have hall : ∀ w', Below U.heap.size U w' → (w'.cell? ⟨wr.heap.size, 0, none⟩ = some (.string m) ∧ w'.cell? ⟨wr.heap.size, 0 + 1, none⟩ = some (.string cs) ∧ w'.cell? ⟨wr.heap.size, 0 + 2, none⟩ = some (.bool cd) ∧ w'.cell? ⟨wr.heap.size, 0 + 3, none⟩ = some (.int .i64 ca) ∧ w'.cell? ⟨wr.heap.size, 0 + 4, none⟩ = some (.int .i64 ce)) ∧ w'.cell? ⟨w.heap.size, 7, none⟩ = some (.slice (some ⟨g0, o0, none⟩) n c) ∧ True := fun w' hb => by
                        have hq := (hb.block wr.heap.size (by omega)).trans hz
                        exact ⟨⟨cell_at hq rfl, cell_at hq rfl, cell_at hq rfl, cell_at hq rfl, cell_at hq rfl⟩, (hb.cell (p := ⟨w.heap.size, 7, none⟩) (show w.heap.size < U.heap.size by have := HB.out.size; have := HZS.out; omega)).trans hqu, trivial⟩
                      have HALL := Lib.hid hall; have HBU := Lib.hid (next BZ.out hbu)
                      have HBV := Lib.hid hbu
                      clear hall hz hU ha hbu hcu hqu e0 e1 e2 e3 e4 q7
                      cases u1
                      · refine wp_region_held_drew (S := fun w' => Below U.heap.size U w') (by kernel_rfl) ?_ (fun hHeld => ?_)
                        · exact (Below.refl _ _).drew
                        refine takesH [0, 1] ?_
                        repeat
                          refine takesH_one (v := ?_) ?_ ?_
                          rotate_left
                          · first | (refine Or.inr ⟨by rfl, ?_⟩; with_reducible rfl) | (refine Or.inl ⟨by rfl, ?_⟩; intro wx hSw; (try dsimp only at hSw); first | (go_simp; first | done | with_reducible rfl) | (obtain ⟨⟨_, _, _, _, _⟩, _, _⟩ := HALL.out _ hSw; go_simp; first | done | with_reducible rfl))
                          try simp only [Act.put, List.getElem_toArray, List.getElem_cons_succ, List.getElem_cons_zero, List.setIfInBounds_toArray, List.set_cons_zero, List.set_cons_succ]
                        refine takesH_nil ?_
                        refine wpAnyH_ready (rs := [2]) (by kernel_rfl) (by simp) (AllReadyH.cons rfl (fun K hK => ?_) AllReadyH.nil)
                        go_simp
                        refine (rname_any _ _ FM.out.1).mono ?_
                        rintro x v1 ⟨rfl, b1⟩
                        rw [U1.out]
                        try go_wp2_with fail
                        refine hK.out _ _ ?_ (fun hHeld => ?_)
                        · exact next (by assumption) b1
                        clear hK K
                        try simp only [Act.put, List.getElem_toArray, List.getElem_cons_succ, List.getElem_cons_zero, List.setIfInBounds_toArray, List.set_cons_zero, List.set_cons_succ]
                        refine takesH [3, 4, 5, 6, 7, 8, 9, 10, 11, 12, 13, 14, 15, 16, 17, 18, 19, 20, 21, 22, 23, 24, 25, 26, 27, 28, 29, 30, 31] ?_
                        repeat
                          refine takesH_one (v := ?_) ?_ ?_
                          rotate_left
                          · first | (refine Or.inr ⟨by rfl, ?_⟩; with_reducible rfl) | (refine Or.inl ⟨by rfl, ?_⟩; intro wx hSw; (try dsimp only at hSw); first | (go_simp; first | done | with_reducible rfl))
                          try simp only [Act.put, List.getElem_toArray, List.getElem_cons_succ, List.getElem_cons_zero, List.setIfInBounds_toArray, List.set_cons_zero, List.set_cons_succ]
                        refine takesH_nil ?_
                        refine wpAnyH_done (by kernel_rfl) ?_ _
                        have hv : R = false := by rw [← HR.out]; exact goods_no htl (by rw [HGA.out] <;> simp)
                        subst hv
                        go_wp2
                        go_ret
                        exact ⟨rfl, next HBU.out hHeld⟩
                      · cases u2
                        · refine wp_region_held_drew (S := fun w' => Below U.heap.size U w') (by kernel_rfl) ?_ (fun hHeld => ?_)
                          · exact (Below.refl _ _).drew
                          refine takesH [0, 1] ?_
                          repeat
                            refine takesH_one (v := ?_) ?_ ?_
                            rotate_left
                            · first | (refine Or.inr ⟨by rfl, ?_⟩; with_reducible rfl) | (refine Or.inl ⟨by rfl, ?_⟩; intro wx hSw; (try dsimp only at hSw); first | (go_simp; first | done | with_reducible rfl) | (obtain ⟨⟨_, _, _, _, _⟩, _, _⟩ := HALL.out _ hSw; go_simp; first | done | with_reducible rfl))
                            try simp only [Act.put, List.getElem_toArray, List.getElem_cons_succ, List.getElem_cons_zero, List.setIfInBounds_toArray, List.set_cons_zero, List.set_cons_succ]
                          refine takesH_nil ?_
                          refine wpAnyH_ready (rs := [2]) (by kernel_rfl) (by simp) (AllReadyH.cons rfl (fun K hK => ?_) AllReadyH.nil)
                          go_simp
                          refine (rname_any _ _ FM.out.1).mono ?_
                          rintro x v1 ⟨rfl, b1⟩
                          rw [U1.out]
                          try go_wp2_with fail
                          refine hK.out _ _ ?_ (fun hHeld => ?_)
                          · exact next (by assumption) b1
                          clear hK K
                          try simp only [Act.put, List.getElem_toArray, List.getElem_cons_succ, List.getElem_cons_zero, List.setIfInBounds_toArray, List.set_cons_zero, List.set_cons_succ]
                          refine takesH [3, 4, 5, 6, 7, 8, 9, 10, 11, 12, 13, 14, 15, 16, 17, 18, 19, 20, 21, 22] ?_
                          repeat
                            refine takesH_one (v := ?_) ?_ ?_
                            rotate_left
                            · first | (refine Or.inr ⟨by rfl, ?_⟩; with_reducible rfl) | (refine Or.inl ⟨by rfl, ?_⟩; intro wx hSw; (try dsimp only at hSw); first | (go_simp; first | done | with_reducible rfl) | (obtain ⟨⟨_, _, _, _, _⟩, _, _⟩ := HALL.out _ hSw; go_simp; first | done | with_reducible rfl))
                            try simp only [Act.put, List.getElem_toArray, List.getElem_cons_succ, List.getElem_cons_zero, List.setIfInBounds_toArray, List.set_cons_zero, List.set_cons_succ]
                          refine takesH_nil ?_
                          refine wpAnyH_ready (rs := [23]) (by kernel_rfl) (by simp) (AllReadyH.cons rfl (fun K hK => ?_) AllReadyH.nil)
                          go_simp
                          refine (rcheck_any _ _ _ _ _ FM.out.2).mono ?_
                          rintro x v2 ⟨rfl, b2⟩
                          rw [U2.out]
                          try go_wp2_with fail
                          refine hK.out _ _ ?_ (fun hHeld => ?_)
                          · exact next (by assumption) b2
                          clear hK K
                          try simp only [Act.put, List.getElem_toArray, List.getElem_cons_succ, List.getElem_cons_zero, List.setIfInBounds_toArray, List.set_cons_zero, List.set_cons_succ]
                          refine takesH [24, 25, 26, 27, 28, 29, 30, 31] ?_
                          repeat
                            refine takesH_one (v := ?_) ?_ ?_
                            rotate_left
                            · first | (refine Or.inr ⟨by rfl, ?_⟩; with_reducible rfl) | (refine Or.inl ⟨by rfl, ?_⟩; intro wx hSw; (try dsimp only at hSw); first | (go_simp; first | done | with_reducible rfl))
                            try simp only [Act.put, List.getElem_toArray, List.getElem_cons_succ, List.getElem_cons_zero, List.setIfInBounds_toArray, List.set_cons_zero, List.set_cons_succ]
                          refine takesH_nil ?_
                          refine wpAnyH_done (by kernel_rfl) ?_ _
                          have hv : R = false := by rw [← HR.out]; exact goods_no htl (by rw [HGA.out] <;> simp)
                          subst hv
                          go_wp2
                          go_ret
                          exact ⟨rfl, next HBU.out hHeld⟩
                        · by_cases hca : 1 ≤ ca
                          · have k1 : decide (ca < 1) = false := decide_eq_false (by omega)
                            refine wp_region_held_drew (S := fun w' => Below U.heap.size U w') (by kernel_rfl) ?_ (fun hHeld => ?_)
                            · exact (Below.refl _ _).drew
                            refine takesH [0, 1] ?_
                            repeat
                              refine takesH_one (v := ?_) ?_ ?_
                              rotate_left
                              · first | (refine Or.inr ⟨by rfl, ?_⟩; with_reducible rfl) | (refine Or.inl ⟨by rfl, ?_⟩; intro wx hSw; (try dsimp only at hSw); first | (go_simp; first | done | with_reducible rfl) | (obtain ⟨⟨_, _, _, _, _⟩, _, _⟩ := HALL.out _ hSw; go_simp; first | done | with_reducible rfl))
                              try simp only [Act.put, List.getElem_toArray, List.getElem_cons_succ, List.getElem_cons_zero, List.setIfInBounds_toArray, List.set_cons_zero, List.set_cons_succ]
                            refine takesH_nil ?_
                            refine wpAnyH_ready (rs := [2]) (by kernel_rfl) (by simp) (AllReadyH.cons rfl (fun K hK => ?_) AllReadyH.nil)
                            go_simp
                            refine (rname_any _ _ FM.out.1).mono ?_
                            rintro x v1 ⟨rfl, b1⟩
                            rw [U1.out]
                            try go_wp2_with fail
                            refine hK.out _ _ ?_ (fun hHeld => ?_)
                            · exact next (by assumption) b1
                            clear hK K
                            try simp only [Act.put, List.getElem_toArray, List.getElem_cons_succ, List.getElem_cons_zero, List.setIfInBounds_toArray, List.set_cons_zero, List.set_cons_succ]
                            refine takesH [3, 4, 5, 6, 7, 8, 9, 10, 11, 12, 13, 14, 15, 16, 17, 18, 19, 20, 21, 22] ?_
                            repeat
                              refine takesH_one (v := ?_) ?_ ?_
                              rotate_left
                              · first | (refine Or.inr ⟨by rfl, ?_⟩; with_reducible rfl) | (refine Or.inl ⟨by rfl, ?_⟩; intro wx hSw; (try dsimp only at hSw); first | (go_simp; first | done | with_reducible rfl) | (obtain ⟨⟨_, _, _, _, _⟩, _, _⟩ := HALL.out _ hSw; go_simp; first | done | with_reducible rfl))
                              try simp only [Act.put, List.getElem_toArray, List.getElem_cons_succ, List.getElem_cons_zero, List.setIfInBounds_toArray, List.set_cons_zero, List.set_cons_succ]
                            refine takesH_nil ?_
                            refine wpAnyH_ready (rs := [23]) (by kernel_rfl) (by simp) (AllReadyH.cons rfl (fun K hK => ?_) AllReadyH.nil)
                            go_simp
                            refine (rcheck_any _ _ _ _ _ FM.out.2).mono ?_
                            rintro x v2 ⟨rfl, b2⟩
                            rw [U2.out]
                            try go_wp2_with fail
                            refine hK.out _ _ ?_ (fun hHeld => ?_)
                            · exact next (by assumption) b2
                            clear hK K
                            try simp only [Act.put, List.getElem_toArray, List.getElem_cons_succ, List.getElem_cons_zero, List.setIfInBounds_toArray, List.set_cons_zero, List.set_cons_succ]
                            refine takesH [24, 25, 26, 27, 28, 29, 30, 31] ?_
                            repeat
                              refine takesH_one (v := ?_) ?_ ?_
                              rotate_left
                              · first | (refine Or.inr ⟨by rfl, ?_⟩; with_reducible rfl) | (refine Or.inl ⟨by rfl, ?_⟩; intro wx hSw; (try dsimp only at hSw); first | (go_simp; first | done | with_reducible rfl) | (obtain ⟨⟨_, _, _, _, _⟩, _, _⟩ := HALL.out _ hSw; go_simp; first | done | with_reducible rfl))
                              try simp only [Act.put, List.getElem_toArray, List.getElem_cons_succ, List.getElem_cons_zero, List.setIfInBounds_toArray, List.set_cons_zero, List.set_cons_succ]
                            refine takesH_nil ?_
                            refine wpAnyH_done (by kernel_rfl) ?_ _
                            go_wp2
                            go_roundw
                            case rel => exact ⟨t + 1, by omega, by go_num, goods_step HG.out (by rw [HGA.out, decide_eq_true hca]; rfl), next HBV.out hHeld⟩
                            case measure => simp [intOf]; omega
                          · have k1 : decide (ca < 1) = true := decide_eq_true (by omega)
                            have k2 := decide_eq_false hca
                            have K2 := Lib.hid k2
                            clear k2
                            refine wp_region_held_drew (S := fun w' => Below U.heap.size U w') (by kernel_rfl) ?_ (fun hHeld => ?_)
                            · exact (Below.refl _ _).drew
                            refine takesH [0, 1] ?_
                            repeat
                              refine takesH_one (v := ?_) ?_ ?_
                              rotate_left
                              · first | (refine Or.inr ⟨by rfl, ?_⟩; with_reducible rfl) | (refine Or.inl ⟨by rfl, ?_⟩; intro wx hSw; (try dsimp only at hSw); first | (go_simp; first | done | with_reducible rfl) | (obtain ⟨⟨_, _, _, _, _⟩, _, _⟩ := HALL.out _ hSw; go_simp; first | done | with_reducible rfl))
                              try simp only [Act.put, List.getElem_toArray, List.getElem_cons_succ, List.getElem_cons_zero, List.setIfInBounds_toArray, List.set_cons_zero, List.set_cons_succ]
                            refine takesH_nil ?_
                            refine wpAnyH_ready (rs := [2]) (by kernel_rfl) (by simp) (AllReadyH.cons rfl (fun K hK => ?_) AllReadyH.nil)
                            go_simp
                            refine (rname_any _ _ FM.out.1).mono ?_
                            rintro x v1 ⟨rfl, b1⟩
                            rw [U1.out]
                            try go_wp2_with fail
                            refine hK.out _ _ ?_ (fun hHeld => ?_)
                            · exact next (by assumption) b1
                            clear hK K
                            try simp only [Act.put, List.getElem_toArray, List.getElem_cons_succ, List.getElem_cons_zero, List.setIfInBounds_toArray, List.set_cons_zero, List.set_cons_succ]
                            refine takesH [3, 4, 5, 6, 7, 8, 9, 10, 11, 12, 13, 14, 15, 16, 17, 18, 19, 20, 21, 22] ?_
                            repeat
                              refine takesH_one (v := ?_) ?_ ?_
                              rotate_left
                              · first | (refine Or.inr ⟨by rfl, ?_⟩; with_reducible rfl) | (refine Or.inl ⟨by rfl, ?_⟩; intro wx hSw; (try dsimp only at hSw); first | (go_simp; first | done | with_reducible rfl) | (obtain ⟨⟨_, _, _, _, _⟩, _, _⟩ := HALL.out _ hSw; go_simp; first | done | with_reducible rfl))
                              try simp only [Act.put, List.getElem_toArray, List.getElem_cons_succ, List.getElem_cons_zero, List.setIfInBounds_toArray, List.set_cons_zero, List.set_cons_succ]
                            refine takesH_nil ?_
                            refine wpAnyH_ready (rs := [23]) (by kernel_rfl) (by simp) (AllReadyH.cons rfl (fun K hK => ?_) AllReadyH.nil)
                            go_simp
                            refine (rcheck_any _ _ _ _ _ FM.out.2).mono ?_
                            rintro x v2 ⟨rfl, b2⟩
                            rw [U2.out]
                            try go_wp2_with fail
                            refine hK.out _ _ ?_ (fun hHeld => ?_)
                            · exact next (by assumption) b2
                            clear hK K
                            try simp only [Act.put, List.getElem_toArray, List.getElem_cons_succ, List.getElem_cons_zero, List.setIfInBounds_toArray, List.set_cons_zero, List.set_cons_succ]
                            refine takesH [24, 25, 26, 27, 28, 29, 30, 31] ?_
                            repeat
                              refine takesH_one (v := ?_) ?_ ?_
                              rotate_left
                              · first | (refine Or.inr ⟨by rfl, ?_⟩; with_reducible rfl) | (refine Or.inl ⟨by rfl, ?_⟩; intro wx hSw; (try dsimp only at hSw); first | (go_simp; first | done | with_reducible rfl) | (obtain ⟨⟨_, _, _, _, _⟩, _, _⟩ := HALL.out _ hSw; go_simp; first | done | with_reducible rfl))
                              try simp only [Act.put, List.getElem_toArray, List.getElem_cons_succ, List.getElem_cons_zero, List.setIfInBounds_toArray, List.set_cons_zero, List.set_cons_succ]
                            refine takesH_nil ?_
                            refine wpAnyH_done (by kernel_rfl) ?_ _
                            have hv : R = false := by rw [← HR.out]; exact goods_no htl (by rw [HGA.out, K2.out]; rfl)
                            subst hv
                            go_wp2
                            go_ret
                            exact ⟨rfl, next HBU.out hHeld⟩
                    · obtain ⟨u, hu⟩ : ∃ u, u + 1 = t := ⟨t - 1, by omega⟩
                      have hul : u < l.length := by omega
                      have hsub : IntKind.i64.wrap ((t : Int) - 1) = (u : Int) := by rw [IntKind.wrap_i64]; omega
                      have j1 : (u : Int) < n := by omega
                      have j0 : (0 : Int) ≤ u := by omega
                      have j2 : decide ((0 : Int) < (t : Int)) = true := by simp; omega
                      have j3 : decide (0 < t) = true := by simp; omega
                      have j4 : (0 : Int) < (t : Int) := by omega
                      have j5 : 0 < t := by omega
                      obtain ⟨⟨pm, pc⟩, hy⟩ : ∃ y, l[u] = y := ⟨_, rfl⟩
                      have hcu2 := hcu u hul
                      rw [hy] at hcu2
                      simp only at hcu2
                      have hga : goodAt l t = ((u1 && (u2 && decide (1 ≤ ca))) && decide (nlt pm m)) := by
                        subst hu
                        rw [good_succ htl, HX.out, hy]
                        unfold colB
                        simp only
                        rw [U1.out, U2.out]
                      have HGA := Lib.hid hga
                      clear hga hy hcu hc
                      go_wp2_with fail
                      obtain ⟨U, hU⟩ : ∃ U, U = wr.alloc (.cells #[.string m, .string cs, .bool cd, .int .i64 ca, .int .i64 ce] 66) := ⟨_, rfl⟩
                      have hUs : U.heap.size = wr.heap.size + 1 := by rw [hU]; simp
                      rw [← hU] at hz hbu hcu2 hqu ⊢
                      have hall : ∀ w', Below U.heap.size U w' → (w'.cell? ⟨wr.heap.size, 0, none⟩ = some (.string m) ∧ w'.cell? ⟨wr.heap.size, 0 + 1, none⟩ = some (.string cs) ∧ w'.cell? ⟨wr.heap.size, 0 + 2, none⟩ = some (.bool cd) ∧ w'.cell? ⟨wr.heap.size, 0 + 3, none⟩ = some (.int .i64 ca) ∧ w'.cell? ⟨wr.heap.size, 0 + 4, none⟩ = some (.int .i64 ce)) ∧ w'.cell? ⟨w.heap.size, 7, none⟩ = some (.slice (some ⟨g0, o0, none⟩) n c) ∧ w'.cell? ⟨g0, o0 + u * 5, none⟩ = some (.string pm) := fun w' hb => by
                        have hq := (hb.block wr.heap.size (by omega)).trans hz
                        exact ⟨⟨cell_at hq rfl, cell_at hq rfl, cell_at hq rfl, cell_at hq rfl, cell_at hq rfl⟩, (hb.cell (p := ⟨w.heap.size, 7, none⟩) (show w.heap.size < U.heap.size by have := HB.out.size; have := HZS.out; omega)).trans hqu, (hb.cell (p := ⟨g0, _, none⟩) (show g0 < U.heap.size by omega)).trans hcu2⟩
                      have HALL := Lib.hid hall; have HBU := Lib.hid (next BZ.out hbu); have HU := Lib.hid hu
                      have HBV := Lib.hid hbu
                      clear hall hz hU ha hbu hcu2 hqu hu e0 e1 e2 e3 e4 q7
                      cases u1
                      · refine wp_region_held_drew (S := fun w' => Below U.heap.size U w') (by kernel_rfl) ?_ (fun hHeld => ?_)
                        · exact (Below.refl _ _).drew
                        refine takesH [0, 1] ?_
                        repeat
                          refine takesH_one (v := ?_) ?_ ?_
                          rotate_left
                          · first | (refine Or.inr ⟨by rfl, ?_⟩; with_reducible rfl) | (refine Or.inl ⟨by rfl, ?_⟩; intro wx hSw; (try dsimp only at hSw); first | (go_simp; first | done | with_reducible rfl) | (obtain ⟨⟨_, _, _, _, _⟩, _, _⟩ := HALL.out _ hSw; go_simp; first | done | with_reducible rfl))
                          try simp only [Act.put, List.getElem_toArray, List.getElem_cons_succ, List.getElem_cons_zero, List.setIfInBounds_toArray, List.set_cons_zero, List.set_cons_succ]
                        refine takesH_nil ?_
                        refine wpAnyH_ready (rs := [2]) (by kernel_rfl) (by simp) (AllReadyH.cons rfl (fun K hK => ?_) AllReadyH.nil)
                        go_simp
                        refine (rname_any _ _ FM.out.1).mono ?_
                        rintro x v1 ⟨rfl, b1⟩
                        rw [U1.out]
                        try go_wp2_with fail
                        refine hK.out _ _ ?_ (fun hHeld => ?_)
                        · exact next (by assumption) b1
                        clear hK K
                        try simp only [Act.put, List.getElem_toArray, List.getElem_cons_succ, List.getElem_cons_zero, List.setIfInBounds_toArray, List.set_cons_zero, List.set_cons_succ]
                        refine takesH [3, 4, 5, 6, 7, 8, 9, 10, 11, 12, 13, 14, 15, 16, 17, 18, 19, 20, 21, 22, 23, 24, 25, 26, 27, 28, 29, 30, 31] ?_
                        repeat
                          refine takesH_one (v := ?_) ?_ ?_
                          rotate_left
                          · first | (refine Or.inr ⟨by rfl, ?_⟩; with_reducible rfl) | (refine Or.inl ⟨by rfl, ?_⟩; intro wx hSw; (try dsimp only at hSw); first | (go_simp; first | done | with_reducible rfl))
                          try simp only [Act.put, List.getElem_toArray, List.getElem_cons_succ, List.getElem_cons_zero, List.setIfInBounds_toArray, List.set_cons_zero, List.set_cons_succ]
                        refine takesH_nil ?_
                        refine wpAnyH_done (by kernel_rfl) ?_ _
                        have hv : R = false := by rw [← HR.out]; exact goods_no htl (by rw [HGA.out] <;> simp)
                        subst hv
                        go_wp2
                        go_ret
                        exact ⟨rfl, next HBU.out hHeld⟩
                      · by_cases hp : nlt pm m
                        · have hb1 : Op.bytesLess m.toList pm.toList = false := blB_false fun h => nlt_irr _ (nlt_tr h hp)
                          have hb2 : (m.toList == pm.toList) = false := eqB_false (nlt_ne hp).symm
                          have hb3 : ¬ m.toList = pm.toList := beq_eq_false_iff_ne.1 hb2
                          have hga2 := HGA.out
                          rw [decide_eq_true hp, Bool.and_true] at hga2
                          have HG2 := Lib.hid hga2
                          clear hga2 HGA
                          have HGA := HG2
                          cases u2
                          · refine wp_region_held_drew (S := fun w' => Below U.heap.size U w') (by kernel_rfl) ?_ (fun hHeld => ?_)
                            · exact (Below.refl _ _).drew
                            refine takesH [0, 1] ?_
                            repeat
                              refine takesH_one (v := ?_) ?_ ?_
                              rotate_left
                              · first | (refine Or.inr ⟨by rfl, ?_⟩; with_reducible rfl) | (refine Or.inl ⟨by rfl, ?_⟩; intro wx hSw; (try dsimp only at hSw); first | (go_simp; first | done | with_reducible rfl) | (obtain ⟨⟨_, _, _, _, _⟩, _, _⟩ := HALL.out _ hSw; go_simp; first | done | with_reducible rfl))
                              try simp only [Act.put, List.getElem_toArray, List.getElem_cons_succ, List.getElem_cons_zero, List.setIfInBounds_toArray, List.set_cons_zero, List.set_cons_succ]
                            refine takesH_nil ?_
                            refine wpAnyH_ready (rs := [2]) (by kernel_rfl) (by simp) (AllReadyH.cons rfl (fun K hK => ?_) AllReadyH.nil)
                            go_simp
                            refine (rname_any _ _ FM.out.1).mono ?_
                            rintro x v1 ⟨rfl, b1⟩
                            rw [U1.out]
                            try go_wp2_with fail
                            refine hK.out _ _ ?_ (fun hHeld => ?_)
                            · exact next (by assumption) b1
                            clear hK K
                            try simp only [Act.put, List.getElem_toArray, List.getElem_cons_succ, List.getElem_cons_zero, List.setIfInBounds_toArray, List.set_cons_zero, List.set_cons_succ]
                            refine takesH [3, 4, 5, 6, 7, 8, 9, 10, 11, 12, 13, 14, 15, 16, 17, 18, 19, 20, 21, 22] ?_
                            repeat
                              refine takesH_one (v := ?_) ?_ ?_
                              rotate_left
                              · first | (refine Or.inr ⟨by rfl, ?_⟩; with_reducible rfl) | (refine Or.inl ⟨by rfl, ?_⟩; intro wx hSw; (try dsimp only at hSw); first | (go_simp; first | done | with_reducible rfl) | (obtain ⟨⟨_, _, _, _, _⟩, _, _⟩ := HALL.out _ hSw; go_simp; first | done | with_reducible rfl))
                              try simp only [Act.put, List.getElem_toArray, List.getElem_cons_succ, List.getElem_cons_zero, List.setIfInBounds_toArray, List.set_cons_zero, List.set_cons_succ]
                            refine takesH_nil ?_
                            refine wpAnyH_ready (rs := [23]) (by kernel_rfl) (by simp) (AllReadyH.cons rfl (fun K hK => ?_) AllReadyH.nil)
                            go_simp
                            refine (rcheck_any _ _ _ _ _ FM.out.2).mono ?_
                            rintro x v2 ⟨rfl, b2⟩
                            rw [U2.out]
                            try go_wp2_with fail
                            refine hK.out _ _ ?_ (fun hHeld => ?_)
                            · exact next (by assumption) b2
                            clear hK K
                            try simp only [Act.put, List.getElem_toArray, List.getElem_cons_succ, List.getElem_cons_zero, List.setIfInBounds_toArray, List.set_cons_zero, List.set_cons_succ]
                            refine takesH [24, 25, 26, 27, 28, 29, 30, 31] ?_
                            repeat
                              refine takesH_one (v := ?_) ?_ ?_
                              rotate_left
                              · first | (refine Or.inr ⟨by rfl, ?_⟩; with_reducible rfl) | (refine Or.inl ⟨by rfl, ?_⟩; intro wx hSw; (try dsimp only at hSw); first | (go_simp; first | done | with_reducible rfl))
                              try simp only [Act.put, List.getElem_toArray, List.getElem_cons_succ, List.getElem_cons_zero, List.setIfInBounds_toArray, List.set_cons_zero, List.set_cons_succ]
                            refine takesH_nil ?_
                            refine wpAnyH_done (by kernel_rfl) ?_ _
                            have hv : R = false := by rw [← HR.out]; exact goods_no htl (by rw [HGA.out] <;> simp)
                            subst hv
                            go_wp2
                            go_ret
                            exact ⟨rfl, next HBU.out hHeld⟩
                          · by_cases hca : 1 ≤ ca
                            · have k1 : decide (ca < 1) = false := decide_eq_false (by omega)
                              refine wp_region_held_drew (S := fun w' => Below U.heap.size U w') (by kernel_rfl) ?_ (fun hHeld => ?_)
                              · exact (Below.refl _ _).drew
                              refine takesH [0, 1] ?_
                              repeat
                                refine takesH_one (v := ?_) ?_ ?_
                                rotate_left
                                · first | (refine Or.inr ⟨by rfl, ?_⟩; with_reducible rfl) | (refine Or.inl ⟨by rfl, ?_⟩; intro wx hSw; (try dsimp only at hSw); first | (go_simp; first | done | with_reducible rfl) | (obtain ⟨⟨_, _, _, _, _⟩, _, _⟩ := HALL.out _ hSw; go_simp; first | done | with_reducible rfl))
                                try simp only [Act.put, List.getElem_toArray, List.getElem_cons_succ, List.getElem_cons_zero, List.setIfInBounds_toArray, List.set_cons_zero, List.set_cons_succ]
                              refine takesH_nil ?_
                              refine wpAnyH_ready (rs := [2]) (by kernel_rfl) (by simp) (AllReadyH.cons rfl (fun K hK => ?_) AllReadyH.nil)
                              go_simp
                              refine (rname_any _ _ FM.out.1).mono ?_
                              rintro x v1 ⟨rfl, b1⟩
                              rw [U1.out]
                              try go_wp2_with fail
                              refine hK.out _ _ ?_ (fun hHeld => ?_)
                              · exact next (by assumption) b1
                              clear hK K
                              try simp only [Act.put, List.getElem_toArray, List.getElem_cons_succ, List.getElem_cons_zero, List.setIfInBounds_toArray, List.set_cons_zero, List.set_cons_succ]
                              refine takesH [3, 4, 5, 6, 7, 8, 9, 10, 11, 12, 13, 14, 15, 16, 17, 18, 19, 20, 21, 22] ?_
                              repeat
                                refine takesH_one (v := ?_) ?_ ?_
                                rotate_left
                                · first | (refine Or.inr ⟨by rfl, ?_⟩; with_reducible rfl) | (refine Or.inl ⟨by rfl, ?_⟩; intro wx hSw; (try dsimp only at hSw); first | (go_simp; first | done | with_reducible rfl) | (obtain ⟨⟨_, _, _, _, _⟩, _, _⟩ := HALL.out _ hSw; go_simp; first | done | with_reducible rfl))
                                try simp only [Act.put, List.getElem_toArray, List.getElem_cons_succ, List.getElem_cons_zero, List.setIfInBounds_toArray, List.set_cons_zero, List.set_cons_succ]
                              refine takesH_nil ?_
                              refine wpAnyH_ready (rs := [23]) (by kernel_rfl) (by simp) (AllReadyH.cons rfl (fun K hK => ?_) AllReadyH.nil)
                              go_simp
                              refine (rcheck_any _ _ _ _ _ FM.out.2).mono ?_
                              rintro x v2 ⟨rfl, b2⟩
                              rw [U2.out]
                              try go_wp2_with fail
                              refine hK.out _ _ ?_ (fun hHeld => ?_)
                              · exact next (by assumption) b2
                              clear hK K
                              try simp only [Act.put, List.getElem_toArray, List.getElem_cons_succ, List.getElem_cons_zero, List.setIfInBounds_toArray, List.set_cons_zero, List.set_cons_succ]
                              refine takesH [24, 25, 26, 27, 28, 29, 30, 31] ?_
                              repeat
                                refine takesH_one (v := ?_) ?_ ?_
                                rotate_left
                                · first | (refine Or.inr ⟨by rfl, ?_⟩; with_reducible rfl) | (refine Or.inl ⟨by rfl, ?_⟩; intro wx hSw; (try dsimp only at hSw); first | (go_simp; first | done | with_reducible rfl) | (obtain ⟨⟨_, _, _, _, _⟩, _, _⟩ := HALL.out _ hSw; go_simp; first | done | with_reducible rfl))
                                try simp only [Act.put, List.getElem_toArray, List.getElem_cons_succ, List.getElem_cons_zero, List.setIfInBounds_toArray, List.set_cons_zero, List.set_cons_succ]
                              refine takesH_nil ?_
                              refine wpAnyH_done (by kernel_rfl) ?_ _
                              go_wp2
                              go_roundw
                              case rel => exact ⟨t + 1, by omega, by go_num, goods_step HG.out (by rw [HGA.out, decide_eq_true hca]; rfl), next HBV.out hHeld⟩
                              case measure => simp [intOf]; omega
                            · have k1 : decide (ca < 1) = true := decide_eq_true (by omega)
                              have k2 := decide_eq_false hca
                              have K2 := Lib.hid k2
                              clear k2
                              refine wp_region_held_drew (S := fun w' => Below U.heap.size U w') (by kernel_rfl) ?_ (fun hHeld => ?_)
                              · exact (Below.refl _ _).drew
                              refine takesH [0, 1] ?_
                              repeat
                                refine takesH_one (v := ?_) ?_ ?_
                                rotate_left
                                · first | (refine Or.inr ⟨by rfl, ?_⟩; with_reducible rfl) | (refine Or.inl ⟨by rfl, ?_⟩; intro wx hSw; (try dsimp only at hSw); first | (go_simp; first | done | with_reducible rfl) | (obtain ⟨⟨_, _, _, _, _⟩, _, _⟩ := HALL.out _ hSw; go_simp; first | done | with_reducible rfl))
                                try simp only [Act.put, List.getElem_toArray, List.getElem_cons_succ, List.getElem_cons_zero, List.setIfInBounds_toArray, List.set_cons_zero, List.set_cons_succ]
                              refine takesH_nil ?_
                              refine wpAnyH_ready (rs := [2]) (by kernel_rfl) (by simp) (AllReadyH.cons rfl (fun K hK => ?_) AllReadyH.nil)
                              go_simp
                              refine (rname_any _ _ FM.out.1).mono ?_
                              rintro x v1 ⟨rfl, b1⟩
                              rw [U1.out]
                              try go_wp2_with fail
                              refine hK.out _ _ ?_ (fun hHeld => ?_)
                              · exact next (by assumption) b1
                              clear hK K
                              try simp only [Act.put, List.getElem_toArray, List.getElem_cons_succ, List.getElem_cons_zero, List.setIfInBounds_toArray, List.set_cons_zero, List.set_cons_succ]
                              refine takesH [3, 4, 5, 6, 7, 8, 9, 10, 11, 12, 13, 14, 15, 16, 17, 18, 19, 20, 21, 22] ?_
                              repeat
                                refine takesH_one (v := ?_) ?_ ?_
                                rotate_left
                                · first | (refine Or.inr ⟨by rfl, ?_⟩; with_reducible rfl) | (refine Or.inl ⟨by rfl, ?_⟩; intro wx hSw; (try dsimp only at hSw); first | (go_simp; first | done | with_reducible rfl) | (obtain ⟨⟨_, _, _, _, _⟩, _, _⟩ := HALL.out _ hSw; go_simp; first | done | with_reducible rfl))
                                try simp only [Act.put, List.getElem_toArray, List.getElem_cons_succ, List.getElem_cons_zero, List.setIfInBounds_toArray, List.set_cons_zero, List.set_cons_succ]
                              refine takesH_nil ?_
                              refine wpAnyH_ready (rs := [23]) (by kernel_rfl) (by simp) (AllReadyH.cons rfl (fun K hK => ?_) AllReadyH.nil)
                              go_simp
                              refine (rcheck_any _ _ _ _ _ FM.out.2).mono ?_
                              rintro x v2 ⟨rfl, b2⟩
                              rw [U2.out]
                              try go_wp2_with fail
                              refine hK.out _ _ ?_ (fun hHeld => ?_)
                              · exact next (by assumption) b2
                              clear hK K
                              try simp only [Act.put, List.getElem_toArray, List.getElem_cons_succ, List.getElem_cons_zero, List.setIfInBounds_toArray, List.set_cons_zero, List.set_cons_succ]
                              refine takesH [24, 25, 26, 27, 28, 29, 30, 31] ?_
                              repeat
                                refine takesH_one (v := ?_) ?_ ?_
                                rotate_left
                                · first | (refine Or.inr ⟨by rfl, ?_⟩; with_reducible rfl) | (refine Or.inl ⟨by rfl, ?_⟩; intro wx hSw; (try dsimp only at hSw); first | (go_simp; first | done | with_reducible rfl) | (obtain ⟨⟨_, _, _, _, _⟩, _, _⟩ := HALL.out _ hSw; go_simp; first | done | with_reducible rfl))
                                try simp only [Act.put, List.getElem_toArray, List.getElem_cons_succ, List.getElem_cons_zero, List.setIfInBounds_toArray, List.set_cons_zero, List.set_cons_succ]
                              refine takesH_nil ?_
                              refine wpAnyH_done (by kernel_rfl) ?_ _
                              have hv : R = false := by rw [← HR.out]; exact goods_no htl (by rw [HGA.out, K2.out]; rfl)
                              subst hv
                              go_wp2
                              go_ret
                              exact ⟨rfl, next HBU.out hHeld⟩
                        · have hga2 := HGA.out
                          rw [decide_eq_false hp, Bool.and_false] at hga2
                          have HG2 := Lib.hid hga2
                          clear hga2 HGA
                          have HGA := HG2
                          rcases (nlt_or pm m).resolve_left hp with hp2 | hp2
                          · subst hp2
                            refine wp_region_held_drew (S := fun w' => Below U.heap.size U w') (by kernel_rfl) ?_ (fun hHeld => ?_)
                            · exact (Below.refl _ _).drew
                            refine takesH [0, 1] ?_
                            repeat
                              refine takesH_one (v := ?_) ?_ ?_
                              rotate_left
                              · first | (refine Or.inr ⟨by rfl, ?_⟩; with_reducible rfl) | (refine Or.inl ⟨by rfl, ?_⟩; intro wx hSw; (try dsimp only at hSw); first | (go_simp; first | done | with_reducible rfl) | (obtain ⟨⟨_, _, _, _, _⟩, _, _⟩ := HALL.out _ hSw; go_simp; first | done | with_reducible rfl))
                              try simp only [Act.put, List.getElem_toArray, List.getElem_cons_succ, List.getElem_cons_zero, List.setIfInBounds_toArray, List.set_cons_zero, List.set_cons_succ]
                            refine takesH_nil ?_
                            refine wpAnyH_ready (rs := [2]) (by kernel_rfl) (by simp) (AllReadyH.cons rfl (fun K hK => ?_) AllReadyH.nil)
                            go_simp
                            refine (rname_any _ _ FM.out.1).mono ?_
                            rintro x v1 ⟨rfl, b1⟩
                            rw [U1.out]
                            try go_wp2_with fail
                            refine hK.out _ _ ?_ (fun hHeld => ?_)
                            · exact next (by assumption) b1
                            clear hK K
                            try simp only [Act.put, List.getElem_toArray, List.getElem_cons_succ, List.getElem_cons_zero, List.setIfInBounds_toArray, List.set_cons_zero, List.set_cons_succ]
                            refine takesH [3, 4, 5, 6, 7, 8, 9, 10, 11, 12, 13, 14, 15, 16, 17, 18, 19, 20, 21, 22, 23, 24, 25, 26, 27, 28, 29, 30, 31] ?_
                            repeat
                              refine takesH_one (v := ?_) ?_ ?_
                              rotate_left
                              · first | (refine Or.inr ⟨by rfl, ?_⟩; with_reducible rfl) | (refine Or.inl ⟨by rfl, ?_⟩; intro wx hSw; (try dsimp only at hSw); first | (go_simp; first | done | with_reducible rfl) | (obtain ⟨⟨_, _, _, _, _⟩, _, _⟩ := HALL.out _ hSw; go_simp; first | done | with_reducible rfl))
                              try simp only [Act.put, List.getElem_toArray, List.getElem_cons_succ, List.getElem_cons_zero, List.setIfInBounds_toArray, List.set_cons_zero, List.set_cons_succ]
                            refine takesH_nil ?_
                            refine wpAnyH_done (by kernel_rfl) ?_ _
                            have hv : R = false := by rw [← HR.out]; exact goods_no htl (by rw [HGA.out] <;> simp)
                            subst hv
                            go_wp2
                            go_ret
                            exact ⟨rfl, next HBU.out hHeld⟩
                          · have hb1 : Op.bytesLess m.toList pm.toList = true := blB_true hp2
                            refine wp_region_held_drew (S := fun w' => Below U.heap.size U w') (by kernel_rfl) ?_ (fun hHeld => ?_)
                            · exact (Below.refl _ _).drew
                            refine takesH [0, 1] ?_
                            repeat
                              refine takesH_one (v := ?_) ?_ ?_
                              rotate_left
                              · first | (refine Or.inr ⟨by rfl, ?_⟩; with_reducible rfl) | (refine Or.inl ⟨by rfl, ?_⟩; intro wx hSw; (try dsimp only at hSw); first | (go_simp; first | done | with_reducible rfl) | (obtain ⟨⟨_, _, _, _, _⟩, _, _⟩ := HALL.out _ hSw; go_simp; first | done | with_reducible rfl))
                              try simp only [Act.put, List.getElem_toArray, List.getElem_cons_succ, List.getElem_cons_zero, List.setIfInBounds_toArray, List.set_cons_zero, List.set_cons_succ]
                            refine takesH_nil ?_
                            refine wpAnyH_ready (rs := [2]) (by kernel_rfl) (by simp) (AllReadyH.cons rfl (fun K hK => ?_) AllReadyH.nil)
                            go_simp
                            refine (rname_any _ _ FM.out.1).mono ?_
                            rintro x v1 ⟨rfl, b1⟩
                            rw [U1.out]
                            try go_wp2_with fail
                            refine hK.out _ _ ?_ (fun hHeld => ?_)
                            · exact next (by assumption) b1
                            clear hK K
                            try simp only [Act.put, List.getElem_toArray, List.getElem_cons_succ, List.getElem_cons_zero, List.setIfInBounds_toArray, List.set_cons_zero, List.set_cons_succ]
                            refine takesH [3, 4, 5, 6, 7, 8, 9, 10, 11, 12, 13, 14, 15, 16, 17, 18, 19, 20, 21, 22, 23, 24, 25, 26, 27, 28, 29, 30, 31] ?_
                            repeat
                              refine takesH_one (v := ?_) ?_ ?_
                              rotate_left
                              · first | (refine Or.inr ⟨by rfl, ?_⟩; with_reducible rfl) | (refine Or.inl ⟨by rfl, ?_⟩; intro wx hSw; (try dsimp only at hSw); first | (go_simp; first | done | with_reducible rfl) | (obtain ⟨⟨_, _, _, _, _⟩, _, _⟩ := HALL.out _ hSw; go_simp; first | done | with_reducible rfl))
                              try simp only [Act.put, List.getElem_toArray, List.getElem_cons_succ, List.getElem_cons_zero, List.setIfInBounds_toArray, List.set_cons_zero, List.set_cons_succ]
                            refine takesH_nil ?_
                            refine wpAnyH_done (by kernel_rfl) ?_ _
                            have hv : R = false := by rw [← HR.out]; exact goods_no htl (by rw [HGA.out] <;> simp)
                            subst hv
                            go_wp2
                            go_ret
                            exact ⟨rfl, next HBU.out hHeld⟩
                  · obtain rfl : t = n := by omega
                    have hv : R = true := by rw [← HR.out]; unfold colsB; rw [HL.out]; exact HG.out
                    subst hv
                    have q7 := Q7.out
                    have d0 : decide ((t : Int) < (t : Int)) = false := by simp
                    go_wp2
                    go_ret
                    exact ⟨rfl, next BZ.out HB.out⟩
              · have d0 : decide ((8 : Int) < (n : Nat)) = true := by simp; omega
                have d1 : decide (8 < n) = true := by simp; omega
                have hv : R = false := by rw [← RR.out, decide_eq_false h8]; simp
                subst hv
                go_wp2
                go_ret
                exact ⟨rfl, next BZ.out B1.out⟩
        · have hv : R = false := by rw [← RR.out]; simp
          subst hv
          go_wp2
          go_ret
          exact ⟨rfl, next BZ.out B1.out⟩
      · have hs1 : s.toList ≠ [] := fun h => hs0 (by
          cases s with
          | mk b => rw [Lib.toList_data] at h; congr 1; exact Array.toList_inj.1 (by simpa using h))
        have hs2 : (s.toList == []) = false := beq_eq_false_iff_ne.2 hs1
        have hs3 : s.toList.isEmpty = false := by rw [Bool.eq_false_iff]; exact fun h => hs1 (List.isEmpty_iff.1 h)
        have hv : R = false := by rw [← RR.out, hs3]; rfl
        subst hv
        clear hs3
        go_wp2
        go_ret
        exact ⟨rfl, next BZ.out B1.out⟩
end Go.Proofs.Ytafbbojfifcncaa
set_option linter.unusedVariables false
set_option linter.unusedSimpArgs false
namespace Go.Proofs.Ytafbbojfifcncaa
open Go Go.RowKit

theorem rcheck_ro (R : Ro) (A : Option Addr) (c B : Nat) (w : World) (h : RoIn w B R A c) (hB : B ≤ w.heap.size) (hn : R.cols.length ≤ 1000) (hf : Few R.cols) (hs : R.live.s.size ≤ maxLen) :
    Calls Try.prog 31 #[R.val A c] w fun x w' => x = .returned (.bool R.ok) ∧ Below w.heap.size w w' :=
  rcheckrow_any R.key R.live.s R.live.d R.live.a R.live.e R.gone R.shade A R.cols.length c B R.cols w h.rd hB (by omega) hf hs
theorem rjoin_ro (R R' X : Ro) (A A' : Option Addr) (c c' B B' : Nat) (w : World) (h : RoIn w B R A c) (h' : RoIn w B' R' A' c') (hB : B ≤ w.heap.size) (hB' : B' ≤ w.heap.size) (hn : R.cols.length + R'.cols.length ≤ 1000) (hX : R.join R' = X) :
    Calls Try.prog 60 #[R.val A c, R'.val A' c'] w fun x w' => ∃ Aj cj, x = .returned (X.val Aj cj) ∧ Cur w w' (.slice Aj X.cols.length cj) X.cols := by
  subst hX
  refine (rjoinrow_any R.key R.live.s R'.key R'.live.s R.live.d R'.live.d R.live.a R.live.e R.gone R.shade R'.live.a R'.live.e R'.gone R'.shade A A' R.cols.length c R'.cols.length c' B B' R.cols R'.cols w h.rd h'.rd hB hB' h.cap h'.cap hn).mono ?_
  rintro x w' ⟨js, jd, ja, je, Aj, cj, hj, rfl, hc⟩
  refine ⟨Aj, cj, ?_, hc⟩
  have hj' : R.live.join R'.live = ⟨js, jd, ja, je⟩ := hj
  unfold Ro.val Ro.join
  simp only
  rw [hj']
theorem rsame_ro (R R' : Ro) (A A' : Option Addr) (c c' B B' : Nat) (w : World) (h : RoIn w B R A c) (h' : RoIn w B' R' A' c') (hB : B ≤ w.heap.size) (hB' : B' ≤ w.heap.size) (hn : R.cols.length ≤ 1000) (hn' : R'.cols.length ≤ 1000) :
    Calls Try.prog 41 #[R.val A c, R'.val A' c'] w fun x w' => x = .returned (.bool (R.same R')) ∧ Below w.heap.size w w' :=
  rsamerow_any R.key R.live.s R'.key R'.live.s R.live.d R'.live.d R.live.a R.live.e R.gone R.shade R'.live.a R'.live.e R'.gone R'.shade A A' R.cols.length c R'.cols.length c' B B' R.cols R'.cols w h.rd h'.rd hB hB' (by omega) (by omega)
def fewC (x : ByteArray × Ce) : Bool := decide (x.1.size ≤ 300) && decide (x.2.s.size ≤ 300)
def fewB (R : Ro) : Bool := decide (R.key.size ≤ 1000) && (decide (R.cols.length ≤ 20) && (decide (R.live.s.size ≤ 1000) && R.cols.all fewC))
structure Ro.IsFew (R : Ro) : Prop where
  key : R.key.size ≤ 1000
  len : R.cols.length ≤ 20
  live : R.live.s.size ≤ 1000
  cols : ∀ x ∈ R.cols, x.1.size ≤ 300 ∧ x.2.s.size ≤ 300
theorem few_of {R : Ro} (h : fewB R = true) : R.IsFew := by
  unfold fewB at h
  rw [Bool.and_eq_true, Bool.and_eq_true, Bool.and_eq_true, decide_eq_true_iff, decide_eq_true_iff, decide_eq_true_iff, List.all_eq_true] at h
  refine ⟨h.1, h.2.1, h.2.2.1, fun x hx => ?_⟩
  have h1 := h.2.2.2 x hx
  unfold fewC at h1
  rw [Bool.and_eq_true, decide_eq_true_iff, decide_eq_true_iff] at h1
  exact h1
theorem Ro.IsFew.few {R : Ro} (h : R.IsFew) : Few R.cols := fun x hx => by
  have h1 := h.cols x hx
  refine ⟨by omega, by unfold maxLen; omega⟩

set_option maxHeartbeats 4000000 in
theorem fewrow_ro (R : Ro) (A : Option Addr) (c B : Nat) (w : World) (hi : RoIn w B R A c) (hB : B ≤ w.heap.size) :
    Calls Try.prog 28 #[R.val A c] w fun x w' => x = .returned (.bool (fewB R)) ∧ Below w.heap.size w w' := by
  obtain ⟨k, ⟨s, d, a, e⟩, g, h, l⟩ := R
  unfold Ro.val
  simp only
  obtain ⟨r, hrr⟩ : ∃ r, fewB ⟨k, ⟨s, d, a, e⟩, g, h, l⟩ = r := ⟨_, rfl⟩
  rw [hrr]
  unfold fewB at hrr
  simp only at hrr
  obtain ⟨n, hn⟩ : ∃ n, l.length = n := ⟨_, rfl⟩
  have hr := hi.rd
  simp only at hr
  rw [hn] at hrr hr ⊢
  have RR := Lib.hid hrr; have HN := Lib.hid hn
  have bz := (Below.refl w.heap.size w).alloc (Nat.le_refl _) (.cells #[.string k, .string s, .bool d, .int .i64 a, .int .i64 e, .int .i64 g, .int .i64 h, .slice A n c] 36)
  have ro := RoAt.new w k s d a e g h A n c
  have BZ := Lib.hid bz; have RO_ := Lib.hid ro; have HR0 := Lib.hid (hr.below (bz.mono hB))
  clear hrr bz ro hr hi hn
  obtain ⟨Z, hZ⟩ : ∃ U, U = w.alloc (.cells #[.string k, .string s, .bool d, .int .i64 a, .int .i64 e, .int .i64 g, .int .i64 h, .slice A n c] 36) := ⟨_, rfl⟩
  have hZs : Z.heap.size = w.heap.size + 1 := by rw [hZ]; simp
  rw [← hZ] at BZ RO_ HR0
  obtain ⟨_, _, _, _, _, _, _, _⟩ := RO_.out
  have HZS := Lib.hid hZs
  clear hZs
  go_enter Try.func28, Try.ntmps28
  by_cases h1 : k.size ≤ 1000
  · have x1 : decide (1000 < k.size) = false := decide_eq_false (by omega)
    have y1 : decide ((1000 : Int) < ((k.size : Nat) : Int)) = false := decide_eq_false (by omega)
    by_cases h2 : n ≤ 20
    · have x2 : decide (20 < n) = false := decide_eq_false (by omega)
      have y2 : decide ((20 : Int) < (n : Int)) = false := decide_eq_false (by omega)
      by_cases h3 : s.size ≤ 1000
      · have x3 : decide (1000 < s.size) = false := decide_eq_false (by omega)
        have y3 : decide ((1000 : Int) < ((s.size : Nat) : Int)) = false := decide_eq_false (by omega)
        have hr2 : l.all fewC = r := by rw [← RR.out, decide_eq_true h1, decide_eq_true h2, decide_eq_true h3]; rfl
        have HR2 := Lib.hid hr2
        clear hr2
        go_wp2_with fail
        rw [← hZ]
        clear hZ
        go_loopw [3] (fun i wr => ∃ t : Nat, t ≤ n ∧ i = .int .i64 t ∧ (l.take t).all fewC = true ∧ wr = Z) (fun i _ => n - (intOf i).toNat)
        case atStart => exact ⟨0, Nat.zero_le _, rfl, rfl, rfl⟩
        case round =>
          obtain ⟨t, ht, rfl, hg, rfl⟩ := hrel
          have HG := Lib.hid hg
          clear hg
          by_cases hlt : t < n
          · have i1 : (t : Int) < n := by omega
            have i0 : (0 : Int) ≤ t := by omega
            have htl : t < l.length := by rw [HN.out]; exact hlt
            obtain ⟨g0, o0, rfl, hgB, hc⟩ := HR0.out.2 (by omega)
            obtain ⟨e0, e1, e2, e3, e4⟩ := hc t htl
            clear hc
            obtain ⟨⟨m, ⟨cs, cd, ca, ce⟩⟩, hx⟩ : ∃ x, l[t] = x := ⟨_, rfl⟩
            rw [hx] at e0 e1 e2 e3 e4
            simp only at e0 e1 e2 e3 e4
            have htk : l.take (t + 1) = l.take t ++ [(m, ⟨cs, cd, ca, ce⟩)] := by rw [List.take_succ_eq_append_getElem htl, hx]
            have hmem : (m, (⟨cs, cd, ca, ce⟩ : Ce)) ∈ l := by rw [← hx]; exact List.getElem_mem htl
            have HTK := Lib.hid htk; have HMEM := Lib.hid hmem
            clear htk hmem hx
            by_cases h4 : m.size ≤ 300
            · have x4 : decide (300 < m.size) = false := decide_eq_false (by omega)
              have y4 : decide ((300 : Int) < ((m.size : Nat) : Int)) = false := decide_eq_false (by omega)
              by_cases h5 : cs.size ≤ 300
              · have x5 : decide (300 < cs.size) = false := decide_eq_false (by omega)
                have y5 : decide ((300 : Int) < ((cs.size : Nat) : Int)) = false := decide_eq_false (by omega)
                go_wp2
                go_roundw
                case rel =>
                  refine ⟨t + 1, by omega, by go_num, ?_, by first | rfl | trivial⟩
                  rw [HTK.out, List.all_append, HG.out]
                  simp [fewC, h4, h5]
                case measure => simp [intOf]; omega
              · have hv : r = false := by
                  rw [← HR2.out, List.all_eq_false]
                  exact ⟨_, HMEM.out, by simp [fewC]; omega⟩
                subst hv
                go_wp2
                go_ret
                exact ⟨rfl, BZ.out⟩
            · have hv : r = false := by
                rw [← HR2.out, List.all_eq_false]
                exact ⟨_, HMEM.out, by simp [fewC]; omega⟩
              subst hv
              go_wp2
              go_ret
              exact ⟨rfl, BZ.out⟩
          · obtain rfl : t = n := by omega
            have d0 : decide ((t : Int) < (t : Int)) = false := by simp
            have hv : r = true := by
              rw [← HR2.out, ← HG.out, List.take_of_length_le (by rw [HN.out]; exact Nat.le_refl _)]
            subst hv
            go_wp2
            go_ret
            exact ⟨rfl, BZ.out⟩
      · have hv : r = false := by rw [← RR.out, decide_eq_false h3]; simp
        subst hv
        subst hZ
        go_wp2
        go_ret
        exact ⟨rfl, BZ.out⟩
    · have hv : r = false := by rw [← RR.out, decide_eq_false h2]; simp
      subst hv
      subst hZ
      go_wp2
      go_ret
      exact ⟨rfl, BZ.out⟩
  · have hv : r = false := by rw [← RR.out, decide_eq_false h1]; simp
    subst hv
    subst hZ
    go_wp2
    go_ret
    exact ⟨rfl, BZ.out⟩
end Go.Proofs.Ytafbbojfifcncaa
set_option linter.unusedVariables false
set_option linter.unusedSimpArgs false
namespace Go.Proofs.Ytafbbojfifcncaa
open Go Go.RowKit

def fewPB (k : ByteArray) (m : Nat) (l : List Ro) : Bool := decide (k.size ≤ 300) && (decide (l.length ≤ m) && l.all fewB)
theorem fewrow_ra (x : RA) (B : Nat) (w : World) (h : RaIn w B x) (hB : B ≤ w.heap.size) :
    Calls Try.prog 28 #[.agg #[.string x.ro.key, .string x.ro.live.s, .bool x.ro.live.d, .int .i64 x.ro.live.a, .int .i64 x.ro.live.e, .int .i64 x.ro.gone, .int .i64 x.ro.shade, .slice x.A x.ro.cols.length x.c]] w fun e w' => e = .returned (.bool (fewB x.ro)) ∧ Below w.heap.size w w' := fewrow_ro x.ro x.A x.c B w h hB
set_option maxRecDepth 8000 in
set_option maxHeartbeats 8000000 in
theorem fewpart_any (k : ByteArray) (g : Int) (A : Option Addr) (n c B m : Nat) (L : List RA) (w : World) (h : Lies w B A n c L) (hB : B ≤ w.heap.size) (hm : m ≤ 1000000) :
    Calls Try.prog 8 #[.agg #[.string k, .int .i64 g, .slice A n c], .int .i64 m] w fun x w' => x = .returned (.bool (fewPB k m (ros L))) ∧ Below w.heap.size w w' := by
  obtain ⟨r, hrr⟩ : ∃ r, fewPB k m (ros L) = r := ⟨_, rfl⟩
  rw [hrr]
  unfold fewPB at hrr
  rw [List.length_map, h.len] at hrr
  have hl := h.len
  have bz := (Below.refl w.heap.size w).alloc (Nat.le_refl _) (.cells #[.string k, .int .i64 g, .slice A n c] 24)
  have hz := heap_alloc_new w (.cells #[.string k, .int .i64 g, .slice A n c] 24)
  obtain ⟨V, hV⟩ : ∃ V, V = w.alloc (.cells #[.string k, .int .i64 g, .slice A n c] 24) := ⟨_, rfl⟩
  have hVs : V.heap.size = w.heap.size + 1 := by rw [hV]; simp
  rw [← hV] at bz hz
  have HL := Lib.hid hl; have HH := Lib.hid (h.below (bz.mono hB)); have BZ := Lib.hid bz; have RR := Lib.hid hrr; have HZ := Lib.hid hz; have HVS := Lib.hid hVs
  obtain ⟨_, _, _⟩ := PtAt.of hz
  clear hrr bz hz h hl hVs
  go_enter Try.func8, Try.ntmps8
  by_cases h1 : k.size ≤ 300
  · have x1 : decide (300 < k.size) = false := decide_eq_false (by omega)
    have y1 : decide ((300 : Int) < ((k.size : Nat) : Int)) = false := decide_eq_false (by omega)
    by_cases h4 : n ≤ m
    · have x4 : decide (m < n) = false := decide_eq_false (by omega)
      have y4 : decide ((m : Int) < (n : Int)) = false := decide_eq_false (by omega)
      have hr2 : (ros L).all fewB = r := by rw [← RR.out, decide_eq_true h1, decide_eq_true h4]; rfl
      have HR := Lib.hid hr2
      clear hr2
      go_wp2_with fail
      rw [← hV]
      clear hV
      clear h1 x1 y1 x4 y4
      go_loopw [5] (fun i wr => ∃ t : Nat, t ≤ n ∧ i = .int .i64 t ∧ (ros (L.take t)).all fewB = true ∧ Below V.heap.size V wr) (fun i _ => n - (intOf i).toNat)
      case atStart => exact ⟨0, Nat.zero_le _, rfl, rfl, Below.refl _ _⟩
      case round =>
        obtain ⟨t, ht, rfl, hg, hb⟩ := hrel
        have HG := Lib.hid hg; have HB := Lib.hid hb
        obtain ⟨_, _, _⟩ := PtAt.of ((hb.block w.heap.size (by have := HVS.out; omega)).trans HZ.out)
        clear hg hb
        by_cases hlt : t < n
        · have i1 : (t : Int) < n := by omega
          have i0 : (0 : Int) ≤ t := by omega
          have htl : t < L.length := by rw [HL.out]; exact hlt
          obtain ⟨g0, o0, rfl, hgB⟩ := HH.out.rd.ex (by omega)
          have hlies := HH.out.below (HB.out.mono (by have := HVS.out; omega))
          have htk := ros_take htl
          have hmem : L[t].ro ∈ ros L := List.mem_map.2 ⟨_, List.getElem_mem htl, rfl⟩
          obtain ⟨x, hx⟩ : ∃ x, L[t] = x := ⟨_, rfl⟩
          have hrow := hlies.rd.row htl
          have hin := hlies.held L[t] (List.getElem_mem htl)
          rw [hx] at hrow hin htk hmem
          obtain ⟨u1, hu1⟩ : ∃ u, fewB x.ro = u := ⟨_, rfl⟩
          have U1 := Lib.hid hu1; have HIN := Lib.hid hin; have HTK := Lib.hid htk; have HMEM := Lib.hid hmem
          obtain ⟨_, _, _, _, _, _, _, _⟩ := hrow
          clear hu1 hx hin htk hmem
          go_wp2_with fail
          refine (fewrow_ra x B _ HIN.out (by have := HVS.out; have := HB.out.size; omega)).mono ?_
          rintro e w1 ⟨rfl, b1⟩
          rw [U1.out]
          have B1 := Lib.hid (next HB.out b1)
          clear b1
          cases u1
          · have hv : r = false := by
              rw [← HR.out, List.all_eq_false]
              exact ⟨_, HMEM.out, by rw [U1.out]; decide⟩
            subst hv
            go_wp2
            go_ret
            exact ⟨rfl, next BZ.out B1.out⟩
          · go_wp2
            go_roundw
            case rel => exact ⟨t + 1, by omega, by go_num, by rw [HTK.out, List.all_append, HG.out]; simp [U1.out], B1.out⟩
            case measure => simp [intOf]; omega
        · obtain rfl : t = n := by omega
          have hv : r = true := by rw [← HR.out, ← HG.out, List.take_of_length_le (by rw [HL.out]; exact Nat.le_refl _)]
          subst hv
          go_wp2
          go_ret
          exact ⟨rfl, next BZ.out HB.out⟩
    · have x4 : decide (m < n) = true := decide_eq_true (by omega)
      have y4 : decide ((m : Int) < (n : Int)) = true := decide_eq_true (by omega)
      have hv : r = false := by rw [← RR.out, decide_eq_false h4]; simp
      subst hv
      subst hV
      go_wp2
      go_ret
      exact ⟨rfl, BZ.out⟩
  · have x1 : decide (300 < k.size) = true := decide_eq_true (by omega)
    have y1 : decide ((300 : Int) < ((k.size : Nat) : Int)) = true := decide_eq_true (by omega)
    have hv : r = false := by rw [← RR.out, decide_eq_false h1]; rfl
    subst hv
    subst hV
    go_wp2
    go_ret
    exact ⟨rfl, BZ.out⟩
end Go.Proofs.Ytafbbojfifcncaa
set_option linter.unusedVariables false
set_option linter.unusedSimpArgs false
namespace Go.Proofs.Ytafbbojfifcncaa
open Go Go.RowKit

/-- The merge under way. -/
structure MSt (w wr : World) (B B' : Nat) (R : List Ro) (A1 A2 : Option Addr) (n1 n2 c1 c2 : Nat) (la lb M : List RA) (vm : Value) : Prop where
  a : Lies w B A1 n1 c1 la
  b : Lies w B' A2 n2 c2 lb
  sum : M.length + (n1 + n2) ≤ 1000
  run : runK Ro.key Ro.join (ros M) (ros la) (ros lb) = R
  ua : ∀ x ∈ la, x.ro.Up
  ub : ∀ x ∈ lb, x.ro.Up
  um : ∀ x ∈ M, x.ro.Up
  tt : tot M + (tot la + tot lb) ≤ 1000
  own : Own w wr vm M
/-- .. with x taken off a list. -/
structure MPd (w : World) (B B' : Nat) (R : List Ro) (A1 A2 : Option Addr) (n1 n2 c1 c2 : Nat) (la lb M : List RA) (x : RA) : Prop where
  a : Lies w B A1 n1 c1 la
  b : Lies w B' A2 n2 c2 lb
  sum : M.length + 1 + (n1 + n2) ≤ 1000
  run : runK Ro.key Ro.join (pushK Ro.key Ro.join (ros M) x.ro) (ros la) (ros lb) = R
  ua : ∀ x ∈ la, x.ro.Up
  ub : ∀ x ∈ lb, x.ro.Up
  um : ∀ x ∈ M, x.ro.Up
  ux : x.ro.Up
  tt : tot M + x.ro.cols.length + (tot la + tot lb) ≤ 1000
section
variable {w wr w' : World} {B B' : Nat} {R : List Ro} {A1 A2 : Option Addr} {n1 n2 c1 c2 : Nat} {la lb M L : List RA} {vm v' : Value} {x y z : RA}
theorem MPd.app (h : MPd w B B' R A1 A2 n1 n2 c1 c2 la lb M x) (hp : pushK Ro.key Ro.join (ros M) x.ro = ros M ++ [x.ro]) (ho : Own w w' v' (M ++ [x])) : MSt w w' B B' R A1 A2 n1 n2 c1 c2 la lb (M ++ [x]) v' where
  a := h.a
  b := h.b
  sum := by have := h.sum; simp; omega
  run := by have := h.run; rw [hp] at this; simpa [ros] using this
  ua := h.ua
  ub := h.ub
  um := fun y hy => by
    rcases List.mem_append.1 hy with h1 | h1
    · exact h.um y h1
    · rw [List.mem_singleton.1 h1]; exact h.ux
  tt := by have := h.tt; rw [tot_app, tot_cons, tot_nil]; omega
  own := ho
theorem MPd.put (h : MPd w B B' R A1 A2 n1 n2 c1 c2 la lb M x) (hM : M = L ++ [y]) (hk : y.ro.key = x.ro.key) (hz : z.ro = y.ro.join x.ro) (ho : Own w w' v' (M.set L.length z)) : MSt w w' B B' R A1 A2 n1 n2 c1 c2 la lb (L ++ [z]) v' where
  a := h.a
  b := h.b
  sum := by have := h.sum; rw [hM] at this; simp at this ⊢; omega
  run := by
    have := h.run
    rw [hM, show ros (L ++ [y]) = ros L ++ [y.ro] by simp [ros], pushK_last, if_pos hk] at this
    rw [show ros (L ++ [z]) = ros L ++ [z.ro] by simp [ros], hz]
    exact this
  ua := h.ua
  ub := h.ub
  um := fun t ht => by
    rcases List.mem_append.1 ht with h1 | h1
    · exact h.um t (by rw [hM]; exact List.mem_append_left _ h1)
    · rw [List.mem_singleton.1 h1, hz]; exact (h.um y (by rw [hM]; simp)).join h.ux
  tt := by
    have := h.tt
    rw [hM, tot_app, tot_cons, tot_nil] at this
    rw [tot_app, tot_cons, tot_nil, hz]
    have := len_join y.ro x.ro
    omega
  own := by
    have e : M.set L.length z = L ++ [z] := by rw [hM]; simp
    rw [← e]
    exact ho
theorem MSt.takeA (h : MSt w wr B B' R A1 A2 n1 n2 c1 c2 (x :: la) lb M vm) (A1' : Option Addr) (ha : Lies w B A1' (n1 - 1) (c1 - 1) la) (hr : runK Ro.key Ro.join (pushK Ro.key Ro.join (ros M) x.ro) (ros la) (ros lb) = R) : MPd w B B' R A1' A2 (n1 - 1) n2 (c1 - 1) c2 la lb M x where
  a := ha
  b := h.b
  sum := by have := h.sum; have := h.a.len; simp at this; omega
  run := hr
  ua := fun y hy => h.ua y (List.mem_cons_of_mem _ hy)
  ub := h.ub
  um := h.um
  ux := h.ua x (List.mem_cons_self ..)
  tt := by have := h.tt; rw [tot_cons] at this; omega
theorem MSt.takeB (h : MSt w wr B B' R A1 A2 n1 n2 c1 c2 la (x :: lb) M vm) (A2' : Option Addr) (ha : Lies w B' A2' (n2 - 1) (c2 - 1) lb) (hr : runK Ro.key Ro.join (pushK Ro.key Ro.join (ros M) x.ro) (ros la) (ros lb) = R) : MPd w B B' R A1 A2' n1 (n2 - 1) c1 (c2 - 1) la lb M x where
  a := h.a
  b := ha
  sum := by have := h.sum; have := h.b.len; simp at this; omega
  run := hr
  ua := h.ua
  ub := fun y hy => h.ub y (List.mem_cons_of_mem _ hy)
  um := h.um
  ux := h.ub x (List.mem_cons_self ..)
  tt := by have := h.tt; rw [tot_cons] at this; omega
end

theorem heap_drew (w : World) : w.drew.heap = w.heap := rfl
set_option maxRecDepth 8000 in
set_option maxHeartbeats 32000000 in
theorem mergeR_any (A A' : Option Addr) (n n' c c' B B' : Nat) (la0 lb0 : List RA) (w : World) (h : Lies w B A n c la0) (h' : Lies w B' A' n' c' lb0) (hB : B ≤ w.heap.size) (hB' : B' ≤ w.heap.size) (hn : n + n' ≤ 1000)
    (hu : ∀ x ∈ la0, x.ro.Up) (hu' : ∀ x ∈ lb0, x.ro.Up) (ht : tot la0 + tot lb0 ≤ 1000) :
    Calls Try.prog 35 #[.slice A n c, .slice A' n' c', .func (.func 36) #[] #[], .func (.func 37) #[] #[]] w fun e w' => ∃ v M, e = .returned v ∧ ros M = runK Ro.key Ro.join [] (ros la0) (ros lb0) ∧ Own w w' v M := by
  obtain ⟨R, hR⟩ : ∃ R, runK Ro.key Ro.join [] (ros la0) (ros lb0) = R := ⟨_, rfl⟩
  rw [hR]
  have hadd : IntKind.i64.wrap ((n : Int) + (n' : Int)) = ((n + n' : Nat) : Int) := by rw [IntKind.wrap_i64]; push_cast; omega
  have hadd2 : wrap64 ((n : Int) + (n' : Int)) = ((n + n' : Nat) : Int) := by unfold wrap64; push_cast; omega
  have hmk := fun wx : World => run_makeR0 wx (n + n') (by omega)
  have hcm := own_madeR w (n + n') (by omega)
  have hst : ∀ wr v, Own w wr v [] → MSt w wr B B' R A A' n n' c c' la0 lb0 [] v := fun wr v ho => ⟨h, h', by simpa using hn, hR, hu, hu', fun x hx => (by cases hx), by rw [tot_nil]; omega, ho⟩
  have HCM := Lib.hid hcm; have HST := Lib.hid hst
  have HBB := Lib.hid hB; have HBB' := Lib.hid hB'
  obtain ⟨N, hN⟩ : ∃ N, N = n + n' := ⟨_, rfl⟩
  rw [← hN] at hadd hadd2 hmk HCM
  clear hR h h' hcm hn hu hu' ht hst hN hB hB'
  go_enter Try.func35, Try.ntmps35
  go_wp2
  obtain ⟨W1, hW1⟩ : ∃ W1, W1 = w.alloc (.cells (madeCells #[.string ⟨#[]⟩, .string ⟨#[]⟩, .bool false, .int .i64 0, .int .i64 0, .int .i64 0, .int .i64 0, .slice none 0 0] (N * 8)) 36) := ⟨_, rfl⟩
  rw [← hW1] at HCM ⊢
  clear hW1 hmk hadd hadd2
  go_loopw [0, 1, 9] (fun va vb vm wr => ∃ (A1 A2 : Option Addr) (n1 n2 c1 c2 : Nat) (la lb M : List RA), va = .slice A1 n1 c1 ∧ vb = .slice A2 n2 c2 ∧ MSt w wr B B' R A1 A2 n1 n2 c1 c2 la lb M vm) (fun va vb _ _ => lenS va + lenS vb)
  case atStart => exact ⟨A, A', n, n', c, c', la0, lb0, [], rfl, rfl, HST.out _ _ HCM.out⟩
  case round =>
    obtain ⟨A1, A2, n1, n2, c1, c2, la, lb, M, rfl, rfl, hms⟩ := hrel
    obtain ⟨A0, c0, rfl, _⟩ := hms.own.slice
    have hcur := hms.own
    obtain ⟨m, hm⟩ : ∃ m, M.length = m := ⟨_, rfl⟩
    have hsum := hms.sum
    rw [hm] at hsum hcur ⊢
    have HM := Lib.hid hm
    have l1 := hms.a.len
    have l2 := hms.b.len
    have W1_ := Lib.hid (show IntKind.i64.wrap ((n1 : Int) + (n2 : Int)) = (n1 : Int) + n2 by rw [IntKind.wrap_i64]; omega)
    have W2_ := Lib.hid (show wrap64 ((n1 : Int) + (n2 : Int)) = (n1 : Int) + n2 by unfold wrap64; omega)
    have HMS := Lib.hid hms; have HCUR := Lib.hid hcur; have L1 := Lib.hid l1; have L2 := Lib.hid l2
    have hws := hcur.below.size
    clear hms hcur l1 l2 hm
    by_cases h0 : n1 + n2 = 0
    · have d0 : decide ((0 : Int) < (n1 : Int) + (n2 : Int)) = false := by simp; omega
      have d1 : decide (0 < n1 + n2) = false := by simp; omega
      have d2 : decide ((0 : Int) < ((n1 + n2 : Nat) : Int)) = false := by simp; omega
      have d3 : ¬ (0 < n1 + n2) := by omega
      have d4 : ¬ ((0 : Int) < (n1 : Int) + (n2 : Int)) := by omega
      have hf : ros M = R := by
        have e1 : la = [] := List.eq_nil_of_length_eq_zero (by rw [L1.out]; omega)
        have e2 : lb = [] := List.eq_nil_of_length_eq_zero (by rw [L2.out]; omega)
        rw [← HMS.out.run, e1, e2]
        exact (runK_nil _).symm
      have HF := Lib.hid hf
      have w1 := W1_.out
      have w2 := W2_.out
      clear hf h0
      go_wp2
      go_ret
      first | exact ⟨_, M, rfl, HF.out, HCUR.out⟩ | exact ⟨_, rfl, M, HF.out, HCUR.out⟩
    · have d0 : decide ((0 : Int) < (n1 : Int) + (n2 : Int)) = true := by simp; omega
      have d1 : decide (0 < n1 + n2) = true := by simp; omega
      have d2 : decide ((0 : Int) < ((n1 + n2 : Nat) : Int)) = true := by simp; omega
      have d3 : 0 < n1 + n2 := by omega
      have d4 : (0 : Int) < (n1 : Int) + (n2 : Int) := by omega
      have hz := heap_alloc_new wr (.cells #[.string ⟨#[]⟩, .string ⟨#[]⟩, .bool false, .int .i64 0, .int .i64 0, .int .i64 0, .int .i64 0, .slice none 0 0] 36)
      have ha := (Below.refl wr.heap.size wr).alloc (Nat.le_refl _) (.cells #[.string ⟨#[]⟩, .string ⟨#[]⟩, .bool false, .int .i64 0, .int .i64 0, .int .i64 0, .int .i64 0, .slice none 0 0] 36)
      have HZ := Lib.hid hz; have HAL := Lib.hid ha; have H0 := Lib.hid h0; have HWS := Lib.hid hws
      clear hz ha h0 hws
      obtain ⟨U, hU⟩ : ∃ U, U = wr.alloc (.cells #[.string ⟨#[]⟩, .string ⟨#[]⟩, .bool false, .int .i64 0, .int .i64 0, .int .i64 0, .int .i64 0, .slice none 0 0] 36) := ⟨_, rfl⟩
      have hUs : U.heap.size = wr.heap.size + 1 := by rw [hU]; simp
      have HUS := Lib.hid hUs
      rw [← hU] at HZ HAL
      clear hUs
      by_cases e2 : n2 = 0
      · have hpos : 0 < n1 := by omega
        obtain ⟨x, la', rfl⟩ : ∃ x la', la = x :: la' := by
          match la, L1.out with
          | [], h => simp at h; omega
          | x :: la', _ => exact ⟨x, la', rfl⟩
        have hlb : lb = [] := List.eq_nil_of_length_eq_zero (by rw [L2.out]; exact e2)
        have hrun2 : runK Ro.key Ro.join (pushK Ro.key Ro.join (ros M) x.ro) (ros la') (ros lb) = R := by have := HMS.out.run; rw [hlb] at this ⊢; rw [← this]; exact (runK_a _ _ _).symm
        have q1 : ((n2 : Int) == 0) = true := by rw [beq_iff_eq]; omega
        have q2 : (n2 == 0) = true := by rw [beq_iff_eq]; omega
        have d0 : decide ((0 : Int) < (n1 : Int) + (n2 : Int)) = true := by simp; omega
        have d1 : decide (0 < n1 + n2) = true := by simp; omega
        have i1 : (0 : Int) < n1 := by omega
        obtain ⟨A1', hsl, hla'⟩ := HMS.out.a.tail
        have MP := Lib.hid (HMS.out.takeA A1' hla' hrun2)
        have hxin := HMS.out.a.held x (List.mem_cons_self ..)
        have XIN0 : Hid (RaIn w w.heap.size x) := Lib.hid (hxin.up HBB.out)
        have XIN : Hid (RaIn wr wr.heap.size x) := Lib.hid ((hxin.below (HCUR.out.below.mono HBB.out)).up (Nat.le_trans HBB.out HWS.out))
        obtain ⟨g1, o1, rfl, hgB⟩ := HMS.out.a.rd.ex hpos
        have hc0 := (HMS.out.a.below (HCUR.out.below.mono HBB.out)).head
        have hgw : g1 < wr.heap.size := by have := HWS.out; have := HBB.out; omega
        have hall : ∀ w', Below U.heap.size U w' → RowAt w' g1 o1 x := fun w' hb => hc0.below (HAL.out.trans (hb.mono (by have := HUS.out; omega))) hgw
        have HALLW := Lib.hid (fun w' (hb2 : Below wr.heap.size wr w') => hc0.below hb2 hgw)
        have HALL := Lib.hid hall
        have w1 := W1_.out
        have w2 := W2_.out
        clear hlb hrun2 hla' hc0 hall e2 hxin
        go_wp2_with fail
        rw [← hU]
        clear hU
        refine wp_region_held_drew (S := fun w' => Below U.heap.size U w') (by kernel_rfl) ?_ (fun hHeld => ?_)
        · exact (Below.refl _ _).drew
        refine takesH [0, 1, 2, 3, 4, 5, 6, 7, 8, 9, 10, 11, 12, 13, 14, 15, 16, 17, 18] ?_
        repeat
          refine takesH_one (v := ?_) ?_ ?_
          rotate_left
          · first | (refine Or.inr ⟨by rfl, ?_⟩; with_reducible rfl) | (refine Or.inl ⟨by rfl, ?_⟩; intro wx hSw; (try dsimp only at hSw); first | (go_simp; first | done | with_reducible rfl))
          try simp only [Act.put, List.getElem_toArray, List.getElem_cons_succ, List.getElem_cons_zero, List.setIfInBounds_toArray, List.set_cons_zero, List.set_cons_succ]
        refine takesH_nil ?_
        refine wpAnyH_done (by kernel_rfl) ?_ _
        clear w1 w2
        have hlow : Below U.heap.size U U := (Below.refl _ _)
        obtain ⟨_, _, _, _, _, _, _, _⟩ := HALL.out _ hlow
        have hq := (hlow.block wr.heap.size (by have := HUS.out; omega)).trans HZ.out
        have z0 := cell_at (i := 0) hq rfl
        have z1 := cell_at (i := 1) hq rfl
        have z2 := cell_at (i := 2) hq rfl
        have z3 := cell_at (i := 3) hq rfl
        have z4 := cell_at (i := 4) hq rfl
        have z5 := cell_at (i := 5) hq rfl
        have z6 := cell_at (i := 6) hq rfl
        have z7 := cell_at (i := 7) hq rfl
        have y0 := thawed_at (i := 0) hq
        have y1 := thawed_at (i := 1) hq
        have y2 := thawed_at (i := 2) hq
        have y3 := thawed_at (i := 3) hq
        have y4 := thawed_at (i := 4) hq
        have y5 := thawed_at (i := 5) hq
        have y6 := thawed_at (i := 6) hq
        have y7 := thawed_at (i := 7) hq
        have HQ4_ := Lib.hid (set8_block hq x)
        have HB4_ := Lib.hid (below_set80 (HAL.out.trans (hlow.mono (by have := HUS.out; omega))) (Nat.le_refl wr.heap.size) x)
        clear hq
        have HLOW := Lib.hid (HAL.out.trans (hlow.mono (by have := HUS.out; omega)))
        go_wp2_with fail
        refine wp_region_held_drew (S := fun w' => Below wr.heap.size wr w') (by kernel_rfl) ?_ (fun hHeld => ?_)
        · exact HLOW.out.drew.drew
        refine takesH [0, 1, 2, 3, 4] ?_
        repeat
          refine takesH_one (v := ?_) ?_ ?_
          rotate_left
          · first | (refine Or.inr ⟨by rfl, ?_⟩; with_reducible rfl) | (refine Or.inl ⟨by rfl, ?_⟩; intro wx hSw; (try dsimp only at hSw); first | (go_simp; first | done | with_reducible rfl) | (obtain ⟨_, _, _, _, _, _, _, _⟩ := HALLW.out _ hSw; go_simp; first | done | with_reducible rfl))
          try simp only [Act.put, List.getElem_toArray, List.getElem_cons_succ, List.getElem_cons_zero, List.setIfInBounds_toArray, List.set_cons_zero, List.set_cons_succ]
        refine takesH_nil ?_
        refine wpAnyH_ready (rs := [5]) (by kernel_rfl) (by simp) (AllReadyH.cons rfl (fun K hK => ?_) AllReadyH.nil)
        go_simp
        refine hK.out _ _ ?_ (fun hHeld => ?_)
        · exact HB4_.out.drew.drew
        clear hK K
        try simp only [Act.put, List.getElem_toArray, List.getElem_cons_succ, List.getElem_cons_zero, List.setIfInBounds_toArray, List.set_cons_zero, List.set_cons_succ]
        refine takesH [6] ?_
        repeat
          refine takesH_one (v := ?_) ?_ ?_
          rotate_left
          · first | (refine Or.inr ⟨by rfl, ?_⟩; with_reducible rfl) | (refine Or.inl ⟨by rfl, ?_⟩; intro wx hSw; (try dsimp only at hSw); first | (go_simp; first | done | with_reducible rfl))
          try simp only [Act.put, List.getElem_toArray, List.getElem_cons_succ, List.getElem_cons_zero, List.setIfInBounds_toArray, List.set_cons_zero, List.set_cons_succ]
        refine takesH_nil ?_
        refine wpAnyH_done (by kernel_rfl) ?_ _
        obtain ⟨w4, hw4⟩ : ∃ w4, w4 = ((World.setCell (World.setCell (World.setCell (World.setCell (World.setCell (World.setCell (World.setCell (World.setCell (U) ⟨wr.heap.size, 0, none⟩ (.string x.ro.key)) ⟨wr.heap.size, 1, none⟩ (.string x.ro.live.s)) ⟨wr.heap.size, 2, none⟩ (.bool x.ro.live.d)) ⟨wr.heap.size, 3, none⟩ (.int .i64 x.ro.live.a)) ⟨wr.heap.size, 4, none⟩ (.int .i64 x.ro.live.e)) ⟨wr.heap.size, 5, none⟩ (.int .i64 x.ro.gone)) ⟨wr.heap.size, 6, none⟩ (.int .i64 x.ro.shade)) ⟨wr.heap.size, 7, none⟩ (.slice x.A x.ro.cols.length x.c))).drew.drew := ⟨_, rfl⟩
        rw [← hw4]
        have HQ4 : Hid (w4.heap[wr.heap.size]? = some (.cells #[.string x.ro.key, .string x.ro.live.s, .bool x.ro.live.d, .int .i64 x.ro.live.a, .int .i64 x.ro.live.e, .int .i64 x.ro.gone, .int .i64 x.ro.shade, .slice x.A x.ro.cols.length x.c] 36)) := Lib.hid (by rw [hw4]; simp only [heap_drew]; exact HQ4_.out)
        have HB4 : Hid (Below wr.heap.size wr w4) := Lib.hid (by rw [hw4]; exact HB4_.out.drew.drew)
        clear hw4 HQ4_ HB4_ z0 z1 z2 z3 z4 z5 z6 z7 y0 y1 y2 y3 y4 y5 y6 y7
        have HCV := Lib.hid (HCUR.out.on HB4.out)
        have HS4 := Lib.hid HB4.out.size
        have HX4 := Lib.hid (XIN.out.below HB4.out)
        rcases List.eq_nil_or_concat M with hM | ⟨L, y, hM⟩
        · have hp : pushK Ro.key Ro.join (ros M) x.ro = ros M ++ [x.ro] := by rw [hM]; rfl
          have hm0 : m = 0 := by rw [← HM.out, hM]; rfl
          have S1 := Lib.hid (show IntKind.i64.wrap ((m : Int) - 1) = -1 by rw [IntKind.wrap_i64]; omega)
          have S2 := Lib.hid (show wrap64 ((m : Int) - 1) = -1 by unfold wrap64; omega)
          have HP := Lib.hid hp
          have hall4 : ∀ w', Below w4.heap.size w4 w' → BlkAt w' wr.heap.size x := fun w' hb => BlkAt.of ((hb.block wr.heap.size (Array.getElem?_eq_some_iff.1 HQ4.out).1).trans HQ4.out)
          have HALL4 := Lib.hid hall4
          have s1 := S1.out
          have s2 := S2.out
          clear hm0 hM hp hall4
          go_wp2_with fail
          refine wp_region_held_drew (S := fun w' => Below w4.heap.size w4 w') (by kernel_rfl) ?_ (fun hHeld => ?_)
          · exact (Below.refl _ _).drew
          refine takesH [0, 1, 2, 3, 4, 5, 6, 7, 8, 9, 10, 11] ?_
          repeat
            refine takesH_one (v := ?_) ?_ ?_
            rotate_left
            · first | (refine Or.inr ⟨by rfl, ?_⟩; with_reducible rfl) | (refine Or.inl ⟨by rfl, ?_⟩; intro wx hSw; (try dsimp only at hSw); first | (go_simp; first | done | with_reducible rfl))
            try simp only [Act.put, List.getElem_toArray, List.getElem_cons_succ, List.getElem_cons_zero, List.setIfInBounds_toArray, List.set_cons_zero, List.set_cons_succ]
          refine takesH_nil ?_
          refine wpAnyH_done (by kernel_rfl) ?_ _
          have hl8 : Below w4.heap.size w4 w4.drew := (Below.refl _ _).drew
          generalize w4.drew = w8 at hl8 ⊢
          obtain ⟨_, _, _, _, _, _, _, _⟩ := HALL4.out _ hl8
          clear s1 s2
          have hcw := (HCV.out.on hl8).on ((Below.refl _ _).alloc (Nat.le_refl _) (.cells #[.string x.ro.key, .string x.ro.live.s, .bool x.ro.live.d, .int .i64 x.ro.live.a, .int .i64 x.ro.live.e, .int .i64 x.ro.gone, .int .i64 x.ro.shade, .slice x.A x.ro.cols.length x.c] 36))
          have hk1 := RdR.laid w8 x
          have hsx : Safe w (w8) x := Or.inl XIN0.out
          have HCW := Lib.hid hcw; have HK1 := Lib.hid hk1; have HSX := Lib.hid (hsx.on ((Below.refl _ _).alloc (Nat.le_refl _) (.cells #[.string x.ro.key, .string x.ro.live.s, .bool x.ro.live.d, .int .i64 x.ro.live.a, .int .i64 x.ro.live.e, .int .i64 x.ro.gone, .int .i64 x.ro.shade, .slice x.A x.ro.cols.length x.c] 36)))
          clear hcw hk1 hl8 hsx
          go_wp2_with (at_builtin; refine list_ex rfl (.tmp 78) (.tmp 80) _ _ rfl (.slice A0 m c0) (.slice (some ⟨(w8).heap.size, 0, none⟩) 1 1) rfl rfl (run_appR w.heap.size (HM.out ▸ HCW.out.cur.own) HK1.out ?s1 ?s2) ?_)
          case s1 => have h9 := HM.out; have h8 := MP.out.sum; (try simp at h9); (try simp); omega
          case s2 => simpa using HCW.out.below.size
          intro v3 w3 ho3 hg3 hloc3
          obtain ⟨A3, m3, c3, rfl, hm3, hc3⟩ := HCW.out.app (k := [x]) (fun y hy => by rw [List.mem_singleton.1 hy]; exact HSX.out) ho3 hg3
          have HC3 := Lib.hid (MP.out.app HP.out hc3)
          clear hc3 ho3 hg3 hloc3
          go_wp2
          go_roundw
          case rel => exact ⟨_, _, _, _, _, _, _, _, _, rfl, rfl, HC3.out⟩
          case measure => simp [lenS]; omega
        · rw [List.concat_eq_append] at hM
          have HMM := Lib.hid hM
          clear hM
          obtain ⟨u, hu⟩ : ∃ u, L.length = u := ⟨_, rfl⟩
          have hm1 : m = u + 1 := by rw [← HM.out, HMM.out, ← hu]; simp
          have hul : u < M.length := by have := HM.out; omega
          have hMu : M[u] = y := by simp [HMM.out, ← hu]
          have S1 := Lib.hid (show IntKind.i64.wrap ((m : Int) - 1) = (u : Int) by rw [IntKind.wrap_i64]; omega)
          have S2 := Lib.hid (show wrap64 ((m : Int) - 1) = (u : Int) by unfold wrap64; omega)
          obtain ⟨g5, rfl, hg5, hg5', hy5, hf5⟩ := HCV.out.row hul
          rw [hMu] at hy5
          have hall4 : ∀ w', Below w4.heap.size w4 w' → RowAt w' g5 (u * 8) y ∧ BlkAt w' wr.heap.size x := fun w' hb =>
            ⟨hy5.below hb hg5', BlkAt.of ((hb.block wr.heap.size (Array.getElem?_eq_some_iff.1 HQ4.out).1).trans HQ4.out)⟩
          have HALL4 := Lib.hid hall4
          have hysafe := HCV.out.safe y (by rw [HMM.out]; simp)
          have HY4 := Lib.hid (hysafe.ra HCV.out.below)
          have i5 : (u : Int) < m := by omega
          have i6 : (0 : Int) ≤ u := by omega
          have i7 : decide ((0 : Int) ≤ (u : Int)) = true := by simp
          have HU := Lib.hid hu; have HM1 := Lib.hid hm1; have HUL := Lib.hid hul
          clear hall4 hu hm1 hy5 hf5 hul hMu hysafe
          by_cases hn : y.ro.key = x.ro.key
          · have t0 : (tcmp y.ro.key x.ro.key == 0) = true := by rw [beq_iff_eq]; exact tcmp_zero.2 hn
            have HN2 := Lib.hid hn
            have s1 := S1.out
            have s2 := S2.out
            clear hn
            go_wp2_with fail
            refine wp_region_held_drew (S := fun w' => Below w4.heap.size w4 w') (by kernel_rfl) ?_ (fun hHeld => ?_)
            · exact (Below.refl _ _).drew
            refine takesH [0, 1, 2, 3, 4, 5, 6, 7, 8] ?_
            repeat
              refine takesH_one (v := ?_) ?_ ?_
              rotate_left
              · first | (refine Or.inr ⟨by rfl, ?_⟩; with_reducible rfl) | (refine Or.inl ⟨by rfl, ?_⟩; intro wx hSw; (try dsimp only at hSw); first | (go_simp; first | done | with_reducible rfl) | (obtain ⟨⟨_, _, _, _, _, _, _, _⟩, _, _, _, _, _, _, _, _⟩ := HALL4.out _ hSw; go_simp; first | done | with_reducible rfl))
              try simp only [Act.put, List.getElem_toArray, List.getElem_cons_succ, List.getElem_cons_zero, List.setIfInBounds_toArray, List.set_cons_zero, List.set_cons_succ]
            refine takesH_nil ?_
            refine wpAnyH_ready (rs := [9]) (by kernel_rfl) (by simp) (AllReadyH.cons rfl (fun K hK => ?_) AllReadyH.nil)
            go_simp
            refine (bykey_ra y x _).mono ?_
            rintro e v1 ⟨rfl, b1⟩
            try go_wp2_with fail
            refine hK.out _ _ ?_ (fun hHeld => ?_)
            · exact next (by assumption) b1
            clear hK K
            try simp only [Act.put, List.getElem_toArray, List.getElem_cons_succ, List.getElem_cons_zero, List.setIfInBounds_toArray, List.set_cons_zero, List.set_cons_succ]
            refine takesH [10, 11] ?_
            repeat
              refine takesH_one (v := ?_) ?_ ?_
              rotate_left
              · first | (refine Or.inr ⟨by rfl, ?_⟩; with_reducible rfl) | (refine Or.inl ⟨by rfl, ?_⟩; intro wx hSw; (try dsimp only at hSw); first | (go_simp; first | done | with_reducible rfl))
              try simp only [Act.put, List.getElem_toArray, List.getElem_cons_succ, List.getElem_cons_zero, List.setIfInBounds_toArray, List.set_cons_zero, List.set_cons_succ]
            refine takesH_nil ?_
            refine wpAnyH_done (by kernel_rfl) ?_ _
            obtain ⟨⟨_, _, _, _, _, _, _, _⟩, _, _, _, _, _, _, _, _⟩ := HALL4.out _ hHeld
            clear s1 s2
            have HH := Lib.hid hHeld
            clear hHeld
            go_wp2_with fail
            go_region_with (first
              | (go_at_call 37
                 have hbv := next (w := w4) HH.out (show Below v1.heap.size v1 _ by first | exact (Below.refl _ _).drew | exact below_draws _ _ _ | exact Below.refl _ _)
                 refine (join_ra y x w4.heap.size wr.heap.size _ (HY4.out.below hbv) (HX4.out.below (hbv.mono HS4.out)) hbv.size (Nat.le_trans HS4.out hbv.size) ?hs (MP.out.um y (by rw [HMM.out]; simp)) MP.out.ux).mono ?_
                 case hs => have h1 := MP.out.tt; have h2 := tot_mem (L := M) (x := y) (by rw [HMM.out]; simp); omega
                 rintro e v5 ⟨z, rfl, hz, hcz⟩
                 unfold RA.v Ro.val
                 have b5' := next hbv hcz.below
                 obtain ⟨⟨_, _, _, _, _, _, _, _⟩, _, _, _, _, _, _, _, _⟩ := HALL4.out _ b5'
                 have hcl := HCV.out.on b5'
                 have HSZ := Lib.hid (Safe.of_cur (next HCUR.out.below (next HB4.out hbv)) hcz)
                 obtain ⟨g6, e6, _, _, _, hfz⟩ := hcl.row HUL.out
                 cases e6
                 have f0 := hfz (u * 8)
                 have f1 := hfz (u * 8 + 1)
                 have f2 := hfz (u * 8 + 2)
                 have f3 := hfz (u * 8 + 3)
                 have f4 := hfz (u * 8 + 4)
                 have f5 := hfz (u * 8 + 5)
                 have f6 := hfz (u * 8 + 6)
                 have f7 := hfz (u * 8 + 7)
                 have HCL := Lib.hid hcl
                 have HZE := Lib.hid hz
                 clear hcl hfz hz hcz hbv))
            all_goals
              have hput := HCL.out.put HUL.out z HSZ.out
              generalize hw6 : (World.setCell (World.setCell (World.setCell (World.setCell (World.setCell (World.setCell (World.setCell (World.setCell v5 ⟨g5, u * 8, none⟩ (.string z.ro.key)) ⟨g5, u * 8 + 1, none⟩ (.string z.ro.live.s)) ⟨g5, u * 8 + 2, none⟩ (.bool z.ro.live.d)) ⟨g5, u * 8 + 3, none⟩ (.int .i64 z.ro.live.a)) ⟨g5, u * 8 + 4, none⟩ (.int .i64 z.ro.live.e)) ⟨g5, u * 8 + 5, none⟩ (.int .i64 z.ro.gone)) ⟨g5, u * 8 + 6, none⟩ (.int .i64 z.ro.shade)) ⟨g5, u * 8 + 7, none⟩ (.slice z.A z.ro.cols.length z.c)) = w6 at hput ⊢
              have HPUT := Lib.hid (MP.out.put HMM.out HN2.out HZE.out (by rw [HU.out]; exact hput))
              clear hput f0 f1 f2 f3 f4 f5 f6 f7 b5' hw6
              go_wp2
              go_roundw
              case rel => exact ⟨_, _, _, _, _, _, _, _, _, rfl, rfl, HPUT.out⟩
              case measure => simp [lenS]; omega
          · have t0 : (tcmp y.ro.key x.ro.key == 0) = false := by rw [beq_eq_false_iff_ne]; exact fun h => hn (tcmp_zero.1 h)
            have hp : pushK Ro.key Ro.join (ros M) x.ro = ros M ++ [x.ro] := by rw [HMM.out, show ros (L ++ [y]) = ros L ++ [y.ro] by simp [ros], pushK_last]; exact if_neg hn
            have HP := Lib.hid hp
            have s1 := S1.out
            have s2 := S2.out
            clear hp hn
            go_wp2_with fail
            refine wp_region_held_drew (S := fun w' => Below w4.heap.size w4 w') (by kernel_rfl) ?_ (fun hHeld => ?_)
            · exact (Below.refl _ _).drew
            refine takesH [0, 1, 2, 3, 4, 5, 6, 7, 8] ?_
            repeat
              refine takesH_one (v := ?_) ?_ ?_
              rotate_left
              · first | (refine Or.inr ⟨by rfl, ?_⟩; with_reducible rfl) | (refine Or.inl ⟨by rfl, ?_⟩; intro wx hSw; (try dsimp only at hSw); first | (go_simp; first | done | with_reducible rfl) | (obtain ⟨⟨_, _, _, _, _, _, _, _⟩, _, _, _, _, _, _, _, _⟩ := HALL4.out _ hSw; go_simp; first | done | with_reducible rfl))
              try simp only [Act.put, List.getElem_toArray, List.getElem_cons_succ, List.getElem_cons_zero, List.setIfInBounds_toArray, List.set_cons_zero, List.set_cons_succ]
            refine takesH_nil ?_
            refine wpAnyH_ready (rs := [9]) (by kernel_rfl) (by simp) (AllReadyH.cons rfl (fun K hK => ?_) AllReadyH.nil)
            go_simp
            refine (bykey_ra y x _).mono ?_
            rintro e v1 ⟨rfl, b1⟩
            try go_wp2_with fail
            refine hK.out _ _ ?_ (fun hHeld => ?_)
            · exact next (by assumption) b1
            clear hK K
            try simp only [Act.put, List.getElem_toArray, List.getElem_cons_succ, List.getElem_cons_zero, List.setIfInBounds_toArray, List.set_cons_zero, List.set_cons_succ]
            refine takesH [10, 11] ?_
            repeat
              refine takesH_one (v := ?_) ?_ ?_
              rotate_left
              · first | (refine Or.inr ⟨by rfl, ?_⟩; with_reducible rfl) | (refine Or.inl ⟨by rfl, ?_⟩; intro wx hSw; (try dsimp only at hSw); first | (go_simp; first | done | with_reducible rfl))
              try simp only [Act.put, List.getElem_toArray, List.getElem_cons_succ, List.getElem_cons_zero, List.setIfInBounds_toArray, List.set_cons_zero, List.set_cons_succ]
            refine takesH_nil ?_
            refine wpAnyH_done (by kernel_rfl) ?_ _
            have hl8 := hHeld
            obtain ⟨⟨_, _, _, _, _, _, _, _⟩, _, _, _, _, _, _, _, _⟩ := HALL4.out _ hHeld
            clear s1 s2
            have hcw := (HCV.out.on hl8).on ((Below.refl _ _).alloc (Nat.le_refl _) (.cells #[.string x.ro.key, .string x.ro.live.s, .bool x.ro.live.d, .int .i64 x.ro.live.a, .int .i64 x.ro.live.e, .int .i64 x.ro.gone, .int .i64 x.ro.shade, .slice x.A x.ro.cols.length x.c] 36))
            have hk1 := RdR.laid v1 x
            have hsx : Safe w (v1) x := Or.inl XIN0.out
            have HCW := Lib.hid hcw; have HK1 := Lib.hid hk1; have HSX := Lib.hid (hsx.on ((Below.refl _ _).alloc (Nat.le_refl _) (.cells #[.string x.ro.key, .string x.ro.live.s, .bool x.ro.live.d, .int .i64 x.ro.live.a, .int .i64 x.ro.live.e, .int .i64 x.ro.gone, .int .i64 x.ro.shade, .slice x.A x.ro.cols.length x.c] 36)))
            clear hcw hk1 hl8 hsx
            go_wp2_with (at_builtin; refine list_ex rfl (.tmp 78) (.tmp 80) _ _ rfl (.slice (some ⟨g5, 0, none⟩) m c0) (.slice (some ⟨(v1).heap.size, 0, none⟩) 1 1) rfl rfl (run_appR w.heap.size (HM.out ▸ HCW.out.cur.own) HK1.out ?s1 ?s2) ?_)
            case s1 => have h9 := HM.out; have h8 := MP.out.sum; (try simp at h9); (try simp); omega
            case s2 => simpa using HCW.out.below.size
            intro v3 w3 ho3 hg3 hloc3
            obtain ⟨A3, m3, c3, rfl, hm3, hc3⟩ := HCW.out.app (k := [x]) (fun y hy => by rw [List.mem_singleton.1 hy]; exact HSX.out) ho3 hg3
            have HC3 := Lib.hid (MP.out.app HP.out hc3)
            clear hc3 ho3 hg3 hloc3
            go_wp2
            go_roundw
            case rel => exact ⟨_, _, _, _, _, _, _, _, _, rfl, rfl, HC3.out⟩
            case measure => simp [lenS]; omega
      · have hpos2 : 0 < n2 := by omega
        have q1 : ((n2 : Int) == 0) = false := by rw [beq_eq_false_iff_ne]; omega
        have q2 : (n2 == 0) = false := by rw [beq_eq_false_iff_ne]; omega
        have d0 : decide ((0 : Int) < (n1 : Int) + (n2 : Int)) = true := by simp; omega
        have d1 : decide (0 < n1 + n2) = true := by simp; omega
        obtain ⟨q, lb', rfl⟩ : ∃ y lb', lb = y :: lb' := by
          match lb, L2.out with
          | [], h => simp at h; omega
          | y :: lb', _ => exact ⟨y, lb', rfl⟩
        obtain ⟨A2', hsl2, hlb'⟩ := HMS.out.b.tail
        have hqin := HMS.out.b.held q (List.mem_cons_self ..)
        obtain ⟨g2, o2, rfl, hgB2⟩ := HMS.out.b.rd.ex hpos2
        have hc02 := (HMS.out.b.below (HCUR.out.below.mono HBB'.out)).head
        have hgw2 : g2 < wr.heap.size := by have := HWS.out; have := HBB'.out; omega
        have i2 : (0 : Int) < n2 := by omega
        by_cases e1 : n1 = 0
        · have hla : la = [] := List.eq_nil_of_length_eq_zero (by rw [L1.out]; exact e1)
          have hrun2 : runK Ro.key Ro.join (pushK Ro.key Ro.join (ros M) q.ro) (ros la) (ros lb') = R := by have := HMS.out.run; rw [hla] at this ⊢; rw [← this]; exact (runK_b _ _ _).symm
          obtain ⟨x, hx⟩ : ∃ x, x = q := ⟨_, rfl⟩
          rw [← hx] at hrun2 hc02 hqin
          have MP := Lib.hid ((hx ▸ HMS.out : MSt w wr B B' R A1 _ n1 n2 c1 c2 la (x :: lb') M _).takeB A2' hlb' hrun2)
          have XIN0 : Hid (RaIn w w.heap.size x) := Lib.hid (hqin.up HBB'.out)
          have XIN : Hid (RaIn wr wr.heap.size x) := Lib.hid ((hqin.below (HCUR.out.below.mono HBB'.out)).up (Nat.le_trans HBB'.out HWS.out))
          have hall : ∀ w', Below U.heap.size U w' → RowAt w' g2 o2 x := fun w' hb => hc02.below (HAL.out.trans (hb.mono (by have := HUS.out; omega))) hgw2
          have HALLW := Lib.hid (fun w' (hb2 : Below wr.heap.size wr w') => hc02.below hb2 hgw2)
          have HALL := Lib.hid hall
          have j1 : decide ((0 : Int) < (n1 : Int)) = false := by simp; omega
          have j2 : decide (0 < n1) = false := by simp; omega
          have w1 := W1_.out
          have w2 := W2_.out
          clear hla hrun2 hlb' hc02 hall e1 e2 hqin hx
          go_wp2_with fail
          rw [← hU]
          clear hU
          refine wp_region_held_drew (S := fun w' => Below U.heap.size U w') (by kernel_rfl) ?_ (fun hHeld => ?_)
          · exact (Below.refl _ _).drew
          refine takesH [0, 1, 2, 3, 4, 5, 6, 7, 8, 9, 10, 11, 12, 13, 14, 15, 16, 17, 18] ?_
          repeat
            refine takesH_one (v := ?_) ?_ ?_
            rotate_left
            · first | (refine Or.inr ⟨by rfl, ?_⟩; with_reducible rfl) | (refine Or.inl ⟨by rfl, ?_⟩; intro wx hSw; (try dsimp only at hSw); first | (go_simp; first | done | with_reducible rfl))
            try simp only [Act.put, List.getElem_toArray, List.getElem_cons_succ, List.getElem_cons_zero, List.setIfInBounds_toArray, List.set_cons_zero, List.set_cons_succ]
          refine takesH_nil ?_
          refine wpAnyH_done (by kernel_rfl) ?_ _
          clear w1 w2
          have hlow : Below U.heap.size U U := (Below.refl _ _)
          obtain ⟨_, _, _, _, _, _, _, _⟩ := HALL.out _ hlow
          have hq := (hlow.block wr.heap.size (by have := HUS.out; omega)).trans HZ.out
          have z0 := cell_at (i := 0) hq rfl
          have z1 := cell_at (i := 1) hq rfl
          have z2 := cell_at (i := 2) hq rfl
          have z3 := cell_at (i := 3) hq rfl
          have z4 := cell_at (i := 4) hq rfl
          have z5 := cell_at (i := 5) hq rfl
          have z6 := cell_at (i := 6) hq rfl
          have z7 := cell_at (i := 7) hq rfl
          have y0 := thawed_at (i := 0) hq
          have y1 := thawed_at (i := 1) hq
          have y2 := thawed_at (i := 2) hq
          have y3 := thawed_at (i := 3) hq
          have y4 := thawed_at (i := 4) hq
          have y5 := thawed_at (i := 5) hq
          have y6 := thawed_at (i := 6) hq
          have y7 := thawed_at (i := 7) hq
          have HQ4_ := Lib.hid (set8_block hq x)
          have HB4_ := Lib.hid (below_set80 (HAL.out.trans (hlow.mono (by have := HUS.out; omega))) (Nat.le_refl wr.heap.size) x)
          clear hq
          have HLOW := Lib.hid (HAL.out.trans (hlow.mono (by have := HUS.out; omega)))
          go_wp2_with fail
          refine wp_region_held_drew (S := fun w' => Below wr.heap.size wr w') (by kernel_rfl) ?_ (fun hHeld => ?_)
          · exact HLOW.out.drew.drew
          refine takesH [0, 1, 2, 3, 4] ?_
          repeat
            refine takesH_one (v := ?_) ?_ ?_
            rotate_left
            · first | (refine Or.inr ⟨by rfl, ?_⟩; with_reducible rfl) | (refine Or.inl ⟨by rfl, ?_⟩; intro wx hSw; (try dsimp only at hSw); first | (go_simp; first | done | with_reducible rfl) | (obtain ⟨_, _, _, _, _, _, _, _⟩ := HALLW.out _ hSw; go_simp; first | done | with_reducible rfl))
            try simp only [Act.put, List.getElem_toArray, List.getElem_cons_succ, List.getElem_cons_zero, List.setIfInBounds_toArray, List.set_cons_zero, List.set_cons_succ]
          refine takesH_nil ?_
          refine wpAnyH_ready (rs := [5]) (by kernel_rfl) (by simp) (AllReadyH.cons rfl (fun K hK => ?_) AllReadyH.nil)
          go_simp
          refine hK.out _ _ ?_ (fun hHeld => ?_)
          · exact HB4_.out.drew.drew
          clear hK K
          try simp only [Act.put, List.getElem_toArray, List.getElem_cons_succ, List.getElem_cons_zero, List.setIfInBounds_toArray, List.set_cons_zero, List.set_cons_succ]
          refine takesH [6] ?_
          repeat
            refine takesH_one (v := ?_) ?_ ?_
            rotate_left
            · first | (refine Or.inr ⟨by rfl, ?_⟩; with_reducible rfl) | (refine Or.inl ⟨by rfl, ?_⟩; intro wx hSw; (try dsimp only at hSw); first | (go_simp; first | done | with_reducible rfl))
            try simp only [Act.put, List.getElem_toArray, List.getElem_cons_succ, List.getElem_cons_zero, List.setIfInBounds_toArray, List.set_cons_zero, List.set_cons_succ]
          refine takesH_nil ?_
          refine wpAnyH_done (by kernel_rfl) ?_ _
          obtain ⟨w4, hw4⟩ : ∃ w4, w4 = ((World.setCell (World.setCell (World.setCell (World.setCell (World.setCell (World.setCell (World.setCell (World.setCell (U) ⟨wr.heap.size, 0, none⟩ (.string x.ro.key)) ⟨wr.heap.size, 1, none⟩ (.string x.ro.live.s)) ⟨wr.heap.size, 2, none⟩ (.bool x.ro.live.d)) ⟨wr.heap.size, 3, none⟩ (.int .i64 x.ro.live.a)) ⟨wr.heap.size, 4, none⟩ (.int .i64 x.ro.live.e)) ⟨wr.heap.size, 5, none⟩ (.int .i64 x.ro.gone)) ⟨wr.heap.size, 6, none⟩ (.int .i64 x.ro.shade)) ⟨wr.heap.size, 7, none⟩ (.slice x.A x.ro.cols.length x.c))).drew.drew := ⟨_, rfl⟩
          rw [← hw4]
          have HQ4 : Hid (w4.heap[wr.heap.size]? = some (.cells #[.string x.ro.key, .string x.ro.live.s, .bool x.ro.live.d, .int .i64 x.ro.live.a, .int .i64 x.ro.live.e, .int .i64 x.ro.gone, .int .i64 x.ro.shade, .slice x.A x.ro.cols.length x.c] 36)) := Lib.hid (by rw [hw4]; simp only [heap_drew]; exact HQ4_.out)
          have HB4 : Hid (Below wr.heap.size wr w4) := Lib.hid (by rw [hw4]; exact HB4_.out.drew.drew)
          clear hw4 HQ4_ HB4_ z0 z1 z2 z3 z4 z5 z6 z7 y0 y1 y2 y3 y4 y5 y6 y7
          have HCV := Lib.hid (HCUR.out.on HB4.out)
          have HS4 := Lib.hid HB4.out.size
          have HX4 := Lib.hid (XIN.out.below HB4.out)
          rcases List.eq_nil_or_concat M with hM | ⟨L, y, hM⟩
          · have hp : pushK Ro.key Ro.join (ros M) x.ro = ros M ++ [x.ro] := by rw [hM]; rfl
            have hm0 : m = 0 := by rw [← HM.out, hM]; rfl
            have S1 := Lib.hid (show IntKind.i64.wrap ((m : Int) - 1) = -1 by rw [IntKind.wrap_i64]; omega)
            have S2 := Lib.hid (show wrap64 ((m : Int) - 1) = -1 by unfold wrap64; omega)
            have HP := Lib.hid hp
            have hall4 : ∀ w', Below w4.heap.size w4 w' → BlkAt w' wr.heap.size x := fun w' hb => BlkAt.of ((hb.block wr.heap.size (Array.getElem?_eq_some_iff.1 HQ4.out).1).trans HQ4.out)
            have HALL4 := Lib.hid hall4
            have s1 := S1.out
            have s2 := S2.out
            clear hm0 hM hp hall4
            go_wp2_with fail
            refine wp_region_held_drew (S := fun w' => Below w4.heap.size w4 w') (by kernel_rfl) ?_ (fun hHeld => ?_)
            · exact (Below.refl _ _).drew
            refine takesH [0, 1, 2, 3, 4, 5, 6, 7, 8, 9, 10, 11] ?_
            repeat
              refine takesH_one (v := ?_) ?_ ?_
              rotate_left
              · first | (refine Or.inr ⟨by rfl, ?_⟩; with_reducible rfl) | (refine Or.inl ⟨by rfl, ?_⟩; intro wx hSw; (try dsimp only at hSw); first | (go_simp; first | done | with_reducible rfl))
              try simp only [Act.put, List.getElem_toArray, List.getElem_cons_succ, List.getElem_cons_zero, List.setIfInBounds_toArray, List.set_cons_zero, List.set_cons_succ]
            refine takesH_nil ?_
            refine wpAnyH_done (by kernel_rfl) ?_ _
            have hl8 : Below w4.heap.size w4 w4.drew := (Below.refl _ _).drew
            generalize w4.drew = w8 at hl8 ⊢
            obtain ⟨_, _, _, _, _, _, _, _⟩ := HALL4.out _ hl8
            clear s1 s2
            have hcw := (HCV.out.on hl8).on ((Below.refl _ _).alloc (Nat.le_refl _) (.cells #[.string x.ro.key, .string x.ro.live.s, .bool x.ro.live.d, .int .i64 x.ro.live.a, .int .i64 x.ro.live.e, .int .i64 x.ro.gone, .int .i64 x.ro.shade, .slice x.A x.ro.cols.length x.c] 36))
            have hk1 := RdR.laid w8 x
            have hsx : Safe w (w8) x := Or.inl XIN0.out
            have HCW := Lib.hid hcw; have HK1 := Lib.hid hk1; have HSX := Lib.hid (hsx.on ((Below.refl _ _).alloc (Nat.le_refl _) (.cells #[.string x.ro.key, .string x.ro.live.s, .bool x.ro.live.d, .int .i64 x.ro.live.a, .int .i64 x.ro.live.e, .int .i64 x.ro.gone, .int .i64 x.ro.shade, .slice x.A x.ro.cols.length x.c] 36)))
            clear hcw hk1 hl8 hsx
            go_wp2_with (at_builtin; refine list_ex rfl (.tmp 78) (.tmp 80) _ _ rfl (.slice A0 m c0) (.slice (some ⟨(w8).heap.size, 0, none⟩) 1 1) rfl rfl (run_appR w.heap.size (HM.out ▸ HCW.out.cur.own) HK1.out ?s1 ?s2) ?_)
            case s1 => have h9 := HM.out; have h8 := MP.out.sum; (try simp at h9); (try simp); omega
            case s2 => simpa using HCW.out.below.size
            intro v3 w3 ho3 hg3 hloc3
            obtain ⟨A3, m3, c3, rfl, hm3, hc3⟩ := HCW.out.app (k := [x]) (fun y hy => by rw [List.mem_singleton.1 hy]; exact HSX.out) ho3 hg3
            have HC3 := Lib.hid (MP.out.app HP.out hc3)
            clear hc3 ho3 hg3 hloc3
            go_wp2
            go_roundw
            case rel => exact ⟨_, _, _, _, _, _, _, _, _, rfl, rfl, HC3.out⟩
            case measure => simp [lenS]; omega
          · rw [List.concat_eq_append] at hM
            have HMM := Lib.hid hM
            clear hM
            obtain ⟨u, hu⟩ : ∃ u, L.length = u := ⟨_, rfl⟩
            have hm1 : m = u + 1 := by rw [← HM.out, HMM.out, ← hu]; simp
            have hul : u < M.length := by have := HM.out; omega
            have hMu : M[u] = y := by simp [HMM.out, ← hu]
            have S1 := Lib.hid (show IntKind.i64.wrap ((m : Int) - 1) = (u : Int) by rw [IntKind.wrap_i64]; omega)
            have S2 := Lib.hid (show wrap64 ((m : Int) - 1) = (u : Int) by unfold wrap64; omega)
            obtain ⟨g5, rfl, hg5, hg5', hy5, hf5⟩ := HCV.out.row hul
            rw [hMu] at hy5
            have hall4 : ∀ w', Below w4.heap.size w4 w' → RowAt w' g5 (u * 8) y ∧ BlkAt w' wr.heap.size x := fun w' hb =>
              ⟨hy5.below hb hg5', BlkAt.of ((hb.block wr.heap.size (Array.getElem?_eq_some_iff.1 HQ4.out).1).trans HQ4.out)⟩
            have HALL4 := Lib.hid hall4
            have hysafe := HCV.out.safe y (by rw [HMM.out]; simp)
            have HY4 := Lib.hid (hysafe.ra HCV.out.below)
            have i5 : (u : Int) < m := by omega
            have i6 : (0 : Int) ≤ u := by omega
            have i7 : decide ((0 : Int) ≤ (u : Int)) = true := by simp
            have HU := Lib.hid hu; have HM1 := Lib.hid hm1; have HUL := Lib.hid hul
            clear hall4 hu hm1 hy5 hf5 hul hMu hysafe
            by_cases hn : y.ro.key = x.ro.key
            · have t0 : (tcmp y.ro.key x.ro.key == 0) = true := by rw [beq_iff_eq]; exact tcmp_zero.2 hn
              have HN2 := Lib.hid hn
              have s1 := S1.out
              have s2 := S2.out
              clear hn
              go_wp2_with fail
              refine wp_region_held_drew (S := fun w' => Below w4.heap.size w4 w') (by kernel_rfl) ?_ (fun hHeld => ?_)
              · exact (Below.refl _ _).drew
              refine takesH [0, 1, 2, 3, 4, 5, 6, 7, 8] ?_
              repeat
                refine takesH_one (v := ?_) ?_ ?_
                rotate_left
                · first | (refine Or.inr ⟨by rfl, ?_⟩; with_reducible rfl) | (refine Or.inl ⟨by rfl, ?_⟩; intro wx hSw; (try dsimp only at hSw); first | (go_simp; first | done | with_reducible rfl) | (obtain ⟨⟨_, _, _, _, _, _, _, _⟩, _, _, _, _, _, _, _, _⟩ := HALL4.out _ hSw; go_simp; first | done | with_reducible rfl))
                try simp only [Act.put, List.getElem_toArray, List.getElem_cons_succ, List.getElem_cons_zero, List.setIfInBounds_toArray, List.set_cons_zero, List.set_cons_succ]
              refine takesH_nil ?_
              refine wpAnyH_ready (rs := [9]) (by kernel_rfl) (by simp) (AllReadyH.cons rfl (fun K hK => ?_) AllReadyH.nil)
              go_simp
              refine (bykey_ra y x _).mono ?_
              rintro e v1 ⟨rfl, b1⟩
              try go_wp2_with fail
              refine hK.out _ _ ?_ (fun hHeld => ?_)
              · exact next (by assumption) b1
              clear hK K
              try simp only [Act.put, List.getElem_toArray, List.getElem_cons_succ, List.getElem_cons_zero, List.setIfInBounds_toArray, List.set_cons_zero, List.set_cons_succ]
              refine takesH [10, 11] ?_
              repeat
                refine takesH_one (v := ?_) ?_ ?_
                rotate_left
                · first | (refine Or.inr ⟨by rfl, ?_⟩; with_reducible rfl) | (refine Or.inl ⟨by rfl, ?_⟩; intro wx hSw; (try dsimp only at hSw); first | (go_simp; first | done | with_reducible rfl))
                try simp only [Act.put, List.getElem_toArray, List.getElem_cons_succ, List.getElem_cons_zero, List.setIfInBounds_toArray, List.set_cons_zero, List.set_cons_succ]
              refine takesH_nil ?_
              refine wpAnyH_done (by kernel_rfl) ?_ _
              obtain ⟨⟨_, _, _, _, _, _, _, _⟩, _, _, _, _, _, _, _, _⟩ := HALL4.out _ hHeld
              clear s1 s2
              have HH := Lib.hid hHeld
              clear hHeld
              go_wp2_with fail
              go_region_with (first
                | (go_at_call 37
                   have hbv := next (w := w4) HH.out (show Below v1.heap.size v1 _ by first | exact (Below.refl _ _).drew | exact below_draws _ _ _ | exact Below.refl _ _)
                   refine (join_ra y x w4.heap.size wr.heap.size _ (HY4.out.below hbv) (HX4.out.below (hbv.mono HS4.out)) hbv.size (Nat.le_trans HS4.out hbv.size) ?hs (MP.out.um y (by rw [HMM.out]; simp)) MP.out.ux).mono ?_
                   case hs => have h1 := MP.out.tt; have h2 := tot_mem (L := M) (x := y) (by rw [HMM.out]; simp); omega
                   rintro e v5 ⟨z, rfl, hz, hcz⟩
                   unfold RA.v Ro.val
                   have b5' := next hbv hcz.below
                   obtain ⟨⟨_, _, _, _, _, _, _, _⟩, _, _, _, _, _, _, _, _⟩ := HALL4.out _ b5'
                   have hcl := HCV.out.on b5'
                   have HSZ := Lib.hid (Safe.of_cur (next HCUR.out.below (next HB4.out hbv)) hcz)
                   obtain ⟨g6, e6, _, _, _, hfz⟩ := hcl.row HUL.out
                   cases e6
                   have f0 := hfz (u * 8)
                   have f1 := hfz (u * 8 + 1)
                   have f2 := hfz (u * 8 + 2)
                   have f3 := hfz (u * 8 + 3)
                   have f4 := hfz (u * 8 + 4)
                   have f5 := hfz (u * 8 + 5)
                   have f6 := hfz (u * 8 + 6)
                   have f7 := hfz (u * 8 + 7)
                   have HCL := Lib.hid hcl
                   have HZE := Lib.hid hz
                   clear hcl hfz hz hcz hbv))
              all_goals
                have hput := HCL.out.put HUL.out z HSZ.out
                generalize hw6 : (World.setCell (World.setCell (World.setCell (World.setCell (World.setCell (World.setCell (World.setCell (World.setCell v5 ⟨g5, u * 8, none⟩ (.string z.ro.key)) ⟨g5, u * 8 + 1, none⟩ (.string z.ro.live.s)) ⟨g5, u * 8 + 2, none⟩ (.bool z.ro.live.d)) ⟨g5, u * 8 + 3, none⟩ (.int .i64 z.ro.live.a)) ⟨g5, u * 8 + 4, none⟩ (.int .i64 z.ro.live.e)) ⟨g5, u * 8 + 5, none⟩ (.int .i64 z.ro.gone)) ⟨g5, u * 8 + 6, none⟩ (.int .i64 z.ro.shade)) ⟨g5, u * 8 + 7, none⟩ (.slice z.A z.ro.cols.length z.c)) = w6 at hput ⊢
                have HPUT := Lib.hid (MP.out.put HMM.out HN2.out HZE.out (by rw [HU.out]; exact hput))
                clear hput f0 f1 f2 f3 f4 f5 f6 f7 b5' hw6
                go_wp2
                go_roundw
                case rel => exact ⟨_, _, _, _, _, _, _, _, _, rfl, rfl, HPUT.out⟩
                case measure => simp [lenS]; omega
            · have t0 : (tcmp y.ro.key x.ro.key == 0) = false := by rw [beq_eq_false_iff_ne]; exact fun h => hn (tcmp_zero.1 h)
              have hp : pushK Ro.key Ro.join (ros M) x.ro = ros M ++ [x.ro] := by rw [HMM.out, show ros (L ++ [y]) = ros L ++ [y.ro] by simp [ros], pushK_last]; exact if_neg hn
              have HP := Lib.hid hp
              have s1 := S1.out
              have s2 := S2.out
              clear hp hn
              go_wp2_with fail
              refine wp_region_held_drew (S := fun w' => Below w4.heap.size w4 w') (by kernel_rfl) ?_ (fun hHeld => ?_)
              · exact (Below.refl _ _).drew
              refine takesH [0, 1, 2, 3, 4, 5, 6, 7, 8] ?_
              repeat
                refine takesH_one (v := ?_) ?_ ?_
                rotate_left
                · first | (refine Or.inr ⟨by rfl, ?_⟩; with_reducible rfl) | (refine Or.inl ⟨by rfl, ?_⟩; intro wx hSw; (try dsimp only at hSw); first | (go_simp; first | done | with_reducible rfl) | (obtain ⟨⟨_, _, _, _, _, _, _, _⟩, _, _, _, _, _, _, _, _⟩ := HALL4.out _ hSw; go_simp; first | done | with_reducible rfl))
                try simp only [Act.put, List.getElem_toArray, List.getElem_cons_succ, List.getElem_cons_zero, List.setIfInBounds_toArray, List.set_cons_zero, List.set_cons_succ]
              refine takesH_nil ?_
              refine wpAnyH_ready (rs := [9]) (by kernel_rfl) (by simp) (AllReadyH.cons rfl (fun K hK => ?_) AllReadyH.nil)
              go_simp
              refine (bykey_ra y x _).mono ?_
              rintro e v1 ⟨rfl, b1⟩
              try go_wp2_with fail
              refine hK.out _ _ ?_ (fun hHeld => ?_)
              · exact next (by assumption) b1
              clear hK K
              try simp only [Act.put, List.getElem_toArray, List.getElem_cons_succ, List.getElem_cons_zero, List.setIfInBounds_toArray, List.set_cons_zero, List.set_cons_succ]
              refine takesH [10, 11] ?_
              repeat
                refine takesH_one (v := ?_) ?_ ?_
                rotate_left
                · first | (refine Or.inr ⟨by rfl, ?_⟩; with_reducible rfl) | (refine Or.inl ⟨by rfl, ?_⟩; intro wx hSw; (try dsimp only at hSw); first | (go_simp; first | done | with_reducible rfl))
                try simp only [Act.put, List.getElem_toArray, List.getElem_cons_succ, List.getElem_cons_zero, List.setIfInBounds_toArray, List.set_cons_zero, List.set_cons_succ]
              refine takesH_nil ?_
              refine wpAnyH_done (by kernel_rfl) ?_ _
              have hl8 := hHeld
              obtain ⟨⟨_, _, _, _, _, _, _, _⟩, _, _, _, _, _, _, _, _⟩ := HALL4.out _ hHeld
              clear s1 s2
              have hcw := (HCV.out.on hl8).on ((Below.refl _ _).alloc (Nat.le_refl _) (.cells #[.string x.ro.key, .string x.ro.live.s, .bool x.ro.live.d, .int .i64 x.ro.live.a, .int .i64 x.ro.live.e, .int .i64 x.ro.gone, .int .i64 x.ro.shade, .slice x.A x.ro.cols.length x.c] 36))
              have hk1 := RdR.laid v1 x
              have hsx : Safe w (v1) x := Or.inl XIN0.out
              have HCW := Lib.hid hcw; have HK1 := Lib.hid hk1; have HSX := Lib.hid (hsx.on ((Below.refl _ _).alloc (Nat.le_refl _) (.cells #[.string x.ro.key, .string x.ro.live.s, .bool x.ro.live.d, .int .i64 x.ro.live.a, .int .i64 x.ro.live.e, .int .i64 x.ro.gone, .int .i64 x.ro.shade, .slice x.A x.ro.cols.length x.c] 36)))
              clear hcw hk1 hl8 hsx
              go_wp2_with (at_builtin; refine list_ex rfl (.tmp 78) (.tmp 80) _ _ rfl (.slice (some ⟨g5, 0, none⟩) m c0) (.slice (some ⟨(v1).heap.size, 0, none⟩) 1 1) rfl rfl (run_appR w.heap.size (HM.out ▸ HCW.out.cur.own) HK1.out ?s1 ?s2) ?_)
              case s1 => have h9 := HM.out; have h8 := MP.out.sum; (try simp at h9); (try simp); omega
              case s2 => simpa using HCW.out.below.size
              intro v3 w3 ho3 hg3 hloc3
              obtain ⟨A3, m3, c3, rfl, hm3, hc3⟩ := HCW.out.app (k := [x]) (fun y hy => by rw [List.mem_singleton.1 hy]; exact HSX.out) ho3 hg3
              have HC3 := Lib.hid (MP.out.app HP.out hc3)
              clear hc3 ho3 hg3 hloc3
              go_wp2
              go_roundw
              case rel => exact ⟨_, _, _, _, _, _, _, _, _, rfl, rfl, HC3.out⟩
              case measure => simp [lenS]; omega
        · have hpos1 : 0 < n1 := by omega
          obtain ⟨p, la', rfl⟩ : ∃ x la', la = x :: la' := by
            match la, L1.out with
            | [], h => simp at h; omega
            | x :: la', _ => exact ⟨x, la', rfl⟩
          obtain ⟨A1', hsl1, hla'⟩ := HMS.out.a.tail
          have hpin := HMS.out.a.held p (List.mem_cons_self ..)
          obtain ⟨g1, o1, rfl, hgB1⟩ := HMS.out.a.rd.ex hpos1
          have hc01 := (HMS.out.a.below (HCUR.out.below.mono HBB.out)).head
          have hgw1 : g1 < wr.heap.size := by have := HWS.out; have := HBB.out; omega
          have i1 : (0 : Int) < n1 := by omega
          have j1 : decide ((0 : Int) < (n1 : Int)) = true := by simp; omega
          have j2 : decide (0 < n1) = true := by simp; omega
          by_cases hyx : nlt q.ro.key p.ro.key
          · have hrun2 : runK Ro.key Ro.join (pushK Ro.key Ro.join (ros M) q.ro) (ros (p :: la')) (ros lb') = R := by rw [← HMS.out.run]; exact (runK_ba _ _ _ _ _ hyx).symm
            have t1 : decide (tcmp p.ro.key q.ro.key ≤ 0) = false := decide_eq_false fun h => tcmp_le.1 h hyx
            obtain ⟨x, hx⟩ : ∃ x, x = q := ⟨_, rfl⟩
            rw [← hx] at hrun2 hc02 hqin t1
            have MP := Lib.hid ((hx ▸ HMS.out : MSt w wr B B' R _ _ n1 n2 c1 c2 (p :: la') (x :: lb') M _).takeB A2' hlb' hrun2)
            have XIN0 : Hid (RaIn w w.heap.size x) := Lib.hid (hqin.up HBB'.out)
            have XIN : Hid (RaIn wr wr.heap.size x) := Lib.hid ((hqin.below (HCUR.out.below.mono HBB'.out)).up (Nat.le_trans HBB'.out HWS.out))
            clear hrun2 hla' hlb' hqin hpin hx
            have hall2 : ∀ w', Below U.heap.size U w' → RowAt w' g1 o1 p ∧ RowAt w' g2 o2 x := fun w' hb => by
              have hb2 : Below wr.heap.size wr w' := HAL.out.trans (hb.mono (by have := HUS.out; omega))
              exact ⟨hc01.below hb2 hgw1, hc02.below hb2 hgw2⟩
            have HALL2 := Lib.hid hall2
            have HALLW2 := Lib.hid (fun w' (hb2 : Below wr.heap.size wr w') => And.intro (hc01.below hb2 hgw1) (hc02.below hb2 hgw2))
            have w1 := W1_.out
            have w2 := W2_.out
            clear hc01 hc02 hall2 e1 e2 hyx
            go_wp2_with fail
            rw [← hU]
            clear hU
            have HALL := Lib.hid (fun w' hb => (HALL2.out w' hb).2)
            have HALLW := Lib.hid (fun w' hb => (HALLW2.out w' hb).2)
            refine wp_region_held_drew (S := fun w' => Below U.heap.size U w') (by kernel_rfl) ?_ (fun hHeld => ?_)
            · exact (Below.refl _ _).drew
            refine takesH [0, 1, 2, 3, 4, 5, 6, 7, 8, 9, 10, 11, 12, 13, 14] ?_
            repeat
              refine takesH_one (v := ?_) ?_ ?_
              rotate_left
              · first | (refine Or.inr ⟨by rfl, ?_⟩; with_reducible rfl) | (refine Or.inl ⟨by rfl, ?_⟩; intro wx hSw; (try dsimp only at hSw); first | (go_simp; first | done | with_reducible rfl) | (obtain ⟨⟨_, _, _, _, _, _, _, _⟩, _, _, _, _, _, _, _, _⟩ := HALL2.out _ hSw; go_simp; first | done | with_reducible rfl))
              try simp only [Act.put, List.getElem_toArray, List.getElem_cons_succ, List.getElem_cons_zero, List.setIfInBounds_toArray, List.set_cons_zero, List.set_cons_succ]
            refine takesH_nil ?_
            refine wpAnyH_ready (rs := [15]) (by kernel_rfl) (by simp) (AllReadyH.cons rfl (fun K hK => ?_) AllReadyH.nil)
            go_simp
            refine (bykey_ra _ _ _).mono ?_
            rintro e v1 ⟨rfl, b1⟩
            try go_wp2_with fail
            refine hK.out _ _ ?_ (fun hHeld => ?_)
            · exact next (by assumption) b1
            clear hK K
            try simp only [Act.put, List.getElem_toArray, List.getElem_cons_succ, List.getElem_cons_zero, List.setIfInBounds_toArray, List.set_cons_zero, List.set_cons_succ]
            refine takesH [16, 17, 18] ?_
            repeat
              refine takesH_one (v := ?_) ?_ ?_
              rotate_left
              · first | (refine Or.inr ⟨by rfl, ?_⟩; with_reducible rfl) | (refine Or.inl ⟨by rfl, ?_⟩; intro wx hSw; (try dsimp only at hSw); first | (go_simp; first | done | with_reducible rfl))
              try simp only [Act.put, List.getElem_toArray, List.getElem_cons_succ, List.getElem_cons_zero, List.setIfInBounds_toArray, List.set_cons_zero, List.set_cons_succ]
            refine takesH_nil ?_
            refine wpAnyH_done (by kernel_rfl) ?_ _
            clear t1
            clear w1 w2
            have hlow : Below U.heap.size U v1 := hHeld
            obtain ⟨_, _, _, _, _, _, _, _⟩ := HALL.out _ hlow
            have hq := (hlow.block wr.heap.size (by have := HUS.out; omega)).trans HZ.out
            have z0 := cell_at (i := 0) hq rfl
            have z1 := cell_at (i := 1) hq rfl
            have z2 := cell_at (i := 2) hq rfl
            have z3 := cell_at (i := 3) hq rfl
            have z4 := cell_at (i := 4) hq rfl
            have z5 := cell_at (i := 5) hq rfl
            have z6 := cell_at (i := 6) hq rfl
            have z7 := cell_at (i := 7) hq rfl
            have y0 := thawed_at (i := 0) hq
            have y1 := thawed_at (i := 1) hq
            have y2 := thawed_at (i := 2) hq
            have y3 := thawed_at (i := 3) hq
            have y4 := thawed_at (i := 4) hq
            have y5 := thawed_at (i := 5) hq
            have y6 := thawed_at (i := 6) hq
            have y7 := thawed_at (i := 7) hq
            have HQ4_ := Lib.hid (set8_block hq x)
            have HB4_ := Lib.hid (below_set80 (HAL.out.trans (hlow.mono (by have := HUS.out; omega))) (Nat.le_refl wr.heap.size) x)
            clear hq
            have HLOW := Lib.hid (HAL.out.trans (hlow.mono (by have := HUS.out; omega)))
            go_wp2_with fail
            refine wp_region_held_drew (S := fun w' => Below wr.heap.size wr w') (by kernel_rfl) ?_ (fun hHeld => ?_)
            · exact HLOW.out.drew
            refine takesH [0, 1, 2, 3, 4] ?_
            repeat
              refine takesH_one (v := ?_) ?_ ?_
              rotate_left
              · first | (refine Or.inr ⟨by rfl, ?_⟩; with_reducible rfl) | (refine Or.inl ⟨by rfl, ?_⟩; intro wx hSw; (try dsimp only at hSw); first | (go_simp; first | done | with_reducible rfl) | (obtain ⟨_, _, _, _, _, _, _, _⟩ := HALLW.out _ hSw; go_simp; first | done | with_reducible rfl))
              try simp only [Act.put, List.getElem_toArray, List.getElem_cons_succ, List.getElem_cons_zero, List.setIfInBounds_toArray, List.set_cons_zero, List.set_cons_succ]
            refine takesH_nil ?_
            refine wpAnyH_ready (rs := [5]) (by kernel_rfl) (by simp) (AllReadyH.cons rfl (fun K hK => ?_) AllReadyH.nil)
            go_simp
            refine hK.out _ _ ?_ (fun hHeld => ?_)
            · exact HB4_.out.drew
            clear hK K
            try simp only [Act.put, List.getElem_toArray, List.getElem_cons_succ, List.getElem_cons_zero, List.setIfInBounds_toArray, List.set_cons_zero, List.set_cons_succ]
            refine takesH [6] ?_
            repeat
              refine takesH_one (v := ?_) ?_ ?_
              rotate_left
              · first | (refine Or.inr ⟨by rfl, ?_⟩; with_reducible rfl) | (refine Or.inl ⟨by rfl, ?_⟩; intro wx hSw; (try dsimp only at hSw); first | (go_simp; first | done | with_reducible rfl))
              try simp only [Act.put, List.getElem_toArray, List.getElem_cons_succ, List.getElem_cons_zero, List.setIfInBounds_toArray, List.set_cons_zero, List.set_cons_succ]
            refine takesH_nil ?_
            refine wpAnyH_done (by kernel_rfl) ?_ _
            obtain ⟨w4, hw4⟩ : ∃ w4, w4 = ((World.setCell (World.setCell (World.setCell (World.setCell (World.setCell (World.setCell (World.setCell (World.setCell (v1) ⟨wr.heap.size, 0, none⟩ (.string x.ro.key)) ⟨wr.heap.size, 1, none⟩ (.string x.ro.live.s)) ⟨wr.heap.size, 2, none⟩ (.bool x.ro.live.d)) ⟨wr.heap.size, 3, none⟩ (.int .i64 x.ro.live.a)) ⟨wr.heap.size, 4, none⟩ (.int .i64 x.ro.live.e)) ⟨wr.heap.size, 5, none⟩ (.int .i64 x.ro.gone)) ⟨wr.heap.size, 6, none⟩ (.int .i64 x.ro.shade)) ⟨wr.heap.size, 7, none⟩ (.slice x.A x.ro.cols.length x.c))).drew  := ⟨_, rfl⟩
            rw [← hw4]
            have HQ4 : Hid (w4.heap[wr.heap.size]? = some (.cells #[.string x.ro.key, .string x.ro.live.s, .bool x.ro.live.d, .int .i64 x.ro.live.a, .int .i64 x.ro.live.e, .int .i64 x.ro.gone, .int .i64 x.ro.shade, .slice x.A x.ro.cols.length x.c] 36)) := Lib.hid (by rw [hw4]; simp only [heap_drew]; exact HQ4_.out)
            have HB4 : Hid (Below wr.heap.size wr w4) := Lib.hid (by rw [hw4]; exact HB4_.out.drew )
            clear hw4 HQ4_ HB4_ z0 z1 z2 z3 z4 z5 z6 z7 y0 y1 y2 y3 y4 y5 y6 y7
            have HCV := Lib.hid (HCUR.out.on HB4.out)
            have HS4 := Lib.hid HB4.out.size
            have HX4 := Lib.hid (XIN.out.below HB4.out)
            rcases List.eq_nil_or_concat M with hM | ⟨L, y, hM⟩
            · have hp : pushK Ro.key Ro.join (ros M) x.ro = ros M ++ [x.ro] := by rw [hM]; rfl
              have hm0 : m = 0 := by rw [← HM.out, hM]; rfl
              have S1 := Lib.hid (show IntKind.i64.wrap ((m : Int) - 1) = -1 by rw [IntKind.wrap_i64]; omega)
              have S2 := Lib.hid (show wrap64 ((m : Int) - 1) = -1 by unfold wrap64; omega)
              have HP := Lib.hid hp
              have hall4 : ∀ w', Below w4.heap.size w4 w' → BlkAt w' wr.heap.size x := fun w' hb => BlkAt.of ((hb.block wr.heap.size (Array.getElem?_eq_some_iff.1 HQ4.out).1).trans HQ4.out)
              have HALL4 := Lib.hid hall4
              have s1 := S1.out
              have s2 := S2.out
              clear hm0 hM hp hall4
              go_wp2_with fail
              refine wp_region_held_drew (S := fun w' => Below w4.heap.size w4 w') (by kernel_rfl) ?_ (fun hHeld => ?_)
              · exact (Below.refl _ _).drew
              refine takesH [0, 1, 2, 3, 4, 5, 6, 7, 8, 9, 10, 11] ?_
              repeat
                refine takesH_one (v := ?_) ?_ ?_
                rotate_left
                · first | (refine Or.inr ⟨by rfl, ?_⟩; with_reducible rfl) | (refine Or.inl ⟨by rfl, ?_⟩; intro wx hSw; (try dsimp only at hSw); first | (go_simp; first | done | with_reducible rfl))
                try simp only [Act.put, List.getElem_toArray, List.getElem_cons_succ, List.getElem_cons_zero, List.setIfInBounds_toArray, List.set_cons_zero, List.set_cons_succ]
              refine takesH_nil ?_
              refine wpAnyH_done (by kernel_rfl) ?_ _
              have hl8 : Below w4.heap.size w4 w4.drew := (Below.refl _ _).drew
              generalize w4.drew = w8 at hl8 ⊢
              obtain ⟨_, _, _, _, _, _, _, _⟩ := HALL4.out _ hl8
              clear s1 s2
              have hcw := (HCV.out.on hl8).on ((Below.refl _ _).alloc (Nat.le_refl _) (.cells #[.string x.ro.key, .string x.ro.live.s, .bool x.ro.live.d, .int .i64 x.ro.live.a, .int .i64 x.ro.live.e, .int .i64 x.ro.gone, .int .i64 x.ro.shade, .slice x.A x.ro.cols.length x.c] 36))
              have hk1 := RdR.laid w8 x
              have hsx : Safe w (w8) x := Or.inl XIN0.out
              have HCW := Lib.hid hcw; have HK1 := Lib.hid hk1; have HSX := Lib.hid (hsx.on ((Below.refl _ _).alloc (Nat.le_refl _) (.cells #[.string x.ro.key, .string x.ro.live.s, .bool x.ro.live.d, .int .i64 x.ro.live.a, .int .i64 x.ro.live.e, .int .i64 x.ro.gone, .int .i64 x.ro.shade, .slice x.A x.ro.cols.length x.c] 36)))
              clear hcw hk1 hl8 hsx
              go_wp2_with (at_builtin; refine list_ex rfl (.tmp 78) (.tmp 80) _ _ rfl (.slice A0 m c0) (.slice (some ⟨(w8).heap.size, 0, none⟩) 1 1) rfl rfl (run_appR w.heap.size (HM.out ▸ HCW.out.cur.own) HK1.out ?s1 ?s2) ?_)
              case s1 => have h9 := HM.out; have h8 := MP.out.sum; (try simp at h9); (try simp); omega
              case s2 => simpa using HCW.out.below.size
              intro v3 w3 ho3 hg3 hloc3
              obtain ⟨A3, m3, c3, rfl, hm3, hc3⟩ := HCW.out.app (k := [x]) (fun y hy => by rw [List.mem_singleton.1 hy]; exact HSX.out) ho3 hg3
              have HC3 := Lib.hid (MP.out.app HP.out hc3)
              clear hc3 ho3 hg3 hloc3
              go_wp2
              go_roundw
              case rel => exact ⟨_, _, _, _, _, _, _, _, _, rfl, rfl, HC3.out⟩
              case measure => simp [lenS]; omega
            · rw [List.concat_eq_append] at hM
              have HMM := Lib.hid hM
              clear hM
              obtain ⟨u, hu⟩ : ∃ u, L.length = u := ⟨_, rfl⟩
              have hm1 : m = u + 1 := by rw [← HM.out, HMM.out, ← hu]; simp
              have hul : u < M.length := by have := HM.out; omega
              have hMu : M[u] = y := by simp [HMM.out, ← hu]
              have S1 := Lib.hid (show IntKind.i64.wrap ((m : Int) - 1) = (u : Int) by rw [IntKind.wrap_i64]; omega)
              have S2 := Lib.hid (show wrap64 ((m : Int) - 1) = (u : Int) by unfold wrap64; omega)
              obtain ⟨g5, rfl, hg5, hg5', hy5, hf5⟩ := HCV.out.row hul
              rw [hMu] at hy5
              have hall4 : ∀ w', Below w4.heap.size w4 w' → RowAt w' g5 (u * 8) y ∧ BlkAt w' wr.heap.size x := fun w' hb =>
                ⟨hy5.below hb hg5', BlkAt.of ((hb.block wr.heap.size (Array.getElem?_eq_some_iff.1 HQ4.out).1).trans HQ4.out)⟩
              have HALL4 := Lib.hid hall4
              have hysafe := HCV.out.safe y (by rw [HMM.out]; simp)
              have HY4 := Lib.hid (hysafe.ra HCV.out.below)
              have i5 : (u : Int) < m := by omega
              have i6 : (0 : Int) ≤ u := by omega
              have i7 : decide ((0 : Int) ≤ (u : Int)) = true := by simp
              have HU := Lib.hid hu; have HM1 := Lib.hid hm1; have HUL := Lib.hid hul
              clear hall4 hu hm1 hy5 hf5 hul hMu hysafe
              by_cases hn : y.ro.key = x.ro.key
              · have t0 : (tcmp y.ro.key x.ro.key == 0) = true := by rw [beq_iff_eq]; exact tcmp_zero.2 hn
                have HN2 := Lib.hid hn
                have s1 := S1.out
                have s2 := S2.out
                clear hn
                go_wp2_with fail
                refine wp_region_held_drew (S := fun w' => Below w4.heap.size w4 w') (by kernel_rfl) ?_ (fun hHeld => ?_)
                · exact (Below.refl _ _).drew
                refine takesH [0, 1, 2, 3, 4, 5, 6, 7, 8] ?_
                repeat
                  refine takesH_one (v := ?_) ?_ ?_
                  rotate_left
                  · first | (refine Or.inr ⟨by rfl, ?_⟩; with_reducible rfl) | (refine Or.inl ⟨by rfl, ?_⟩; intro wx hSw; (try dsimp only at hSw); first | (go_simp; first | done | with_reducible rfl) | (obtain ⟨⟨_, _, _, _, _, _, _, _⟩, _, _, _, _, _, _, _, _⟩ := HALL4.out _ hSw; go_simp; first | done | with_reducible rfl))
                  try simp only [Act.put, List.getElem_toArray, List.getElem_cons_succ, List.getElem_cons_zero, List.setIfInBounds_toArray, List.set_cons_zero, List.set_cons_succ]
                refine takesH_nil ?_
                refine wpAnyH_ready (rs := [9]) (by kernel_rfl) (by simp) (AllReadyH.cons rfl (fun K hK => ?_) AllReadyH.nil)
                go_simp
                refine (bykey_ra y x _).mono ?_
                rintro e v1 ⟨rfl, b1⟩
                try go_wp2_with fail
                refine hK.out _ _ ?_ (fun hHeld => ?_)
                · exact next (by assumption) b1
                clear hK K
                try simp only [Act.put, List.getElem_toArray, List.getElem_cons_succ, List.getElem_cons_zero, List.setIfInBounds_toArray, List.set_cons_zero, List.set_cons_succ]
                refine takesH [10, 11] ?_
                repeat
                  refine takesH_one (v := ?_) ?_ ?_
                  rotate_left
                  · first | (refine Or.inr ⟨by rfl, ?_⟩; with_reducible rfl) | (refine Or.inl ⟨by rfl, ?_⟩; intro wx hSw; (try dsimp only at hSw); first | (go_simp; first | done | with_reducible rfl))
                  try simp only [Act.put, List.getElem_toArray, List.getElem_cons_succ, List.getElem_cons_zero, List.setIfInBounds_toArray, List.set_cons_zero, List.set_cons_succ]
                refine takesH_nil ?_
                refine wpAnyH_done (by kernel_rfl) ?_ _
                obtain ⟨⟨_, _, _, _, _, _, _, _⟩, _, _, _, _, _, _, _, _⟩ := HALL4.out _ hHeld
                clear s1 s2
                have HH := Lib.hid hHeld
                clear hHeld
                go_wp2_with fail
                go_region_with (first
                  | (go_at_call 37
                     have hbv := next (w := w4) HH.out (show Below v1.heap.size v1 _ by first | exact (Below.refl _ _).drew | exact below_draws _ _ _ | exact Below.refl _ _)
                     refine (join_ra y x w4.heap.size wr.heap.size _ (HY4.out.below hbv) (HX4.out.below (hbv.mono HS4.out)) hbv.size (Nat.le_trans HS4.out hbv.size) ?hs (MP.out.um y (by rw [HMM.out]; simp)) MP.out.ux).mono ?_
                     case hs => have h1 := MP.out.tt; have h2 := tot_mem (L := M) (x := y) (by rw [HMM.out]; simp); omega
                     rintro e v5 ⟨z, rfl, hz, hcz⟩
                     unfold RA.v Ro.val
                     have b5' := next hbv hcz.below
                     obtain ⟨⟨_, _, _, _, _, _, _, _⟩, _, _, _, _, _, _, _, _⟩ := HALL4.out _ b5'
                     have hcl := HCV.out.on b5'
                     have HSZ := Lib.hid (Safe.of_cur (next HCUR.out.below (next HB4.out hbv)) hcz)
                     obtain ⟨g6, e6, _, _, _, hfz⟩ := hcl.row HUL.out
                     cases e6
                     have f0 := hfz (u * 8)
                     have f1 := hfz (u * 8 + 1)
                     have f2 := hfz (u * 8 + 2)
                     have f3 := hfz (u * 8 + 3)
                     have f4 := hfz (u * 8 + 4)
                     have f5 := hfz (u * 8 + 5)
                     have f6 := hfz (u * 8 + 6)
                     have f7 := hfz (u * 8 + 7)
                     have HCL := Lib.hid hcl
                     have HZE := Lib.hid hz
                     clear hcl hfz hz hcz hbv))
                all_goals
                  have hput := HCL.out.put HUL.out z HSZ.out
                  generalize hw6 : (World.setCell (World.setCell (World.setCell (World.setCell (World.setCell (World.setCell (World.setCell (World.setCell v5 ⟨g5, u * 8, none⟩ (.string z.ro.key)) ⟨g5, u * 8 + 1, none⟩ (.string z.ro.live.s)) ⟨g5, u * 8 + 2, none⟩ (.bool z.ro.live.d)) ⟨g5, u * 8 + 3, none⟩ (.int .i64 z.ro.live.a)) ⟨g5, u * 8 + 4, none⟩ (.int .i64 z.ro.live.e)) ⟨g5, u * 8 + 5, none⟩ (.int .i64 z.ro.gone)) ⟨g5, u * 8 + 6, none⟩ (.int .i64 z.ro.shade)) ⟨g5, u * 8 + 7, none⟩ (.slice z.A z.ro.cols.length z.c)) = w6 at hput ⊢
                  have HPUT := Lib.hid (MP.out.put HMM.out HN2.out HZE.out (by rw [HU.out]; exact hput))
                  clear hput f0 f1 f2 f3 f4 f5 f6 f7 b5' hw6
                  go_wp2
                  go_roundw
                  case rel => exact ⟨_, _, _, _, _, _, _, _, _, rfl, rfl, HPUT.out⟩
                  case measure => simp [lenS]; omega
              · have t0 : (tcmp y.ro.key x.ro.key == 0) = false := by rw [beq_eq_false_iff_ne]; exact fun h => hn (tcmp_zero.1 h)
                have hp : pushK Ro.key Ro.join (ros M) x.ro = ros M ++ [x.ro] := by rw [HMM.out, show ros (L ++ [y]) = ros L ++ [y.ro] by simp [ros], pushK_last]; exact if_neg hn
                have HP := Lib.hid hp
                have s1 := S1.out
                have s2 := S2.out
                clear hp hn
                go_wp2_with fail
                refine wp_region_held_drew (S := fun w' => Below w4.heap.size w4 w') (by kernel_rfl) ?_ (fun hHeld => ?_)
                · exact (Below.refl _ _).drew
                refine takesH [0, 1, 2, 3, 4, 5, 6, 7, 8] ?_
                repeat
                  refine takesH_one (v := ?_) ?_ ?_
                  rotate_left
                  · first | (refine Or.inr ⟨by rfl, ?_⟩; with_reducible rfl) | (refine Or.inl ⟨by rfl, ?_⟩; intro wx hSw; (try dsimp only at hSw); first | (go_simp; first | done | with_reducible rfl) | (obtain ⟨⟨_, _, _, _, _, _, _, _⟩, _, _, _, _, _, _, _, _⟩ := HALL4.out _ hSw; go_simp; first | done | with_reducible rfl))
                  try simp only [Act.put, List.getElem_toArray, List.getElem_cons_succ, List.getElem_cons_zero, List.setIfInBounds_toArray, List.set_cons_zero, List.set_cons_succ]
                refine takesH_nil ?_
                refine wpAnyH_ready (rs := [9]) (by kernel_rfl) (by simp) (AllReadyH.cons rfl (fun K hK => ?_) AllReadyH.nil)
                go_simp
                refine (bykey_ra y x _).mono ?_
                rintro e v1 ⟨rfl, b1⟩
                try go_wp2_with fail
                refine hK.out _ _ ?_ (fun hHeld => ?_)
                · exact next (by assumption) b1
                clear hK K
                try simp only [Act.put, List.getElem_toArray, List.getElem_cons_succ, List.getElem_cons_zero, List.setIfInBounds_toArray, List.set_cons_zero, List.set_cons_succ]
                refine takesH [10, 11] ?_
                repeat
                  refine takesH_one (v := ?_) ?_ ?_
                  rotate_left
                  · first | (refine Or.inr ⟨by rfl, ?_⟩; with_reducible rfl) | (refine Or.inl ⟨by rfl, ?_⟩; intro wx hSw; (try dsimp only at hSw); first | (go_simp; first | done | with_reducible rfl))
                  try simp only [Act.put, List.getElem_toArray, List.getElem_cons_succ, List.getElem_cons_zero, List.setIfInBounds_toArray, List.set_cons_zero, List.set_cons_succ]
                refine takesH_nil ?_
                refine wpAnyH_done (by kernel_rfl) ?_ _
                have hl8 := hHeld
                obtain ⟨⟨_, _, _, _, _, _, _, _⟩, _, _, _, _, _, _, _, _⟩ := HALL4.out _ hHeld
                clear s1 s2
                have hcw := (HCV.out.on hl8).on ((Below.refl _ _).alloc (Nat.le_refl _) (.cells #[.string x.ro.key, .string x.ro.live.s, .bool x.ro.live.d, .int .i64 x.ro.live.a, .int .i64 x.ro.live.e, .int .i64 x.ro.gone, .int .i64 x.ro.shade, .slice x.A x.ro.cols.length x.c] 36))
                have hk1 := RdR.laid v1 x
                have hsx : Safe w (v1) x := Or.inl XIN0.out
                have HCW := Lib.hid hcw; have HK1 := Lib.hid hk1; have HSX := Lib.hid (hsx.on ((Below.refl _ _).alloc (Nat.le_refl _) (.cells #[.string x.ro.key, .string x.ro.live.s, .bool x.ro.live.d, .int .i64 x.ro.live.a, .int .i64 x.ro.live.e, .int .i64 x.ro.gone, .int .i64 x.ro.shade, .slice x.A x.ro.cols.length x.c] 36)))
                clear hcw hk1 hl8 hsx
                go_wp2_with (at_builtin; refine list_ex rfl (.tmp 78) (.tmp 80) _ _ rfl (.slice (some ⟨g5, 0, none⟩) m c0) (.slice (some ⟨(v1).heap.size, 0, none⟩) 1 1) rfl rfl (run_appR w.heap.size (HM.out ▸ HCW.out.cur.own) HK1.out ?s1 ?s2) ?_)
                case s1 => have h9 := HM.out; have h8 := MP.out.sum; (try simp at h9); (try simp); omega
                case s2 => simpa using HCW.out.below.size
                intro v3 w3 ho3 hg3 hloc3
                obtain ⟨A3, m3, c3, rfl, hm3, hc3⟩ := HCW.out.app (k := [x]) (fun y hy => by rw [List.mem_singleton.1 hy]; exact HSX.out) ho3 hg3
                have HC3 := Lib.hid (MP.out.app HP.out hc3)
                clear hc3 ho3 hg3 hloc3
                go_wp2
                go_roundw
                case rel => exact ⟨_, _, _, _, _, _, _, _, _, rfl, rfl, HC3.out⟩
                case measure => simp [lenS]; omega
          · have hrun2 : runK Ro.key Ro.join (pushK Ro.key Ro.join (ros M) p.ro) (ros la') (ros (q :: lb')) = R := by rw [← HMS.out.run]; exact (runK_ab _ _ _ _ _ hyx).symm
            have t1 : decide (tcmp p.ro.key q.ro.key ≤ 0) = true := decide_eq_true (tcmp_le.2 hyx)
            obtain ⟨x, hx⟩ : ∃ x, x = p := ⟨_, rfl⟩
            rw [← hx] at hrun2 hc01 hpin t1
            have MP := Lib.hid ((hx ▸ HMS.out : MSt w wr B B' R _ _ n1 n2 c1 c2 (x :: la') (q :: lb') M _).takeA A1' hla' hrun2)
            have XIN0 : Hid (RaIn w w.heap.size x) := Lib.hid (hpin.up HBB.out)
            have XIN : Hid (RaIn wr wr.heap.size x) := Lib.hid ((hpin.below (HCUR.out.below.mono HBB.out)).up (Nat.le_trans HBB.out HWS.out))
            clear hrun2 hla' hlb' hqin hpin hx
            have hall2 : ∀ w', Below U.heap.size U w' → RowAt w' g1 o1 x ∧ RowAt w' g2 o2 q := fun w' hb => by
              have hb2 : Below wr.heap.size wr w' := HAL.out.trans (hb.mono (by have := HUS.out; omega))
              exact ⟨hc01.below hb2 hgw1, hc02.below hb2 hgw2⟩
            have HALL2 := Lib.hid hall2
            have HALLW2 := Lib.hid (fun w' (hb2 : Below wr.heap.size wr w') => And.intro (hc01.below hb2 hgw1) (hc02.below hb2 hgw2))
            have w1 := W1_.out
            have w2 := W2_.out
            clear hc01 hc02 hall2 e1 e2 hyx
            go_wp2_with fail
            rw [← hU]
            clear hU
            have HALL := Lib.hid (fun w' hb => (HALL2.out w' hb).1)
            have HALLW := Lib.hid (fun w' hb => (HALLW2.out w' hb).1)
            refine wp_region_held_drew (S := fun w' => Below U.heap.size U w') (by kernel_rfl) ?_ (fun hHeld => ?_)
            · exact (Below.refl _ _).drew
            refine takesH [0, 1, 2, 3, 4, 5, 6, 7, 8, 9, 10, 11, 12, 13, 14] ?_
            repeat
              refine takesH_one (v := ?_) ?_ ?_
              rotate_left
              · first | (refine Or.inr ⟨by rfl, ?_⟩; with_reducible rfl) | (refine Or.inl ⟨by rfl, ?_⟩; intro wx hSw; (try dsimp only at hSw); first | (go_simp; first | done | with_reducible rfl) | (obtain ⟨⟨_, _, _, _, _, _, _, _⟩, _, _, _, _, _, _, _, _⟩ := HALL2.out _ hSw; go_simp; first | done | with_reducible rfl))
              try simp only [Act.put, List.getElem_toArray, List.getElem_cons_succ, List.getElem_cons_zero, List.setIfInBounds_toArray, List.set_cons_zero, List.set_cons_succ]
            refine takesH_nil ?_
            refine wpAnyH_ready (rs := [15]) (by kernel_rfl) (by simp) (AllReadyH.cons rfl (fun K hK => ?_) AllReadyH.nil)
            go_simp
            refine (bykey_ra _ _ _).mono ?_
            rintro e v1 ⟨rfl, b1⟩
            try go_wp2_with fail
            refine hK.out _ _ ?_ (fun hHeld => ?_)
            · exact next (by assumption) b1
            clear hK K
            try simp only [Act.put, List.getElem_toArray, List.getElem_cons_succ, List.getElem_cons_zero, List.setIfInBounds_toArray, List.set_cons_zero, List.set_cons_succ]
            refine takesH [16, 17, 18] ?_
            repeat
              refine takesH_one (v := ?_) ?_ ?_
              rotate_left
              · first | (refine Or.inr ⟨by rfl, ?_⟩; with_reducible rfl) | (refine Or.inl ⟨by rfl, ?_⟩; intro wx hSw; (try dsimp only at hSw); first | (go_simp; first | done | with_reducible rfl))
              try simp only [Act.put, List.getElem_toArray, List.getElem_cons_succ, List.getElem_cons_zero, List.setIfInBounds_toArray, List.set_cons_zero, List.set_cons_succ]
            refine takesH_nil ?_
            refine wpAnyH_done (by kernel_rfl) ?_ _
            clear t1
            clear w1 w2
            have hlow : Below U.heap.size U v1 := hHeld
            obtain ⟨_, _, _, _, _, _, _, _⟩ := HALL.out _ hlow
            have hq := (hlow.block wr.heap.size (by have := HUS.out; omega)).trans HZ.out
            have z0 := cell_at (i := 0) hq rfl
            have z1 := cell_at (i := 1) hq rfl
            have z2 := cell_at (i := 2) hq rfl
            have z3 := cell_at (i := 3) hq rfl
            have z4 := cell_at (i := 4) hq rfl
            have z5 := cell_at (i := 5) hq rfl
            have z6 := cell_at (i := 6) hq rfl
            have z7 := cell_at (i := 7) hq rfl
            have y0 := thawed_at (i := 0) hq
            have y1 := thawed_at (i := 1) hq
            have y2 := thawed_at (i := 2) hq
            have y3 := thawed_at (i := 3) hq
            have y4 := thawed_at (i := 4) hq
            have y5 := thawed_at (i := 5) hq
            have y6 := thawed_at (i := 6) hq
            have y7 := thawed_at (i := 7) hq
            have HQ4_ := Lib.hid (set8_block hq x)
            have HB4_ := Lib.hid (below_set80 (HAL.out.trans (hlow.mono (by have := HUS.out; omega))) (Nat.le_refl wr.heap.size) x)
            clear hq
            have HLOW := Lib.hid (HAL.out.trans (hlow.mono (by have := HUS.out; omega)))
            go_wp2_with fail
            refine wp_region_held_drew (S := fun w' => Below wr.heap.size wr w') (by kernel_rfl) ?_ (fun hHeld => ?_)
            · exact HLOW.out.drew
            refine takesH [0, 1, 2, 3, 4] ?_
            repeat
              refine takesH_one (v := ?_) ?_ ?_
              rotate_left
              · first | (refine Or.inr ⟨by rfl, ?_⟩; with_reducible rfl) | (refine Or.inl ⟨by rfl, ?_⟩; intro wx hSw; (try dsimp only at hSw); first | (go_simp; first | done | with_reducible rfl) | (obtain ⟨_, _, _, _, _, _, _, _⟩ := HALLW.out _ hSw; go_simp; first | done | with_reducible rfl))
              try simp only [Act.put, List.getElem_toArray, List.getElem_cons_succ, List.getElem_cons_zero, List.setIfInBounds_toArray, List.set_cons_zero, List.set_cons_succ]
            refine takesH_nil ?_
            refine wpAnyH_ready (rs := [5]) (by kernel_rfl) (by simp) (AllReadyH.cons rfl (fun K hK => ?_) AllReadyH.nil)
            go_simp
            refine hK.out _ _ ?_ (fun hHeld => ?_)
            · exact HB4_.out.drew
            clear hK K
            try simp only [Act.put, List.getElem_toArray, List.getElem_cons_succ, List.getElem_cons_zero, List.setIfInBounds_toArray, List.set_cons_zero, List.set_cons_succ]
            refine takesH [6] ?_
            repeat
              refine takesH_one (v := ?_) ?_ ?_
              rotate_left
              · first | (refine Or.inr ⟨by rfl, ?_⟩; with_reducible rfl) | (refine Or.inl ⟨by rfl, ?_⟩; intro wx hSw; (try dsimp only at hSw); first | (go_simp; first | done | with_reducible rfl))
              try simp only [Act.put, List.getElem_toArray, List.getElem_cons_succ, List.getElem_cons_zero, List.setIfInBounds_toArray, List.set_cons_zero, List.set_cons_succ]
            refine takesH_nil ?_
            refine wpAnyH_done (by kernel_rfl) ?_ _
            obtain ⟨w4, hw4⟩ : ∃ w4, w4 = ((World.setCell (World.setCell (World.setCell (World.setCell (World.setCell (World.setCell (World.setCell (World.setCell (v1) ⟨wr.heap.size, 0, none⟩ (.string x.ro.key)) ⟨wr.heap.size, 1, none⟩ (.string x.ro.live.s)) ⟨wr.heap.size, 2, none⟩ (.bool x.ro.live.d)) ⟨wr.heap.size, 3, none⟩ (.int .i64 x.ro.live.a)) ⟨wr.heap.size, 4, none⟩ (.int .i64 x.ro.live.e)) ⟨wr.heap.size, 5, none⟩ (.int .i64 x.ro.gone)) ⟨wr.heap.size, 6, none⟩ (.int .i64 x.ro.shade)) ⟨wr.heap.size, 7, none⟩ (.slice x.A x.ro.cols.length x.c))).drew  := ⟨_, rfl⟩
            rw [← hw4]
            have HQ4 : Hid (w4.heap[wr.heap.size]? = some (.cells #[.string x.ro.key, .string x.ro.live.s, .bool x.ro.live.d, .int .i64 x.ro.live.a, .int .i64 x.ro.live.e, .int .i64 x.ro.gone, .int .i64 x.ro.shade, .slice x.A x.ro.cols.length x.c] 36)) := Lib.hid (by rw [hw4]; simp only [heap_drew]; exact HQ4_.out)
            have HB4 : Hid (Below wr.heap.size wr w4) := Lib.hid (by rw [hw4]; exact HB4_.out.drew )
            clear hw4 HQ4_ HB4_ z0 z1 z2 z3 z4 z5 z6 z7 y0 y1 y2 y3 y4 y5 y6 y7
            have HCV := Lib.hid (HCUR.out.on HB4.out)
            have HS4 := Lib.hid HB4.out.size
            have HX4 := Lib.hid (XIN.out.below HB4.out)
            rcases List.eq_nil_or_concat M with hM | ⟨L, y, hM⟩
            · have hp : pushK Ro.key Ro.join (ros M) x.ro = ros M ++ [x.ro] := by rw [hM]; rfl
              have hm0 : m = 0 := by rw [← HM.out, hM]; rfl
              have S1 := Lib.hid (show IntKind.i64.wrap ((m : Int) - 1) = -1 by rw [IntKind.wrap_i64]; omega)
              have S2 := Lib.hid (show wrap64 ((m : Int) - 1) = -1 by unfold wrap64; omega)
              have HP := Lib.hid hp
              have hall4 : ∀ w', Below w4.heap.size w4 w' → BlkAt w' wr.heap.size x := fun w' hb => BlkAt.of ((hb.block wr.heap.size (Array.getElem?_eq_some_iff.1 HQ4.out).1).trans HQ4.out)
              have HALL4 := Lib.hid hall4
              have s1 := S1.out
              have s2 := S2.out
              clear hm0 hM hp hall4
              go_wp2_with fail
              refine wp_region_held_drew (S := fun w' => Below w4.heap.size w4 w') (by kernel_rfl) ?_ (fun hHeld => ?_)
              · exact (Below.refl _ _).drew
              refine takesH [0, 1, 2, 3, 4, 5, 6, 7, 8, 9, 10, 11] ?_
              repeat
                refine takesH_one (v := ?_) ?_ ?_
                rotate_left
                · first | (refine Or.inr ⟨by rfl, ?_⟩; with_reducible rfl) | (refine Or.inl ⟨by rfl, ?_⟩; intro wx hSw; (try dsimp only at hSw); first | (go_simp; first | done | with_reducible rfl))
                try simp only [Act.put, List.getElem_toArray, List.getElem_cons_succ, List.getElem_cons_zero, List.setIfInBounds_toArray, List.set_cons_zero, List.set_cons_succ]
              refine takesH_nil ?_
              refine wpAnyH_done (by kernel_rfl) ?_ _
              have hl8 : Below w4.heap.size w4 w4.drew := (Below.refl _ _).drew
              generalize w4.drew = w8 at hl8 ⊢
              obtain ⟨_, _, _, _, _, _, _, _⟩ := HALL4.out _ hl8
              clear s1 s2
              have hcw := (HCV.out.on hl8).on ((Below.refl _ _).alloc (Nat.le_refl _) (.cells #[.string x.ro.key, .string x.ro.live.s, .bool x.ro.live.d, .int .i64 x.ro.live.a, .int .i64 x.ro.live.e, .int .i64 x.ro.gone, .int .i64 x.ro.shade, .slice x.A x.ro.cols.length x.c] 36))
              have hk1 := RdR.laid w8 x
              have hsx : Safe w (w8) x := Or.inl XIN0.out
              have HCW := Lib.hid hcw; have HK1 := Lib.hid hk1; have HSX := Lib.hid (hsx.on ((Below.refl _ _).alloc (Nat.le_refl _) (.cells #[.string x.ro.key, .string x.ro.live.s, .bool x.ro.live.d, .int .i64 x.ro.live.a, .int .i64 x.ro.live.e, .int .i64 x.ro.gone, .int .i64 x.ro.shade, .slice x.A x.ro.cols.length x.c] 36)))
              clear hcw hk1 hl8 hsx
              go_wp2_with (at_builtin; refine list_ex rfl (.tmp 78) (.tmp 80) _ _ rfl (.slice A0 m c0) (.slice (some ⟨(w8).heap.size, 0, none⟩) 1 1) rfl rfl (run_appR w.heap.size (HM.out ▸ HCW.out.cur.own) HK1.out ?s1 ?s2) ?_)
              case s1 => have h9 := HM.out; have h8 := MP.out.sum; (try simp at h9); (try simp); omega
              case s2 => simpa using HCW.out.below.size
              intro v3 w3 ho3 hg3 hloc3
              obtain ⟨A3, m3, c3, rfl, hm3, hc3⟩ := HCW.out.app (k := [x]) (fun y hy => by rw [List.mem_singleton.1 hy]; exact HSX.out) ho3 hg3
              have HC3 := Lib.hid (MP.out.app HP.out hc3)
              clear hc3 ho3 hg3 hloc3
              go_wp2
              go_roundw
              case rel => exact ⟨_, _, _, _, _, _, _, _, _, rfl, rfl, HC3.out⟩
              case measure => simp [lenS]; omega
            · rw [List.concat_eq_append] at hM
              have HMM := Lib.hid hM
              clear hM
              obtain ⟨u, hu⟩ : ∃ u, L.length = u := ⟨_, rfl⟩
              have hm1 : m = u + 1 := by rw [← HM.out, HMM.out, ← hu]; simp
              have hul : u < M.length := by have := HM.out; omega
              have hMu : M[u] = y := by simp [HMM.out, ← hu]
              have S1 := Lib.hid (show IntKind.i64.wrap ((m : Int) - 1) = (u : Int) by rw [IntKind.wrap_i64]; omega)
              have S2 := Lib.hid (show wrap64 ((m : Int) - 1) = (u : Int) by unfold wrap64; omega)
              obtain ⟨g5, rfl, hg5, hg5', hy5, hf5⟩ := HCV.out.row hul
              rw [hMu] at hy5
              have hall4 : ∀ w', Below w4.heap.size w4 w' → RowAt w' g5 (u * 8) y ∧ BlkAt w' wr.heap.size x := fun w' hb =>
                ⟨hy5.below hb hg5', BlkAt.of ((hb.block wr.heap.size (Array.getElem?_eq_some_iff.1 HQ4.out).1).trans HQ4.out)⟩
              have HALL4 := Lib.hid hall4
              have hysafe := HCV.out.safe y (by rw [HMM.out]; simp)
              have HY4 := Lib.hid (hysafe.ra HCV.out.below)
              have i5 : (u : Int) < m := by omega
              have i6 : (0 : Int) ≤ u := by omega
              have i7 : decide ((0 : Int) ≤ (u : Int)) = true := by simp
              have HU := Lib.hid hu; have HM1 := Lib.hid hm1; have HUL := Lib.hid hul
              clear hall4 hu hm1 hy5 hf5 hul hMu hysafe
              by_cases hn : y.ro.key = x.ro.key
              · have t0 : (tcmp y.ro.key x.ro.key == 0) = true := by rw [beq_iff_eq]; exact tcmp_zero.2 hn
                have HN2 := Lib.hid hn
                have s1 := S1.out
                have s2 := S2.out
                clear hn
                go_wp2_with fail
                refine wp_region_held_drew (S := fun w' => Below w4.heap.size w4 w') (by kernel_rfl) ?_ (fun hHeld => ?_)
                · exact (Below.refl _ _).drew
                refine takesH [0, 1, 2, 3, 4, 5, 6, 7, 8] ?_
                repeat
                  refine takesH_one (v := ?_) ?_ ?_
                  rotate_left
                  · first | (refine Or.inr ⟨by rfl, ?_⟩; with_reducible rfl) | (refine Or.inl ⟨by rfl, ?_⟩; intro wx hSw; (try dsimp only at hSw); first | (go_simp; first | done | with_reducible rfl) | (obtain ⟨⟨_, _, _, _, _, _, _, _⟩, _, _, _, _, _, _, _, _⟩ := HALL4.out _ hSw; go_simp; first | done | with_reducible rfl))
                  try simp only [Act.put, List.getElem_toArray, List.getElem_cons_succ, List.getElem_cons_zero, List.setIfInBounds_toArray, List.set_cons_zero, List.set_cons_succ]
                refine takesH_nil ?_
                refine wpAnyH_ready (rs := [9]) (by kernel_rfl) (by simp) (AllReadyH.cons rfl (fun K hK => ?_) AllReadyH.nil)
                go_simp
                refine (bykey_ra y x _).mono ?_
                rintro e v1 ⟨rfl, b1⟩
                try go_wp2_with fail
                refine hK.out _ _ ?_ (fun hHeld => ?_)
                · exact next (by assumption) b1
                clear hK K
                try simp only [Act.put, List.getElem_toArray, List.getElem_cons_succ, List.getElem_cons_zero, List.setIfInBounds_toArray, List.set_cons_zero, List.set_cons_succ]
                refine takesH [10, 11] ?_
                repeat
                  refine takesH_one (v := ?_) ?_ ?_
                  rotate_left
                  · first | (refine Or.inr ⟨by rfl, ?_⟩; with_reducible rfl) | (refine Or.inl ⟨by rfl, ?_⟩; intro wx hSw; (try dsimp only at hSw); first | (go_simp; first | done | with_reducible rfl))
                  try simp only [Act.put, List.getElem_toArray, List.getElem_cons_succ, List.getElem_cons_zero, List.setIfInBounds_toArray, List.set_cons_zero, List.set_cons_succ]
                refine takesH_nil ?_
                refine wpAnyH_done (by kernel_rfl) ?_ _
                obtain ⟨⟨_, _, _, _, _, _, _, _⟩, _, _, _, _, _, _, _, _⟩ := HALL4.out _ hHeld
                clear s1 s2
                have HH := Lib.hid hHeld
                clear hHeld
                go_wp2_with fail
                go_region_with (first
                  | (go_at_call 37
                     have hbv := next (w := w4) HH.out (show Below v1.heap.size v1 _ by first | exact (Below.refl _ _).drew | exact below_draws _ _ _ | exact Below.refl _ _)
                     refine (join_ra y x w4.heap.size wr.heap.size _ (HY4.out.below hbv) (HX4.out.below (hbv.mono HS4.out)) hbv.size (Nat.le_trans HS4.out hbv.size) ?hs (MP.out.um y (by rw [HMM.out]; simp)) MP.out.ux).mono ?_
                     case hs => have h1 := MP.out.tt; have h2 := tot_mem (L := M) (x := y) (by rw [HMM.out]; simp); omega
                     rintro e v5 ⟨z, rfl, hz, hcz⟩
                     unfold RA.v Ro.val
                     have b5' := next hbv hcz.below
                     obtain ⟨⟨_, _, _, _, _, _, _, _⟩, _, _, _, _, _, _, _, _⟩ := HALL4.out _ b5'
                     have hcl := HCV.out.on b5'
                     have HSZ := Lib.hid (Safe.of_cur (next HCUR.out.below (next HB4.out hbv)) hcz)
                     obtain ⟨g6, e6, _, _, _, hfz⟩ := hcl.row HUL.out
                     cases e6
                     have f0 := hfz (u * 8)
                     have f1 := hfz (u * 8 + 1)
                     have f2 := hfz (u * 8 + 2)
                     have f3 := hfz (u * 8 + 3)
                     have f4 := hfz (u * 8 + 4)
                     have f5 := hfz (u * 8 + 5)
                     have f6 := hfz (u * 8 + 6)
                     have f7 := hfz (u * 8 + 7)
                     have HCL := Lib.hid hcl
                     have HZE := Lib.hid hz
                     clear hcl hfz hz hcz hbv))
                all_goals
                  have hput := HCL.out.put HUL.out z HSZ.out
                  generalize hw6 : (World.setCell (World.setCell (World.setCell (World.setCell (World.setCell (World.setCell (World.setCell (World.setCell v5 ⟨g5, u * 8, none⟩ (.string z.ro.key)) ⟨g5, u * 8 + 1, none⟩ (.string z.ro.live.s)) ⟨g5, u * 8 + 2, none⟩ (.bool z.ro.live.d)) ⟨g5, u * 8 + 3, none⟩ (.int .i64 z.ro.live.a)) ⟨g5, u * 8 + 4, none⟩ (.int .i64 z.ro.live.e)) ⟨g5, u * 8 + 5, none⟩ (.int .i64 z.ro.gone)) ⟨g5, u * 8 + 6, none⟩ (.int .i64 z.ro.shade)) ⟨g5, u * 8 + 7, none⟩ (.slice z.A z.ro.cols.length z.c)) = w6 at hput ⊢
                  have HPUT := Lib.hid (MP.out.put HMM.out HN2.out HZE.out (by rw [HU.out]; exact hput))
                  clear hput f0 f1 f2 f3 f4 f5 f6 f7 b5' hw6
                  go_wp2
                  go_roundw
                  case rel => exact ⟨_, _, _, _, _, _, _, _, _, rfl, rfl, HPUT.out⟩
                  case measure => simp [lenS]; omega
              · have t0 : (tcmp y.ro.key x.ro.key == 0) = false := by rw [beq_eq_false_iff_ne]; exact fun h => hn (tcmp_zero.1 h)
                have hp : pushK Ro.key Ro.join (ros M) x.ro = ros M ++ [x.ro] := by rw [HMM.out, show ros (L ++ [y]) = ros L ++ [y.ro] by simp [ros], pushK_last]; exact if_neg hn
                have HP := Lib.hid hp
                have s1 := S1.out
                have s2 := S2.out
                clear hp hn
                go_wp2_with fail
                refine wp_region_held_drew (S := fun w' => Below w4.heap.size w4 w') (by kernel_rfl) ?_ (fun hHeld => ?_)
                · exact (Below.refl _ _).drew
                refine takesH [0, 1, 2, 3, 4, 5, 6, 7, 8] ?_
                repeat
                  refine takesH_one (v := ?_) ?_ ?_
                  rotate_left
                  · first | (refine Or.inr ⟨by rfl, ?_⟩; with_reducible rfl) | (refine Or.inl ⟨by rfl, ?_⟩; intro wx hSw; (try dsimp only at hSw); first | (go_simp; first | done | with_reducible rfl) | (obtain ⟨⟨_, _, _, _, _, _, _, _⟩, _, _, _, _, _, _, _, _⟩ := HALL4.out _ hSw; go_simp; first | done | with_reducible rfl))
                  try simp only [Act.put, List.getElem_toArray, List.getElem_cons_succ, List.getElem_cons_zero, List.setIfInBounds_toArray, List.set_cons_zero, List.set_cons_succ]
                refine takesH_nil ?_
                refine wpAnyH_ready (rs := [9]) (by kernel_rfl) (by simp) (AllReadyH.cons rfl (fun K hK => ?_) AllReadyH.nil)
                go_simp
                refine (bykey_ra y x _).mono ?_
                rintro e v1 ⟨rfl, b1⟩
                try go_wp2_with fail
                refine hK.out _ _ ?_ (fun hHeld => ?_)
                · exact next (by assumption) b1
                clear hK K
                try simp only [Act.put, List.getElem_toArray, List.getElem_cons_succ, List.getElem_cons_zero, List.setIfInBounds_toArray, List.set_cons_zero, List.set_cons_succ]
                refine takesH [10, 11] ?_
                repeat
                  refine takesH_one (v := ?_) ?_ ?_
                  rotate_left
                  · first | (refine Or.inr ⟨by rfl, ?_⟩; with_reducible rfl) | (refine Or.inl ⟨by rfl, ?_⟩; intro wx hSw; (try dsimp only at hSw); first | (go_simp; first | done | with_reducible rfl))
                  try simp only [Act.put, List.getElem_toArray, List.getElem_cons_succ, List.getElem_cons_zero, List.setIfInBounds_toArray, List.set_cons_zero, List.set_cons_succ]
                refine takesH_nil ?_
                refine wpAnyH_done (by kernel_rfl) ?_ _
                have hl8 := hHeld
                obtain ⟨⟨_, _, _, _, _, _, _, _⟩, _, _, _, _, _, _, _, _⟩ := HALL4.out _ hHeld
                clear s1 s2
                have hcw := (HCV.out.on hl8).on ((Below.refl _ _).alloc (Nat.le_refl _) (.cells #[.string x.ro.key, .string x.ro.live.s, .bool x.ro.live.d, .int .i64 x.ro.live.a, .int .i64 x.ro.live.e, .int .i64 x.ro.gone, .int .i64 x.ro.shade, .slice x.A x.ro.cols.length x.c] 36))
                have hk1 := RdR.laid v1 x
                have hsx : Safe w (v1) x := Or.inl XIN0.out
                have HCW := Lib.hid hcw; have HK1 := Lib.hid hk1; have HSX := Lib.hid (hsx.on ((Below.refl _ _).alloc (Nat.le_refl _) (.cells #[.string x.ro.key, .string x.ro.live.s, .bool x.ro.live.d, .int .i64 x.ro.live.a, .int .i64 x.ro.live.e, .int .i64 x.ro.gone, .int .i64 x.ro.shade, .slice x.A x.ro.cols.length x.c] 36)))
                clear hcw hk1 hl8 hsx
                go_wp2_with (at_builtin; refine list_ex rfl (.tmp 78) (.tmp 80) _ _ rfl (.slice (some ⟨g5, 0, none⟩) m c0) (.slice (some ⟨(v1).heap.size, 0, none⟩) 1 1) rfl rfl (run_appR w.heap.size (HM.out ▸ HCW.out.cur.own) HK1.out ?s1 ?s2) ?_)
                case s1 => have h9 := HM.out; have h8 := MP.out.sum; (try simp at h9); (try simp); omega
                case s2 => simpa using HCW.out.below.size
                intro v3 w3 ho3 hg3 hloc3
                obtain ⟨A3, m3, c3, rfl, hm3, hc3⟩ := HCW.out.app (k := [x]) (fun y hy => by rw [List.mem_singleton.1 hy]; exact HSX.out) ho3 hg3
                have HC3 := Lib.hid (MP.out.app HP.out hc3)
                clear hc3 ho3 hg3 hloc3
                go_wp2
                go_roundw
                case rel => exact ⟨_, _, _, _, _, _, _, _, _, rfl, rfl, HC3.out⟩
                case measure => simp [lenS]; omega
end Go.Proofs.Ytafbbojfifcncaa
