/-
  A row of two partitions by numbers, joined by itself (plain).
-/
import Derived.Test.YtafbbojfifcncaaProg
import Derived.Deep.RegionHeld3
import Derived.Test.YtafbbojfifcncaaNx4
import Derived.Test.YtafbbojfifcncaaRoB
import Derived.Test.YtafbbojfifcncaaRoK
import Derived.Test.YtafbbojfifcncaaCe5
import Derived.Deep.DeepCutAuto
import Derived.Lib.BitFns
import Derived.Lib.ItoaNum
import Derived.WalkKit
import Derived.BigCall
import Derived.Lib.Hide
import Derived.ArgAppend
import Derived.Deep.AppendLies
import Derived.Lib.UnsafeStr
import Derived.Lib.BufferWrite
import Derived.Laws.IdiomStrings
import Derived.Laws.BytesArg
import Derived.Test.YtafbbojfifcncaaPlc
import Derived.Laws.Bits64
import Derived.LoopTactic
import Derived.Outline
import Derived.WalkSpells
import Derived.Test.YtafbbojfifcncaaPk
import Derived.Test.YtafbbojfifcncaaRoU
import Derived.Test.YtafbbojfifcncaaRoL
import Derived.Test.YtafbbojfifcncaaPp
import Derived.Test.YtafbbojfifcncaaPo
import Derived.Test.YtafbbojfifcncaaPd3
import Derived.Test.YtafbbojfifcncaaPd7
import Derived.Test.YtafbbojfifcncaaRw2
import Derived.Lib.SmallJoins
import Derived.Test.YtafbbojfifcncaaPc2
set_option linter.unusedVariables false
set_option linter.unusedSimpArgs false
namespace Go.Proofs.Ytafbbojfifcncaa
open Go

section
variable {P : Program} {ops : Array Oper} {Q : Exit → Act → World → Prop} {md : Region.Mode} {T : Array Bool → Act → World → Prop} {R : World → World → Prop} {D : World → Prop}

/-- A step leaves a frame as it was, but for its own slot (and what is deferred). -/
def Only (o : Oper) (a a' : Act) : Prop := ∃ u ds, a' = ({ a with defers := ds } : Act).put o.dst u
theorem step_only {j : Nat} {oj : Oper} (hj : ops[j]? = some oj) {K : Act → World → Prop} {a : Act} {w : World} (h : wpOp P ops Q j K a w) : wpOp P ops Q j (fun a' w' => K a' w' ∧ Only oj a a') a w := by
  have here : ∀ (u : Value) (w' : World), K (a.put oj.dst u) w' → K (a.put oj.dst u) w' ∧ Only oj a (a.put oj.dst u) := fun u w' hk => ⟨hk, u, a.defers, rfl⟩
  unfold wpOp at h ⊢
  rw [hj] at h ⊢
  dsimp only at h ⊢
  by_cases hw : Region.wanted oj (yielded ops a.tmps) = true
  · rw [if_pos hw] at h ⊢
    refine h.imp_left fun h => ?_
    unfold Oper.wp at h ⊢
    rcases hrun : (execOp a.eval oj).run P w with ⟨n, w'⟩ | ⟨x, w'⟩
    · rw [hrun] at h
      cases n with
      | value u => exact here u w' h
      | skip => exact here undef w' h
      | defer d => exact ⟨h, undef, d :: a.defers, rfl⟩
      | enter f args =>
        refine Calls.mono h fun e w'' he => ?_
        cases e with
        | returned u => exact here u w'' he
        | panicked c => exact he
        | outgrown => exact he
      | row row args => exact Rows.mono h fun u w'' he => here u w'' he
      | _ => exact h
    · rw [hrun] at h
      cases x <;> exact h
  · rw [if_neg hw] at h ⊢
    exact here undef w h

/-- What comes of an operation: a value and the world as it was; or a call that hands it back, in a world that may come. -/
def Out (P : Program) (R : World → World → Prop) (E : Sem Next) (v : Value) (w : World) : Prop :=
  E.run P w = .ok (.value v) w ∨ ∃ f args, E.run P w = .ok (.enter f args) w ∧ Calls P f args w fun e w' => e = .returned v ∧ R w w'
def Gives (P : Program) (ops : Array Oper) (R : World → World → Prop) (D : World → Prop) (o : Oper) (v : Value) (a : Act) : Prop :=
  (Region.wanted o (yielded ops a.tmps) = true ∧ ∀ w, D w → Out P R (execOp a.eval o) v w) ∨ (Region.wanted o (yielded ops a.tmps) = false ∧ v = undef)
theorem Gives.step {i : Nat} {o : Oper} {v : Value} {a : Act} (hi : ops[i]? = some o) (h : Gives P ops R D o v a) {w : World} (hD : D w) (hr : R w w) {K : Act → World → Prop} (hk : ∀ w', R w w' → K (a.put o.dst v) w') : wpOp P ops Q i K a w := by
  unfold wpOp
  rw [hi]
  dsimp only
  rcases h with ⟨hw, h⟩ | ⟨hw, rfl⟩
  · rw [if_pos hw]
    refine Or.inl ?_
    unfold Oper.wp
    rcases h w hD with hrun | ⟨f, args, hrun, hc⟩ <;> rw [hrun]
    · exact hk w hr
    · exact hc.mono fun e w' ⟨he, hR⟩ => by subst he; exact hk w' hR
  · rw [if_neg (by rw [hw]; decide)]
    exact hk w hr

/-- Whatever comes up next, what is known is known of it, and from whatever world may come of it the rest goes. -/
def Goes (P : Program) (md : Region.Mode) (ops : Array Oper) (Q : Exit → Act → World → Prop) (T : Array Bool → Act → World → Prop) (R : World → World → Prop) : Nat → Array Bool → Act → World → Prop
  | 0, L, a, w => Region.ready md ops L = [] ∧ Q .normal a w
  | n + 1, L, a, w => (Region.ready md ops L = [] → Q .normal a w) ∧ ∀ i ∈ Region.ready md ops L,
      wpOp P ops Q i (fun a' w' => T (L.setIfInBounds i true) a' w' ∧ ∀ w'', R w' w'' → T (L.setIfInBounds i true) a' w'' → Goes P md ops Q T R n (L.setIfInBounds i true) a' w'') a w
theorem goes_any (hr : ∀ w, R w w) : ∀ (n : Nat) (L : Array Bool) (a : Act) (w : World), Goes P md ops Q T R n L a w → wpAny P md ops Q n L a w
  | 0, _, _, _, h => h
  | n + 1, _, _, _, h => ⟨h.1, fun i hi => wpOp_mono (fun a' w' hk => goes_any hr n _ a' w' (hk.2 w' (hr w') hk.1)) (h.2 i hi)⟩
/-- The side conditions of taking operation i first. -/
structure First (ops : Array Oper) (md : Region.Mode) (i : Nat) (oi : Oper) (Q : Exit → Act → World → Prop) (v : Value) : Prop where
  at_ : ops[i]? = some oi
  sel : ∀ (j : Nat) (o : Oper) cs b, ops[j]? = some o → o.op ≠ .select cs b
  self : ∀ d, oi.dst = some d → d ∉ oi.looksAt ops
  out : ∀ c a w, Q (.panic c) (a.put oi.dst v) w → Q (.panic c) a w
/-- No operation that is still to come touches what i reads or writes, but those that wait for it. -/
def Clear (ops : Array Oper) (md : Region.Mode) (i : Nat) (oi : Oper) (L : Array Bool) : Prop :=
  ∀ j oj, ops[j]? = some oj → j ≠ i → L.getD j true = false → (∀ e ∈ oj.after, Region.binds md e = true → e.on ≠ i) → oi.apart ops oj = true
theorem Clear.on {i : Nat} {oi : Oper} {L : Array Bool} (h : Clear ops md i oi L) (j : Nat) : Clear ops md i oi (L.setIfInBounds j true) := fun k ok hk hne hun hno => by
  refine h k ok hk hne ?_ hno
  rcases Nat.decEq j k with hjk | hjk
  · rwa [getD_set_ne true hjk] at hun
  · subst hjk
    rcases Nat.lt_or_ge j L.size with hs | hs
    · simp [hs] at hun
    · simp [Array.getElem?_eq_none hs] at hun
/-- **What is ready and gives one value in whatever world may be first.** F: what lists it may be ready in (kept by all that does not wait for it). -/
theorem goes_first {i : Nat} {oi : Oper} {v : Value} (hi : First ops md i oi Q v) (hr : ∀ w, R w w) (ht : ∀ {x y z}, R x y → R y z → R x z) (F : Array Bool → Prop)
    (hF : ∀ L j oj, F L → ops[j]? = some oj → (∀ e ∈ oj.after, Region.binds md e = true → e.on ≠ i) → F (L.setIfInBounds j true))
    (hD : ∀ L a w, F L → T L a w → D w) (hG : ∀ L a w w', F L → T L a w → R w w' → T L a w')
    (hT : ∀ L a w, F L → (T L a w ↔ T (L.setIfInBounds i true) (a.put oi.dst v) w)) :
    ∀ (n : Nat) (L : Array Bool) (a : Act) (w : World), F L → Clear ops md i oi L → i ∈ Region.ready md ops L → Gives P ops R D oi v a → T L a w →
      (∀ w', R w w' → T L a w' → Goes P md ops Q T R n (L.setIfInBounds i true) (a.put oi.dst v) w') → Goes P md ops Q T R (n + 1) L a w
  | n, L, a, w, hFL, hC, hir, hy, hTw, H => by
    have none_ : Region.ready md ops L = [] → Q .normal a w := fun e => by rw [e] at hir; cases hir
    refine ⟨none_, fun j hj => ?_⟩
    rcases Nat.decEq j i with hne | heq
    · -- another one comes up: i may have been first
      obtain ⟨hun, oj, hoj, hdep⟩ := mem_ready.1 hj
      have hno : ∀ e ∈ oj.after, Region.binds md e = true → e.on ≠ i := fun e he hb hon => by
        have hl := hdep e he hb
        have hu := (mem_ready.1 hir).1
        rw [hon] at hl
        rcases Nat.lt_or_ge i L.size with hs | hs
        · simp [hs] at hu hl
          rw [hu] at hl
          cases hl
        · simp [Array.getElem?_eq_none hs] at hl
      have hap := hC j oj hoj hne hun hno
      obtain ⟨p1, p2, p3⟩ := Oper.apart_spec hap
      cases n with
      | zero =>
        have h0 := (H w (hr w) hTw).1
        have hjr := ready_mono hj hne
        rw [h0] at hjr
        cases hjr
      | succ n =>
        have h1 := (H w (hr w) hTw).2 j (ready_mono hj hne)
        have hyF : YieldsIf P ops (fun _ => False) oi v a := hy.imp (fun h => ⟨h.1, fun _ hf => hf.elim⟩) id
        have h2 := wpOp_putIf hoj hap (fun cs b => hi.sel i oi cs b hi.at_) (fun cs b => hi.sel j oj cs b hoj) hi.out hyF (step_only hoj h1)
        refine wpOp_mono (fun a' w' hk => ?_) h2
        obtain ⟨_, ⟨hT', hgo⟩, u, ds, hon⟩ := hk
        rw [Array.setIfInBounds_comm _ _ (Ne.symm hne)] at hT' hgo
        have hF' := hF L j oj hFL hoj hno
        have hT2 := (hT _ a' w' hF').2 hT'
        -- i reads at a' what it read at a
        have eval_ : execOp a'.eval oi = execOp a.eval oi := by
          rw [← execOp_put oi (fun cs b => hi.sel i oi cs b hi.at_) a' oi.dst v hi.self, hon, execOp_put oi (fun cs b => hi.sel i oi cs b hi.at_) _ oj.dst u p3]
          exact execOp_put oi (fun cs b => hi.sel i oi cs b hi.at_) a oi.dst v hi.self
        have want_ : Region.wanted oi (yielded ops a'.tmps) = Region.wanted oi (yielded ops a.tmps) := by
          rw [← wanted_put oi a' oi.dst v hi.self, hon, wanted_put oi _ oj.dst u p3]
          exact wanted_put oi a oi.dst v hi.self
        have hy' : Gives P ops R D oi v a' := by
          unfold Gives at hy ⊢
          rw [eval_, want_]
          exact hy
        refine ⟨hT2, fun w'' hw hTw'' => goes_first hi hr ht F hF hD hG hT n _ a' w'' hF' (hC.on j) (ready_mono hir (Ne.symm hne)) hy' hTw'' fun w3 hw3 hT3 => ?_⟩
        exact hgo w3 (ht hw hw3) ((hT _ a' w3 hF').1 hT3)
    · subst heq
      refine hy.step hi.at_ (hD L a w hFL hTw) (hr w) fun w' hw => ?_
      have h1 := hG L a w w' hFL hTw hw
      exact ⟨(hT L a w' hFL).1 h1, fun w'' hw2 hT2 => H w'' (ht hw hw2) ((hT L a w'' hFL).2 hT2)⟩

/-! A region whose last operation, z, writes what others read: S is known till z comes up; each world is the one at hand. -/
variable {S : World → Prop} {z : Nat}
def knownZ (S : World → Prop) (z : Nat) : Array Bool → Act → World → Prop := fun L _ w => L.getD z true = false → S w
def wpAnyZ (P : Program) (md : Region.Mode) (ops : Array Oper) (Q : Exit → Act → World → Prop) (S : World → Prop) (z : Nat) : Nat → Array Bool → Act → World → Prop := Goes P md ops Q (knownZ S z) Eq
/-- Does operation z wait for i? Does i leave alone what it reads? -/
def waitsB (md : Region.Mode) (ops : Array Oper) (z i : Nat) : Bool := match ops[z]?, ops[i]? with
  | some o, some oi => o.after.any (fun e => Region.binds md e && e.on == i) && (match oi.dst with | some d => !(oi.looksAt ops).contains d | none => true)
  | _, _ => false
theorem wpAnyZ_take {i : Nat} {oi : Oper} {v : Value} {fuel : Nat} {listed : Array Bool} {a : Act} {w : World} (hi : ops[i]? = some oi)
    (hs : Region.noSelect ops = true) (hf : Region.free md ops listed i = true) (hr : (Region.ready md ops listed).contains i = true) (hz : (waitsB md ops z i && !listed.getD z true) = true)
    (hQ : ∀ c a w, Q (.panic c) (a.put oi.dst v) w → Q (.panic c) a w) (hy : YieldsIf P ops S oi v a) (hS : S w)
    (h : wpAnyZ P md ops Q S z fuel (listed.setIfInBounds i true) (a.put oi.dst v) w) : wpAnyZ P md ops Q S z (fuel + 1) listed a w := by
  rw [Bool.and_eq_true, Bool.not_eq_true'] at hz
  obtain ⟨hz1, hz2⟩ := hz
  unfold waitsB at hz1
  cases ho : ops[z]? with
  | none => rw [ho] at hz1; cases hz1
  | some oz =>
    rw [ho, hi] at hz1
    simp only [Bool.and_eq_true] at hz1
    obtain ⟨hw1, hw2⟩ := hz1
    obtain ⟨k, hk, he⟩ := Array.any_eq_true.1 hw1
    rw [Bool.and_eq_true, beq_iff_eq] at he
    have zi : z ≠ i ∨ True := Or.inr trivial
    have hself : ∀ d, oi.dst = some d → d ∉ oi.looksAt ops := fun d hd => by
      rw [hd] at hw2
      simpa using hw2
    have hready : i ∈ Region.ready md ops listed := by simpa using hr
    -- a list that i may be added to or not: z is none of it
    have hset : ∀ (L : Array Bool) (j : Nat), j ≠ z → (L.setIfInBounds j true).getD z true = L.getD z true := fun L j hj => getD_set_ne true hj
    have hiz : i ≠ z := fun e => by
      subst e
      have := mem_ready.1 hready
      obtain ⟨hl0, o, ho', hd⟩ := this
      rw [ho] at ho'
      injection ho' with ho'
      subst ho'
      have h1 := hd _ (Array.getElem_mem hk) he.1
      rw [he.2] at h1
      rcases Nat.lt_or_ge i listed.size with hs2 | hs2
      · simp [hs2] at h1 hz2
        rw [h1] at hz2
        cases hz2
      · simp [Array.getElem?_eq_none hs2] at h1
    exact goes_first (D := S) (R := Eq) (T := knownZ S z) ⟨hi, Region.noSelect_spec hs, hself, hQ⟩ (fun _ => rfl) (fun h h' => h.trans h') (fun L => L.getD z true = false)
      (fun L j oj hL hj hno => by
        refine (hset L j fun e => ?_).trans hL
        subst e
        rw [ho] at hj
        injection hj with hj
        subst hj
        exact hno _ (Array.getElem_mem hk) he.1 he.2)
      (fun L a w hL hT => hT hL) (fun L a w w' hL hT e => e ▸ hT) (fun L a w hL => by unfold knownZ; rw [hset L i hiz])
      fuel listed a w hz2 (Region.free_spec hi hf) hready (hy.imp (fun h => ⟨h.1, fun w hw => Or.inl (h.2 w hw)⟩) id) (fun _ => hS) (fun w' e _ => by subst e; exact h)
theorem wpAnyZ_done {listed : Array Bool} {a : Act} {w : World} (hr : Region.ready md ops listed = []) (h : Q .normal a w) : ∀ fuel, wpAnyZ P md ops Q S z fuel listed a w
  | 0 => ⟨hr, h⟩
  | _ + 1 => ⟨fun _ => h, fun i hi => by rw [hr] at hi; cases hi⟩
/-- One alone may come up. -/
theorem wpAnyZ_one {fuel : Nat} {listed : Array Bool} {a : Act} {w : World} {i : Nat} {o : Oper} (hr : Region.ready md ops listed = [i]) (ho : ops[i]? = some o)
    (h : ∀ K' : Act → World → Prop, Shut (∀ a w, S w → (S w → wpAnyZ P md ops Q S z fuel (listed.setIfInBounds i true) a w) → K' a w) → if Region.wanted o (yielded ops a.tmps) = true then Oper.wp P o a w K' Q else K' (a.put o.dst undef) w) :
    wpAnyZ P md ops Q S z (fuel + 1) listed a w := by
  refine ⟨fun e => (by rw [hr] at e; cases e), fun j hj => ?_⟩
  rw [hr] at hj
  rw [List.mem_singleton.1 hj]
  exact wpOp_step ho fun K' hK => h K' fun a' w' hS hgo => hK a' w' ⟨fun _ => hS, fun w'' e _ => by subst e; exact hgo hS⟩
/-- .. and it is z. -/
theorem wpAnyZ_last {fuel : Nat} {listed : Array Bool} {a : Act} {w : World} {o : Oper} (hr : Region.ready md ops listed = [z]) (ho : ops[z]? = some o)
    (h : ∀ K' : Act → World → Prop, Shut (∀ a w, wpAnyZ P md ops Q S z fuel (listed.setIfInBounds z true) a w → K' a w) → if Region.wanted o (yielded ops a.tmps) = true then Oper.wp P o a w K' Q else K' (a.put o.dst undef) w) :
    wpAnyZ P md ops Q S z (fuel + 1) listed a w := by
  refine ⟨fun e => (by rw [hr] at e; cases e), fun j hj => ?_⟩
  rw [hr] at hj
  rw [List.mem_singleton.1 hj]
  refine wpOp_step ho fun K' hK => h K' fun a' w' hgo => hK a' w' ⟨fun e => ?_, fun w'' e _ => by subst e; exact hgo⟩
  rcases Nat.lt_or_ge z listed.size with hs | hs
  · simp [hs] at e
  · simp [Array.getElem?_eq_none hs] at e
theorem wp_region_z {id : Nat} {a : Act} {w : World} (z : Nat) (hm : P.follows .mixedOrders = true) (hS : S w.drew)
    (h : S w.drew → wpAnyZ P .any ops Q S z ops.size (Array.replicate ops.size false) a w.drew) : (Code.region id ops true).wp P Q a w :=
  wp_region_any hm (goes_any (fun _ => rfl) _ _ _ _ (h hS))
/-- More may be held from here on. -/
theorem held_upz {S' : World → Prop} (hSS : ∀ w, S' w → S w) : ∀ (fuel : Nat) (listed : Array Bool) (a : Act) (w : World), wpAnyZ P md ops Q S' z fuel listed a w → wpAnyZ P md ops Q S z fuel listed a w
  | 0, _, _, _, h => h
  | fuel + 1, _, _, _, h => ⟨h.1, fun i hi => wpOp_mono (fun a' w' hk => ⟨fun hz => hSS _ (hk.1 hz), fun w'' e _ => by subst e; exact held_upz hSS fuel _ a' w' (hk.2 w' rfl hk.1)⟩) (h.2 i hi)⟩
end
end Go.Proofs.Ytafbbojfifcncaa
set_option linter.unusedVariables false
set_option linter.unusedSimpArgs false
namespace Go.Proofs.Ytafbbojfifcncaa
open Go Go.RowKit Go.Joins

/-- The name of the column of a number. -/
def nm (t : Nat) : ByteArray := ⟨#[UInt8.ofNat (97 + t)]⟩
/-- Columns by numbers, with names below the one of t. -/
structure ColsTo (t : Nat) (l : Cols) : Prop where
  rise : Rise l
  all : ∀ x ∈ l, colB x = true ∧ x.1.size ≤ 1 ∧ x.2.s.size ≤ 1 ∧ nlt x.1 (nm t)
  len : l.length ≤ t
  nms : ∀ x ∈ l, ∃ i, i < t ∧ x.1 = nm i
theorem rise_snoc : ∀ {l : Cols} {x : ByteArray × Ce}, Rise l → (∀ y ∈ l, nlt y.1 x.1) → Rise (l ++ [x])
  | [], x, _, _ => ⟨fun y hy => (by cases hy), trivial⟩
  | z :: l, x, hr, h => ⟨fun y hy => by
      rcases List.mem_append.1 hy with h1 | h1
      · exact hr.1 y h1
      · rw [List.mem_singleton.1 h1]
        exact h z (List.mem_cons_self ..), rise_snoc hr.2 fun y hy => h y (List.mem_cons_of_mem _ hy)⟩
theorem ColsTo.nil (t : Nat) : ColsTo t [] := ⟨trivial, fun x hx => (by cases hx), Nat.zero_le _, fun x hx => (by cases hx)⟩
theorem ColsTo.next {t : Nat} {l : Cols} (h : ColsTo t l) (hn : nlt (nm t) (nm (t + 1))) : ColsTo (t + 1) l :=
  ⟨h.rise, fun x hx => by
    obtain ⟨h1, h2, h3, h4⟩ := h.all x hx
    exact ⟨h1, h2, h3, nlt_tr h4 hn⟩, Nat.le_succ_of_le h.len, fun x hx => by
    obtain ⟨i, hi, e⟩ := h.nms x hx
    exact ⟨i, by omega, e⟩⟩
theorem ColsTo.snoc {t : Nat} {l : Cols} (h : ColsTo t l) (hn : nlt (nm t) (nm (t + 1))) (hb : nameB (nm t) = true) {c : Ce} (hc : c.ok = true ∧ c.s.size ≤ 1 ∧ 1 ≤ c.a) : ColsTo (t + 1) (l ++ [(nm t, c)]) := by
  refine ⟨rise_snoc h.rise fun y hy => (h.all y hy).2.2.2, fun x hx => ?_, by have := h.len; simp; omega, fun x hx => (List.mem_append.1 hx).elim (fun h1 => (h.next hn).nms x h1) fun h1 => ⟨t, by omega, by rw [List.mem_singleton.1 h1]⟩⟩
  rcases List.mem_append.1 hx with h1 | h1
  · exact (h.next hn).all x h1
  · rw [List.mem_singleton.1 h1]
    refine ⟨?_, by show 1 ≤ 1; omega, hc.2.1, hn⟩
    unfold colB
    simp only
    rw [hb, hc.1, decide_eq_true hc.2.2]
    rfl
theorem nm_facts : (∀ t, t < 4 → nlt (nm t) (nm (t + 1)) ∧ nameB (nm t) = true) := by decide
theorem ColsTo.ok {t : Nat} {l : Cols} (h : ColsTo t l) : colsB l = true := colsB_of h.rise fun x hx => (h.all x hx).1

theorem own_lower {w : World} {b b' n size : Nat} {e : TypeId} {v : Value} {xs : List Value} (h : w.ownsRow b e size v n xs) (hb : b' ≤ b) : w.ownsRow b' e size v n xs := by
  refine ⟨h.1, ?_⟩
  rcases h.2 with ⟨rfl, rfl⟩ | ⟨g, cap, cur, rfl, h2, h3⟩
  · exact Or.inl ⟨rfl, rfl⟩
  · exact Or.inr ⟨g, cap, cur, rfl, by omega, h3⟩
/-- The row under way, at block r. -/
def RB (w : World) (r : Nat) (k : ByteArray) (a e g : Int) (A : Option Addr) (n c : Nat) : Prop := w.heap[r]? = some (.cells #[.string k, .string ⟨#[]⟩, .bool false, .int .i64 a, .int .i64 e, .int .i64 g, .int .i64 0, .slice A n c] 36 (0, 0))
theorem RB.cells {w : World} {r : Nat} {k : ByteArray} {a e g : Int} {A : Option Addr} {n c : Nat} (h : RB w r k a e g A n c) : RoAt w r k ⟨#[]⟩ false a e g 0 A n c :=
  ⟨cell_at h rfl, cell_at h rfl, cell_at h rfl, cell_at h rfl, cell_at h rfl, cell_at h rfl, cell_at h rfl, cell_at h rfl⟩

theorem names_any (w : World) :
    Calls Try.prog 82 #[] w fun x w' => x = .returned (.slice (some ⟨w.heap.size, 0, none⟩) 4 4) ∧ w' = w.alloc (.cells #[.string (nm 0), .string (nm 1), .string (nm 2), .string (nm 3)] 9) := by
  go_enter Try.func82, Try.ntmps82
  go_wp2
  go_ret
  exact ⟨rfl, rfl⟩
set_option maxRecDepth 8000 in
set_option maxHeartbeats 4000000 in
theorem row_gen (q B : Nat) (key : ByteArray) (w : World) (h : LQ w q B) (hBq : B ≤ q) :
    Calls Try.prog 70 #[.pointer (some ⟨q, 0, none⟩), .string key] w fun x w' => ∃ (a e g : Int) (l : Cols) (A : Option Addr) (c : Nat), x = .returned (.agg #[.string key, .string ⟨#[]⟩, .bool false, .int .i64 a, .int .i64 e, .int .i64 g, .int .i64 0, .slice A l.length c]) ∧ (0 ≤ a ∧ a ≤ 8 ∧ 0 ≤ e ∧ e ≤ 11 ∧ 0 ≤ g ∧ g ≤ 8 ∧ (a = 0 → e = 0)) ∧ ColsTo 4 l ∧ w'.ownsRow w.heap.size 66 5 (.slice A l.length c) l.length (kRow l) ∧ LQ w' q B ∧ Kept (fun k => k = q) w w' := by
  have hq := h.lt
  have hz0 := heap_alloc_new w (.cells #[.string ⟨#[]⟩, .string ⟨#[]⟩, .bool false, .int .i64 0, .int .i64 0, .int .i64 0, .int .i64 0, .slice none 0 0] 36)
  have hz1 := heap_alloc_new (w.alloc (.cells #[.string ⟨#[]⟩, .string ⟨#[]⟩, .bool false, .int .i64 0, .int .i64 0, .int .i64 0, .int .i64 0, .slice none 0 0] 36)) (.cells #[.string key, .string ⟨#[]⟩, .bool false, .int .i64 0, .int .i64 0, .int .i64 0, .int .i64 0, .slice none 0 0] 36)
  simp only [World.size_alloc] at hz1
  have hz0' := at_new hz0 (.cells #[.string key, .string ⟨#[]⟩, .bool false, .int .i64 0, .int .i64 0, .int .i64 0, .int .i64 0, .slice none 0 0] 36)
  have bz := ((Below.refl w.heap.size w).alloc (Nat.le_refl _) (.cells #[.string ⟨#[]⟩, .string ⟨#[]⟩, .bool false, .int .i64 0, .int .i64 0, .int .i64 0, .int .i64 0, .slice none 0 0] 36)).alloc (by simp) (.cells #[.string key, .string ⟨#[]⟩, .bool false, .int .i64 0, .int .i64 0, .int .i64 0, .int .i64 0, .slice none 0 0] 36)
  obtain ⟨U, hU⟩ : ∃ U, U = (w.alloc (.cells #[.string ⟨#[]⟩, .string ⟨#[]⟩, .bool false, .int .i64 0, .int .i64 0, .int .i64 0, .int .i64 0, .slice none 0 0] 36)).alloc (.cells #[.string key, .string ⟨#[]⟩, .bool false, .int .i64 0, .int .i64 0, .int .i64 0, .int .i64 0, .slice none 0 0] 36) := ⟨_, rfl⟩
  have hUs : U.heap.size = w.heap.size + 2 := by rw [hU]; simp
  rw [← hU] at hz0' hz1 bz
  have HL := Lib.hid (h.below bz (by omega)); have HZ0 := Lib.hid hz0'; have HZ1 := Lib.hid hz1; have BZ := Lib.hid bz; have HUS := Lib.hid hUs
  clear hz0 hz0' hz1 bz hUs h
  go_enter Try.func70, Try.ntmps70
  go_wp2_with fail
  rw [← hU]
  clear hU
  refine (next_gen q B 1048576 _ HL.out hBq (by omega) (by omega)).mono ?_
  rintro x w1 ⟨v, rfl, v0, v1, hl1, hk1⟩
  have hs1 := hk1.size
  have R1 : Hid (RB w1 (w.heap.size + 1) key 0 0 0 none 0 0) := Lib.hid ((hk1.block (w.heap.size + 1) (by have := HUS.out; omega) (by omega)).trans HZ1.out)
  have Z1 := Lib.hid ((hk1.block w.heap.size (by have := HUS.out; omega) (by omega)).trans HZ0.out)
  have K1 : Hid (Kept (fun k => k = q) w w1) := Lib.hid ((Kept.of_below BZ.out _).trans hk1 fun k hk => Or.inl hk)
  have L1 := Lib.hid hl1
  have td : ∀ (m k : Int), 0 ≤ m → m < 1048576 → 1 ≤ k → 0 ≤ m.tdiv k ∧ m.tdiv k < 1048576 := fun m k h0 h1 hk => by
    rw [Int.tdiv_eq_ediv_of_nonneg h0]
    exact ⟨Int.ediv_nonneg h0 (by omega), Int.lt_of_le_of_lt (Int.ediv_le_self _ h0) h1⟩
  have tm : ∀ (m k : Int), 0 ≤ m → 1 ≤ k → 0 ≤ m.tmod k ∧ m.tmod k < k := fun m k h0 hk => by
    rw [Int.tmod_eq_emod_of_nonneg h0]
    exact ⟨Int.emod_nonneg _ (by omega), Int.emod_lt_of_pos _ (by omega)⟩
  have TD := Lib.hid td; have TM := Lib.hid tm
  have V0 := Lib.hid v0; have V1 := Lib.hid v1
  have HS1 := Lib.hid hs1
  clear hl1 hk1 td tm hs1
  obtain ⟨m3, hm3⟩ : ∃ m, v.tmod 3 = m := ⟨_, rfl⟩
  have HM3 := Lib.hid hm3
  go_upto_if 14 with fail
  go_cut [] from 15 to 30 (fun wx => ∃ a e : Int, (0 ≤ a ∧ a ≤ 8 ∧ 0 ≤ e ∧ e ≤ 11 ∧ (a = 0 → e = 0)) ∧ RB wx (w.heap.size + 1) key a e 0 none 0 0 ∧ Kept (fun k => k = w.heap.size + 1) w1 wx)
  case first =>
    clear hm3
    by_cases h3 : 0 < m3
    · obtain ⟨p0, p1⟩ := TD.out v 3 V0.out V1.out (by omega)
      obtain ⟨a0, a1⟩ := TM.out (v.tdiv 3) 7 p0 (by omega)
      obtain ⟨y0, y1⟩ := TD.out v 21 V0.out V1.out (by omega)
      obtain ⟨z0, z1⟩ := TD.out v 84 V0.out V1.out (by omega)
      obtain ⟨b0, b1⟩ := TM.out (v.tdiv 84) 10 z0 (by omega)
      obtain ⟨p, hp⟩ : ∃ p, v.tdiv 3 = p := ⟨_, rfl⟩
      obtain ⟨y, hy⟩ : ∃ p, v.tdiv 21 = p := ⟨_, rfl⟩
      obtain ⟨z, hz⟩ : ∃ p, v.tdiv 84 = p := ⟨_, rfl⟩
      rw [hp] at p0 p1 a0 a1
      rw [hy] at y0 y1
      rw [hz] at z0 z1 b0 b1
      obtain ⟨a, ha⟩ : ∃ a, p.tmod 7 = a := ⟨_, rfl⟩
      obtain ⟨i, hi⟩ : ∃ i, y.tmod 4 = i := ⟨_, rfl⟩
      obtain ⟨b, hb⟩ : ∃ b, z.tmod 10 = b := ⟨_, rfl⟩
      rw [ha] at a0 a1
      rw [hb] at b0 b1
      have wp : wrap64 p = p := by unfold wrap64; omega
      have wy : wrap64 y = y := by unfold wrap64; omega
      have wz : wrap64 z = z := by unfold wrap64; omega
      have wa : IntKind.i64.wrap (1 + a) = 1 + a := by rw [IntKind.wrap_i64]; omega
      have wb : IntKind.i64.wrap (1 + b) = 1 + b := by rw [IntKind.wrap_i64]; omega
      have m0 := block_setCell (i := 1) R1.out (.string ⟨#[]⟩)
      have m1 := block_setCell (i := 2) m0 (.bool false)
      have m2 := block_setCell (i := 3) m1 (.int .i64 (1 + a))
      have m3' := block_setCell (i := 4) m2 (.int .i64 0)
      have m4 := block_setCell (i := 4) m3' (.int .i64 (1 + b))
      have M3 := Lib.hid m3'; have M4 := Lib.hid m4
      have k0 := cell_at (i := 1) R1.out rfl
      have k1 := cell_at (i := 2) m0 rfl
      have k2 := cell_at (i := 3) m1 rfl
      have k3 := cell_at (i := 4) m2 rfl
      have k4 := cell_at (i := 4) m3' rfl
      have f0 := thawed_at (i := 1) R1.out
      have f1 := thawed_at (i := 2) m0
      have f2 := thawed_at (i := 3) m1
      have f3 := thawed_at (i := 4) m2
      have f4 := thawed_at (i := 4) m3'
      clear m0 m1 m2 m3' m4
      by_cases h4 : i = 0
      · have hi2 : (i == 0) = true := by rw [beq_iff_eq]; exact h4
        clear h4
        go_wp2_with fail
        go_meet
        refine ⟨1 + a, 1 + b, by omega, M4.out, ?_⟩
        exact ((((Kept.setCell (fun k => k = w.heap.size + 1) w1 ⟨w.heap.size + 1, 1, none⟩ _ rfl).trans (Kept.setCell (fun k => k = w.heap.size + 1) _ ⟨w.heap.size + 1, 2, none⟩ _ rfl) fun _ h => Or.inl h).trans (Kept.setCell (fun k => k = w.heap.size + 1) _ ⟨w.heap.size + 1, 3, none⟩ _ rfl) fun _ h => Or.inl h).trans (Kept.setCell (fun k => k = w.heap.size + 1) _ ⟨w.heap.size + 1, 4, none⟩ _ rfl) fun _ h => Or.inl h).trans (Kept.setCell (fun k => k = w.heap.size + 1) _ ⟨w.heap.size + 1, 4, none⟩ _ rfl) fun _ h => Or.inl h
      · have hi2 : (i == 0) = false := by rw [beq_eq_false_iff_ne]; exact h4
        clear h4
        go_wp2_with fail
        go_meet
        refine ⟨1 + a, 0, by omega, M3.out, ?_⟩
        exact (((Kept.setCell (fun k => k = w.heap.size + 1) w1 ⟨w.heap.size + 1, 1, none⟩ _ rfl).trans (Kept.setCell (fun k => k = w.heap.size + 1) _ ⟨w.heap.size + 1, 2, none⟩ _ rfl) fun _ h => Or.inl h).trans (Kept.setCell (fun k => k = w.heap.size + 1) _ ⟨w.heap.size + 1, 3, none⟩ _ rfl) fun _ h => Or.inl h).trans (Kept.setCell (fun k => k = w.heap.size + 1) _ ⟨w.heap.size + 1, 4, none⟩ _ rfl) fun _ h => Or.inl h
    · go_wp2_with fail
      go_meet
      exact ⟨0, 0, by omega, R1.out, Kept.refl _ _⟩
  case rest =>
    obtain ⟨a, e, hae, hr2, hk2⟩ := hcut
    clear hm3 HM3
    generalize wc = w2 at hr2 hk2 ⊢
    have HAE := Lib.hid hae
    have R2 := Lib.hid hr2
    have K2 := Lib.hid hk2
    clear hae hr2 hk2
    obtain ⟨y0, y1⟩ := TD.out v 840 V0.out V1.out (by omega)
    obtain ⟨z0, z1⟩ := TD.out v 3360 V0.out V1.out (by omega)
    obtain ⟨b0, b1⟩ := TM.out (v.tdiv 3360) 8 z0 (by omega)
    obtain ⟨y, hy⟩ : ∃ p, v.tdiv 840 = p := ⟨_, rfl⟩
    obtain ⟨z, hz⟩ : ∃ p, v.tdiv 3360 = p := ⟨_, rfl⟩
    rw [hy] at y0 y1
    rw [hz] at z0 z1 b0 b1
    obtain ⟨i, hi⟩ : ∃ i, y.tmod 4 = i := ⟨_, rfl⟩
    obtain ⟨b, hb⟩ : ∃ b, z.tmod 8 = b := ⟨_, rfl⟩
    rw [hb] at b0 b1
    have wy : wrap64 y = y := by unfold wrap64; omega
    have wz : wrap64 z = z := by unfold wrap64; omega
    go_upto_if 34 with fail
    go_cut [] from 35 to 38 (fun wx => ∃ g : Int, (0 ≤ g ∧ g ≤ 8) ∧ RB wx (w.heap.size + 1) key a e g none 0 0 ∧ Kept (fun k => k = w.heap.size + 1) w2 wx)
    case first =>
      by_cases h4 : i = 0
      · have hi2 : (i == 0) = true := by rw [beq_iff_eq]; exact h4
        clear h4
        have m0 := block_setCell (i := 5) R2.out (.int .i64 b)
        have M0 := Lib.hid m0
        have k0 := cell_at (i := 5) R2.out rfl
        have f0 := thawed_at (i := 5) R2.out
        clear m0
        go_wp2_with fail
        go_meet
        exact ⟨b, by omega, M0.out, Kept.setCell (fun k => k = w.heap.size + 1) w2 ⟨w.heap.size + 1, 5, none⟩ _ rfl⟩
      · have hi2 : (i == 0) = false := by rw [beq_eq_false_iff_ne]; exact h4
        clear h4
        go_wp2_with fail
        go_meet
        exact ⟨0, by omega, R2.out, Kept.refl _ _⟩
    case rest =>
      obtain ⟨g, hg, hr3, hk3⟩ := hcut
      generalize wc = w3 at hr3 hk3 ⊢
      clear hy hz hi hb wy wz y0 y1 z0 z1 b0 b1
      have hk13 := K2.out.trans hk3 fun k hk => Or.inl hk
      have hs3 := hk13.size
      have hl3 : LQ w3 q B := L1.out.kept hk13 (fun k hk => by omega) hBq
      have hz3 := (hk13.block w.heap.size (by have := HUS.out; have := HS1.out; omega) (by omega)).trans Z1.out
      have hk3' : Kept (fun k => k = q) w w3 := K1.out.trans hk13 fun k hk => Or.inr (by omega)
      have HS3 := Lib.hid (show w.heap.size + 2 ≤ w3.heap.size by have := HUS.out; have := HS1.out; omega)
      have HG := Lib.hid hg; have R3 := Lib.hid hr3; have L3 := Lib.hid hl3; have Z3 := Lib.hid hz3; have K3 := Lib.hid hk3'
      clear hg hr3 hk3 hk13 hs3 hl3 hz3 hk3' K1 K2 L1 Z1 R1 R2 HS1 HUS BZ HZ0 HZ1
      go_wp2_with fail
      go_loopw [7] (fun i wr => ∃ (t : Nat) (ti : Int) (l : Cols) (A : Option Addr) (c : Nat), t ≤ 4 ∧ i = .int .i64 ti ∧ ti = (t : Int) ∧ ColsTo t l ∧ RB wr (w.heap.size + 1) key a e g A l.length c ∧ wr.ownsRow (w.heap.size + 2) 66 5 (.slice A l.length c) l.length (kRow l) ∧ LQ wr q B ∧ Kept (fun k => k = q) w wr ∧ w.heap.size + 2 ≤ wr.heap.size ∧ wr.heap[w.heap.size]? = some (.cells #[.string ⟨#[]⟩, .string ⟨#[]⟩, .bool false, .int .i64 0, .int .i64 0, .int .i64 0, .int .i64 0, .slice none 0 0] 36)) (fun i _ => 4 - (intOf i).toNat)
      case atStart => exact ⟨0, 0, [], none, 0, by omega, rfl, rfl, ColsTo.nil 0, R3.out, own_nilK _ _, L3.out, K3.out, HS3.out, Z3.out⟩
      case round =>
        obtain ⟨t, ti, l, A, c, ht, rfl, hti, hct, hrb, how, hlq, hkp, hsz, hz⟩ := hrel
        have CT := Lib.hid hct; have RBl := Lib.hid hrb; have OW := Lib.hid how; have LQ_ := Lib.hid hlq; have KP := Lib.hid hkp; have ZZ := Lib.hid hz; have SZ := Lib.hid hsz
        clear hct hrb how hlq hkp hz hsz
        by_cases h4 : t = 4
        · subst h4
          obtain rfl : ti = 4 := hti
          obtain ⟨p0, p1, p2, p3, p4, p5, p6, p7⟩ := RB.cells RBl.out
          have m0 := block_setCell (i := 0) ZZ.out (.string key)
          simp only [List.setIfInBounds_toArray, List.set_cons_zero, List.set_cons_succ] at m0
          have kc0 := cell_at (i := 0) ZZ.out rfl
          have f0 := thawed_at (i := 0) ZZ.out
          have m1 := block_setCell (i := 1) m0 (.string ⟨#[]⟩)
          simp only [List.setIfInBounds_toArray, List.set_cons_zero, List.set_cons_succ] at m1
          have kc1 := cell_at (i := 1) m0 rfl
          have f1 := thawed_at (i := 1) m0
          have m2 := block_setCell (i := 2) m1 (.bool false)
          simp only [List.setIfInBounds_toArray, List.set_cons_zero, List.set_cons_succ] at m2
          have kc2 := cell_at (i := 2) m1 rfl
          have f2 := thawed_at (i := 2) m1
          have m3 := block_setCell (i := 3) m2 (.int .i64 a)
          simp only [List.setIfInBounds_toArray, List.set_cons_zero, List.set_cons_succ] at m3
          have kc3 := cell_at (i := 3) m2 rfl
          have f3 := thawed_at (i := 3) m2
          have m4 := block_setCell (i := 4) m3 (.int .i64 e)
          simp only [List.setIfInBounds_toArray, List.set_cons_zero, List.set_cons_succ] at m4
          have kc4 := cell_at (i := 4) m3 rfl
          have f4 := thawed_at (i := 4) m3
          have m5 := block_setCell (i := 5) m4 (.int .i64 g)
          simp only [List.setIfInBounds_toArray, List.set_cons_zero, List.set_cons_succ] at m5
          have kc5 := cell_at (i := 5) m4 rfl
          have f5 := thawed_at (i := 5) m4
          have m6 := block_setCell (i := 6) m5 (.int .i64 0)
          simp only [List.setIfInBounds_toArray, List.set_cons_zero, List.set_cons_succ] at m6
          have kc6 := cell_at (i := 6) m5 rfl
          have f6 := thawed_at (i := 6) m5
          have m7 := block_setCell (i := 7) m6 (.slice A l.length c)
          simp only [List.setIfInBounds_toArray, List.set_cons_zero, List.set_cons_succ] at m7
          have kc7 := cell_at (i := 7) m6 rfl
          have f7 := thawed_at (i := 7) m6
          have M7 := Lib.hid m7
          have KF : Hid (Kept (fun k => k = w.heap.size) wr ((((((((wr.setCell ⟨w.heap.size, 0, none⟩ (.string key)).setCell ⟨w.heap.size, 1, none⟩ (.string ⟨#[]⟩)).setCell ⟨w.heap.size, 2, none⟩ (.bool false)).setCell ⟨w.heap.size, 3, none⟩ (.int .i64 a)).setCell ⟨w.heap.size, 4, none⟩ (.int .i64 e)).setCell ⟨w.heap.size, 5, none⟩ (.int .i64 g)).setCell ⟨w.heap.size, 6, none⟩ (.int .i64 0)).setCell ⟨w.heap.size, 7, none⟩ (.slice A l.length c))) := Lib.hid (((((((((Kept.refl (fun k => k = w.heap.size) wr).trans (Kept.setCell (fun k => k = w.heap.size) _ ⟨w.heap.size, 0, none⟩ (.string key) rfl) fun _ h => Or.inl h).trans (Kept.setCell (fun k => k = w.heap.size) _ ⟨w.heap.size, 1, none⟩ (.string ⟨#[]⟩) rfl) fun _ h => Or.inl h).trans (Kept.setCell (fun k => k = w.heap.size) _ ⟨w.heap.size, 2, none⟩ (.bool false) rfl) fun _ h => Or.inl h).trans (Kept.setCell (fun k => k = w.heap.size) _ ⟨w.heap.size, 3, none⟩ (.int .i64 a) rfl) fun _ h => Or.inl h).trans (Kept.setCell (fun k => k = w.heap.size) _ ⟨w.heap.size, 4, none⟩ (.int .i64 e) rfl) fun _ h => Or.inl h).trans (Kept.setCell (fun k => k = w.heap.size) _ ⟨w.heap.size, 5, none⟩ (.int .i64 g) rfl) fun _ h => Or.inl h).trans (Kept.setCell (fun k => k = w.heap.size) _ ⟨w.heap.size, 6, none⟩ (.int .i64 0) rfl) fun _ h => Or.inl h).trans (Kept.setCell (fun k => k = w.heap.size) _ ⟨w.heap.size, 7, none⟩ (.slice A l.length c) rfl) fun _ h => Or.inl h)
          clear m0 m1 m2 m3 m4 m5 m6 m7
          go_wp2
          generalize hw9 : ((((((((wr.setCell ⟨w.heap.size, 0, none⟩ (.string key)).setCell ⟨w.heap.size, 1, none⟩ (.string ⟨#[]⟩)).setCell ⟨w.heap.size, 2, none⟩ (.bool false)).setCell ⟨w.heap.size, 3, none⟩ (.int .i64 a)).setCell ⟨w.heap.size, 4, none⟩ (.int .i64 e)).setCell ⟨w.heap.size, 5, none⟩ (.int .i64 g)).setCell ⟨w.heap.size, 6, none⟩ (.int .i64 0)).setCell ⟨w.heap.size, 7, none⟩ (.slice A l.length c)) = w9 at KF M7 ⊢
          clear hw9 kc0 kc1 kc2 kc3 kc4 kc5 kc6 kc7 f0 f1 f2 f3 f4 f5 f6 f7
          have z0 := cell_at (i := 0) M7.out rfl
          have z1 := cell_at (i := 1) M7.out rfl
          have z2 := cell_at (i := 2) M7.out rfl
          have z3 := cell_at (i := 3) M7.out rfl
          have z4 := cell_at (i := 4) M7.out rfl
          have z5 := cell_at (i := 5) M7.out rfl
          have z6 := cell_at (i := 6) M7.out rfl
          have z7 := cell_at (i := 7) M7.out rfl
          have hown : w9.ownsRow w.heap.size 66 5 (.slice A l.length c) l.length (kRow l) := own_lower (own_kept OW.out fun k hk => KF.out.block k (own_block_lt OW.out k hk) (by have := (OW.out.lt k hk).1; omega)) (by omega)
          have HOWN := Lib.hid hown
          have hlq9 := LQ_.out.kept KF.out (fun k hk => by omega) hBq
          have hkp9 : Kept (fun k => k = q) w w9 := KP.out.trans KF.out fun k hk => Or.inr (by omega)
          have hct := CT.out
          have hae := HAE.out
          have hg9 := HG.out
          refine bodyPost_ret (v := .agg #[.string key, .string ⟨#[]⟩, .bool false, .int .i64 a, .int .i64 e, .int .i64 g, .int .i64 0, .slice A l.length c]) (by simp [results, Try.results70, go_sem, z0, z1, z2, z3, z4, z5, z6, z7]) rfl ⟨a, e, g, l, A, c, rfl, by omega, hct, HOWN.out, hlq9, hkp9⟩
        · have h3 : t = 0 ∨ t = 1 ∨ t = 2 ∨ t = 3 := by omega
          rcases h3 with rfl | rfl | rfl | rfl
          · obtain rfl : ti = 0 := hti
            go_wp2_with fail
            · refine wp_region_z (S := fun w' => RB w' (w.heap.size + 1) key a e g A l.length c) 12 (by kernel_rfl) ?_ (fun hHeld => ?_)
              · exact RBl.out
              refine wpAnyZ_take (i := 0) (v := ?_) rfl (by kernel_rfl) (by kernel_rfl) (by kernel_rfl) (by kernel_rfl) (fun _ _ _ h => h) (Or.inl ⟨by rfl, ?_⟩) (by assumption) ?_
              rotate_left
              · (intro wx hSw; (try dsimp only at hSw); go_simp; try with_reducible rfl)
              try simp only [Act.put, List.getElem_toArray, List.getElem_cons_succ, List.getElem_cons_zero, List.setIfInBounds_toArray, List.set_cons_zero, List.set_cons_succ]
              refine wpAnyZ_take (i := 1) (v := ?_) rfl (by kernel_rfl) (by kernel_rfl) (by kernel_rfl) (by kernel_rfl) (fun _ _ _ h => h) (Or.inl ⟨by rfl, ?_⟩) (by assumption) ?_
              rotate_left
              · (intro wx hSw; (try dsimp only at hSw); obtain ⟨_, _, _, _, _, _, _, _⟩ := RB.cells hSw; go_simp; try with_reducible rfl)
              try simp only [Act.put, List.getElem_toArray, List.getElem_cons_succ, List.getElem_cons_zero, List.setIfInBounds_toArray, List.set_cons_zero, List.set_cons_succ]
              refine wpAnyZ_take (i := 3) (v := ?_) rfl (by kernel_rfl) (by kernel_rfl) (by kernel_rfl) (by kernel_rfl) (fun _ _ _ h => h) (Or.inl ⟨by rfl, ?_⟩) (by assumption) ?_
              rotate_left
              · (intro wx hSw; (try dsimp only at hSw); go_simp; try with_reducible rfl)
              try simp only [Act.put, List.getElem_toArray, List.getElem_cons_succ, List.getElem_cons_zero, List.setIfInBounds_toArray, List.set_cons_zero, List.set_cons_succ]
              refine wpAnyZ_take (i := 6) (v := ?_) rfl (by kernel_rfl) (by kernel_rfl) (by kernel_rfl) (by kernel_rfl) (fun _ _ _ h => h) (Or.inl ⟨by rfl, ?_⟩) (by assumption) ?_
              rotate_left
              · (intro wx hSw; (try dsimp only at hSw); go_simp; try with_reducible rfl)
              try simp only [Act.put, List.getElem_toArray, List.getElem_cons_succ, List.getElem_cons_zero, List.setIfInBounds_toArray, List.set_cons_zero, List.set_cons_succ]
              refine wpAnyZ_one (i := 2) (by kernel_rfl) rfl (fun K hK => ?_)
              go_simp
              refine (names_any _).mono ?_
              rintro x v1 ⟨rfl, hv1⟩
              have hb1 : Below wr.heap.size wr v1 := by rw [hv1]; exact ((Below.refl _ _).drew).alloc (Nat.le_refl _) _
              have hn1 : v1.heap[wr.heap.size]? = some (.cells #[.string (nm 0), .string (nm 1), .string (nm 2), .string (nm 3)] 9 (0, 0)) := by rw [hv1]; exact heap_alloc_new wr.drew _
              have hs1 : v1.heap.size = wr.heap.size + 1 := by rw [hv1]; simp
              have HB1 := Lib.hid hb1; have HN1 := Lib.hid hn1; have HV1 := Lib.hid hs1; have LQ1 := Lib.hid (LQ_.out.below hb1 (by have := LQ_.out.lt; omega))
              clear hv1 hb1 hn1 hs1
              try go_wp2_with fail
              refine hK.out _ _ ?_ (fun hHeld => ?_)
              · first | exact (HB1.out.block (w.heap.size + 1) (by have := SZ.out; omega)).trans RBl.out | exact ⟨(KP2.out.block (w.heap.size + 1) (by have := SZ.out; have := HV1.out; omega) (by omega)).trans hHeld.1, (KP2.out.block wr.heap.size (by have := HV1.out; omega) (by have := SZ.out; omega)).trans hHeld.2⟩
              clear hK K
              try simp only [Act.put, List.getElem_toArray, List.getElem_cons_succ, List.getElem_cons_zero, List.setIfInBounds_toArray, List.set_cons_zero, List.set_cons_succ]
              refine held_upz (S' := fun w' => RB w' (w.heap.size + 1) key a e g A l.length c ∧ w'.heap[wr.heap.size]? = some (.cells #[.string (nm 0), .string (nm 1), .string (nm 2), .string (nm 3)] 9 (0, 0))) (fun _ h => h.1) _ _ _ _ ?_
              replace hHeld := And.intro hHeld HN1.out
              refine wpAnyZ_take (i := 4) (v := ?_) rfl (by kernel_rfl) (by kernel_rfl) (by kernel_rfl) (by kernel_rfl) (fun _ _ _ h => h) (Or.inl ⟨by rfl, ?_⟩) (by assumption) ?_
              rotate_left
              · (intro wx hSw; (try dsimp only at hSw); go_simp; try with_reducible rfl)
              try simp only [Act.put, List.getElem_toArray, List.getElem_cons_succ, List.getElem_cons_zero, List.setIfInBounds_toArray, List.set_cons_zero, List.set_cons_succ]
              refine wpAnyZ_take (i := 5) (v := ?_) rfl (by kernel_rfl) (by kernel_rfl) (by kernel_rfl) (by kernel_rfl) (fun _ _ _ h => h) (Or.inl ⟨by rfl, ?_⟩) (by assumption) ?_
              rotate_left
              · (intro wx hSw; (try dsimp only at hSw); have hn0 := cell_at (i := 0) hSw.2 rfl; have hn1 := cell_at (i := 1) hSw.2 rfl; have hn2 := cell_at (i := 2) hSw.2 rfl; have hn3 := cell_at (i := 3) hSw.2 rfl; go_simp; try with_reducible rfl)
              try simp only [Act.put, List.getElem_toArray, List.getElem_cons_succ, List.getElem_cons_zero, List.setIfInBounds_toArray, List.set_cons_zero, List.set_cons_succ]
              refine wpAnyZ_one (i := 7) (by kernel_rfl) rfl (fun K hK => ?_)
              go_simp
              refine (cell_gen q B _ LQ1.out hBq).mono ?_
              rintro x v2 ⟨s, d, ca, cb, rfl, hok, hlq2, hkp2⟩
              have HOK := Lib.hid hok; have LQ2 := Lib.hid hlq2; have KP2 := Lib.hid hkp2
              clear hok hlq2 hkp2
              try go_wp2_with fail
              refine hK.out _ _ ?_ (fun hHeld => ?_)
              · first | exact (HB1.out.block (w.heap.size + 1) (by have := SZ.out; omega)).trans RBl.out | exact ⟨(KP2.out.block (w.heap.size + 1) (by have := SZ.out; have := HV1.out; omega) (by omega)).trans hHeld.1, (KP2.out.block wr.heap.size (by have := HV1.out; omega) (by have := SZ.out; omega)).trans hHeld.2⟩
              clear hK K
              try simp only [Act.put, List.getElem_toArray, List.getElem_cons_succ, List.getElem_cons_zero, List.setIfInBounds_toArray, List.set_cons_zero, List.set_cons_succ]
              have hown2 := own_kept (own_below OW.out (HB1.out)) fun k hk => KP2.out.block k (own_block_lt (own_below OW.out (HB1.out)) k hk) (by have := (OW.out.lt k hk).1; omega)
              have OWN := Lib.hid (own_below hown2 ((Below.refl v2.heap.size v2).alloc (Nat.le_refl _) (.cells #[.string (nm 0), .string s, .bool d, .int .i64 ca, .int .i64 cb] 66)))
              have RD := Lib.hid (RdK.one v2 ((nm 0), ⟨s, d, ca, cb⟩) v2.heap.size rfl)
              clear hown2
              refine wpAnyZ_take (i := 8) (v := ?_) rfl (by kernel_rfl) (by kernel_rfl) (by kernel_rfl) (by kernel_rfl) (fun _ _ _ h => h) (Or.inl ⟨by rfl, ?_⟩) (by assumption) ?_
              rotate_left
              · (intro wx hSw; (try dsimp only at hSw); go_simp; try with_reducible rfl)
              try simp only [Act.put, List.getElem_toArray, List.getElem_cons_succ, List.getElem_cons_zero, List.setIfInBounds_toArray, List.set_cons_zero, List.set_cons_succ]
              refine wpAnyZ_one (i := 9) (by kernel_rfl) rfl (fun K hK => ?_)
              go_simp
              refine hK.out _ _ ?_ (fun hHeld => ?_)
              · exact ⟨at_new hHeld.1 _, at_new hHeld.2 _⟩
              clear hK K
              try simp only [Act.put, List.getElem_toArray, List.getElem_cons_succ, List.getElem_cons_zero, List.setIfInBounds_toArray, List.set_cons_zero, List.set_cons_succ]
              refine wpAnyZ_one (i := 10) (by kernel_rfl) rfl (fun K hK => ?_)
              refine step_ex rfl (.tmp 51) (.tmp 59) _ _ rfl (.slice A l.length c) (.slice (some ⟨v2.heap.size, 0, none⟩) 1 1) (by simp [Act.eval]) (by simp [Act.eval]) (run_appK (w.heap.size + 2) OWN.out RD.out ?s1 ?s2) ?_
              case s1 => have := CT.out.len; omega
              case s2 => have := SZ.out; have := HV1.out; have := KP2.out.size; simp; omega
              intro v3 w3 ho3 hg3
              obtain ⟨hg3, _⟩ := hg3
              obtain ⟨A3, c3, rfl, _⟩ := own_slice ho3
              have HO3 := Lib.hid ho3; have HG3 := Lib.hid hg3
              clear ho3 hg3
              refine hK.out _ _ ?_ (fun hHeld => ?_)
              · exact ⟨(HG3.out.block (w.heap.size + 1) (by have := SZ.out; have := HV1.out; have := KP2.out.size; simp; omega) (fun e => by have := (OWN.out.lt _ e.symm).1; omega)).trans hHeld.1, (HG3.out.block wr.heap.size (by have := HV1.out; have := KP2.out.size; simp; omega) (fun e => by have := (OW.out.lt _ e.symm).2; omega)).trans hHeld.2⟩
              clear hK K
              try simp only [Act.put, List.getElem_toArray, List.getElem_cons_succ, List.getElem_cons_zero, List.setIfInBounds_toArray, List.set_cons_zero, List.set_cons_succ]
              have k7 := cell_at (i := 7) hHeld.1 rfl
              have f7 := thawed_at (i := 7) hHeld.1
              have RB3 := Lib.hid hHeld.1
              refine wpAnyZ_take (i := 11) (v := ?_) rfl (by kernel_rfl) (by kernel_rfl) (by kernel_rfl) (by kernel_rfl) (fun _ _ _ h => h) (Or.inl ⟨by rfl, ?_⟩) (by assumption) ?_
              rotate_left
              · (intro wx hSw; (try dsimp only at hSw); go_simp; try with_reducible rfl)
              try simp only [Act.put, List.getElem_toArray, List.getElem_cons_succ, List.getElem_cons_zero, List.setIfInBounds_toArray, List.set_cons_zero, List.set_cons_succ]
              refine wpAnyZ_last (by kernel_rfl) rfl (fun K hK => ?_)
              go_simp
              refine hK.out _ _ ?_
              clear hK K
              try simp only [Act.put, List.getElem_toArray, List.getElem_cons_succ, List.getElem_cons_zero, List.setIfInBounds_toArray, List.set_cons_zero, List.set_cons_succ]
              refine wpAnyZ_done (by kernel_rfl) ?_ _
              have kA : Kept (fun k => w.heap.size + 1 ≤ k) v2 (w3.setCell ⟨w.heap.size + 1, 7, none⟩ (.slice A3 (l.length + 1) c3)) := ((Kept.alloc (fun k => w.heap.size + 1 ≤ k) v2 _).trans (Kept.of_grown (F := fun k => w.heap.size + 1 ≤ k) HG3.out (fun k hk => by have := (OWN.out.lt k hk).1; omega)) (fun k hk => Or.inl hk)).trans (Kept.setCell (fun k => w.heap.size + 1 ≤ k) w3 ⟨w.heap.size + 1, 7, none⟩ _ (Nat.le_refl _)) fun k hk => Or.inl hk
              have kB : Kept (fun k => k = q ∨ w.heap.size + 1 ≤ k) wr _ := ((Kept.of_below HB1.out (fun k => k = q ∨ w.heap.size + 1 ≤ k)).trans KP2.out (fun k hk => Or.inl (Or.inl hk))).trans kA (fun k hk => Or.inl (Or.inr hk))
              have hm7 := block_setCell (i := 7) RB3.out (.slice A3 (l.length + 1) c3)
              simp only [List.setIfInBounds_toArray, List.set_cons_zero, List.set_cons_succ] at hm7
              have hl9 : LQ _ q B := LQ2.out.kept kA (fun k hk => by omega) hBq
              have hz9 := (kB.block w.heap.size (by have := SZ.out; omega) (by omega)).trans ZZ.out
              have hk9 : Kept (fun k => k = q) w _ := KP.out.trans kB fun k hk => by omega
              have ho9 := own_kept HO3.out (w' := w3.setCell ⟨w.heap.size + 1, 7, none⟩ (.slice A3 (l.length + 1) c3)) fun g hg => Below.heap_setCell _ _ _ _ (by have := (HO3.out.lt g hg).1; show g ≠ w.heap.size + 1; omega)
              have hs9 := kB.size
              generalize w3.setCell ⟨w.heap.size + 1, 7, none⟩ (.slice A3 (l.length + 1) c3) = w9 at *
              have HM7 := Lib.hid hm7; have HL9 := Lib.hid hl9; have HZ9 := Lib.hid hz9; have HK9 := Lib.hid hk9; have HO9 := Lib.hid ho9
              clear kA kB hm7 hl9 hz9 hk9 ho9 k7 f7 hHeld
              go_wp2
              go_roundw
              case rel => exact ⟨0 + 1, 0 + 1, l ++ [(nm 0, ⟨s, d, ca, cb⟩)], A3, c3, by omega, rfl, rfl, CT.out.snoc (nm_facts 0 (by omega)).1 (nm_facts 0 (by omega)).2 HOK.out, by rw [List.length_append]; exact HM7.out, by rw [List.length_append]; exact HO9.out, HL9.out, HK9.out, by have := SZ.out; omega, HZ9.out⟩
              case measure => simp [intOf]
            · go_wp2
              go_roundw
              case rel => exact ⟨1, 1, l, A, c, by omega, rfl, rfl, CT.out.next (nm_facts 0 (by omega)).1, RBl.out, OW.out, LQ_.out, KP.out, SZ.out, ZZ.out⟩
              case measure => simp [intOf]
          · obtain rfl : ti = 1 := hti
            go_wp2_with fail
            · refine wp_region_z (S := fun w' => RB w' (w.heap.size + 1) key a e g A l.length c) 12 (by kernel_rfl) ?_ (fun hHeld => ?_)
              · exact RBl.out
              refine wpAnyZ_take (i := 0) (v := ?_) rfl (by kernel_rfl) (by kernel_rfl) (by kernel_rfl) (by kernel_rfl) (fun _ _ _ h => h) (Or.inl ⟨by rfl, ?_⟩) (by assumption) ?_
              rotate_left
              · (intro wx hSw; (try dsimp only at hSw); go_simp; try with_reducible rfl)
              try simp only [Act.put, List.getElem_toArray, List.getElem_cons_succ, List.getElem_cons_zero, List.setIfInBounds_toArray, List.set_cons_zero, List.set_cons_succ]
              refine wpAnyZ_take (i := 1) (v := ?_) rfl (by kernel_rfl) (by kernel_rfl) (by kernel_rfl) (by kernel_rfl) (fun _ _ _ h => h) (Or.inl ⟨by rfl, ?_⟩) (by assumption) ?_
              rotate_left
              · (intro wx hSw; (try dsimp only at hSw); obtain ⟨_, _, _, _, _, _, _, _⟩ := RB.cells hSw; go_simp; try with_reducible rfl)
              try simp only [Act.put, List.getElem_toArray, List.getElem_cons_succ, List.getElem_cons_zero, List.setIfInBounds_toArray, List.set_cons_zero, List.set_cons_succ]
              refine wpAnyZ_take (i := 3) (v := ?_) rfl (by kernel_rfl) (by kernel_rfl) (by kernel_rfl) (by kernel_rfl) (fun _ _ _ h => h) (Or.inl ⟨by rfl, ?_⟩) (by assumption) ?_
              rotate_left
              · (intro wx hSw; (try dsimp only at hSw); go_simp; try with_reducible rfl)
              try simp only [Act.put, List.getElem_toArray, List.getElem_cons_succ, List.getElem_cons_zero, List.setIfInBounds_toArray, List.set_cons_zero, List.set_cons_succ]
              refine wpAnyZ_take (i := 6) (v := ?_) rfl (by kernel_rfl) (by kernel_rfl) (by kernel_rfl) (by kernel_rfl) (fun _ _ _ h => h) (Or.inl ⟨by rfl, ?_⟩) (by assumption) ?_
              rotate_left
              · (intro wx hSw; (try dsimp only at hSw); go_simp; try with_reducible rfl)
              try simp only [Act.put, List.getElem_toArray, List.getElem_cons_succ, List.getElem_cons_zero, List.setIfInBounds_toArray, List.set_cons_zero, List.set_cons_succ]
              refine wpAnyZ_one (i := 2) (by kernel_rfl) rfl (fun K hK => ?_)
              go_simp
              refine (names_any _).mono ?_
              rintro x v1 ⟨rfl, hv1⟩
              have hb1 : Below wr.heap.size wr v1 := by rw [hv1]; exact ((Below.refl _ _).drew).alloc (Nat.le_refl _) _
              have hn1 : v1.heap[wr.heap.size]? = some (.cells #[.string (nm 0), .string (nm 1), .string (nm 2), .string (nm 3)] 9 (0, 0)) := by rw [hv1]; exact heap_alloc_new wr.drew _
              have hs1 : v1.heap.size = wr.heap.size + 1 := by rw [hv1]; simp
              have HB1 := Lib.hid hb1; have HN1 := Lib.hid hn1; have HV1 := Lib.hid hs1; have LQ1 := Lib.hid (LQ_.out.below hb1 (by have := LQ_.out.lt; omega))
              clear hv1 hb1 hn1 hs1
              try go_wp2_with fail
              refine hK.out _ _ ?_ (fun hHeld => ?_)
              · first | exact (HB1.out.block (w.heap.size + 1) (by have := SZ.out; omega)).trans RBl.out | exact ⟨(KP2.out.block (w.heap.size + 1) (by have := SZ.out; have := HV1.out; omega) (by omega)).trans hHeld.1, (KP2.out.block wr.heap.size (by have := HV1.out; omega) (by have := SZ.out; omega)).trans hHeld.2⟩
              clear hK K
              try simp only [Act.put, List.getElem_toArray, List.getElem_cons_succ, List.getElem_cons_zero, List.setIfInBounds_toArray, List.set_cons_zero, List.set_cons_succ]
              refine held_upz (S' := fun w' => RB w' (w.heap.size + 1) key a e g A l.length c ∧ w'.heap[wr.heap.size]? = some (.cells #[.string (nm 0), .string (nm 1), .string (nm 2), .string (nm 3)] 9 (0, 0))) (fun _ h => h.1) _ _ _ _ ?_
              replace hHeld := And.intro hHeld HN1.out
              refine wpAnyZ_take (i := 4) (v := ?_) rfl (by kernel_rfl) (by kernel_rfl) (by kernel_rfl) (by kernel_rfl) (fun _ _ _ h => h) (Or.inl ⟨by rfl, ?_⟩) (by assumption) ?_
              rotate_left
              · (intro wx hSw; (try dsimp only at hSw); go_simp; try with_reducible rfl)
              try simp only [Act.put, List.getElem_toArray, List.getElem_cons_succ, List.getElem_cons_zero, List.setIfInBounds_toArray, List.set_cons_zero, List.set_cons_succ]
              refine wpAnyZ_take (i := 5) (v := ?_) rfl (by kernel_rfl) (by kernel_rfl) (by kernel_rfl) (by kernel_rfl) (fun _ _ _ h => h) (Or.inl ⟨by rfl, ?_⟩) (by assumption) ?_
              rotate_left
              · (intro wx hSw; (try dsimp only at hSw); have hn0 := cell_at (i := 0) hSw.2 rfl; have hn1 := cell_at (i := 1) hSw.2 rfl; have hn2 := cell_at (i := 2) hSw.2 rfl; have hn3 := cell_at (i := 3) hSw.2 rfl; go_simp; try with_reducible rfl)
              try simp only [Act.put, List.getElem_toArray, List.getElem_cons_succ, List.getElem_cons_zero, List.setIfInBounds_toArray, List.set_cons_zero, List.set_cons_succ]
              refine wpAnyZ_one (i := 7) (by kernel_rfl) rfl (fun K hK => ?_)
              go_simp
              refine (cell_gen q B _ LQ1.out hBq).mono ?_
              rintro x v2 ⟨s, d, ca, cb, rfl, hok, hlq2, hkp2⟩
              have HOK := Lib.hid hok; have LQ2 := Lib.hid hlq2; have KP2 := Lib.hid hkp2
              clear hok hlq2 hkp2
              try go_wp2_with fail
              refine hK.out _ _ ?_ (fun hHeld => ?_)
              · first | exact (HB1.out.block (w.heap.size + 1) (by have := SZ.out; omega)).trans RBl.out | exact ⟨(KP2.out.block (w.heap.size + 1) (by have := SZ.out; have := HV1.out; omega) (by omega)).trans hHeld.1, (KP2.out.block wr.heap.size (by have := HV1.out; omega) (by have := SZ.out; omega)).trans hHeld.2⟩
              clear hK K
              try simp only [Act.put, List.getElem_toArray, List.getElem_cons_succ, List.getElem_cons_zero, List.setIfInBounds_toArray, List.set_cons_zero, List.set_cons_succ]
              have hown2 := own_kept (own_below OW.out (HB1.out)) fun k hk => KP2.out.block k (own_block_lt (own_below OW.out (HB1.out)) k hk) (by have := (OW.out.lt k hk).1; omega)
              have OWN := Lib.hid (own_below hown2 ((Below.refl v2.heap.size v2).alloc (Nat.le_refl _) (.cells #[.string (nm 1), .string s, .bool d, .int .i64 ca, .int .i64 cb] 66)))
              have RD := Lib.hid (RdK.one v2 ((nm 1), ⟨s, d, ca, cb⟩) v2.heap.size rfl)
              clear hown2
              refine wpAnyZ_take (i := 8) (v := ?_) rfl (by kernel_rfl) (by kernel_rfl) (by kernel_rfl) (by kernel_rfl) (fun _ _ _ h => h) (Or.inl ⟨by rfl, ?_⟩) (by assumption) ?_
              rotate_left
              · (intro wx hSw; (try dsimp only at hSw); go_simp; try with_reducible rfl)
              try simp only [Act.put, List.getElem_toArray, List.getElem_cons_succ, List.getElem_cons_zero, List.setIfInBounds_toArray, List.set_cons_zero, List.set_cons_succ]
              refine wpAnyZ_one (i := 9) (by kernel_rfl) rfl (fun K hK => ?_)
              go_simp
              refine hK.out _ _ ?_ (fun hHeld => ?_)
              · exact ⟨at_new hHeld.1 _, at_new hHeld.2 _⟩
              clear hK K
              try simp only [Act.put, List.getElem_toArray, List.getElem_cons_succ, List.getElem_cons_zero, List.setIfInBounds_toArray, List.set_cons_zero, List.set_cons_succ]
              refine wpAnyZ_one (i := 10) (by kernel_rfl) rfl (fun K hK => ?_)
              refine step_ex rfl (.tmp 51) (.tmp 59) _ _ rfl (.slice A l.length c) (.slice (some ⟨v2.heap.size, 0, none⟩) 1 1) (by simp [Act.eval]) (by simp [Act.eval]) (run_appK (w.heap.size + 2) OWN.out RD.out ?s1 ?s2) ?_
              case s1 => have := CT.out.len; omega
              case s2 => have := SZ.out; have := HV1.out; have := KP2.out.size; simp; omega
              intro v3 w3 ho3 hg3
              obtain ⟨hg3, _⟩ := hg3
              obtain ⟨A3, c3, rfl, _⟩ := own_slice ho3
              have HO3 := Lib.hid ho3; have HG3 := Lib.hid hg3
              clear ho3 hg3
              refine hK.out _ _ ?_ (fun hHeld => ?_)
              · exact ⟨(HG3.out.block (w.heap.size + 1) (by have := SZ.out; have := HV1.out; have := KP2.out.size; simp; omega) (fun e => by have := (OWN.out.lt _ e.symm).1; omega)).trans hHeld.1, (HG3.out.block wr.heap.size (by have := HV1.out; have := KP2.out.size; simp; omega) (fun e => by have := (OW.out.lt _ e.symm).2; omega)).trans hHeld.2⟩
              clear hK K
              try simp only [Act.put, List.getElem_toArray, List.getElem_cons_succ, List.getElem_cons_zero, List.setIfInBounds_toArray, List.set_cons_zero, List.set_cons_succ]
              have k7 := cell_at (i := 7) hHeld.1 rfl
              have f7 := thawed_at (i := 7) hHeld.1
              have RB3 := Lib.hid hHeld.1
              refine wpAnyZ_take (i := 11) (v := ?_) rfl (by kernel_rfl) (by kernel_rfl) (by kernel_rfl) (by kernel_rfl) (fun _ _ _ h => h) (Or.inl ⟨by rfl, ?_⟩) (by assumption) ?_
              rotate_left
              · (intro wx hSw; (try dsimp only at hSw); go_simp; try with_reducible rfl)
              try simp only [Act.put, List.getElem_toArray, List.getElem_cons_succ, List.getElem_cons_zero, List.setIfInBounds_toArray, List.set_cons_zero, List.set_cons_succ]
              refine wpAnyZ_last (by kernel_rfl) rfl (fun K hK => ?_)
              go_simp
              refine hK.out _ _ ?_
              clear hK K
              try simp only [Act.put, List.getElem_toArray, List.getElem_cons_succ, List.getElem_cons_zero, List.setIfInBounds_toArray, List.set_cons_zero, List.set_cons_succ]
              refine wpAnyZ_done (by kernel_rfl) ?_ _
              have kA : Kept (fun k => w.heap.size + 1 ≤ k) v2 (w3.setCell ⟨w.heap.size + 1, 7, none⟩ (.slice A3 (l.length + 1) c3)) := ((Kept.alloc (fun k => w.heap.size + 1 ≤ k) v2 _).trans (Kept.of_grown (F := fun k => w.heap.size + 1 ≤ k) HG3.out (fun k hk => by have := (OWN.out.lt k hk).1; omega)) (fun k hk => Or.inl hk)).trans (Kept.setCell (fun k => w.heap.size + 1 ≤ k) w3 ⟨w.heap.size + 1, 7, none⟩ _ (Nat.le_refl _)) fun k hk => Or.inl hk
              have kB : Kept (fun k => k = q ∨ w.heap.size + 1 ≤ k) wr _ := ((Kept.of_below HB1.out (fun k => k = q ∨ w.heap.size + 1 ≤ k)).trans KP2.out (fun k hk => Or.inl (Or.inl hk))).trans kA (fun k hk => Or.inl (Or.inr hk))
              have hm7 := block_setCell (i := 7) RB3.out (.slice A3 (l.length + 1) c3)
              simp only [List.setIfInBounds_toArray, List.set_cons_zero, List.set_cons_succ] at hm7
              have hl9 : LQ _ q B := LQ2.out.kept kA (fun k hk => by omega) hBq
              have hz9 := (kB.block w.heap.size (by have := SZ.out; omega) (by omega)).trans ZZ.out
              have hk9 : Kept (fun k => k = q) w _ := KP.out.trans kB fun k hk => by omega
              have ho9 := own_kept HO3.out (w' := w3.setCell ⟨w.heap.size + 1, 7, none⟩ (.slice A3 (l.length + 1) c3)) fun g hg => Below.heap_setCell _ _ _ _ (by have := (HO3.out.lt g hg).1; show g ≠ w.heap.size + 1; omega)
              have hs9 := kB.size
              generalize w3.setCell ⟨w.heap.size + 1, 7, none⟩ (.slice A3 (l.length + 1) c3) = w9 at *
              have HM7 := Lib.hid hm7; have HL9 := Lib.hid hl9; have HZ9 := Lib.hid hz9; have HK9 := Lib.hid hk9; have HO9 := Lib.hid ho9
              clear kA kB hm7 hl9 hz9 hk9 ho9 k7 f7 hHeld
              go_wp2
              go_roundw
              case rel => exact ⟨1 + 1, 1 + 1, l ++ [(nm 1, ⟨s, d, ca, cb⟩)], A3, c3, by omega, rfl, rfl, CT.out.snoc (nm_facts 1 (by omega)).1 (nm_facts 1 (by omega)).2 HOK.out, by rw [List.length_append]; exact HM7.out, by rw [List.length_append]; exact HO9.out, HL9.out, HK9.out, by have := SZ.out; omega, HZ9.out⟩
              case measure => simp [intOf]
            · go_wp2
              go_roundw
              case rel => exact ⟨2, 2, l, A, c, by omega, rfl, rfl, CT.out.next (nm_facts 1 (by omega)).1, RBl.out, OW.out, LQ_.out, KP.out, SZ.out, ZZ.out⟩
              case measure => simp [intOf]
          · obtain rfl : ti = 2 := hti
            go_wp2_with fail
            · refine wp_region_z (S := fun w' => RB w' (w.heap.size + 1) key a e g A l.length c) 12 (by kernel_rfl) ?_ (fun hHeld => ?_)
              · exact RBl.out
              refine wpAnyZ_take (i := 0) (v := ?_) rfl (by kernel_rfl) (by kernel_rfl) (by kernel_rfl) (by kernel_rfl) (fun _ _ _ h => h) (Or.inl ⟨by rfl, ?_⟩) (by assumption) ?_
              rotate_left
              · (intro wx hSw; (try dsimp only at hSw); go_simp; try with_reducible rfl)
              try simp only [Act.put, List.getElem_toArray, List.getElem_cons_succ, List.getElem_cons_zero, List.setIfInBounds_toArray, List.set_cons_zero, List.set_cons_succ]
              refine wpAnyZ_take (i := 1) (v := ?_) rfl (by kernel_rfl) (by kernel_rfl) (by kernel_rfl) (by kernel_rfl) (fun _ _ _ h => h) (Or.inl ⟨by rfl, ?_⟩) (by assumption) ?_
              rotate_left
              · (intro wx hSw; (try dsimp only at hSw); obtain ⟨_, _, _, _, _, _, _, _⟩ := RB.cells hSw; go_simp; try with_reducible rfl)
              try simp only [Act.put, List.getElem_toArray, List.getElem_cons_succ, List.getElem_cons_zero, List.setIfInBounds_toArray, List.set_cons_zero, List.set_cons_succ]
              refine wpAnyZ_take (i := 3) (v := ?_) rfl (by kernel_rfl) (by kernel_rfl) (by kernel_rfl) (by kernel_rfl) (fun _ _ _ h => h) (Or.inl ⟨by rfl, ?_⟩) (by assumption) ?_
              rotate_left
              · (intro wx hSw; (try dsimp only at hSw); go_simp; try with_reducible rfl)
              try simp only [Act.put, List.getElem_toArray, List.getElem_cons_succ, List.getElem_cons_zero, List.setIfInBounds_toArray, List.set_cons_zero, List.set_cons_succ]
              refine wpAnyZ_take (i := 6) (v := ?_) rfl (by kernel_rfl) (by kernel_rfl) (by kernel_rfl) (by kernel_rfl) (fun _ _ _ h => h) (Or.inl ⟨by rfl, ?_⟩) (by assumption) ?_
              rotate_left
              · (intro wx hSw; (try dsimp only at hSw); go_simp; try with_reducible rfl)
              try simp only [Act.put, List.getElem_toArray, List.getElem_cons_succ, List.getElem_cons_zero, List.setIfInBounds_toArray, List.set_cons_zero, List.set_cons_succ]
              refine wpAnyZ_one (i := 2) (by kernel_rfl) rfl (fun K hK => ?_)
              go_simp
              refine (names_any _).mono ?_
              rintro x v1 ⟨rfl, hv1⟩
              have hb1 : Below wr.heap.size wr v1 := by rw [hv1]; exact ((Below.refl _ _).drew).alloc (Nat.le_refl _) _
              have hn1 : v1.heap[wr.heap.size]? = some (.cells #[.string (nm 0), .string (nm 1), .string (nm 2), .string (nm 3)] 9 (0, 0)) := by rw [hv1]; exact heap_alloc_new wr.drew _
              have hs1 : v1.heap.size = wr.heap.size + 1 := by rw [hv1]; simp
              have HB1 := Lib.hid hb1; have HN1 := Lib.hid hn1; have HV1 := Lib.hid hs1; have LQ1 := Lib.hid (LQ_.out.below hb1 (by have := LQ_.out.lt; omega))
              clear hv1 hb1 hn1 hs1
              try go_wp2_with fail
              refine hK.out _ _ ?_ (fun hHeld => ?_)
              · first | exact (HB1.out.block (w.heap.size + 1) (by have := SZ.out; omega)).trans RBl.out | exact ⟨(KP2.out.block (w.heap.size + 1) (by have := SZ.out; have := HV1.out; omega) (by omega)).trans hHeld.1, (KP2.out.block wr.heap.size (by have := HV1.out; omega) (by have := SZ.out; omega)).trans hHeld.2⟩
              clear hK K
              try simp only [Act.put, List.getElem_toArray, List.getElem_cons_succ, List.getElem_cons_zero, List.setIfInBounds_toArray, List.set_cons_zero, List.set_cons_succ]
              refine held_upz (S' := fun w' => RB w' (w.heap.size + 1) key a e g A l.length c ∧ w'.heap[wr.heap.size]? = some (.cells #[.string (nm 0), .string (nm 1), .string (nm 2), .string (nm 3)] 9 (0, 0))) (fun _ h => h.1) _ _ _ _ ?_
              replace hHeld := And.intro hHeld HN1.out
              refine wpAnyZ_take (i := 4) (v := ?_) rfl (by kernel_rfl) (by kernel_rfl) (by kernel_rfl) (by kernel_rfl) (fun _ _ _ h => h) (Or.inl ⟨by rfl, ?_⟩) (by assumption) ?_
              rotate_left
              · (intro wx hSw; (try dsimp only at hSw); go_simp; try with_reducible rfl)
              try simp only [Act.put, List.getElem_toArray, List.getElem_cons_succ, List.getElem_cons_zero, List.setIfInBounds_toArray, List.set_cons_zero, List.set_cons_succ]
              refine wpAnyZ_take (i := 5) (v := ?_) rfl (by kernel_rfl) (by kernel_rfl) (by kernel_rfl) (by kernel_rfl) (fun _ _ _ h => h) (Or.inl ⟨by rfl, ?_⟩) (by assumption) ?_
              rotate_left
              · (intro wx hSw; (try dsimp only at hSw); have hn0 := cell_at (i := 0) hSw.2 rfl; have hn1 := cell_at (i := 1) hSw.2 rfl; have hn2 := cell_at (i := 2) hSw.2 rfl; have hn3 := cell_at (i := 3) hSw.2 rfl; go_simp; try with_reducible rfl)
              try simp only [Act.put, List.getElem_toArray, List.getElem_cons_succ, List.getElem_cons_zero, List.setIfInBounds_toArray, List.set_cons_zero, List.set_cons_succ]
              refine wpAnyZ_one (i := 7) (by kernel_rfl) rfl (fun K hK => ?_)
              go_simp
              refine (cell_gen q B _ LQ1.out hBq).mono ?_
              rintro x v2 ⟨s, d, ca, cb, rfl, hok, hlq2, hkp2⟩
              have HOK := Lib.hid hok; have LQ2 := Lib.hid hlq2; have KP2 := Lib.hid hkp2
              clear hok hlq2 hkp2
              try go_wp2_with fail
              refine hK.out _ _ ?_ (fun hHeld => ?_)
              · first | exact (HB1.out.block (w.heap.size + 1) (by have := SZ.out; omega)).trans RBl.out | exact ⟨(KP2.out.block (w.heap.size + 1) (by have := SZ.out; have := HV1.out; omega) (by omega)).trans hHeld.1, (KP2.out.block wr.heap.size (by have := HV1.out; omega) (by have := SZ.out; omega)).trans hHeld.2⟩
              clear hK K
              try simp only [Act.put, List.getElem_toArray, List.getElem_cons_succ, List.getElem_cons_zero, List.setIfInBounds_toArray, List.set_cons_zero, List.set_cons_succ]
              have hown2 := own_kept (own_below OW.out (HB1.out)) fun k hk => KP2.out.block k (own_block_lt (own_below OW.out (HB1.out)) k hk) (by have := (OW.out.lt k hk).1; omega)
              have OWN := Lib.hid (own_below hown2 ((Below.refl v2.heap.size v2).alloc (Nat.le_refl _) (.cells #[.string (nm 2), .string s, .bool d, .int .i64 ca, .int .i64 cb] 66)))
              have RD := Lib.hid (RdK.one v2 ((nm 2), ⟨s, d, ca, cb⟩) v2.heap.size rfl)
              clear hown2
              refine wpAnyZ_take (i := 8) (v := ?_) rfl (by kernel_rfl) (by kernel_rfl) (by kernel_rfl) (by kernel_rfl) (fun _ _ _ h => h) (Or.inl ⟨by rfl, ?_⟩) (by assumption) ?_
              rotate_left
              · (intro wx hSw; (try dsimp only at hSw); go_simp; try with_reducible rfl)
              try simp only [Act.put, List.getElem_toArray, List.getElem_cons_succ, List.getElem_cons_zero, List.setIfInBounds_toArray, List.set_cons_zero, List.set_cons_succ]
              refine wpAnyZ_one (i := 9) (by kernel_rfl) rfl (fun K hK => ?_)
              go_simp
              refine hK.out _ _ ?_ (fun hHeld => ?_)
              · exact ⟨at_new hHeld.1 _, at_new hHeld.2 _⟩
              clear hK K
              try simp only [Act.put, List.getElem_toArray, List.getElem_cons_succ, List.getElem_cons_zero, List.setIfInBounds_toArray, List.set_cons_zero, List.set_cons_succ]
              refine wpAnyZ_one (i := 10) (by kernel_rfl) rfl (fun K hK => ?_)
              refine step_ex rfl (.tmp 51) (.tmp 59) _ _ rfl (.slice A l.length c) (.slice (some ⟨v2.heap.size, 0, none⟩) 1 1) (by simp [Act.eval]) (by simp [Act.eval]) (run_appK (w.heap.size + 2) OWN.out RD.out ?s1 ?s2) ?_
              case s1 => have := CT.out.len; omega
              case s2 => have := SZ.out; have := HV1.out; have := KP2.out.size; simp; omega
              intro v3 w3 ho3 hg3
              obtain ⟨hg3, _⟩ := hg3
              obtain ⟨A3, c3, rfl, _⟩ := own_slice ho3
              have HO3 := Lib.hid ho3; have HG3 := Lib.hid hg3
              clear ho3 hg3
              refine hK.out _ _ ?_ (fun hHeld => ?_)
              · exact ⟨(HG3.out.block (w.heap.size + 1) (by have := SZ.out; have := HV1.out; have := KP2.out.size; simp; omega) (fun e => by have := (OWN.out.lt _ e.symm).1; omega)).trans hHeld.1, (HG3.out.block wr.heap.size (by have := HV1.out; have := KP2.out.size; simp; omega) (fun e => by have := (OW.out.lt _ e.symm).2; omega)).trans hHeld.2⟩
              clear hK K
              try simp only [Act.put, List.getElem_toArray, List.getElem_cons_succ, List.getElem_cons_zero, List.setIfInBounds_toArray, List.set_cons_zero, List.set_cons_succ]
              have k7 := cell_at (i := 7) hHeld.1 rfl
              have f7 := thawed_at (i := 7) hHeld.1
              have RB3 := Lib.hid hHeld.1
              refine wpAnyZ_take (i := 11) (v := ?_) rfl (by kernel_rfl) (by kernel_rfl) (by kernel_rfl) (by kernel_rfl) (fun _ _ _ h => h) (Or.inl ⟨by rfl, ?_⟩) (by assumption) ?_
              rotate_left
              · (intro wx hSw; (try dsimp only at hSw); go_simp; try with_reducible rfl)
              try simp only [Act.put, List.getElem_toArray, List.getElem_cons_succ, List.getElem_cons_zero, List.setIfInBounds_toArray, List.set_cons_zero, List.set_cons_succ]
              refine wpAnyZ_last (by kernel_rfl) rfl (fun K hK => ?_)
              go_simp
              refine hK.out _ _ ?_
              clear hK K
              try simp only [Act.put, List.getElem_toArray, List.getElem_cons_succ, List.getElem_cons_zero, List.setIfInBounds_toArray, List.set_cons_zero, List.set_cons_succ]
              refine wpAnyZ_done (by kernel_rfl) ?_ _
              have kA : Kept (fun k => w.heap.size + 1 ≤ k) v2 (w3.setCell ⟨w.heap.size + 1, 7, none⟩ (.slice A3 (l.length + 1) c3)) := ((Kept.alloc (fun k => w.heap.size + 1 ≤ k) v2 _).trans (Kept.of_grown (F := fun k => w.heap.size + 1 ≤ k) HG3.out (fun k hk => by have := (OWN.out.lt k hk).1; omega)) (fun k hk => Or.inl hk)).trans (Kept.setCell (fun k => w.heap.size + 1 ≤ k) w3 ⟨w.heap.size + 1, 7, none⟩ _ (Nat.le_refl _)) fun k hk => Or.inl hk
              have kB : Kept (fun k => k = q ∨ w.heap.size + 1 ≤ k) wr _ := ((Kept.of_below HB1.out (fun k => k = q ∨ w.heap.size + 1 ≤ k)).trans KP2.out (fun k hk => Or.inl (Or.inl hk))).trans kA (fun k hk => Or.inl (Or.inr hk))
              have hm7 := block_setCell (i := 7) RB3.out (.slice A3 (l.length + 1) c3)
              simp only [List.setIfInBounds_toArray, List.set_cons_zero, List.set_cons_succ] at hm7
              have hl9 : LQ _ q B := LQ2.out.kept kA (fun k hk => by omega) hBq
              have hz9 := (kB.block w.heap.size (by have := SZ.out; omega) (by omega)).trans ZZ.out
              have hk9 : Kept (fun k => k = q) w _ := KP.out.trans kB fun k hk => by omega
              have ho9 := own_kept HO3.out (w' := w3.setCell ⟨w.heap.size + 1, 7, none⟩ (.slice A3 (l.length + 1) c3)) fun g hg => Below.heap_setCell _ _ _ _ (by have := (HO3.out.lt g hg).1; show g ≠ w.heap.size + 1; omega)
              have hs9 := kB.size
              generalize w3.setCell ⟨w.heap.size + 1, 7, none⟩ (.slice A3 (l.length + 1) c3) = w9 at *
              have HM7 := Lib.hid hm7; have HL9 := Lib.hid hl9; have HZ9 := Lib.hid hz9; have HK9 := Lib.hid hk9; have HO9 := Lib.hid ho9
              clear kA kB hm7 hl9 hz9 hk9 ho9 k7 f7 hHeld
              go_wp2
              go_roundw
              case rel => exact ⟨2 + 1, 2 + 1, l ++ [(nm 2, ⟨s, d, ca, cb⟩)], A3, c3, by omega, rfl, rfl, CT.out.snoc (nm_facts 2 (by omega)).1 (nm_facts 2 (by omega)).2 HOK.out, by rw [List.length_append]; exact HM7.out, by rw [List.length_append]; exact HO9.out, HL9.out, HK9.out, by have := SZ.out; omega, HZ9.out⟩
              case measure => simp [intOf]
            · go_wp2
              go_roundw
              case rel => exact ⟨3, 3, l, A, c, by omega, rfl, rfl, CT.out.next (nm_facts 2 (by omega)).1, RBl.out, OW.out, LQ_.out, KP.out, SZ.out, ZZ.out⟩
              case measure => simp [intOf]
          · obtain rfl : ti = 3 := hti
            go_wp2_with fail
            · refine wp_region_z (S := fun w' => RB w' (w.heap.size + 1) key a e g A l.length c) 12 (by kernel_rfl) ?_ (fun hHeld => ?_)
              · exact RBl.out
              refine wpAnyZ_take (i := 0) (v := ?_) rfl (by kernel_rfl) (by kernel_rfl) (by kernel_rfl) (by kernel_rfl) (fun _ _ _ h => h) (Or.inl ⟨by rfl, ?_⟩) (by assumption) ?_
              rotate_left
              · (intro wx hSw; (try dsimp only at hSw); go_simp; try with_reducible rfl)
              try simp only [Act.put, List.getElem_toArray, List.getElem_cons_succ, List.getElem_cons_zero, List.setIfInBounds_toArray, List.set_cons_zero, List.set_cons_succ]
              refine wpAnyZ_take (i := 1) (v := ?_) rfl (by kernel_rfl) (by kernel_rfl) (by kernel_rfl) (by kernel_rfl) (fun _ _ _ h => h) (Or.inl ⟨by rfl, ?_⟩) (by assumption) ?_
              rotate_left
              · (intro wx hSw; (try dsimp only at hSw); obtain ⟨_, _, _, _, _, _, _, _⟩ := RB.cells hSw; go_simp; try with_reducible rfl)
              try simp only [Act.put, List.getElem_toArray, List.getElem_cons_succ, List.getElem_cons_zero, List.setIfInBounds_toArray, List.set_cons_zero, List.set_cons_succ]
              refine wpAnyZ_take (i := 3) (v := ?_) rfl (by kernel_rfl) (by kernel_rfl) (by kernel_rfl) (by kernel_rfl) (fun _ _ _ h => h) (Or.inl ⟨by rfl, ?_⟩) (by assumption) ?_
              rotate_left
              · (intro wx hSw; (try dsimp only at hSw); go_simp; try with_reducible rfl)
              try simp only [Act.put, List.getElem_toArray, List.getElem_cons_succ, List.getElem_cons_zero, List.setIfInBounds_toArray, List.set_cons_zero, List.set_cons_succ]
              refine wpAnyZ_take (i := 6) (v := ?_) rfl (by kernel_rfl) (by kernel_rfl) (by kernel_rfl) (by kernel_rfl) (fun _ _ _ h => h) (Or.inl ⟨by rfl, ?_⟩) (by assumption) ?_
              rotate_left
              · (intro wx hSw; (try dsimp only at hSw); go_simp; try with_reducible rfl)
              try simp only [Act.put, List.getElem_toArray, List.getElem_cons_succ, List.getElem_cons_zero, List.setIfInBounds_toArray, List.set_cons_zero, List.set_cons_succ]
              refine wpAnyZ_one (i := 2) (by kernel_rfl) rfl (fun K hK => ?_)
              go_simp
              refine (names_any _).mono ?_
              rintro x v1 ⟨rfl, hv1⟩
              have hb1 : Below wr.heap.size wr v1 := by rw [hv1]; exact ((Below.refl _ _).drew).alloc (Nat.le_refl _) _
              have hn1 : v1.heap[wr.heap.size]? = some (.cells #[.string (nm 0), .string (nm 1), .string (nm 2), .string (nm 3)] 9 (0, 0)) := by rw [hv1]; exact heap_alloc_new wr.drew _
              have hs1 : v1.heap.size = wr.heap.size + 1 := by rw [hv1]; simp
              have HB1 := Lib.hid hb1; have HN1 := Lib.hid hn1; have HV1 := Lib.hid hs1; have LQ1 := Lib.hid (LQ_.out.below hb1 (by have := LQ_.out.lt; omega))
              clear hv1 hb1 hn1 hs1
              try go_wp2_with fail
              refine hK.out _ _ ?_ (fun hHeld => ?_)
              · first | exact (HB1.out.block (w.heap.size + 1) (by have := SZ.out; omega)).trans RBl.out | exact ⟨(KP2.out.block (w.heap.size + 1) (by have := SZ.out; have := HV1.out; omega) (by omega)).trans hHeld.1, (KP2.out.block wr.heap.size (by have := HV1.out; omega) (by have := SZ.out; omega)).trans hHeld.2⟩
              clear hK K
              try simp only [Act.put, List.getElem_toArray, List.getElem_cons_succ, List.getElem_cons_zero, List.setIfInBounds_toArray, List.set_cons_zero, List.set_cons_succ]
              refine held_upz (S' := fun w' => RB w' (w.heap.size + 1) key a e g A l.length c ∧ w'.heap[wr.heap.size]? = some (.cells #[.string (nm 0), .string (nm 1), .string (nm 2), .string (nm 3)] 9 (0, 0))) (fun _ h => h.1) _ _ _ _ ?_
              replace hHeld := And.intro hHeld HN1.out
              refine wpAnyZ_take (i := 4) (v := ?_) rfl (by kernel_rfl) (by kernel_rfl) (by kernel_rfl) (by kernel_rfl) (fun _ _ _ h => h) (Or.inl ⟨by rfl, ?_⟩) (by assumption) ?_
              rotate_left
              · (intro wx hSw; (try dsimp only at hSw); go_simp; try with_reducible rfl)
              try simp only [Act.put, List.getElem_toArray, List.getElem_cons_succ, List.getElem_cons_zero, List.setIfInBounds_toArray, List.set_cons_zero, List.set_cons_succ]
              refine wpAnyZ_take (i := 5) (v := ?_) rfl (by kernel_rfl) (by kernel_rfl) (by kernel_rfl) (by kernel_rfl) (fun _ _ _ h => h) (Or.inl ⟨by rfl, ?_⟩) (by assumption) ?_
              rotate_left
              · (intro wx hSw; (try dsimp only at hSw); have hn0 := cell_at (i := 0) hSw.2 rfl; have hn1 := cell_at (i := 1) hSw.2 rfl; have hn2 := cell_at (i := 2) hSw.2 rfl; have hn3 := cell_at (i := 3) hSw.2 rfl; go_simp; try with_reducible rfl)
              try simp only [Act.put, List.getElem_toArray, List.getElem_cons_succ, List.getElem_cons_zero, List.setIfInBounds_toArray, List.set_cons_zero, List.set_cons_succ]
              refine wpAnyZ_one (i := 7) (by kernel_rfl) rfl (fun K hK => ?_)
              go_simp
              refine (cell_gen q B _ LQ1.out hBq).mono ?_
              rintro x v2 ⟨s, d, ca, cb, rfl, hok, hlq2, hkp2⟩
              have HOK := Lib.hid hok; have LQ2 := Lib.hid hlq2; have KP2 := Lib.hid hkp2
              clear hok hlq2 hkp2
              try go_wp2_with fail
              refine hK.out _ _ ?_ (fun hHeld => ?_)
              · first | exact (HB1.out.block (w.heap.size + 1) (by have := SZ.out; omega)).trans RBl.out | exact ⟨(KP2.out.block (w.heap.size + 1) (by have := SZ.out; have := HV1.out; omega) (by omega)).trans hHeld.1, (KP2.out.block wr.heap.size (by have := HV1.out; omega) (by have := SZ.out; omega)).trans hHeld.2⟩
              clear hK K
              try simp only [Act.put, List.getElem_toArray, List.getElem_cons_succ, List.getElem_cons_zero, List.setIfInBounds_toArray, List.set_cons_zero, List.set_cons_succ]
              have hown2 := own_kept (own_below OW.out (HB1.out)) fun k hk => KP2.out.block k (own_block_lt (own_below OW.out (HB1.out)) k hk) (by have := (OW.out.lt k hk).1; omega)
              have OWN := Lib.hid (own_below hown2 ((Below.refl v2.heap.size v2).alloc (Nat.le_refl _) (.cells #[.string (nm 3), .string s, .bool d, .int .i64 ca, .int .i64 cb] 66)))
              have RD := Lib.hid (RdK.one v2 ((nm 3), ⟨s, d, ca, cb⟩) v2.heap.size rfl)
              clear hown2
              refine wpAnyZ_take (i := 8) (v := ?_) rfl (by kernel_rfl) (by kernel_rfl) (by kernel_rfl) (by kernel_rfl) (fun _ _ _ h => h) (Or.inl ⟨by rfl, ?_⟩) (by assumption) ?_
              rotate_left
              · (intro wx hSw; (try dsimp only at hSw); go_simp; try with_reducible rfl)
              try simp only [Act.put, List.getElem_toArray, List.getElem_cons_succ, List.getElem_cons_zero, List.setIfInBounds_toArray, List.set_cons_zero, List.set_cons_succ]
              refine wpAnyZ_one (i := 9) (by kernel_rfl) rfl (fun K hK => ?_)
              go_simp
              refine hK.out _ _ ?_ (fun hHeld => ?_)
              · exact ⟨at_new hHeld.1 _, at_new hHeld.2 _⟩
              clear hK K
              try simp only [Act.put, List.getElem_toArray, List.getElem_cons_succ, List.getElem_cons_zero, List.setIfInBounds_toArray, List.set_cons_zero, List.set_cons_succ]
              refine wpAnyZ_one (i := 10) (by kernel_rfl) rfl (fun K hK => ?_)
              refine step_ex rfl (.tmp 51) (.tmp 59) _ _ rfl (.slice A l.length c) (.slice (some ⟨v2.heap.size, 0, none⟩) 1 1) (by simp [Act.eval]) (by simp [Act.eval]) (run_appK (w.heap.size + 2) OWN.out RD.out ?s1 ?s2) ?_
              case s1 => have := CT.out.len; omega
              case s2 => have := SZ.out; have := HV1.out; have := KP2.out.size; simp; omega
              intro v3 w3 ho3 hg3
              obtain ⟨hg3, _⟩ := hg3
              obtain ⟨A3, c3, rfl, _⟩ := own_slice ho3
              have HO3 := Lib.hid ho3; have HG3 := Lib.hid hg3
              clear ho3 hg3
              refine hK.out _ _ ?_ (fun hHeld => ?_)
              · exact ⟨(HG3.out.block (w.heap.size + 1) (by have := SZ.out; have := HV1.out; have := KP2.out.size; simp; omega) (fun e => by have := (OWN.out.lt _ e.symm).1; omega)).trans hHeld.1, (HG3.out.block wr.heap.size (by have := HV1.out; have := KP2.out.size; simp; omega) (fun e => by have := (OW.out.lt _ e.symm).2; omega)).trans hHeld.2⟩
              clear hK K
              try simp only [Act.put, List.getElem_toArray, List.getElem_cons_succ, List.getElem_cons_zero, List.setIfInBounds_toArray, List.set_cons_zero, List.set_cons_succ]
              have k7 := cell_at (i := 7) hHeld.1 rfl
              have f7 := thawed_at (i := 7) hHeld.1
              have RB3 := Lib.hid hHeld.1
              refine wpAnyZ_take (i := 11) (v := ?_) rfl (by kernel_rfl) (by kernel_rfl) (by kernel_rfl) (by kernel_rfl) (fun _ _ _ h => h) (Or.inl ⟨by rfl, ?_⟩) (by assumption) ?_
              rotate_left
              · (intro wx hSw; (try dsimp only at hSw); go_simp; try with_reducible rfl)
              try simp only [Act.put, List.getElem_toArray, List.getElem_cons_succ, List.getElem_cons_zero, List.setIfInBounds_toArray, List.set_cons_zero, List.set_cons_succ]
              refine wpAnyZ_last (by kernel_rfl) rfl (fun K hK => ?_)
              go_simp
              refine hK.out _ _ ?_
              clear hK K
              try simp only [Act.put, List.getElem_toArray, List.getElem_cons_succ, List.getElem_cons_zero, List.setIfInBounds_toArray, List.set_cons_zero, List.set_cons_succ]
              refine wpAnyZ_done (by kernel_rfl) ?_ _
              have kA : Kept (fun k => w.heap.size + 1 ≤ k) v2 (w3.setCell ⟨w.heap.size + 1, 7, none⟩ (.slice A3 (l.length + 1) c3)) := ((Kept.alloc (fun k => w.heap.size + 1 ≤ k) v2 _).trans (Kept.of_grown (F := fun k => w.heap.size + 1 ≤ k) HG3.out (fun k hk => by have := (OWN.out.lt k hk).1; omega)) (fun k hk => Or.inl hk)).trans (Kept.setCell (fun k => w.heap.size + 1 ≤ k) w3 ⟨w.heap.size + 1, 7, none⟩ _ (Nat.le_refl _)) fun k hk => Or.inl hk
              have kB : Kept (fun k => k = q ∨ w.heap.size + 1 ≤ k) wr _ := ((Kept.of_below HB1.out (fun k => k = q ∨ w.heap.size + 1 ≤ k)).trans KP2.out (fun k hk => Or.inl (Or.inl hk))).trans kA (fun k hk => Or.inl (Or.inr hk))
              have hm7 := block_setCell (i := 7) RB3.out (.slice A3 (l.length + 1) c3)
              simp only [List.setIfInBounds_toArray, List.set_cons_zero, List.set_cons_succ] at hm7
              have hl9 : LQ _ q B := LQ2.out.kept kA (fun k hk => by omega) hBq
              have hz9 := (kB.block w.heap.size (by have := SZ.out; omega) (by omega)).trans ZZ.out
              have hk9 : Kept (fun k => k = q) w _ := KP.out.trans kB fun k hk => by omega
              have ho9 := own_kept HO3.out (w' := w3.setCell ⟨w.heap.size + 1, 7, none⟩ (.slice A3 (l.length + 1) c3)) fun g hg => Below.heap_setCell _ _ _ _ (by have := (HO3.out.lt g hg).1; show g ≠ w.heap.size + 1; omega)
              have hs9 := kB.size
              generalize w3.setCell ⟨w.heap.size + 1, 7, none⟩ (.slice A3 (l.length + 1) c3) = w9 at *
              have HM7 := Lib.hid hm7; have HL9 := Lib.hid hl9; have HZ9 := Lib.hid hz9; have HK9 := Lib.hid hk9; have HO9 := Lib.hid ho9
              clear kA kB hm7 hl9 hz9 hk9 ho9 k7 f7 hHeld
              go_wp2
              go_roundw
              case rel => exact ⟨3 + 1, 3 + 1, l ++ [(nm 3, ⟨s, d, ca, cb⟩)], A3, c3, by omega, rfl, rfl, CT.out.snoc (nm_facts 3 (by omega)).1 (nm_facts 3 (by omega)).2 HOK.out, by rw [List.length_append]; exact HM7.out, by rw [List.length_append]; exact HO9.out, HL9.out, HK9.out, by have := SZ.out; omega, HZ9.out⟩
              case measure => simp [intOf]
            · go_wp2
              go_roundw
              case rel => exact ⟨4, 4, l, A, c, by omega, rfl, rfl, CT.out.next (nm_facts 3 (by omega)).1, RBl.out, OW.out, LQ_.out, KP.out, SZ.out, ZZ.out⟩
              case measure => simp [intOf]
end Go.Proofs.Ytafbbojfifcncaa
set_option linter.unusedVariables false
namespace Go.Proofs.Ytafbbojfifcncaa
open Go

/-- The lowest n bytes of v, the highest first. -/
def be (v : Nat) : Nat → List UInt8
  | 0 => []
  | n + 1 => UInt8.ofNat (v / 256 ^ n) :: be v n
theorem be_length (v : Nat) : ∀ n, (be v n).length = n
  | 0 => rfl
  | n + 1 => by rw [be, List.length_cons, be_length v n]

/-- The number that bytes are, the highest first. -/
def vlF (a : Nat) (l : List UInt8) : Nat := l.foldl (fun a c => a * 256 + c.toNat) a
def vl (l : List UInt8) : Nat := vlF 0 l
theorem vlF_cons (a : Nat) (c : UInt8) (l : List UInt8) : vlF a (c :: l) = vlF (a * 256 + c.toNat) l := rfl
theorem vlF_eq : ∀ (l : List UInt8) (a : Nat), vlF a l = a * 256 ^ l.length + vl l
  | [], a => by simp [vlF, vl]
  | c :: l, a => by
    rw [vlF_cons, vlF_eq l, show vl (c :: l) = vlF (0 * 256 + c.toNat) l from rfl, vlF_eq l (0 * 256 + c.toNat), List.length_cons, Nat.pow_succ]
    rw [Nat.add_mul, Nat.zero_mul, Nat.zero_add, Nat.mul_assoc, Nat.mul_comm 256, Nat.add_assoc]
theorem vl_snoc (l : List UInt8) (c : UInt8) : vl (l ++ [c]) = vl l * 256 + c.toNat := by
  unfold vl vlF
  rw [List.foldl_append]
  rfl
theorem vl_cons (c : UInt8) (l : List UInt8) : vl (c :: l) = c.toNat * 256 ^ l.length + vl l := by
  rw [show vl (c :: l) = vlF (0 * 256 + c.toNat) l from rfl, vlF_eq, Nat.zero_mul, Nat.zero_add]
theorem vl_lt : ∀ l : List UInt8, vl l < 256 ^ l.length
  | [] => by simp [vl, vlF]
  | c :: l => by
    have h1 := vl_lt l
    have h2 := c.toNat_lt
    rw [vl_cons, List.length_cons, Nat.pow_succ]
    have h3 : c.toNat * 256 ^ l.length ≤ 255 * 256 ^ l.length := Nat.mul_le_mul_right _ (by omega)
    omega
theorem vl_be (v : Nat) : ∀ n, vl (be v n) = v % 256 ^ n
  | 0 => by simp [be, vl, vlF, Nat.mod_one]
  | n + 1 => by
    rw [be, vl_cons, be_length, vl_be v n, UInt8.toNat_ofNat']
    rw [show (2 : Nat) ^ 8 = 256 from rfl, Nat.mul_comm, Nat.pow_succ, Nat.add_comm, Nat.mod_mul]
theorem be_vl : ∀ l : List UInt8, be (vl l) l.length = l
  | [] => rfl
  | c :: l => by
    have h1 := vl_lt l
    have hp : 0 < 256 ^ l.length := Nat.pow_pos (by omega)
    have e : ∀ a b n : Nat, be (a * 256 ^ n + b) n = be b n := by
      intro a b n
      have g : ∀ m, m ≤ n → be (a * 256 ^ n + b) m = be b m := by
        intro m
        induction m with
        | zero => intro _; rfl
        | succ m ih =>
          intro hm
          rw [be, be, ih (by omega)]
          congr 1
          apply UInt8.toNat_inj.1
          rw [UInt8.toNat_ofNat', UInt8.toNat_ofNat']
          obtain ⟨k, rfl⟩ : ∃ k, n = m + 1 + k := ⟨n - (m + 1), by omega⟩
          rw [show a * 256 ^ (m + 1 + k) + b = b + 256 ^ m * (256 * (a * 256 ^ k)) from by
            rw [Nat.pow_add, Nat.pow_succ, Nat.add_comm]; congr 1; ac_rfl]
          rw [Nat.add_mul_div_left _ _ (Nat.pow_pos (by omega)), show (2 : Nat) ^ 8 = 256 from rfl, Nat.add_mul_mod_self_left]
      exact g n (Nat.le_refl n)
    rw [List.length_cons, be, vl_cons, e, be_vl l]
    congr 1
    apply UInt8.toNat_inj.1
    rw [UInt8.toNat_ofNat', Nat.mul_comm, Nat.mul_add_div hp, Nat.div_eq_of_lt h1]
    have := c.toNat_lt
    omega

/-- How many bytes a number has. -/
def nb (v : Nat) : Nat := (Lib.bitLen v + 7) / 8
theorem bitLen_facts (v : Nat) (h : v < 18446744073709551616) : Lib.bitLen v ≤ 64 ∧ v < 2 ^ Lib.bitLen v ∧ (v ≠ 0 → 1 ≤ Lib.bitLen v ∧ 2 ^ (Lib.bitLen v - 1) ≤ v) := by
  by_cases h0 : v = 0
  · subst h0
    exact ⟨by decide, by decide, fun h => absurd rfl h⟩
  · have := Lib.bitLenAux_bounds 64 v (by simpa using h) h0
    exact ⟨Lib.bitLen_le v 64 (by omega) (by simpa using h), this.2.2, fun _ => ⟨this.1, this.2.1⟩⟩
theorem nb_facts (v : Nat) (h : v < 18446744073709551616) : nb v ≤ 8 ∧ v < 256 ^ nb v ∧ (v ≠ 0 → 1 ≤ nb v ∧ 256 ^ (nb v - 1) ≤ v) := by
  obtain ⟨h1, h2, h3⟩ := bitLen_facts v h
  unfold nb
  refine ⟨by omega, ?_, fun h0 => ?_⟩
  · refine Nat.lt_of_lt_of_le h2 ?_
    rw [show (256 : Nat) = 2 ^ 8 from rfl, ← Nat.pow_mul]
    exact Nat.pow_le_pow_right (by omega) (by omega)
  · obtain ⟨h4, h5⟩ := h3 h0
    refine ⟨by omega, Nat.le_trans ?_ h5⟩
    rw [show (256 : Nat) = 2 ^ 8 from rfl, ← Nat.pow_mul]
    exact Nat.pow_le_pow_right (by omega) (by omega)
theorem nb_zero : nb 0 = 0 := by decide
/-- It is the one number of bytes that is right. -/
theorem nb_unique (v k : Nat) (h : v < 18446744073709551616) (h1 : v < 256 ^ k) (h2 : k ≠ 0 → 256 ^ (k - 1) ≤ v) : nb v = k := by
  obtain ⟨g1, g2, g3⟩ := nb_facts v h
  by_cases h0 : v = 0
  · subst h0
    rw [nb_zero]
    by_cases hk : k = 0
    · exact hk.symm
    · have := h2 hk
      have hp : 0 < 256 ^ (k - 1) := Nat.pow_pos (by omega)
      omega
  · obtain ⟨g4, g5⟩ := g3 h0
    rcases Nat.lt_trichotomy (nb v) k with hlt | heq | hgt
    · have a := h2 (by omega)
      have b : 256 ^ nb v ≤ 256 ^ (k - 1) := Nat.pow_le_pow_right (by omega) (by omega)
      omega
    · exact heq
    · have b : 256 ^ k ≤ 256 ^ (nb v - 1) := Nat.pow_le_pow_right (by omega) (by omega)
      omega
theorem nb_step (v : Nat) (h : v < 18446744073709551616) (h0 : v ≠ 0) : nb v = nb (v / 256) + 1 := by
  obtain ⟨g1, g2, g3⟩ := nb_facts (v / 256) (by omega)
  refine nb_unique v _ h ?_ (fun _ => ?_)
  · rw [Nat.pow_succ]
    omega
  · rw [Nat.add_sub_cancel]
    by_cases hz : v / 256 = 0
    · rw [hz, nb_zero]; omega
    · obtain ⟨g4, g5⟩ := g3 hz
      have e : 256 ^ nb (v / 256) = 256 ^ (nb (v / 256) - 1) * 256 := by rw [← Nat.pow_succ]; congr 1; omega
      rw [e]
      omega

/-- A number as bytes. -/
def numL (v : Nat) : List UInt8 := UInt8.ofNat (nb v) :: be v (nb v)
theorem numL_length (v : Nat) : (numL v).length = nb v + 1 := by rw [numL, List.length_cons, be_length]
theorem be_append (v : Nat) : ∀ n, be (v / 256) n ++ [UInt8.ofNat v] = be v (n + 1)
  | 0 => by simp [be]
  | n + 1 => by
    rw [be, List.cons_append, be_append v n, be.eq_2 v (n + 1)]
    congr 1
    rw [Nat.pow_succ, Nat.mul_comm, Nat.div_div_eq_div_mul]

/-- The number at a place: its value, the place behind, what is wrong. -/
def gnum (l : List UInt8) (i : Int) : Nat × Int × Int :=
  if i < 0 ∨ (l.length : Int) < i then (0, 0, 1)
  else match l.drop i.toNat with
  | [] => (0, 0, 8)
  | c :: r => if 8 < c.toNat ∨ (0 < c.toNat ∧ r.head? = some 0) then (0, 0, 6) else if r.length < c.toNat then (0, 0, 8) else (vl (r.take c.toNat), (i.toNat + 1 + c.toNat : Nat), 0)

/-- A text with each byte 0 as two bytes. -/
def esc : List UInt8 → List UInt8
  | [] => []
  | c :: l => if c = 0 then 0 :: 255 :: esc l else c :: esc l
def txtL (l : List UInt8) : List UInt8 := esc l ++ [0, 1]
theorem esc_append : ∀ a b : List UInt8, esc (a ++ b) = esc a ++ esc b
  | [], b => rfl
  | c :: a, b => by
    rw [List.cons_append, esc, esc, esc_append a b]
    split <;> rfl
def nulls (l : List UInt8) : Nat := l.countP (fun c => c == 0)
theorem esc_length : ∀ l : List UInt8, (esc l).length = l.length + nulls l
  | [] => rfl
  | c :: l => by
    have ih := esc_length l
    unfold nulls at ih ⊢
    rw [esc, List.countP_cons]
    by_cases h : c = 0
    · rw [if_pos h, h, List.length_cons, List.length_cons, ih, List.length_cons]; simp; omega
    · rw [if_neg h, List.length_cons, ih, List.length_cons]; simp [h]; omega
theorem nulls_le (l : List UInt8) : nulls l ≤ l.length := List.countP_le_length
theorem txtL_length (l : List UInt8) : (txtL l).length = l.length + nulls l + 2 := by
  unfold txtL
  rw [List.length_append, esc_length]; rfl

/-- What is read of an escaped text: the text and how many bytes it takes, or what is wrong. -/
def unesc : List UInt8 → Except Int (List UInt8 × Nat)
  | [] => .error 8
  | [_] => .error 8
  | c :: d :: r => if c = 0 then (if d = 1 then .ok ([], 2) else if d = 255 then (unesc r).map (fun x => (0 :: x.1, 2 + x.2)) else .error 6) else (unesc (d :: r)).map (fun x => (c :: x.1, 1 + x.2))
theorem unesc_one (c : UInt8) (r : List UInt8) (h : c ≠ 0) : unesc (c :: r) = (unesc r).map (fun x => (c :: x.1, 1 + x.2)) := by
  cases r with
  | nil => rfl
  | cons d r => rw [unesc, if_neg h]
theorem unesc_end (r : List UInt8) : unesc (0 :: 1 :: r) = .ok ([], 2) := by rw [unesc, if_pos rfl, if_pos rfl]
theorem unesc_null (r : List UInt8) : unesc (0 :: 255 :: r) = (unesc r).map (fun x => (0 :: x.1, 2 + x.2)) := by
  rw [unesc, if_pos rfl, if_neg (by decide), if_pos rfl]
theorem unesc_bad (d : UInt8) (r : List UInt8) (h1 : d ≠ 1) (h2 : d ≠ 255) : unesc (0 :: d :: r) = .error 6 := by
  rw [unesc, if_pos rfl, if_neg h1, if_neg h2]
/-- Bytes that are not 0 are themselves. -/
theorem unesc_run : ∀ (p r : List UInt8), (∀ c ∈ p, c ≠ 0) → unesc (p ++ r) = (unesc r).map (fun x => (p ++ x.1, p.length + x.2))
  | [], r, _ => by
    rw [List.nil_append]
    cases unesc r <;> simp [Except.map]
  | c :: p, r, h => by
    rw [List.cons_append, unesc_one c _ (h c (by simp)), unesc_run p r (fun x hx => h x (by simp [hx]))]
    cases unesc r with
    | error e => rfl
    | ok x => simp [Except.map]; omega
theorem unesc_short (p : List UInt8) (h : ∀ c ∈ p, c ≠ 0) : unesc p = .error 8 := by
  have := unesc_run p [] h
  rw [List.append_nil] at this
  rw [this]; rfl
theorem unesc_txt : ∀ (l r : List UInt8), unesc (txtL l ++ r) = .ok (l, (txtL l).length)
  | [], r => unesc_end r
  | c :: l, r => by
    have ih := unesc_txt l r
    unfold txtL at ih ⊢
    rw [esc]
    by_cases h : c = 0
    · rw [if_pos h, h, List.cons_append, List.cons_append, List.cons_append, List.cons_append, unesc_null, ih]
      simp [Except.map]; omega
    · rw [if_neg h, List.cons_append, List.cons_append, unesc_one c _ h, ih]
      simp [Except.map]; omega
theorem unesc_cut : ∀ (l : List UInt8) (k : Nat), k < (txtL l).length → unesc ((txtL l).take k) = .error 8
  | [], k, h => by
    have hk : k = 0 ∨ k = 1 := by simp [txtL, esc] at h; omega
    rcases hk with rfl | rfl <;> rfl
  | c :: l, 0, _ => rfl
  | c :: l, k + 1, h => by
    have ih := unesc_cut l
    unfold txtL at ih h ⊢
    rw [esc] at h ⊢
    by_cases hc : c = 0
    · rw [if_pos hc] at h ⊢
      rw [List.cons_append, List.cons_append, List.take_succ_cons]
      cases k with
      | zero => rw [List.take_zero]; rfl
      | succ k =>
        rw [List.take_succ_cons, unesc_null, ih k (by simp at h ⊢; omega)]
        rfl
    · rw [if_neg hc] at h ⊢
      rw [List.cons_append, List.take_succ_cons, unesc_one c _ hc, ih k (by simp at h ⊢; omega)]
      rfl

/-- The text at a place. -/
def gtxt (l : List UInt8) (i : Int) : List UInt8 × Int × Int :=
  if i < 0 ∨ (l.length : Int) < i then ([], 0, 1)
  else match unesc (l.drop i.toNat) with
  | .error e => ([], 0, e)
  | .ok x => (x.1, (i.toNat + x.2 : Nat), 0)
end Go.Proofs.Ytafbbojfifcncaa
set_option linter.unusedVariables false
namespace Go.Proofs.Ytafbbojfifcncaa
open Go Go.RowKit

theorem addr_block (a : Addr) (n : Nat) : (a.add n).block = a.block := by unfold Addr.add; split <;> rfl
theorem addr_add (a : Addr) (i j : Nat) : (a.add i).add j = a.add (i + j) := by
  unfold Addr.add
  by_cases hi : i = 0 <;> by_cases hj : j = 0 <;> simp [hi, hj, Nat.add_assoc]

/-- The slice at A, n long, holds the bytes l in w, in a block below B. -/
def Rd (w : World) (B : Nat) (A : Option Addr) (n : Nat) (l : List UInt8) : Prop :=
  l.length = n ∧ (0 < n → ∃ ad, A = some ad ∧ ad.block < B ∧ ∀ j (hj : j < l.length), w.cell? (ad.add j) = some (.int .u8 (l[j].toNat : Nat)))

section
variable {w w' : World} {B B' n : Nat} {A : Option Addr} {l : List UInt8}
theorem Rd.nil (w : World) (B : Nat) : Rd w B none 0 [] := ⟨rfl, fun h => absurd h (by omega)⟩
theorem Rd.keep (h : Rd w B A n l) (hk : ∀ p : Addr, p.block < B → w'.cell? p = w.cell? p) : Rd w' B A n l :=
  ⟨h.1, fun hn => by
    obtain ⟨ad, e, hb, hc⟩ := h.2 hn
    exact ⟨ad, e, hb, fun j hj => (hk _ (by rw [addr_block]; exact hb)).trans (hc j hj)⟩⟩
theorem Rd.below (h : Rd w B A n l) (hb : Below B w w') : Rd w' B A n l := h.keep fun _ hp => hb.cell hp
theorem Rd.up (h : Rd w B A n l) (hB : B ≤ B') : Rd w B' A n l :=
  ⟨h.1, fun hn => by
    obtain ⟨ad, e, hb, hc⟩ := h.2 hn
    exact ⟨ad, e, by omega, hc⟩⟩
/-- It holds still behind a call that has kept what was there. -/
theorem Rd.on (h : Rd w B A n l) (hb : Below B w w') (hB : B ≤ B') : Rd w' B' A n l := (h.below hb).up hB
theorem Rd.alloc (h : Rd w B A n l) (hB : B ≤ w.heap.size) (o : Obj) : Rd (w.alloc o) B A n l := h.keep fun p hp => World.cell?_alloc_lt w o p (by omega)
theorem Rd.drew (h : Rd w B A n l) : Rd w.drew B A n l := h
theorem Rd.at_ (h : Rd w B A n l) {j : Nat} (hj : j < n) : ∃ ad, A = some ad ∧ ad.block < B ∧ ∀ i (hi : i < l.length), w.cell? (ad.add i) = some (.int .u8 (l[i].toNat : Nat)) := h.2 (by omega)
theorem Rd.at2 (h : Rd w B A n l) {j : Nat} (hj : j < n) : ∃ g o, A = some ⟨g, o, none⟩ ∧ g < B ∧ ∀ i (hi : i < l.length), w.cell? ⟨g, o + i, none⟩ = some (.int .u8 (l[i].toNat : Nat)) := by
  obtain ⟨ad, rfl, hb, hc⟩ := h.2 (by omega)
  have h0 := hc 0 (by have := h.1; omega)
  have hs : ad.spot = none := by simpa [Addr.add] using World.cell?_spot h0
  obtain ⟨g, o, sp⟩ := ad
  simp only at hs
  subst hs
  exact ⟨g, o, rfl, hb, fun i hi => by rw [← Addr.add_lit]; exact hc i hi⟩
theorem Rd.cut (h : Rd w B A n l) {k m mx : Nat} (hk : k ≤ m) (hm : m ≤ n) (hx : m ≤ mx) :
    Rd w B (if mx = k then A else A.map (·.add k)) (m - k) ((l.take m).drop k) := by
  refine ⟨by rw [List.length_drop, List.length_take, h.1]; omega, fun hn => ?_⟩
  obtain ⟨ad, rfl, hb, hc⟩ := h.2 (by omega)
  rw [if_neg (by omega)]
  refine ⟨ad.add k, rfl, by rw [addr_block]; exact hb, fun j hj => ?_⟩
  rw [addr_add]
  have hj2 : k + j < l.length := by rw [List.length_drop, List.length_take] at hj; omega
  rw [hc (k + j) hj2]
  simp
theorem Rd.pre (h : Rd w B A n l) {m : Nat} (hm : m ≤ n) : Rd w B A m (l.take m) := by
  refine ⟨by rw [List.length_take, h.1]; omega, fun h0 => ?_⟩
  obtain ⟨ad, e, hb, hc⟩ := h.2 (by omega)
  refine ⟨ad, e, hb, fun j hj => ?_⟩
  have hj2 : j < l.length := by rw [List.length_take] at hj; omega
  rw [hc j hj2]
  simp
theorem byteCells_get (l : List UInt8) (j : Nat) : (Lib.byteCells l)[j]? = (l[j]?).map fun b => Value.int .u8 b.toNat := by
  unfold Lib.byteCells
  rw [List.getElem?_map]
theorem Rd.cells (h : Rd w B A n l) {ad : Addr} (ha : A = some ad) : ∀ j u, (Lib.byteCells l)[j]? = some u → w.cell? (ad.add j) = some u := by
  intro j u hu
  rw [byteCells_get] at hu
  have hj : j < l.length := by
    rcases Nat.lt_or_ge j l.length with h1 | h1
    · exact h1
    · rw [List.getElem?_eq_none h1] at hu; cases hu
  rw [List.getElem?_eq_getElem hj] at hu
  obtain ⟨ad', e, _, hc⟩ := h.2 (by have := h.1; omega)
  rw [ha] at e
  injection e with e
  subst e
  rw [hc j hj]
  exact hu
theorem Rd.of_own {base : Nat} {v : Value} {n : Nat} {l : List UInt8} (h : w.ownsRow base 5 1 v n (Lib.byteCells l)) :
    ∃ A c, v = .slice A n c ∧ n ≤ c ∧ c ≤ maxLen ∧ (A = none → c = 0) ∧ Rd w w.heap.size A n l := by
  have hl : l.length = n := by have := h.1; rw [Lib.byteCells_length] at this; omega
  rcases h.2 with ⟨rfl, rfl⟩ | ⟨g, cap, cur, rfl, hb, hh, hn, hm, hs, ht⟩
  · exact ⟨none, 0, rfl, Nat.le_refl _, Nat.zero_le _, fun _ => rfl, hl, fun h => absurd h (by omega)⟩
  · refine ⟨some ⟨g, 0, none⟩, cap, rfl, hn, hm, fun h => (by cases h), hl, fun hn => ⟨_, rfl, (Array.getElem?_eq_some_iff.1 hh).1, fun j hj => ?_⟩⟩
    refine h.cells (g := g) rfl j _ ?_
    rw [byteCells_get, List.getElem?_eq_getElem hj]
    rfl
end

theorem own_down {w : World} {b b' n size : Nat} {e : TypeId} {v : Value} {xs : List Value} (h : w.ownsRow b e size v n xs) (hb : b' ≤ b) : w.ownsRow b' e size v n xs := by
  refine ⟨h.1, ?_⟩
  rcases h.2 with h1 | ⟨g, cap, cur, h1, h2, h3⟩
  · exact Or.inl h1
  · exact Or.inr ⟨g, cap, cur, h1, Nat.le_trans hb h2, h3⟩

theorem infoB : (Try.prog.info? 5).map (fun i => (i.zero, i.size, i.bytes)) = some (some (.int .u8 0), 1, 1) := by kernel_rfl

/-- string(b). -/
theorem cv_string {w : World} {B n : Nat} {A : Option Addr} {l : List UInt8} (h : Rd w B A n l) (c : Nat) :
    (convert 71 9 (.slice A n c)).run Try.prog w = .ok (.string ⟨l.toArray⟩) w := by
  have hl := h.1
  cases A with
  | none =>
    have h0 : n = 0 := by
      rcases Nat.eq_zero_or_pos n with h1 | h1
      · exact h1
      · obtain ⟨ad, e, _⟩ := h.2 h1; cases e
    subst h0
    obtain rfl : l = [] := List.eq_nil_of_length_eq_zero hl
    exact run_convert_bytes_nil w _ _ Try.underlying71 Try.underlying5 0 c _ Try.underlying9
  | some ad =>
    subst hl
    refine run_convert_bytes_back w _ _ _ ad c l Try.underlying71 Try.underlying5 Try.underlying9 (fun j hj => ?_)
    obtain ⟨ad', e, _, hc⟩ := h.2 (by omega)
    injection e with e
    subst e
    exact hc j hj

theorem run_app_none {w : World} (base : Nat) {ty : TypeId} {v : Value} {n : Nat} {xs : List Value} (hown : w.ownsRow base 5 1 v n xs) (c : Nat) :
    (Builtin.append_ #[71, 71] ty #[v, .slice none 0 c]).run Try.prog w = .ok v w := by
  obtain ⟨i, hi, hz0, hz1, hz2⟩ := info_parts infoB
  rcases hown.2 with ⟨rfl, rfl⟩ | ⟨g, cap, cur, rfl, _, _, hnc, _⟩
  · simp [Builtin.append_, run_underlying Try.underlying71, sizeOf, typeInfo, hi, Builtin.lenOf, Builtin.firstCells]
  · simp [Builtin.append_, run_underlying Try.underlying71, sizeOf, typeInfo, hi, Builtin.lenOf, Builtin.firstCells, hnc, storeCells]

/-- append(own, bytes...): the bytes come from anywhere. -/
theorem run_app {w : World} (base : Nat) {ty : TypeId} {v : Value} {n : Nat} {l : List UInt8} (hown : w.ownsRow base 5 1 v n (Lib.byteCells l)) {B m c : Nat} {A : Option Addr} {k : List UInt8} (hr : Rd w B A m k)
    (hsz : n + m ≤ 140737488355328) (hbase : base ≤ w.heap.size) :
    ∃ v' w', (Builtin.append_ #[71, 71] ty #[v, .slice A m c]).run Try.prog w = .ok v' w' ∧ w'.ownsRow base 5 1 v' (n + m) (Lib.byteCells (l ++ k)) ∧ w.grownBy w' v.ownBlock := by
  obtain ⟨i, hi, hz0, hz1, hz2⟩ := info_parts infoB
  cases A with
  | none =>
    have h0 : m = 0 := by
      rcases Nat.eq_zero_or_pos m with h1 | h1
      · exact h1
      · obtain ⟨ad, e, _⟩ := hr.2 h1; cases e
    subst h0
    obtain rfl : k = [] := List.eq_nil_of_length_eq_zero hr.1
    exact ⟨v, w, run_app_none base hown c, by simpa using hown, ⟨rfl, rfl, rfl, Nat.le_refl _, fun _ _ _ => rfl⟩⟩
  | some ad =>
    obtain ⟨v', w', h1, h2, h3, _⟩ := run_append_own (P := Try.prog) w base 71 ty 5 i (.int .u8 0) 1 1 Try.underlying71 hi hz0 hz1 hz2 rfl (by decide) v n (Lib.byteCells l) hown ad m c (Lib.byteCells k)
      (by rw [Lib.byteCells_length, hr.1]; omega) (hr.cells rfl) (Lib.byteCells_one k) (by unfold maxLen; omega) (by omega) hbase
    exact ⟨v', w', h1, by rw [Lib.byteCells_append]; exact h2, h3⟩

theorem wp_app {w : World} {o : Oper} {a : Act} {K : Act → World → Prop} {Q : Exit → Act → World → Prop} (s x : Operand)
    (ho : o.op = .call { callee := .builtin .append, args := #[s, x], argTypes := #[71, 71] })
    (base : Nat) (v : Value) (n : Nat) (l : List UInt8) (hs : a.eval s = v) (hown : w.ownsRow base 5 1 v n (Lib.byteCells l)) (B : Nat) (A : Option Addr) (m c : Nat) (k : List UInt8) (hx : a.eval x = .slice A m c) (hr : Rd w B A m k)
    (hsz : n + m ≤ 140737488355328) (hbase : base ≤ w.heap.size)
    (h : ∀ v' w', w'.ownsRow base 5 1 v' (n + m) (Lib.byteCells (l ++ k)) → w.grownBy w' v.ownBlock → K (a.put o.dst v') w') : o.wp Try.prog a w K Q := by
  obtain ⟨v', w', hrun, h2, h3⟩ := run_app (w := w) base (ty := o.type) hown (c := c) hr hsz hbase
  unfold Oper.wp execOp
  simp only [ho, resolve, invoke, builtin, Sem.run_bind, Sem.run_pure, Result.andThen_ok, List.map_toArray, List.map_cons, List.map_nil, hs, hx, hrun]
  exact h v' w' h2 h3

theorem wpList_app {w : World} {ops : Array Oper} {rest : List Oper} {o : Oper} {a : Act} {Q : Exit → Act → World → Prop} (hgd : o.guard = none) (s x : Operand)
    (ho : o.op = .call { callee := .builtin .append, args := #[s, x], argTypes := #[71, 71] })
    (base : Nat) (v : Value) (n : Nat) (l : List UInt8) (hs : a.eval s = v) (hown : w.ownsRow base 5 1 v n (Lib.byteCells l)) (B : Nat) (A : Option Addr) (m c : Nat) (k : List UInt8) (hx : a.eval x = .slice A m c) (hr : Rd w B A m k)
    (hsz : n + m ≤ 140737488355328) (hbase : base ≤ w.heap.size)
    (h : ∀ v' w', w'.ownsRow base 5 1 v' (n + m) (Lib.byteCells (l ++ k)) → w.grownBy w' v.ownBlock → wpList Try.prog ops Q rest (a.put o.dst v') w') : wpList Try.prog ops Q (o :: rest) a w :=
  wpList_plain hgd fun K hK => wp_app s x ho base v n l hs hown B A m c k hx hr hsz hbase fun v' w' h2 h3 => hK _ _ (h v' w' h2 h3)

/-- append(full, bytes...), the slice without spare room. -/
theorem wpList_appFull {w : World} {ops : Array Oper} {rest : List Oper} {o : Oper} {a : Act} {Q : Exit → Act → World → Prop} (hgd : o.guard = none) (s x : Operand)
    (ho : o.op = .call { callee := .builtin .append, args := #[s, x], argTypes := #[71, 71] })
    (A0 : Option Addr) (n : Nat) (l : List UInt8) (B0 : Nat) (hs : a.eval s = .slice A0 n n) (hr0 : Rd w B0 A0 n l) (B : Nat) (ad : Addr) (m c : Nat) (k : List UInt8) (hx : a.eval x = .slice (some ad) m c) (hr : Rd w B (some ad) m k) (hm : 0 < m)
    (hsz : n + m ≤ 140737488355328)
    (h : ∀ v' w', w'.ownsRow w.heap.size 5 1 v' (n + m) (Lib.byteCells (l ++ k)) → w.grownBy w' none → wpList Try.prog ops Q rest (a.put o.dst v') w') : wpList Try.prog ops Q (o :: rest) a w := by
  obtain ⟨i, hi, hz0, hz1, hz2⟩ := info_parts infoB
  refine wpList_append_grows w hgd s x 71 ho 5 i (.int .u8 0) 1 1 Try.underlying71 hi hz0 hz1 hz2 rfl (by decide) A0 n n (Lib.byteCells l) hs (fun e => ?_) (by rw [Lib.byteCells_length, hr0.1]; omega) (fun b e => hr0.cells e)
    ad m c (Lib.byteCells k) hx (by rw [Lib.byteCells_length, hr.1]; omega) (hr.cells rfl) (Lib.byteCells_one k) (by omega) (by unfold maxLen; omega) (by omega) (fun v' w' h2 h3 => h v' w' (by rw [Lib.byteCells_append]; exact h2) h3)
  subst e
  rcases Nat.eq_zero_or_pos n with h1 | h1
  · exact ⟨h1, h1⟩
  · obtain ⟨ad, e, _⟩ := hr0.2 h1; cases e

/-- The bytes of a block that the walk has just laid. -/
theorem Rd.laid {w : World} {g : Nat} {l : List UInt8} {cs : Array Value} {t : TypeId} (hb : w.heap[g]? = some (.cells cs t (0, 0))) (hc : cs.toList = Lib.byteCells l) : Rd w w.heap.size (some ⟨g, 0, none⟩) l.length l := by
  refine ⟨rfl, fun _ => ⟨_, rfl, (Array.getElem?_eq_some_iff.1 hb).1, fun j hj => ?_⟩⟩
  refine World.news_of_block hb j _ ?_
  rw [hc, byteCells_get, List.getElem?_eq_getElem hj]
  rfl

theorem Rd.one (w : World) (x : Int) (b : UInt8) (h : x = (b.toNat : Nat)) : Rd (w.alloc (.cells #[.int .u8 x] 5)) (w.heap.size + 1) (some ⟨w.heap.size, 0, none⟩) 1 [b] := by
  have := Rd.laid (w := w.alloc (.cells #[.int .u8 x] 5)) (g := w.heap.size) (l := [b]) (heap_alloc_new w _) (by rw [h]; rfl)
  simpa using this
theorem Rd.two (w : World) (x y : Int) (b d : UInt8) (h : x = (b.toNat : Nat)) (k : y = (d.toNat : Nat)) : Rd (w.alloc (.cells #[.int .u8 x, .int .u8 y] 5)) (w.heap.size + 1) (some ⟨w.heap.size, 0, none⟩) 2 [b, d] := by
  have := Rd.laid (w := w.alloc (.cells #[.int .u8 x, .int .u8 y] 5)) (g := w.heap.size) (l := [b, d]) (heap_alloc_new w _) (by rw [h, k]; rfl)
  simpa using this

/-- A call that hands back new bytes. -/
def GivesB (w : World) (l : List UInt8) (e : Ending) (w' : World) : Prop :=
  ∃ A n c, e = .returned (.slice A n c) ∧ l.length = n ∧ n ≤ c ∧ c ≤ maxLen ∧ (A = none → c = 0) ∧ Rd w' w'.heap.size A n l ∧ Below w.heap.size w w'
/-- A call that hands back a text. -/
def GivesS (w : World) (l : List UInt8) (e : Ending) (w' : World) : Prop :=
  ∃ s : ByteArray, e = .returned (.string s) ∧ s.data.toList = l ∧ Below w.heap.size w w'
theorem GivesB.of_own {w w' : World} {base n : Nat} {v : Value} {l : List UInt8} (h : w'.ownsRow base 5 1 v n (Lib.byteCells l)) (hb : Below w.heap.size w w') : GivesB w l (.returned v) w' := by
  obtain ⟨A, c, rfl, h1, h2, h3, h4⟩ := Rd.of_own h
  exact ⟨A, n, c, rfl, h4.1, h1, h2, h3, h4, hb⟩
/-- A slice to which bytes are appended without a trace: it came in without spare room, or it is the call's own (the call began in w0). -/
def Free (w0 : World) (v : Value) (m : Nat) (l : List UInt8) (w : World) : Prop :=
  Below w0.heap.size w0 w ∧ ((∃ A B, v = .slice A m m ∧ Rd w B A m l ∧ B ≤ w0.heap.size) ∨ w.ownsRow w0.heap.size 5 1 v m (Lib.byteCells l))
theorem Free.own {w0 w : World} {v : Value} {m : Nat} {l : List UInt8} (hb : Below w0.heap.size w0 w) (h : w.ownsRow w0.heap.size 5 1 v m (Lib.byteCells l)) : Free w0 v m l w := ⟨hb, Or.inr h⟩
theorem Free.full {w0 : World} {A : Option Addr} {m B : Nat} {l : List UInt8} (h : Rd w0 B A m l) (hB : B ≤ w0.heap.size) : Free w0 (.slice A m m) m l w0 := ⟨Below.refl _ _, Or.inl ⟨A, B, rfl, h, hB⟩⟩
theorem Free.alloc {w0 w : World} {v : Value} {m : Nat} {l : List UInt8} (h : Free w0 v m l w) (o : Obj) : Free w0 v m l (w.alloc o) := by
  have hz := h.1.size
  refine ⟨h.1.alloc hz o, ?_⟩
  rcases h.2 with ⟨A, B, h1, h2, h3⟩ | h2
  · exact Or.inl ⟨A, B, h1, h2.alloc (by omega) o, h3⟩
  · exact Or.inr (h2.alloc o)
theorem Free.slice {w0 w : World} {v : Value} {m : Nat} {l : List UInt8} (h : Free w0 v m l w) : ∃ A c, v = .slice A m c := by
  rcases h.2 with ⟨A, B, h1, h2⟩ | h2
  · exact ⟨A, m, h1⟩
  · obtain ⟨A, c, h3, _⟩ := Rd.of_own h2
    exact ⟨A, c, h3⟩
theorem wpList_appFree {w : World} {ops : Array Oper} {rest : List Oper} {o : Oper} {a : Act} {Q : Exit → Act → World → Prop} (hgd : o.guard = none) (s x : Operand)
    (ho : o.op = .call { callee := .builtin .append, args := #[s, x], argTypes := #[71, 71] })
    (w0 : World) (v : Value) (n : Nat) (l : List UInt8) (hs : a.eval s = v) (hf : Free w0 v n l w) (B : Nat) (ad : Addr) (m c : Nat) (k : List UInt8) (hx : a.eval x = .slice (some ad) m c) (hr : Rd w B (some ad) m k) (hm : 0 < m)
    (hsz : n + m ≤ 140737488355328)
    (h : ∀ v' w', w'.ownsRow w0.heap.size 5 1 v' (n + m) (Lib.byteCells (l ++ k)) → Below w0.heap.size w0 w' → wpList Try.prog ops Q rest (a.put o.dst v') w') : wpList Try.prog ops Q (o :: rest) a w := by
  have hz := hf.1.size
  rcases hf.2 with ⟨A, B0, h1, h2, h3⟩ | h2
  · refine wpList_appFull hgd s x ho A n l B0 (by rw [hs, h1]) h2 B ad m c k hx hr hm hsz fun v' w' g1 g2 => h v' w' (own_down g1 hz) (hf.1.grown g2 hz (fun g hg => by cases hg))
  · exact wpList_app hgd s x ho w0.heap.size v n l hs h2 B (some ad) m c k hx hr hsz hz fun v' w' g1 g2 => h v' w' g1 (hf.1.grown g2 hz fun g hg => (h2.lt g hg).1)
end Go.Proofs.Ytafbbojfifcncaa
set_option linter.unusedVariables false
namespace Go.Proofs.Ytafbbojfifcncaa
open Go Go.RowKit

def intE (v : Int) : List UInt8 := be (v + 9223372036854775808).toNat 8
theorem cv_asE {w : World} {B n : Nat} {A : Option Addr} {l : List UInt8} (h : Rd w B A n l) (c : Nat) (q : ByteArray) (hq : q.data.toList = l) :
    (convert 71 9 (.slice A n c)).run Try.prog w = .ok (.string q) w := by
  rw [cv_string h c, mk_eq l q hq]
theorem shr_byteE (v m : Nat) : (v : Int) / 2 ^ (8 * m) % 256 = ((UInt8.ofNat (v / 256 ^ m)).toNat : Nat) := by
  have e : (2 : Int) ^ (8 * m) = ((256 ^ m : Nat) : Int) := by rw [Int.pow_mul]; simp
  rw [e, UInt8.toNat_ofNat']
  simp

theorem xor63E (a : Nat) (h : a < 18446744073709551616) : a ^^^ 9223372036854775808 = (a + 9223372036854775808) % 18446744073709551616 := by
  have small : ∀ b : Nat, b < 2 ^ 63 → b ^^^ 2 ^ 63 = 2 ^ 63 + b := by
    intro b hb
    apply Nat.eq_of_testBit_eq
    intro i
    rw [Nat.testBit_xor, Nat.testBit_two_pow]
    rcases Nat.lt_trichotomy i 63 with hi | hi | hi
    · rw [Nat.testBit_two_pow_add_gt hi, decide_eq_false (by omega), Bool.xor_false]
    · subst hi
      rw [Nat.testBit_two_pow_add_eq]
      simp
    · rw [Nat.testBit_lt_two_pow (Nat.lt_of_lt_of_le hb (Nat.pow_le_pow_right (by omega) (by omega))), Nat.testBit_lt_two_pow (x := 2 ^ 63 + b) (Nat.lt_of_lt_of_le (show 2 ^ 63 + b < 2 ^ 64 by omega) (Nat.pow_le_pow_right (by omega) (by omega))), decide_eq_false (by omega)]
      rfl
  rw [show (9223372036854775808 : Nat) = 2 ^ 63 from rfl]
  by_cases hs : a < 2 ^ 63
  · rw [small a hs]; omega
  · obtain ⟨b, rfl⟩ : ∃ b, a = 2 ^ 63 + b := ⟨a - 2 ^ 63, by omega⟩
    rw [← small b (by omega), Nat.xor_assoc, Nat.xor_self, Nat.xor_zero, small b (by omega)]
    omega

set_option maxRecDepth 8000 in
set_option maxHeartbeats 2000000 in
theorem rint_anyE (v : Int) (w : World) (h1 : -9223372036854775808 ≤ v) (h2 : v ≤ 9223372036854775807) :
    Calls Try.prog 71 #[.int .i64 v] w (GivesS w (intE v)) := by
  obtain ⟨u, hu⟩ : ∃ u : Nat, (v + 9223372036854775808).toNat = u := ⟨_, rfl⟩
  have hul : u < 18446744073709551616 := by omega
  have e : bits BinOp.xor IntKind.u64 (IntKind.u64.wrap v) 9223372036854775808 = (u : Int) := by
    rw [IntKind.wrap_u64]
    have h3 : v % 18446744073709551616 = (((v % 18446744073709551616).toNat : Nat) : Int) := by omega
    rw [h3, show (9223372036854775808 : Int) = ((9223372036854775808 : Nat) : Int) from rfl, bits_xor_u64_nat _ _ (by omega) (by omega), xor63E _ (by omega)]
    omega
  have HE := Lib.hid e
  have HU := Lib.hid hu
  clear e hu
  go_enter Try.func71, Try.ntmps71
  go_wp2
  rw [HE.out]
  go_loopw [4, 5] (fun t i wr => ∃ (k : Nat) (q : ByteArray), i = .int .i64 k ∧ k ≤ 8 ∧ t = .string q ∧ q.data.toList = be u k ∧ q.size = k ∧ Below w.heap.size w wr) (fun _ i _ => 8 - (intOf i).toNat)
  case atStart => exact ⟨0, ⟨#[]⟩, rfl, Nat.zero_le _, rfl, rfl, rfl, Below.refl _ _⟩
  case round =>
    obtain ⟨k, q, rfl, hk, rfl, hq, hqs, hb⟩ := hrel
    have hz := hb.size
    by_cases hlt : k < 8
    · have hcv := cv_asE (Rd.one wr ((u : Int) / 2 ^ (8 * k) % 256) (UInt8.ofNat (u / 256 ^ k)) (shr_byteE u k)) 1 ⟨#[UInt8.ofNat (u / 256 ^ k)]⟩ rfl
      obtain ⟨q2, hq2e⟩ : ∃ x : ByteArray, (⟨#[UInt8.ofNat (u / 256 ^ k)]⟩ : ByteArray) ++ q = x := ⟨_, rfl⟩
      have hadd : ∀ wx : World, (Op.stringOp .add ⟨#[UInt8.ofNat (u / 256 ^ k)]⟩ q).run Try.prog wx = .ok (.string q2) wx := by
        intro wx; rw [run_string_add_sum wx _ q (by rw [show (⟨#[UInt8.ofNat (u / 256 ^ k)]⟩ : ByteArray).size = 1 from rfl]; omega), hq2e]
      have hq2 : q2.data.toList = be u (k + 1) := by rw [← hq2e, be, ← hq]; simp
      have hq2s : q2.size = k + 1 := by rw [← hq2e, ByteArray.size_append, hqs]; exact Nat.add_comm _ _
      have HQ := Lib.hid hq2
      have HS := Lib.hid hq2s
      clear hq hqs hq2e hq2 hq2s
      go_wp2
      go_roundw
      case rel => exact ⟨k + 1, q2, by go_num, by omega, rfl, HQ.out, HS.out, hb.alloc hz _⟩
      case measure => simp [intOf]; omega
    · obtain rfl : k = 8 := by omega
      have HQ := Lib.hid hq
      clear hq hqs
      go_wp2
      go_ret
      exact ⟨q, rfl, by rw [HQ.out, intE, HU.out], hb⟩


/-- The keys of the rows of numbers: whole numbers, encoded. -/
def dg (i : Nat) : ByteArray := ⟨(intE (i : Int)).toArray⟩
theorem dg_facts : (∀ i, i < 4 → (dg i).size = 8) ∧ ∀ i, i < 4 → ∀ j, j < i → (dg j).data.toList < (dg i).data.toList := by decide
end Go.Proofs.Ytafbbojfifcncaa
set_option linter.unusedVariables false
set_option linter.unusedSimpArgs false
namespace Go.Proofs.Ytafbbojfifcncaa
open Go Go.RowKit

theorem riseK_of_rise : ∀ {l : Cols}, Rise l → RiseK Prod.fst l
  | [], _ => trivial
  | (m, c) :: l, h => ⟨h.1, riseK_of_rise h.2⟩
/-- Columns of the four names. -/
structure ColsIn (l : Cols) : Prop where
  rise : Rise l
  all : ∀ x ∈ l, colB x = true ∧ x.1.size ≤ 1 ∧ x.2.s.size ≤ 1 ∧ x.1 ∈ [nm 0, nm 1, nm 2, nm 3]
theorem ColsTo.in4 {l : Cols} (h : ColsTo 4 l) : ColsIn l := ⟨h.rise, fun x hx => by
  obtain ⟨h1, h2, h3, _⟩ := h.all x hx
  obtain ⟨i, hi, e⟩ := h.nms x hx
  refine ⟨h1, h2, h3, ?_⟩
  rw [e]
  have : i = 0 ∨ i = 1 ∨ i = 2 ∨ i = 3 := by omega
  rcases this with rfl | rfl | rfl | rfl <;> simp⟩
theorem ColsIn.nil : ColsIn [] := ⟨trivial, fun x hx => by cases hx⟩
theorem ColsIn.len {l : Cols} (h : ColsIn l) : l.length ≤ 4 := riseK_few (riseK_of_rise h.rise) fun x hx => (h.all x hx).2.2.2
theorem ColsIn.mrg {l k : Cols} (hl : ColsIn l) (hk : ColsIn k) : ColsIn (mrg l k) :=
  ⟨mrg_rise hl.rise, mrg_all (p := fun x => colB x = true ∧ x.1.size ≤ 1 ∧ x.2.s.size ≤ 1 ∧ x.1 ∈ [nm 0, nm 1, nm 2, nm 3]) (fun n c d hc hd => by
    rcases join_or d c with e | e <;> rw [e] <;> assumption) hl.all hk.all⟩
theorem stm_max {x y : Int} (hx : stm x = true) (hy : stm y = true) : stm (max x y) = true := by
  rcases Int.le_total x y with h | h
  · rwa [Int.max_eq_right h]
  · rwa [Int.max_eq_left h]
theorem colsB_mrg {l k : Cols} (hl : colsB l = true) (hk : colsB k = true) : colsB (mrg l k) = true := by
  refine colsB_of (mrg_rise (colsB_rise hl)) (mrg_all (p := fun x => colB x = true) (fun n c d hc hd => ?_) (fun x hx => ?_) fun x hx => ?_)
  · rcases join_or d c with e | e <;> rw [e] <;> assumption
  · obtain ⟨j, hj, rfl⟩ := List.mem_iff_getElem.1 hx
    exact colsB_each hl hj
  · obtain ⟨j, hj, rfl⟩ := List.mem_iff_getElem.1 hx
    exact colsB_each hk hj
/-- Two that may be, joined, may be, where there is room for the columns. -/
theorem ok_join {R R' : Ro} (h : R.ok = true) (h' : R'.ok = true) (hl : (R.join R').cols.length ≤ 8) : (R.join R').ok = true := by
  unfold Ro.ok at h h' ⊢
  simp only [Bool.and_eq_true, decide_eq_true_iff] at h h' ⊢
  obtain ⟨k1, k2, k3, k4, k5, k6⟩ := h
  obtain ⟨k1', k2', k3', k4', k5', k6'⟩ := h'
  refine ⟨k1, ?_, stm_max k3 k3', stm_max k4 k4', hl, colsB_mrg k6 k6'⟩
  show liveB (R.live.join R'.live) = true
  rcases join_or R.live R'.live with e | e <;> rw [e] <;> assumption
/-- A row by numbers, or joins of such. -/
structure RowIn (r : Ro) : Prop where
  ok : r.ok = true
  cols : ColsIn r.cols
theorem RowIn.join {a b : Ro} (ha : RowIn a) (hb : RowIn b) : RowIn (a.join b) := by
  have hc := ha.cols.mrg hb.cols
  exact ⟨ok_join ha.ok hb.ok (Nat.le_trans hc.len (by omega)), hc⟩
theorem RowIn.up {a : Ro} (h : RowIn a) : a.Up := up_of_ok h.ok
theorem riseK_pair {α : Type} {key : α → ByteArray} : ∀ {l : List α}, RiseK key l ↔ l.Pairwise fun x y => nlt (key x) (key y)
  | [] => ⟨fun _ => List.Pairwise.nil, fun _ => trivial⟩
  | x :: l => by rw [List.pairwise_cons]; exact and_congr Iff.rfl riseK_pair
/-- A partition by numbers, or joins of such. -/
structure PartIn (p : Pa) : Prop where
  key : p.key.size ≤ 100
  gone : stm p.gone = true
  rise : RiseR p.rows
  rows : ∀ r ∈ p.rows, RowIn r ∧ r.key ∈ [dg 0, dg 1, dg 2, dg 3]
theorem PartIn.up {p : Pa} (h : PartIn p) : p.Up := ⟨h.rise, fun r hr => (h.rows r hr).1.up⟩
theorem PartIn.len {p : Pa} (h : PartIn p) : p.rows.length ≤ 4 := riseK_few h.rise fun r hr => (h.rows r hr).2
theorem PartIn.join {a b : Pa} (ha : PartIn a) (hb : PartIn b) : PartIn (a.join b) :=
  ⟨ha.key, stm_max ha.gone hb.gone, mrgK_rise JR.key_ ha.rise, mrgK_all (p := fun r => RowIn r ∧ r.key ∈ [dg 0, dg 1, dg 2, dg 3]) (fun x y e hx hy => ⟨hx.1.join hy.1, hx.2⟩) ha.rows hb.rows⟩
theorem PartIn.ok {p : Pa} (h : PartIn p) : p.ok = true := by
  unfold Pa.ok
  rw [decide_eq_true h.key, h.gone, decide_eq_true (show p.rows.length ≤ 100 from Nat.le_trans h.len (by omega)), rowsB_of h.rise fun r hr => (h.rows r hr).1.ok]
  rfl
theorem ce_bare {c : Ce} (h : liveB c = true) : (Ce.mk ⟨#[]⟩ false 0 0).join c = c := by
  unfold liveB at h
  rw [Bool.and_eq_true] at h
  have h1 := h.1
  unfold Ce.ok at h1
  by_cases h0 : c.a = 0
  · rw [if_pos h0] at h1
    unfold Ce.same at h1
    simp only [Bool.and_eq_true, beq_iff_eq] at h1
    have e : c = ⟨⟨#[]⟩, false, 0, 0⟩ := by
      obtain ⟨s, d, a, e⟩ := c
      obtain ⟨e1, e2, e3, e4⟩ := h1
      simp only at e1 e2 e3 e4
      have : s = ⟨#[]⟩ := ba_ext (by rw [Lib.toList_data, Lib.toList_data] at e1; exact e1)
      subst this e2 e3 e4
      rfl
    rw [e]
    exact join_self _
  · rw [if_neg h0] at h1
    by_cases h2 : stm c.a = false
    · rw [if_pos h2] at h1; cases h1
    · have h3 : stm c.a = true := by cases h : stm c.a <;> simp_all
      unfold stm at h3
      simp only [Bool.and_eq_true, decide_eq_true_iff] at h3
      exact no_join (Or.inl (by omega))
theorem bare_l {r : Ro} (h : r.ok = true) : (Ro.bare r.key).join r = r := by
  have u := up_of_ok h
  unfold Ro.ok at h
  simp only [Bool.and_eq_true, decide_eq_true_iff] at h
  obtain ⟨k1, k2, k3, k4, k5, k6⟩ := h
  unfold stm at k3 k4
  simp only [Bool.and_eq_true, decide_eq_true_iff] at k3 k4
  unfold Ro.join Ro.bare
  simp only
  rw [ce_bare k2, Int.max_eq_right k3.1, Int.max_eq_right k4.1, mrg_comm (l := []) trivial (fun x hx => by cases hx) u.rise u.full]
  rfl
theorem bare_r {r : Ro} (h : r.ok = true) : r.join (Ro.bare r.key) = r :=
  (ro_comm (a := r) (b := Ro.bare r.key) rfl (up_of_ok h) ⟨trivial, fun x hx => by cases hx⟩).trans (bare_l h)
end Go.Proofs.Ytafbbojfifcncaa
set_option linter.unusedVariables false
set_option linter.unusedSimpArgs false
namespace Go.Proofs.Ytafbbojfifcncaa
open Go Go.RowKit Go.Joins

theorem stm_ofP {n : Int} (h0 : 0 ≤ n) (h1 : n ≤ 1099511627776) : stm n = true := by unfold stm; rw [decide_eq_true h0, decide_eq_true h1]; rfl
/-- The row that was made by numbers may be. -/
theorem rowIn_gen {key : ByteArray} (hk : key.size ≤ 400) {a e g : Int} (h : 0 ≤ a ∧ a ≤ 8 ∧ 0 ≤ e ∧ e ≤ 11 ∧ 0 ≤ g ∧ g ≤ 8 ∧ (a = 0 → e = 0)) {l : Cols} (hc : ColsTo 4 l) : RowIn ⟨key, ⟨⟨#[]⟩, false, a, e⟩, g, 0, l⟩ := by
  obtain ⟨h0, h1, h2, h3, h4, h5, h6⟩ := h
  refine ⟨?_, hc.in4⟩
  have hok : Ce.ok ⟨⟨#[]⟩, false, a, e⟩ = true := by
    unfold Ce.ok
    simp only
    by_cases h7 : a = 0
    · rw [if_pos h7]
      have h8 := h6 h7
      subst h7; subst h8
      unfold Ce.same
      simp
    · rw [if_neg h7, stm_ofP h0 (by omega), if_neg (by decide), if_neg (by decide), stm_ofP h2 (by omega)]
      rfl
  have hlive : liveB ⟨⟨#[]⟩, false, a, e⟩ = true := by
    unfold liveB
    rw [hok, Lib.toList_data]
    rfl
  unfold Ro.ok
  simp only
  rw [hlive, stm_ofP h4 (by omega), stm_ofP (Int.le_refl 0) (by omega), hc.ok, decide_eq_true hk, decide_eq_true (show l.length ≤ 8 by have := hc.len; omega)]
  rfl
/-- Each of the rows has columns of its own. -/
def OwnR (w : World) (b : Nat) (L : List RA) : Prop := ∀ x ∈ L, w.ownsRow b 66 5 (.slice x.A x.ro.cols.length x.c) x.ro.cols.length (kRow x.ro.cols)
theorem OwnR.kept {w w' : World} {b : Nat} {L : List RA} (h : OwnR w b L) (hk : ∀ x ∈ L, ∀ g, (Value.slice x.A x.ro.cols.length x.c).ownBlock = some g → w'.heap[g]? = w.heap[g]?) : OwnR w' b L := fun x hx => own_kept (h x hx) (hk x hx)
theorem OwnR.below {w w' : World} {b : Nat} {L : List RA} (h : OwnR w b L) (hb : Below w.heap.size w w') : OwnR w' b L := fun x hx => own_below (h x hx) hb
/-- What rows own and what columns own lies apart. -/
theorem own_apartRC {w : World} {b b' n m s s' : Nat} {v v' : Value} {xs ys : List Value} (h : w.ownsRow b 36 s v n xs) (h' : w.ownsRow b' 66 s' v' m ys) : ∀ g, v'.ownBlock = some g → v.ownBlock ≠ some g := fun g hg e => by
  obtain ⟨cs, h1⟩ := own_tag h g e
  obtain ⟨cs', h2⟩ := own_tag h' g hg
  rw [h1] at h2
  injection h2 with h2
  injection h2 with _ h3 _
  exact absurd h3 (by decide)
/-- Rows whose keys are those of the numbers below t. -/
structure RowsTo (t : Nat) (L : List RA) : Prop where
  rise : RiseR (L.map RA.ro)
  all : ∀ x ∈ L, RowIn x.ro ∧ ∃ i, i < t ∧ x.ro.key = dg i
  len : L.length ≤ t
theorem RowsTo.nil (t : Nat) : RowsTo t [] := ⟨trivial, fun x hx => (by cases hx), Nat.zero_le _⟩
theorem RowsTo.next {t : Nat} {L : List RA} (h : RowsTo t L) : RowsTo (t + 1) L := ⟨h.rise, fun x hx => by
  obtain ⟨h1, i, hi, e⟩ := h.all x hx
  exact ⟨h1, i, by omega, e⟩, Nat.le_succ_of_le h.len⟩
theorem RowsTo.snoc {t : Nat} {L : List RA} (h : RowsTo t L) (ht : t < 4) {x : RA} (hx : RowIn x.ro) (hk : x.ro.key = dg t) : RowsTo (t + 1) (L ++ [x]) := by
  refine ⟨?_, fun y hy => ?_, by have := h.len; simp; omega⟩
  · rw [List.map_append]
    refine riseK_snoc h.rise fun y hy => ?_
    obtain ⟨z, hz, rfl⟩ := List.mem_map.1 hy
    obtain ⟨_, i, hi, e⟩ := h.all z hz
    rw [e, hk]
    exact dg_facts.2 t ht i hi
  · rcases List.mem_append.1 hy with h1 | h1
    · exact h.next.all y h1
    · rw [List.mem_singleton.1 h1]
      exact ⟨hx, t, by omega, hk⟩
theorem RowsTo.part {L : List RA} (h : RowsTo 4 L) {k : ByteArray} {g : Int} (hk : k.size ≤ 100) (hg : 0 ≤ g ∧ g ≤ 8) : PartIn ⟨k, g, L.map RA.ro⟩ :=
  ⟨hk, stm_ofP hg.1 (Int.le_trans hg.2 (by omega)), h.rise, fun r hr => by
    obtain ⟨x, hx, rfl⟩ := List.mem_map.1 hr
    obtain ⟨h1, i, hi, e⟩ := h.all x hx
    refine ⟨h1, ?_⟩
    rw [e]
    have : i = 0 ∨ i = 1 ∨ i = 2 ∨ i = 3 := by omega
    rcases this with rfl | rfl | rfl | rfl <;> simp⟩
/-- The partition under way, at block r. -/
def PB (w : World) (r : Nat) (k : ByteArray) (g : Int) (A : Option Addr) (n c : Nat) : Prop := w.heap[r]? = some (.cells #[.string k, .int .i64 g, .slice A n c] 24 (0, 0))
theorem PB.cells {w : World} {r : Nat} {k : ByteArray} {g : Int} {A : Option Addr} {n c : Nat} (h : PB w r k g A n c) : w.cell? ⟨r, 0, none⟩ = some (.string k) ∧ w.cell? ⟨r, 1, none⟩ = some (.int .i64 g) ∧ w.cell? ⟨r, 2, none⟩ = some (.slice A n c) :=
  ⟨cell_at (i := 0) h rfl, cell_at (i := 1) h rfl, cell_at (i := 2) h rfl⟩
set_option maxRecDepth 8000 in
set_option maxHeartbeats 4000000 in
theorem part_gen (q B : Nat) (key : ByteArray) (w : World) (h : LQ w q B) (hBq : B ≤ q) :
    Calls Try.prog 46 #[.pointer (some ⟨q, 0, none⟩), .string key] w fun x w' => ∃ (g : Int) (L : List RA) (A : Option Addr) (c : Nat), x = .returned (.agg #[.string key, .int .i64 g, .slice A L.length c]) ∧ (0 ≤ g ∧ g ≤ 8) ∧ RowsTo 4 L ∧ w'.ownsRow w.heap.size 36 8 (.slice A L.length c) L.length (rRow L) ∧ OwnR w' w.heap.size L ∧ LQ w' q B ∧ Kept (fun k => k = q) w w' := by
  have hq := h.lt
  have hz0 := heap_alloc_new w (.cells #[.string ⟨#[]⟩, .int .i64 0, .slice none 0 0] 24)
  have hz1 := heap_alloc_new (w.alloc (.cells #[.string ⟨#[]⟩, .int .i64 0, .slice none 0 0] 24)) (.cells #[.string key, .int .i64 0, .slice none 0 0] 24)
  simp only [World.size_alloc] at hz1
  have hz0' := at_new hz0 (.cells #[.string key, .int .i64 0, .slice none 0 0] 24)
  have bz := ((Below.refl w.heap.size w).alloc (Nat.le_refl _) (.cells #[.string ⟨#[]⟩, .int .i64 0, .slice none 0 0] 24)).alloc (by simp) (.cells #[.string key, .int .i64 0, .slice none 0 0] 24)
  obtain ⟨U, hU⟩ : ∃ U, U = (w.alloc (.cells #[.string ⟨#[]⟩, .int .i64 0, .slice none 0 0] 24)).alloc (.cells #[.string key, .int .i64 0, .slice none 0 0] 24) := ⟨_, rfl⟩
  have hUs : U.heap.size = w.heap.size + 2 := by rw [hU]; simp
  rw [← hU] at hz0' hz1 bz
  have HL := Lib.hid (h.below bz (by omega)); have HZ0 := Lib.hid hz0'; have HZ1 := Lib.hid hz1; have BZ := Lib.hid bz; have HUS := Lib.hid hUs
  clear hz0 hz0' hz1 bz hUs h
  go_enter Try.func46, Try.ntmps46
  go_wp2_with fail
  rw [← hU]
  clear hU
  refine (next_gen q B 1048576 _ HL.out hBq (by omega) (by omega)).mono ?_
  rintro x w1 ⟨v, rfl, v0, v1, hl1, hk1⟩
  have hs1 := hk1.size
  have R1 : Hid (PB w1 (w.heap.size + 1) key 0 none 0 0) := Lib.hid ((hk1.block (w.heap.size + 1) (by have := HUS.out; omega) (by omega)).trans HZ1.out)
  have Z1 := Lib.hid ((hk1.block w.heap.size (by have := HUS.out; omega) (by omega)).trans HZ0.out)
  have K1 : Hid (Kept (fun k => k = q) w w1) := Lib.hid ((Kept.of_below BZ.out _).trans hk1 fun k hk => Or.inl hk)
  have L1 := Lib.hid hl1
  have V0 := Lib.hid v0; have V1 := Lib.hid v1
  have HS1 := Lib.hid hs1
  have y0 : 0 ≤ v.tdiv 5 := by rw [Int.tdiv_eq_ediv_of_nonneg v0]; exact Int.ediv_nonneg v0 (by omega)
  have y1 : v.tdiv 5 < 1048576 := by rw [Int.tdiv_eq_ediv_of_nonneg v0]; exact Int.lt_of_le_of_lt (Int.ediv_le_self _ v0) v1
  obtain ⟨y, hy⟩ : ∃ p, v.tdiv 5 = p := ⟨_, rfl⟩
  rw [hy] at y0 y1
  have b0 : 0 ≤ y.tmod 8 := by rw [Int.tmod_eq_emod_of_nonneg y0]; exact Int.emod_nonneg _ (by omega)
  have b1 : y.tmod 8 < 8 := by rw [Int.tmod_eq_emod_of_nonneg y0]; exact Int.emod_lt_of_pos _ (by omega)
  obtain ⟨b, hb⟩ : ∃ b, y.tmod 8 = b := ⟨_, rfl⟩
  rw [hb] at b0 b1
  have wy : wrap64 y = y := by unfold wrap64; omega
  obtain ⟨i, hi⟩ : ∃ i, v.tmod 5 = i := ⟨_, rfl⟩
  clear hl1 hk1 hs1 v0 v1
  go_upto_if 14 with fail
  go_cut [] from 15 to 18 (fun wx => ∃ g : Int, (0 ≤ g ∧ g ≤ 8) ∧ PB wx (w.heap.size + 1) key g none 0 0 ∧ Kept (fun k => k = w.heap.size + 1) w1 wx)
  case first =>
    by_cases h4 : i = 0
    · have hi2 : (i == 0) = true := by rw [beq_iff_eq]; exact h4
      clear h4
      have m0 := block_setCell (i := 1) R1.out (.int .i64 b)
      have M0 := Lib.hid m0
      have k0 := cell_at (i := 1) R1.out rfl
      have f0 := thawed_at (i := 1) R1.out
      clear m0
      go_wp2_with fail
      go_meet
      exact ⟨b, by omega, M0.out, Kept.setCell (fun k => k = w.heap.size + 1) w1 ⟨w.heap.size + 1, 1, none⟩ _ rfl⟩
    · have hi2 : (i == 0) = false := by rw [beq_eq_false_iff_ne]; exact h4
      clear h4
      go_wp2_with fail
      go_meet
      exact ⟨0, by omega, R1.out, Kept.refl _ _⟩
  case rest =>
    obtain ⟨g, hg, hr3, hk3⟩ := hcut
    generalize wc = w3 at hr3 hk3 ⊢
    clear hb b0 b1 wy hy y0 y1 hi
    have hs3 := hk3.size
    have hl3 : LQ w3 q B := L1.out.kept hk3 (fun k hk => by omega) hBq
    have hz3 := (hk3.block w.heap.size (by have := HUS.out; have := HS1.out; omega) (by omega)).trans Z1.out
    have hk3' : Kept (fun k => k = q) w w3 := K1.out.trans hk3 fun k hk => Or.inr (by omega)
    have HS3 := Lib.hid (show w.heap.size + 2 ≤ w3.heap.size by have := HUS.out; have := HS1.out; omega)
    have HG := Lib.hid hg; have R3 := Lib.hid hr3; have L3 := Lib.hid hl3; have Z3 := Lib.hid hz3; have K3 := Lib.hid hk3'
    clear hg hr3 hk3 hs3 hl3 hz3 hk3' K1 L1 Z1 R1 HS1 HUS BZ HZ0 HZ1
    go_wp2_with fail
    go_loopw [7] (fun i wr => ∃ (t : Nat) (ti : Int) (L : List RA) (A : Option Addr) (c : Nat), t ≤ 4 ∧ i = .int .i64 ti ∧ ti = (t : Int) ∧ RowsTo t L ∧ PB wr (w.heap.size + 1) key g A L.length c ∧ wr.ownsRow (w.heap.size + 2) 36 8 (.slice A L.length c) L.length (rRow L) ∧ OwnR wr (w.heap.size + 2) L ∧ LQ wr q B ∧ Kept (fun k => k = q) w wr ∧ w.heap.size + 2 ≤ wr.heap.size ∧ wr.heap[w.heap.size]? = some (.cells #[.string ⟨#[]⟩, .int .i64 0, .slice none 0 0] 24 (0, 0))) (fun i _ => 4 - (intOf i).toNat)
    case atStart => exact ⟨0, 0, [], none, 0, by omega, rfl, rfl, RowsTo.nil 0, R3.out, own_nilR _ _, (fun x hx => by cases hx), L3.out, K3.out, HS3.out, Z3.out⟩
    case round =>
      obtain ⟨t, ti, L, A, c, ht, rfl, hti, hct, hrb, how, hor, hlq, hkp, hsz, hz⟩ := hrel
      have CT := Lib.hid hct; have RBl := Lib.hid hrb; have OW := Lib.hid how; have OR := Lib.hid hor; have LQ_ := Lib.hid hlq; have KP := Lib.hid hkp; have ZZ := Lib.hid hz; have SZ := Lib.hid hsz
      clear hct hrb how hor hlq hkp hz hsz
      by_cases h4 : t = 4
      · subst h4
        obtain rfl : ti = 4 := hti
        obtain ⟨p0, p1, p2⟩ := PB.cells RBl.out
        have m0 := block_setCell (i := 0) ZZ.out (.string key)
        simp only [List.setIfInBounds_toArray, List.set_cons_zero, List.set_cons_succ] at m0
        have kc0 := cell_at (i := 0) ZZ.out rfl
        have f0 := thawed_at (i := 0) ZZ.out
        have m1 := block_setCell (i := 1) m0 (.int .i64 g)
        simp only [List.setIfInBounds_toArray, List.set_cons_zero, List.set_cons_succ] at m1
        have kc1 := cell_at (i := 1) m0 rfl
        have f1 := thawed_at (i := 1) m0
        have m2 := block_setCell (i := 2) m1 (.slice A L.length c)
        simp only [List.setIfInBounds_toArray, List.set_cons_zero, List.set_cons_succ] at m2
        have kc2 := cell_at (i := 2) m1 rfl
        have f2 := thawed_at (i := 2) m1
        have M2 := Lib.hid m2
        have KF : Hid (Kept (fun k => k = w.heap.size) wr (((wr.setCell ⟨w.heap.size, 0, none⟩ (.string key)).setCell ⟨w.heap.size, 1, none⟩ (.int .i64 g)).setCell ⟨w.heap.size, 2, none⟩ (.slice A L.length c))) := Lib.hid ((((Kept.refl (fun k => k = w.heap.size) wr).trans (Kept.setCell (fun k => k = w.heap.size) _ ⟨w.heap.size, 0, none⟩ (.string key) rfl) fun _ h => Or.inl h).trans (Kept.setCell (fun k => k = w.heap.size) _ ⟨w.heap.size, 1, none⟩ (.int .i64 g) rfl) fun _ h => Or.inl h).trans (Kept.setCell (fun k => k = w.heap.size) _ ⟨w.heap.size, 2, none⟩ (.slice A L.length c) rfl) fun _ h => Or.inl h)
        clear m0 m1 m2
        go_wp2
        generalize hw9 : (((wr.setCell ⟨w.heap.size, 0, none⟩ (.string key)).setCell ⟨w.heap.size, 1, none⟩ (.int .i64 g)).setCell ⟨w.heap.size, 2, none⟩ (.slice A L.length c)) = w9 at KF M2 ⊢
        clear hw9 kc0 kc1 kc2 f0 f1 f2
        have z0 := cell_at (i := 0) M2.out rfl
        have z1 := cell_at (i := 1) M2.out rfl
        have z2 := cell_at (i := 2) M2.out rfl
        have hown : w9.ownsRow w.heap.size 36 8 (.slice A L.length c) L.length (rRow L) := own_lower (own_kept OW.out fun k hk => KF.out.block k (own_block_lt OW.out k hk) (by have := (OW.out.lt k hk).1; omega)) (by omega)
        have hor9 : OwnR w9 w.heap.size L := fun x hx => own_lower (own_kept (OR.out x hx) fun k hk => KF.out.block k (own_block_lt (OR.out x hx) k hk) (by have := ((OR.out x hx).lt k hk).1; omega)) (by omega)
        have hlq9 := LQ_.out.kept KF.out (fun k hk => by omega) hBq
        have hkp9 : Kept (fun k => k = q) w w9 := KP.out.trans KF.out fun k hk => Or.inr (by omega)
        have hct := CT.out
        have hg9 := HG.out
        exact bodyPost_ret (v := .agg #[.string key, .int .i64 g, .slice A L.length c]) (by simp [results, Try.results46, go_sem, z0, z1, z2]) rfl ⟨g, L, A, c, rfl, hg9, hct, hown, hor9, hlq9, hkp9⟩
      have ht4 : t < 4 := by omega
      have e8 : wrap64 (8 + ti) = 8 + ti := by unfold wrap64; omega
      go_wp2_with fail
      · refine wp_region_z (S := fun w' => PB w' (w.heap.size + 1) key g A L.length c) 9 (by kernel_rfl) ?_ (fun hHeld => ?_)
        · exact RBl.out
        refine wpAnyZ_take (i := 0) (v := ?_) rfl (by kernel_rfl) (by kernel_rfl) (by kernel_rfl) (by kernel_rfl) (fun _ _ _ h => h) (Or.inl ⟨by rfl, ?_⟩) (by assumption) ?_
        rotate_left
        · (intro wx hSw; (try dsimp only at hSw); go_simp; try with_reducible rfl)
        try simp only [Act.put, List.getElem_toArray, List.getElem_cons_succ, List.getElem_cons_zero, List.setIfInBounds_toArray, List.set_cons_zero, List.set_cons_succ]
        refine wpAnyZ_take (i := 1) (v := ?_) rfl (by kernel_rfl) (by kernel_rfl) (by kernel_rfl) (by kernel_rfl) (fun _ _ _ h => h) (Or.inl ⟨by rfl, ?_⟩) (by assumption) ?_
        rotate_left
        · (intro wx hSw; (try dsimp only at hSw); obtain ⟨_, _, _⟩ := PB.cells hSw; go_simp; try with_reducible rfl)
        try simp only [Act.put, List.getElem_toArray, List.getElem_cons_succ, List.getElem_cons_zero, List.setIfInBounds_toArray, List.set_cons_zero, List.set_cons_succ]
        refine wpAnyZ_take (i := 2) (v := ?_) rfl (by kernel_rfl) (by kernel_rfl) (by kernel_rfl) (by kernel_rfl) (fun _ _ _ h => h) (Or.inl ⟨by rfl, ?_⟩) (by assumption) ?_
        rotate_left
        · (intro wx hSw; (try dsimp only at hSw); go_simp; try with_reducible rfl)
        try simp only [Act.put, List.getElem_toArray, List.getElem_cons_succ, List.getElem_cons_zero, List.setIfInBounds_toArray, List.set_cons_zero, List.set_cons_succ]
        refine wpAnyZ_take (i := 3) (v := ?_) rfl (by kernel_rfl) (by kernel_rfl) (by kernel_rfl) (by kernel_rfl) (fun _ _ _ h => h) (Or.inl ⟨by rfl, ?_⟩) (by assumption) ?_
        rotate_left
        · (intro wx hSw; (try dsimp only at hSw); go_simp; try with_reducible rfl)
        try simp only [Act.put, List.getElem_toArray, List.getElem_cons_succ, List.getElem_cons_zero, List.setIfInBounds_toArray, List.set_cons_zero, List.set_cons_succ]
        refine wpAnyZ_one (i := 4) (by kernel_rfl) rfl (fun K hK => ?_)
        go_simp
        refine (rint_anyE _ _ (by omega) (by omega)).mono ?_
        rintro x v1 ⟨s, rfl, hs, hb1⟩
        have es : s = dg t := ba_ext (by rw [hs]; rfl)
        subst es
        replace hb1 : Below wr.heap.size wr v1 := next ((Below.refl wr.heap.size wr).drew) hb1
        have HB1 := Lib.hid hb1; have LQ1 := Lib.hid (LQ_.out.below hb1 (by have := LQ_.out.lt; omega)); have HV1 := Lib.hid hb1.size
        clear hs hb1
        try go_wp2_with fail
        refine hK.out _ _ ?_ (fun hHeld => ?_)
        · exact (HB1.out.block (w.heap.size + 1) (by have := SZ.out; have := (Array.getElem?_eq_some_iff.1 RBl.out).1; omega)).trans RBl.out
        clear hK K
        try simp only [Act.put, List.getElem_toArray, List.getElem_cons_succ, List.getElem_cons_zero, List.setIfInBounds_toArray, List.set_cons_zero, List.set_cons_succ]
        refine wpAnyZ_one (i := 5) (by kernel_rfl) rfl (fun K hK => ?_)
        go_simp
        refine (row_gen q B (dg t) _ LQ1.out hBq).mono ?_
        rintro x v2 ⟨a2, e2, g2, l2, A2, c2, rfl, hae2, hc2, ho2, hlq2, hkp2⟩
        have HAE := Lib.hid hae2; have HC2 := Lib.hid hc2; have HO2 := Lib.hid ho2; have LQ2 := Lib.hid hlq2; have KP2 := Lib.hid hkp2
        clear hae2 hc2 ho2 hlq2 hkp2
        try go_wp2_with fail
        refine hK.out _ _ ?_ (fun hHeld => ?_)
        · exact (KP2.out.block (w.heap.size + 1) (by have := (Array.getElem?_eq_some_iff.1 hHeld).1; omega) (by omega)).trans hHeld
        clear hK K
        try simp only [Act.put, List.getElem_toArray, List.getElem_cons_succ, List.getElem_cons_zero, List.setIfInBounds_toArray, List.set_cons_zero, List.set_cons_succ]
        have hs2 : wr.heap.size ≤ v1.heap.size ∧ v1.heap.size ≤ v2.heap.size := ⟨HV1.out, KP2.out.size⟩
        have HS2 := Lib.hid hs2
        have kC : Kept (fun k => k = q) wr v2 := (Kept.of_below HB1.out _).trans KP2.out fun k hk => Or.inl hk
        have hown2 := own_kept OW.out fun k hk => kC.block k (own_block_lt OW.out k hk) (by have := (OW.out.lt k hk).1; omega)
        have hor2 : OwnR v2 (w.heap.size + 2) L := OR.out.kept fun x hx k hk => kC.block k (own_block_lt (OR.out x hx) k hk) (by have := ((OR.out x hx).lt k hk).1; omega)
        have hb3 := (Below.refl v2.heap.size v2).alloc (Nat.le_refl _) (.cells #[.string (dg t), .string ⟨#[]⟩, .bool false, .int .i64 a2, .int .i64 e2, .int .i64 g2, .int .i64 0, .slice A2 l2.length c2] 36)
        have OWN := Lib.hid (own_below hown2 hb3)
        have OR2 := Lib.hid (hor2.below hb3)
        have HO3' := Lib.hid (own_below HO2.out hb3)
        have RD : Hid (RdR (v2.alloc (.cells #[.string (dg t), .string ⟨#[]⟩, .bool false, .int .i64 a2, .int .i64 e2, .int .i64 g2, .int .i64 0, .slice A2 l2.length c2] 36)) (v2.heap.size + 1) (some ⟨v2.heap.size, 0, none⟩) 1 [⟨⟨dg t, ⟨⟨#[]⟩, false, a2, e2⟩, g2, 0, l2⟩, A2, c2⟩]) := Lib.hid (RdR.one v2 ⟨⟨dg t, ⟨⟨#[]⟩, false, a2, e2⟩, g2, 0, l2⟩, A2, c2⟩ v2.heap.size rfl)
        clear hown2 hor2 hb3 hs2 kC
        refine wpAnyZ_one (i := 6) (by kernel_rfl) rfl (fun K hK => ?_)
        go_simp
        refine hK.out _ _ ?_ (fun hHeld => ?_)
        · exact at_new hHeld _
        clear hK K
        try simp only [Act.put, List.getElem_toArray, List.getElem_cons_succ, List.getElem_cons_zero, List.setIfInBounds_toArray, List.set_cons_zero, List.set_cons_succ]
        refine wpAnyZ_one (i := 7) (by kernel_rfl) rfl (fun K hK => ?_)
        refine step_ex rfl (.tmp 31) (.tmp 36) _ _ rfl (.slice A L.length c) (.slice (some ⟨v2.heap.size, 0, none⟩) 1 1) (by simp [Act.eval]) (by simp [Act.eval]) (run_appR (w.heap.size + 2) OWN.out RD.out ?s1 ?s2) ?_
        case s1 => have := CT.out.len; omega
        case s2 => have := SZ.out; have := HS2.out; simp; omega
        intro v3 w3 ho3 hg3
        obtain ⟨hg3, _⟩ := hg3
        obtain ⟨A3, c3, rfl, _⟩ := own_slice ho3
        have HO3 := Lib.hid ho3; have HG3 := Lib.hid hg3
        clear ho3 hg3
        refine hK.out _ _ ?_ (fun hHeld => ?_)
        · exact (HG3.out.block (w.heap.size + 1) (by have := SZ.out; have := HS2.out; simp; omega) (fun e => by have := (OWN.out.lt _ e.symm).1; omega)).trans hHeld
        clear hK K
        try simp only [Act.put, List.getElem_toArray, List.getElem_cons_succ, List.getElem_cons_zero, List.setIfInBounds_toArray, List.set_cons_zero, List.set_cons_succ]
        have k2 := cell_at (i := 2) hHeld rfl
        have f2 := thawed_at (i := 2) hHeld
        have RB3 := Lib.hid hHeld
        refine wpAnyZ_take (i := 8) (v := ?_) rfl (by kernel_rfl) (by kernel_rfl) (by kernel_rfl) (by kernel_rfl) (fun _ _ _ h => h) (Or.inl ⟨by rfl, ?_⟩) (by assumption) ?_
        rotate_left
        · (intro wx hSw; (try dsimp only at hSw); go_simp; try with_reducible rfl)
        try simp only [Act.put, List.getElem_toArray, List.getElem_cons_succ, List.getElem_cons_zero, List.setIfInBounds_toArray, List.set_cons_zero, List.set_cons_succ]
        refine wpAnyZ_last (by kernel_rfl) rfl (fun K hK => ?_)
        go_simp
        refine hK.out _ _ ?_
        clear hK K
        try simp only [Act.put, List.getElem_toArray, List.getElem_cons_succ, List.getElem_cons_zero, List.setIfInBounds_toArray, List.set_cons_zero, List.set_cons_succ]
        refine wpAnyZ_done (by kernel_rfl) ?_ _
        have kA : Kept (fun k => w.heap.size + 1 ≤ k) v2 (w3.setCell ⟨w.heap.size + 1, 2, none⟩ (.slice A3 (L.length + 1) c3)) := ((Kept.alloc (fun k => w.heap.size + 1 ≤ k) v2 _).trans (Kept.of_grown (F := fun k => w.heap.size + 1 ≤ k) HG3.out (fun k hk => by have := (OWN.out.lt k hk).1; omega)) (fun k hk => Or.inl hk)).trans (Kept.setCell (fun k => w.heap.size + 1 ≤ k) w3 ⟨w.heap.size + 1, 2, none⟩ _ (Nat.le_refl _)) fun k hk => Or.inl hk
        have kB : Kept (fun k => k = q ∨ w.heap.size + 1 ≤ k) wr _ := ((Kept.of_below HB1.out (fun k => k = q ∨ w.heap.size + 1 ≤ k)).trans KP2.out (fun k hk => Or.inl (Or.inl hk))).trans kA (fun k hk => Or.inl (Or.inr hk))
        have hm2 := block_setCell (i := 2) RB3.out (.slice A3 (L.length + 1) c3)
        simp only [List.setIfInBounds_toArray, List.set_cons_zero, List.set_cons_succ] at hm2
        have hl9 : LQ _ q B := LQ2.out.kept kA (fun k hk => by omega) hBq
        have hz9 := (kB.block w.heap.size (by have := SZ.out; omega) (by omega)).trans ZZ.out
        have hk9 : Kept (fun k => k = q) w _ := KP.out.trans kB fun k hk => by omega
        have ho9 := own_kept HO3.out (w' := w3.setCell ⟨w.heap.size + 1, 2, none⟩ (.slice A3 (L.length + 1) c3)) fun g hg => Below.heap_setCell _ _ _ _ (by have := (HO3.out.lt g hg).1; show g ≠ w.heap.size + 1; omega)
        have hgo : ∀ {m : Nat} {vv : Value} {ys : List Value}, ((v2.alloc (.cells #[.string (dg t), .string ⟨#[]⟩, .bool false, .int .i64 a2, .int .i64 e2, .int .i64 g2, .int .i64 0, .slice A2 l2.length c2] 36))).ownsRow (w.heap.size + 2) 66 5 vv m ys → (w3.setCell ⟨w.heap.size + 1, 2, none⟩ (.slice A3 (L.length + 1) c3)).ownsRow (w.heap.size + 2) 66 5 vv m ys := fun {m vv ys} ho =>
          own_kept (own_kept ho fun g hg => HG3.out.block g (own_block_lt ho g hg) fun e => own_apartRC OWN.out ho g hg e.symm) fun g hg => Below.heap_setCell _ _ _ _ (by have := (ho.lt g hg).1; show g ≠ w.heap.size + 1; omega)
        have hor9 : OwnR (w3.setCell ⟨w.heap.size + 1, 2, none⟩ (.slice A3 (L.length + 1) c3)) (w.heap.size + 2) (L ++ [⟨⟨dg t, ⟨⟨#[]⟩, false, a2, e2⟩, g2, 0, l2⟩, A2, c2⟩]) := fun x hx => by
          rcases List.mem_append.1 hx with h1 | h1
          · exact hgo (OR2.out x h1)
          · rw [List.mem_singleton.1 h1]
            exact hgo (own_lower HO3'.out (by have := SZ.out; have := HS2.out; omega))
        have hs9 := kB.size
        generalize w3.setCell ⟨w.heap.size + 1, 2, none⟩ (.slice A3 (L.length + 1) c3) = w9 at *
        have HM2 := Lib.hid hm2; have HL9 := Lib.hid hl9; have HZ9 := Lib.hid hz9; have HK9 := Lib.hid hk9; have HO9 := Lib.hid ho9; have HOR9 := Lib.hid hor9
        clear kA kB hm2 hl9 hz9 hk9 ho9 hor9 hgo k2 f2 hHeld
        go_wp2
        go_roundw
        case rel => exact ⟨t + 1, (t : Int) + 1, L ++ [⟨⟨dg t, ⟨⟨#[]⟩, false, a2, e2⟩, g2, 0, l2⟩, A2, c2⟩], A3, c3, by omega, rfl, by omega, CT.out.snoc ht4 (rowIn_gen (by rw [dg_facts.1 t ht4]; omega) HAE.out HC2.out) rfl, by rw [List.length_append]; exact HM2.out, by rw [List.length_append]; exact HO9.out, HOR9.out, HL9.out, HK9.out, by have := SZ.out; omega, HZ9.out⟩
        case measure => simp [intOf]; omega
      · go_roundw
        case rel => exact ⟨t + 1, (t : Int) + 1, L, A, c, by omega, rfl, by omega, CT.out.next, RBl.out, OW.out, OR.out, LQ_.out, KP.out, SZ.out, ZZ.out⟩
        case measure => simp [intOf]; omega
end Go.Proofs.Ytafbbojfifcncaa
set_option linter.unusedVariables false
set_option linter.unusedSimpArgs false
namespace Go.Proofs.Ytafbbojfifcncaa
open Go Go.RowKit Go.Joins

/-- Rows and columns that are own. -/
structure Own3 (b : Nat) (w : World) (x : PA) : Prop where
  rows : w.ownsRow b 36 8 (.slice x.A x.L.length x.c) x.L.length (rRow x.L)
  cols : OwnR w b x.L
theorem Own3.kept {b : Nat} {w w' : World} {x : PA} {F : Nat → Prop} (h : Own3 b w x) (hk : Kept F w w') (hF : ∀ k, F k → ∃ cs e, w.heap[k]? = some (.cells cs e (0, 0)) ∧ e ≠ 36 ∧ e ≠ 66) : Own3 b w' x := by
  have key : ∀ {g : Nat} {cs : Array Value} {e : TypeId}, w.heap[g]? = some (.cells cs e (0, 0)) → (e = 36 ∨ e = 66) → ¬ F g := fun {g cs e} h1 he hf => by
    obtain ⟨cs', e', h2, h3, h4⟩ := hF g hf
    rw [h1] at h2
    injection h2 with h2
    injection h2 with _ h5 _
    subst h5
    exact he.elim h3 h4
  refine ⟨own_kept h.rows fun g hg => hk.block g (own_block_lt h.rows g hg) ?_, fun y hy => own_kept (h.cols y hy) fun g hg => hk.block g (own_block_lt (h.cols y hy) g hg) ?_⟩
  · obtain ⟨cs, h1⟩ := own_tag h.rows g hg
    exact key h1 (Or.inl rfl)
  · obtain ⟨cs, h1⟩ := own_tag (h.cols y hy) g hg
    exact key h1 (Or.inr rfl)
theorem Own3.on {b : Nat} {w w' : World} {x : PA} (h : Own3 b w x) (hb : Below w.heap.size w w') : Own3 b w' x := ⟨own_below h.rows hb, h.cols.below hb⟩
theorem Own3.lies {b : Nat} {w : World} {x : PA} (h : Own3 b w x) : Lies w w.heap.size x.A x.L.length x.c x.L := by
  obtain ⟨A', c', e, h1, _⟩ := own_slice h.rows
  injection e with e1 e2 e3
  subst e3
  refine ⟨RdR.of_own h.rows, fun y hy => ?_, h1⟩
  obtain ⟨A'', c'', e, h2, _⟩ := own_slice (h.cols y hy)
  injection e with e1 e2 e3
  subst e3
  exact ⟨RdK.of_own (h.cols y hy), h2⟩
/-- A partition by numbers. -/
def PNum (key : ByteArray) (x : PA) : Prop := x.k = key ∧ PartIn ⟨key, x.g, ros x.L⟩
set_option maxRecDepth 8000 in
set_option maxHeartbeats 8000000 in
theorem several_any (A : Option Addr) (n c : Nat) (l : List Int) (k : Nat) (key : ByteArray) (w : World) (hr : RdZ w w.heap.size A n l) (hnc : n ≤ c) (hc : c ≤ maxLen) (hx : ∀ x ∈ l, (Lit.int .i64 x).wf = true) (hk : k ≤ 1000) (hkey : key.size ≤ 100) :
    Calls Try.prog 26 #[.slice A n c, .int .i64 k, .string key] w fun e w' => ∃ (Ps : List PA) (A' : Option Addr) (c' : Nat), e = .returned (.slice A' k c') ∧ Ps.length = k ∧ (∀ x ∈ Ps, PNum key x ∧ Lies w' w'.heap.size x.A x.L.length x.c x.L) ∧ RdP w' w'.heap.size A' k Ps ∧ Below w.heap.size w w' := by
  have bz := (Below.refl w.heap.size w).alloc (Nat.le_refl _) (.cells #[.slice A n c] 69)
  have hlq : LQ (w.alloc (.cells #[.slice A n c] 69)) w.heap.size w.heap.size := ⟨A, n, c, l, heap_alloc_new w _, hr.below bz, hnc, hc, fun x hx' => bounds_i64 (hx x hx')⟩
  obtain ⟨V, hV⟩ : ∃ V, V = w.alloc (.cells #[.slice A n c] 69) := ⟨_, rfl⟩
  rw [← hV] at bz hlq
  have BZ := Lib.hid bz; have HLQ := Lib.hid hlq
  clear bz hlq hr hx
  go_enter Try.func26, Try.ntmps26
  go_wp2_with fail
  rw [← hV]
  clear hV
  go_wp2_with fail
  go_loopw [9, 8] (fun iv mv wr => ∃ (t : Nat) (Ps : List PA) (A' : Option Addr) (c' : Nat), t ≤ k ∧ iv = .int .i64 t ∧ mv = .slice A' t c' ∧ wr.ownsRow w.heap.size 24 3 (.slice A' t c') t (pRow Ps) ∧ (∀ x ∈ Ps, PNum key x ∧ Own3 w.heap.size wr x) ∧ LQ wr w.heap.size w.heap.size ∧ Below w.heap.size w wr) (fun iv _ _ => k - (intOf iv).toNat)
  case atStart => exact ⟨0, [], none, 0, Nat.zero_le _, rfl, rfl, own_nilP _ _, (fun x hx => by cases hx), HLQ.out, BZ.out⟩
  case round =>
    obtain ⟨t, Ps, A', c', ht, rfl, rfl, ho, hp, hq, hb⟩ := hrel
    have HO := Lib.hid ho; have HP := Lib.hid hp; have HQ := Lib.hid hq; have HB := Lib.hid hb
    clear ho hp hq hb
    by_cases hlt : t < k
    · have i1 : (t : Int) < k := by omega
      go_wp2_with fail
      refine (part_gen w.heap.size w.heap.size key _ HQ.out (Nat.le_refl _)).mono ?_
      rintro e w1 ⟨g, L, A1, c1, rfl, hg, hrt, hor, hoc, hlq, hkp⟩
      have hL : ∃ cs e, wr.heap[w.heap.size]? = some (.cells cs e (0, 0)) ∧ e ≠ 36 ∧ e ≠ 66 ∧ e ≠ 24 := by
        obtain ⟨A2, n2, c2, l2, h1, _⟩ := HQ.out.ex
        exact ⟨_, _, h1, by decide, by decide, by decide⟩
      obtain ⟨csL, eL, hL1, hL2, hL3, hL4⟩ := hL
      have ho1 := own_kept HO.out fun j hj => hkp.block j (own_block_lt HO.out j hj) fun e => by
        subst e
        obtain ⟨cs', h2⟩ := own_tag HO.out _ hj
        rw [hL1] at h2
        injection h2 with h2
        injection h2 with _ h3 _
        exact hL4 h3
      have hws := HB.out.size
      have hnew : Own3 w.heap.size w1 (⟨key, g, L, A1, c1⟩ : PA) := ⟨own_lower hor hws, fun y hy => own_lower (hoc y hy) hws⟩
      have hold : ∀ x ∈ Ps ++ [(⟨key, g, L, A1, c1⟩ : PA)], PNum key x ∧ Own3 w.heap.size w1 x := fun x hx => by
        rcases List.mem_append.1 hx with h1 | h1
        · exact ⟨(HP.out x h1).1, (HP.out x h1).2.kept hkp fun j hj => by subst hj; exact ⟨_, _, hL1, hL2, hL3⟩⟩
        · rw [List.mem_singleton.1 h1]
          exact ⟨⟨rfl, hrt.part hkey hg⟩, hnew⟩
      have hb1 : Below w.heap.size w w1 := HB.out.trans (hkp.below (fun j hj => by omega) hws)
      have ha2 := (Below.refl w1.heap.size w1).alloc (Nat.le_refl _) (.cells #[.string key, .int .i64 g, .slice A1 L.length c1] 24)
      have HO2 := Lib.hid (own_below ho1 ha2); have RD := Lib.hid (RdP.laid w1 (⟨key, g, L, A1, c1⟩ : PA)); have HB2 := Lib.hid (next hb1 ha2); have HLQ2 := Lib.hid (hlq.below ha2 (by have := hkp.size; omega))
      have HOLD := Lib.hid (fun x hx => And.intro (hold x hx).1 ((hold x hx).2.on ha2))
      clear ho1 hnew hold hb1 ha2 hlq hkp hor hoc hrt hL1
      go_wp2_with (at_builtin; refine list_ex rfl (.tmp 18) (.tmp 22) _ _ rfl (.slice A' t c') (.slice (some ⟨w1.heap.size, 0, none⟩) 1 1) rfl rfl (run_appP w.heap.size HO2.out RD.out ?s1 ?s2) ?_)
      case s1 => omega
      case s2 => simpa using HB2.out.size
      intro v3 w3 ho3 hg3 hloc3
      obtain ⟨A3, c3, rfl, _⟩ := own_slice ho3
      have hk3 := Kept.of_grown (F := fun k => (Value.slice A' t c').ownBlock = some k) hg3 fun k hk => hk
      have hb3 : Below w.heap.size w w3 := HB2.out.trans (hk3.below (fun j hj => (HO2.out.lt j hj).1) HB2.out.size)
      have hold3 : ∀ x ∈ Ps ++ [(⟨key, g, L, A1, c1⟩ : PA)], PNum key x ∧ Own3 w.heap.size w3 x := fun x hx => ⟨(HOLD.out x hx).1, (HOLD.out x hx).2.kept hk3 fun j hj => by
        obtain ⟨cs, h1⟩ := own_tag HO2.out j hj
        exact ⟨cs, _, h1, by decide, by decide⟩⟩
      have hlq3 : LQ w3 w.heap.size w.heap.size := HLQ2.out.kept hk3 (fun j hj => Nat.lt_of_le_of_ne (HO2.out.lt j hj).1 fun e => by
        subst e
        obtain ⟨cs, h1⟩ := own_tag HO2.out _ hj
        obtain ⟨A2, n2, c2, l2, h2, _⟩ := HLQ2.out.ex
        unfold LAt at h2
        rw [h1] at h2
        injection h2 with h2
        injection h2 with _ h3 _
        exact absurd h3 (by decide)) (Nat.le_refl _)
      have HO3 := Lib.hid ho3; have HB3 := Lib.hid hb3; have HOLD3 := Lib.hid hold3; have HLQ3 := Lib.hid hlq3
      clear ho3 hg3 hloc3 hk3 hb3 hold3 hlq3
      go_wp2
      go_roundw
      case rel => exact ⟨t + 1, _, A3, c3, by omega, by go_num, rfl, HO3.out, HOLD3.out, HLQ3.out, HB3.out⟩
      case measure => simp [intOf]; omega
    · obtain rfl : t = k := by omega
      have d0 : decide ((t : Int) < (t : Int)) = false := by simp
      go_wp2
      go_ret
      have hl : Ps.length = t := by have := HO.out.1; rw [pRow_length] at this; omega
      have hps : ∀ x ∈ Ps, PNum key x ∧ Lies wr wr.heap.size x.A x.L.length x.c x.L := fun x hx => ⟨(HP.out x hx).1, (HP.out x hx).2.lies⟩
      first | exact ⟨Ps, A', c', rfl, hl, hps, RdP.of_own HO.out, HB.out⟩ | exact ⟨Ps, A', ⟨c', rfl⟩, hl, hps, RdP.of_own HO.out, HB.out⟩
end Go.Proofs.Ytafbbojfifcncaa
set_option linter.unusedVariables false
set_option linter.unusedSimpArgs false
namespace Go.Proofs.Ytafbbojfifcncaa
open Go Go.RowKit

/-- Not too much of each row. -/
def FewR (L : List RA) : Prop := ∀ x ∈ L, Few x.ro.cols ∧ x.ro.live.s.size ≤ maxLen ∧ x.ro.cols.length ≤ 1000
theorem check_ra (x : RA) (B : Nat) (w : World) (h : RaIn w B x) (hB : B ≤ w.heap.size) (hf : Few x.ro.cols ∧ x.ro.live.s.size ≤ maxLen ∧ x.ro.cols.length ≤ 1000) :
    Calls Try.prog 47 #[.agg #[.string x.ro.key, .string x.ro.live.s, .bool x.ro.live.d, .int .i64 x.ro.live.a, .int .i64 x.ro.live.e, .int .i64 x.ro.gone, .int .i64 x.ro.shade, .slice x.A x.ro.cols.length x.c]] w fun e w' => e = .returned (.bool x.ro.ok) ∧ Below w.heap.size w w' :=
  check_ro x.ro x.A x.c B w h hB hf.2.2 hf.1 hf.2.1
theorem pstamp_any (n : Int) (w : World) : Calls Try.prog 29 #[.int .i64 n] w fun x w' => x = .returned (.bool (stm n)) ∧ w = w' := by
  go_enter Try.func29, Try.ntmps29
  by_cases h0 : 0 ≤ n
  · by_cases h1 : n ≤ 1099511627776
    · have hs : stm n = true := by unfold stm; rw [decide_eq_true h0, decide_eq_true h1]; rfl
      rw [hs]
      have d0 : decide (0 ≤ n) = true := decide_eq_true h0
      have d1 : decide (n ≤ 1099511627776) = true := decide_eq_true h1
      clear h0 h1 hs
      go_wp2
      go_ret
      exact ⟨rfl, rfl⟩
    · have hs : stm n = false := by unfold stm; rw [decide_eq_true h0, decide_eq_false h1]; rfl
      rw [hs]
      have d0 : decide (0 ≤ n) = true := decide_eq_true h0
      have d1 : decide (n ≤ 1099511627776) = false := decide_eq_false h1
      clear h0 h1 hs
      go_wp2
      go_ret
      exact ⟨rfl, rfl⟩
  · have hs : stm n = false := by unfold stm; rw [decide_eq_false h0]; rfl
    rw [hs]
    have d0 : decide (0 ≤ n) = false := decide_eq_false h0
    clear h0 hs
    go_wp2
    go_ret
    exact ⟨rfl, rfl⟩
set_option maxHeartbeats 4000000 in
theorem rows_any (A : Option Addr) (n c B : Nat) (L : List RA) (w : World) (h : Lies w B A n c L) (hB : B ≤ w.heap.size) (hn : n ≤ 1000000000) (hf : FewR L) :
    Calls Try.prog 30 #[.slice A n c] w fun x w' => x = .returned (.bool (decide (n ≤ 100) && rowsB (ros L))) ∧ Below w.heap.size w w' := by
  have hl := h.len
  obtain ⟨r, hr⟩ : ∃ r, (decide (n ≤ 100) && rowsB (ros L)) = r := ⟨_, rfl⟩
  rw [hr]
  by_cases h8 : n ≤ 100
  · have d0 : decide ((100 : Int) < (n : Nat)) = false := by simp; omega
    rw [decide_eq_true h8, Bool.true_and] at hr
    have HL := Lib.hid hl; have HR := Lib.hid hr; have HH := Lib.hid h; have HF := Lib.hid hf
    clear hl hr h hf
    go_enter Try.func30, Try.ntmps30
    go_wp2
    go_loopw [10] (fun i wr => ∃ t : Nat, t ≤ n ∧ i = .int .i64 t ∧ (List.range t).all (goodR (ros L)) = true ∧ Below w.heap.size w wr) (fun i _ => n - (intOf i).toNat)
    case atStart => exact ⟨0, Nat.zero_le _, rfl, rfl, Below.refl _ _⟩
    case round =>
      obtain ⟨t, ht, rfl, hg, hb⟩ := hrel
      have HG := Lib.hid hg; have HB := Lib.hid hb
      clear hg hb
      by_cases hlt : t < n
      · have i1 : (t : Int) < n := by omega
        have i0 : (0 : Int) ≤ t := by omega
        have htl : t < L.length := by rw [HL.out]; exact hlt
        have htr : t < (ros L).length := by rw [List.length_map]; exact htl
        obtain ⟨g0, o0, rfl, hgB⟩ := HH.out.rd.ex (by omega)
        have hrd := (HH.out.below (HB.out.mono hB)).rd
        obtain ⟨x, hx⟩ : ∃ x, L[t] = x := ⟨_, rfl⟩
        have hrow := hrd.row htl
        have hfm := HF.out L[t] (List.getElem_mem htl)
        have hin := (HH.out.below (HB.out.mono hB)).held L[t] (List.getElem_mem htl)
        rw [hx] at hrow hfm hin
        have hgw : g0 < wr.heap.size := by have := HB.out.size; omega
        obtain ⟨u1, hu1⟩ : ∃ u, x.ro.ok = u := ⟨_, rfl⟩
        have hrx : (ros L)[t] = x.ro := by rw [List.getElem_map, hx]
        have U1 := Lib.hid hu1; have FM := Lib.hid hfm; have HX := Lib.hid hrx
        have hz := heap_alloc_new wr (.cells #[.string x.ro.key, .string x.ro.live.s, .bool x.ro.live.d, .int .i64 x.ro.live.a, .int .i64 x.ro.live.e, .int .i64 x.ro.gone, .int .i64 x.ro.shade, .slice x.A x.ro.cols.length x.c] 36)
        have ha := (Below.refl wr.heap.size wr).alloc (Nat.le_refl _) (.cells #[.string x.ro.key, .string x.ro.live.s, .bool x.ro.live.d, .int .i64 x.ro.live.a, .int .i64 x.ro.live.e, .int .i64 x.ro.gone, .int .i64 x.ro.shade, .slice x.A x.ro.cols.length x.c] 36)
        have hbu := HB.out.trans (ha.mono HB.out.size)
        have hcu := fun j (hj : j < L.length) => (hrd.row hj).below ha hgw
        have hiu := hin.below (ha.mono (by have := HB.out.size; omega))
        obtain ⟨_, _, _, _, _, _, _, _⟩ := hrow
        clear hu1 hfm hx hrx hrd hin
        by_cases hz0 : t = 0
        · have hga : goodR (ros L) t = u1 := by
            subst hz0
            rw [goodR_zero htr, HX.out, U1.out]
          have j1 : decide ((0 : Int) < (t : Int)) = false := by simp; omega
          have j2 : decide (0 < t) = false := by simp; omega
          clear hz0
          have HGA := Lib.hid hga
          clear hga
          go_wp2_with fail
          obtain ⟨U, hU⟩ : ∃ U, U = wr.alloc (.cells #[.string x.ro.key, .string x.ro.live.s, .bool x.ro.live.d, .int .i64 x.ro.live.a, .int .i64 x.ro.live.e, .int .i64 x.ro.gone, .int .i64 x.ro.shade, .slice x.A x.ro.cols.length x.c] 36) := ⟨_, rfl⟩
          have hUs : U.heap.size = wr.heap.size + 1 := by rw [hU]; simp
          rw [← hU] at hz hbu hcu hiu ⊢
          have hall : ∀ w', Below U.heap.size U w' → BlkAt w' wr.heap.size x ∧ True := fun w' hb => ⟨BlkAt.of ((hb.block wr.heap.size (by omega)).trans hz), trivial⟩
          have hin2 : ∀ w', Below U.heap.size U w' → RaIn w' B x := fun w' hb => hiu.below (hb.mono (by have := HB.out.size; omega))
          have HALL := Lib.hid hall; have HBU := Lib.hid hbu; have HIN := Lib.hid hin2
          have HUB := Lib.hid (show B ≤ U.heap.size by have := HB.out.size; omega)
          clear hall hz hU ha hbu hcu hiu hin2
          cases u1
          · refine wp_region_held_drew (S := fun w' => Below U.heap.size U w') (by kernel_rfl) ?_ (fun hHeld => ?_)
            · exact (Below.refl _ _).drew
            refine wpAnyH_take (i := 0) (v := ?_) rfl (by kernel_rfl) (by kernel_rfl) (by kernel_rfl) (fun _ _ _ h => h) (Or.inl ⟨by rfl, ?_⟩) (by assumption) ?_
            rotate_left
            · (intro wx hSw; (try dsimp only at hSw); obtain ⟨⟨_, _, _, _, _, _, _, _⟩, _⟩ := HALL.out _ hSw; go_simp; try with_reducible rfl)
            try simp only [Act.put, List.getElem_toArray, List.getElem_cons_succ, List.getElem_cons_zero, List.setIfInBounds_toArray, List.set_cons_zero, List.set_cons_succ]
            refine wpAnyH_ready (rs := [1]) (by kernel_rfl) (by simp) (AllReadyH.cons rfl (fun K hK => ?_) AllReadyH.nil)
            go_simp
            refine (check_ra x B _ ?hin1 ?hsz1 FM.out).mono ?_
            case hin1 => exact HIN.out _ (by first | exact (Below.refl _ _).drew | exact below_draws _ _ _ | exact Below.refl _ _)
            case hsz1 => exact HUB.out
            rintro y v1 ⟨rfl, b1⟩
            rw [U1.out]
            try go_wp2_with fail
            refine hK.out _ _ ?_ (fun hHeld => ?_)
            · exact next (by assumption) b1
            clear hK K
            try simp only [Act.put, List.getElem_toArray, List.getElem_cons_succ, List.getElem_cons_zero, List.setIfInBounds_toArray, List.set_cons_zero, List.set_cons_succ]
            refine wpAnyH_take (i := 2) (v := ?_) rfl (by kernel_rfl) (by kernel_rfl) (by kernel_rfl) (fun _ _ _ h => h) (Or.inl ⟨by rfl, ?_⟩) (by assumption) ?_
            rotate_left
            · (intro wx hSw; (try dsimp only at hSw); go_simp; try with_reducible rfl)
            try simp only [Act.put, List.getElem_toArray, List.getElem_cons_succ, List.getElem_cons_zero, List.setIfInBounds_toArray, List.set_cons_zero, List.set_cons_succ]
            refine wpAnyH_take (i := 3) (v := ?_) rfl (by kernel_rfl) (by kernel_rfl) (by kernel_rfl) (fun _ _ _ h => h) (Or.inl ⟨by rfl, ?_⟩) (by assumption) ?_
            rotate_left
            · (intro wx hSw; (try dsimp only at hSw); go_simp; try with_reducible rfl)
            try simp only [Act.put, List.getElem_toArray, List.getElem_cons_succ, List.getElem_cons_zero, List.setIfInBounds_toArray, List.set_cons_zero, List.set_cons_succ]
            refine wpAnyH_take (i := 4) (v := undef) rfl (by kernel_rfl) (by kernel_rfl) (by kernel_rfl) (fun _ _ _ h => h) (Or.inr ⟨by rfl, rfl⟩) (by assumption) ?_
            try simp only [Act.put, List.getElem_toArray, List.getElem_cons_succ, List.getElem_cons_zero, List.setIfInBounds_toArray, List.set_cons_zero, List.set_cons_succ]
            refine wpAnyH_take (i := 5) (v := undef) rfl (by kernel_rfl) (by kernel_rfl) (by kernel_rfl) (fun _ _ _ h => h) (Or.inr ⟨by rfl, rfl⟩) (by assumption) ?_
            try simp only [Act.put, List.getElem_toArray, List.getElem_cons_succ, List.getElem_cons_zero, List.setIfInBounds_toArray, List.set_cons_zero, List.set_cons_succ]
            refine wpAnyH_take (i := 6) (v := undef) rfl (by kernel_rfl) (by kernel_rfl) (by kernel_rfl) (fun _ _ _ h => h) (Or.inr ⟨by rfl, rfl⟩) (by assumption) ?_
            try simp only [Act.put, List.getElem_toArray, List.getElem_cons_succ, List.getElem_cons_zero, List.setIfInBounds_toArray, List.set_cons_zero, List.set_cons_succ]
            refine wpAnyH_take (i := 7) (v := undef) rfl (by kernel_rfl) (by kernel_rfl) (by kernel_rfl) (fun _ _ _ h => h) (Or.inr ⟨by rfl, rfl⟩) (by assumption) ?_
            try simp only [Act.put, List.getElem_toArray, List.getElem_cons_succ, List.getElem_cons_zero, List.setIfInBounds_toArray, List.set_cons_zero, List.set_cons_succ]
            refine wpAnyH_take (i := 8) (v := undef) rfl (by kernel_rfl) (by kernel_rfl) (by kernel_rfl) (fun _ _ _ h => h) (Or.inr ⟨by rfl, rfl⟩) (by assumption) ?_
            try simp only [Act.put, List.getElem_toArray, List.getElem_cons_succ, List.getElem_cons_zero, List.setIfInBounds_toArray, List.set_cons_zero, List.set_cons_succ]
            refine wpAnyH_take (i := 9) (v := undef) rfl (by kernel_rfl) (by kernel_rfl) (by kernel_rfl) (fun _ _ _ h => h) (Or.inr ⟨by rfl, rfl⟩) (by assumption) ?_
            try simp only [Act.put, List.getElem_toArray, List.getElem_cons_succ, List.getElem_cons_zero, List.setIfInBounds_toArray, List.set_cons_zero, List.set_cons_succ]
            refine wpAnyH_take (i := 10) (v := undef) rfl (by kernel_rfl) (by kernel_rfl) (by kernel_rfl) (fun _ _ _ h => h) (Or.inr ⟨by rfl, rfl⟩) (by assumption) ?_
            try simp only [Act.put, List.getElem_toArray, List.getElem_cons_succ, List.getElem_cons_zero, List.setIfInBounds_toArray, List.set_cons_zero, List.set_cons_succ]
            refine wpAnyH_take (i := 11) (v := undef) rfl (by kernel_rfl) (by kernel_rfl) (by kernel_rfl) (fun _ _ _ h => h) (Or.inr ⟨by rfl, rfl⟩) (by assumption) ?_
            try simp only [Act.put, List.getElem_toArray, List.getElem_cons_succ, List.getElem_cons_zero, List.setIfInBounds_toArray, List.set_cons_zero, List.set_cons_succ]
            refine wpAnyH_take (i := 12) (v := undef) rfl (by kernel_rfl) (by kernel_rfl) (by kernel_rfl) (fun _ _ _ h => h) (Or.inr ⟨by rfl, rfl⟩) (by assumption) ?_
            try simp only [Act.put, List.getElem_toArray, List.getElem_cons_succ, List.getElem_cons_zero, List.setIfInBounds_toArray, List.set_cons_zero, List.set_cons_succ]
            refine wpAnyH_take (i := 13) (v := undef) rfl (by kernel_rfl) (by kernel_rfl) (by kernel_rfl) (fun _ _ _ h => h) (Or.inr ⟨by rfl, rfl⟩) (by assumption) ?_
            try simp only [Act.put, List.getElem_toArray, List.getElem_cons_succ, List.getElem_cons_zero, List.setIfInBounds_toArray, List.set_cons_zero, List.set_cons_succ]
            refine wpAnyH_take (i := 14) (v := undef) rfl (by kernel_rfl) (by kernel_rfl) (by kernel_rfl) (fun _ _ _ h => h) (Or.inr ⟨by rfl, rfl⟩) (by assumption) ?_
            try simp only [Act.put, List.getElem_toArray, List.getElem_cons_succ, List.getElem_cons_zero, List.setIfInBounds_toArray, List.set_cons_zero, List.set_cons_succ]
            refine wpAnyH_take (i := 15) (v := undef) rfl (by kernel_rfl) (by kernel_rfl) (by kernel_rfl) (fun _ _ _ h => h) (Or.inr ⟨by rfl, rfl⟩) (by assumption) ?_
            try simp only [Act.put, List.getElem_toArray, List.getElem_cons_succ, List.getElem_cons_zero, List.setIfInBounds_toArray, List.set_cons_zero, List.set_cons_succ]
            refine wpAnyH_take (i := 16) (v := undef) rfl (by kernel_rfl) (by kernel_rfl) (by kernel_rfl) (fun _ _ _ h => h) (Or.inr ⟨by rfl, rfl⟩) (by assumption) ?_
            try simp only [Act.put, List.getElem_toArray, List.getElem_cons_succ, List.getElem_cons_zero, List.setIfInBounds_toArray, List.set_cons_zero, List.set_cons_succ]
            refine wpAnyH_take (i := 17) (v := ?_) rfl (by kernel_rfl) (by kernel_rfl) (by kernel_rfl) (fun _ _ _ h => h) (Or.inl ⟨by rfl, ?_⟩) (by assumption) ?_
            rotate_left
            · (intro wx hSw; (try dsimp only at hSw); go_simp; try with_reducible rfl)
            try simp only [Act.put, List.getElem_toArray, List.getElem_cons_succ, List.getElem_cons_zero, List.setIfInBounds_toArray, List.set_cons_zero, List.set_cons_succ]
            refine wpAnyH_done (by kernel_rfl) ?_ _
            have hv : r = false := by rw [← HR.out]; exact goodsR_no htr HGA.out
            subst hv
            go_wp2
            go_ret
            exact ⟨rfl, next HBU.out hHeld⟩
          · refine wp_region_held_drew (S := fun w' => Below U.heap.size U w') (by kernel_rfl) ?_ (fun hHeld => ?_)
            · exact (Below.refl _ _).drew
            refine wpAnyH_take (i := 0) (v := ?_) rfl (by kernel_rfl) (by kernel_rfl) (by kernel_rfl) (fun _ _ _ h => h) (Or.inl ⟨by rfl, ?_⟩) (by assumption) ?_
            rotate_left
            · (intro wx hSw; (try dsimp only at hSw); obtain ⟨⟨_, _, _, _, _, _, _, _⟩, _⟩ := HALL.out _ hSw; go_simp; try with_reducible rfl)
            try simp only [Act.put, List.getElem_toArray, List.getElem_cons_succ, List.getElem_cons_zero, List.setIfInBounds_toArray, List.set_cons_zero, List.set_cons_succ]
            refine wpAnyH_ready (rs := [1]) (by kernel_rfl) (by simp) (AllReadyH.cons rfl (fun K hK => ?_) AllReadyH.nil)
            go_simp
            refine (check_ra x B _ ?hin1 ?hsz1 FM.out).mono ?_
            case hin1 => exact HIN.out _ (by first | exact (Below.refl _ _).drew | exact below_draws _ _ _ | exact Below.refl _ _)
            case hsz1 => exact HUB.out
            rintro y v1 ⟨rfl, b1⟩
            rw [U1.out]
            try go_wp2_with fail
            refine hK.out _ _ ?_ (fun hHeld => ?_)
            · exact next (by assumption) b1
            clear hK K
            try simp only [Act.put, List.getElem_toArray, List.getElem_cons_succ, List.getElem_cons_zero, List.setIfInBounds_toArray, List.set_cons_zero, List.set_cons_succ]
            refine wpAnyH_take (i := 2) (v := ?_) rfl (by kernel_rfl) (by kernel_rfl) (by kernel_rfl) (fun _ _ _ h => h) (Or.inl ⟨by rfl, ?_⟩) (by assumption) ?_
            rotate_left
            · (intro wx hSw; (try dsimp only at hSw); go_simp; try with_reducible rfl)
            try simp only [Act.put, List.getElem_toArray, List.getElem_cons_succ, List.getElem_cons_zero, List.setIfInBounds_toArray, List.set_cons_zero, List.set_cons_succ]
            refine wpAnyH_take (i := 3) (v := ?_) rfl (by kernel_rfl) (by kernel_rfl) (by kernel_rfl) (fun _ _ _ h => h) (Or.inl ⟨by rfl, ?_⟩) (by assumption) ?_
            rotate_left
            · (intro wx hSw; (try dsimp only at hSw); go_simp; try with_reducible rfl)
            try simp only [Act.put, List.getElem_toArray, List.getElem_cons_succ, List.getElem_cons_zero, List.setIfInBounds_toArray, List.set_cons_zero, List.set_cons_succ]
            refine wpAnyH_take (i := 4) (v := ?_) rfl (by kernel_rfl) (by kernel_rfl) (by kernel_rfl) (fun _ _ _ h => h) (Or.inl ⟨by rfl, ?_⟩) (by assumption) ?_
            rotate_left
            · (intro wx hSw; (try dsimp only at hSw); go_simp; try with_reducible rfl)
            try simp only [Act.put, List.getElem_toArray, List.getElem_cons_succ, List.getElem_cons_zero, List.setIfInBounds_toArray, List.set_cons_zero, List.set_cons_succ]
            refine wpAnyH_take (i := 5) (v := ?_) rfl (by kernel_rfl) (by kernel_rfl) (by kernel_rfl) (fun _ _ _ h => h) (Or.inl ⟨by rfl, ?_⟩) (by assumption) ?_
            rotate_left
            · (intro wx hSw; (try dsimp only at hSw); go_simp; try with_reducible rfl)
            try simp only [Act.put, List.getElem_toArray, List.getElem_cons_succ, List.getElem_cons_zero, List.setIfInBounds_toArray, List.set_cons_zero, List.set_cons_succ]
            refine wpAnyH_take (i := 6) (v := ?_) rfl (by kernel_rfl) (by kernel_rfl) (by kernel_rfl) (fun _ _ _ h => h) (Or.inl ⟨by rfl, ?_⟩) (by assumption) ?_
            rotate_left
            · (intro wx hSw; (try dsimp only at hSw); go_simp; try with_reducible rfl)
            try simp only [Act.put, List.getElem_toArray, List.getElem_cons_succ, List.getElem_cons_zero, List.setIfInBounds_toArray, List.set_cons_zero, List.set_cons_succ]
            refine wpAnyH_take (i := 7) (v := undef) rfl (by kernel_rfl) (by kernel_rfl) (by kernel_rfl) (fun _ _ _ h => h) (Or.inr ⟨by rfl, rfl⟩) (by assumption) ?_
            try simp only [Act.put, List.getElem_toArray, List.getElem_cons_succ, List.getElem_cons_zero, List.setIfInBounds_toArray, List.set_cons_zero, List.set_cons_succ]
            refine wpAnyH_take (i := 8) (v := undef) rfl (by kernel_rfl) (by kernel_rfl) (by kernel_rfl) (fun _ _ _ h => h) (Or.inr ⟨by rfl, rfl⟩) (by assumption) ?_
            try simp only [Act.put, List.getElem_toArray, List.getElem_cons_succ, List.getElem_cons_zero, List.setIfInBounds_toArray, List.set_cons_zero, List.set_cons_succ]
            refine wpAnyH_take (i := 9) (v := undef) rfl (by kernel_rfl) (by kernel_rfl) (by kernel_rfl) (fun _ _ _ h => h) (Or.inr ⟨by rfl, rfl⟩) (by assumption) ?_
            try simp only [Act.put, List.getElem_toArray, List.getElem_cons_succ, List.getElem_cons_zero, List.setIfInBounds_toArray, List.set_cons_zero, List.set_cons_succ]
            refine wpAnyH_take (i := 10) (v := undef) rfl (by kernel_rfl) (by kernel_rfl) (by kernel_rfl) (fun _ _ _ h => h) (Or.inr ⟨by rfl, rfl⟩) (by assumption) ?_
            try simp only [Act.put, List.getElem_toArray, List.getElem_cons_succ, List.getElem_cons_zero, List.setIfInBounds_toArray, List.set_cons_zero, List.set_cons_succ]
            refine wpAnyH_take (i := 11) (v := undef) rfl (by kernel_rfl) (by kernel_rfl) (by kernel_rfl) (fun _ _ _ h => h) (Or.inr ⟨by rfl, rfl⟩) (by assumption) ?_
            try simp only [Act.put, List.getElem_toArray, List.getElem_cons_succ, List.getElem_cons_zero, List.setIfInBounds_toArray, List.set_cons_zero, List.set_cons_succ]
            refine wpAnyH_take (i := 12) (v := undef) rfl (by kernel_rfl) (by kernel_rfl) (by kernel_rfl) (fun _ _ _ h => h) (Or.inr ⟨by rfl, rfl⟩) (by assumption) ?_
            try simp only [Act.put, List.getElem_toArray, List.getElem_cons_succ, List.getElem_cons_zero, List.setIfInBounds_toArray, List.set_cons_zero, List.set_cons_succ]
            refine wpAnyH_take (i := 13) (v := undef) rfl (by kernel_rfl) (by kernel_rfl) (by kernel_rfl) (fun _ _ _ h => h) (Or.inr ⟨by rfl, rfl⟩) (by assumption) ?_
            try simp only [Act.put, List.getElem_toArray, List.getElem_cons_succ, List.getElem_cons_zero, List.setIfInBounds_toArray, List.set_cons_zero, List.set_cons_succ]
            refine wpAnyH_take (i := 14) (v := undef) rfl (by kernel_rfl) (by kernel_rfl) (by kernel_rfl) (fun _ _ _ h => h) (Or.inr ⟨by rfl, rfl⟩) (by assumption) ?_
            try simp only [Act.put, List.getElem_toArray, List.getElem_cons_succ, List.getElem_cons_zero, List.setIfInBounds_toArray, List.set_cons_zero, List.set_cons_succ]
            refine wpAnyH_take (i := 15) (v := undef) rfl (by kernel_rfl) (by kernel_rfl) (by kernel_rfl) (fun _ _ _ h => h) (Or.inr ⟨by rfl, rfl⟩) (by assumption) ?_
            try simp only [Act.put, List.getElem_toArray, List.getElem_cons_succ, List.getElem_cons_zero, List.setIfInBounds_toArray, List.set_cons_zero, List.set_cons_succ]
            refine wpAnyH_take (i := 16) (v := ?_) rfl (by kernel_rfl) (by kernel_rfl) (by kernel_rfl) (fun _ _ _ h => h) (Or.inl ⟨by rfl, ?_⟩) (by assumption) ?_
            rotate_left
            · (intro wx hSw; (try dsimp only at hSw); go_simp; try with_reducible rfl)
            try simp only [Act.put, List.getElem_toArray, List.getElem_cons_succ, List.getElem_cons_zero, List.setIfInBounds_toArray, List.set_cons_zero, List.set_cons_succ]
            refine wpAnyH_take (i := 17) (v := ?_) rfl (by kernel_rfl) (by kernel_rfl) (by kernel_rfl) (fun _ _ _ h => h) (Or.inl ⟨by rfl, ?_⟩) (by assumption) ?_
            rotate_left
            · (intro wx hSw; (try dsimp only at hSw); go_simp; try with_reducible rfl)
            try simp only [Act.put, List.getElem_toArray, List.getElem_cons_succ, List.getElem_cons_zero, List.setIfInBounds_toArray, List.set_cons_zero, List.set_cons_succ]
            refine wpAnyH_done (by kernel_rfl) ?_ _
            go_wp2
            go_roundw
            case rel => exact ⟨t + 1, by omega, by go_num, goodsR_step HG.out HGA.out, next HBU.out hHeld⟩
            case measure => simp [intOf]; omega
        · obtain ⟨u, hu⟩ : ∃ u, u + 1 = t := ⟨t - 1, by omega⟩
          have hul : u < L.length := by omega
          have hsub : IntKind.i64.wrap ((t : Int) - 1) = (u : Int) := by rw [IntKind.wrap_i64]; omega
          have j1 : (u : Int) < n := by omega
          have j0 : (0 : Int) ≤ u := by omega
          have j2 : decide ((0 : Int) < (t : Int)) = true := by simp; omega
          have j3 : decide (0 < t) = true := by simp; omega
          have j4 : (0 : Int) < (t : Int) := by omega
          have j5 : 0 < t := by omega
          obtain ⟨y, hy⟩ : ∃ y, L[u] = y := ⟨_, rfl⟩
          have hcu2 := hcu u hul
          rw [hy] at hcu2
          have hga : goodR (ros L) t = (u1 && decide (nlt y.ro.key x.ro.key)) := by
            subst hu
            rw [goodR_succ htr, HX.out, U1.out, List.getElem_map, hy]
          have HGA := Lib.hid hga; have HY := Lib.hid hy
          clear hga hy hcu
          go_wp2_with fail
          obtain ⟨U, hU⟩ : ∃ U, U = wr.alloc (.cells #[.string x.ro.key, .string x.ro.live.s, .bool x.ro.live.d, .int .i64 x.ro.live.a, .int .i64 x.ro.live.e, .int .i64 x.ro.gone, .int .i64 x.ro.shade, .slice x.A x.ro.cols.length x.c] 36) := ⟨_, rfl⟩
          have hUs : U.heap.size = wr.heap.size + 1 := by rw [hU]; simp
          rw [← hU] at hz hbu hcu2 hiu ⊢
          have hall : ∀ w', Below U.heap.size U w' → BlkAt w' wr.heap.size x ∧ w'.cell? ⟨g0, o0 + u * 8, none⟩ = some (.string y.ro.key) := fun w' hb => ⟨BlkAt.of ((hb.block wr.heap.size (by omega)).trans hz), (hcu2.below hb (show g0 < U.heap.size by omega)).1⟩
          have hin2 : ∀ w', Below U.heap.size U w' → RaIn w' B x := fun w' hb => hiu.below (hb.mono (by have := HB.out.size; omega))
          have HALL := Lib.hid hall; have HBU := Lib.hid hbu; have HU := Lib.hid hu; have HIN := Lib.hid hin2
          have HUB := Lib.hid (show B ≤ U.heap.size by have := HB.out.size; omega)
          clear hall hz hU ha hbu hcu2 hu hiu hin2
          cases u1
          · refine wp_region_held_drew (S := fun w' => Below U.heap.size U w') (by kernel_rfl) ?_ (fun hHeld => ?_)
            · exact (Below.refl _ _).drew
            refine wpAnyH_take (i := 0) (v := ?_) rfl (by kernel_rfl) (by kernel_rfl) (by kernel_rfl) (fun _ _ _ h => h) (Or.inl ⟨by rfl, ?_⟩) (by assumption) ?_
            rotate_left
            · (intro wx hSw; (try dsimp only at hSw); obtain ⟨⟨_, _, _, _, _, _, _, _⟩, _⟩ := HALL.out _ hSw; go_simp; try with_reducible rfl)
            try simp only [Act.put, List.getElem_toArray, List.getElem_cons_succ, List.getElem_cons_zero, List.setIfInBounds_toArray, List.set_cons_zero, List.set_cons_succ]
            refine wpAnyH_ready (rs := [1]) (by kernel_rfl) (by simp) (AllReadyH.cons rfl (fun K hK => ?_) AllReadyH.nil)
            go_simp
            refine (check_ra x B _ ?hin1 ?hsz1 FM.out).mono ?_
            case hin1 => exact HIN.out _ (by first | exact (Below.refl _ _).drew | exact below_draws _ _ _ | exact Below.refl _ _)
            case hsz1 => exact HUB.out
            rintro y v1 ⟨rfl, b1⟩
            rw [U1.out]
            try go_wp2_with fail
            refine hK.out _ _ ?_ (fun hHeld => ?_)
            · exact next (by assumption) b1
            clear hK K
            try simp only [Act.put, List.getElem_toArray, List.getElem_cons_succ, List.getElem_cons_zero, List.setIfInBounds_toArray, List.set_cons_zero, List.set_cons_succ]
            refine wpAnyH_take (i := 2) (v := ?_) rfl (by kernel_rfl) (by kernel_rfl) (by kernel_rfl) (fun _ _ _ h => h) (Or.inl ⟨by rfl, ?_⟩) (by assumption) ?_
            rotate_left
            · (intro wx hSw; (try dsimp only at hSw); go_simp; try with_reducible rfl)
            try simp only [Act.put, List.getElem_toArray, List.getElem_cons_succ, List.getElem_cons_zero, List.setIfInBounds_toArray, List.set_cons_zero, List.set_cons_succ]
            refine wpAnyH_take (i := 3) (v := ?_) rfl (by kernel_rfl) (by kernel_rfl) (by kernel_rfl) (fun _ _ _ h => h) (Or.inl ⟨by rfl, ?_⟩) (by assumption) ?_
            rotate_left
            · (intro wx hSw; (try dsimp only at hSw); go_simp; try with_reducible rfl)
            try simp only [Act.put, List.getElem_toArray, List.getElem_cons_succ, List.getElem_cons_zero, List.setIfInBounds_toArray, List.set_cons_zero, List.set_cons_succ]
            refine wpAnyH_take (i := 4) (v := undef) rfl (by kernel_rfl) (by kernel_rfl) (by kernel_rfl) (fun _ _ _ h => h) (Or.inr ⟨by rfl, rfl⟩) (by assumption) ?_
            try simp only [Act.put, List.getElem_toArray, List.getElem_cons_succ, List.getElem_cons_zero, List.setIfInBounds_toArray, List.set_cons_zero, List.set_cons_succ]
            refine wpAnyH_take (i := 5) (v := undef) rfl (by kernel_rfl) (by kernel_rfl) (by kernel_rfl) (fun _ _ _ h => h) (Or.inr ⟨by rfl, rfl⟩) (by assumption) ?_
            try simp only [Act.put, List.getElem_toArray, List.getElem_cons_succ, List.getElem_cons_zero, List.setIfInBounds_toArray, List.set_cons_zero, List.set_cons_succ]
            refine wpAnyH_take (i := 6) (v := undef) rfl (by kernel_rfl) (by kernel_rfl) (by kernel_rfl) (fun _ _ _ h => h) (Or.inr ⟨by rfl, rfl⟩) (by assumption) ?_
            try simp only [Act.put, List.getElem_toArray, List.getElem_cons_succ, List.getElem_cons_zero, List.setIfInBounds_toArray, List.set_cons_zero, List.set_cons_succ]
            refine wpAnyH_take (i := 7) (v := undef) rfl (by kernel_rfl) (by kernel_rfl) (by kernel_rfl) (fun _ _ _ h => h) (Or.inr ⟨by rfl, rfl⟩) (by assumption) ?_
            try simp only [Act.put, List.getElem_toArray, List.getElem_cons_succ, List.getElem_cons_zero, List.setIfInBounds_toArray, List.set_cons_zero, List.set_cons_succ]
            refine wpAnyH_take (i := 8) (v := undef) rfl (by kernel_rfl) (by kernel_rfl) (by kernel_rfl) (fun _ _ _ h => h) (Or.inr ⟨by rfl, rfl⟩) (by assumption) ?_
            try simp only [Act.put, List.getElem_toArray, List.getElem_cons_succ, List.getElem_cons_zero, List.setIfInBounds_toArray, List.set_cons_zero, List.set_cons_succ]
            refine wpAnyH_take (i := 9) (v := undef) rfl (by kernel_rfl) (by kernel_rfl) (by kernel_rfl) (fun _ _ _ h => h) (Or.inr ⟨by rfl, rfl⟩) (by assumption) ?_
            try simp only [Act.put, List.getElem_toArray, List.getElem_cons_succ, List.getElem_cons_zero, List.setIfInBounds_toArray, List.set_cons_zero, List.set_cons_succ]
            refine wpAnyH_take (i := 10) (v := undef) rfl (by kernel_rfl) (by kernel_rfl) (by kernel_rfl) (fun _ _ _ h => h) (Or.inr ⟨by rfl, rfl⟩) (by assumption) ?_
            try simp only [Act.put, List.getElem_toArray, List.getElem_cons_succ, List.getElem_cons_zero, List.setIfInBounds_toArray, List.set_cons_zero, List.set_cons_succ]
            refine wpAnyH_take (i := 11) (v := undef) rfl (by kernel_rfl) (by kernel_rfl) (by kernel_rfl) (fun _ _ _ h => h) (Or.inr ⟨by rfl, rfl⟩) (by assumption) ?_
            try simp only [Act.put, List.getElem_toArray, List.getElem_cons_succ, List.getElem_cons_zero, List.setIfInBounds_toArray, List.set_cons_zero, List.set_cons_succ]
            refine wpAnyH_take (i := 12) (v := undef) rfl (by kernel_rfl) (by kernel_rfl) (by kernel_rfl) (fun _ _ _ h => h) (Or.inr ⟨by rfl, rfl⟩) (by assumption) ?_
            try simp only [Act.put, List.getElem_toArray, List.getElem_cons_succ, List.getElem_cons_zero, List.setIfInBounds_toArray, List.set_cons_zero, List.set_cons_succ]
            refine wpAnyH_take (i := 13) (v := undef) rfl (by kernel_rfl) (by kernel_rfl) (by kernel_rfl) (fun _ _ _ h => h) (Or.inr ⟨by rfl, rfl⟩) (by assumption) ?_
            try simp only [Act.put, List.getElem_toArray, List.getElem_cons_succ, List.getElem_cons_zero, List.setIfInBounds_toArray, List.set_cons_zero, List.set_cons_succ]
            refine wpAnyH_take (i := 14) (v := undef) rfl (by kernel_rfl) (by kernel_rfl) (by kernel_rfl) (fun _ _ _ h => h) (Or.inr ⟨by rfl, rfl⟩) (by assumption) ?_
            try simp only [Act.put, List.getElem_toArray, List.getElem_cons_succ, List.getElem_cons_zero, List.setIfInBounds_toArray, List.set_cons_zero, List.set_cons_succ]
            refine wpAnyH_take (i := 15) (v := undef) rfl (by kernel_rfl) (by kernel_rfl) (by kernel_rfl) (fun _ _ _ h => h) (Or.inr ⟨by rfl, rfl⟩) (by assumption) ?_
            try simp only [Act.put, List.getElem_toArray, List.getElem_cons_succ, List.getElem_cons_zero, List.setIfInBounds_toArray, List.set_cons_zero, List.set_cons_succ]
            refine wpAnyH_take (i := 16) (v := undef) rfl (by kernel_rfl) (by kernel_rfl) (by kernel_rfl) (fun _ _ _ h => h) (Or.inr ⟨by rfl, rfl⟩) (by assumption) ?_
            try simp only [Act.put, List.getElem_toArray, List.getElem_cons_succ, List.getElem_cons_zero, List.setIfInBounds_toArray, List.set_cons_zero, List.set_cons_succ]
            refine wpAnyH_take (i := 17) (v := ?_) rfl (by kernel_rfl) (by kernel_rfl) (by kernel_rfl) (fun _ _ _ h => h) (Or.inl ⟨by rfl, ?_⟩) (by assumption) ?_
            rotate_left
            · (intro wx hSw; (try dsimp only at hSw); go_simp; try with_reducible rfl)
            try simp only [Act.put, List.getElem_toArray, List.getElem_cons_succ, List.getElem_cons_zero, List.setIfInBounds_toArray, List.set_cons_zero, List.set_cons_succ]
            refine wpAnyH_done (by kernel_rfl) ?_ _
            have hv : r = false := by rw [← HR.out]; exact goodsR_no htr (by rw [HGA.out]; rfl)
            subst hv
            go_wp2
            go_ret
            exact ⟨rfl, next HBU.out hHeld⟩
          · by_cases hp : nlt y.ro.key x.ro.key
            · have hb1 : Op.bytesLess y.ro.key.toList x.ro.key.toList = true := blB_true hp
              have hga2 := HGA.out
              rw [decide_eq_true hp] at hga2
              have HG2 := Lib.hid hga2
              clear hga2
              refine wp_region_held_drew (S := fun w' => Below U.heap.size U w') (by kernel_rfl) ?_ (fun hHeld => ?_)
              · exact (Below.refl _ _).drew
              refine wpAnyH_take (i := 0) (v := ?_) rfl (by kernel_rfl) (by kernel_rfl) (by kernel_rfl) (fun _ _ _ h => h) (Or.inl ⟨by rfl, ?_⟩) (by assumption) ?_
              rotate_left
              · (intro wx hSw; (try dsimp only at hSw); obtain ⟨⟨_, _, _, _, _, _, _, _⟩, _⟩ := HALL.out _ hSw; go_simp; try with_reducible rfl)
              try simp only [Act.put, List.getElem_toArray, List.getElem_cons_succ, List.getElem_cons_zero, List.setIfInBounds_toArray, List.set_cons_zero, List.set_cons_succ]
              refine wpAnyH_ready (rs := [1]) (by kernel_rfl) (by simp) (AllReadyH.cons rfl (fun K hK => ?_) AllReadyH.nil)
              go_simp
              refine (check_ra x B _ ?hin1 ?hsz1 FM.out).mono ?_
              case hin1 => exact HIN.out _ (by first | exact (Below.refl _ _).drew | exact below_draws _ _ _ | exact Below.refl _ _)
              case hsz1 => exact HUB.out
              rintro y v1 ⟨rfl, b1⟩
              rw [U1.out]
              try go_wp2_with fail
              refine hK.out _ _ ?_ (fun hHeld => ?_)
              · exact next (by assumption) b1
              clear hK K
              try simp only [Act.put, List.getElem_toArray, List.getElem_cons_succ, List.getElem_cons_zero, List.setIfInBounds_toArray, List.set_cons_zero, List.set_cons_succ]
              refine wpAnyH_take (i := 2) (v := ?_) rfl (by kernel_rfl) (by kernel_rfl) (by kernel_rfl) (fun _ _ _ h => h) (Or.inl ⟨by rfl, ?_⟩) (by assumption) ?_
              rotate_left
              · (intro wx hSw; (try dsimp only at hSw); go_simp; try with_reducible rfl)
              try simp only [Act.put, List.getElem_toArray, List.getElem_cons_succ, List.getElem_cons_zero, List.setIfInBounds_toArray, List.set_cons_zero, List.set_cons_succ]
              refine wpAnyH_take (i := 3) (v := ?_) rfl (by kernel_rfl) (by kernel_rfl) (by kernel_rfl) (fun _ _ _ h => h) (Or.inl ⟨by rfl, ?_⟩) (by assumption) ?_
              rotate_left
              · (intro wx hSw; (try dsimp only at hSw); go_simp; try with_reducible rfl)
              try simp only [Act.put, List.getElem_toArray, List.getElem_cons_succ, List.getElem_cons_zero, List.setIfInBounds_toArray, List.set_cons_zero, List.set_cons_succ]
              refine wpAnyH_take (i := 4) (v := ?_) rfl (by kernel_rfl) (by kernel_rfl) (by kernel_rfl) (fun _ _ _ h => h) (Or.inl ⟨by rfl, ?_⟩) (by assumption) ?_
              rotate_left
              · (intro wx hSw; (try dsimp only at hSw); go_simp; try with_reducible rfl)
              try simp only [Act.put, List.getElem_toArray, List.getElem_cons_succ, List.getElem_cons_zero, List.setIfInBounds_toArray, List.set_cons_zero, List.set_cons_succ]
              refine wpAnyH_take (i := 5) (v := ?_) rfl (by kernel_rfl) (by kernel_rfl) (by kernel_rfl) (fun _ _ _ h => h) (Or.inl ⟨by rfl, ?_⟩) (by assumption) ?_
              rotate_left
              · (intro wx hSw; (try dsimp only at hSw); go_simp; try with_reducible rfl)
              try simp only [Act.put, List.getElem_toArray, List.getElem_cons_succ, List.getElem_cons_zero, List.setIfInBounds_toArray, List.set_cons_zero, List.set_cons_succ]
              refine wpAnyH_take (i := 6) (v := ?_) rfl (by kernel_rfl) (by kernel_rfl) (by kernel_rfl) (fun _ _ _ h => h) (Or.inl ⟨by rfl, ?_⟩) (by assumption) ?_
              rotate_left
              · (intro wx hSw; (try dsimp only at hSw); go_simp; try with_reducible rfl)
              try simp only [Act.put, List.getElem_toArray, List.getElem_cons_succ, List.getElem_cons_zero, List.setIfInBounds_toArray, List.set_cons_zero, List.set_cons_succ]
              refine wpAnyH_take (i := 7) (v := ?_) rfl (by kernel_rfl) (by kernel_rfl) (by kernel_rfl) (fun _ _ _ h => h) (Or.inl ⟨by rfl, ?_⟩) (by assumption) ?_
              rotate_left
              · (intro wx hSw; (try dsimp only at hSw); go_simp; try with_reducible rfl)
              try simp only [Act.put, List.getElem_toArray, List.getElem_cons_succ, List.getElem_cons_zero, List.setIfInBounds_toArray, List.set_cons_zero, List.set_cons_succ]
              refine wpAnyH_take (i := 8) (v := ?_) rfl (by kernel_rfl) (by kernel_rfl) (by kernel_rfl) (fun _ _ _ h => h) (Or.inl ⟨by rfl, ?_⟩) (by assumption) ?_
              rotate_left
              · (intro wx hSw; (try dsimp only at hSw); go_simp; try with_reducible rfl)
              try simp only [Act.put, List.getElem_toArray, List.getElem_cons_succ, List.getElem_cons_zero, List.setIfInBounds_toArray, List.set_cons_zero, List.set_cons_succ]
              refine wpAnyH_take (i := 9) (v := ?_) rfl (by kernel_rfl) (by kernel_rfl) (by kernel_rfl) (fun _ _ _ h => h) (Or.inl ⟨by rfl, ?_⟩) (by assumption) ?_
              rotate_left
              · (intro wx hSw; (try dsimp only at hSw); go_simp; try with_reducible rfl)
              try simp only [Act.put, List.getElem_toArray, List.getElem_cons_succ, List.getElem_cons_zero, List.setIfInBounds_toArray, List.set_cons_zero, List.set_cons_succ]
              refine wpAnyH_take (i := 10) (v := ?_) rfl (by kernel_rfl) (by kernel_rfl) (by kernel_rfl) (fun _ _ _ h => h) (Or.inl ⟨by rfl, ?_⟩) (by assumption) ?_
              rotate_left
              · (intro wx hSw; (try dsimp only at hSw); go_simp; try with_reducible rfl)
              try simp only [Act.put, List.getElem_toArray, List.getElem_cons_succ, List.getElem_cons_zero, List.setIfInBounds_toArray, List.set_cons_zero, List.set_cons_succ]
              refine wpAnyH_take (i := 11) (v := ?_) rfl (by kernel_rfl) (by kernel_rfl) (by kernel_rfl) (fun _ _ _ h => h) (Or.inl ⟨by rfl, ?_⟩) (by assumption) ?_
              rotate_left
              · (intro wx hSw; (try dsimp only at hSw); go_simp; try with_reducible rfl)
              try simp only [Act.put, List.getElem_toArray, List.getElem_cons_succ, List.getElem_cons_zero, List.setIfInBounds_toArray, List.set_cons_zero, List.set_cons_succ]
              refine wpAnyH_take (i := 12) (v := ?_) rfl (by kernel_rfl) (by kernel_rfl) (by kernel_rfl) (fun _ _ _ h => h) (Or.inl ⟨by rfl, ?_⟩) (by assumption) ?_
              rotate_left
              · (intro wx hSw; (try dsimp only at hSw); obtain ⟨⟨_, _, _, _, _, _, _, _⟩, _⟩ := HALL.out _ hSw; go_simp; try with_reducible rfl)
              try simp only [Act.put, List.getElem_toArray, List.getElem_cons_succ, List.getElem_cons_zero, List.setIfInBounds_toArray, List.set_cons_zero, List.set_cons_succ]
              refine wpAnyH_take (i := 13) (v := ?_) rfl (by kernel_rfl) (by kernel_rfl) (by kernel_rfl) (fun _ _ _ h => h) (Or.inl ⟨by rfl, ?_⟩) (by assumption) ?_
              rotate_left
              · (intro wx hSw; (try dsimp only at hSw); go_simp; try with_reducible rfl)
              try simp only [Act.put, List.getElem_toArray, List.getElem_cons_succ, List.getElem_cons_zero, List.setIfInBounds_toArray, List.set_cons_zero, List.set_cons_succ]
              refine wpAnyH_take (i := 14) (v := ?_) rfl (by kernel_rfl) (by kernel_rfl) (by kernel_rfl) (fun _ _ _ h => h) (Or.inl ⟨by rfl, ?_⟩) (by assumption) ?_
              rotate_left
              · (intro wx hSw; (try dsimp only at hSw); obtain ⟨⟨_, _, _, _, _, _, _, _⟩, _⟩ := HALL.out _ hSw; go_simp; try with_reducible rfl)
              try simp only [Act.put, List.getElem_toArray, List.getElem_cons_succ, List.getElem_cons_zero, List.setIfInBounds_toArray, List.set_cons_zero, List.set_cons_succ]
              refine wpAnyH_take (i := 15) (v := ?_) rfl (by kernel_rfl) (by kernel_rfl) (by kernel_rfl) (fun _ _ _ h => h) (Or.inl ⟨by rfl, ?_⟩) (by assumption) ?_
              rotate_left
              · (intro wx hSw; (try dsimp only at hSw); go_simp; try with_reducible rfl)
              try simp only [Act.put, List.getElem_toArray, List.getElem_cons_succ, List.getElem_cons_zero, List.setIfInBounds_toArray, List.set_cons_zero, List.set_cons_succ]
              refine wpAnyH_take (i := 16) (v := ?_) rfl (by kernel_rfl) (by kernel_rfl) (by kernel_rfl) (fun _ _ _ h => h) (Or.inl ⟨by rfl, ?_⟩) (by assumption) ?_
              rotate_left
              · (intro wx hSw; (try dsimp only at hSw); go_simp; try with_reducible rfl)
              try simp only [Act.put, List.getElem_toArray, List.getElem_cons_succ, List.getElem_cons_zero, List.setIfInBounds_toArray, List.set_cons_zero, List.set_cons_succ]
              refine wpAnyH_take (i := 17) (v := ?_) rfl (by kernel_rfl) (by kernel_rfl) (by kernel_rfl) (fun _ _ _ h => h) (Or.inl ⟨by rfl, ?_⟩) (by assumption) ?_
              rotate_left
              · (intro wx hSw; (try dsimp only at hSw); go_simp; try with_reducible rfl)
              try simp only [Act.put, List.getElem_toArray, List.getElem_cons_succ, List.getElem_cons_zero, List.setIfInBounds_toArray, List.set_cons_zero, List.set_cons_succ]
              refine wpAnyH_done (by kernel_rfl) ?_ _
              go_wp2
              go_roundw
              case rel => exact ⟨t + 1, by omega, by go_num, goodsR_step HG.out HG2.out, next HBU.out hHeld⟩
              case measure => simp [intOf]; omega
            · have hb1 : Op.bytesLess y.ro.key.toList x.ro.key.toList = false := blB_false hp
              have hv : r = false := by rw [← HR.out]; exact goodsR_no htr (by rw [HGA.out, decide_eq_false hp]; rfl)
              subst hv
              refine wp_region_held_drew (S := fun w' => Below U.heap.size U w') (by kernel_rfl) ?_ (fun hHeld => ?_)
              · exact (Below.refl _ _).drew
              refine wpAnyH_take (i := 0) (v := ?_) rfl (by kernel_rfl) (by kernel_rfl) (by kernel_rfl) (fun _ _ _ h => h) (Or.inl ⟨by rfl, ?_⟩) (by assumption) ?_
              rotate_left
              · (intro wx hSw; (try dsimp only at hSw); obtain ⟨⟨_, _, _, _, _, _, _, _⟩, _⟩ := HALL.out _ hSw; go_simp; try with_reducible rfl)
              try simp only [Act.put, List.getElem_toArray, List.getElem_cons_succ, List.getElem_cons_zero, List.setIfInBounds_toArray, List.set_cons_zero, List.set_cons_succ]
              refine wpAnyH_ready (rs := [1]) (by kernel_rfl) (by simp) (AllReadyH.cons rfl (fun K hK => ?_) AllReadyH.nil)
              go_simp
              refine (check_ra x B _ ?hin1 ?hsz1 FM.out).mono ?_
              case hin1 => exact HIN.out _ (by first | exact (Below.refl _ _).drew | exact below_draws _ _ _ | exact Below.refl _ _)
              case hsz1 => exact HUB.out
              rintro y v1 ⟨rfl, b1⟩
              rw [U1.out]
              try go_wp2_with fail
              refine hK.out _ _ ?_ (fun hHeld => ?_)
              · exact next (by assumption) b1
              clear hK K
              try simp only [Act.put, List.getElem_toArray, List.getElem_cons_succ, List.getElem_cons_zero, List.setIfInBounds_toArray, List.set_cons_zero, List.set_cons_succ]
              refine wpAnyH_take (i := 2) (v := ?_) rfl (by kernel_rfl) (by kernel_rfl) (by kernel_rfl) (fun _ _ _ h => h) (Or.inl ⟨by rfl, ?_⟩) (by assumption) ?_
              rotate_left
              · (intro wx hSw; (try dsimp only at hSw); go_simp; try with_reducible rfl)
              try simp only [Act.put, List.getElem_toArray, List.getElem_cons_succ, List.getElem_cons_zero, List.setIfInBounds_toArray, List.set_cons_zero, List.set_cons_succ]
              refine wpAnyH_take (i := 3) (v := ?_) rfl (by kernel_rfl) (by kernel_rfl) (by kernel_rfl) (fun _ _ _ h => h) (Or.inl ⟨by rfl, ?_⟩) (by assumption) ?_
              rotate_left
              · (intro wx hSw; (try dsimp only at hSw); go_simp; try with_reducible rfl)
              try simp only [Act.put, List.getElem_toArray, List.getElem_cons_succ, List.getElem_cons_zero, List.setIfInBounds_toArray, List.set_cons_zero, List.set_cons_succ]
              refine wpAnyH_take (i := 4) (v := ?_) rfl (by kernel_rfl) (by kernel_rfl) (by kernel_rfl) (fun _ _ _ h => h) (Or.inl ⟨by rfl, ?_⟩) (by assumption) ?_
              rotate_left
              · (intro wx hSw; (try dsimp only at hSw); go_simp; try with_reducible rfl)
              try simp only [Act.put, List.getElem_toArray, List.getElem_cons_succ, List.getElem_cons_zero, List.setIfInBounds_toArray, List.set_cons_zero, List.set_cons_succ]
              refine wpAnyH_take (i := 5) (v := ?_) rfl (by kernel_rfl) (by kernel_rfl) (by kernel_rfl) (fun _ _ _ h => h) (Or.inl ⟨by rfl, ?_⟩) (by assumption) ?_
              rotate_left
              · (intro wx hSw; (try dsimp only at hSw); go_simp; try with_reducible rfl)
              try simp only [Act.put, List.getElem_toArray, List.getElem_cons_succ, List.getElem_cons_zero, List.setIfInBounds_toArray, List.set_cons_zero, List.set_cons_succ]
              refine wpAnyH_take (i := 6) (v := ?_) rfl (by kernel_rfl) (by kernel_rfl) (by kernel_rfl) (fun _ _ _ h => h) (Or.inl ⟨by rfl, ?_⟩) (by assumption) ?_
              rotate_left
              · (intro wx hSw; (try dsimp only at hSw); go_simp; try with_reducible rfl)
              try simp only [Act.put, List.getElem_toArray, List.getElem_cons_succ, List.getElem_cons_zero, List.setIfInBounds_toArray, List.set_cons_zero, List.set_cons_succ]
              refine wpAnyH_take (i := 7) (v := ?_) rfl (by kernel_rfl) (by kernel_rfl) (by kernel_rfl) (fun _ _ _ h => h) (Or.inl ⟨by rfl, ?_⟩) (by assumption) ?_
              rotate_left
              · (intro wx hSw; (try dsimp only at hSw); go_simp; try with_reducible rfl)
              try simp only [Act.put, List.getElem_toArray, List.getElem_cons_succ, List.getElem_cons_zero, List.setIfInBounds_toArray, List.set_cons_zero, List.set_cons_succ]
              refine wpAnyH_take (i := 8) (v := ?_) rfl (by kernel_rfl) (by kernel_rfl) (by kernel_rfl) (fun _ _ _ h => h) (Or.inl ⟨by rfl, ?_⟩) (by assumption) ?_
              rotate_left
              · (intro wx hSw; (try dsimp only at hSw); go_simp; try with_reducible rfl)
              try simp only [Act.put, List.getElem_toArray, List.getElem_cons_succ, List.getElem_cons_zero, List.setIfInBounds_toArray, List.set_cons_zero, List.set_cons_succ]
              refine wpAnyH_take (i := 9) (v := ?_) rfl (by kernel_rfl) (by kernel_rfl) (by kernel_rfl) (fun _ _ _ h => h) (Or.inl ⟨by rfl, ?_⟩) (by assumption) ?_
              rotate_left
              · (intro wx hSw; (try dsimp only at hSw); go_simp; try with_reducible rfl)
              try simp only [Act.put, List.getElem_toArray, List.getElem_cons_succ, List.getElem_cons_zero, List.setIfInBounds_toArray, List.set_cons_zero, List.set_cons_succ]
              refine wpAnyH_take (i := 10) (v := ?_) rfl (by kernel_rfl) (by kernel_rfl) (by kernel_rfl) (fun _ _ _ h => h) (Or.inl ⟨by rfl, ?_⟩) (by assumption) ?_
              rotate_left
              · (intro wx hSw; (try dsimp only at hSw); go_simp; try with_reducible rfl)
              try simp only [Act.put, List.getElem_toArray, List.getElem_cons_succ, List.getElem_cons_zero, List.setIfInBounds_toArray, List.set_cons_zero, List.set_cons_succ]
              refine wpAnyH_take (i := 11) (v := ?_) rfl (by kernel_rfl) (by kernel_rfl) (by kernel_rfl) (fun _ _ _ h => h) (Or.inl ⟨by rfl, ?_⟩) (by assumption) ?_
              rotate_left
              · (intro wx hSw; (try dsimp only at hSw); go_simp; try with_reducible rfl)
              try simp only [Act.put, List.getElem_toArray, List.getElem_cons_succ, List.getElem_cons_zero, List.setIfInBounds_toArray, List.set_cons_zero, List.set_cons_succ]
              refine wpAnyH_take (i := 12) (v := ?_) rfl (by kernel_rfl) (by kernel_rfl) (by kernel_rfl) (fun _ _ _ h => h) (Or.inl ⟨by rfl, ?_⟩) (by assumption) ?_
              rotate_left
              · (intro wx hSw; (try dsimp only at hSw); obtain ⟨⟨_, _, _, _, _, _, _, _⟩, _⟩ := HALL.out _ hSw; go_simp; try with_reducible rfl)
              try simp only [Act.put, List.getElem_toArray, List.getElem_cons_succ, List.getElem_cons_zero, List.setIfInBounds_toArray, List.set_cons_zero, List.set_cons_succ]
              refine wpAnyH_take (i := 13) (v := ?_) rfl (by kernel_rfl) (by kernel_rfl) (by kernel_rfl) (fun _ _ _ h => h) (Or.inl ⟨by rfl, ?_⟩) (by assumption) ?_
              rotate_left
              · (intro wx hSw; (try dsimp only at hSw); go_simp; try with_reducible rfl)
              try simp only [Act.put, List.getElem_toArray, List.getElem_cons_succ, List.getElem_cons_zero, List.setIfInBounds_toArray, List.set_cons_zero, List.set_cons_succ]
              refine wpAnyH_take (i := 14) (v := ?_) rfl (by kernel_rfl) (by kernel_rfl) (by kernel_rfl) (fun _ _ _ h => h) (Or.inl ⟨by rfl, ?_⟩) (by assumption) ?_
              rotate_left
              · (intro wx hSw; (try dsimp only at hSw); obtain ⟨⟨_, _, _, _, _, _, _, _⟩, _⟩ := HALL.out _ hSw; go_simp; try with_reducible rfl)
              try simp only [Act.put, List.getElem_toArray, List.getElem_cons_succ, List.getElem_cons_zero, List.setIfInBounds_toArray, List.set_cons_zero, List.set_cons_succ]
              refine wpAnyH_take (i := 15) (v := ?_) rfl (by kernel_rfl) (by kernel_rfl) (by kernel_rfl) (fun _ _ _ h => h) (Or.inl ⟨by rfl, ?_⟩) (by assumption) ?_
              rotate_left
              · (intro wx hSw; (try dsimp only at hSw); go_simp; try with_reducible rfl)
              try simp only [Act.put, List.getElem_toArray, List.getElem_cons_succ, List.getElem_cons_zero, List.setIfInBounds_toArray, List.set_cons_zero, List.set_cons_succ]
              refine wpAnyH_take (i := 16) (v := ?_) rfl (by kernel_rfl) (by kernel_rfl) (by kernel_rfl) (fun _ _ _ h => h) (Or.inl ⟨by rfl, ?_⟩) (by assumption) ?_
              rotate_left
              · (intro wx hSw; (try dsimp only at hSw); go_simp; try with_reducible rfl)
              try simp only [Act.put, List.getElem_toArray, List.getElem_cons_succ, List.getElem_cons_zero, List.setIfInBounds_toArray, List.set_cons_zero, List.set_cons_succ]
              refine wpAnyH_take (i := 17) (v := ?_) rfl (by kernel_rfl) (by kernel_rfl) (by kernel_rfl) (fun _ _ _ h => h) (Or.inl ⟨by rfl, ?_⟩) (by assumption) ?_
              rotate_left
              · (intro wx hSw; (try dsimp only at hSw); go_simp; try with_reducible rfl)
              try simp only [Act.put, List.getElem_toArray, List.getElem_cons_succ, List.getElem_cons_zero, List.setIfInBounds_toArray, List.set_cons_zero, List.set_cons_succ]
              refine wpAnyH_done (by kernel_rfl) ?_ _
              go_wp2
              go_ret
              exact ⟨rfl, next HBU.out hHeld⟩
      · obtain rfl : t = n := by omega
        have hv : r = true := by rw [← HR.out]; unfold rowsB; rw [List.length_map, HL.out]; exact HG.out
        subst hv
        go_wp2
        go_ret
        exact ⟨rfl, HB.out⟩
  · have d0 : decide ((100 : Int) < (n : Nat)) = true := by simp; omega
    have hv : r = false := by rw [← hr, decide_eq_false h8]; rfl
    subst hv
    go_enter Try.func30, Try.ntmps30
    go_wp2
    go_ret
    exact ⟨rfl, Below.refl _ _⟩
end Go.Proofs.Ytafbbojfifcncaa
set_option linter.unusedVariables false
set_option linter.unusedSimpArgs false
namespace Go.Proofs.Ytafbbojfifcncaa
open Go Go.RowKit

set_option maxRecDepth 8000 in
set_option maxHeartbeats 4000000 in
theorem pcheck_any (k : ByteArray) (g : Int) (A : Option Addr) (n c B : Nat) (L : List RA) (w : World) (h : Lies w B A n c L) (hB : B ≤ w.heap.size) (hn : n ≤ 1000000000) (hf : FewR L) :
    Calls Try.prog 10 #[.agg #[.string k, .int .i64 g, .slice A n c]] w fun x w' => x = .returned (.bool (Pa.ok ⟨k, g, ros L⟩)) ∧ Below w.heap.size w w' := by
  obtain ⟨r, hrr⟩ : ∃ r, Pa.ok ⟨k, g, ros L⟩ = r := ⟨_, rfl⟩
  rw [hrr]
  unfold Pa.ok at hrr
  simp only at hrr
  rw [List.length_map, h.len] at hrr
  obtain ⟨u1, hu1⟩ : ∃ u, decide (k.size ≤ 100) = u := ⟨_, rfl⟩
  have hu1i : decide (((k.size : Nat) : Int) ≤ 100) = u1 := by rw [← hu1]; simp; omega
  obtain ⟨u2, hu2⟩ : ∃ u, stm g = u := ⟨_, rfl⟩
  obtain ⟨u3, hu3⟩ : ∃ u, (decide (n ≤ 100) && rowsB (ros L)) = u := ⟨_, rfl⟩
  rw [hu1, hu2, hu3] at hrr
  have RR := Lib.hid hrr; have U2 := Lib.hid hu2; have U3 := Lib.hid hu3
  have bz := (Below.refl w.heap.size w).alloc (Nat.le_refl _) (.cells #[.string k, .int .i64 g, .slice A n c] 24)
  have hz := heap_alloc_new w (.cells #[.string k, .int .i64 g, .slice A n c] 24)
  have HL := Lib.hid (h.below (bz.mono hB)); have HF := Lib.hid hf; have BZ := Lib.hid bz
  obtain ⟨_, _, _⟩ := PtAt.of hz
  clear hrr hu2 hu3 bz hz h hf
  go_enter Try.func10, Try.ntmps10
  cases u1
  · have hv : r = false := by rw [← RR.out]; rfl
    subst hv
    go_wp2
    go_ret
    exact ⟨rfl, BZ.out⟩
  · go_wp2_with fail
    refine (pstamp_any g _).mono ?_
    rintro e w1 ⟨rfl, rfl⟩
    rw [U2.out]
    cases u2
    · have hv : r = false := by rw [← RR.out]; rfl
      subst hv
      go_wp2
      go_ret
      exact ⟨rfl, BZ.out⟩
    · go_wp2_with fail
      refine (rows_any A n c B L _ HL.out (by simp; omega) hn HF.out).mono ?_
      rintro e w2 ⟨rfl, b2⟩
      rw [U3.out]
      have hv : u3 = r := by rw [← RR.out]; rfl
      subst hv
      go_wp2
      go_ret
      exact ⟨rfl, next BZ.out b2⟩
end Go.Proofs.Ytafbbojfifcncaa
set_option linter.unusedVariables false
set_option linter.unusedSimpArgs false
namespace Go.Proofs.Ytafbbojfifcncaa
open Go Go.RowKit

theorem tot_le {M : List RA} {b : Nat} (h : ∀ x ∈ M, x.ro.cols.length ≤ b) : tot M ≤ M.length * b := by
  induction M with
  | nil => exact Nat.zero_le _
  | cons y M ih =>
    have h1 := h y (List.mem_cons_self ..)
    have h2 := ih fun x hx => h x (List.mem_cons_of_mem _ hx)
    rw [tot_cons, List.length_cons, Nat.succ_mul]
    omega
section
variable {k : ByteArray} {g : Int} {M : List RA}
theorem PartIn.rowin (h : PartIn ⟨k, g, ros M⟩) : ∀ x ∈ M, RowIn x.ro := fun x hx => (h.rows x.ro (List.mem_map.2 ⟨x, hx, rfl⟩)).1
theorem PartIn.mlen (h : PartIn ⟨k, g, ros M⟩) : M.length ≤ 4 := by
  have h1 := h.len
  rwa [List.length_map] at h1
theorem PartIn.tot (h : PartIn ⟨k, g, ros M⟩) : tot M ≤ 16 := by
  have h1 := tot_le (M := M) (b := 4) fun x hx => (h.rowin x hx).cols.len
  have h2 := h.mlen
  omega
theorem PartIn.colsle (h : PartIn ⟨k, g, ros M⟩) : ∀ x ∈ M, x.ro.cols.length ≤ 1000 := fun x hx => Nat.le_trans (h.rowin x hx).cols.len (by omega)
theorem RowIn.live {r : Ro} (h : RowIn r) : r.live.s.size = 0 := by
  have h1 := h.ok
  unfold Ro.ok liveB at h1
  simp only [Bool.and_eq_true] at h1
  have h2 := h1.2.1.2.1
  rw [Lib.toList_data, List.isEmpty_iff] at h2
  rw [ByteArray.size, ← Array.length_toList, h2]
  rfl
theorem PartIn.few (h : PartIn ⟨k, g, ros M⟩) : FewR M := fun x hx => ⟨fun y hy => by
  have h1 := (h.rowin x hx).cols.all y hy
  refine ⟨by omega, by unfold maxLen; omega⟩, by rw [(h.rowin x hx).live]; exact Nat.zero_le _, h.colsle x hx⟩
end
theorem pjoin_in (k k' : ByteArray) (g g' : Int) (A A' : Option Addr) (n n' c c' B B' : Nat) (M M' : List RA) (w : World) (h : Lies w B A n c M) (h' : Lies w B' A' n' c' M') (hB : B ≤ w.heap.size) (hB' : B' ≤ w.heap.size) (hp : PartIn ⟨k, g, ros M⟩) (hp' : PartIn ⟨k', g', ros M'⟩) :
    Calls Try.prog 15 #[.agg #[.string k, .int .i64 g, .slice A n c], .agg #[.string k', .int .i64 g', .slice A' n' c']] w fun e w' => ∃ M2 A2 n2 c2, e = .returned (.tuple #[.agg #[.string k, .int .i64 (max g g'), .slice A2 n2 c2], .bool true]) ∧ ros M2 = mrgR (ros M) (ros M') ∧ Fresh w w' (.slice A2 n2 c2) M2 := by
  have h1 := hp.mlen
  have h2 := hp'.mlen
  have h3 := hp.tot
  have h4 := hp'.tot
  have h5 := (hp.join hp').len
  rw [h.len] at h1
  rw [h'.len] at h2
  exact pjoin_fits k k' g g' A A' n n' c c' B B' M M' w h h' hB hB' (by omega) hp.up hp'.up (by omega) _ rfl (Nat.le_trans h5 (by omega))
/-- Rows that were there, or that are new. -/
def Held3 (W0 w : World) (A : Option Addr) (n c : Nat) (M : List RA) : Prop := Lies W0 W0.heap.size A n c M ∨ Fresh W0 w (.slice A n c) M
section
variable {W0 w w' : World} {A : Option Addr} {n c : Nat} {M : List RA}
theorem Held3.lies (h : Held3 W0 w A n c M) (hb : Below W0.heap.size W0 w) : Lies w w.heap.size A n c M := by
  rcases h with h | h
  · exact (h.below hb).up hb.size
  · exact h.lies.2.1
theorem Held3.on (h : Held3 W0 w A n c M) (hb : Below w.heap.size w w') : Held3 W0 w' A n c M := h.imp id fun h => h.on hb
theorem Held3.kept {F : Nat → Prop} (h : Held3 W0 w A n c M) (hk : Kept F w w') (hF : ∀ k, F k → W0.heap.size ≤ k ∧ ∃ cs, w.heap[k]? = some (.cells cs 24 (0, 0))) : Held3 W0 w' A n c M :=
  h.imp id fun h => h.kept hk hF (by decide) (by decide)
end
/-- A partition at block q. -/
structure AtP (W0 w : World) (q : Nat) (g : Int) (M : List RA) (A : Option Addr) (n c : Nat) : Prop where
  pt : w.heap[q]? = some (.cells #[.string ⟨#[107]⟩, .int .i64 g, .slice A n c] 24)
  held : Held3 W0 w A n c M
  up : W0.heap.size ≤ q
section
variable {W0 w w' : World} {q n c : Nat} {g : Int} {A : Option Addr} {M : List RA}
theorem AtP.lt (h : AtP W0 w q g M A n c) : q < w.heap.size := (Array.getElem?_eq_some_iff.1 h.pt).1
theorem AtP.on (h : AtP W0 w q g M A n c) (hb : Below w.heap.size w w') : AtP W0 w' q g M A n c := ⟨(hb.block q h.lt).trans h.pt, h.held.on hb, h.up⟩
theorem AtP.kept (h : AtP W0 w q g M A n c) {r : Nat} (hk : Kept (fun k => k = r) w w') (hr : W0.heap.size ≤ r ∧ ∃ cs, w.heap[r]? = some (.cells cs 24 (0, 0))) (hne : r ≠ q) : AtP W0 w' q g M A n c :=
  ⟨(hk.block q h.lt (fun e => hne e.symm)).trans h.pt, h.held.kept hk fun j hj => by subst hj; exact hr, h.up⟩
/-- Another one laid in its place. -/
theorem AtP.put (h : AtP W0 w q g M A n c) {g' : Int} {M' : List RA} {A' : Option Addr} {n' c' : Nat} (hf : Fresh W0 w (.slice A' n' c') M') :
    AtP W0 (((w.setCell ⟨q, 0, none⟩ (.string ⟨#[107]⟩)).setCell ⟨q, 1, none⟩ (.int .i64 g')).setCell ⟨q, 2, none⟩ (.slice A' n' c')) q g' M' A' n' c' :=
  ⟨set3_block h.pt _ _ _, Or.inr (hf.kept (e := 24) (kept_set3 q _ _ _) (fun j hj => by rw [hj]; exact ⟨h.up, _, h.pt⟩) (by decide) (by decide)), h.up⟩
theorem AtP.putB (h : AtP W0 w q g M A n c) (hb : Below W0.heap.size W0 w) (g' : Int) (v : Value) :
    Below W0.heap.size W0 (((w.setCell ⟨q, 0, none⟩ (.string ⟨#[107]⟩)).setCell ⟨q, 1, none⟩ (.int .i64 g')).setCell ⟨q, 2, none⟩ v) :=
  hb.trans ((kept_set3 (w := w) q (.string ⟨#[107]⟩) (.int .i64 g') v).below (fun j hj => by rw [hj]; exact h.up) hb.size)
end
/-- A partition of a list, as a partition. -/
def paOf (Ps : List PA) (i : Nat) : Pa :=
  match Ps[i]? with
  | some x => ⟨⟨#[107]⟩, x.g, ros x.L⟩
  | none => ⟨⟨#[107]⟩, 0, []⟩
theorem paOf_at {Ps : List PA} {i : Nat} (h : i < Ps.length) : paOf Ps i = ⟨⟨#[107]⟩, Ps[i].g, ros Ps[i].L⟩ := by
  unfold paOf
  rw [List.getElem?_eq_getElem h]
theorem in_sl (k : ByteArray) : SL Pa.join fun p => p.key = k ∧ PartIn p where
  good := fun hx hy => ⟨hx.1, hx.2.join hy.2⟩
  comm := fun hx hy => pa_comm (hx.1.trans hy.1.symm) hx.2.up hy.2.up
  assoc := fun hx hy hz => pa_assoc hx.2.up hy.2.up hz.2.up
  self := fun hx => pa_self hx.2.up
end Go.Proofs.Ytafbbojfifcncaa
set_option linter.unusedVariables false
set_option linter.unusedSimpArgs false
namespace Go.Proofs.Ytafbbojfifcncaa
open Go Go.RowKit Go.Joins

/-- A row's block, the columns as they are. -/
def RJ (w : World) (r : Nat) (k s : ByteArray) (d : Bool) (a e g h : Int) (A : Option Addr) (n c : Nat) : Prop := w.heap[r]? = some (.cells #[.string k, .string s, .bool d, .int .i64 a, .int .i64 e, .int .i64 g, .int .i64 h, .slice A n c] 36 (0, 0))
theorem RJ.cells {w : World} {r : Nat} {k s : ByteArray} {d : Bool} {a e g h : Int} {A : Option Addr} {n c : Nat} (hr : RJ w r k s d a e g h A n c) : RoAt w r k s d a e g h A n c :=
  ⟨cell_at hr rfl, cell_at hr rfl, cell_at hr rfl, cell_at hr rfl, cell_at hr rfl, cell_at hr rfl, cell_at hr rfl, cell_at hr rfl⟩
theorem RJ.set {w : World} {r : Nat} {k s : ByteArray} {d : Bool} {a e g h : Int} {A : Option Addr} {n c : Nat} (hr : RJ w r k s d a e g h A n c) (k' s' : ByteArray) (d' : Bool) (a' e' g' h' : Int) (A' : Option Addr) (n' c' : Nat) :
    RJ ((((((((w.setCell ⟨r, 0, none⟩ (.string k')).setCell ⟨r, 1, none⟩ (.string s')).setCell ⟨r, 2, none⟩ (.bool d')).setCell ⟨r, 3, none⟩ (.int .i64 a')).setCell ⟨r, 4, none⟩ (.int .i64 e')).setCell ⟨r, 5, none⟩ (.int .i64 g')).setCell ⟨r, 6, none⟩ (.int .i64 h')).setCell ⟨r, 7, none⟩ (.slice A' n' c')) r k' s' d' a' e' g' h' A' n' c' := by
  have m := block_setCell (i := 7) (block_setCell (i := 6) (block_setCell (i := 5) (block_setCell (i := 4) (block_setCell (i := 3) (block_setCell (i := 2) (block_setCell (i := 1) (block_setCell (i := 0) hr (.string k')) (.string s')) (.bool d')) (.int .i64 a')) (.int .i64 e')) (.int .i64 g')) (.int .i64 h')) (.slice A' n' c')
  simp only [List.setIfInBounds_toArray, List.set_cons_zero, List.set_cons_succ] at m
  exact m
theorem RJ.set7 {w : World} {r : Nat} {k s : ByteArray} {d : Bool} {a e g h : Int} {A : Option Addr} {n c : Nat} (hr : RJ w r k s d a e g h A n c) (A' : Option Addr) (n' c' : Nat) :
    RJ (w.setCell ⟨r, 7, none⟩ (.slice A' n' c')) r k s d a e g h A' n' c' := by
  have m := block_setCell (i := 7) hr (.slice A' n' c')
  simp only [List.setIfInBounds_toArray, List.set_cons_zero, List.set_cons_succ] at m
  exact m
theorem RJ.thawed {w : World} {r : Nat} {k s : ByteArray} {d : Bool} {a e g h : Int} {A : Option Addr} {n c : Nat} (hr : RJ w r k s d a e g h A n c) (i : Nat) : w.frozen? ⟨r, i, none⟩ = false := thawed_at (i := i) hr
/-- Eight stores into one block. -/
theorem eight_heap (w : World) (r : Nat) (v0 v1 v2 v3 v4 v5 v6 v7 : Value) (j : Nat) (hj : j ≠ r) :
    ((((((((w.setCell ⟨r, 0, none⟩ v0).setCell ⟨r, 1, none⟩ v1).setCell ⟨r, 2, none⟩ v2).setCell ⟨r, 3, none⟩ v3).setCell ⟨r, 4, none⟩ v4).setCell ⟨r, 5, none⟩ v5).setCell ⟨r, 6, none⟩ v6).setCell ⟨r, 7, none⟩ v7).heap[j]? = w.heap[j]? := by
  iterate 8 rw [Below.heap_setCell _ _ _ _ hj]
theorem eight_below {B : Nat} {w0 w : World} (h : Below B w0 w) (r : Nat) (hr : B ≤ r) (v0 v1 v2 v3 v4 v5 v6 v7 : Value) :
    Below B w0 ((((((((w.setCell ⟨r, 0, none⟩ v0).setCell ⟨r, 1, none⟩ v1).setCell ⟨r, 2, none⟩ v2).setCell ⟨r, 3, none⟩ v3).setCell ⟨r, 4, none⟩ v4).setCell ⟨r, 5, none⟩ v5).setCell ⟨r, 6, none⟩ v6).setCell ⟨r, 7, none⟩ v7) :=
  (((((((h.setCell (p := ⟨r, 0, none⟩) hr v0).setCell (p := ⟨r, 1, none⟩) hr v1).setCell (p := ⟨r, 2, none⟩) hr v2).setCell (p := ⟨r, 3, none⟩) hr v3).setCell (p := ⟨r, 4, none⟩) hr v4).setCell (p := ⟨r, 5, none⟩) hr v5).setCell (p := ⟨r, 6, none⟩) hr v6).setCell (p := ⟨r, 7, none⟩) hr v7

theorem own_ne {w : World} {b n size : Nat} {e e' : TypeId} {v : Value} {xs : List Value} {r : Nat} {cs : Array Value} (h : w.ownsRow b e size v n xs) (hr : w.heap[r]? = some (.cells cs e' (0, 0))) (he : e ≠ e') : ∀ g, v.ownBlock = some g → g ≠ r := fun g hg hgr => by
  subst hgr
  obtain ⟨cs', h1⟩ := own_tag h g hg
  rw [h1] at hr
  injection hr with hr
  injection hr with _ h2
  exact he h2
theorem Cur.eight {w0 w : World} {v : Value} {C : Cols} (hc : Cur w0 w v C) {r : Nat} {k s : ByteArray} {d : Bool} {a e g h : Int} {A : Option Addr} {n c : Nat} (hr : RJ w r k s d a e g h A n c) (hb : w0.heap.size ≤ r) (v0 v1 v2 v3 v4 v5 v6 v7 : Value) :
    Cur w0 ((((((((w.setCell ⟨r, 0, none⟩ v0).setCell ⟨r, 1, none⟩ v1).setCell ⟨r, 2, none⟩ v2).setCell ⟨r, 3, none⟩ v3).setCell ⟨r, 4, none⟩ v4).setCell ⟨r, 5, none⟩ v5).setCell ⟨r, 6, none⟩ v6).setCell ⟨r, 7, none⟩ v7) v C :=
  ⟨own_kept hc.own fun g hg => eight_heap _ _ _ _ _ _ _ _ _ _ g (own_ne hc.own hr (by decide) g hg), eight_below hc.below r hb _ _ _ _ _ _ _ _⟩
end Go.Proofs.Ytafbbojfifcncaa
set_option linter.unusedVariables false
set_option linter.unusedSimpArgs false
namespace Go.Proofs.Ytafbbojfifcncaa
open Go Go.RowKit

theorem seen_rx (x : RA) (B : Nat) (p now : Int) (X : Cols) (hX : seenD (max x.ro.gone p) now x.ro.cols = X) (w : World) (h : RaIn w B x) (hB : B ≤ w.heap.size) (hn : x.ro.cols.length ≤ 1000) :
    Calls Try.prog 43 #[.agg #[.string x.ro.key, .string x.ro.live.s, .bool x.ro.live.d, .int .i64 x.ro.live.a, .int .i64 x.ro.live.e, .int .i64 x.ro.gone, .int .i64 x.ro.shade, .slice x.A x.ro.cols.length x.c], .int .i64 p, .int .i64 now] w fun e w' => ∃ A c, e = .returned (.slice A X.length c) ∧ Cur w w' (.slice A X.length c) X := by
  subst hX
  exact seen_ra x B p now w h hB hn
theorem take_ros (L : List RA) (t : Nat) : ros (L.take t) = (ros L).take t := List.map_take ..
/-- A partition's block and a row's. -/
def Two (w : World) (p : Nat) (k : ByteArray) (g : Int) (A : Option Addr) (n c : Nat) (q : Nat) (x : RA) : Prop := w.heap[p]? = some (.cells #[.string k, .int .i64 g, .slice A n c] 24) ∧ w.heap[q]? = some (.cells #[.string x.ro.key, .string x.ro.live.s, .bool x.ro.live.d, .int .i64 x.ro.live.a, .int .i64 x.ro.live.e, .int .i64 x.ro.gone, .int .i64 x.ro.shade, .slice x.A x.ro.cols.length x.c] 36)
theorem Two.on {w w' : World} {p q n c : Nat} {k : ByteArray} {g : Int} {A : Option Addr} {x : RA} (h : Two w p k g A n c q x) (hb : Below w.heap.size w w') : Two w' p k g A n c q x :=
  ⟨(hb.block p (Array.getElem?_eq_some_iff.1 h.1).1).trans h.1, (hb.block q (Array.getElem?_eq_some_iff.1 h.2).1).trans h.2⟩
theorem Two.grown {w w' : World} {p q n c : Nat} {k : ByteArray} {g : Int} {A : Option Addr} {x : RA} {b m : Nat} {v : Value} {xs : List Value} (h : Two w p k g A n c q x) (ho : w.ownsRow b 36 8 v m xs) (hg : w.grownBy w' v.ownBlock) (hq : v.ownBlock ≠ some q) : Two w' p k g A n c q x := by
  have hk := Kept.of_grown (F := fun k => v.ownBlock = some k) hg fun k hk => hk
  refine ⟨(hk.block p (Array.getElem?_eq_some_iff.1 h.1).1 fun hp => own_ne ho h.1 (by decide) p hp rfl).trans h.1, (hk.block q (Array.getElem?_eq_some_iff.1 h.2).1 hq).trans h.2⟩
set_option maxRecDepth 8000 in
set_option maxHeartbeats 8000000 in
theorem pseen_any (k : ByteArray) (g now : Int) (st : Bool) (A : Option Addr) (n c B : Nat) (L : List RA) (w : World) (h : Lies w B A n c L) (hB : B ≤ w.heap.size) (hn : n ≤ 1000) (hf : ∀ x ∈ L, x.ro.cols.length ≤ 1000) :
    Calls Try.prog 21 #[.agg #[.string k, .int .i64 g, .slice A n c], .int .i64 now, .bool st] w fun e w' => ∃ v M, e = .returned v ∧ ros M = seenR g now st (ros L) ∧ Own w w' v M := by
  have hl := h.len
  have bz := (Below.refl w.heap.size w).alloc (Nat.le_refl _) (.cells #[.string k, .int .i64 g, .slice A n c] 24)
  have hz0 := heap_alloc_new w (.cells #[.string k, .int .i64 g, .slice A n c] 24)
  obtain ⟨V, hV⟩ : ∃ V, V = w.alloc (.cells #[.string k, .int .i64 g, .slice A n c] 24) := ⟨_, rfl⟩
  have hVs : V.heap.size = w.heap.size + 1 := by rw [hV]; simp
  rw [← hV] at bz hz0
  have HL := Lib.hid hl; have HH := Lib.hid h; have HF := Lib.hid hf; have BZ := Lib.hid bz; have HZ0 := Lib.hid hz0; have HVS := Lib.hid hVs; have HN := Lib.hid hn
  obtain ⟨_, _, _⟩ := PtAt.of hz0
  clear hl h hf bz hz0 hVs
  go_enter Try.func21, Try.ntmps21
  go_wp2_with fail
  rw [← hV]
  clear hV
  go_wp2_with fail
  go_loopw [13, 7] (fun i v wr => ∃ (t : Nat) (M : List RA), t ≤ n ∧ i = .int .i64 t ∧ ros M = seenR g now st (ros (L.take t)) ∧ M.length ≤ t ∧ Own w wr v M ∧ wr.heap[w.heap.size]? = some (.cells #[.string k, .int .i64 g, .slice A n c] 24)) (fun i _ _ => n - (intOf i).toNat)
  case atStart => exact ⟨0, [], Nat.zero_le _, rfl, rfl, Nat.le_refl _, Own.nil BZ.out, HZ0.out⟩
  case round =>
    obtain ⟨t, M, ht, rfl, hm, hmt, ho, hz⟩ := hrel
    obtain ⟨A3, c3, rfl, _⟩ := ho.slice
    obtain ⟨m, hmm⟩ : ∃ m, M.length = m := ⟨_, rfl⟩
    rw [hmm] at ho hmt ⊢
    have HMR := Lib.hid hm; have HM := Lib.hid hmm; have HMT := Lib.hid hmt; have HO := Lib.hid ho; have HZ := Lib.hid hz
    have hvw : w.heap.size < wr.heap.size := (Array.getElem?_eq_some_iff.1 hz).1
    obtain ⟨_, _, _⟩ := PtAt.of hz
    clear hm hmm hmt ho hz
    by_cases hlt : t < n
    · have i1 : (t : Int) < n := by omega
      have i0 : (0 : Int) ≤ t := by omega
      have htl : t < L.length := by rw [HL.out]; exact hlt
      obtain ⟨g0, o0, rfl, hgb⟩ := HH.out.rd.ex (by omega)
      have hlies := HH.out.below (HO.out.below.mono hB)
      have hrow := hlies.rd.row htl
      have hin := hlies.held L[t] (List.getElem_mem htl)
      have hcl := HF.out L[t] (List.getElem_mem htl)
      have htk := ros_take htl
      obtain ⟨x, hx⟩ : ∃ x, L[t] = x := ⟨_, rfl⟩
      rw [hx] at hrow hin hcl htk
      have ha := (Below.refl wr.heap.size wr).alloc (Nat.le_refl _) (.cells #[.string x.ro.key, .string x.ro.live.s, .bool x.ro.live.d, .int .i64 x.ro.live.a, .int .i64 x.ro.live.e, .int .i64 x.ro.gone, .int .i64 x.ro.shade, .slice x.A x.ro.cols.length x.c] 36)
      have hin2 := hin.below (ha.mono (by have := HO.out.below.size; omega))
      have hbk := heap_alloc_new wr (.cells #[.string x.ro.key, .string x.ro.live.s, .bool x.ro.live.d, .int .i64 x.ro.live.a, .int .i64 x.ro.live.e, .int .i64 x.ro.gone, .int .i64 x.ro.shade, .slice x.A x.ro.cols.length x.c] 36)
      have hpt := (ha.block w.heap.size hvw).trans HZ.out
      have hou := HO.out.on ha
      obtain ⟨_, _, _, _, _, _, _, _⟩ := hrow
      obtain ⟨U, hU⟩ : ∃ U, U = wr.alloc (.cells #[.string x.ro.key, .string x.ro.live.s, .bool x.ro.live.d, .int .i64 x.ro.live.a, .int .i64 x.ro.live.e, .int .i64 x.ro.gone, .int .i64 x.ro.shade, .slice x.A x.ro.cols.length x.c] 36) := ⟨_, rfl⟩
      have hUs : U.heap.size = wr.heap.size + 1 := by rw [hU]; simp
      rw [← hU] at hin2 hbk hpt hou
      have hall : ∀ w', Below U.heap.size U w' → BlkAt w' wr.heap.size x ∧ PtAt w' w.heap.size k g (some ⟨g0, o0, none⟩) n c := fun w' hb =>
        ⟨BlkAt.of ((hb.block wr.heap.size (by omega)).trans hbk), PtAt.of ((hb.block w.heap.size (by omega)).trans hpt)⟩
      have hin3 : ∀ w', Below U.heap.size U w' → RaIn w' B x := fun w' hb => hin2.below (hb.mono (by have := HO.out.below.size; omega))
      have HTWO : Hid (Two U w.heap.size k g (some ⟨g0, o0, none⟩) n c wr.heap.size x) := Lib.hid ⟨hpt, hbk⟩
      have HOL := Lib.hid (own_block_lt HO.out.cur.own)
      have HIN := Lib.hid hin3; have HCL := Lib.hid hcl; have HTK := Lib.hid htk; have HOU := Lib.hid hou; have HALL := Lib.hid hall; have HPT := Lib.hid hpt
      have HUB := Lib.hid (show B ≤ U.heap.size by have := HO.out.below.size; omega)
      have HVB := Lib.hid (show w.heap.size ≤ U.heap.size by have := HO.out.below.size; omega)
      have HUL := Lib.hid (show w.heap.size < U.heap.size by omega)
      obtain ⟨⟨_, _, _, _, _, _, _, _⟩, _, _, _⟩ := hall U (Below.refl _ _)
      clear hlies hin hcl htk hx ha hin2 hbk hpt hou hUs hall hin3
      go_wp2_with fail
      rw [← hU]
      clear hU
      obtain ⟨u, hu⟩ : ∃ u, x.ro.isD g now st = u := ⟨_, rfl⟩
      have HU := Lib.hid hu
      clear hu
      go_wp2_with fail
      refine (is_ra x B g now st _ (HIN.out _ (Below.refl _ _)) HUB.out HCL.out).mono ?_
      rintro e w1 ⟨rfl, b1⟩
      rw [HU.out]
      have T1 : Hid (Two w1 w.heap.size k g (some ⟨g0, o0, none⟩) n c wr.heap.size x) := Lib.hid (HTWO.out.on b1)
      have B1 := Lib.hid b1; have HO1 := Lib.hid (HOU.out.on b1)
      clear b1
      cases u
      · have hz1 := (B1.out.block w.heap.size HUL.out).trans HPT.out
        have hs : ros M = seenR g now st (ros (L.take (t + 1))) := by rw [HTK.out, seenR_snoc, HU.out, HMR.out]; rfl
        have HS := Lib.hid hs; have HZ1 := Lib.hid hz1
        clear hs hz1
        go_wp2
        go_roundw
        case rel => exact ⟨t + 1, M, by omega, by go_num, HS.out, by rw [HM.out]; have := HMT.out; omega, by first | exact HM.out ▸ HO1.out | exact HO1.out, HZ1.out⟩
        case measure => simp [intOf]; omega
      · obtain ⟨X, hX⟩ : ∃ X, seenD (max x.ro.gone g) now x.ro.cols = X := ⟨_, rfl⟩
        have HX := Lib.hid hX
        clear hX
        go_wp2_with fail
        refine wp_region_held_drew (S := fun w' => Two w' w.heap.size k g (some ⟨g0, o0, none⟩) n c wr.heap.size x) (by kernel_rfl) ?_ (fun hHeld => ?_)
        · exact T1.out
        refine wpAnyH_take (i := 0) (v := ?_) rfl (by kernel_rfl) (by kernel_rfl) (by kernel_rfl) (fun _ _ _ h => h) (Or.inl ⟨by rfl, ?_⟩) (by assumption) ?_
        rotate_left
        · (intro wx hSw; (try dsimp only at hSw); go_simp; try with_reducible rfl)
        try simp only [Act.put, List.getElem_toArray, List.getElem_cons_succ, List.getElem_cons_zero, List.setIfInBounds_toArray, List.set_cons_zero, List.set_cons_succ]
        refine wpAnyH_take (i := 1) (v := ?_) rfl (by kernel_rfl) (by kernel_rfl) (by kernel_rfl) (fun _ _ _ h => h) (Or.inl ⟨by rfl, ?_⟩) (by assumption) ?_
        rotate_left
        · (intro wx hSw; (try dsimp only at hSw); go_simp; try with_reducible rfl)
        try simp only [Act.put, List.getElem_toArray, List.getElem_cons_succ, List.getElem_cons_zero, List.setIfInBounds_toArray, List.set_cons_zero, List.set_cons_succ]
        refine wpAnyH_take (i := 2) (v := ?_) rfl (by kernel_rfl) (by kernel_rfl) (by kernel_rfl) (fun _ _ _ h => h) (Or.inl ⟨by rfl, ?_⟩) (by assumption) ?_
        rotate_left
        · (intro wx hSw; (try dsimp only at hSw); obtain ⟨_, _, _⟩ := PtAt.of hSw.1; obtain ⟨_, _, _, _, _, _, _, _⟩ := BlkAt.of hSw.2; go_simp; try with_reducible rfl)
        try simp only [Act.put, List.getElem_toArray, List.getElem_cons_succ, List.getElem_cons_zero, List.setIfInBounds_toArray, List.set_cons_zero, List.set_cons_succ]
        refine wpAnyH_take (i := 3) (v := ?_) rfl (by kernel_rfl) (by kernel_rfl) (by kernel_rfl) (fun _ _ _ h => h) (Or.inl ⟨by rfl, ?_⟩) (by assumption) ?_
        rotate_left
        · (intro wx hSw; (try dsimp only at hSw); go_simp; try with_reducible rfl)
        try simp only [Act.put, List.getElem_toArray, List.getElem_cons_succ, List.getElem_cons_zero, List.setIfInBounds_toArray, List.set_cons_zero, List.set_cons_succ]
        refine wpAnyH_take (i := 4) (v := ?_) rfl (by kernel_rfl) (by kernel_rfl) (by kernel_rfl) (fun _ _ _ h => h) (Or.inl ⟨by rfl, ?_⟩) (by assumption) ?_
        rotate_left
        · (intro wx hSw; (try dsimp only at hSw); obtain ⟨_, _, _⟩ := PtAt.of hSw.1; obtain ⟨_, _, _, _, _, _, _, _⟩ := BlkAt.of hSw.2; go_simp; try with_reducible rfl)
        try simp only [Act.put, List.getElem_toArray, List.getElem_cons_succ, List.getElem_cons_zero, List.setIfInBounds_toArray, List.set_cons_zero, List.set_cons_succ]
        refine wpAnyH_take (i := 5) (v := ?_) rfl (by kernel_rfl) (by kernel_rfl) (by kernel_rfl) (fun _ _ _ h => h) (Or.inl ⟨by rfl, ?_⟩) (by assumption) ?_
        rotate_left
        · (intro wx hSw; (try dsimp only at hSw); obtain ⟨_, _, _⟩ := PtAt.of hSw.1; obtain ⟨_, _, _, _, _, _, _, _⟩ := BlkAt.of hSw.2; go_simp; try with_reducible rfl)
        try simp only [Act.put, List.getElem_toArray, List.getElem_cons_succ, List.getElem_cons_zero, List.setIfInBounds_toArray, List.set_cons_zero, List.set_cons_succ]
        refine wpAnyH_take (i := 6) (v := ?_) rfl (by kernel_rfl) (by kernel_rfl) (by kernel_rfl) (fun _ _ _ h => h) (Or.inl ⟨by rfl, ?_⟩) (by assumption) ?_
        rotate_left
        · (intro wx hSw; (try dsimp only at hSw); go_simp; try with_reducible rfl)
        try simp only [Act.put, List.getElem_toArray, List.getElem_cons_succ, List.getElem_cons_zero, List.setIfInBounds_toArray, List.set_cons_zero, List.set_cons_succ]
        refine wpAnyH_take (i := 7) (v := ?_) rfl (by kernel_rfl) (by kernel_rfl) (by kernel_rfl) (fun _ _ _ h => h) (Or.inl ⟨by rfl, ?_⟩) (by assumption) ?_
        rotate_left
        · (intro wx hSw; (try dsimp only at hSw); obtain ⟨_, _, _⟩ := PtAt.of hSw.1; obtain ⟨_, _, _, _, _, _, _, _⟩ := BlkAt.of hSw.2; go_simp; try with_reducible rfl)
        try simp only [Act.put, List.getElem_toArray, List.getElem_cons_succ, List.getElem_cons_zero, List.setIfInBounds_toArray, List.set_cons_zero, List.set_cons_succ]
        refine wpAnyH_take (i := 8) (v := ?_) rfl (by kernel_rfl) (by kernel_rfl) (by kernel_rfl) (fun _ _ _ h => h) (Or.inl ⟨by rfl, ?_⟩) (by assumption) ?_
        rotate_left
        · (intro wx hSw; (try dsimp only at hSw); go_simp; try with_reducible rfl)
        try simp only [Act.put, List.getElem_toArray, List.getElem_cons_succ, List.getElem_cons_zero, List.setIfInBounds_toArray, List.set_cons_zero, List.set_cons_succ]
        refine wpAnyH_ready (rs := [9]) (by kernel_rfl) (by simp) (AllReadyH.cons rfl (fun K hK => ?_) AllReadyH.nil)
        go_simp
        refine (seen_rx x B g now X HX.out _ ?hin ?hsz HCL.out).mono ?_
        case hin => exact HIN.out _ B1.out.drew
        case hsz => exact Nat.le_trans HUB.out B1.out.size
        rintro e v4 ⟨A4, c4, rfl, hc4⟩
        have hbv := next (w := w1) (w1 := w1.drew) ((Below.refl w1.heap.size w1).drew) hc4.below
        have C4 := Lib.hid (HO1.out.on hbv)
        have C5 := Lib.hid (C4.out.on ((Below.refl v4.heap.size v4).alloc (Nat.le_refl _) (.cells #[.string x.ro.key, .string x.ro.live.s, .bool x.ro.live.d, .int .i64 x.ro.live.a, .int .i64 x.ro.live.e, .int .i64 0, .int .i64 0, .slice A4 X.length c4] 36)))
        have RD := Lib.hid (RdR.laid v4 (⟨⟨x.ro.key, x.ro.live, 0, 0, X⟩, A4, c4⟩ : RA))
        have hsf : Safe w v4 (⟨⟨x.ro.key, x.ro.live, 0, 0, X⟩, A4, c4⟩ : RA) := Or.inr (own_base hc4.own HO1.out.below.size)
        have HSF := Lib.hid (hsf.on ((Below.refl v4.heap.size v4).alloc (Nat.le_refl _) (.cells #[.string x.ro.key, .string x.ro.live.s, .bool x.ro.live.d, .int .i64 x.ro.live.a, .int .i64 x.ro.live.e, .int .i64 0, .int .i64 0, .slice A4 X.length c4] 36)))
        have T4 := Lib.hid (T1.out.on hbv)
        have T5 := Lib.hid (T4.out.on ((Below.refl v4.heap.size v4).alloc (Nat.le_refl _) (.cells #[.string x.ro.key, .string x.ro.live.s, .bool x.ro.live.d, .int .i64 x.ro.live.a, .int .i64 x.ro.live.e, .int .i64 0, .int .i64 0, .slice A4 X.length c4] 36)))
        clear hbv hsf
        try go_wp2_with fail
        refine hK.out _ _ ?_ (fun hHeld => ?_)
        · exact T4.out
        clear hK K
        try simp only [Act.put, List.getElem_toArray, List.getElem_cons_succ, List.getElem_cons_zero, List.setIfInBounds_toArray, List.set_cons_zero, List.set_cons_succ]
        refine wpAnyH_take (i := 10) (v := ?_) rfl (by kernel_rfl) (by kernel_rfl) (by kernel_rfl) (fun _ _ _ h => h) (Or.inl ⟨by rfl, ?_⟩) (by assumption) ?_
        rotate_left
        · (intro wx hSw; (try dsimp only at hSw); go_simp; try with_reducible rfl)
        try simp only [Act.put, List.getElem_toArray, List.getElem_cons_succ, List.getElem_cons_zero, List.setIfInBounds_toArray, List.set_cons_zero, List.set_cons_succ]
        refine wpAnyH_ready (rs := [11]) (by kernel_rfl) (by simp) (AllReadyH.cons rfl (fun K hK => ?_) AllReadyH.nil)
        go_simp
        refine hK.out _ _ ?_ (fun hHeld => ?_)
        · exact T5.out
        clear hK K
        try simp only [Act.put, List.getElem_toArray, List.getElem_cons_succ, List.getElem_cons_zero, List.setIfInBounds_toArray, List.set_cons_zero, List.set_cons_succ]
        refine wpAnyH_ready (rs := [12]) (by kernel_rfl) (by simp) (AllReadyH.cons rfl (fun K hK => ?_) AllReadyH.nil)
        refine step_ex rfl (.tmp 23) (.tmp 34) _ _ rfl (.slice A3 m c3) (.slice (some ⟨v4.heap.size, 0, none⟩) 1 1) (by simp [Act.eval]) (by simp [Act.eval]) (run_appR w.heap.size (HM.out ▸ C5.out.cur.own) RD.out ?s3 ?s4) ?_
        case s3 => have := HMT.out; have := HN.out; omega
        case s4 => exact C5.out.below.size
        intro v6 w6 ho6 hg6
        obtain ⟨hg6, _⟩ := hg6
        obtain ⟨A6, m6, c6, rfl, hm6, hc6⟩ := C5.out.app (k := [(⟨⟨x.ro.key, x.ro.live, 0, 0, X⟩, A4, c4⟩ : RA)]) (fun y hy => by rw [List.mem_singleton.1 hy]; exact HSF.out) ho6 hg6
        have C6 := Lib.hid hc6
        have T6 := Lib.hid (T5.out.grown C5.out.cur.own hg6 (fun h => Nat.lt_irrefl _ (HOL.out _ h)))
        clear ho6 hg6 hc6 hm6
        refine hK.out _ _ ?_ (fun hHeld => ?_)
        · exact T6.out
        clear hK K
        try simp only [Act.put, List.getElem_toArray, List.getElem_cons_succ, List.getElem_cons_zero, List.setIfInBounds_toArray, List.set_cons_zero, List.set_cons_succ]
        refine wpAnyH_take (i := 13) (v := ?_) rfl (by kernel_rfl) (by kernel_rfl) (by kernel_rfl) (fun _ _ _ h => h) (Or.inl ⟨by rfl, ?_⟩) (by assumption) ?_
        rotate_left
        · (intro wx hSw; (try dsimp only at hSw); go_simp; try with_reducible rfl)
        try simp only [Act.put, List.getElem_toArray, List.getElem_cons_succ, List.getElem_cons_zero, List.setIfInBounds_toArray, List.set_cons_zero, List.set_cons_succ]
        refine wpAnyH_done (by kernel_rfl) ?_ _
        have hz1 := T6.out.1
        have hs : ros (M ++ [(⟨⟨x.ro.key, x.ro.live, 0, 0, X⟩, A4, c4⟩ : RA)]) = seenR g now st (ros (L.take (t + 1))) := by
          rw [HTK.out, seenR_snoc, HU.out, if_pos rfl, ← HMR.out, ← HX.out]
          simp [ros, Ro.seenD]
        have HS := Lib.hid hs; have HZ1 := Lib.hid hz1
        clear hs hz1
        go_wp2
        go_roundw
        case rel => exact ⟨t + 1, _, by omega, by go_num, HS.out, by rw [List.length_append, HM.out]; have := HMT.out; simp; omega, C6.out, HZ1.out⟩
        case measure => simp [intOf]; omega
    · obtain rfl : t = n := by omega
      have hs : ros M = seenR g now st (ros L) := by rw [HMR.out, List.take_of_length_le (by rw [HL.out]; exact Nat.le_refl _)]
      have HS := Lib.hid hs
      clear hs
      go_wp2
      go_ret
      first | exact ⟨_, M, rfl, HS.out, HM.out ▸ HO.out⟩ | exact ⟨_, M, rfl, HS.out, HO.out⟩ | exact ⟨_, rfl, M, HS.out, HO.out⟩
end Go.Proofs.Ytafbbojfifcncaa
set_option linter.unusedVariables false
set_option linter.unusedSimpArgs false
namespace Go.Proofs.Ytafbbojfifcncaa
open Go Go.RowKit

/-- The greatest stamp. -/
def stampC (m : Int) (l : Cols) : Int := l.foldl (fun m c => max m c.2.a) m
def stampR (m : Int) (l : List Ro) : Int := l.foldl (fun m r => stampC (max (max (max m r.live.a) r.gone) r.shade) r.cols) m
theorem stampC_snoc (m : Int) (l : Cols) (x : ByteArray × Ce) : stampC m (l ++ [x]) = max (stampC m l) x.2.a := by
  unfold stampC
  rw [List.foldl_append]
  rfl
theorem stampR_snoc (m : Int) (l : List Ro) (r : Ro) : stampR m (l ++ [r]) = stampC (max (max (max (stampR m l) r.live.a) r.gone) r.shade) r.cols := by
  unfold stampR
  rw [List.foldl_append]
  rfl
theorem run_max4 (w : World) (a b c d : Int) : (Builtin.max_ #[3, 3, 3, 3] 3 #[.int .i64 a, .int .i64 b, .int .i64 c, .int .i64 d]).run Try.prog w = .ok (.int .i64 (max (max (max a b) c) d)) w := by
  simp [Builtin.max_, Builtin.max2, List.foldlM]
  omega
set_option maxRecDepth 8000 in
set_option maxHeartbeats 8000000 in
theorem pstampall_any (k : ByteArray) (g : Int) (A : Option Addr) (n c B : Nat) (L : List RA) (w : World) (h : Lies w B A n c L) (hB : B ≤ w.heap.size) (hn : n ≤ 1000000) (hf : ∀ x ∈ L, x.ro.cols.length ≤ 1000) :
    Calls Try.prog 23 #[.agg #[.string k, .int .i64 g, .slice A n c]] w fun e w' => e = .returned (.int .i64 (stampR g (ros L))) ∧ Below w.heap.size w w' := by
  have hl := h.len
  have bz := (Below.refl w.heap.size w).alloc (Nat.le_refl _) (.cells #[.string k, .int .i64 g, .slice A n c] 24)
  have hz0 := heap_alloc_new w (.cells #[.string k, .int .i64 g, .slice A n c] 24)
  obtain ⟨V, hV⟩ : ∃ V, V = w.alloc (.cells #[.string k, .int .i64 g, .slice A n c] 24) := ⟨_, rfl⟩
  have hVs : V.heap.size = w.heap.size + 1 := by rw [hV]; simp
  rw [← hV] at bz hz0
  have HL := Lib.hid hl; have HH := Lib.hid h; have HF := Lib.hid hf; have BZ := Lib.hid bz; have HVS := Lib.hid hVs
  obtain ⟨_, _, _⟩ := PtAt.of hz0
  clear hl h hf bz hz0 hVs
  go_enter Try.func23, Try.ntmps23
  go_wp2_with fail
  rw [← hV]
  clear hV
  go_wp2_with fail
  go_loopw [13, 3] (fun i v wr => ∃ (t : Nat), t ≤ n ∧ i = .int .i64 t ∧ v = .int .i64 (stampR g (ros (L.take t))) ∧ Below w.heap.size w wr) (fun i _ _ => n - (intOf i).toNat)
  case atStart => exact ⟨0, Nat.zero_le _, rfl, rfl, BZ.out⟩
  case round =>
    obtain ⟨t, ht, rfl, rfl, hb⟩ := hrel
    have HB := Lib.hid hb
    clear hb
    obtain ⟨s, hs⟩ : ∃ s, stampR g (ros (L.take t)) = s := ⟨_, rfl⟩
    rw [hs]
    have HS := Lib.hid hs
    clear hs
    by_cases hlt : t < n
    · have i1 : (t : Int) < n := by omega
      have i0 : (0 : Int) ≤ t := by omega
      have htl : t < L.length := by rw [HL.out]; exact hlt
      obtain ⟨g0, o0, rfl, hgb⟩ := HH.out.rd.ex (by omega)
      have hlies := HH.out.below (HB.out.mono hB)
      have hrow := hlies.rd.row htl
      have hin := hlies.held L[t] (List.getElem_mem htl)
      have hcl := HF.out L[t] (List.getElem_mem htl)
      have htk := ros_take htl
      obtain ⟨x, hx⟩ : ∃ x, L[t] = x := ⟨_, rfl⟩
      rw [hx] at hrow hin hcl htk
      have ha := (Below.refl wr.heap.size wr).alloc (Nat.le_refl _) (.cells #[.string x.ro.key, .string x.ro.live.s, .bool x.ro.live.d, .int .i64 x.ro.live.a, .int .i64 x.ro.live.e, .int .i64 x.ro.gone, .int .i64 x.ro.shade, .slice x.A x.ro.cols.length x.c] 36)
      have hin2 := hin.below (ha.mono (by have := HB.out.size; omega))
      have hbk := BlkAt.of (heap_alloc_new wr (.cells #[.string x.ro.key, .string x.ro.live.s, .bool x.ro.live.d, .int .i64 x.ro.live.a, .int .i64 x.ro.live.e, .int .i64 x.ro.gone, .int .i64 x.ro.shade, .slice x.A x.ro.cols.length x.c] 36))
      have hbu := HB.out.trans (ha.mono HB.out.size)
      obtain ⟨_, _, _, _, _, _, _, hr7⟩ := hrow
      obtain ⟨U, hU⟩ : ∃ U, U = wr.alloc (.cells #[.string x.ro.key, .string x.ro.live.s, .bool x.ro.live.d, .int .i64 x.ro.live.a, .int .i64 x.ro.live.e, .int .i64 x.ro.gone, .int .i64 x.ro.shade, .slice x.A x.ro.cols.length x.c] 36) := ⟨_, rfl⟩
      rw [← hU] at hin2 hbk hbu
      obtain ⟨q, hq⟩ : ∃ q, x.ro.cols.length = q := ⟨_, rfl⟩
      obtain ⟨Ax, hAx⟩ : ∃ Ax, x.A = Ax := ⟨_, rfl⟩
      have hrd := hin2.rd
      rw [hq] at hcl
      rw [hq, hAx] at hrd hU
      obtain ⟨_, _, _, _, _, _, _, hb7⟩ := hbk
      rw [hq, hAx] at hb7 hr7
      have hmx := fun wx : World => run_max4 wx s x.ro.live.a x.ro.gone x.ro.shade
      have HUB := Lib.hid (show B ≤ U.heap.size by have := hbu.size; omega)
      have HTK := Lib.hid htk; have HBU := Lib.hid hbu; have HRD := Lib.hid hrd; have HQ := Lib.hid hq
      clear hlies hin htk hx ha hin2 hbu hrd hq hAx
      obtain ⟨z, hz⟩ : ∃ z, max (max (max s x.ro.live.a) x.ro.gone) x.ro.shade = z := ⟨_, rfl⟩
      simp only [hz] at hmx
      have HZ := Lib.hid hz
      clear hz
      go_wp2_with fail
      rw [← hU]
      clear hU hmx
      go_loopw [29, 3] (fun i v wi => ∃ (u : Nat), u ≤ q ∧ i = .int .i64 u ∧ v = .int .i64 (stampC z (x.ro.cols.take u)) ∧ Below U.heap.size U wi) (fun i _ _ => q - (intOf i).toNat)
      case atStart => exact ⟨0, Nat.zero_le _, rfl, rfl, Below.refl _ _⟩
      case round =>
        obtain ⟨u, hu, rfl, rfl, hb2⟩ := hrel
        have HB2 := Lib.hid hb2
        clear hb2
        obtain ⟨y, hy⟩ : ∃ y, stampC z (x.ro.cols.take u) = y := ⟨_, rfl⟩
        rw [hy]
        have HY := Lib.hid hy
        clear hy
        by_cases hlu : u < q
        · have i3 : (u : Int) < q := by omega
          have i4 : (0 : Int) ≤ u := by omega
          have hul : u < x.ro.cols.length := by rw [HQ.out]; exact hlu
          obtain ⟨g1, o1, rfl, hgb1, hc⟩ := (HRD.out.below (HB2.out.mono HUB.out)).2 (by omega)
          obtain ⟨e0, e1, e2, e3, e4⟩ := hc u hul
          have htk2 : x.ro.cols.take (u + 1) = x.ro.cols.take u ++ [x.ro.cols[u]] := List.take_succ_eq_append_getElem hul
          obtain ⟨⟨cm, ⟨cs, cd, ca, ce⟩⟩, hcx⟩ : ∃ y, x.ro.cols[u] = y := ⟨_, rfl⟩
          rw [hcx] at e0 e1 e2 e3 e4 htk2
          simp only at e0 e1 e2 e3 e4
          have hac := HB2.out.alloc HB2.out.size (.cells #[.string cm, .string cs, .bool cd, .int .i64 ca, .int .i64 ce] 66)
          have HAC := Lib.hid hac; have HT2 := Lib.hid htk2
          clear hc hcx hac htk2
          go_wp2
          go_roundw
          case rel => exact ⟨u + 1, by omega, by go_num, by rw [HT2.out, stampC_snoc, HY.out], HAC.out⟩
          case measure => simp [intOf]; omega
        · obtain rfl : u = q := by omega
          have hv : y = stampR g (ros (L.take (t + 1))) := by rw [HTK.out, stampR_snoc, HS.out, HZ.out, ← HY.out, List.take_of_length_le (by rw [HQ.out]; exact Nat.le_refl _)]
          have HV := Lib.hid hv
          clear hv
          have hb3 := HBU.out.trans (HB2.out.mono HBU.out.size)
          have HB3 := Lib.hid hb3
          clear hb3
          go_wp2
          go_roundw
          case rel => exact ⟨t + 1, by omega, by go_num, by rw [HV.out], HB3.out⟩
          case measure => simp [intOf]; omega
    · obtain rfl : t = n := by omega
      have hv : stampR g (ros L) = s := by rw [← HS.out, List.take_of_length_le (by rw [HL.out]; exact Nat.le_refl _)]
      have HV := Lib.hid hv
      clear hv
      go_wp2
      go_ret
      refine ⟨?_, HB.out⟩
      rw [HV.out]
      rfl
end Go.Proofs.Ytafbbojfifcncaa
set_option linter.unusedVariables false
set_option linter.unusedSimpArgs false
namespace Go.Proofs.Ytafbbojfifcncaa
open Go Go.RowKit

/-- A row that is there since a stamp, with nothing else. -/
def liveR (k : ByteArray) (a : Int) : Ro := ⟨k, ⟨⟨#[]⟩, false, a, 0⟩, 0, 0, []⟩
def liveA (k : ByteArray) (a : Int) : RA := ⟨liveR k a, none, 0⟩
theorem liveA_in (k : ByteArray) (a : Int) (w : World) (B : Nat) : RaIn w B (liveA k a) := ⟨RdK.nil _ _ _, Nat.le_refl _⟩
theorem liveR_up (k : ByteArray) (a : Int) : (liveR k a).Up := ⟨trivial, fun x hx => by cases hx⟩
theorem two_rows (w : World) (k k' : ByteArray) (a a' : Int) (W : World) (hW : W = w.alloc (.cells #[.string k, .string ⟨#[]⟩, .bool false, .int .i64 a, .int .i64 0, .int .i64 0, .int .i64 0, .slice none 0 0, .string k', .string ⟨#[]⟩, .bool false, .int .i64 a', .int .i64 0, .int .i64 0, .int .i64 0, .slice none 0 0] 36)) :
    Lies W (w.heap.size + 1) (some ⟨w.heap.size, 0, none⟩) 2 2 [liveA k a, liveA k' a'] := by
  subst hW
  refine ⟨RdR.of_all rfl (by omega) fun j u hu => ?_, fun x hx => ?_, Nat.le_refl _⟩
  · have e : rRow [liveA k a, liveA k' a'] = [.string k, .string ⟨#[]⟩, .bool false, .int .i64 a, .int .i64 0, .int .i64 0, .int .i64 0, .slice none 0 0, .string k', .string ⟨#[]⟩, .bool false, .int .i64 a', .int .i64 0, .int .i64 0, .int .i64 0, .slice none 0 0] := rfl
    rw [e] at hu
    rw [Nat.zero_add]
    exact cell_at (heap_alloc_new w _) (by simpa using hu)
  · simp only [List.mem_cons, List.not_mem_nil, or_false] at hx
    rcases hx with rfl | rfl <;> exact liveA_in _ _ _ _
def awR : List Ro := [liveR ⟨#[114]⟩ 8, liveR ⟨#[115]⟩ 10]
theorem awR_up (k : ByteArray) (g : Int) : (Pa.mk k g awR).Up := by
  refine ⟨⟨fun y hy => ?_, fun y hy => (by cases hy), trivial⟩, fun x hx => ?_⟩
  · rw [List.mem_singleton.1 hy]
    show nlt ⟨#[114]⟩ ⟨#[115]⟩
    decide
  · simp only [awR, List.mem_cons, List.not_mem_nil, or_false] at hx
    rcases hx with rfl | rfl <;> exact liveR_up _ _
theorem awR_seen : seenR 9 0 true awR = [liveR ⟨#[115]⟩ 10] := by rfl
theorem awR_stamp : stampR 9 awR = 10 := by rfl
theorem awR_cols : ∀ r ∈ awR, r.cols.length ≤ 1000 := by
  intro r hr
  simp only [awR, List.mem_cons, List.not_mem_nil, or_false] at hr
  rcases hr with rfl | rfl <;> exact Nat.zero_le _
set_option maxRecDepth 8000 in
set_option maxHeartbeats 8000000 in
theorem pawake_any (w : World) : Calls Try.prog 9 #[] w fun x w' => x = .returned (.bool true) ∧ Below w.heap.size w w' := by
  obtain ⟨W1, hW1⟩ : ∃ W, W = w.alloc (.cells #[.string ⟨#[114]⟩, .string ⟨#[]⟩, .bool false, .int .i64 8, .int .i64 0, .int .i64 0, .int .i64 0, .slice none 0 0, .string ⟨#[115]⟩, .string ⟨#[]⟩, .bool false, .int .i64 10, .int .i64 0, .int .i64 0, .int .i64 0, .slice none 0 0] 36) := ⟨_, rfl⟩
  have hl := two_rows w ⟨#[114]⟩ ⟨#[115]⟩ 8 10 W1 hW1
  have hb1 : Below w.heap.size w W1 := by rw [hW1]; exact (Below.refl _ _).alloc (Nat.le_refl _) _
  have hs1 : W1.heap.size = w.heap.size + 1 := by rw [hW1]; simp
  have HL := Lib.hid hl; have HB1 := Lib.hid hb1; have HS1 := Lib.hid hs1
  clear hl hb1 hs1
  go_enter Try.func9, Try.ntmps9
  go_wp2_with fail
  rw [← hW1]
  clear hW1
  refine (pjoin_fits ⟨#[107]⟩ ⟨#[120]⟩ 0 9 _ _ 2 0 2 0 (w.heap.size + 1) 0 [liveA ⟨#[114]⟩ 8, liveA ⟨#[115]⟩ 10] [] _ (HL.out.below ((Below.refl _ _).alloc (by have := HS1.out; omega) _)) ⟨RdR.nil _ _ _, fun x hx => (by cases hx), Nat.le_refl _⟩ (by simp; have := HS1.out; omega) (Nat.zero_le _) (by omega) (awR_up _ _) ⟨trivial, fun x hx => (by cases hx)⟩ (by decide) awR rfl (by decide)).mono ?_
  rintro e w2 ⟨M, A2, n2, c2, rfl, hM, hfr⟩
  obtain ⟨hn2, hl2, hA2⟩ := hfr.lies
  have hb2 := next (HB1.out.alloc (by have := HS1.out; omega) (.cells #[.string ⟨#[107]⟩, .int .i64 0, .slice (some ⟨w.heap.size, 0, none⟩) 2 2] 24)) hfr.below
  have hml : n2 = 2 := by rw [hn2, ← List.length_map (f := RA.ro), show List.map RA.ro M = awR from hM]; rfl
  subst hml
  have HL2 := Lib.hid hl2; have HM := Lib.hid hM; have HB2 := Lib.hid hb2
  clear hfr hl2 hM hb2 hn2 hA2
  rw [show max (0 : Int) 9 = 9 from rfl]
  obtain ⟨W3, hW3⟩ : ∃ W, W = w2.alloc (.cells #[.string ⟨#[107]⟩, .int .i64 9, .slice A2 2 c2] 24) := ⟨_, rfl⟩
  have hb3 : Below w2.heap.size w2 W3 := by rw [hW3]; exact (Below.refl _ _).alloc (Nat.le_refl _) _
  have hz3 : W3.heap[w2.heap.size]? = some (.cells #[.string ⟨#[107]⟩, .int .i64 9, .slice A2 2 c2] 24 (0, 0)) := by rw [hW3]; exact heap_alloc_new w2 _
  have HL3 := Lib.hid (HL2.out.below hb3); have HB3 := Lib.hid (next HB2.out hb3); have HS3 := Lib.hid hb3.size; have HZ3 := Lib.hid hz3
  have hlt3 := (Array.getElem?_eq_some_iff.1 hz3).1
  have HMF : Hid (∀ x ∈ M, x.ro.cols.length ≤ 1000) := Lib.hid fun x hx => awR_cols x.ro (by rw [← HM.out]; exact List.mem_map.2 ⟨x, hx, rfl⟩)
  obtain ⟨_, _, _⟩ := PtAt.of hz3
  clear hb3 hz3
  go_wp2_with fail
  rw [← hW3]
  clear hW3
  go_wp2_with fail
  refine (pseen_any ⟨#[107]⟩ 9 0 true A2 2 c2 w2.heap.size M _ HL3.out HS3.out (by omega) HMF.out).mono ?_
  rintro e w4 ⟨v, M4, rfl, hM4, hown⟩
  rw [HM.out, awR_seen] at hM4
  obtain ⟨y, rfl⟩ : ∃ y, M4 = [y] := by
    match M4, congrArg List.length hM4 with
    | [y], _ => exact ⟨y, rfl⟩
  have hy : y.ro = liveR ⟨#[115]⟩ 10 := by simpa [ros] using hM4
  obtain ⟨A4, c4, rfl, hcap4, _⟩ := hown.slice
  obtain ⟨g4, rfl, _, _, hrow, _⟩ := hown.row (j := 0) (by simp)
  simp only [List.getElem_cons_zero, Nat.zero_mul] at hrow
  have hk0 := hrow.1
  rw [hy, show (liveR ⟨#[115]⟩ 10).key = ⟨#[115]⟩ from rfl] at hk0
  have hb4 := next HB3.out hown.below
  have HZ4 := Lib.hid ((hown.below.block w2.heap.size hlt3).trans HZ3.out); have HL4 := Lib.hid (HL3.out.below (hown.below.mono HS3.out)); have HB4 := Lib.hid hb4; have HS4 := Lib.hid (Nat.le_trans HS3.out hown.below.size)
  obtain ⟨_, _, _⟩ := PtAt.of HZ4.out
  simp only [List.length_cons, List.length_nil, Nat.zero_add]
  clear hown hrow hb4 hM4 hy
  go_wp2_with fail
  refine (pstampall_any ⟨#[107]⟩ 9 A2 2 c2 w2.heap.size M _ HL4.out HS4.out (by omega) HMF.out).mono ?_
  rintro e w5 ⟨rfl, b5⟩
  rw [HM.out, awR_stamp]
  have HB5 := Lib.hid (next HB4.out b5)
  clear b5
  go_wp2
  go_ret
  exact ⟨rfl, HB5.out⟩
def kb (a b c : Nat) : ByteArray := ⟨#[UInt8.ofNat (48 + a), UInt8.ofNat (48 + b), UInt8.ofNat (48 + c)]⟩
set_option maxRecDepth 8000 in
set_option maxHeartbeats 4000000 in
theorem key_any (n : Nat) (i : Int) (hi : i = (n : Int)) (hn : n < 1000) (w : World) : Calls Try.prog 27 #[.int .i64 i] w fun x w' => x = .returned (.string (kb (n / 100 % 10) (n / 10 % 10) (n % 10))) ∧ Below w.heap.size w w' := by
  have i0 : 0 ≤ i := by omega
  have i1 : i < 1000 := by omega
  have hcells : (#[Value.int .u8 (48 + (n : Int) / 100 % 10), Value.int .u8 (48 + (n : Int) / 10 % 10), Value.int .u8 (48 + (n : Int) % 10)] : Array Value).toList = Lib.byteCells [UInt8.ofNat (48 + n / 100 % 10), UInt8.ofNat (48 + n / 10 % 10), UInt8.ofNat (48 + n % 10)] := by
    simp only [Lib.byteCells, List.map_cons, List.map_nil, UInt8.toNat_ofNat']
    refine List.cons_eq_cons.2 ⟨?_, List.cons_eq_cons.2 ⟨?_, List.cons_eq_cons.2 ⟨?_, rfl⟩⟩⟩ <;> congr 1 <;> omega
  have hrd := Rd.laid (heap_alloc_new w (.cells #[Value.int .u8 (48 + (n : Int) / 100 % 10), Value.int .u8 (48 + (n : Int) / 10 % 10), Value.int .u8 (48 + (n : Int) % 10)] 5)) hcells
  obtain ⟨K, hK⟩ : ∃ K, kb (n / 100 % 10) (n / 10 % 10) (n % 10) = K := ⟨_, rfl⟩
  have hcv := cv_asE (n := 3) hrd 3 K (by rw [← hK]; rfl)
  rw [hK]
  have bz := Lib.hid ((Below.refl w.heap.size w).alloc (Nat.le_refl _) (.cells #[Value.int .u8 (48 + (n : Int) / 100 % 10), Value.int .u8 (48 + (n : Int) / 10 % 10), Value.int .u8 (48 + (n : Int) % 10)] 5))
  clear hcells hrd hK
  go_enter Try.func27, Try.ntmps27
  go_wp2
  go_ret
  exact ⟨rfl, bz.out⟩
end Go.Proofs.Ytafbbojfifcncaa
set_option linter.unusedVariables false
set_option linter.unusedSimpArgs false
namespace Go.Proofs.Ytafbbojfifcncaa
open Go Go.RowKit

/-- The row of a key; whether there is one. -/
def rowOf (l : List Ro) (k : ByteArray) : Ro := (getK Ro.key l k).getD (Ro.bare k)
def rowIs (l : List Ro) (k : ByteArray) : Bool := (getK Ro.key l k).isSome
def bareA (k : ByteArray) : RA := ⟨Ro.bare k, none, 0⟩
set_option maxRecDepth 8000 in
set_option maxHeartbeats 4000000 in
theorem prow_any (k key : ByteArray) (g : Int) (A : Option Addr) (n c B : Nat) (L : List RA) (w : World) (h : Lies w B A n c L) (hB : B ≤ w.heap.size) (hn : n ≤ 1000000) (hf : ∀ x ∈ L, x.ro.cols.length ≤ 1000) :
    Calls Try.prog 18 #[.agg #[.string k, .int .i64 g, .slice A n c], .string key] w fun e w' => ∃ z : RA, e = .returned (.tuple #[z.v, .bool (rowIs (ros L) key)]) ∧ z.ro = rowOf (ros L) key ∧ Cur w w' (.slice z.A z.ro.cols.length z.c) z.ro.cols := by
  have hl := h.len
  have bz := ((Below.refl w.heap.size w).alloc (Nat.le_refl _) (.cells #[.string k, .int .i64 g, .slice A n c] 24)).alloc (by simp) (.cells #[.string ⟨#[]⟩, .string ⟨#[]⟩, .bool false, .int .i64 0, .int .i64 0, .int .i64 0, .int .i64 0, .slice none 0 0] 36)
  have hz0 := new_at (heap_alloc_new w (.cells #[.string k, .int .i64 g, .slice A n c] 24)) (.cells #[.string ⟨#[]⟩, .string ⟨#[]⟩, .bool false, .int .i64 0, .int .i64 0, .int .i64 0, .int .i64 0, .slice none 0 0] 36)
  have hz1 := heap_alloc_new (w.alloc (.cells #[.string k, .int .i64 g, .slice A n c] 24)) (.cells #[.string ⟨#[]⟩, .string ⟨#[]⟩, .bool false, .int .i64 0, .int .i64 0, .int .i64 0, .int .i64 0, .slice none 0 0] 36)
  simp only [World.size_alloc] at hz1
  obtain ⟨V, hV⟩ : ∃ V, V = (w.alloc (.cells #[.string k, .int .i64 g, .slice A n c] 24)).alloc (.cells #[.string ⟨#[]⟩, .string ⟨#[]⟩, .bool false, .int .i64 0, .int .i64 0, .int .i64 0, .int .i64 0, .slice none 0 0] 36) := ⟨_, rfl⟩
  have hVs : V.heap.size = w.heap.size + 2 := by rw [hV]; simp
  rw [← hV] at bz hz0 hz1
  have HL := Lib.hid hl; have HH := Lib.hid (h.below (bz.mono hB)); have HF := Lib.hid hf; have BZ := Lib.hid bz; have HZ0 := Lib.hid hz0; have HZ1 := Lib.hid hz1; have HVS := Lib.hid hVs
  obtain ⟨_, _, _⟩ := PtAt.of hz0
  clear hl h hf bz hz0 hz1 hVs
  go_enter Try.func18, Try.ntmps18
  go_wp2_with fail
  rw [← hV]
  clear hV
  go_wp2_with fail
  go_loopw [11] (fun i wr => ∃ t : Nat, t ≤ n ∧ i = .int .i64 t ∧ getK Ro.key (ros (L.drop t)) key = getK Ro.key (ros L) key ∧ Below V.heap.size V wr) (fun i _ => n - (intOf i).toNat)
  case atStart => exact ⟨0, Nat.zero_le _, rfl, rfl, Below.refl _ _⟩
  case round =>
    obtain ⟨t, ht, rfl, hg, hb⟩ := hrel
    have HG := Lib.hid hg; have HB := Lib.hid hb
    clear hg hb
    by_cases hlt : t < n
    · have i1 : (t : Int) < n := by omega
      have i0 : (0 : Int) ≤ t := by omega
      have htl : t < L.length := by rw [HL.out]; exact hlt
      obtain ⟨g0, o0, rfl, hgb⟩ := HH.out.rd.ex (by omega)
      have hlies := HH.out.below (HB.out.mono (by have := HVS.out; omega))
      have hrow := hlies.rd.row htl
      have hin := hlies.held L[t] (List.getElem_mem htl)
      have hcl := HF.out L[t] (List.getElem_mem htl)
      have hdr : ros (L.drop t) = L[t].ro :: ros (L.drop (t + 1)) := by rw [List.drop_eq_getElem_cons htl]; rfl
      obtain ⟨x, hx⟩ : ∃ x, L[t] = x := ⟨_, rfl⟩
      rw [hx] at hrow hin hcl hdr
      have hws := HB.out.size
      have ha := (Below.refl wr.heap.size wr).alloc (Nat.le_refl _) (.cells #[.string x.ro.key, .string x.ro.live.s, .bool x.ro.live.d, .int .i64 x.ro.live.a, .int .i64 x.ro.live.e, .int .i64 x.ro.gone, .int .i64 x.ro.shade, .slice x.A x.ro.cols.length x.c] 36)
      have hin2 := hin.below (ha.mono (by have := HVS.out; omega))
      have hbk := BlkAt.of (heap_alloc_new wr (.cells #[.string x.ro.key, .string x.ro.live.s, .bool x.ro.live.d, .int .i64 x.ro.live.a, .int .i64 x.ro.live.e, .int .i64 x.ro.gone, .int .i64 x.ro.shade, .slice x.A x.ro.cols.length x.c] 36))
      have hbu := HB.out.trans (ha.mono hws)
      obtain ⟨_, _, _, _, _, _, _, _⟩ := hrow
      obtain ⟨U, hU⟩ : ∃ U, U = wr.alloc (.cells #[.string x.ro.key, .string x.ro.live.s, .bool x.ro.live.d, .int .i64 x.ro.live.a, .int .i64 x.ro.live.e, .int .i64 x.ro.gone, .int .i64 x.ro.shade, .slice x.A x.ro.cols.length x.c] 36) := ⟨_, rfl⟩
      have hUs : U.heap.size = wr.heap.size + 1 := by rw [hU]; simp
      rw [← hU] at hin2 hbk hbu
      obtain ⟨_, _, _, _, _, _, _, _⟩ := hbk
      have HIN := Lib.hid hin2; have HBU := Lib.hid hbu; have HCL := Lib.hid hcl; have HDR := Lib.hid hdr; have HUS := Lib.hid hUs; have HWS := Lib.hid hws
      clear hlies hin hcl hdr hx ha hin2 hbu hUs hws
      by_cases hk : x.ro.key = key
      · have e1 : (x.ro.key.toList == key.toList) = true := (eqB_iff _ _).2 hk
        have HK := Lib.hid hk
        clear hk
        go_wp2_with fail
        rw [← hU]
        clear hU
        go_wp2_with fail
        refine (copyrow_ra x B _ HIN.out (by have := HUS.out; have := HWS.out; have := HVS.out; omega) HCL.out).mono ?_
        rintro e w1 ⟨z, rfl, hz, hcz⟩
        unfold RA.v Ro.val
        have hb1 := HBU.out.trans (hcz.below.mono HBU.out.size)
        have hq := (hb1.block (w.heap.size + 1) (by have := HVS.out; omega)).trans HZ1.out
        have z0 := cell_at (i := 0) hq rfl
        have z1 := cell_at (i := 1) hq rfl
        have z2 := cell_at (i := 2) hq rfl
        have z3 := cell_at (i := 3) hq rfl
        have z4 := cell_at (i := 4) hq rfl
        have z5 := cell_at (i := 5) hq rfl
        have z6 := cell_at (i := 6) hq rfl
        have z7 := cell_at (i := 7) hq rfl
        have y0 := thawed_at (i := 0) hq
        have y1 := thawed_at (i := 1) hq
        have y2 := thawed_at (i := 2) hq
        have y3 := thawed_at (i := 3) hq
        have y4 := thawed_at (i := 4) hq
        have y5 := thawed_at (i := 5) hq
        have y6 := thawed_at (i := 6) hq
        have y7 := thawed_at (i := 7) hq
        have m9 := set8_block hq z
        have k9 := kept_set80 (w := w1) (w.heap.size + 1) z
        have hcz2 := own_kept hcz.own fun g hg => k9.block g (own_block_lt hcz.own g hg) (by have := (hcz.own.lt g hg).1; have := HUS.out; have := HWS.out; have := HVS.out; omega)
        have HCZ := Lib.hid hcz2; have HZR := Lib.hid hz
        have HB9 := Lib.hid (below_set80 (BZ.out.trans (hb1.mono (by have := HVS.out; omega))) (q := w.heap.size + 1) (by omega) z)
        clear hq hz hcz hb1 hcz2
        go_wp2
        generalize hw9 : (World.setCell (World.setCell (World.setCell (World.setCell (World.setCell (World.setCell (World.setCell (World.setCell w1 ⟨w.heap.size + 1, 0, none⟩ (.string z.ro.key)) ⟨w.heap.size + 1, 1, none⟩ (.string z.ro.live.s)) ⟨w.heap.size + 1, 2, none⟩ (.bool z.ro.live.d)) ⟨w.heap.size + 1, 3, none⟩ (.int .i64 z.ro.live.a)) ⟨w.heap.size + 1, 4, none⟩ (.int .i64 z.ro.live.e)) ⟨w.heap.size + 1, 5, none⟩ (.int .i64 z.ro.gone)) ⟨w.heap.size + 1, 6, none⟩ (.int .i64 z.ro.shade)) ⟨w.heap.size + 1, 7, none⟩ (.slice z.A z.ro.cols.length z.c)) = w9 at m9 k9 HCZ HB9 ⊢
        clear hw9 z0 z1 z2 z3 z4 z5 z6 z7 y0 y1 y2 y3 y4 y5 y6 y7
        have q0 := cell_at (i := 0) m9 rfl
        have q1 := cell_at (i := 1) m9 rfl
        have q2 := cell_at (i := 2) m9 rfl
        have q3 := cell_at (i := 3) m9 rfl
        have q4 := cell_at (i := 4) m9 rfl
        have q5 := cell_at (i := 5) m9 rfl
        have q6 := cell_at (i := 6) m9 rfl
        have q7 := cell_at (i := 7) m9 rfl
        have hg1 : getK Ro.key (ros L) key = some x.ro := by rw [← HG.out, HDR.out]; exact if_pos HK.out
        have hR : rowOf (ros L) key = x.ro := by unfold rowOf; rw [hg1]; rfl
        have hI : rowIs (ros L) key = true := by unfold rowIs; rw [hg1]; rfl
        have HR := Lib.hid hR
        clear hR hg1
        refine bodyPost_ret (v := .tuple #[.agg #[.string z.ro.key, .string z.ro.live.s, .bool z.ro.live.d, .int .i64 z.ro.live.a, .int .i64 z.ro.live.e, .int .i64 z.ro.gone, .int .i64 z.ro.shade, .slice z.A z.ro.cols.length z.c], .bool true]) ?_ rfl ?_
        · simp [results, Try.results18, go_sem, q0, q1, q2, q3, q4, q5, q6, q7]
        · exact ⟨z, by rw [hI]; rfl, by rw [HR.out]; exact HZR.out, own_base HCZ.out (by have := HUS.out; have := HWS.out; have := HVS.out; omega), HB9.out⟩
      · have e1 : (x.ro.key.toList == key.toList) = false := by cases h : (x.ro.key.toList == key.toList) with | true => exact absurd ((eqB_iff _ _).1 h) hk | false => rfl
        have HK := Lib.hid hk
        subst hU
        clear hk
        go_wp2
        go_roundw
        case rel => exact ⟨t + 1, by omega, by go_num, by rw [← HG.out, HDR.out]; exact (if_neg HK.out).symm, HBU.out⟩
        case measure => simp [intOf]; omega
    · obtain rfl : t = n := by omega
      have hq := (HB.out.block (w.heap.size + 1) (by have := HVS.out; omega)).trans HZ1.out
      have z0 := cell_at (i := 0) hq rfl
      have z1 := cell_at (i := 1) hq rfl
      have z2 := cell_at (i := 2) hq rfl
      have z3 := cell_at (i := 3) hq rfl
      have z4 := cell_at (i := 4) hq rfl
      have z5 := cell_at (i := 5) hq rfl
      have z6 := cell_at (i := 6) hq rfl
      have z7 := cell_at (i := 7) hq rfl
      have y0 := thawed_at (i := 0) hq
      have y1 := thawed_at (i := 1) hq
      have y2 := thawed_at (i := 2) hq
      have y3 := thawed_at (i := 3) hq
      have y4 := thawed_at (i := 4) hq
      have y5 := thawed_at (i := 5) hq
      have y6 := thawed_at (i := 6) hq
      have y7 := thawed_at (i := 7) hq
      have m9 := set8_block hq (bareA key)
      have HB9 := Lib.hid (below_set80 (BZ.out.trans (HB.out.mono (by have := HVS.out; omega))) (q := w.heap.size + 1) (by omega) (bareA key))
      unfold bareA Ro.bare at m9 HB9
      dsimp only [List.length_nil] at m9 HB9
      clear hq
      go_wp2
      have hg1 : getK Ro.key (ros L) key = none := by rw [← HG.out, List.drop_of_length_le (by rw [HL.out]; exact Nat.le_refl _)]; rfl
      have hR : rowOf (ros L) key = Ro.bare key := by unfold rowOf; rw [hg1]; rfl
      have hI : rowIs (ros L) key = false := by unfold rowIs; rw [hg1]; rfl
      have HR := Lib.hid hR
      have q0 := cell_at (i := 0) m9 rfl
      have q1 := cell_at (i := 1) m9 rfl
      have q2 := cell_at (i := 2) m9 rfl
      have q3 := cell_at (i := 3) m9 rfl
      have q4 := cell_at (i := 4) m9 rfl
      have q5 := cell_at (i := 5) m9 rfl
      have q6 := cell_at (i := 6) m9 rfl
      have q7 := cell_at (i := 7) m9 rfl
      clear hR hg1
      refine bodyPost_ret (v := .tuple #[.agg #[.string key, .string ⟨#[]⟩, .bool false, .int .i64 0, .int .i64 0, .int .i64 0, .int .i64 0, .slice none 0 0], .bool false]) ?_ rfl ?_
      · simp [results, Try.results18, go_sem, q0, q1, q2, q3, q4, q5, q6, q7]
      · exact ⟨bareA key, by rw [hI]; rfl, by rw [HR.out]; rfl, World.ownsRow_nil _ _ _ _, HB9.out⟩
end Go.Proofs.Ytafbbojfifcncaa
set_option linter.unusedVariables false
set_option linter.unusedSimpArgs false
namespace Go.Proofs.Ytafbbojfifcncaa
open Go Go.RowKit

theorem rowIn_bare {r : Ro} (h : RowIn r) : RowIn (Ro.bare r.key) := by
  have h1 := h.ok
  unfold Ro.ok at h1
  rw [Bool.and_eq_true] at h1
  refine ⟨?_, ColsIn.nil⟩
  unfold Ro.ok
  rw [Bool.and_eq_true]
  exact ⟨h1.1, by simp [Ro.bare, liveB, Ce.ok, Ce.same, stm, colsB]⟩
theorem rowOf_in {l : Rows} {k : ByteArray} {r : Ro} (hl : ∀ x ∈ l, RowIn x ∧ x.key ∈ [dg 0, dg 1, dg 2, dg 3]) (hr : RowIn r) (hk : r.key = k) : RowIn (rowOf l k) ∧ (rowOf l k).key = k := by
  unfold rowOf
  cases h : getK Ro.key l k with
  | none => subst hk; exact ⟨rowIn_bare hr, rfl⟩
  | some x => exact ⟨(hl x (getK_some h).1).1, (getK_some h).2⟩
theorem one_put {x y : Ro} (h : x.key = y.key) : mrgR [x] [y] = [x.join y] := by
  show putK Ro.key Ro.join [x] y = _
  unfold putK
  rw [if_neg (fun hlt => nlt_ne hlt h), if_pos h]
/-- A row of the join: what the two have under its key, joined. -/
theorem sees_one {l k : Rows} (hl : RiseR l) (hk : RiseR k) (al : ∀ x ∈ l, RowIn x ∧ x.key ∈ [dg 0, dg 1, dg 2, dg 3]) (ak : ∀ x ∈ k, RowIn x ∧ x.key ∈ [dg 0, dg 1, dg 2, dg 3]) {r : Ro} (hr : r ∈ mrgR l k) (hi : RowIn r) :
    mrgR [rowOf l r.key] [rowOf k r.key] = [r] := by
  have hg := getK_mem (key := Ro.key) (mrgK_rise JR.key_ hl) hr
  rw [getK_mrg JR.key_ hl hk] at hg
  unfold rowOf
  cases h1 : getK Ro.key l r.key with
  | none =>
    cases h2 : getK Ro.key k r.key with
    | none => rw [h1, h2] at hg; cases hg
    | some y =>
      rw [h1, h2] at hg
      injection hg with hg
      subst hg
      rw [Option.getD_none, Option.getD_some, one_put (x := Ro.bare y.key) (y := y) rfl, bare_l hi.ok]
  | some x =>
    cases h2 : getK Ro.key k r.key with
    | none =>
      rw [h1, h2] at hg
      injection hg with hg
      subst hg
      rw [Option.getD_none, Option.getD_some, one_put (x := x) (y := Ro.bare x.key) rfl, bare_r hi.ok]
    | some y =>
      have e1 := (getK_some h1).2
      have e2 := (getK_some h2).2
      rw [h1, h2] at hg
      injection hg with hg
      rw [Option.getD_some, Option.getD_some, one_put (e1.trans e2.symm), hg]
theorem rise_one (r : Ro) : RiseR [r] := ⟨fun y hy => (by cases hy), trivial⟩
theorem part_one {k : ByteArray} {g : Int} {r : Ro} (hk : k.size ≤ 100) (hg : stm g = true) (hr : RowIn r) (hd : r.key ∈ [dg 0, dg 1, dg 2, dg 3]) : PartIn ⟨k, g, [r]⟩ :=
  ⟨hk, hg, rise_one r, fun x hx => by rw [List.mem_singleton.1 hx]; exact ⟨hr, hd⟩⟩
theorem seenR_take {g t : Int} {st : Bool} {M : List RA} {i : Nat} (h : i < M.length) :
    seenR g t st (ros (M.take (i + 1))) = seenR g t st (ros (M.take i)) ++ seenR g t st [M[i].ro] := by
  rw [ros_take h]
  unfold seenR
  rw [List.filter_append, List.map_append]
theorem seenR_le {g t : Int} {st : Bool} {M : List RA} {i : Nat} (h : i < M.length) :
    ∃ T, seenR g t st (ros M) = seenR g t st (ros (M.take i)) ++ (seenR g t st [M[i].ro] ++ T) := by
  refine ⟨seenR g t st (ros (M.drop (i + 1))), ?_⟩
  rw [← List.append_assoc, ← seenR_take h]
  conv => lhs; rw [← List.take_append_drop (i + 1) M]
  unfold seenR ros
  rw [List.map_append, List.filter_append, List.map_append]
theorem seenR_one (g t : Int) (st : Bool) (r : Ro) : (seenR g t st [r] = [] ∨ seenR g t st [r] = [r.seenD g t]) := by
  unfold seenR
  rw [List.filter_cons]
  split
  · exact Or.inr rfl
  · exact Or.inl rfl
theorem seenR_cols {g t : Int} {st : Bool} {l : Rows} {y : Ro} (h : y ∈ seenR g t st l) : ∃ r ∈ l, y.cols.length ≤ r.cols.length := by
  unfold seenR at h
  obtain ⟨r, hr, rfl⟩ := List.mem_map.1 h
  exact ⟨r, (List.mem_filter.1 hr).1, List.length_filter_le ..⟩
end Go.Proofs.Ytafbbojfifcncaa
