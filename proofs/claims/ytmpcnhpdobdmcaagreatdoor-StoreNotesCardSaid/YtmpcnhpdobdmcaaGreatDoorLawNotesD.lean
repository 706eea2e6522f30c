import Derived.Test.YtmpcnhpdobdmcaaGreatDoorProg
import Derived.Deep.RegionHeld3
set_option linter.unusedVariables false
set_option linter.unusedSimpArgs false
namespace Go.Proofs.YtmpcnhpdobdmcaaGreatDoor
open Go
section
variable {P : Program} {ops : Array Oper} {Q : Exit -> Act -> World -> Prop} {md : Region.Mode} {T : Array Bool -> Act -> World -> Prop} {R : World -> World -> Prop} {D : World -> Prop}
def Only (o : Oper) (a a' : Act) : Prop := ∃ u ds,a' = ({ a with defers := ds } : Act).put o.dst u
theorem step_only {j : Nat} {oj : Oper} (hj : ops[j]? = some oj) {K : Act -> World -> Prop} {a : Act} {w : World} (h : wpOp P ops Q j K a w) : wpOp P ops Q j (fun a' w' => K a' w' /\ Only oj a a') a w := by
 have here : ∀ (u : Value) (w' : World),K (a.put oj.dst u) w' -> K (a.put oj.dst u) w' /\ Only oj a (a.put oj.dst u) := fun u w' hk => ⟨hk,u,a.defers,rfl⟩
 unfold wpOp at h ⊢
 rw [hj] at h ⊢
 dsimp only at h ⊢
 by_cases hw : Region.wanted oj (yielded ops a.tmps) = true
 ·rw [if_pos hw] at h ⊢
  refine h.imp_left fun h => ?_
  unfold Oper.wp at h ⊢
  rcases hrun : (execOp a.eval oj).run P w with ⟨n,w'⟩ | ⟨x,w'⟩
  ·rw [hrun] at h
   cases n with
   | value u => exact here u w' h
   | skip => exact here undef w' h
   | defer d => exact ⟨h,undef,d :: a.defers,rfl⟩
   | enter f args =>
     refine Calls.mono h fun e w'' he => ?_
     cases e with
     | returned u => exact here u w'' he
     | panicked c => exact he
     | outgrown => exact he
   | row row args => exact Rows.mono h fun u w'' he => here u w'' he
   | _ => exact h
  ·rw [hrun] at h
   cases x <;> exact h
 ·rw [if_neg hw] at h ⊢
  exact here undef w h
def Out (P : Program) (R : World -> World -> Prop) (E : Sem Next) (v : Value) (w : World) : Prop :=
 E.run P w = .ok (.value v) w \/ ∃ f args,E.run P w = .ok (.enter f args) w /\ Calls P f args w fun e w' => e = .returned v /\ R w w'
def Gives (P : Program) (ops : Array Oper) (R : World -> World -> Prop) (D : World -> Prop) (o : Oper) (v : Value) (a : Act) : Prop :=
 (Region.wanted o (yielded ops a.tmps) = true /\ ∀ w,D w -> Out P R (execOp a.eval o) v w) \/ (Region.wanted o (yielded ops a.tmps) = false /\ v = undef)
theorem Gives.step {i : Nat} {o : Oper} {v : Value} {a : Act} (hi : ops[i]? = some o) (h : Gives P ops R D o v a) {w : World} (hD : D w) (hr : R w w) {K : Act -> World -> Prop} (hk : ∀ w',R w w' -> K (a.put o.dst v) w') : wpOp P ops Q i K a w := by
 unfold wpOp
 rw [hi]
 dsimp only
 rcases h with ⟨hw,h⟩ | ⟨hw,rfl⟩
 ·rw [if_pos hw]
  refine Or.inl ?_
  unfold Oper.wp
  rcases h w hD with hrun | ⟨f,args,hrun,hc⟩ <;> rw [hrun]
  ·exact hk w hr
  ·exact hc.mono fun e w' ⟨he,hR⟩ => by subst he; exact hk w' hR
 ·rw [if_neg (by rw [hw]; decide)]
  exact hk w hr
def Goes (P : Program) (md : Region.Mode) (ops : Array Oper) (Q : Exit -> Act -> World -> Prop) (T : Array Bool -> Act -> World -> Prop) (R : World -> World -> Prop) : Nat -> Array Bool -> Act -> World -> Prop
 | 0,L,a,w => Region.ready md ops L = [] /\ Q .normal a w
 | n + 1,L,a,w => (Region.ready md ops L = [] -> Q .normal a w) /\ ∀ i ∈ Region.ready md ops L,
     wpOp P ops Q i (fun a' w' => T (L.setIfInBounds i true) a' w' /\ ∀ w'',R w' w'' -> T (L.setIfInBounds i true) a' w'' -> Goes P md ops Q T R n (L.setIfInBounds i true) a' w'') a w
theorem goes_any (hr : ∀ w,R w w) : ∀ (n : Nat) (L : Array Bool) (a : Act) (w : World),Goes P md ops Q T R n L a w -> wpAny P md ops Q n L a w
 | 0,_,_,_,h => h
 | n + 1,_,_,_,h => ⟨h.1,fun i hi => wpOp_mono (fun a' w' hk => goes_any hr n _ a' w' (hk.2 w' (hr w') hk.1)) (h.2 i hi)⟩
structure First (ops : Array Oper) (md : Region.Mode) (i : Nat) (oi : Oper) (Q : Exit -> Act -> World -> Prop) (v : Value) : Prop where
 at_ : ops[i]? = some oi
 sel : ∀ (j : Nat) (o : Oper) cs b,ops[j]? = some o -> o.op ≠ .select cs b
 self : ∀ d,oi.dst = some d -> d ∉ oi.looksAt ops
 out : ∀ c a w,Q (.panic c) (a.put oi.dst v) w -> Q (.panic c) a w
def Clear (ops : Array Oper) (md : Region.Mode) (i : Nat) (oi : Oper) (L : Array Bool) : Prop :=
 ∀ j oj,ops[j]? = some oj -> j ≠ i -> L.getD j true = false -> (∀ e ∈ oj.after,Region.binds md e = true -> e.on ≠ i) -> oi.apart ops oj = true
theorem Clear.on {i : Nat} {oi : Oper} {L : Array Bool} (h : Clear ops md i oi L) (j : Nat) : Clear ops md i oi (L.setIfInBounds j true) := fun k ok hk hne hun hno => by
 refine h k ok hk hne ?_ hno
 rcases Nat.decEq j k with hjk | hjk
 ·rwa [getD_set_ne true hjk] at hun
 ·subst hjk
  rcases Nat.lt_or_ge j L.size with hs | hs
  ·simp [hs] at hun
  ·simp [Array.getElem?_eq_none hs] at hun
theorem goes_first {i : Nat} {oi : Oper} {v : Value} (hi : First ops md i oi Q v) (hr : ∀ w,R w w) (ht : ∀ {x y z},R x y -> R y z -> R x z) (F : Array Bool -> Prop)
    (hF : ∀ L j oj,F L -> ops[j]? = some oj -> (∀ e ∈ oj.after,Region.binds md e = true -> e.on ≠ i) -> F (L.setIfInBounds j true))
    (hD : ∀ L a w,F L -> T L a w -> D w) (hG : ∀ L a w w',F L -> T L a w -> R w w' -> T L a w')
    (hT : ∀ L a w,F L -> (T L a w ↔ T (L.setIfInBounds i true) (a.put oi.dst v) w)) :
    ∀ (n : Nat) (L : Array Bool) (a : Act) (w : World),F L -> Clear ops md i oi L -> i ∈ Region.ready md ops L -> Gives P ops R D oi v a -> T L a w ->
      (∀ w',R w w' -> T L a w' -> Goes P md ops Q T R n (L.setIfInBounds i true) (a.put oi.dst v) w') -> Goes P md ops Q T R (n + 1) L a w
 | n,L,a,w,hFL,hC,hir,hy,hTw,H => by
   have none_ : Region.ready md ops L = [] -> Q .normal a w := fun e => by rw [e] at hir; cases hir
   refine ⟨none_,fun j hj => ?_⟩
   rcases Nat.decEq j i with hne | heq
   ·-- another one comes up: i may have been first
    obtain ⟨hun,oj,hoj,hdep⟩ := mem_ready.1 hj
    have hno : ∀ e ∈ oj.after,Region.binds md e = true -> e.on ≠ i := fun e he hb hon => by
     have hl := hdep e he hb
     have hu := (mem_ready.1 hir).1
     rw [hon] at hl
     rcases Nat.lt_or_ge i L.size with hs | hs
     ·simp [hs] at hu hl
      rw [hu] at hl
      cases hl
     ·simp [Array.getElem?_eq_none hs] at hl
    have hap := hC j oj hoj hne hun hno
    obtain ⟨p1,p2,p3⟩ := Oper.apart_spec hap
    cases n with
    | zero =>
      have h0 := (H w (hr w) hTw).1
      have hjr := ready_mono hj hne
      rw [h0] at hjr
      cases hjr
    | succ n =>
      have h1 := (H w (hr w) hTw).2 j (ready_mono hj hne)
      have hyF : YieldsIf P ops (fun _ => False) oi v a := hy.imp (fun h => ⟨h.1,fun _ hf => hf.elim⟩) id
      have h2 := wpOp_putIf hoj hap (fun cs b => hi.sel i oi cs b hi.at_) (fun cs b => hi.sel j oj cs b hoj) hi.out hyF (step_only hoj h1)
      refine wpOp_mono (fun a' w' hk => ?_) h2
      obtain ⟨_,⟨hT',hgo⟩,u,ds,hon⟩ := hk
      rw [Array.setIfInBounds_comm _ _ (Ne.symm hne)] at hT' hgo
      have hF' := hF L j oj hFL hoj hno
      have hT2 := (hT _ a' w' hF').2 hT'
      -- i reads at a' what it read at a
      have eval_ : execOp a'.eval oi = execOp a.eval oi := by
       rw [<- execOp_put oi (fun cs b => hi.sel i oi cs b hi.at_) a' oi.dst v hi.self,hon,execOp_put oi (fun cs b => hi.sel i oi cs b hi.at_) _ oj.dst u p3]
       exact execOp_put oi (fun cs b => hi.sel i oi cs b hi.at_) a oi.dst v hi.self
      have want_ : Region.wanted oi (yielded ops a'.tmps) = Region.wanted oi (yielded ops a.tmps) := by
       rw [<- wanted_put oi a' oi.dst v hi.self,hon,wanted_put oi _ oj.dst u p3]
       exact wanted_put oi a oi.dst v hi.self
      have hy' : Gives P ops R D oi v a' := by
       unfold Gives at hy ⊢
       rw [eval_,want_]
       exact hy
      refine ⟨hT2,fun w'' hw hTw'' => goes_first hi hr ht F hF hD hG hT n _ a' w'' hF' (hC.on j) (ready_mono hir (Ne.symm hne)) hy' hTw'' fun w3 hw3 hT3 => ?_⟩
      exact hgo w3 (ht hw hw3) ((hT _ a' w3 hF').1 hT3)
   ·subst heq
    refine hy.step hi.at_ (hD L a w hFL hTw) (hr w) fun w' hw => ?_
    have h1 := hG L a w w' hFL hTw hw
    exact ⟨(hT L a w' hFL).1 h1,fun w'' hw2 hT2 => H w'' (ht hw hw2) ((hT L a w'' hFL).2 hT2)⟩
variable {S : World -> Prop} {z : Nat}
def knownZ (S : World -> Prop) (z : Nat) : Array Bool -> Act -> World -> Prop := fun L _ w => L.getD z true = false -> S w
def wpAnyZ (P : Program) (md : Region.Mode) (ops : Array Oper) (Q : Exit -> Act -> World -> Prop) (S : World -> Prop) (z : Nat) : Nat -> Array Bool -> Act -> World -> Prop := Goes P md ops Q (knownZ S z) Eq
def waitsB (md : Region.Mode) (ops : Array Oper) (z i : Nat) : Bool := match ops[z]?,ops[i]? with
 | some o,some oi => o.after.any (fun e => Region.binds md e && e.on == i) && (match oi.dst with | some d => !(oi.looksAt ops).contains d | none => true)
 | _,_ => false
theorem wpAnyZ_take {i : Nat} {oi : Oper} {v : Value} {fuel : Nat} {listed : Array Bool} {a : Act} {w : World} (hi : ops[i]? = some oi)
    (hs : Region.noSelect ops = true) (hf : Region.free md ops listed i = true) (hr : (Region.ready md ops listed).contains i = true) (hz : (waitsB md ops z i && !listed.getD z true) = true)
    (hQ : ∀ c a w,Q (.panic c) (a.put oi.dst v) w -> Q (.panic c) a w) (hy : YieldsIf P ops S oi v a) (hS : S w)
    (h : wpAnyZ P md ops Q S z fuel (listed.setIfInBounds i true) (a.put oi.dst v) w) : wpAnyZ P md ops Q S z (fuel + 1) listed a w := by
 rw [Bool.and_eq_true,Bool.not_eq_true'] at hz
 obtain ⟨hz1,hz2⟩ := hz
 unfold waitsB at hz1
 cases ho : ops[z]? with
 | none => rw [ho] at hz1; cases hz1
 | some oz =>
   rw [ho,hi] at hz1
   simp only [Bool.and_eq_true] at hz1
   obtain ⟨hw1,hw2⟩ := hz1
   obtain ⟨k,hk,he⟩ := Array.any_eq_true.1 hw1
   rw [Bool.and_eq_true,beq_iff_eq] at he
   have zi : z ≠ i \/ True := Or.inr trivial
   have hself : ∀ d,oi.dst = some d -> d ∉ oi.looksAt ops := fun d hd => by
    rw [hd] at hw2
    simpa using hw2
   have hready : i ∈ Region.ready md ops listed := by simpa using hr
   -- a list that i may be added to or not: z is none of it
   have hset : ∀ (L : Array Bool) (j : Nat),j ≠ z -> (L.setIfInBounds j true).getD z true = L.getD z true := fun L j hj => getD_set_ne true hj
   have hiz : i ≠ z := fun e => by
    subst e
    have := mem_ready.1 hready
    obtain ⟨hl0,o,ho',hd⟩ := this
    rw [ho] at ho'
    injection ho' with ho'
    subst ho'
    have h1 := hd _ (Array.getElem_mem hk) he.1
    rw [he.2] at h1
    rcases Nat.lt_or_ge i listed.size with hs2 | hs2
    ·simp [hs2] at h1 hz2
     rw [h1] at hz2
     cases hz2
    ·simp [Array.getElem?_eq_none hs2] at h1
   exact goes_first (D := S) (R := Eq) (T := knownZ S z) ⟨hi,Region.noSelect_spec hs,hself,hQ⟩ (fun _ => rfl) (fun h h' => h.trans h') (fun L => L.getD z true = false)
    (fun L j oj hL hj hno => by
      refine (hset L j fun e => ?_).trans hL
      subst e
      rw [ho] at hj
      injection hj with hj
      subst hj
      exact hno _ (Array.getElem_mem hk) he.1 he.2)
    (fun L a w hL hT => hT hL) (fun L a w w' hL hT e => e ▸ hT) (fun L a w hL => by unfold knownZ; rw [hset L i hiz])
    fuel listed a w hz2 (Region.free_spec hi hf) hready (hy.imp (fun h => ⟨h.1,fun w hw => Or.inl (h.2 w hw)⟩) id) (fun _ => hS) (fun w' e _ => by subst e; exact h)
structure TakeZ (P : Program) (md : Region.Mode) (ops : Array Oper) (Q : Exit -> Act -> World -> Prop) (S : World -> Prop) (z : Nat) (is : List Nat) (fuel : Nat) (listed : Array Bool) (a : Act) (w : World) : Prop where
 run : wpAnyZ P md ops Q S z fuel listed a w
theorem takesZ {z : Nat} (is : List Nat) {fuel : Nat} {listed : Array Bool} {a : Act} {w : World} (h : TakeZ P md ops Q S z is fuel listed a w) : wpAnyZ P md ops Q S z fuel listed a w := h.run
theorem takesZ_nil {z : Nat} {fuel : Nat} {listed : Array Bool} {a : Act} {w : World} (h : wpAnyZ P md ops Q S z fuel listed a w) : TakeZ P md ops Q S z [] fuel listed a w := ⟨h⟩
theorem takesZ_one {z i : Nat} {is : List Nat} {oi : Oper} {v : Value} {fuel : Nat} {listed : Array Bool} {a : Act} {w : World} (hy : YieldsIf P ops S oi v a)
    (h : TakeZ P md ops Q S z is fuel (listed.setIfInBounds i true) (a.put oi.dst v) w) (hi : ops[i]? = some oi := by rfl)
    (hs : Region.noSelect ops = true := by kernel_rfl) (hf : Region.free md ops listed i = true := by kernel_rfl) (hr : (Region.ready md ops listed).contains i = true := by kernel_rfl) (hz : (waitsB md ops z i && !listed.getD z true) = true := by kernel_rfl)
    (hQ : ∀ c a w,Q (.panic c) (a.put oi.dst v) w -> Q (.panic c) a w := by exact fun _ _ _ h => h) (hS : S w := by assumption) : TakeZ P md ops Q S z (i :: is) (fuel + 1) listed a w :=
 ⟨wpAnyZ_take hi hs hf hr hz hQ hy hS h.run⟩
theorem wpAnyZ_done {listed : Array Bool} {a : Act} {w : World} (hr : Region.ready md ops listed = []) (h : Q .normal a w) : ∀ fuel,wpAnyZ P md ops Q S z fuel listed a w
 | 0 => ⟨hr,h⟩
 | _ + 1 => ⟨fun _ => h,fun i hi => by rw [hr] at hi; cases hi⟩
theorem wpAnyZ_one {fuel : Nat} {listed : Array Bool} {a : Act} {w : World} {i : Nat} {o : Oper} (hr : Region.ready md ops listed = [i]) (ho : ops[i]? = some o)
    (h : ∀ K' : Act -> World -> Prop,Shut (∀ a w,S w -> (S w -> wpAnyZ P md ops Q S z fuel (listed.setIfInBounds i true) a w) -> K' a w) -> if Region.wanted o (yielded ops a.tmps) = true then Oper.wp P o a w K' Q else K' (a.put o.dst undef) w) :
    wpAnyZ P md ops Q S z (fuel + 1) listed a w := by
 refine ⟨fun e => (by rw [hr] at e; cases e),fun j hj => ?_⟩
 rw [hr] at hj
 rw [List.mem_singleton.1 hj]
 exact wpOp_step ho fun K' hK => h K' fun a' w' hS hgo => hK a' w' ⟨fun _ => hS,fun w'' e _ => by subst e; exact hgo hS⟩
theorem wpAnyZ_last {fuel : Nat} {listed : Array Bool} {a : Act} {w : World} {o : Oper} (hr : Region.ready md ops listed = [z]) (ho : ops[z]? = some o)
    (h : ∀ K' : Act -> World -> Prop,Shut (∀ a w,wpAnyZ P md ops Q S z fuel (listed.setIfInBounds z true) a w -> K' a w) -> if Region.wanted o (yielded ops a.tmps) = true then Oper.wp P o a w K' Q else K' (a.put o.dst undef) w) :
    wpAnyZ P md ops Q S z (fuel + 1) listed a w := by
 refine ⟨fun e => (by rw [hr] at e; cases e),fun j hj => ?_⟩
 rw [hr] at hj
 rw [List.mem_singleton.1 hj]
 refine wpOp_step ho fun K' hK => h K' fun a' w' hgo => hK a' w' ⟨fun e => ?_,fun w'' e _ => by subst e; exact hgo⟩
 rcases Nat.lt_or_ge z listed.size with hs | hs
 ·simp [hs] at e
 ·simp [Array.getElem?_eq_none hs] at e
theorem wp_region_z {id : Nat} {a : Act} {w : World} (z : Nat) (hm : P.follows .mixedOrders = true) (hS : S w.drew)
    (h : S w.drew -> wpAnyZ P .any ops Q S z ops.size (Array.replicate ops.size false) a w.drew) : (Code.region id ops true).wp P Q a w :=
 wp_region_any hm (goes_any (fun _ => rfl) _ _ _ _ (h hS))
end
end Go.Proofs.YtmpcnhpdobdmcaaGreatDoor
namespace Go.Proofs.YtmpcnhpdobdmcaaGreatDoor
open Go
section
variable {P : Program} {ops : Array Oper} {Q : Exit -> Act -> World -> Prop} {md : Region.Mode} {S : World -> Prop} {z : Nat}
def selfB (ops : Array Oper) (oi : Oper) : Bool := match oi.dst with | some d => !(oi.looksAt ops).contains d | none => true
theorem wpAnyZ_takeT {i : Nat} {oi : Oper} {v : Value} {fuel : Nat} {listed : Array Bool} {a : Act} {w : World} (hi : ops[i]? = some oi)
    (hs : Region.noSelect ops = true) (hf : Region.free md ops listed i = true) (hr : (Region.ready md ops listed).contains i = true) (hz : (decide (i ≠ z) && selfB ops oi) = true)
    (hQ : ∀ c a w,Q (.panic c) (a.put oi.dst v) w -> Q (.panic c) a w) (hy : YieldsIf P ops (fun _ => True) oi v a) (hS : listed.getD z true = false -> S w)
    (h : wpAnyZ P md ops Q S z fuel (listed.setIfInBounds i true) (a.put oi.dst v) w) : wpAnyZ P md ops Q S z (fuel + 1) listed a w := by
 rw [Bool.and_eq_true,decide_eq_true_iff] at hz
 obtain ⟨hz1,hz2⟩ := hz
 have hself : ∀ d,oi.dst = some d -> d ∉ oi.looksAt ops := fun d hd => by
  unfold selfB at hz2
  rw [hd] at hz2
  simpa using hz2
 have hready : i ∈ Region.ready md ops listed := by simpa using hr
 exact goes_first (D := fun _ => True) (R := Eq) (T := knownZ S z) ⟨hi,Region.noSelect_spec hs,hself,hQ⟩ (fun _ => rfl) (fun h h' => h.trans h') (fun _ => True)
  (fun _ _ _ _ _ _ => trivial) (fun _ _ _ _ _ => trivial) (fun L a w w' _ hT e => e ▸ hT) (fun L a w _ => by unfold knownZ; rw [getD_set_ne true hz1])
  fuel listed a w trivial (Region.free_spec hi hf) hready (hy.imp (fun h => ⟨h.1,fun w hw => Or.inl (h.2 w hw)⟩) id) hS (fun w' e _ => by subst e; exact h)
theorem takesZ_oneT {z i : Nat} {is : List Nat} {oi : Oper} {v : Value} {fuel : Nat} {listed : Array Bool} {a : Act} {w : World} (hy : YieldsIf P ops (fun _ => True) oi v a)
    (h : TakeZ P md ops Q S z is fuel (listed.setIfInBounds i true) (a.put oi.dst v) w) (hS : listed.getD z true = false -> S w) (hi : ops[i]? = some oi := by rfl)
    (hs : Region.noSelect ops = true := by kernel_rfl) (hf : Region.free md ops listed i = true := by kernel_rfl) (hr : (Region.ready md ops listed).contains i = true := by kernel_rfl) (hz : (decide (i ≠ z) && selfB ops oi) = true := by kernel_rfl)
    (hQ : ∀ c a w,Q (.panic c) (a.put oi.dst v) w -> Q (.panic c) a w := by exact fun _ _ _ h => h) : TakeZ P md ops Q S z (i :: is) (fuel + 1) listed a w :=
 ⟨wpAnyZ_takeT hi hs hf hr hz hQ hy hS h.run⟩
theorem wpAnyZ_past {fuel : Nat} {listed : Array Bool} {a : Act} {w : World} {i : Nat} {o : Oper} (hr : Region.ready md ops listed = [i]) (ho : ops[i]? = some o) (hz : listed.getD z true = true)
    (h : ∀ K' : Act -> World -> Prop,Shut (∀ a w,wpAnyZ P md ops Q S z fuel (listed.setIfInBounds i true) a w -> K' a w) -> if Region.wanted o (yielded ops a.tmps) = true then Oper.wp P o a w K' Q else K' (a.put o.dst undef) w) :
    wpAnyZ P md ops Q S z (fuel + 1) listed a w := by
 refine ⟨fun e => (by rw [hr] at e; cases e),fun j hj => ?_⟩
 rw [hr] at hj
 rw [List.mem_singleton.1 hj]
 refine wpOp_step ho fun K' hK => h K' fun a' w' hgo => hK a' w' ⟨fun e => ?_,fun w'' e _ => by subst e; exact hgo⟩
 rcases Nat.decEq z i with hne | heq
 ·rw [getD_set_ne true (fun e => hne e.symm)] at e
  rw [hz] at e
  cases e
 ·subst heq
  rcases Nat.lt_or_ge z listed.size with hs | hs
  ·simp [hs] at e
  ·simp [Array.getElem?_eq_none hs] at e
end
end Go.Proofs.YtmpcnhpdobdmcaaGreatDoor
