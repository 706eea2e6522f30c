import Derived.Test.YtmpcnhpdobdmcaaGreatDoorLawNotesL
import Derived.Test.YtmpcnhpdobdmcaaGreatDoorLawNotesD
open Go.Lib (hid)
open List renaming getElem_toArray -> zq1,getElem_cons_succ -> zq2,getElem_cons_zero -> zq3,setIfInBounds_toArray -> zq4,set_cons_zero -> zq5,set_cons_succ -> zq6
set_option linter.unusedVariables false
set_option linter.unusedSimpArgs false
set_option maxHeartbeats 1000000
set_option maxRecDepth 8000
namespace Go.Proofs.YtmpcnhpdobdmcaaGreatDoor
open Go Go.RowKit Go.Maps
theorem step_mapUpd {H : Type} {w : World} {ops : Array Oper} {o : Oper} {a : Act} {K : Act -> World -> Prop} {Q : Exit -> Act -> World -> Prop} {E : Prop} (hgd : o.guard = none) (m x v : Operand) (t : TypeId) (hop : o.op = Op.mapUpdate t m x v)
    (k e : TypeId) (KK : Keyed Tryz.prog k) (ht : Tryz.prog.underlying t = some (.map k e)) (R : Value -> Option (DataW H × List MemPlace)) (b n : Nat) (D : DataW H)
    (hm : a.eval m = .map (some b)) (hown : w.ownsMap Tryz.prog k R b n D) (hn : n < maxLen) (key val : Value) (kl : Lit) (hx : a.eval x = key) (hv : a.eval v = val) (hkey : keyOf Tryz.prog k key = some kl)
    (d : DataW H) (ps : List MemPlace) (hval : R val = some (d,ps))
    (h : ∀ w',w'.ownsMap Tryz.prog k R b (n + 1) (D.put kl d) -> w.mapTurned w' b -> K (a.put o.dst undef) w') : if Region.wanted o (yielded ops a.tmps) = true then Oper.wp Tryz.prog o a w K Q else E := by
 have hw : Region.wanted o (yielded ops a.tmps) = true := by simp [Region.wanted,hgd]
 rw [if_pos hw]
 obtain ⟨w',hrun,r1,r2⟩ := hown.store KK ht hn hkey hval
 unfold Oper.wp
 simp [execOp,hop,hm,hx,hv,hrun,Result.andThen]
 exact h w' r1 r2
theorem dadd_bad (F : Nat -> Prop) (p : Nat) (S : Fl) (n : Int) (b : ByteArray) (w : World) (h : NoIs w F p S) (hk : NOk S) (hn : (Lit.int .i64 n).wf = true) (hb : b.size <= maxLen) (hbad : BadN S n b) :
    Calls Tryz.prog 42 #[.pointer (some ⟨p,0,none⟩),.agg #[.int .i64 n,.string b]] w fun e w' => e = .returned (.bool false) /\ Below w.heap.size w w' := by
 have hb0 := (Below.refl w.heap.size w).alloc (Nat.le_refl _) (.cells #[.int .i64 n,.string b] 57)
 have hN : NoIs (w.alloc (.cells #[.int .i64 n,.string b] 57)) F p S := by obtain ⟨m,h⟩ := h; exact ⟨m,h.below hb0⟩
 have HN := hid hN; have HW := hid hn; have HL := hid hk.len; have HB0 := hid hb0; have HBAD := hid hbad
 clear h hN hn hk hb0 hbad hb
 by_cases k1 : n < 1
 ·have d1 : decide (n < 1) = true := by simpa using k1
  clear k1
  go_enter Tryz.func42,Tryz.ntmps42
  go_wp2
  go_ret
  exact ⟨rfl,HB0.out⟩
 ·have d1 : decide (n < 1) = false := by simpa using k1
  by_cases k2 : 1099511627776 < n
  ·have d2 : decide (1099511627776 < n) = true := by simpa using k2
   clear k1 k2
   go_enter Tryz.func42,Tryz.ntmps42
   go_wp2
   go_ret
   exact ⟨rfl,HB0.out⟩
  ·have d2 : decide (1099511627776 < n) = false := by simpa using k2
   by_cases k3 : 4096 < b.size
   ·have d3 : decide ((4096 : Int) < (b.size : Nat)) = true := by simp; omega
    clear k1 k2 k3
    go_enter Tryz.func42,Tryz.ntmps42
    go_wp2
    go_ret
    exact ⟨rfl,HB0.out⟩
   ·have d3 : decide ((4096 : Int) < (b.size : Nat)) = false := by simp; omega
    have hr : (!decide (hasF S n = false /\ 300 <= S.length)) = false := by
     rcases HBAD.out with h | h | h | h
     ·omega
     ·omega
     ·omega
     ·simp [h.1,h.2]
    have HR := hid hr
    clear k1 k2 k3 hr
    go_enter Tryz.func42,Tryz.ntmps42
    go_wp2_with (go_at_call 69; refine (droom_any F p S n _ HN.out HW.out HL.out).mono ?_; rintro e w2 ⟨rfl,b2⟩; rw [HR.out])
    go_ret
    exact ⟨rfl,HB0.out.trans (b2.mono HB0.out.size)⟩
theorem dadd_ok (F : Nat -> Prop) (p : Nat) (S : Fl) (n : Int) (b : ByteArray) (w : World) (h : NoIs w F p S) (hF : In F w) (hk : NOk S) (hn : (Lit.int .i64 n).wf = true) (hbad : ¬ BadN S n b) :
    Calls Tryz.prog 42 #[.pointer (some ⟨p,0,none⟩),.agg #[.int .i64 n,.string b]] w fun e w' => e = .returned (.bool true) /\ NoIs w' F p (putN S n b) /\ Step F w F w' := by
 have hb0 := (Below.refl w.heap.size w).alloc (Nat.le_refl _) (.cells #[.int .i64 n,.string b] 57)
 have hq := heap_alloc_new w (.cells #[.int .i64 n,.string b] 57)
 have hN : NoIs (w.alloc (.cells #[.int .i64 n,.string b] 57)) F p S := by obtain ⟨m,h⟩ := h; exact ⟨m,h.below hb0⟩
 have hput := put_mapD S hk.up n b
 have hfl : S.length < maxLen := by have := hk.len; unfold maxLen; omega
 have hr : (!decide (hasF S n = false /\ 300 <= S.length)) = true := by
  have : ¬ (hasF S n = false /\ 300 <= S.length) := fun h => hbad (Or.inr (Or.inr (Or.inr h)))
  simp only [this,decide_false,Bool.not_false]
 unfold BadN at hbad
 have d1 : decide (n < 1) = false := by simp; omega
 have d2 : decide (1099511627776 < n) = false := by simp; omega
 have d3 : decide ((4096 : Int) < (b.size : Nat)) = false := by simp; omega
 have HN := hid hN; have HW := hid hn; have HL := hid hk.len; have HB0 := hid hb0; have HR := hid hr; have HP := hid hput; have HFL := hid hfl; have HQ := hid hq; have HF := hid hF
 clear h hN hn hk hb0 hbad hr hput hfl hq hF
 go_enter Tryz.func42,Tryz.ntmps42
 go_wp2_with (go_at_call 69; refine (droom_any F p S n _ HN.out HW.out HL.out).mono ?_; rintro e w2 ⟨rfl,b2⟩; rw [HR.out])
 have B2 := hid b2
 obtain ⟨m,hm⟩ : NoIs w2 F p S := by obtain ⟨m,h⟩ := HN.out; exact ⟨m,h.below b2⟩
 have hq2 := (b2.block _ (Array.getElem?_eq_some_iff.1 HQ.out).1).trans HQ.out
 have HM := hid hm
 have HC := hid (⟨hm.cell,cell_at (i := 0) hq2 rfl,cell_at (i := 1) hq2 rfl⟩ : w2.cell? ⟨p,0,none⟩ = some (.map (some m)) /\ w2.cell? ⟨w.heap.size,0,none⟩ = some (.int .i64 n) /\ w2.cell? ⟨w.heap.size,1,none⟩ = some (.string b))
 clear b2 hm hq2
 go_wp2_with fail
 refine wp_region_z (S := fun w' => w' = w2.drew) 7 (by kernel_rfl) ?_ (fun hHeld => ?_)
 ·rfl
 refine takesZ [0,1,2,3,4,5,6] ?_
 repeat
  refine takesZ_one (v := ?_) ?_ ?_
  rotate_left
  ·first | (refine Or.inr ⟨by rfl,?_⟩; with_reducible rfl) | (refine Or.inl ⟨by rfl,?_⟩; intro wx hSw; (try dsimp only at hSw); subst hSw; first | (go_simp; first | done | with_reducible rfl) | (obtain ⟨_,_,_⟩ := HC.out; go_simp; first | done | with_reducible rfl))
  try simp only [Act.put,zq1,zq2,zq3,zq4,zq5,zq6]
 refine takesZ_nil ?_
 refine wpAnyZ_last (by kernel_rfl) rfl (fun K hK => ?_)
 refine step_mapUpd rfl _ _ _ 83 rfl 3 57 keyI Tryz.underlying83 elemD m _ (mapD S) rfl HM.out.own HFL.out _ _ (.int .i64 n) rfl rfl (Maps.keyOf_int_mk Tryz.underlying3 HW.out) _ _ (elemD_mk (n,b)) ?_
 intro w3 hown3 hturn3
 refine hK.out _ _ ?_
 clear hK K
 try simp only [Act.put,zq1,zq2,zq3,zq4,zq5,zq6]
 refine wpAnyZ_done (by kernel_rfl) ?_ _
 go_wp2
 go_ret
 rw [HP.out] at hown3
 have hbb : Below w.heap.size w w2 := HB0.out.trans (B2.out.mono HB0.out.size)
 have hM : NoAt w2.drew F p m S := ⟨HM.out.blk,HM.out.own,HM.out.fp,HM.out.fm⟩
 have hk : Kept F w w3 := ((Kept.of_below hbb F).drew).trans (Kept.of_grown hturn3.grown fun k hk => (by injection hk with hk; subst hk; exact HM.out.fm)) fun k hk => Or.inl hk
 exact ⟨rfl,⟨m,hM.set_map (fs := putN S n b) hturn3.grown hown3⟩,hk,fun k hk2 => Or.inl hk2⟩
theorem dadd_any (F : Nat -> Prop) (p : Nat) (S : Fl) (n : Int) (b : ByteArray) (w : World) (h : NoIs w F p S) (hF : In F w) (hk : NOk S) (hn : (Lit.int .i64 n).wf = true) (hb : b.size <= maxLen) :
    Calls Tryz.prog 42 #[.pointer (some ⟨p,0,none⟩),.agg #[.int .i64 n,.string b]] w fun e w' => e = .returned (.bool (addN S n b).2) /\ NoIs w' F p (addN S n b).1 /\ Step F w F w' := by
 unfold addN
 by_cases hbad : BadN S n b
 ·rw [if_pos hbad]
  refine (dadd_bad F p S n b w h hk hn hb hbad).mono ?_
  rintro e w' ⟨rfl,b1⟩
  obtain ⟨m,h⟩ := h
  exact ⟨rfl,⟨m,h.below b1⟩,Kept.of_below b1 F,fun k hk => Or.inl hk⟩
 ·rw [if_neg hbad]
  exact dadd_ok F p S n b w h hF hk hn hbad
end Go.Proofs.YtmpcnhpdobdmcaaGreatDoor
