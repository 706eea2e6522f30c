/-
  The developers' Merge of rows.
-/
import Derived.Test.YtafbbojfifcncaaPm0
import Derived.Deep.DeepCutAuto
import Derived.Deep.CutBlock
set_option linter.unusedVariables false
set_option linter.unusedSimpArgs false
namespace Go.Proofs.Ytafbbojfifcncaa
open Go Go.RowKit

/-- The merge under way. -/
structure MSt (w wr : World) (B B' : Nat) (R : List Ro) (A1 A2 : Option Addr) (n1 n2 c1 c2 : Nat) (la lb M : List RA) (vm : Value) : Prop where
  a : Lies w B A1 n1 c1 la
  b : Lies w B' A2 n2 c2 lb
  sum : M.length + (n1 + n2) ≤ 1000
  run : runK Ro.key Ro.join (ros M) (ros la) (ros lb) = R
  ua : ∀ x ∈ la, x.ro.Up
  ub : ∀ x ∈ lb, x.ro.Up
  um : ∀ x ∈ M, x.ro.Up
  tt : tot M + (tot la + tot lb) ≤ 1000
  own : Own w wr vm M
/-- .. with x taken off a list. -/
structure MPd (w : World) (B B' : Nat) (R : List Ro) (A1 A2 : Option Addr) (n1 n2 c1 c2 : Nat) (la lb M : List RA) (x : RA) : Prop where
  a : Lies w B A1 n1 c1 la
  b : Lies w B' A2 n2 c2 lb
  sum : M.length + 1 + (n1 + n2) ≤ 1000
  run : runK Ro.key Ro.join (pushK Ro.key Ro.join (ros M) x.ro) (ros la) (ros lb) = R
  ua : ∀ x ∈ la, x.ro.Up
  ub : ∀ x ∈ lb, x.ro.Up
  um : ∀ x ∈ M, x.ro.Up
  ux : x.ro.Up
  tt : tot M + x.ro.cols.length + (tot la + tot lb) ≤ 1000
section
variable {w wr w' : World} {B B' : Nat} {R : List Ro} {A1 A2 : Option Addr} {n1 n2 c1 c2 : Nat} {la lb M L : List RA} {vm v' : Value} {x y z : RA}
theorem MPd.app (h : MPd w B B' R A1 A2 n1 n2 c1 c2 la lb M x) (hp : pushK Ro.key Ro.join (ros M) x.ro = ros M ++ [x.ro]) (ho : Own w w' v' (M ++ [x])) : MSt w w' B B' R A1 A2 n1 n2 c1 c2 la lb (M ++ [x]) v' where
  a := h.a
  b := h.b
  sum := by have := h.sum; simp; omega
  run := by have := h.run; rw [hp] at this; simpa [ros] using this
  ua := h.ua
  ub := h.ub
  um := fun y hy => by
    rcases List.mem_append.1 hy with h1 | h1
    · exact h.um y h1
    · rw [List.mem_singleton.1 h1]; exact h.ux
  tt := by have := h.tt; rw [tot_app, tot_cons, tot_nil]; omega
  own := ho
theorem MPd.put (h : MPd w B B' R A1 A2 n1 n2 c1 c2 la lb M x) (hM : M = L ++ [y]) (hk : y.ro.key = x.ro.key) (hz : z.ro = y.ro.join x.ro) (ho : Own w w' v' (M.set L.length z)) : MSt w w' B B' R A1 A2 n1 n2 c1 c2 la lb (L ++ [z]) v' where
  a := h.a
  b := h.b
  sum := by have := h.sum; rw [hM] at this; simp at this ⊢; omega
  run := by
    have := h.run
    rw [hM, show ros (L ++ [y]) = ros L ++ [y.ro] by simp [ros], pushK_last, if_pos hk] at this
    rw [show ros (L ++ [z]) = ros L ++ [z.ro] by simp [ros], hz]
    exact this
  ua := h.ua
  ub := h.ub
  um := fun t ht => by
    rcases List.mem_append.1 ht with h1 | h1
    · exact h.um t (by rw [hM]; exact List.mem_append_left _ h1)
    · rw [List.mem_singleton.1 h1, hz]; exact (h.um y (by rw [hM]; simp)).join h.ux
  tt := by
    have := h.tt
    rw [hM, tot_app, tot_cons, tot_nil] at this
    rw [tot_app, tot_cons, tot_nil, hz]
    have := len_join y.ro x.ro
    omega
  own := by
    have e : M.set L.length z = L ++ [z] := by rw [hM]; simp
    rw [← e]
    exact ho
theorem MSt.takeA (h : MSt w wr B B' R A1 A2 n1 n2 c1 c2 (x :: la) lb M vm) (A1' : Option Addr) (ha : Lies w B A1' (n1 - 1) (c1 - 1) la) (hr : runK Ro.key Ro.join (pushK Ro.key Ro.join (ros M) x.ro) (ros la) (ros lb) = R) : MPd w B B' R A1' A2 (n1 - 1) n2 (c1 - 1) c2 la lb M x where
  a := ha
  b := h.b
  sum := by have := h.sum; have := h.a.len; simp at this; omega
  run := hr
  ua := fun y hy => h.ua y (List.mem_cons_of_mem _ hy)
  ub := h.ub
  um := h.um
  ux := h.ua x (List.mem_cons_self ..)
  tt := by have := h.tt; rw [tot_cons] at this; omega
theorem MSt.takeB (h : MSt w wr B B' R A1 A2 n1 n2 c1 c2 la (x :: lb) M vm) (A2' : Option Addr) (ha : Lies w B' A2' (n2 - 1) (c2 - 1) lb) (hr : runK Ro.key Ro.join (pushK Ro.key Ro.join (ros M) x.ro) (ros la) (ros lb) = R) : MPd w B B' R A1 A2' n1 (n2 - 1) c1 (c2 - 1) la lb M x where
  a := h.a
  b := ha
  sum := by have := h.sum; have := h.b.len; simp at this; omega
  run := hr
  ua := h.ua
  ub := fun y hy => h.ub y (List.mem_cons_of_mem _ hy)
  um := h.um
  ux := h.ub x (List.mem_cons_self ..)
  tt := by have := h.tt; rw [tot_cons] at this; omega
end

theorem heap_drew (w : World) : w.drew.heap = w.heap := rfl
set_option maxRecDepth 8000 in
set_option maxHeartbeats 32000000 in
theorem mergeR_any (A A' : Option Addr) (n n' c c' B B' : Nat) (la0 lb0 : List RA) (w : World) (h : Lies w B A n c la0) (h' : Lies w B' A' n' c' lb0) (hB : B ≤ w.heap.size) (hB' : B' ≤ w.heap.size) (hn : n + n' ≤ 1000)
    (hu : ∀ x ∈ la0, x.ro.Up) (hu' : ∀ x ∈ lb0, x.ro.Up) (ht : tot la0 + tot lb0 ≤ 1000) :
    Calls Try.prog 35 #[.slice A n c, .slice A' n' c', .func (.func 36) #[] #[], .func (.func 37) #[] #[]] w fun e w' => ∃ v M, e = .returned v ∧ ros M = runK Ro.key Ro.join [] (ros la0) (ros lb0) ∧ Own w w' v M := by
  obtain ⟨R, hR⟩ : ∃ R, runK Ro.key Ro.join [] (ros la0) (ros lb0) = R := ⟨_, rfl⟩
  rw [hR]
  have hadd : IntKind.i64.wrap ((n : Int) + (n' : Int)) = ((n + n' : Nat) : Int) := by rw [IntKind.wrap_i64]; push_cast; omega
  have hadd2 : wrap64 ((n : Int) + (n' : Int)) = ((n + n' : Nat) : Int) := by unfold wrap64; push_cast; omega
  have hmk := fun wx : World => run_makeR0 wx (n + n') (by omega)
  have hcm := own_madeR w (n + n') (by omega)
  have hst : ∀ wr v, Own w wr v [] → MSt w wr B B' R A A' n n' c c' la0 lb0 [] v := fun wr v ho => ⟨h, h', by simpa using hn, hR, hu, hu', fun x hx => (by cases hx), by rw [tot_nil]; omega, ho⟩
  have HCM := Lib.hid hcm; have HST := Lib.hid hst
  have HBB := Lib.hid hB; have HBB' := Lib.hid hB'
  obtain ⟨N, hN⟩ : ∃ N, N = n + n' := ⟨_, rfl⟩
  rw [← hN] at hadd hadd2 hmk HCM
  clear hR h h' hcm hn hu hu' ht hst hN hB hB'
  go_enter Try.func35, Try.ntmps35
  go_wp2
  obtain ⟨W1, hW1⟩ : ∃ W1, W1 = w.alloc (.cells (madeCells #[.string ⟨#[]⟩, .string ⟨#[]⟩, .bool false, .int .i64 0, .int .i64 0, .int .i64 0, .int .i64 0, .slice none 0 0] (N * 8)) 36) := ⟨_, rfl⟩
  rw [← hW1] at HCM ⊢
  clear hW1 hmk hadd hadd2
  go_loopw [0, 1, 9] (fun va vb vm wr => ∃ (A1 A2 : Option Addr) (n1 n2 c1 c2 : Nat) (la lb M : List RA), va = .slice A1 n1 c1 ∧ vb = .slice A2 n2 c2 ∧ MSt w wr B B' R A1 A2 n1 n2 c1 c2 la lb M vm) (fun va vb _ _ => lenS va + lenS vb)
  case atStart => exact ⟨A, A', n, n', c, c', la0, lb0, [], rfl, rfl, HST.out _ _ HCM.out⟩
  case round =>
    obtain ⟨A1, A2, n1, n2, c1, c2, la, lb, M, rfl, rfl, hms⟩ := hrel
    obtain ⟨A0, c0, rfl, _⟩ := hms.own.slice
    have hcur := hms.own
    obtain ⟨m, hm⟩ : ∃ m, M.length = m := ⟨_, rfl⟩
    have hsum := hms.sum
    rw [hm] at hsum hcur ⊢
    have HM := Lib.hid hm
    have l1 := hms.a.len
    have l2 := hms.b.len
    have W1_ := Lib.hid (show IntKind.i64.wrap ((n1 : Int) + (n2 : Int)) = (n1 : Int) + n2 by rw [IntKind.wrap_i64]; omega)
    have W2_ := Lib.hid (show wrap64 ((n1 : Int) + (n2 : Int)) = (n1 : Int) + n2 by unfold wrap64; omega)
    have HMS := Lib.hid hms; have HCUR := Lib.hid hcur; have L1 := Lib.hid l1; have L2 := Lib.hid l2
    have hws := hcur.below.size
    clear hms hcur l1 l2 hm
    by_cases h0 : n1 + n2 = 0
    · have d0 : decide ((0 : Int) < (n1 : Int) + (n2 : Int)) = false := by simp; omega
      have d1 : decide (0 < n1 + n2) = false := by simp; omega
      have d2 : decide ((0 : Int) < ((n1 + n2 : Nat) : Int)) = false := by simp; omega
      have d3 : ¬ (0 < n1 + n2) := by omega
      have d4 : ¬ ((0 : Int) < (n1 : Int) + (n2 : Int)) := by omega
      have hf : ros M = R := by
        have e1 : la = [] := List.eq_nil_of_length_eq_zero (by rw [L1.out]; omega)
        have e2 : lb = [] := List.eq_nil_of_length_eq_zero (by rw [L2.out]; omega)
        rw [← HMS.out.run, e1, e2]
        exact (runK_nil _).symm
      have HF := Lib.hid hf
      have w1 := W1_.out
      have w2 := W2_.out
      clear hf h0
      go_wp2
      go_ret
      first | exact ⟨_, M, rfl, HF.out, HCUR.out⟩ | exact ⟨_, rfl, M, HF.out, HCUR.out⟩
    · have d0 : decide ((0 : Int) < (n1 : Int) + (n2 : Int)) = true := by simp; omega
      have d1 : decide (0 < n1 + n2) = true := by simp; omega
      have d2 : decide ((0 : Int) < ((n1 + n2 : Nat) : Int)) = true := by simp; omega
      have d3 : 0 < n1 + n2 := by omega
      have d4 : (0 : Int) < (n1 : Int) + (n2 : Int) := by omega
      have hz := heap_alloc_new wr (.cells #[.string ⟨#[]⟩, .string ⟨#[]⟩, .bool false, .int .i64 0, .int .i64 0, .int .i64 0, .int .i64 0, .slice none 0 0] 36)
      have ha := (Below.refl wr.heap.size wr).alloc (Nat.le_refl _) (.cells #[.string ⟨#[]⟩, .string ⟨#[]⟩, .bool false, .int .i64 0, .int .i64 0, .int .i64 0, .int .i64 0, .slice none 0 0] 36)
      have HZ := Lib.hid hz; have HAL := Lib.hid ha; have H0 := Lib.hid h0; have HWS := Lib.hid hws
      clear hz ha h0 hws
      obtain ⟨U, hU⟩ : ∃ U, U = wr.alloc (.cells #[.string ⟨#[]⟩, .string ⟨#[]⟩, .bool false, .int .i64 0, .int .i64 0, .int .i64 0, .int .i64 0, .slice none 0 0] 36) := ⟨_, rfl⟩
      have hUs : U.heap.size = wr.heap.size + 1 := by rw [hU]; simp
      have HUS := Lib.hid hUs
      rw [← hU] at HZ HAL
      clear hUs
      by_cases e2 : n2 = 0
      · have hpos : 0 < n1 := by omega
        obtain ⟨x, la', rfl⟩ : ∃ x la', la = x :: la' := by
          match la, L1.out with
          | [], h => simp at h; omega
          | x :: la', _ => exact ⟨x, la', rfl⟩
        have hlb : lb = [] := List.eq_nil_of_length_eq_zero (by rw [L2.out]; exact e2)
        have hrun2 : runK Ro.key Ro.join (pushK Ro.key Ro.join (ros M) x.ro) (ros la') (ros lb) = R := by have := HMS.out.run; rw [hlb] at this ⊢; rw [← this]; exact (runK_a _ _ _).symm
        have q1 : ((n2 : Int) == 0) = true := by rw [beq_iff_eq]; omega
        have q2 : (n2 == 0) = true := by rw [beq_iff_eq]; omega
        have d0 : decide ((0 : Int) < (n1 : Int) + (n2 : Int)) = true := by simp; omega
        have d1 : decide (0 < n1 + n2) = true := by simp; omega
        have i1 : (0 : Int) < n1 := by omega
        obtain ⟨A1', hsl, hla'⟩ := HMS.out.a.tail
        have MP := Lib.hid (HMS.out.takeA A1' hla' hrun2)
        have hxin := HMS.out.a.held x (List.mem_cons_self ..)
        have XIN0 : Hid (RaIn w w.heap.size x) := Lib.hid (hxin.up HBB.out)
        have XIN : Hid (RaIn wr wr.heap.size x) := Lib.hid ((hxin.below (HCUR.out.below.mono HBB.out)).up (Nat.le_trans HBB.out HWS.out))
        obtain ⟨g1, o1, rfl, hgB⟩ := HMS.out.a.rd.ex hpos
        have hc0 := (HMS.out.a.below (HCUR.out.below.mono HBB.out)).head
        have hgw : g1 < wr.heap.size := by have := HWS.out; have := HBB.out; omega
        have hall : ∀ w', Below U.heap.size U w' → RowAt w' g1 o1 x := fun w' hb => hc0.below (HAL.out.trans (hb.mono (by have := HUS.out; omega))) hgw
        have HALLW := Lib.hid (fun w' (hb2 : Below wr.heap.size wr w') => hc0.below hb2 hgw)
        have HALL := Lib.hid hall
        have w1 := W1_.out
        have w2 := W2_.out
        clear hlb hrun2 hla' hc0 hall e2 hxin
        go_wp2_with fail
        rw [← hU]
        clear hU
        refine wp_region_held_drew (S := fun w' => Below U.heap.size U w') (by kernel_rfl) ?_ (fun hHeld => ?_)
        · exact (Below.refl _ _).drew
        refine wpAnyH_take (i := 0) (v := ?_) rfl (by kernel_rfl) (by kernel_rfl) (by kernel_rfl) (fun _ _ _ h => h) (Or.inl ⟨by rfl, ?_⟩) (by assumption) ?_
        rotate_left
        · (intro wx hSw; (try dsimp only at hSw); go_simp; try with_reducible rfl)
        try simp only [Act.put, List.getElem_toArray, List.getElem_cons_succ, List.getElem_cons_zero, List.setIfInBounds_toArray, List.set_cons_zero, List.set_cons_succ]
        refine wpAnyH_take (i := 1) (v := ?_) rfl (by kernel_rfl) (by kernel_rfl) (by kernel_rfl) (fun _ _ _ h => h) (Or.inl ⟨by rfl, ?_⟩) (by assumption) ?_
        rotate_left
        · (intro wx hSw; (try dsimp only at hSw); go_simp; try with_reducible rfl)
        try simp only [Act.put, List.getElem_toArray, List.getElem_cons_succ, List.getElem_cons_zero, List.setIfInBounds_toArray, List.set_cons_zero, List.set_cons_succ]
        refine wpAnyH_take (i := 2) (v := ?_) rfl (by kernel_rfl) (by kernel_rfl) (by kernel_rfl) (fun _ _ _ h => h) (Or.inl ⟨by rfl, ?_⟩) (by assumption) ?_
        rotate_left
        · (intro wx hSw; (try dsimp only at hSw); go_simp; try with_reducible rfl)
        try simp only [Act.put, List.getElem_toArray, List.getElem_cons_succ, List.getElem_cons_zero, List.setIfInBounds_toArray, List.set_cons_zero, List.set_cons_succ]
        refine wpAnyH_take (i := 3) (v := ?_) rfl (by kernel_rfl) (by kernel_rfl) (by kernel_rfl) (fun _ _ _ h => h) (Or.inl ⟨by rfl, ?_⟩) (by assumption) ?_
        rotate_left
        · (intro wx hSw; (try dsimp only at hSw); go_simp; try with_reducible rfl)
        try simp only [Act.put, List.getElem_toArray, List.getElem_cons_succ, List.getElem_cons_zero, List.setIfInBounds_toArray, List.set_cons_zero, List.set_cons_succ]
        refine wpAnyH_take (i := 4) (v := undef) rfl (by kernel_rfl) (by kernel_rfl) (by kernel_rfl) (fun _ _ _ h => h) (Or.inr ⟨by rfl, rfl⟩) (by assumption) ?_
        try simp only [Act.put, List.getElem_toArray, List.getElem_cons_succ, List.getElem_cons_zero, List.setIfInBounds_toArray, List.set_cons_zero, List.set_cons_succ]
        refine wpAnyH_take (i := 5) (v := undef) rfl (by kernel_rfl) (by kernel_rfl) (by kernel_rfl) (fun _ _ _ h => h) (Or.inr ⟨by rfl, rfl⟩) (by assumption) ?_
        try simp only [Act.put, List.getElem_toArray, List.getElem_cons_succ, List.getElem_cons_zero, List.setIfInBounds_toArray, List.set_cons_zero, List.set_cons_succ]
        refine wpAnyH_take (i := 6) (v := undef) rfl (by kernel_rfl) (by kernel_rfl) (by kernel_rfl) (fun _ _ _ h => h) (Or.inr ⟨by rfl, rfl⟩) (by assumption) ?_
        try simp only [Act.put, List.getElem_toArray, List.getElem_cons_succ, List.getElem_cons_zero, List.setIfInBounds_toArray, List.set_cons_zero, List.set_cons_succ]
        refine wpAnyH_take (i := 7) (v := undef) rfl (by kernel_rfl) (by kernel_rfl) (by kernel_rfl) (fun _ _ _ h => h) (Or.inr ⟨by rfl, rfl⟩) (by assumption) ?_
        try simp only [Act.put, List.getElem_toArray, List.getElem_cons_succ, List.getElem_cons_zero, List.setIfInBounds_toArray, List.set_cons_zero, List.set_cons_succ]
        refine wpAnyH_take (i := 8) (v := undef) rfl (by kernel_rfl) (by kernel_rfl) (by kernel_rfl) (fun _ _ _ h => h) (Or.inr ⟨by rfl, rfl⟩) (by assumption) ?_
        try simp only [Act.put, List.getElem_toArray, List.getElem_cons_succ, List.getElem_cons_zero, List.setIfInBounds_toArray, List.set_cons_zero, List.set_cons_succ]
        refine wpAnyH_take (i := 9) (v := undef) rfl (by kernel_rfl) (by kernel_rfl) (by kernel_rfl) (fun _ _ _ h => h) (Or.inr ⟨by rfl, rfl⟩) (by assumption) ?_
        try simp only [Act.put, List.getElem_toArray, List.getElem_cons_succ, List.getElem_cons_zero, List.setIfInBounds_toArray, List.set_cons_zero, List.set_cons_succ]
        refine wpAnyH_take (i := 10) (v := undef) rfl (by kernel_rfl) (by kernel_rfl) (by kernel_rfl) (fun _ _ _ h => h) (Or.inr ⟨by rfl, rfl⟩) (by assumption) ?_
        try simp only [Act.put, List.getElem_toArray, List.getElem_cons_succ, List.getElem_cons_zero, List.setIfInBounds_toArray, List.set_cons_zero, List.set_cons_succ]
        refine wpAnyH_take (i := 11) (v := undef) rfl (by kernel_rfl) (by kernel_rfl) (by kernel_rfl) (fun _ _ _ h => h) (Or.inr ⟨by rfl, rfl⟩) (by assumption) ?_
        try simp only [Act.put, List.getElem_toArray, List.getElem_cons_succ, List.getElem_cons_zero, List.setIfInBounds_toArray, List.set_cons_zero, List.set_cons_succ]
        refine wpAnyH_take (i := 12) (v := undef) rfl (by kernel_rfl) (by kernel_rfl) (by kernel_rfl) (fun _ _ _ h => h) (Or.inr ⟨by rfl, rfl⟩) (by assumption) ?_
        try simp only [Act.put, List.getElem_toArray, List.getElem_cons_succ, List.getElem_cons_zero, List.setIfInBounds_toArray, List.set_cons_zero, List.set_cons_succ]
        refine wpAnyH_take (i := 13) (v := undef) rfl (by kernel_rfl) (by kernel_rfl) (by kernel_rfl) (fun _ _ _ h => h) (Or.inr ⟨by rfl, rfl⟩) (by assumption) ?_
        try simp only [Act.put, List.getElem_toArray, List.getElem_cons_succ, List.getElem_cons_zero, List.setIfInBounds_toArray, List.set_cons_zero, List.set_cons_succ]
        refine wpAnyH_take (i := 14) (v := undef) rfl (by kernel_rfl) (by kernel_rfl) (by kernel_rfl) (fun _ _ _ h => h) (Or.inr ⟨by rfl, rfl⟩) (by assumption) ?_
        try simp only [Act.put, List.getElem_toArray, List.getElem_cons_succ, List.getElem_cons_zero, List.setIfInBounds_toArray, List.set_cons_zero, List.set_cons_succ]
        refine wpAnyH_take (i := 15) (v := undef) rfl (by kernel_rfl) (by kernel_rfl) (by kernel_rfl) (fun _ _ _ h => h) (Or.inr ⟨by rfl, rfl⟩) (by assumption) ?_
        try simp only [Act.put, List.getElem_toArray, List.getElem_cons_succ, List.getElem_cons_zero, List.setIfInBounds_toArray, List.set_cons_zero, List.set_cons_succ]
        refine wpAnyH_take (i := 16) (v := undef) rfl (by kernel_rfl) (by kernel_rfl) (by kernel_rfl) (fun _ _ _ h => h) (Or.inr ⟨by rfl, rfl⟩) (by assumption) ?_
        try simp only [Act.put, List.getElem_toArray, List.getElem_cons_succ, List.getElem_cons_zero, List.setIfInBounds_toArray, List.set_cons_zero, List.set_cons_succ]
        refine wpAnyH_take (i := 17) (v := undef) rfl (by kernel_rfl) (by kernel_rfl) (by kernel_rfl) (fun _ _ _ h => h) (Or.inr ⟨by rfl, rfl⟩) (by assumption) ?_
        try simp only [Act.put, List.getElem_toArray, List.getElem_cons_succ, List.getElem_cons_zero, List.setIfInBounds_toArray, List.set_cons_zero, List.set_cons_succ]
        refine wpAnyH_take (i := 18) (v := ?_) rfl (by kernel_rfl) (by kernel_rfl) (by kernel_rfl) (fun _ _ _ h => h) (Or.inl ⟨by rfl, ?_⟩) (by assumption) ?_
        rotate_left
        · (intro wx hSw; (try dsimp only at hSw); go_simp; try with_reducible rfl)
        try simp only [Act.put, List.getElem_toArray, List.getElem_cons_succ, List.getElem_cons_zero, List.setIfInBounds_toArray, List.set_cons_zero, List.set_cons_succ]
        refine wpAnyH_done (by kernel_rfl) ?_ _
        clear w1 w2
        have hlow : Below U.heap.size U U := (Below.refl _ _)
        obtain ⟨_, _, _, _, _, _, _, _⟩ := HALL.out _ hlow
        have hq := (hlow.block wr.heap.size (by have := HUS.out; omega)).trans HZ.out
        have z0 := cell_at (i := 0) hq rfl
        have z1 := cell_at (i := 1) hq rfl
        have z2 := cell_at (i := 2) hq rfl
        have z3 := cell_at (i := 3) hq rfl
        have z4 := cell_at (i := 4) hq rfl
        have z5 := cell_at (i := 5) hq rfl
        have z6 := cell_at (i := 6) hq rfl
        have z7 := cell_at (i := 7) hq rfl
        have y0 := thawed_at (i := 0) hq
        have y1 := thawed_at (i := 1) hq
        have y2 := thawed_at (i := 2) hq
        have y3 := thawed_at (i := 3) hq
        have y4 := thawed_at (i := 4) hq
        have y5 := thawed_at (i := 5) hq
        have y6 := thawed_at (i := 6) hq
        have y7 := thawed_at (i := 7) hq
        have HQ4_ := Lib.hid (set8_block hq x)
        have HB4_ := Lib.hid (below_set80 (HAL.out.trans (hlow.mono (by have := HUS.out; omega))) (Nat.le_refl wr.heap.size) x)
        clear hq
        have HLOW := Lib.hid (HAL.out.trans (hlow.mono (by have := HUS.out; omega)))
        go_wp2_with fail
        refine wp_region_held_drew (S := fun w' => Below wr.heap.size wr w') (by kernel_rfl) ?_ (fun hHeld => ?_)
        · exact HLOW.out.drew.drew
        refine wpAnyH_take (i := 0) (v := ?_) rfl (by kernel_rfl) (by kernel_rfl) (by kernel_rfl) (fun _ _ _ h => h) (Or.inl ⟨by rfl, ?_⟩) (by assumption) ?_
        rotate_left
        · (intro wx hSw; (try dsimp only at hSw); go_simp; try with_reducible rfl)
        try simp only [Act.put, List.getElem_toArray, List.getElem_cons_succ, List.getElem_cons_zero, List.setIfInBounds_toArray, List.set_cons_zero, List.set_cons_succ]
        refine wpAnyH_take (i := 1) (v := ?_) rfl (by kernel_rfl) (by kernel_rfl) (by kernel_rfl) (fun _ _ _ h => h) (Or.inl ⟨by rfl, ?_⟩) (by assumption) ?_
        rotate_left
        · (intro wx hSw; (try dsimp only at hSw); go_simp; try with_reducible rfl)
        try simp only [Act.put, List.getElem_toArray, List.getElem_cons_succ, List.getElem_cons_zero, List.setIfInBounds_toArray, List.set_cons_zero, List.set_cons_succ]
        refine wpAnyH_take (i := 2) (v := ?_) rfl (by kernel_rfl) (by kernel_rfl) (by kernel_rfl) (fun _ _ _ h => h) (Or.inl ⟨by rfl, ?_⟩) (by assumption) ?_
        rotate_left
        · (intro wx hSw; (try dsimp only at hSw); obtain ⟨_, _, _, _, _, _, _, _⟩ := HALLW.out _ hSw; go_simp; try with_reducible rfl)
        try simp only [Act.put, List.getElem_toArray, List.getElem_cons_succ, List.getElem_cons_zero, List.setIfInBounds_toArray, List.set_cons_zero, List.set_cons_succ]
        refine wpAnyH_take (i := 3) (v := ?_) rfl (by kernel_rfl) (by kernel_rfl) (by kernel_rfl) (fun _ _ _ h => h) (Or.inl ⟨by rfl, ?_⟩) (by assumption) ?_
        rotate_left
        · (intro wx hSw; (try dsimp only at hSw); go_simp; try with_reducible rfl)
        try simp only [Act.put, List.getElem_toArray, List.getElem_cons_succ, List.getElem_cons_zero, List.setIfInBounds_toArray, List.set_cons_zero, List.set_cons_succ]
        refine wpAnyH_take (i := 4) (v := ?_) rfl (by kernel_rfl) (by kernel_rfl) (by kernel_rfl) (fun _ _ _ h => h) (Or.inl ⟨by rfl, ?_⟩) (by assumption) ?_
        rotate_left
        · (intro wx hSw; (try dsimp only at hSw); go_simp; try with_reducible rfl)
        try simp only [Act.put, List.getElem_toArray, List.getElem_cons_succ, List.getElem_cons_zero, List.setIfInBounds_toArray, List.set_cons_zero, List.set_cons_succ]
        refine wpAnyH_ready (rs := [5]) (by kernel_rfl) (by simp) (AllReadyH.cons rfl (fun K hK => ?_) AllReadyH.nil)
        go_simp
        refine hK.out _ _ ?_ (fun hHeld => ?_)
        · exact HB4_.out.drew.drew
        clear hK K
        try simp only [Act.put, List.getElem_toArray, List.getElem_cons_succ, List.getElem_cons_zero, List.setIfInBounds_toArray, List.set_cons_zero, List.set_cons_succ]
        refine wpAnyH_take (i := 6) (v := ?_) rfl (by kernel_rfl) (by kernel_rfl) (by kernel_rfl) (fun _ _ _ h => h) (Or.inl ⟨by rfl, ?_⟩) (by assumption) ?_
        rotate_left
        · (intro wx hSw; (try dsimp only at hSw); go_simp; try with_reducible rfl)
        try simp only [Act.put, List.getElem_toArray, List.getElem_cons_succ, List.getElem_cons_zero, List.setIfInBounds_toArray, List.set_cons_zero, List.set_cons_succ]
        refine wpAnyH_done (by kernel_rfl) ?_ _
        obtain ⟨w4, hw4⟩ : ∃ w4, w4 = ((World.setCell (World.setCell (World.setCell (World.setCell (World.setCell (World.setCell (World.setCell (World.setCell (U) ⟨wr.heap.size, 0, none⟩ (.string x.ro.key)) ⟨wr.heap.size, 1, none⟩ (.string x.ro.live.s)) ⟨wr.heap.size, 2, none⟩ (.bool x.ro.live.d)) ⟨wr.heap.size, 3, none⟩ (.int .i64 x.ro.live.a)) ⟨wr.heap.size, 4, none⟩ (.int .i64 x.ro.live.e)) ⟨wr.heap.size, 5, none⟩ (.int .i64 x.ro.gone)) ⟨wr.heap.size, 6, none⟩ (.int .i64 x.ro.shade)) ⟨wr.heap.size, 7, none⟩ (.slice x.A x.ro.cols.length x.c))).drew.drew := ⟨_, rfl⟩
        rw [← hw4]
        have HQ4 : Hid (w4.heap[wr.heap.size]? = some (.cells #[.string x.ro.key, .string x.ro.live.s, .bool x.ro.live.d, .int .i64 x.ro.live.a, .int .i64 x.ro.live.e, .int .i64 x.ro.gone, .int .i64 x.ro.shade, .slice x.A x.ro.cols.length x.c] 36)) := Lib.hid (by rw [hw4]; simp only [heap_drew]; exact HQ4_.out)
        have HB4 : Hid (Below wr.heap.size wr w4) := Lib.hid (by rw [hw4]; exact HB4_.out.drew.drew)
        clear hw4 HQ4_ HB4_ z0 z1 z2 z3 z4 z5 z6 z7 y0 y1 y2 y3 y4 y5 y6 y7
        have HCV := Lib.hid (HCUR.out.on HB4.out)
        have HS4 := Lib.hid HB4.out.size
        have HX4 := Lib.hid (XIN.out.below HB4.out)
        rcases List.eq_nil_or_concat M with hM | ⟨L, y, hM⟩
        · have hp : pushK Ro.key Ro.join (ros M) x.ro = ros M ++ [x.ro] := by rw [hM]; rfl
          have hm0 : m = 0 := by rw [← HM.out, hM]; rfl
          have S1 := Lib.hid (show IntKind.i64.wrap ((m : Int) - 1) = -1 by rw [IntKind.wrap_i64]; omega)
          have S2 := Lib.hid (show wrap64 ((m : Int) - 1) = -1 by unfold wrap64; omega)
          have HP := Lib.hid hp
          have hall4 : ∀ w', Below w4.heap.size w4 w' → BlkAt w' wr.heap.size x := fun w' hb => BlkAt.of ((hb.block wr.heap.size (Array.getElem?_eq_some_iff.1 HQ4.out).1).trans HQ4.out)
          have HALL4 := Lib.hid hall4
          have s1 := S1.out
          have s2 := S2.out
          clear hm0 hM hp hall4
          go_wp2_with fail
          refine wp_region_held_drew (S := fun w' => Below w4.heap.size w4 w') (by kernel_rfl) ?_ (fun hHeld => ?_)
          · exact (Below.refl _ _).drew
          refine wpAnyH_take (i := 0) (v := ?_) rfl (by kernel_rfl) (by kernel_rfl) (by kernel_rfl) (fun _ _ _ h => h) (Or.inl ⟨by rfl, ?_⟩) (by assumption) ?_
          rotate_left
          · (intro wx hSw; (try dsimp only at hSw); go_simp; try with_reducible rfl)
          try simp only [Act.put, List.getElem_toArray, List.getElem_cons_succ, List.getElem_cons_zero, List.setIfInBounds_toArray, List.set_cons_zero, List.set_cons_succ]
          refine wpAnyH_take (i := 1) (v := ?_) rfl (by kernel_rfl) (by kernel_rfl) (by kernel_rfl) (fun _ _ _ h => h) (Or.inl ⟨by rfl, ?_⟩) (by assumption) ?_
          rotate_left
          · (intro wx hSw; (try dsimp only at hSw); go_simp; try with_reducible rfl)
          try simp only [Act.put, List.getElem_toArray, List.getElem_cons_succ, List.getElem_cons_zero, List.setIfInBounds_toArray, List.set_cons_zero, List.set_cons_succ]
          refine wpAnyH_take (i := 2) (v := ?_) rfl (by kernel_rfl) (by kernel_rfl) (by kernel_rfl) (fun _ _ _ h => h) (Or.inl ⟨by rfl, ?_⟩) (by assumption) ?_
          rotate_left
          · (intro wx hSw; (try dsimp only at hSw); go_simp; try with_reducible rfl)
          try simp only [Act.put, List.getElem_toArray, List.getElem_cons_succ, List.getElem_cons_zero, List.setIfInBounds_toArray, List.set_cons_zero, List.set_cons_succ]
          refine wpAnyH_take (i := 3) (v := undef) rfl (by kernel_rfl) (by kernel_rfl) (by kernel_rfl) (fun _ _ _ h => h) (Or.inr ⟨by rfl, rfl⟩) (by assumption) ?_
          try simp only [Act.put, List.getElem_toArray, List.getElem_cons_succ, List.getElem_cons_zero, List.setIfInBounds_toArray, List.set_cons_zero, List.set_cons_succ]
          refine wpAnyH_take (i := 4) (v := undef) rfl (by kernel_rfl) (by kernel_rfl) (by kernel_rfl) (fun _ _ _ h => h) (Or.inr ⟨by rfl, rfl⟩) (by assumption) ?_
          try simp only [Act.put, List.getElem_toArray, List.getElem_cons_succ, List.getElem_cons_zero, List.setIfInBounds_toArray, List.set_cons_zero, List.set_cons_succ]
          refine wpAnyH_take (i := 5) (v := undef) rfl (by kernel_rfl) (by kernel_rfl) (by kernel_rfl) (fun _ _ _ h => h) (Or.inr ⟨by rfl, rfl⟩) (by assumption) ?_
          try simp only [Act.put, List.getElem_toArray, List.getElem_cons_succ, List.getElem_cons_zero, List.setIfInBounds_toArray, List.set_cons_zero, List.set_cons_succ]
          refine wpAnyH_take (i := 6) (v := undef) rfl (by kernel_rfl) (by kernel_rfl) (by kernel_rfl) (fun _ _ _ h => h) (Or.inr ⟨by rfl, rfl⟩) (by assumption) ?_
          try simp only [Act.put, List.getElem_toArray, List.getElem_cons_succ, List.getElem_cons_zero, List.setIfInBounds_toArray, List.set_cons_zero, List.set_cons_succ]
          refine wpAnyH_take (i := 7) (v := undef) rfl (by kernel_rfl) (by kernel_rfl) (by kernel_rfl) (fun _ _ _ h => h) (Or.inr ⟨by rfl, rfl⟩) (by assumption) ?_
          try simp only [Act.put, List.getElem_toArray, List.getElem_cons_succ, List.getElem_cons_zero, List.setIfInBounds_toArray, List.set_cons_zero, List.set_cons_succ]
          refine wpAnyH_take (i := 8) (v := undef) rfl (by kernel_rfl) (by kernel_rfl) (by kernel_rfl) (fun _ _ _ h => h) (Or.inr ⟨by rfl, rfl⟩) (by assumption) ?_
          try simp only [Act.put, List.getElem_toArray, List.getElem_cons_succ, List.getElem_cons_zero, List.setIfInBounds_toArray, List.set_cons_zero, List.set_cons_succ]
          refine wpAnyH_take (i := 9) (v := undef) rfl (by kernel_rfl) (by kernel_rfl) (by kernel_rfl) (fun _ _ _ h => h) (Or.inr ⟨by rfl, rfl⟩) (by assumption) ?_
          try simp only [Act.put, List.getElem_toArray, List.getElem_cons_succ, List.getElem_cons_zero, List.setIfInBounds_toArray, List.set_cons_zero, List.set_cons_succ]
          refine wpAnyH_take (i := 10) (v := undef) rfl (by kernel_rfl) (by kernel_rfl) (by kernel_rfl) (fun _ _ _ h => h) (Or.inr ⟨by rfl, rfl⟩) (by assumption) ?_
          try simp only [Act.put, List.getElem_toArray, List.getElem_cons_succ, List.getElem_cons_zero, List.setIfInBounds_toArray, List.set_cons_zero, List.set_cons_succ]
          refine wpAnyH_take (i := 11) (v := ?_) rfl (by kernel_rfl) (by kernel_rfl) (by kernel_rfl) (fun _ _ _ h => h) (Or.inl ⟨by rfl, ?_⟩) (by assumption) ?_
          rotate_left
          · (intro wx hSw; (try dsimp only at hSw); go_simp; try with_reducible rfl)
          try simp only [Act.put, List.getElem_toArray, List.getElem_cons_succ, List.getElem_cons_zero, List.setIfInBounds_toArray, List.set_cons_zero, List.set_cons_succ]
          refine wpAnyH_done (by kernel_rfl) ?_ _
          have hl8 : Below w4.heap.size w4 w4.drew := (Below.refl _ _).drew
          generalize w4.drew = w8 at hl8 ⊢
          obtain ⟨_, _, _, _, _, _, _, _⟩ := HALL4.out _ hl8
          clear s1 s2
          have hcw := (HCV.out.on hl8).on ((Below.refl _ _).alloc (Nat.le_refl _) (.cells #[.string x.ro.key, .string x.ro.live.s, .bool x.ro.live.d, .int .i64 x.ro.live.a, .int .i64 x.ro.live.e, .int .i64 x.ro.gone, .int .i64 x.ro.shade, .slice x.A x.ro.cols.length x.c] 36))
          have hk1 := RdR.laid w8 x
          have hsx : Safe w (w8) x := Or.inl XIN0.out
          have HCW := Lib.hid hcw; have HK1 := Lib.hid hk1; have HSX := Lib.hid (hsx.on ((Below.refl _ _).alloc (Nat.le_refl _) (.cells #[.string x.ro.key, .string x.ro.live.s, .bool x.ro.live.d, .int .i64 x.ro.live.a, .int .i64 x.ro.live.e, .int .i64 x.ro.gone, .int .i64 x.ro.shade, .slice x.A x.ro.cols.length x.c] 36)))
          clear hcw hk1 hl8 hsx
          go_wp2_with (at_builtin; refine list_ex rfl (.tmp 78) (.tmp 80) _ _ rfl (.slice A0 m c0) (.slice (some ⟨(w8).heap.size, 0, none⟩) 1 1) rfl rfl (run_appR w.heap.size (HM.out ▸ HCW.out.cur.own) HK1.out ?s1 ?s2) ?_)
          case s1 => have h9 := HM.out; have h8 := MP.out.sum; (try simp at h9); (try simp); omega
          case s2 => simpa using HCW.out.below.size
          intro v3 w3 ho3 hg3 hloc3
          obtain ⟨A3, m3, c3, rfl, hm3, hc3⟩ := HCW.out.app (k := [x]) (fun y hy => by rw [List.mem_singleton.1 hy]; exact HSX.out) ho3 hg3
          have HC3 := Lib.hid (MP.out.app HP.out hc3)
          clear hc3 ho3 hg3 hloc3
          go_wp2
          go_roundw
          case rel => exact ⟨_, _, _, _, _, _, _, _, _, rfl, rfl, HC3.out⟩
          case measure => simp [lenS]; omega
        · rw [List.concat_eq_append] at hM
          have HMM := Lib.hid hM
          clear hM
          obtain ⟨u, hu⟩ : ∃ u, L.length = u := ⟨_, rfl⟩
          have hm1 : m = u + 1 := by rw [← HM.out, HMM.out, ← hu]; simp
          have hul : u < M.length := by have := HM.out; omega
          have hMu : M[u] = y := by simp [HMM.out, ← hu]
          have S1 := Lib.hid (show IntKind.i64.wrap ((m : Int) - 1) = (u : Int) by rw [IntKind.wrap_i64]; omega)
          have S2 := Lib.hid (show wrap64 ((m : Int) - 1) = (u : Int) by unfold wrap64; omega)
          obtain ⟨g5, rfl, hg5, hg5', hy5, hf5⟩ := HCV.out.row hul
          rw [hMu] at hy5
          have hall4 : ∀ w', Below w4.heap.size w4 w' → RowAt w' g5 (u * 8) y ∧ BlkAt w' wr.heap.size x := fun w' hb =>
            ⟨hy5.below hb hg5', BlkAt.of ((hb.block wr.heap.size (Array.getElem?_eq_some_iff.1 HQ4.out).1).trans HQ4.out)⟩
          have HALL4 := Lib.hid hall4
          have hysafe := HCV.out.safe y (by rw [HMM.out]; simp)
          have HY4 := Lib.hid (hysafe.ra HCV.out.below)
          have i5 : (u : Int) < m := by omega
          have i6 : (0 : Int) ≤ u := by omega
          have i7 : decide ((0 : Int) ≤ (u : Int)) = true := by simp
          have HU := Lib.hid hu; have HM1 := Lib.hid hm1; have HUL := Lib.hid hul
          clear hall4 hu hm1 hy5 hf5 hul hMu hysafe
          by_cases hn : y.ro.key = x.ro.key
          · have t0 : (tcmp y.ro.key x.ro.key == 0) = true := by rw [beq_iff_eq]; exact tcmp_zero.2 hn
            have HN2 := Lib.hid hn
            have s1 := S1.out
            have s2 := S2.out
            clear hn
            go_wp2_with fail
            refine wp_region_held_drew (S := fun w' => Below w4.heap.size w4 w') (by kernel_rfl) ?_ (fun hHeld => ?_)
            · exact (Below.refl _ _).drew
            refine wpAnyH_take (i := 0) (v := ?_) rfl (by kernel_rfl) (by kernel_rfl) (by kernel_rfl) (fun _ _ _ h => h) (Or.inl ⟨by rfl, ?_⟩) (by assumption) ?_
            rotate_left
            · (intro wx hSw; (try dsimp only at hSw); go_simp; try with_reducible rfl)
            try simp only [Act.put, List.getElem_toArray, List.getElem_cons_succ, List.getElem_cons_zero, List.setIfInBounds_toArray, List.set_cons_zero, List.set_cons_succ]
            refine wpAnyH_take (i := 1) (v := ?_) rfl (by kernel_rfl) (by kernel_rfl) (by kernel_rfl) (fun _ _ _ h => h) (Or.inl ⟨by rfl, ?_⟩) (by assumption) ?_
            rotate_left
            · (intro wx hSw; (try dsimp only at hSw); go_simp; try with_reducible rfl)
            try simp only [Act.put, List.getElem_toArray, List.getElem_cons_succ, List.getElem_cons_zero, List.setIfInBounds_toArray, List.set_cons_zero, List.set_cons_succ]
            refine wpAnyH_take (i := 2) (v := ?_) rfl (by kernel_rfl) (by kernel_rfl) (by kernel_rfl) (fun _ _ _ h => h) (Or.inl ⟨by rfl, ?_⟩) (by assumption) ?_
            rotate_left
            · (intro wx hSw; (try dsimp only at hSw); go_simp; try with_reducible rfl)
            try simp only [Act.put, List.getElem_toArray, List.getElem_cons_succ, List.getElem_cons_zero, List.setIfInBounds_toArray, List.set_cons_zero, List.set_cons_succ]
            refine wpAnyH_take (i := 3) (v := ?_) rfl (by kernel_rfl) (by kernel_rfl) (by kernel_rfl) (fun _ _ _ h => h) (Or.inl ⟨by rfl, ?_⟩) (by assumption) ?_
            rotate_left
            · (intro wx hSw; (try dsimp only at hSw); go_simp; try with_reducible rfl)
            try simp only [Act.put, List.getElem_toArray, List.getElem_cons_succ, List.getElem_cons_zero, List.setIfInBounds_toArray, List.set_cons_zero, List.set_cons_succ]
            refine wpAnyH_take (i := 4) (v := ?_) rfl (by kernel_rfl) (by kernel_rfl) (by kernel_rfl) (fun _ _ _ h => h) (Or.inl ⟨by rfl, ?_⟩) (by assumption) ?_
            rotate_left
            · (intro wx hSw; (try dsimp only at hSw); go_simp; try with_reducible rfl)
            try simp only [Act.put, List.getElem_toArray, List.getElem_cons_succ, List.getElem_cons_zero, List.setIfInBounds_toArray, List.set_cons_zero, List.set_cons_succ]
            refine wpAnyH_take (i := 5) (v := ?_) rfl (by kernel_rfl) (by kernel_rfl) (by kernel_rfl) (fun _ _ _ h => h) (Or.inl ⟨by rfl, ?_⟩) (by assumption) ?_
            rotate_left
            · (intro wx hSw; (try dsimp only at hSw); go_simp; try with_reducible rfl)
            try simp only [Act.put, List.getElem_toArray, List.getElem_cons_succ, List.getElem_cons_zero, List.setIfInBounds_toArray, List.set_cons_zero, List.set_cons_succ]
            refine wpAnyH_take (i := 6) (v := ?_) rfl (by kernel_rfl) (by kernel_rfl) (by kernel_rfl) (fun _ _ _ h => h) (Or.inl ⟨by rfl, ?_⟩) (by assumption) ?_
            rotate_left
            · (intro wx hSw; (try dsimp only at hSw); go_simp; try with_reducible rfl)
            try simp only [Act.put, List.getElem_toArray, List.getElem_cons_succ, List.getElem_cons_zero, List.setIfInBounds_toArray, List.set_cons_zero, List.set_cons_succ]
            refine wpAnyH_take (i := 7) (v := ?_) rfl (by kernel_rfl) (by kernel_rfl) (by kernel_rfl) (fun _ _ _ h => h) (Or.inl ⟨by rfl, ?_⟩) (by assumption) ?_
            rotate_left
            · (intro wx hSw; (try dsimp only at hSw); obtain ⟨⟨_, _, _, _, _, _, _, _⟩, _, _, _, _, _, _, _, _⟩ := HALL4.out _ hSw; go_simp; try with_reducible rfl)
            try simp only [Act.put, List.getElem_toArray, List.getElem_cons_succ, List.getElem_cons_zero, List.setIfInBounds_toArray, List.set_cons_zero, List.set_cons_succ]
            refine wpAnyH_take (i := 8) (v := ?_) rfl (by kernel_rfl) (by kernel_rfl) (by kernel_rfl) (fun _ _ _ h => h) (Or.inl ⟨by rfl, ?_⟩) (by assumption) ?_
            rotate_left
            · (intro wx hSw; (try dsimp only at hSw); obtain ⟨⟨_, _, _, _, _, _, _, _⟩, _, _, _, _, _, _, _, _⟩ := HALL4.out _ hSw; go_simp; try with_reducible rfl)
            try simp only [Act.put, List.getElem_toArray, List.getElem_cons_succ, List.getElem_cons_zero, List.setIfInBounds_toArray, List.set_cons_zero, List.set_cons_succ]
            refine wpAnyH_ready (rs := [9]) (by kernel_rfl) (by simp) (AllReadyH.cons rfl (fun K hK => ?_) AllReadyH.nil)
            go_simp
            refine (bykey_ra y x _).mono ?_
            rintro e v1 ⟨rfl, b1⟩
            try go_wp2_with fail
            refine hK.out _ _ ?_ (fun hHeld => ?_)
            · exact next (by assumption) b1
            clear hK K
            try simp only [Act.put, List.getElem_toArray, List.getElem_cons_succ, List.getElem_cons_zero, List.setIfInBounds_toArray, List.set_cons_zero, List.set_cons_succ]
            refine wpAnyH_take (i := 10) (v := ?_) rfl (by kernel_rfl) (by kernel_rfl) (by kernel_rfl) (fun _ _ _ h => h) (Or.inl ⟨by rfl, ?_⟩) (by assumption) ?_
            rotate_left
            · (intro wx hSw; (try dsimp only at hSw); go_simp; try with_reducible rfl)
            try simp only [Act.put, List.getElem_toArray, List.getElem_cons_succ, List.getElem_cons_zero, List.setIfInBounds_toArray, List.set_cons_zero, List.set_cons_succ]
            refine wpAnyH_take (i := 11) (v := ?_) rfl (by kernel_rfl) (by kernel_rfl) (by kernel_rfl) (fun _ _ _ h => h) (Or.inl ⟨by rfl, ?_⟩) (by assumption) ?_
            rotate_left
            · (intro wx hSw; (try dsimp only at hSw); go_simp; try with_reducible rfl)
            try simp only [Act.put, List.getElem_toArray, List.getElem_cons_succ, List.getElem_cons_zero, List.setIfInBounds_toArray, List.set_cons_zero, List.set_cons_succ]
            refine wpAnyH_done (by kernel_rfl) ?_ _
            obtain ⟨⟨_, _, _, _, _, _, _, _⟩, _, _, _, _, _, _, _, _⟩ := HALL4.out _ hHeld
            clear s1 s2
            have HH := Lib.hid hHeld
            clear hHeld
            go_wp2_with fail
            go_region_with (first
              | (go_at_call 37
                 have hbv := next (w := w4) HH.out (show Below v1.heap.size v1 _ by first | exact (Below.refl _ _).drew | exact below_draws _ _ _ | exact Below.refl _ _)
                 refine (join_ra y x w4.heap.size wr.heap.size _ (HY4.out.below hbv) (HX4.out.below (hbv.mono HS4.out)) hbv.size (Nat.le_trans HS4.out hbv.size) ?hs (MP.out.um y (by rw [HMM.out]; simp)) MP.out.ux).mono ?_
                 case hs => have h1 := MP.out.tt; have h2 := tot_mem (L := M) (x := y) (by rw [HMM.out]; simp); omega
                 rintro e v5 ⟨z, rfl, hz, hcz⟩
                 unfold RA.v Ro.val
                 have b5' := next hbv hcz.below
                 obtain ⟨⟨_, _, _, _, _, _, _, _⟩, _, _, _, _, _, _, _, _⟩ := HALL4.out _ b5'
                 have hcl := HCV.out.on b5'
                 have HSZ := Lib.hid (Safe.of_cur (next HCUR.out.below (next HB4.out hbv)) hcz)
                 obtain ⟨g6, e6, _, _, _, hfz⟩ := hcl.row HUL.out
                 cases e6
                 have f0 := hfz (u * 8)
                 have f1 := hfz (u * 8 + 1)
                 have f2 := hfz (u * 8 + 2)
                 have f3 := hfz (u * 8 + 3)
                 have f4 := hfz (u * 8 + 4)
                 have f5 := hfz (u * 8 + 5)
                 have f6 := hfz (u * 8 + 6)
                 have f7 := hfz (u * 8 + 7)
                 have HCL := Lib.hid hcl
                 have HZE := Lib.hid hz
                 clear hcl hfz hz hcz hbv))
            all_goals
              have hput := HCL.out.put HUL.out z HSZ.out
              generalize hw6 : (World.setCell (World.setCell (World.setCell (World.setCell (World.setCell (World.setCell (World.setCell (World.setCell v5 ⟨g5, u * 8, none⟩ (.string z.ro.key)) ⟨g5, u * 8 + 1, none⟩ (.string z.ro.live.s)) ⟨g5, u * 8 + 2, none⟩ (.bool z.ro.live.d)) ⟨g5, u * 8 + 3, none⟩ (.int .i64 z.ro.live.a)) ⟨g5, u * 8 + 4, none⟩ (.int .i64 z.ro.live.e)) ⟨g5, u * 8 + 5, none⟩ (.int .i64 z.ro.gone)) ⟨g5, u * 8 + 6, none⟩ (.int .i64 z.ro.shade)) ⟨g5, u * 8 + 7, none⟩ (.slice z.A z.ro.cols.length z.c)) = w6 at hput ⊢
              have HPUT := Lib.hid (MP.out.put HMM.out HN2.out HZE.out (by rw [HU.out]; exact hput))
              clear hput f0 f1 f2 f3 f4 f5 f6 f7 b5' hw6
              go_wp2
              go_roundw
              case rel => exact ⟨_, _, _, _, _, _, _, _, _, rfl, rfl, HPUT.out⟩
              case measure => simp [lenS]; omega
          · have t0 : (tcmp y.ro.key x.ro.key == 0) = false := by rw [beq_eq_false_iff_ne]; exact fun h => hn (tcmp_zero.1 h)
            have hp : pushK Ro.key Ro.join (ros M) x.ro = ros M ++ [x.ro] := by rw [HMM.out, show ros (L ++ [y]) = ros L ++ [y.ro] by simp [ros], pushK_last]; exact if_neg hn
            have HP := Lib.hid hp
            have s1 := S1.out
            have s2 := S2.out
            clear hp hn
            go_wp2_with fail
            refine wp_region_held_drew (S := fun w' => Below w4.heap.size w4 w') (by kernel_rfl) ?_ (fun hHeld => ?_)
            · exact (Below.refl _ _).drew
            refine wpAnyH_take (i := 0) (v := ?_) rfl (by kernel_rfl) (by kernel_rfl) (by kernel_rfl) (fun _ _ _ h => h) (Or.inl ⟨by rfl, ?_⟩) (by assumption) ?_
            rotate_left
            · (intro wx hSw; (try dsimp only at hSw); go_simp; try with_reducible rfl)
            try simp only [Act.put, List.getElem_toArray, List.getElem_cons_succ, List.getElem_cons_zero, List.setIfInBounds_toArray, List.set_cons_zero, List.set_cons_succ]
            refine wpAnyH_take (i := 1) (v := ?_) rfl (by kernel_rfl) (by kernel_rfl) (by kernel_rfl) (fun _ _ _ h => h) (Or.inl ⟨by rfl, ?_⟩) (by assumption) ?_
            rotate_left
            · (intro wx hSw; (try dsimp only at hSw); go_simp; try with_reducible rfl)
            try simp only [Act.put, List.getElem_toArray, List.getElem_cons_succ, List.getElem_cons_zero, List.setIfInBounds_toArray, List.set_cons_zero, List.set_cons_succ]
            refine wpAnyH_take (i := 2) (v := ?_) rfl (by kernel_rfl) (by kernel_rfl) (by kernel_rfl) (fun _ _ _ h => h) (Or.inl ⟨by rfl, ?_⟩) (by assumption) ?_
            rotate_left
            · (intro wx hSw; (try dsimp only at hSw); go_simp; try with_reducible rfl)
            try simp only [Act.put, List.getElem_toArray, List.getElem_cons_succ, List.getElem_cons_zero, List.setIfInBounds_toArray, List.set_cons_zero, List.set_cons_succ]
            refine wpAnyH_take (i := 3) (v := ?_) rfl (by kernel_rfl) (by kernel_rfl) (by kernel_rfl) (fun _ _ _ h => h) (Or.inl ⟨by rfl, ?_⟩) (by assumption) ?_
            rotate_left
            · (intro wx hSw; (try dsimp only at hSw); go_simp; try with_reducible rfl)
            try simp only [Act.put, List.getElem_toArray, List.getElem_cons_succ, List.getElem_cons_zero, List.setIfInBounds_toArray, List.set_cons_zero, List.set_cons_succ]
            refine wpAnyH_take (i := 4) (v := ?_) rfl (by kernel_rfl) (by kernel_rfl) (by kernel_rfl) (fun _ _ _ h => h) (Or.inl ⟨by rfl, ?_⟩) (by assumption) ?_
            rotate_left
            · (intro wx hSw; (try dsimp only at hSw); go_simp; try with_reducible rfl)
            try simp only [Act.put, List.getElem_toArray, List.getElem_cons_succ, List.getElem_cons_zero, List.setIfInBounds_toArray, List.set_cons_zero, List.set_cons_succ]
            refine wpAnyH_take (i := 5) (v := ?_) rfl (by kernel_rfl) (by kernel_rfl) (by kernel_rfl) (fun _ _ _ h => h) (Or.inl ⟨by rfl, ?_⟩) (by assumption) ?_
            rotate_left
            · (intro wx hSw; (try dsimp only at hSw); go_simp; try with_reducible rfl)
            try simp only [Act.put, List.getElem_toArray, List.getElem_cons_succ, List.getElem_cons_zero, List.setIfInBounds_toArray, List.set_cons_zero, List.set_cons_succ]
            refine wpAnyH_take (i := 6) (v := ?_) rfl (by kernel_rfl) (by kernel_rfl) (by kernel_rfl) (fun _ _ _ h => h) (Or.inl ⟨by rfl, ?_⟩) (by assumption) ?_
            rotate_left
            · (intro wx hSw; (try dsimp only at hSw); go_simp; try with_reducible rfl)
            try simp only [Act.put, List.getElem_toArray, List.getElem_cons_succ, List.getElem_cons_zero, List.setIfInBounds_toArray, List.set_cons_zero, List.set_cons_succ]
            refine wpAnyH_take (i := 7) (v := ?_) rfl (by kernel_rfl) (by kernel_rfl) (by kernel_rfl) (fun _ _ _ h => h) (Or.inl ⟨by rfl, ?_⟩) (by assumption) ?_
            rotate_left
            · (intro wx hSw; (try dsimp only at hSw); obtain ⟨⟨_, _, _, _, _, _, _, _⟩, _, _, _, _, _, _, _, _⟩ := HALL4.out _ hSw; go_simp; try with_reducible rfl)
            try simp only [Act.put, List.getElem_toArray, List.getElem_cons_succ, List.getElem_cons_zero, List.setIfInBounds_toArray, List.set_cons_zero, List.set_cons_succ]
            refine wpAnyH_take (i := 8) (v := ?_) rfl (by kernel_rfl) (by kernel_rfl) (by kernel_rfl) (fun _ _ _ h => h) (Or.inl ⟨by rfl, ?_⟩) (by assumption) ?_
            rotate_left
            · (intro wx hSw; (try dsimp only at hSw); obtain ⟨⟨_, _, _, _, _, _, _, _⟩, _, _, _, _, _, _, _, _⟩ := HALL4.out _ hSw; go_simp; try with_reducible rfl)
            try simp only [Act.put, List.getElem_toArray, List.getElem_cons_succ, List.getElem_cons_zero, List.setIfInBounds_toArray, List.set_cons_zero, List.set_cons_succ]
            refine wpAnyH_ready (rs := [9]) (by kernel_rfl) (by simp) (AllReadyH.cons rfl (fun K hK => ?_) AllReadyH.nil)
            go_simp
            refine (bykey_ra y x _).mono ?_
            rintro e v1 ⟨rfl, b1⟩
            try go_wp2_with fail
            refine hK.out _ _ ?_ (fun hHeld => ?_)
            · exact next (by assumption) b1
            clear hK K
            try simp only [Act.put, List.getElem_toArray, List.getElem_cons_succ, List.getElem_cons_zero, List.setIfInBounds_toArray, List.set_cons_zero, List.set_cons_succ]
            refine wpAnyH_take (i := 10) (v := ?_) rfl (by kernel_rfl) (by kernel_rfl) (by kernel_rfl) (fun _ _ _ h => h) (Or.inl ⟨by rfl, ?_⟩) (by assumption) ?_
            rotate_left
            · (intro wx hSw; (try dsimp only at hSw); go_simp; try with_reducible rfl)
            try simp only [Act.put, List.getElem_toArray, List.getElem_cons_succ, List.getElem_cons_zero, List.setIfInBounds_toArray, List.set_cons_zero, List.set_cons_succ]
            refine wpAnyH_take (i := 11) (v := ?_) rfl (by kernel_rfl) (by kernel_rfl) (by kernel_rfl) (fun _ _ _ h => h) (Or.inl ⟨by rfl, ?_⟩) (by assumption) ?_
            rotate_left
            · (intro wx hSw; (try dsimp only at hSw); go_simp; try with_reducible rfl)
            try simp only [Act.put, List.getElem_toArray, List.getElem_cons_succ, List.getElem_cons_zero, List.setIfInBounds_toArray, List.set_cons_zero, List.set_cons_succ]
            refine wpAnyH_done (by kernel_rfl) ?_ _
            have hl8 := hHeld
            obtain ⟨⟨_, _, _, _, _, _, _, _⟩, _, _, _, _, _, _, _, _⟩ := HALL4.out _ hHeld
            clear s1 s2
            have hcw := (HCV.out.on hl8).on ((Below.refl _ _).alloc (Nat.le_refl _) (.cells #[.string x.ro.key, .string x.ro.live.s, .bool x.ro.live.d, .int .i64 x.ro.live.a, .int .i64 x.ro.live.e, .int .i64 x.ro.gone, .int .i64 x.ro.shade, .slice x.A x.ro.cols.length x.c] 36))
            have hk1 := RdR.laid v1 x
            have hsx : Safe w (v1) x := Or.inl XIN0.out
            have HCW := Lib.hid hcw; have HK1 := Lib.hid hk1; have HSX := Lib.hid (hsx.on ((Below.refl _ _).alloc (Nat.le_refl _) (.cells #[.string x.ro.key, .string x.ro.live.s, .bool x.ro.live.d, .int .i64 x.ro.live.a, .int .i64 x.ro.live.e, .int .i64 x.ro.gone, .int .i64 x.ro.shade, .slice x.A x.ro.cols.length x.c] 36)))
            clear hcw hk1 hl8 hsx
            go_wp2_with (at_builtin; refine list_ex rfl (.tmp 78) (.tmp 80) _ _ rfl (.slice (some ⟨g5, 0, none⟩) m c0) (.slice (some ⟨(v1).heap.size, 0, none⟩) 1 1) rfl rfl (run_appR w.heap.size (HM.out ▸ HCW.out.cur.own) HK1.out ?s1 ?s2) ?_)
            case s1 => have h9 := HM.out; have h8 := MP.out.sum; (try simp at h9); (try simp); omega
            case s2 => simpa using HCW.out.below.size
            intro v3 w3 ho3 hg3 hloc3
            obtain ⟨A3, m3, c3, rfl, hm3, hc3⟩ := HCW.out.app (k := [x]) (fun y hy => by rw [List.mem_singleton.1 hy]; exact HSX.out) ho3 hg3
            have HC3 := Lib.hid (MP.out.app HP.out hc3)
            clear hc3 ho3 hg3 hloc3
            go_wp2
            go_roundw
            case rel => exact ⟨_, _, _, _, _, _, _, _, _, rfl, rfl, HC3.out⟩
            case measure => simp [lenS]; omega
      · have hpos2 : 0 < n2 := by omega
        have q1 : ((n2 : Int) == 0) = false := by rw [beq_eq_false_iff_ne]; omega
        have q2 : (n2 == 0) = false := by rw [beq_eq_false_iff_ne]; omega
        have d0 : decide ((0 : Int) < (n1 : Int) + (n2 : Int)) = true := by simp; omega
        have d1 : decide (0 < n1 + n2) = true := by simp; omega
        obtain ⟨q, lb', rfl⟩ : ∃ y lb', lb = y :: lb' := by
          match lb, L2.out with
          | [], h => simp at h; omega
          | y :: lb', _ => exact ⟨y, lb', rfl⟩
        obtain ⟨A2', hsl2, hlb'⟩ := HMS.out.b.tail
        have hqin := HMS.out.b.held q (List.mem_cons_self ..)
        obtain ⟨g2, o2, rfl, hgB2⟩ := HMS.out.b.rd.ex hpos2
        have hc02 := (HMS.out.b.below (HCUR.out.below.mono HBB'.out)).head
        have hgw2 : g2 < wr.heap.size := by have := HWS.out; have := HBB'.out; omega
        have i2 : (0 : Int) < n2 := by omega
        by_cases e1 : n1 = 0
        · have hla : la = [] := List.eq_nil_of_length_eq_zero (by rw [L1.out]; exact e1)
          have hrun2 : runK Ro.key Ro.join (pushK Ro.key Ro.join (ros M) q.ro) (ros la) (ros lb') = R := by have := HMS.out.run; rw [hla] at this ⊢; rw [← this]; exact (runK_b _ _ _).symm
          obtain ⟨x, hx⟩ : ∃ x, x = q := ⟨_, rfl⟩
          rw [← hx] at hrun2 hc02 hqin
          have MP := Lib.hid ((hx ▸ HMS.out : MSt w wr B B' R A1 _ n1 n2 c1 c2 la (x :: lb') M _).takeB A2' hlb' hrun2)
          have XIN0 : Hid (RaIn w w.heap.size x) := Lib.hid (hqin.up HBB'.out)
          have XIN : Hid (RaIn wr wr.heap.size x) := Lib.hid ((hqin.below (HCUR.out.below.mono HBB'.out)).up (Nat.le_trans HBB'.out HWS.out))
          have hall : ∀ w', Below U.heap.size U w' → RowAt w' g2 o2 x := fun w' hb => hc02.below (HAL.out.trans (hb.mono (by have := HUS.out; omega))) hgw2
          have HALLW := Lib.hid (fun w' (hb2 : Below wr.heap.size wr w') => hc02.below hb2 hgw2)
          have HALL := Lib.hid hall
          have j1 : decide ((0 : Int) < (n1 : Int)) = false := by simp; omega
          have j2 : decide (0 < n1) = false := by simp; omega
          have w1 := W1_.out
          have w2 := W2_.out
          clear hla hrun2 hlb' hc02 hall e1 e2 hqin hx
          go_wp2_with fail
          rw [← hU]
          clear hU
          refine wp_region_held_drew (S := fun w' => Below U.heap.size U w') (by kernel_rfl) ?_ (fun hHeld => ?_)
          · exact (Below.refl _ _).drew
          refine wpAnyH_take (i := 0) (v := ?_) rfl (by kernel_rfl) (by kernel_rfl) (by kernel_rfl) (fun _ _ _ h => h) (Or.inl ⟨by rfl, ?_⟩) (by assumption) ?_
          rotate_left
          · (intro wx hSw; (try dsimp only at hSw); go_simp; try with_reducible rfl)
          try simp only [Act.put, List.getElem_toArray, List.getElem_cons_succ, List.getElem_cons_zero, List.setIfInBounds_toArray, List.set_cons_zero, List.set_cons_succ]
          refine wpAnyH_take (i := 1) (v := ?_) rfl (by kernel_rfl) (by kernel_rfl) (by kernel_rfl) (fun _ _ _ h => h) (Or.inl ⟨by rfl, ?_⟩) (by assumption) ?_
          rotate_left
          · (intro wx hSw; (try dsimp only at hSw); go_simp; try with_reducible rfl)
          try simp only [Act.put, List.getElem_toArray, List.getElem_cons_succ, List.getElem_cons_zero, List.setIfInBounds_toArray, List.set_cons_zero, List.set_cons_succ]
          refine wpAnyH_take (i := 2) (v := ?_) rfl (by kernel_rfl) (by kernel_rfl) (by kernel_rfl) (fun _ _ _ h => h) (Or.inl ⟨by rfl, ?_⟩) (by assumption) ?_
          rotate_left
          · (intro wx hSw; (try dsimp only at hSw); go_simp; try with_reducible rfl)
          try simp only [Act.put, List.getElem_toArray, List.getElem_cons_succ, List.getElem_cons_zero, List.setIfInBounds_toArray, List.set_cons_zero, List.set_cons_succ]
          refine wpAnyH_take (i := 3) (v := ?_) rfl (by kernel_rfl) (by kernel_rfl) (by kernel_rfl) (fun _ _ _ h => h) (Or.inl ⟨by rfl, ?_⟩) (by assumption) ?_
          rotate_left
          · (intro wx hSw; (try dsimp only at hSw); go_simp; try with_reducible rfl)
          try simp only [Act.put, List.getElem_toArray, List.getElem_cons_succ, List.getElem_cons_zero, List.setIfInBounds_toArray, List.set_cons_zero, List.set_cons_succ]
          refine wpAnyH_take (i := 4) (v := ?_) rfl (by kernel_rfl) (by kernel_rfl) (by kernel_rfl) (fun _ _ _ h => h) (Or.inl ⟨by rfl, ?_⟩) (by assumption) ?_
          rotate_left
          · (intro wx hSw; (try dsimp only at hSw); go_simp; try with_reducible rfl)
          try simp only [Act.put, List.getElem_toArray, List.getElem_cons_succ, List.getElem_cons_zero, List.setIfInBounds_toArray, List.set_cons_zero, List.set_cons_succ]
          refine wpAnyH_take (i := 5) (v := ?_) rfl (by kernel_rfl) (by kernel_rfl) (by kernel_rfl) (fun _ _ _ h => h) (Or.inl ⟨by rfl, ?_⟩) (by assumption) ?_
          rotate_left
          · (intro wx hSw; (try dsimp only at hSw); go_simp; try with_reducible rfl)
          try simp only [Act.put, List.getElem_toArray, List.getElem_cons_succ, List.getElem_cons_zero, List.setIfInBounds_toArray, List.set_cons_zero, List.set_cons_succ]
          refine wpAnyH_take (i := 6) (v := ?_) rfl (by kernel_rfl) (by kernel_rfl) (by kernel_rfl) (fun _ _ _ h => h) (Or.inl ⟨by rfl, ?_⟩) (by assumption) ?_
          rotate_left
          · (intro wx hSw; (try dsimp only at hSw); go_simp; try with_reducible rfl)
          try simp only [Act.put, List.getElem_toArray, List.getElem_cons_succ, List.getElem_cons_zero, List.setIfInBounds_toArray, List.set_cons_zero, List.set_cons_succ]
          refine wpAnyH_take (i := 7) (v := ?_) rfl (by kernel_rfl) (by kernel_rfl) (by kernel_rfl) (fun _ _ _ h => h) (Or.inl ⟨by rfl, ?_⟩) (by assumption) ?_
          rotate_left
          · (intro wx hSw; (try dsimp only at hSw); go_simp; try with_reducible rfl)
          try simp only [Act.put, List.getElem_toArray, List.getElem_cons_succ, List.getElem_cons_zero, List.setIfInBounds_toArray, List.set_cons_zero, List.set_cons_succ]
          refine wpAnyH_take (i := 8) (v := undef) rfl (by kernel_rfl) (by kernel_rfl) (by kernel_rfl) (fun _ _ _ h => h) (Or.inr ⟨by rfl, rfl⟩) (by assumption) ?_
          try simp only [Act.put, List.getElem_toArray, List.getElem_cons_succ, List.getElem_cons_zero, List.setIfInBounds_toArray, List.set_cons_zero, List.set_cons_succ]
          refine wpAnyH_take (i := 9) (v := undef) rfl (by kernel_rfl) (by kernel_rfl) (by kernel_rfl) (fun _ _ _ h => h) (Or.inr ⟨by rfl, rfl⟩) (by assumption) ?_
          try simp only [Act.put, List.getElem_toArray, List.getElem_cons_succ, List.getElem_cons_zero, List.setIfInBounds_toArray, List.set_cons_zero, List.set_cons_succ]
          refine wpAnyH_take (i := 10) (v := undef) rfl (by kernel_rfl) (by kernel_rfl) (by kernel_rfl) (fun _ _ _ h => h) (Or.inr ⟨by rfl, rfl⟩) (by assumption) ?_
          try simp only [Act.put, List.getElem_toArray, List.getElem_cons_succ, List.getElem_cons_zero, List.setIfInBounds_toArray, List.set_cons_zero, List.set_cons_succ]
          refine wpAnyH_take (i := 11) (v := undef) rfl (by kernel_rfl) (by kernel_rfl) (by kernel_rfl) (fun _ _ _ h => h) (Or.inr ⟨by rfl, rfl⟩) (by assumption) ?_
          try simp only [Act.put, List.getElem_toArray, List.getElem_cons_succ, List.getElem_cons_zero, List.setIfInBounds_toArray, List.set_cons_zero, List.set_cons_succ]
          refine wpAnyH_take (i := 12) (v := undef) rfl (by kernel_rfl) (by kernel_rfl) (by kernel_rfl) (fun _ _ _ h => h) (Or.inr ⟨by rfl, rfl⟩) (by assumption) ?_
          try simp only [Act.put, List.getElem_toArray, List.getElem_cons_succ, List.getElem_cons_zero, List.setIfInBounds_toArray, List.set_cons_zero, List.set_cons_succ]
          refine wpAnyH_take (i := 13) (v := undef) rfl (by kernel_rfl) (by kernel_rfl) (by kernel_rfl) (fun _ _ _ h => h) (Or.inr ⟨by rfl, rfl⟩) (by assumption) ?_
          try simp only [Act.put, List.getElem_toArray, List.getElem_cons_succ, List.getElem_cons_zero, List.setIfInBounds_toArray, List.set_cons_zero, List.set_cons_succ]
          refine wpAnyH_take (i := 14) (v := undef) rfl (by kernel_rfl) (by kernel_rfl) (by kernel_rfl) (fun _ _ _ h => h) (Or.inr ⟨by rfl, rfl⟩) (by assumption) ?_
          try simp only [Act.put, List.getElem_toArray, List.getElem_cons_succ, List.getElem_cons_zero, List.setIfInBounds_toArray, List.set_cons_zero, List.set_cons_succ]
          refine wpAnyH_take (i := 15) (v := undef) rfl (by kernel_rfl) (by kernel_rfl) (by kernel_rfl) (fun _ _ _ h => h) (Or.inr ⟨by rfl, rfl⟩) (by assumption) ?_
          try simp only [Act.put, List.getElem_toArray, List.getElem_cons_succ, List.getElem_cons_zero, List.setIfInBounds_toArray, List.set_cons_zero, List.set_cons_succ]
          refine wpAnyH_take (i := 16) (v := undef) rfl (by kernel_rfl) (by kernel_rfl) (by kernel_rfl) (fun _ _ _ h => h) (Or.inr ⟨by rfl, rfl⟩) (by assumption) ?_
          try simp only [Act.put, List.getElem_toArray, List.getElem_cons_succ, List.getElem_cons_zero, List.setIfInBounds_toArray, List.set_cons_zero, List.set_cons_succ]
          refine wpAnyH_take (i := 17) (v := ?_) rfl (by kernel_rfl) (by kernel_rfl) (by kernel_rfl) (fun _ _ _ h => h) (Or.inl ⟨by rfl, ?_⟩) (by assumption) ?_
          rotate_left
          · (intro wx hSw; (try dsimp only at hSw); go_simp; try with_reducible rfl)
          try simp only [Act.put, List.getElem_toArray, List.getElem_cons_succ, List.getElem_cons_zero, List.setIfInBounds_toArray, List.set_cons_zero, List.set_cons_succ]
          refine wpAnyH_take (i := 18) (v := ?_) rfl (by kernel_rfl) (by kernel_rfl) (by kernel_rfl) (fun _ _ _ h => h) (Or.inl ⟨by rfl, ?_⟩) (by assumption) ?_
          rotate_left
          · (intro wx hSw; (try dsimp only at hSw); go_simp; try with_reducible rfl)
          try simp only [Act.put, List.getElem_toArray, List.getElem_cons_succ, List.getElem_cons_zero, List.setIfInBounds_toArray, List.set_cons_zero, List.set_cons_succ]
          refine wpAnyH_done (by kernel_rfl) ?_ _
          clear w1 w2
          have hlow : Below U.heap.size U U := (Below.refl _ _)
          obtain ⟨_, _, _, _, _, _, _, _⟩ := HALL.out _ hlow
          have hq := (hlow.block wr.heap.size (by have := HUS.out; omega)).trans HZ.out
          have z0 := cell_at (i := 0) hq rfl
          have z1 := cell_at (i := 1) hq rfl
          have z2 := cell_at (i := 2) hq rfl
          have z3 := cell_at (i := 3) hq rfl
          have z4 := cell_at (i := 4) hq rfl
          have z5 := cell_at (i := 5) hq rfl
          have z6 := cell_at (i := 6) hq rfl
          have z7 := cell_at (i := 7) hq rfl
          have y0 := thawed_at (i := 0) hq
          have y1 := thawed_at (i := 1) hq
          have y2 := thawed_at (i := 2) hq
          have y3 := thawed_at (i := 3) hq
          have y4 := thawed_at (i := 4) hq
          have y5 := thawed_at (i := 5) hq
          have y6 := thawed_at (i := 6) hq
          have y7 := thawed_at (i := 7) hq
          have HQ4_ := Lib.hid (set8_block hq x)
          have HB4_ := Lib.hid (below_set80 (HAL.out.trans (hlow.mono (by have := HUS.out; omega))) (Nat.le_refl wr.heap.size) x)
          clear hq
          have HLOW := Lib.hid (HAL.out.trans (hlow.mono (by have := HUS.out; omega)))
          go_wp2_with fail
          refine wp_region_held_drew (S := fun w' => Below wr.heap.size wr w') (by kernel_rfl) ?_ (fun hHeld => ?_)
          · exact HLOW.out.drew.drew
          refine wpAnyH_take (i := 0) (v := ?_) rfl (by kernel_rfl) (by kernel_rfl) (by kernel_rfl) (fun _ _ _ h => h) (Or.inl ⟨by rfl, ?_⟩) (by assumption) ?_
          rotate_left
          · (intro wx hSw; (try dsimp only at hSw); go_simp; try with_reducible rfl)
          try simp only [Act.put, List.getElem_toArray, List.getElem_cons_succ, List.getElem_cons_zero, List.setIfInBounds_toArray, List.set_cons_zero, List.set_cons_succ]
          refine wpAnyH_take (i := 1) (v := ?_) rfl (by kernel_rfl) (by kernel_rfl) (by kernel_rfl) (fun _ _ _ h => h) (Or.inl ⟨by rfl, ?_⟩) (by assumption) ?_
          rotate_left
          · (intro wx hSw; (try dsimp only at hSw); go_simp; try with_reducible rfl)
          try simp only [Act.put, List.getElem_toArray, List.getElem_cons_succ, List.getElem_cons_zero, List.setIfInBounds_toArray, List.set_cons_zero, List.set_cons_succ]
          refine wpAnyH_take (i := 2) (v := ?_) rfl (by kernel_rfl) (by kernel_rfl) (by kernel_rfl) (fun _ _ _ h => h) (Or.inl ⟨by rfl, ?_⟩) (by assumption) ?_
          rotate_left
          · (intro wx hSw; (try dsimp only at hSw); obtain ⟨_, _, _, _, _, _, _, _⟩ := HALLW.out _ hSw; go_simp; try with_reducible rfl)
          try simp only [Act.put, List.getElem_toArray, List.getElem_cons_succ, List.getElem_cons_zero, List.setIfInBounds_toArray, List.set_cons_zero, List.set_cons_succ]
          refine wpAnyH_take (i := 3) (v := ?_) rfl (by kernel_rfl) (by kernel_rfl) (by kernel_rfl) (fun _ _ _ h => h) (Or.inl ⟨by rfl, ?_⟩) (by assumption) ?_
          rotate_left
          · (intro wx hSw; (try dsimp only at hSw); go_simp; try with_reducible rfl)
          try simp only [Act.put, List.getElem_toArray, List.getElem_cons_succ, List.getElem_cons_zero, List.setIfInBounds_toArray, List.set_cons_zero, List.set_cons_succ]
          refine wpAnyH_take (i := 4) (v := ?_) rfl (by kernel_rfl) (by kernel_rfl) (by kernel_rfl) (fun _ _ _ h => h) (Or.inl ⟨by rfl, ?_⟩) (by assumption) ?_
          rotate_left
          · (intro wx hSw; (try dsimp only at hSw); go_simp; try with_reducible rfl)
          try simp only [Act.put, List.getElem_toArray, List.getElem_cons_succ, List.getElem_cons_zero, List.setIfInBounds_toArray, List.set_cons_zero, List.set_cons_succ]
          refine wpAnyH_ready (rs := [5]) (by kernel_rfl) (by simp) (AllReadyH.cons rfl (fun K hK => ?_) AllReadyH.nil)
          go_simp
          refine hK.out _ _ ?_ (fun hHeld => ?_)
          · exact HB4_.out.drew.drew
          clear hK K
          try simp only [Act.put, List.getElem_toArray, List.getElem_cons_succ, List.getElem_cons_zero, List.setIfInBounds_toArray, List.set_cons_zero, List.set_cons_succ]
          refine wpAnyH_take (i := 6) (v := ?_) rfl (by kernel_rfl) (by kernel_rfl) (by kernel_rfl) (fun _ _ _ h => h) (Or.inl ⟨by rfl, ?_⟩) (by assumption) ?_
          rotate_left
          · (intro wx hSw; (try dsimp only at hSw); go_simp; try with_reducible rfl)
          try simp only [Act.put, List.getElem_toArray, List.getElem_cons_succ, List.getElem_cons_zero, List.setIfInBounds_toArray, List.set_cons_zero, List.set_cons_succ]
          refine wpAnyH_done (by kernel_rfl) ?_ _
          obtain ⟨w4, hw4⟩ : ∃ w4, w4 = ((World.setCell (World.setCell (World.setCell (World.setCell (World.setCell (World.setCell (World.setCell (World.setCell (U) ⟨wr.heap.size, 0, none⟩ (.string x.ro.key)) ⟨wr.heap.size, 1, none⟩ (.string x.ro.live.s)) ⟨wr.heap.size, 2, none⟩ (.bool x.ro.live.d)) ⟨wr.heap.size, 3, none⟩ (.int .i64 x.ro.live.a)) ⟨wr.heap.size, 4, none⟩ (.int .i64 x.ro.live.e)) ⟨wr.heap.size, 5, none⟩ (.int .i64 x.ro.gone)) ⟨wr.heap.size, 6, none⟩ (.int .i64 x.ro.shade)) ⟨wr.heap.size, 7, none⟩ (.slice x.A x.ro.cols.length x.c))).drew.drew := ⟨_, rfl⟩
          rw [← hw4]
          have HQ4 : Hid (w4.heap[wr.heap.size]? = some (.cells #[.string x.ro.key, .string x.ro.live.s, .bool x.ro.live.d, .int .i64 x.ro.live.a, .int .i64 x.ro.live.e, .int .i64 x.ro.gone, .int .i64 x.ro.shade, .slice x.A x.ro.cols.length x.c] 36)) := Lib.hid (by rw [hw4]; simp only [heap_drew]; exact HQ4_.out)
          have HB4 : Hid (Below wr.heap.size wr w4) := Lib.hid (by rw [hw4]; exact HB4_.out.drew.drew)
          clear hw4 HQ4_ HB4_ z0 z1 z2 z3 z4 z5 z6 z7 y0 y1 y2 y3 y4 y5 y6 y7
          have HCV := Lib.hid (HCUR.out.on HB4.out)
          have HS4 := Lib.hid HB4.out.size
          have HX4 := Lib.hid (XIN.out.below HB4.out)
          rcases List.eq_nil_or_concat M with hM | ⟨L, y, hM⟩
          · have hp : pushK Ro.key Ro.join (ros M) x.ro = ros M ++ [x.ro] := by rw [hM]; rfl
            have hm0 : m = 0 := by rw [← HM.out, hM]; rfl
            have S1 := Lib.hid (show IntKind.i64.wrap ((m : Int) - 1) = -1 by rw [IntKind.wrap_i64]; omega)
            have S2 := Lib.hid (show wrap64 ((m : Int) - 1) = -1 by unfold wrap64; omega)
            have HP := Lib.hid hp
            have hall4 : ∀ w', Below w4.heap.size w4 w' → BlkAt w' wr.heap.size x := fun w' hb => BlkAt.of ((hb.block wr.heap.size (Array.getElem?_eq_some_iff.1 HQ4.out).1).trans HQ4.out)
            have HALL4 := Lib.hid hall4
            have s1 := S1.out
            have s2 := S2.out
            clear hm0 hM hp hall4
            go_wp2_with fail
            refine wp_region_held_drew (S := fun w' => Below w4.heap.size w4 w') (by kernel_rfl) ?_ (fun hHeld => ?_)
            · exact (Below.refl _ _).drew
            refine wpAnyH_take (i := 0) (v := ?_) rfl (by kernel_rfl) (by kernel_rfl) (by kernel_rfl) (fun _ _ _ h => h) (Or.inl ⟨by rfl, ?_⟩) (by assumption) ?_
            rotate_left
            · (intro wx hSw; (try dsimp only at hSw); go_simp; try with_reducible rfl)
            try simp only [Act.put, List.getElem_toArray, List.getElem_cons_succ, List.getElem_cons_zero, List.setIfInBounds_toArray, List.set_cons_zero, List.set_cons_succ]
            refine wpAnyH_take (i := 1) (v := ?_) rfl (by kernel_rfl) (by kernel_rfl) (by kernel_rfl) (fun _ _ _ h => h) (Or.inl ⟨by rfl, ?_⟩) (by assumption) ?_
            rotate_left
            · (intro wx hSw; (try dsimp only at hSw); go_simp; try with_reducible rfl)
            try simp only [Act.put, List.getElem_toArray, List.getElem_cons_succ, List.getElem_cons_zero, List.setIfInBounds_toArray, List.set_cons_zero, List.set_cons_succ]
            refine wpAnyH_take (i := 2) (v := ?_) rfl (by kernel_rfl) (by kernel_rfl) (by kernel_rfl) (fun _ _ _ h => h) (Or.inl ⟨by rfl, ?_⟩) (by assumption) ?_
            rotate_left
            · (intro wx hSw; (try dsimp only at hSw); go_simp; try with_reducible rfl)
            try simp only [Act.put, List.getElem_toArray, List.getElem_cons_succ, List.getElem_cons_zero, List.setIfInBounds_toArray, List.set_cons_zero, List.set_cons_succ]
            refine wpAnyH_take (i := 3) (v := undef) rfl (by kernel_rfl) (by kernel_rfl) (by kernel_rfl) (fun _ _ _ h => h) (Or.inr ⟨by rfl, rfl⟩) (by assumption) ?_
            try simp only [Act.put, List.getElem_toArray, List.getElem_cons_succ, List.getElem_cons_zero, List.setIfInBounds_toArray, List.set_cons_zero, List.set_cons_succ]
            refine wpAnyH_take (i := 4) (v := undef) rfl (by kernel_rfl) (by kernel_rfl) (by kernel_rfl) (fun _ _ _ h => h) (Or.inr ⟨by rfl, rfl⟩) (by assumption) ?_
            try simp only [Act.put, List.getElem_toArray, List.getElem_cons_succ, List.getElem_cons_zero, List.setIfInBounds_toArray, List.set_cons_zero, List.set_cons_succ]
            refine wpAnyH_take (i := 5) (v := undef) rfl (by kernel_rfl) (by kernel_rfl) (by kernel_rfl) (fun _ _ _ h => h) (Or.inr ⟨by rfl, rfl⟩) (by assumption) ?_
            try simp only [Act.put, List.getElem_toArray, List.getElem_cons_succ, List.getElem_cons_zero, List.setIfInBounds_toArray, List.set_cons_zero, List.set_cons_succ]
            refine wpAnyH_take (i := 6) (v := undef) rfl (by kernel_rfl) (by kernel_rfl) (by kernel_rfl) (fun _ _ _ h => h) (Or.inr ⟨by rfl, rfl⟩) (by assumption) ?_
            try simp only [Act.put, List.getElem_toArray, List.getElem_cons_succ, List.getElem_cons_zero, List.setIfInBounds_toArray, List.set_cons_zero, List.set_cons_succ]
            refine wpAnyH_take (i := 7) (v := undef) rfl (by kernel_rfl) (by kernel_rfl) (by kernel_rfl) (fun _ _ _ h => h) (Or.inr ⟨by rfl, rfl⟩) (by assumption) ?_
            try simp only [Act.put, List.getElem_toArray, List.getElem_cons_succ, List.getElem_cons_zero, List.setIfInBounds_toArray, List.set_cons_zero, List.set_cons_succ]
            refine wpAnyH_take (i := 8) (v := undef) rfl (by kernel_rfl) (by kernel_rfl) (by kernel_rfl) (fun _ _ _ h => h) (Or.inr ⟨by rfl, rfl⟩) (by assumption) ?_
            try simp only [Act.put, List.getElem_toArray, List.getElem_cons_succ, List.getElem_cons_zero, List.setIfInBounds_toArray, List.set_cons_zero, List.set_cons_succ]
            refine wpAnyH_take (i := 9) (v := undef) rfl (by kernel_rfl) (by kernel_rfl) (by kernel_rfl) (fun _ _ _ h => h) (Or.inr ⟨by rfl, rfl⟩) (by assumption) ?_
            try simp only [Act.put, List.getElem_toArray, List.getElem_cons_succ, List.getElem_cons_zero, List.setIfInBounds_toArray, List.set_cons_zero, List.set_cons_succ]
            refine wpAnyH_take (i := 10) (v := undef) rfl (by kernel_rfl) (by kernel_rfl) (by kernel_rfl) (fun _ _ _ h => h) (Or.inr ⟨by rfl, rfl⟩) (by assumption) ?_
            try simp only [Act.put, List.getElem_toArray, List.getElem_cons_succ, List.getElem_cons_zero, List.setIfInBounds_toArray, List.set_cons_zero, List.set_cons_succ]
            refine wpAnyH_take (i := 11) (v := ?_) rfl (by kernel_rfl) (by kernel_rfl) (by kernel_rfl) (fun _ _ _ h => h) (Or.inl ⟨by rfl, ?_⟩) (by assumption) ?_
            rotate_left
            · (intro wx hSw; (try dsimp only at hSw); go_simp; try with_reducible rfl)
            try simp only [Act.put, List.getElem_toArray, List.getElem_cons_succ, List.getElem_cons_zero, List.setIfInBounds_toArray, List.set_cons_zero, List.set_cons_succ]
            refine wpAnyH_done (by kernel_rfl) ?_ _
            have hl8 : Below w4.heap.size w4 w4.drew := (Below.refl _ _).drew
            generalize w4.drew = w8 at hl8 ⊢
            obtain ⟨_, _, _, _, _, _, _, _⟩ := HALL4.out _ hl8
            clear s1 s2
            have hcw := (HCV.out.on hl8).on ((Below.refl _ _).alloc (Nat.le_refl _) (.cells #[.string x.ro.key, .string x.ro.live.s, .bool x.ro.live.d, .int .i64 x.ro.live.a, .int .i64 x.ro.live.e, .int .i64 x.ro.gone, .int .i64 x.ro.shade, .slice x.A x.ro.cols.length x.c] 36))
            have hk1 := RdR.laid w8 x
            have hsx : Safe w (w8) x := Or.inl XIN0.out
            have HCW := Lib.hid hcw; have HK1 := Lib.hid hk1; have HSX := Lib.hid (hsx.on ((Below.refl _ _).alloc (Nat.le_refl _) (.cells #[.string x.ro.key, .string x.ro.live.s, .bool x.ro.live.d, .int .i64 x.ro.live.a, .int .i64 x.ro.live.e, .int .i64 x.ro.gone, .int .i64 x.ro.shade, .slice x.A x.ro.cols.length x.c] 36)))
            clear hcw hk1 hl8 hsx
            go_wp2_with (at_builtin; refine list_ex rfl (.tmp 78) (.tmp 80) _ _ rfl (.slice A0 m c0) (.slice (some ⟨(w8).heap.size, 0, none⟩) 1 1) rfl rfl (run_appR w.heap.size (HM.out ▸ HCW.out.cur.own) HK1.out ?s1 ?s2) ?_)
            case s1 => have h9 := HM.out; have h8 := MP.out.sum; (try simp at h9); (try simp); omega
            case s2 => simpa using HCW.out.below.size
            intro v3 w3 ho3 hg3 hloc3
            obtain ⟨A3, m3, c3, rfl, hm3, hc3⟩ := HCW.out.app (k := [x]) (fun y hy => by rw [List.mem_singleton.1 hy]; exact HSX.out) ho3 hg3
            have HC3 := Lib.hid (MP.out.app HP.out hc3)
            clear hc3 ho3 hg3 hloc3
            go_wp2
            go_roundw
            case rel => exact ⟨_, _, _, _, _, _, _, _, _, rfl, rfl, HC3.out⟩
            case measure => simp [lenS]; omega
          · rw [List.concat_eq_append] at hM
            have HMM := Lib.hid hM
            clear hM
            obtain ⟨u, hu⟩ : ∃ u, L.length = u := ⟨_, rfl⟩
            have hm1 : m = u + 1 := by rw [← HM.out, HMM.out, ← hu]; simp
            have hul : u < M.length := by have := HM.out; omega
            have hMu : M[u] = y := by simp [HMM.out, ← hu]
            have S1 := Lib.hid (show IntKind.i64.wrap ((m : Int) - 1) = (u : Int) by rw [IntKind.wrap_i64]; omega)
            have S2 := Lib.hid (show wrap64 ((m : Int) - 1) = (u : Int) by unfold wrap64; omega)
            obtain ⟨g5, rfl, hg5, hg5', hy5, hf5⟩ := HCV.out.row hul
            rw [hMu] at hy5
            have hall4 : ∀ w', Below w4.heap.size w4 w' → RowAt w' g5 (u * 8) y ∧ BlkAt w' wr.heap.size x := fun w' hb =>
              ⟨hy5.below hb hg5', BlkAt.of ((hb.block wr.heap.size (Array.getElem?_eq_some_iff.1 HQ4.out).1).trans HQ4.out)⟩
            have HALL4 := Lib.hid hall4
            have hysafe := HCV.out.safe y (by rw [HMM.out]; simp)
            have HY4 := Lib.hid (hysafe.ra HCV.out.below)
            have i5 : (u : Int) < m := by omega
            have i6 : (0 : Int) ≤ u := by omega
            have i7 : decide ((0 : Int) ≤ (u : Int)) = true := by simp
            have HU := Lib.hid hu; have HM1 := Lib.hid hm1; have HUL := Lib.hid hul
            clear hall4 hu hm1 hy5 hf5 hul hMu hysafe
            by_cases hn : y.ro.key = x.ro.key
            · have t0 : (tcmp y.ro.key x.ro.key == 0) = true := by rw [beq_iff_eq]; exact tcmp_zero.2 hn
              have HN2 := Lib.hid hn
              have s1 := S1.out
              have s2 := S2.out
              clear hn
              go_wp2_with fail
              refine wp_region_held_drew (S := fun w' => Below w4.heap.size w4 w') (by kernel_rfl) ?_ (fun hHeld => ?_)
              · exact (Below.refl _ _).drew
              refine wpAnyH_take (i := 0) (v := ?_) rfl (by kernel_rfl) (by kernel_rfl) (by kernel_rfl) (fun _ _ _ h => h) (Or.inl ⟨by rfl, ?_⟩) (by assumption) ?_
              rotate_left
              · (intro wx hSw; (try dsimp only at hSw); go_simp; try with_reducible rfl)
              try simp only [Act.put, List.getElem_toArray, List.getElem_cons_succ, List.getElem_cons_zero, List.setIfInBounds_toArray, List.set_cons_zero, List.set_cons_succ]
              refine wpAnyH_take (i := 1) (v := ?_) rfl (by kernel_rfl) (by kernel_rfl) (by kernel_rfl) (fun _ _ _ h => h) (Or.inl ⟨by rfl, ?_⟩) (by assumption) ?_
              rotate_left
              · (intro wx hSw; (try dsimp only at hSw); go_simp; try with_reducible rfl)
              try simp only [Act.put, List.getElem_toArray, List.getElem_cons_succ, List.getElem_cons_zero, List.setIfInBounds_toArray, List.set_cons_zero, List.set_cons_succ]
              refine wpAnyH_take (i := 2) (v := ?_) rfl (by kernel_rfl) (by kernel_rfl) (by kernel_rfl) (fun _ _ _ h => h) (Or.inl ⟨by rfl, ?_⟩) (by assumption) ?_
              rotate_left
              · (intro wx hSw; (try dsimp only at hSw); go_simp; try with_reducible rfl)
              try simp only [Act.put, List.getElem_toArray, List.getElem_cons_succ, List.getElem_cons_zero, List.setIfInBounds_toArray, List.set_cons_zero, List.set_cons_succ]
              refine wpAnyH_take (i := 3) (v := ?_) rfl (by kernel_rfl) (by kernel_rfl) (by kernel_rfl) (fun _ _ _ h => h) (Or.inl ⟨by rfl, ?_⟩) (by assumption) ?_
              rotate_left
              · (intro wx hSw; (try dsimp only at hSw); go_simp; try with_reducible rfl)
              try simp only [Act.put, List.getElem_toArray, List.getElem_cons_succ, List.getElem_cons_zero, List.setIfInBounds_toArray, List.set_cons_zero, List.set_cons_succ]
              refine wpAnyH_take (i := 4) (v := ?_) rfl (by kernel_rfl) (by kernel_rfl) (by kernel_rfl) (fun _ _ _ h => h) (Or.inl ⟨by rfl, ?_⟩) (by assumption) ?_
              rotate_left
              · (intro wx hSw; (try dsimp only at hSw); go_simp; try with_reducible rfl)
              try simp only [Act.put, List.getElem_toArray, List.getElem_cons_succ, List.getElem_cons_zero, List.setIfInBounds_toArray, List.set_cons_zero, List.set_cons_succ]
              refine wpAnyH_take (i := 5) (v := ?_) rfl (by kernel_rfl) (by kernel_rfl) (by kernel_rfl) (fun _ _ _ h => h) (Or.inl ⟨by rfl, ?_⟩) (by assumption) ?_
              rotate_left
              · (intro wx hSw; (try dsimp only at hSw); go_simp; try with_reducible rfl)
              try simp only [Act.put, List.getElem_toArray, List.getElem_cons_succ, List.getElem_cons_zero, List.setIfInBounds_toArray, List.set_cons_zero, List.set_cons_succ]
              refine wpAnyH_take (i := 6) (v := ?_) rfl (by kernel_rfl) (by kernel_rfl) (by kernel_rfl) (fun _ _ _ h => h) (Or.inl ⟨by rfl, ?_⟩) (by assumption) ?_
              rotate_left
              · (intro wx hSw; (try dsimp only at hSw); go_simp; try with_reducible rfl)
              try simp only [Act.put, List.getElem_toArray, List.getElem_cons_succ, List.getElem_cons_zero, List.setIfInBounds_toArray, List.set_cons_zero, List.set_cons_succ]
              refine wpAnyH_take (i := 7) (v := ?_) rfl (by kernel_rfl) (by kernel_rfl) (by kernel_rfl) (fun _ _ _ h => h) (Or.inl ⟨by rfl, ?_⟩) (by assumption) ?_
              rotate_left
              · (intro wx hSw; (try dsimp only at hSw); obtain ⟨⟨_, _, _, _, _, _, _, _⟩, _, _, _, _, _, _, _, _⟩ := HALL4.out _ hSw; go_simp; try with_reducible rfl)
              try simp only [Act.put, List.getElem_toArray, List.getElem_cons_succ, List.getElem_cons_zero, List.setIfInBounds_toArray, List.set_cons_zero, List.set_cons_succ]
              refine wpAnyH_take (i := 8) (v := ?_) rfl (by kernel_rfl) (by kernel_rfl) (by kernel_rfl) (fun _ _ _ h => h) (Or.inl ⟨by rfl, ?_⟩) (by assumption) ?_
              rotate_left
              · (intro wx hSw; (try dsimp only at hSw); obtain ⟨⟨_, _, _, _, _, _, _, _⟩, _, _, _, _, _, _, _, _⟩ := HALL4.out _ hSw; go_simp; try with_reducible rfl)
              try simp only [Act.put, List.getElem_toArray, List.getElem_cons_succ, List.getElem_cons_zero, List.setIfInBounds_toArray, List.set_cons_zero, List.set_cons_succ]
              refine wpAnyH_ready (rs := [9]) (by kernel_rfl) (by simp) (AllReadyH.cons rfl (fun K hK => ?_) AllReadyH.nil)
              go_simp
              refine (bykey_ra y x _).mono ?_
              rintro e v1 ⟨rfl, b1⟩
              try go_wp2_with fail
              refine hK.out _ _ ?_ (fun hHeld => ?_)
              · exact next (by assumption) b1
              clear hK K
              try simp only [Act.put, List.getElem_toArray, List.getElem_cons_succ, List.getElem_cons_zero, List.setIfInBounds_toArray, List.set_cons_zero, List.set_cons_succ]
              refine wpAnyH_take (i := 10) (v := ?_) rfl (by kernel_rfl) (by kernel_rfl) (by kernel_rfl) (fun _ _ _ h => h) (Or.inl ⟨by rfl, ?_⟩) (by assumption) ?_
              rotate_left
              · (intro wx hSw; (try dsimp only at hSw); go_simp; try with_reducible rfl)
              try simp only [Act.put, List.getElem_toArray, List.getElem_cons_succ, List.getElem_cons_zero, List.setIfInBounds_toArray, List.set_cons_zero, List.set_cons_succ]
              refine wpAnyH_take (i := 11) (v := ?_) rfl (by kernel_rfl) (by kernel_rfl) (by kernel_rfl) (fun _ _ _ h => h) (Or.inl ⟨by rfl, ?_⟩) (by assumption) ?_
              rotate_left
              · (intro wx hSw; (try dsimp only at hSw); go_simp; try with_reducible rfl)
              try simp only [Act.put, List.getElem_toArray, List.getElem_cons_succ, List.getElem_cons_zero, List.setIfInBounds_toArray, List.set_cons_zero, List.set_cons_succ]
              refine wpAnyH_done (by kernel_rfl) ?_ _
              obtain ⟨⟨_, _, _, _, _, _, _, _⟩, _, _, _, _, _, _, _, _⟩ := HALL4.out _ hHeld
              clear s1 s2
              have HH := Lib.hid hHeld
              clear hHeld
              go_wp2_with fail
              go_region_with (first
                | (go_at_call 37
                   have hbv := next (w := w4) HH.out (show Below v1.heap.size v1 _ by first | exact (Below.refl _ _).drew | exact below_draws _ _ _ | exact Below.refl _ _)
                   refine (join_ra y x w4.heap.size wr.heap.size _ (HY4.out.below hbv) (HX4.out.below (hbv.mono HS4.out)) hbv.size (Nat.le_trans HS4.out hbv.size) ?hs (MP.out.um y (by rw [HMM.out]; simp)) MP.out.ux).mono ?_
                   case hs => have h1 := MP.out.tt; have h2 := tot_mem (L := M) (x := y) (by rw [HMM.out]; simp); omega
                   rintro e v5 ⟨z, rfl, hz, hcz⟩
                   unfold RA.v Ro.val
                   have b5' := next hbv hcz.below
                   obtain ⟨⟨_, _, _, _, _, _, _, _⟩, _, _, _, _, _, _, _, _⟩ := HALL4.out _ b5'
                   have hcl := HCV.out.on b5'
                   have HSZ := Lib.hid (Safe.of_cur (next HCUR.out.below (next HB4.out hbv)) hcz)
                   obtain ⟨g6, e6, _, _, _, hfz⟩ := hcl.row HUL.out
                   cases e6
                   have f0 := hfz (u * 8)
                   have f1 := hfz (u * 8 + 1)
                   have f2 := hfz (u * 8 + 2)
                   have f3 := hfz (u * 8 + 3)
                   have f4 := hfz (u * 8 + 4)
                   have f5 := hfz (u * 8 + 5)
                   have f6 := hfz (u * 8 + 6)
                   have f7 := hfz (u * 8 + 7)
                   have HCL := Lib.hid hcl
                   have HZE := Lib.hid hz
                   clear hcl hfz hz hcz hbv))
              all_goals
                have hput := HCL.out.put HUL.out z HSZ.out
                generalize hw6 : (World.setCell (World.setCell (World.setCell (World.setCell (World.setCell (World.setCell (World.setCell (World.setCell v5 ⟨g5, u * 8, none⟩ (.string z.ro.key)) ⟨g5, u * 8 + 1, none⟩ (.string z.ro.live.s)) ⟨g5, u * 8 + 2, none⟩ (.bool z.ro.live.d)) ⟨g5, u * 8 + 3, none⟩ (.int .i64 z.ro.live.a)) ⟨g5, u * 8 + 4, none⟩ (.int .i64 z.ro.live.e)) ⟨g5, u * 8 + 5, none⟩ (.int .i64 z.ro.gone)) ⟨g5, u * 8 + 6, none⟩ (.int .i64 z.ro.shade)) ⟨g5, u * 8 + 7, none⟩ (.slice z.A z.ro.cols.length z.c)) = w6 at hput ⊢
                have HPUT := Lib.hid (MP.out.put HMM.out HN2.out HZE.out (by rw [HU.out]; exact hput))
                clear hput f0 f1 f2 f3 f4 f5 f6 f7 b5' hw6
                go_wp2
                go_roundw
                case rel => exact ⟨_, _, _, _, _, _, _, _, _, rfl, rfl, HPUT.out⟩
                case measure => simp [lenS]; omega
            · have t0 : (tcmp y.ro.key x.ro.key == 0) = false := by rw [beq_eq_false_iff_ne]; exact fun h => hn (tcmp_zero.1 h)
              have hp : pushK Ro.key Ro.join (ros M) x.ro = ros M ++ [x.ro] := by rw [HMM.out, show ros (L ++ [y]) = ros L ++ [y.ro] by simp [ros], pushK_last]; exact if_neg hn
              have HP := Lib.hid hp
              have s1 := S1.out
              have s2 := S2.out
              clear hp hn
              go_wp2_with fail
              refine wp_region_held_drew (S := fun w' => Below w4.heap.size w4 w') (by kernel_rfl) ?_ (fun hHeld => ?_)
              · exact (Below.refl _ _).drew
              refine wpAnyH_take (i := 0) (v := ?_) rfl (by kernel_rfl) (by kernel_rfl) (by kernel_rfl) (fun _ _ _ h => h) (Or.inl ⟨by rfl, ?_⟩) (by assumption) ?_
              rotate_left
              · (intro wx hSw; (try dsimp only at hSw); go_simp; try with_reducible rfl)
              try simp only [Act.put, List.getElem_toArray, List.getElem_cons_succ, List.getElem_cons_zero, List.setIfInBounds_toArray, List.set_cons_zero, List.set_cons_succ]
              refine wpAnyH_take (i := 1) (v := ?_) rfl (by kernel_rfl) (by kernel_rfl) (by kernel_rfl) (fun _ _ _ h => h) (Or.inl ⟨by rfl, ?_⟩) (by assumption) ?_
              rotate_left
              · (intro wx hSw; (try dsimp only at hSw); go_simp; try with_reducible rfl)
              try simp only [Act.put, List.getElem_toArray, List.getElem_cons_succ, List.getElem_cons_zero, List.setIfInBounds_toArray, List.set_cons_zero, List.set_cons_succ]
              refine wpAnyH_take (i := 2) (v := ?_) rfl (by kernel_rfl) (by kernel_rfl) (by kernel_rfl) (fun _ _ _ h => h) (Or.inl ⟨by rfl, ?_⟩) (by assumption) ?_
              rotate_left
              · (intro wx hSw; (try dsimp only at hSw); go_simp; try with_reducible rfl)
              try simp only [Act.put, List.getElem_toArray, List.getElem_cons_succ, List.getElem_cons_zero, List.setIfInBounds_toArray, List.set_cons_zero, List.set_cons_succ]
              refine wpAnyH_take (i := 3) (v := ?_) rfl (by kernel_rfl) (by kernel_rfl) (by kernel_rfl) (fun _ _ _ h => h) (Or.inl ⟨by rfl, ?_⟩) (by assumption) ?_
              rotate_left
              · (intro wx hSw; (try dsimp only at hSw); go_simp; try with_reducible rfl)
              try simp only [Act.put, List.getElem_toArray, List.getElem_cons_succ, List.getElem_cons_zero, List.setIfInBounds_toArray, List.set_cons_zero, List.set_cons_succ]
              refine wpAnyH_take (i := 4) (v := ?_) rfl (by kernel_rfl) (by kernel_rfl) (by kernel_rfl) (fun _ _ _ h => h) (Or.inl ⟨by rfl, ?_⟩) (by assumption) ?_
              rotate_left
              · (intro wx hSw; (try dsimp only at hSw); go_simp; try with_reducible rfl)
              try simp only [Act.put, List.getElem_toArray, List.getElem_cons_succ, List.getElem_cons_zero, List.setIfInBounds_toArray, List.set_cons_zero, List.set_cons_succ]
              refine wpAnyH_take (i := 5) (v := ?_) rfl (by kernel_rfl) (by kernel_rfl) (by kernel_rfl) (fun _ _ _ h => h) (Or.inl ⟨by rfl, ?_⟩) (by assumption) ?_
              rotate_left
              · (intro wx hSw; (try dsimp only at hSw); go_simp; try with_reducible rfl)
              try simp only [Act.put, List.getElem_toArray, List.getElem_cons_succ, List.getElem_cons_zero, List.setIfInBounds_toArray, List.set_cons_zero, List.set_cons_succ]
              refine wpAnyH_take (i := 6) (v := ?_) rfl (by kernel_rfl) (by kernel_rfl) (by kernel_rfl) (fun _ _ _ h => h) (Or.inl ⟨by rfl, ?_⟩) (by assumption) ?_
              rotate_left
              · (intro wx hSw; (try dsimp only at hSw); go_simp; try with_reducible rfl)
              try simp only [Act.put, List.getElem_toArray, List.getElem_cons_succ, List.getElem_cons_zero, List.setIfInBounds_toArray, List.set_cons_zero, List.set_cons_succ]
              refine wpAnyH_take (i := 7) (v := ?_) rfl (by kernel_rfl) (by kernel_rfl) (by kernel_rfl) (fun _ _ _ h => h) (Or.inl ⟨by rfl, ?_⟩) (by assumption) ?_
              rotate_left
              · (intro wx hSw; (try dsimp only at hSw); obtain ⟨⟨_, _, _, _, _, _, _, _⟩, _, _, _, _, _, _, _, _⟩ := HALL4.out _ hSw; go_simp; try with_reducible rfl)
              try simp only [Act.put, List.getElem_toArray, List.getElem_cons_succ, List.getElem_cons_zero, List.setIfInBounds_toArray, List.set_cons_zero, List.set_cons_succ]
              refine wpAnyH_take (i := 8) (v := ?_) rfl (by kernel_rfl) (by kernel_rfl) (by kernel_rfl) (fun _ _ _ h => h) (Or.inl ⟨by rfl, ?_⟩) (by assumption) ?_
              rotate_left
              · (intro wx hSw; (try dsimp only at hSw); obtain ⟨⟨_, _, _, _, _, _, _, _⟩, _, _, _, _, _, _, _, _⟩ := HALL4.out _ hSw; go_simp; try with_reducible rfl)
              try simp only [Act.put, List.getElem_toArray, List.getElem_cons_succ, List.getElem_cons_zero, List.setIfInBounds_toArray, List.set_cons_zero, List.set_cons_succ]
              refine wpAnyH_ready (rs := [9]) (by kernel_rfl) (by simp) (AllReadyH.cons rfl (fun K hK => ?_) AllReadyH.nil)
              go_simp
              refine (bykey_ra y x _).mono ?_
              rintro e v1 ⟨rfl, b1⟩
              try go_wp2_with fail
              refine hK.out _ _ ?_ (fun hHeld => ?_)
              · exact next (by assumption) b1
              clear hK K
              try simp only [Act.put, List.getElem_toArray, List.getElem_cons_succ, List.getElem_cons_zero, List.setIfInBounds_toArray, List.set_cons_zero, List.set_cons_succ]
              refine wpAnyH_take (i := 10) (v := ?_) rfl (by kernel_rfl) (by kernel_rfl) (by kernel_rfl) (fun _ _ _ h => h) (Or.inl ⟨by rfl, ?_⟩) (by assumption) ?_
              rotate_left
              · (intro wx hSw; (try dsimp only at hSw); go_simp; try with_reducible rfl)
              try simp only [Act.put, List.getElem_toArray, List.getElem_cons_succ, List.getElem_cons_zero, List.setIfInBounds_toArray, List.set_cons_zero, List.set_cons_succ]
              refine wpAnyH_take (i := 11) (v := ?_) rfl (by kernel_rfl) (by kernel_rfl) (by kernel_rfl) (fun _ _ _ h => h) (Or.inl ⟨by rfl, ?_⟩) (by assumption) ?_
              rotate_left
              · (intro wx hSw; (try dsimp only at hSw); go_simp; try with_reducible rfl)
              try simp only [Act.put, List.getElem_toArray, List.getElem_cons_succ, List.getElem_cons_zero, List.setIfInBounds_toArray, List.set_cons_zero, List.set_cons_succ]
              refine wpAnyH_done (by kernel_rfl) ?_ _
              have hl8 := hHeld
              obtain ⟨⟨_, _, _, _, _, _, _, _⟩, _, _, _, _, _, _, _, _⟩ := HALL4.out _ hHeld
              clear s1 s2
              have hcw := (HCV.out.on hl8).on ((Below.refl _ _).alloc (Nat.le_refl _) (.cells #[.string x.ro.key, .string x.ro.live.s, .bool x.ro.live.d, .int .i64 x.ro.live.a, .int .i64 x.ro.live.e, .int .i64 x.ro.gone, .int .i64 x.ro.shade, .slice x.A x.ro.cols.length x.c] 36))
              have hk1 := RdR.laid v1 x
              have hsx : Safe w (v1) x := Or.inl XIN0.out
              have HCW := Lib.hid hcw; have HK1 := Lib.hid hk1; have HSX := Lib.hid (hsx.on ((Below.refl _ _).alloc (Nat.le_refl _) (.cells #[.string x.ro.key, .string x.ro.live.s, .bool x.ro.live.d, .int .i64 x.ro.live.a, .int .i64 x.ro.live.e, .int .i64 x.ro.gone, .int .i64 x.ro.shade, .slice x.A x.ro.cols.length x.c] 36)))
              clear hcw hk1 hl8 hsx
              go_wp2_with (at_builtin; refine list_ex rfl (.tmp 78) (.tmp 80) _ _ rfl (.slice (some ⟨g5, 0, none⟩) m c0) (.slice (some ⟨(v1).heap.size, 0, none⟩) 1 1) rfl rfl (run_appR w.heap.size (HM.out ▸ HCW.out.cur.own) HK1.out ?s1 ?s2) ?_)
              case s1 => have h9 := HM.out; have h8 := MP.out.sum; (try simp at h9); (try simp); omega
              case s2 => simpa using HCW.out.below.size
              intro v3 w3 ho3 hg3 hloc3
              obtain ⟨A3, m3, c3, rfl, hm3, hc3⟩ := HCW.out.app (k := [x]) (fun y hy => by rw [List.mem_singleton.1 hy]; exact HSX.out) ho3 hg3
              have HC3 := Lib.hid (MP.out.app HP.out hc3)
              clear hc3 ho3 hg3 hloc3
              go_wp2
              go_roundw
              case rel => exact ⟨_, _, _, _, _, _, _, _, _, rfl, rfl, HC3.out⟩
              case measure => simp [lenS]; omega
        · have hpos1 : 0 < n1 := by omega
          obtain ⟨p, la', rfl⟩ : ∃ x la', la = x :: la' := by
            match la, L1.out with
            | [], h => simp at h; omega
            | x :: la', _ => exact ⟨x, la', rfl⟩
          obtain ⟨A1', hsl1, hla'⟩ := HMS.out.a.tail
          have hpin := HMS.out.a.held p (List.mem_cons_self ..)
          obtain ⟨g1, o1, rfl, hgB1⟩ := HMS.out.a.rd.ex hpos1
          have hc01 := (HMS.out.a.below (HCUR.out.below.mono HBB.out)).head
          have hgw1 : g1 < wr.heap.size := by have := HWS.out; have := HBB.out; omega
          have i1 : (0 : Int) < n1 := by omega
          have j1 : decide ((0 : Int) < (n1 : Int)) = true := by simp; omega
          have j2 : decide (0 < n1) = true := by simp; omega
          by_cases hyx : nlt q.ro.key p.ro.key
          · have hrun2 : runK Ro.key Ro.join (pushK Ro.key Ro.join (ros M) q.ro) (ros (p :: la')) (ros lb') = R := by rw [← HMS.out.run]; exact (runK_ba _ _ _ _ _ hyx).symm
            have t1 : decide (tcmp p.ro.key q.ro.key ≤ 0) = false := decide_eq_false fun h => tcmp_le.1 h hyx
            obtain ⟨x, hx⟩ : ∃ x, x = q := ⟨_, rfl⟩
            rw [← hx] at hrun2 hc02 hqin t1
            have MP := Lib.hid ((hx ▸ HMS.out : MSt w wr B B' R _ _ n1 n2 c1 c2 (p :: la') (x :: lb') M _).takeB A2' hlb' hrun2)
            have XIN0 : Hid (RaIn w w.heap.size x) := Lib.hid (hqin.up HBB'.out)
            have XIN : Hid (RaIn wr wr.heap.size x) := Lib.hid ((hqin.below (HCUR.out.below.mono HBB'.out)).up (Nat.le_trans HBB'.out HWS.out))
            clear hrun2 hla' hlb' hqin hpin hx
            have hall2 : ∀ w', Below U.heap.size U w' → RowAt w' g1 o1 p ∧ RowAt w' g2 o2 x := fun w' hb => by
              have hb2 : Below wr.heap.size wr w' := HAL.out.trans (hb.mono (by have := HUS.out; omega))
              exact ⟨hc01.below hb2 hgw1, hc02.below hb2 hgw2⟩
            have HALL2 := Lib.hid hall2
            have HALLW2 := Lib.hid (fun w' (hb2 : Below wr.heap.size wr w') => And.intro (hc01.below hb2 hgw1) (hc02.below hb2 hgw2))
            have w1 := W1_.out
            have w2 := W2_.out
            clear hc01 hc02 hall2 e1 e2 hyx
            go_wp2_with fail
            rw [← hU]
            clear hU
            have HALL := Lib.hid (fun w' hb => (HALL2.out w' hb).2)
            have HALLW := Lib.hid (fun w' hb => (HALLW2.out w' hb).2)
            refine wp_region_held_drew (S := fun w' => Below U.heap.size U w') (by kernel_rfl) ?_ (fun hHeld => ?_)
            · exact (Below.refl _ _).drew
            refine wpAnyH_take (i := 0) (v := ?_) rfl (by kernel_rfl) (by kernel_rfl) (by kernel_rfl) (fun _ _ _ h => h) (Or.inl ⟨by rfl, ?_⟩) (by assumption) ?_
            rotate_left
            · (intro wx hSw; (try dsimp only at hSw); go_simp; try with_reducible rfl)
            try simp only [Act.put, List.getElem_toArray, List.getElem_cons_succ, List.getElem_cons_zero, List.setIfInBounds_toArray, List.set_cons_zero, List.set_cons_succ]
            refine wpAnyH_take (i := 1) (v := ?_) rfl (by kernel_rfl) (by kernel_rfl) (by kernel_rfl) (fun _ _ _ h => h) (Or.inl ⟨by rfl, ?_⟩) (by assumption) ?_
            rotate_left
            · (intro wx hSw; (try dsimp only at hSw); go_simp; try with_reducible rfl)
            try simp only [Act.put, List.getElem_toArray, List.getElem_cons_succ, List.getElem_cons_zero, List.setIfInBounds_toArray, List.set_cons_zero, List.set_cons_succ]
            refine wpAnyH_take (i := 2) (v := ?_) rfl (by kernel_rfl) (by kernel_rfl) (by kernel_rfl) (fun _ _ _ h => h) (Or.inl ⟨by rfl, ?_⟩) (by assumption) ?_
            rotate_left
            · (intro wx hSw; (try dsimp only at hSw); go_simp; try with_reducible rfl)
            try simp only [Act.put, List.getElem_toArray, List.getElem_cons_succ, List.getElem_cons_zero, List.setIfInBounds_toArray, List.set_cons_zero, List.set_cons_succ]
            refine wpAnyH_take (i := 3) (v := ?_) rfl (by kernel_rfl) (by kernel_rfl) (by kernel_rfl) (fun _ _ _ h => h) (Or.inl ⟨by rfl, ?_⟩) (by assumption) ?_
            rotate_left
            · (intro wx hSw; (try dsimp only at hSw); go_simp; try with_reducible rfl)
            try simp only [Act.put, List.getElem_toArray, List.getElem_cons_succ, List.getElem_cons_zero, List.setIfInBounds_toArray, List.set_cons_zero, List.set_cons_succ]
            refine wpAnyH_take (i := 4) (v := ?_) rfl (by kernel_rfl) (by kernel_rfl) (by kernel_rfl) (fun _ _ _ h => h) (Or.inl ⟨by rfl, ?_⟩) (by assumption) ?_
            rotate_left
            · (intro wx hSw; (try dsimp only at hSw); go_simp; try with_reducible rfl)
            try simp only [Act.put, List.getElem_toArray, List.getElem_cons_succ, List.getElem_cons_zero, List.setIfInBounds_toArray, List.set_cons_zero, List.set_cons_succ]
            refine wpAnyH_take (i := 5) (v := ?_) rfl (by kernel_rfl) (by kernel_rfl) (by kernel_rfl) (fun _ _ _ h => h) (Or.inl ⟨by rfl, ?_⟩) (by assumption) ?_
            rotate_left
            · (intro wx hSw; (try dsimp only at hSw); go_simp; try with_reducible rfl)
            try simp only [Act.put, List.getElem_toArray, List.getElem_cons_succ, List.getElem_cons_zero, List.setIfInBounds_toArray, List.set_cons_zero, List.set_cons_succ]
            refine wpAnyH_take (i := 6) (v := ?_) rfl (by kernel_rfl) (by kernel_rfl) (by kernel_rfl) (fun _ _ _ h => h) (Or.inl ⟨by rfl, ?_⟩) (by assumption) ?_
            rotate_left
            · (intro wx hSw; (try dsimp only at hSw); go_simp; try with_reducible rfl)
            try simp only [Act.put, List.getElem_toArray, List.getElem_cons_succ, List.getElem_cons_zero, List.setIfInBounds_toArray, List.set_cons_zero, List.set_cons_succ]
            refine wpAnyH_take (i := 7) (v := ?_) rfl (by kernel_rfl) (by kernel_rfl) (by kernel_rfl) (fun _ _ _ h => h) (Or.inl ⟨by rfl, ?_⟩) (by assumption) ?_
            rotate_left
            · (intro wx hSw; (try dsimp only at hSw); go_simp; try with_reducible rfl)
            try simp only [Act.put, List.getElem_toArray, List.getElem_cons_succ, List.getElem_cons_zero, List.setIfInBounds_toArray, List.set_cons_zero, List.set_cons_succ]
            refine wpAnyH_take (i := 8) (v := ?_) rfl (by kernel_rfl) (by kernel_rfl) (by kernel_rfl) (fun _ _ _ h => h) (Or.inl ⟨by rfl, ?_⟩) (by assumption) ?_
            rotate_left
            · (intro wx hSw; (try dsimp only at hSw); go_simp; try with_reducible rfl)
            try simp only [Act.put, List.getElem_toArray, List.getElem_cons_succ, List.getElem_cons_zero, List.setIfInBounds_toArray, List.set_cons_zero, List.set_cons_succ]
            refine wpAnyH_take (i := 9) (v := ?_) rfl (by kernel_rfl) (by kernel_rfl) (by kernel_rfl) (fun _ _ _ h => h) (Or.inl ⟨by rfl, ?_⟩) (by assumption) ?_
            rotate_left
            · (intro wx hSw; (try dsimp only at hSw); go_simp; try with_reducible rfl)
            try simp only [Act.put, List.getElem_toArray, List.getElem_cons_succ, List.getElem_cons_zero, List.setIfInBounds_toArray, List.set_cons_zero, List.set_cons_succ]
            refine wpAnyH_take (i := 10) (v := ?_) rfl (by kernel_rfl) (by kernel_rfl) (by kernel_rfl) (fun _ _ _ h => h) (Or.inl ⟨by rfl, ?_⟩) (by assumption) ?_
            rotate_left
            · (intro wx hSw; (try dsimp only at hSw); go_simp; try with_reducible rfl)
            try simp only [Act.put, List.getElem_toArray, List.getElem_cons_succ, List.getElem_cons_zero, List.setIfInBounds_toArray, List.set_cons_zero, List.set_cons_succ]
            refine wpAnyH_take (i := 11) (v := ?_) rfl (by kernel_rfl) (by kernel_rfl) (by kernel_rfl) (fun _ _ _ h => h) (Or.inl ⟨by rfl, ?_⟩) (by assumption) ?_
            rotate_left
            · (intro wx hSw; (try dsimp only at hSw); obtain ⟨⟨_, _, _, _, _, _, _, _⟩, _, _, _, _, _, _, _, _⟩ := HALL2.out _ hSw; go_simp; try with_reducible rfl)
            try simp only [Act.put, List.getElem_toArray, List.getElem_cons_succ, List.getElem_cons_zero, List.setIfInBounds_toArray, List.set_cons_zero, List.set_cons_succ]
            refine wpAnyH_take (i := 12) (v := ?_) rfl (by kernel_rfl) (by kernel_rfl) (by kernel_rfl) (fun _ _ _ h => h) (Or.inl ⟨by rfl, ?_⟩) (by assumption) ?_
            rotate_left
            · (intro wx hSw; (try dsimp only at hSw); go_simp; try with_reducible rfl)
            try simp only [Act.put, List.getElem_toArray, List.getElem_cons_succ, List.getElem_cons_zero, List.setIfInBounds_toArray, List.set_cons_zero, List.set_cons_succ]
            refine wpAnyH_take (i := 13) (v := ?_) rfl (by kernel_rfl) (by kernel_rfl) (by kernel_rfl) (fun _ _ _ h => h) (Or.inl ⟨by rfl, ?_⟩) (by assumption) ?_
            rotate_left
            · (intro wx hSw; (try dsimp only at hSw); go_simp; try with_reducible rfl)
            try simp only [Act.put, List.getElem_toArray, List.getElem_cons_succ, List.getElem_cons_zero, List.setIfInBounds_toArray, List.set_cons_zero, List.set_cons_succ]
            refine wpAnyH_take (i := 14) (v := ?_) rfl (by kernel_rfl) (by kernel_rfl) (by kernel_rfl) (fun _ _ _ h => h) (Or.inl ⟨by rfl, ?_⟩) (by assumption) ?_
            rotate_left
            · (intro wx hSw; (try dsimp only at hSw); obtain ⟨⟨_, _, _, _, _, _, _, _⟩, _, _, _, _, _, _, _, _⟩ := HALL2.out _ hSw; go_simp; try with_reducible rfl)
            try simp only [Act.put, List.getElem_toArray, List.getElem_cons_succ, List.getElem_cons_zero, List.setIfInBounds_toArray, List.set_cons_zero, List.set_cons_succ]
            refine wpAnyH_ready (rs := [15]) (by kernel_rfl) (by simp) (AllReadyH.cons rfl (fun K hK => ?_) AllReadyH.nil)
            go_simp
            refine (bykey_ra _ _ _).mono ?_
            rintro e v1 ⟨rfl, b1⟩
            try go_wp2_with fail
            refine hK.out _ _ ?_ (fun hHeld => ?_)
            · exact next (by assumption) b1
            clear hK K
            try simp only [Act.put, List.getElem_toArray, List.getElem_cons_succ, List.getElem_cons_zero, List.setIfInBounds_toArray, List.set_cons_zero, List.set_cons_succ]
            refine wpAnyH_take (i := 16) (v := ?_) rfl (by kernel_rfl) (by kernel_rfl) (by kernel_rfl) (fun _ _ _ h => h) (Or.inl ⟨by rfl, ?_⟩) (by assumption) ?_
            rotate_left
            · (intro wx hSw; (try dsimp only at hSw); go_simp; try with_reducible rfl)
            try simp only [Act.put, List.getElem_toArray, List.getElem_cons_succ, List.getElem_cons_zero, List.setIfInBounds_toArray, List.set_cons_zero, List.set_cons_succ]
            refine wpAnyH_take (i := 17) (v := ?_) rfl (by kernel_rfl) (by kernel_rfl) (by kernel_rfl) (fun _ _ _ h => h) (Or.inl ⟨by rfl, ?_⟩) (by assumption) ?_
            rotate_left
            · (intro wx hSw; (try dsimp only at hSw); go_simp; try with_reducible rfl)
            try simp only [Act.put, List.getElem_toArray, List.getElem_cons_succ, List.getElem_cons_zero, List.setIfInBounds_toArray, List.set_cons_zero, List.set_cons_succ]
            refine wpAnyH_take (i := 18) (v := ?_) rfl (by kernel_rfl) (by kernel_rfl) (by kernel_rfl) (fun _ _ _ h => h) (Or.inl ⟨by rfl, ?_⟩) (by assumption) ?_
            rotate_left
            · (intro wx hSw; (try dsimp only at hSw); go_simp; try with_reducible rfl)
            try simp only [Act.put, List.getElem_toArray, List.getElem_cons_succ, List.getElem_cons_zero, List.setIfInBounds_toArray, List.set_cons_zero, List.set_cons_succ]
            refine wpAnyH_done (by kernel_rfl) ?_ _
            clear t1
            clear w1 w2
            have hlow : Below U.heap.size U v1 := hHeld
            obtain ⟨_, _, _, _, _, _, _, _⟩ := HALL.out _ hlow
            have hq := (hlow.block wr.heap.size (by have := HUS.out; omega)).trans HZ.out
            have z0 := cell_at (i := 0) hq rfl
            have z1 := cell_at (i := 1) hq rfl
            have z2 := cell_at (i := 2) hq rfl
            have z3 := cell_at (i := 3) hq rfl
            have z4 := cell_at (i := 4) hq rfl
            have z5 := cell_at (i := 5) hq rfl
            have z6 := cell_at (i := 6) hq rfl
            have z7 := cell_at (i := 7) hq rfl
            have y0 := thawed_at (i := 0) hq
            have y1 := thawed_at (i := 1) hq
            have y2 := thawed_at (i := 2) hq
            have y3 := thawed_at (i := 3) hq
            have y4 := thawed_at (i := 4) hq
            have y5 := thawed_at (i := 5) hq
            have y6 := thawed_at (i := 6) hq
            have y7 := thawed_at (i := 7) hq
            have HQ4_ := Lib.hid (set8_block hq x)
            have HB4_ := Lib.hid (below_set80 (HAL.out.trans (hlow.mono (by have := HUS.out; omega))) (Nat.le_refl wr.heap.size) x)
            clear hq
            have HLOW := Lib.hid (HAL.out.trans (hlow.mono (by have := HUS.out; omega)))
            go_wp2_with fail
            refine wp_region_held_drew (S := fun w' => Below wr.heap.size wr w') (by kernel_rfl) ?_ (fun hHeld => ?_)
            · exact HLOW.out.drew
            refine wpAnyH_take (i := 0) (v := ?_) rfl (by kernel_rfl) (by kernel_rfl) (by kernel_rfl) (fun _ _ _ h => h) (Or.inl ⟨by rfl, ?_⟩) (by assumption) ?_
            rotate_left
            · (intro wx hSw; (try dsimp only at hSw); go_simp; try with_reducible rfl)
            try simp only [Act.put, List.getElem_toArray, List.getElem_cons_succ, List.getElem_cons_zero, List.setIfInBounds_toArray, List.set_cons_zero, List.set_cons_succ]
            refine wpAnyH_take (i := 1) (v := ?_) rfl (by kernel_rfl) (by kernel_rfl) (by kernel_rfl) (fun _ _ _ h => h) (Or.inl ⟨by rfl, ?_⟩) (by assumption) ?_
            rotate_left
            · (intro wx hSw; (try dsimp only at hSw); go_simp; try with_reducible rfl)
            try simp only [Act.put, List.getElem_toArray, List.getElem_cons_succ, List.getElem_cons_zero, List.setIfInBounds_toArray, List.set_cons_zero, List.set_cons_succ]
            refine wpAnyH_take (i := 2) (v := ?_) rfl (by kernel_rfl) (by kernel_rfl) (by kernel_rfl) (fun _ _ _ h => h) (Or.inl ⟨by rfl, ?_⟩) (by assumption) ?_
            rotate_left
            · (intro wx hSw; (try dsimp only at hSw); obtain ⟨_, _, _, _, _, _, _, _⟩ := HALLW.out _ hSw; go_simp; try with_reducible rfl)
            try simp only [Act.put, List.getElem_toArray, List.getElem_cons_succ, List.getElem_cons_zero, List.setIfInBounds_toArray, List.set_cons_zero, List.set_cons_succ]
            refine wpAnyH_take (i := 3) (v := ?_) rfl (by kernel_rfl) (by kernel_rfl) (by kernel_rfl) (fun _ _ _ h => h) (Or.inl ⟨by rfl, ?_⟩) (by assumption) ?_
            rotate_left
            · (intro wx hSw; (try dsimp only at hSw); go_simp; try with_reducible rfl)
            try simp only [Act.put, List.getElem_toArray, List.getElem_cons_succ, List.getElem_cons_zero, List.setIfInBounds_toArray, List.set_cons_zero, List.set_cons_succ]
            refine wpAnyH_take (i := 4) (v := ?_) rfl (by kernel_rfl) (by kernel_rfl) (by kernel_rfl) (fun _ _ _ h => h) (Or.inl ⟨by rfl, ?_⟩) (by assumption) ?_
            rotate_left
            · (intro wx hSw; (try dsimp only at hSw); go_simp; try with_reducible rfl)
            try simp only [Act.put, List.getElem_toArray, List.getElem_cons_succ, List.getElem_cons_zero, List.setIfInBounds_toArray, List.set_cons_zero, List.set_cons_succ]
            refine wpAnyH_ready (rs := [5]) (by kernel_rfl) (by simp) (AllReadyH.cons rfl (fun K hK => ?_) AllReadyH.nil)
            go_simp
            refine hK.out _ _ ?_ (fun hHeld => ?_)
            · exact HB4_.out.drew
            clear hK K
            try simp only [Act.put, List.getElem_toArray, List.getElem_cons_succ, List.getElem_cons_zero, List.setIfInBounds_toArray, List.set_cons_zero, List.set_cons_succ]
            refine wpAnyH_take (i := 6) (v := ?_) rfl (by kernel_rfl) (by kernel_rfl) (by kernel_rfl) (fun _ _ _ h => h) (Or.inl ⟨by rfl, ?_⟩) (by assumption) ?_
            rotate_left
            · (intro wx hSw; (try dsimp only at hSw); go_simp; try with_reducible rfl)
            try simp only [Act.put, List.getElem_toArray, List.getElem_cons_succ, List.getElem_cons_zero, List.setIfInBounds_toArray, List.set_cons_zero, List.set_cons_succ]
            refine wpAnyH_done (by kernel_rfl) ?_ _
            obtain ⟨w4, hw4⟩ : ∃ w4, w4 = ((World.setCell (World.setCell (World.setCell (World.setCell (World.setCell (World.setCell (World.setCell (World.setCell (v1) ⟨wr.heap.size, 0, none⟩ (.string x.ro.key)) ⟨wr.heap.size, 1, none⟩ (.string x.ro.live.s)) ⟨wr.heap.size, 2, none⟩ (.bool x.ro.live.d)) ⟨wr.heap.size, 3, none⟩ (.int .i64 x.ro.live.a)) ⟨wr.heap.size, 4, none⟩ (.int .i64 x.ro.live.e)) ⟨wr.heap.size, 5, none⟩ (.int .i64 x.ro.gone)) ⟨wr.heap.size, 6, none⟩ (.int .i64 x.ro.shade)) ⟨wr.heap.size, 7, none⟩ (.slice x.A x.ro.cols.length x.c))).drew  := ⟨_, rfl⟩
            rw [← hw4]
            have HQ4 : Hid (w4.heap[wr.heap.size]? = some (.cells #[.string x.ro.key, .string x.ro.live.s, .bool x.ro.live.d, .int .i64 x.ro.live.a, .int .i64 x.ro.live.e, .int .i64 x.ro.gone, .int .i64 x.ro.shade, .slice x.A x.ro.cols.length x.c] 36)) := Lib.hid (by rw [hw4]; simp only [heap_drew]; exact HQ4_.out)
            have HB4 : Hid (Below wr.heap.size wr w4) := Lib.hid (by rw [hw4]; exact HB4_.out.drew )
            clear hw4 HQ4_ HB4_ z0 z1 z2 z3 z4 z5 z6 z7 y0 y1 y2 y3 y4 y5 y6 y7
            have HCV := Lib.hid (HCUR.out.on HB4.out)
            have HS4 := Lib.hid HB4.out.size
            have HX4 := Lib.hid (XIN.out.below HB4.out)
            rcases List.eq_nil_or_concat M with hM | ⟨L, y, hM⟩
            · have hp : pushK Ro.key Ro.join (ros M) x.ro = ros M ++ [x.ro] := by rw [hM]; rfl
              have hm0 : m = 0 := by rw [← HM.out, hM]; rfl
              have S1 := Lib.hid (show IntKind.i64.wrap ((m : Int) - 1) = -1 by rw [IntKind.wrap_i64]; omega)
              have S2 := Lib.hid (show wrap64 ((m : Int) - 1) = -1 by unfold wrap64; omega)
              have HP := Lib.hid hp
              have hall4 : ∀ w', Below w4.heap.size w4 w' → BlkAt w' wr.heap.size x := fun w' hb => BlkAt.of ((hb.block wr.heap.size (Array.getElem?_eq_some_iff.1 HQ4.out).1).trans HQ4.out)
              have HALL4 := Lib.hid hall4
              have s1 := S1.out
              have s2 := S2.out
              clear hm0 hM hp hall4
              go_wp2_with fail
              refine wp_region_held_drew (S := fun w' => Below w4.heap.size w4 w') (by kernel_rfl) ?_ (fun hHeld => ?_)
              · exact (Below.refl _ _).drew
              refine wpAnyH_take (i := 0) (v := ?_) rfl (by kernel_rfl) (by kernel_rfl) (by kernel_rfl) (fun _ _ _ h => h) (Or.inl ⟨by rfl, ?_⟩) (by assumption) ?_
              rotate_left
              · (intro wx hSw; (try dsimp only at hSw); go_simp; try with_reducible rfl)
              try simp only [Act.put, List.getElem_toArray, List.getElem_cons_succ, List.getElem_cons_zero, List.setIfInBounds_toArray, List.set_cons_zero, List.set_cons_succ]
              refine wpAnyH_take (i := 1) (v := ?_) rfl (by kernel_rfl) (by kernel_rfl) (by kernel_rfl) (fun _ _ _ h => h) (Or.inl ⟨by rfl, ?_⟩) (by assumption) ?_
              rotate_left
              · (intro wx hSw; (try dsimp only at hSw); go_simp; try with_reducible rfl)
              try simp only [Act.put, List.getElem_toArray, List.getElem_cons_succ, List.getElem_cons_zero, List.setIfInBounds_toArray, List.set_cons_zero, List.set_cons_succ]
              refine wpAnyH_take (i := 2) (v := ?_) rfl (by kernel_rfl) (by kernel_rfl) (by kernel_rfl) (fun _ _ _ h => h) (Or.inl ⟨by rfl, ?_⟩) (by assumption) ?_
              rotate_left
              · (intro wx hSw; (try dsimp only at hSw); go_simp; try with_reducible rfl)
              try simp only [Act.put, List.getElem_toArray, List.getElem_cons_succ, List.getElem_cons_zero, List.setIfInBounds_toArray, List.set_cons_zero, List.set_cons_succ]
              refine wpAnyH_take (i := 3) (v := undef) rfl (by kernel_rfl) (by kernel_rfl) (by kernel_rfl) (fun _ _ _ h => h) (Or.inr ⟨by rfl, rfl⟩) (by assumption) ?_
              try simp only [Act.put, List.getElem_toArray, List.getElem_cons_succ, List.getElem_cons_zero, List.setIfInBounds_toArray, List.set_cons_zero, List.set_cons_succ]
              refine wpAnyH_take (i := 4) (v := undef) rfl (by kernel_rfl) (by kernel_rfl) (by kernel_rfl) (fun _ _ _ h => h) (Or.inr ⟨by rfl, rfl⟩) (by assumption) ?_
              try simp only [Act.put, List.getElem_toArray, List.getElem_cons_succ, List.getElem_cons_zero, List.setIfInBounds_toArray, List.set_cons_zero, List.set_cons_succ]
              refine wpAnyH_take (i := 5) (v := undef) rfl (by kernel_rfl) (by kernel_rfl) (by kernel_rfl) (fun _ _ _ h => h) (Or.inr ⟨by rfl, rfl⟩) (by assumption) ?_
              try simp only [Act.put, List.getElem_toArray, List.getElem_cons_succ, List.getElem_cons_zero, List.setIfInBounds_toArray, List.set_cons_zero, List.set_cons_succ]
              refine wpAnyH_take (i := 6) (v := undef) rfl (by kernel_rfl) (by kernel_rfl) (by kernel_rfl) (fun _ _ _ h => h) (Or.inr ⟨by rfl, rfl⟩) (by assumption) ?_
              try simp only [Act.put, List.getElem_toArray, List.getElem_cons_succ, List.getElem_cons_zero, List.setIfInBounds_toArray, List.set_cons_zero, List.set_cons_succ]
              refine wpAnyH_take (i := 7) (v := undef) rfl (by kernel_rfl) (by kernel_rfl) (by kernel_rfl) (fun _ _ _ h => h) (Or.inr ⟨by rfl, rfl⟩) (by assumption) ?_
              try simp only [Act.put, List.getElem_toArray, List.getElem_cons_succ, List.getElem_cons_zero, List.setIfInBounds_toArray, List.set_cons_zero, List.set_cons_succ]
              refine wpAnyH_take (i := 8) (v := undef) rfl (by kernel_rfl) (by kernel_rfl) (by kernel_rfl) (fun _ _ _ h => h) (Or.inr ⟨by rfl, rfl⟩) (by assumption) ?_
              try simp only [Act.put, List.getElem_toArray, List.getElem_cons_succ, List.getElem_cons_zero, List.setIfInBounds_toArray, List.set_cons_zero, List.set_cons_succ]
              refine wpAnyH_take (i := 9) (v := undef) rfl (by kernel_rfl) (by kernel_rfl) (by kernel_rfl) (fun _ _ _ h => h) (Or.inr ⟨by rfl, rfl⟩) (by assumption) ?_
              try simp only [Act.put, List.getElem_toArray, List.getElem_cons_succ, List.getElem_cons_zero, List.setIfInBounds_toArray, List.set_cons_zero, List.set_cons_succ]
              refine wpAnyH_take (i := 10) (v := undef) rfl (by kernel_rfl) (by kernel_rfl) (by kernel_rfl) (fun _ _ _ h => h) (Or.inr ⟨by rfl, rfl⟩) (by assumption) ?_
              try simp only [Act.put, List.getElem_toArray, List.getElem_cons_succ, List.getElem_cons_zero, List.setIfInBounds_toArray, List.set_cons_zero, List.set_cons_succ]
              refine wpAnyH_take (i := 11) (v := ?_) rfl (by kernel_rfl) (by kernel_rfl) (by kernel_rfl) (fun _ _ _ h => h) (Or.inl ⟨by rfl, ?_⟩) (by assumption) ?_
              rotate_left
              · (intro wx hSw; (try dsimp only at hSw); go_simp; try with_reducible rfl)
              try simp only [Act.put, List.getElem_toArray, List.getElem_cons_succ, List.getElem_cons_zero, List.setIfInBounds_toArray, List.set_cons_zero, List.set_cons_succ]
              refine wpAnyH_done (by kernel_rfl) ?_ _
              have hl8 : Below w4.heap.size w4 w4.drew := (Below.refl _ _).drew
              generalize w4.drew = w8 at hl8 ⊢
              obtain ⟨_, _, _, _, _, _, _, _⟩ := HALL4.out _ hl8
              clear s1 s2
              have hcw := (HCV.out.on hl8).on ((Below.refl _ _).alloc (Nat.le_refl _) (.cells #[.string x.ro.key, .string x.ro.live.s, .bool x.ro.live.d, .int .i64 x.ro.live.a, .int .i64 x.ro.live.e, .int .i64 x.ro.gone, .int .i64 x.ro.shade, .slice x.A x.ro.cols.length x.c] 36))
              have hk1 := RdR.laid w8 x
              have hsx : Safe w (w8) x := Or.inl XIN0.out
              have HCW := Lib.hid hcw; have HK1 := Lib.hid hk1; have HSX := Lib.hid (hsx.on ((Below.refl _ _).alloc (Nat.le_refl _) (.cells #[.string x.ro.key, .string x.ro.live.s, .bool x.ro.live.d, .int .i64 x.ro.live.a, .int .i64 x.ro.live.e, .int .i64 x.ro.gone, .int .i64 x.ro.shade, .slice x.A x.ro.cols.length x.c] 36)))
              clear hcw hk1 hl8 hsx
              go_wp2_with (at_builtin; refine list_ex rfl (.tmp 78) (.tmp 80) _ _ rfl (.slice A0 m c0) (.slice (some ⟨(w8).heap.size, 0, none⟩) 1 1) rfl rfl (run_appR w.heap.size (HM.out ▸ HCW.out.cur.own) HK1.out ?s1 ?s2) ?_)
              case s1 => have h9 := HM.out; have h8 := MP.out.sum; (try simp at h9); (try simp); omega
              case s2 => simpa using HCW.out.below.size
              intro v3 w3 ho3 hg3 hloc3
              obtain ⟨A3, m3, c3, rfl, hm3, hc3⟩ := HCW.out.app (k := [x]) (fun y hy => by rw [List.mem_singleton.1 hy]; exact HSX.out) ho3 hg3
              have HC3 := Lib.hid (MP.out.app HP.out hc3)
              clear hc3 ho3 hg3 hloc3
              go_wp2
              go_roundw
              case rel => exact ⟨_, _, _, _, _, _, _, _, _, rfl, rfl, HC3.out⟩
              case measure => simp [lenS]; omega
            · rw [List.concat_eq_append] at hM
              have HMM := Lib.hid hM
              clear hM
              obtain ⟨u, hu⟩ : ∃ u, L.length = u := ⟨_, rfl⟩
              have hm1 : m = u + 1 := by rw [← HM.out, HMM.out, ← hu]; simp
              have hul : u < M.length := by have := HM.out; omega
              have hMu : M[u] = y := by simp [HMM.out, ← hu]
              have S1 := Lib.hid (show IntKind.i64.wrap ((m : Int) - 1) = (u : Int) by rw [IntKind.wrap_i64]; omega)
              have S2 := Lib.hid (show wrap64 ((m : Int) - 1) = (u : Int) by unfold wrap64; omega)
              obtain ⟨g5, rfl, hg5, hg5', hy5, hf5⟩ := HCV.out.row hul
              rw [hMu] at hy5
              have hall4 : ∀ w', Below w4.heap.size w4 w' → RowAt w' g5 (u * 8) y ∧ BlkAt w' wr.heap.size x := fun w' hb =>
                ⟨hy5.below hb hg5', BlkAt.of ((hb.block wr.heap.size (Array.getElem?_eq_some_iff.1 HQ4.out).1).trans HQ4.out)⟩
              have HALL4 := Lib.hid hall4
              have hysafe := HCV.out.safe y (by rw [HMM.out]; simp)
              have HY4 := Lib.hid (hysafe.ra HCV.out.below)
              have i5 : (u : Int) < m := by omega
              have i6 : (0 : Int) ≤ u := by omega
              have i7 : decide ((0 : Int) ≤ (u : Int)) = true := by simp
              have HU := Lib.hid hu; have HM1 := Lib.hid hm1; have HUL := Lib.hid hul
              clear hall4 hu hm1 hy5 hf5 hul hMu hysafe
              by_cases hn : y.ro.key = x.ro.key
              · have t0 : (tcmp y.ro.key x.ro.key == 0) = true := by rw [beq_iff_eq]; exact tcmp_zero.2 hn
                have HN2 := Lib.hid hn
                have s1 := S1.out
                have s2 := S2.out
                clear hn
                go_wp2_with fail
                refine wp_region_held_drew (S := fun w' => Below w4.heap.size w4 w') (by kernel_rfl) ?_ (fun hHeld => ?_)
                · exact (Below.refl _ _).drew
                refine wpAnyH_take (i := 0) (v := ?_) rfl (by kernel_rfl) (by kernel_rfl) (by kernel_rfl) (fun _ _ _ h => h) (Or.inl ⟨by rfl, ?_⟩) (by assumption) ?_
                rotate_left
                · (intro wx hSw; (try dsimp only at hSw); go_simp; try with_reducible rfl)
                try simp only [Act.put, List.getElem_toArray, List.getElem_cons_succ, List.getElem_cons_zero, List.setIfInBounds_toArray, List.set_cons_zero, List.set_cons_succ]
                refine wpAnyH_take (i := 1) (v := ?_) rfl (by kernel_rfl) (by kernel_rfl) (by kernel_rfl) (fun _ _ _ h => h) (Or.inl ⟨by rfl, ?_⟩) (by assumption) ?_
                rotate_left
                · (intro wx hSw; (try dsimp only at hSw); go_simp; try with_reducible rfl)
                try simp only [Act.put, List.getElem_toArray, List.getElem_cons_succ, List.getElem_cons_zero, List.setIfInBounds_toArray, List.set_cons_zero, List.set_cons_succ]
                refine wpAnyH_take (i := 2) (v := ?_) rfl (by kernel_rfl) (by kernel_rfl) (by kernel_rfl) (fun _ _ _ h => h) (Or.inl ⟨by rfl, ?_⟩) (by assumption) ?_
                rotate_left
                · (intro wx hSw; (try dsimp only at hSw); go_simp; try with_reducible rfl)
                try simp only [Act.put, List.getElem_toArray, List.getElem_cons_succ, List.getElem_cons_zero, List.setIfInBounds_toArray, List.set_cons_zero, List.set_cons_succ]
                refine wpAnyH_take (i := 3) (v := ?_) rfl (by kernel_rfl) (by kernel_rfl) (by kernel_rfl) (fun _ _ _ h => h) (Or.inl ⟨by rfl, ?_⟩) (by assumption) ?_
                rotate_left
                · (intro wx hSw; (try dsimp only at hSw); go_simp; try with_reducible rfl)
                try simp only [Act.put, List.getElem_toArray, List.getElem_cons_succ, List.getElem_cons_zero, List.setIfInBounds_toArray, List.set_cons_zero, List.set_cons_succ]
                refine wpAnyH_take (i := 4) (v := ?_) rfl (by kernel_rfl) (by kernel_rfl) (by kernel_rfl) (fun _ _ _ h => h) (Or.inl ⟨by rfl, ?_⟩) (by assumption) ?_
                rotate_left
                · (intro wx hSw; (try dsimp only at hSw); go_simp; try with_reducible rfl)
                try simp only [Act.put, List.getElem_toArray, List.getElem_cons_succ, List.getElem_cons_zero, List.setIfInBounds_toArray, List.set_cons_zero, List.set_cons_succ]
                refine wpAnyH_take (i := 5) (v := ?_) rfl (by kernel_rfl) (by kernel_rfl) (by kernel_rfl) (fun _ _ _ h => h) (Or.inl ⟨by rfl, ?_⟩) (by assumption) ?_
                rotate_left
                · (intro wx hSw; (try dsimp only at hSw); go_simp; try with_reducible rfl)
                try simp only [Act.put, List.getElem_toArray, List.getElem_cons_succ, List.getElem_cons_zero, List.setIfInBounds_toArray, List.set_cons_zero, List.set_cons_succ]
                refine wpAnyH_take (i := 6) (v := ?_) rfl (by kernel_rfl) (by kernel_rfl) (by kernel_rfl) (fun _ _ _ h => h) (Or.inl ⟨by rfl, ?_⟩) (by assumption) ?_
                rotate_left
                · (intro wx hSw; (try dsimp only at hSw); go_simp; try with_reducible rfl)
                try simp only [Act.put, List.getElem_toArray, List.getElem_cons_succ, List.getElem_cons_zero, List.setIfInBounds_toArray, List.set_cons_zero, List.set_cons_succ]
                refine wpAnyH_take (i := 7) (v := ?_) rfl (by kernel_rfl) (by kernel_rfl) (by kernel_rfl) (fun _ _ _ h => h) (Or.inl ⟨by rfl, ?_⟩) (by assumption) ?_
                rotate_left
                · (intro wx hSw; (try dsimp only at hSw); obtain ⟨⟨_, _, _, _, _, _, _, _⟩, _, _, _, _, _, _, _, _⟩ := HALL4.out _ hSw; go_simp; try with_reducible rfl)
                try simp only [Act.put, List.getElem_toArray, List.getElem_cons_succ, List.getElem_cons_zero, List.setIfInBounds_toArray, List.set_cons_zero, List.set_cons_succ]
                refine wpAnyH_take (i := 8) (v := ?_) rfl (by kernel_rfl) (by kernel_rfl) (by kernel_rfl) (fun _ _ _ h => h) (Or.inl ⟨by rfl, ?_⟩) (by assumption) ?_
                rotate_left
                · (intro wx hSw; (try dsimp only at hSw); obtain ⟨⟨_, _, _, _, _, _, _, _⟩, _, _, _, _, _, _, _, _⟩ := HALL4.out _ hSw; go_simp; try with_reducible rfl)
                try simp only [Act.put, List.getElem_toArray, List.getElem_cons_succ, List.getElem_cons_zero, List.setIfInBounds_toArray, List.set_cons_zero, List.set_cons_succ]
                refine wpAnyH_ready (rs := [9]) (by kernel_rfl) (by simp) (AllReadyH.cons rfl (fun K hK => ?_) AllReadyH.nil)
                go_simp
                refine (bykey_ra y x _).mono ?_
                rintro e v1 ⟨rfl, b1⟩
                try go_wp2_with fail
                refine hK.out _ _ ?_ (fun hHeld => ?_)
                · exact next (by assumption) b1
                clear hK K
                try simp only [Act.put, List.getElem_toArray, List.getElem_cons_succ, List.getElem_cons_zero, List.setIfInBounds_toArray, List.set_cons_zero, List.set_cons_succ]
                refine wpAnyH_take (i := 10) (v := ?_) rfl (by kernel_rfl) (by kernel_rfl) (by kernel_rfl) (fun _ _ _ h => h) (Or.inl ⟨by rfl, ?_⟩) (by assumption) ?_
                rotate_left
                · (intro wx hSw; (try dsimp only at hSw); go_simp; try with_reducible rfl)
                try simp only [Act.put, List.getElem_toArray, List.getElem_cons_succ, List.getElem_cons_zero, List.setIfInBounds_toArray, List.set_cons_zero, List.set_cons_succ]
                refine wpAnyH_take (i := 11) (v := ?_) rfl (by kernel_rfl) (by kernel_rfl) (by kernel_rfl) (fun _ _ _ h => h) (Or.inl ⟨by rfl, ?_⟩) (by assumption) ?_
                rotate_left
                · (intro wx hSw; (try dsimp only at hSw); go_simp; try with_reducible rfl)
                try simp only [Act.put, List.getElem_toArray, List.getElem_cons_succ, List.getElem_cons_zero, List.setIfInBounds_toArray, List.set_cons_zero, List.set_cons_succ]
                refine wpAnyH_done (by kernel_rfl) ?_ _
                obtain ⟨⟨_, _, _, _, _, _, _, _⟩, _, _, _, _, _, _, _, _⟩ := HALL4.out _ hHeld
                clear s1 s2
                have HH := Lib.hid hHeld
                clear hHeld
                go_wp2_with fail
                go_region_with (first
                  | (go_at_call 37
                     have hbv := next (w := w4) HH.out (show Below v1.heap.size v1 _ by first | exact (Below.refl _ _).drew | exact below_draws _ _ _ | exact Below.refl _ _)
                     refine (join_ra y x w4.heap.size wr.heap.size _ (HY4.out.below hbv) (HX4.out.below (hbv.mono HS4.out)) hbv.size (Nat.le_trans HS4.out hbv.size) ?hs (MP.out.um y (by rw [HMM.out]; simp)) MP.out.ux).mono ?_
                     case hs => have h1 := MP.out.tt; have h2 := tot_mem (L := M) (x := y) (by rw [HMM.out]; simp); omega
                     rintro e v5 ⟨z, rfl, hz, hcz⟩
                     unfold RA.v Ro.val
                     have b5' := next hbv hcz.below
                     obtain ⟨⟨_, _, _, _, _, _, _, _⟩, _, _, _, _, _, _, _, _⟩ := HALL4.out _ b5'
                     have hcl := HCV.out.on b5'
                     have HSZ := Lib.hid (Safe.of_cur (next HCUR.out.below (next HB4.out hbv)) hcz)
                     obtain ⟨g6, e6, _, _, _, hfz⟩ := hcl.row HUL.out
                     cases e6
                     have f0 := hfz (u * 8)
                     have f1 := hfz (u * 8 + 1)
                     have f2 := hfz (u * 8 + 2)
                     have f3 := hfz (u * 8 + 3)
                     have f4 := hfz (u * 8 + 4)
                     have f5 := hfz (u * 8 + 5)
                     have f6 := hfz (u * 8 + 6)
                     have f7 := hfz (u * 8 + 7)
                     have HCL := Lib.hid hcl
                     have HZE := Lib.hid hz
                     clear hcl hfz hz hcz hbv))
                all_goals
                  have hput := HCL.out.put HUL.out z HSZ.out
                  generalize hw6 : (World.setCell (World.setCell (World.setCell (World.setCell (World.setCell (World.setCell (World.setCell (World.setCell v5 ⟨g5, u * 8, none⟩ (.string z.ro.key)) ⟨g5, u * 8 + 1, none⟩ (.string z.ro.live.s)) ⟨g5, u * 8 + 2, none⟩ (.bool z.ro.live.d)) ⟨g5, u * 8 + 3, none⟩ (.int .i64 z.ro.live.a)) ⟨g5, u * 8 + 4, none⟩ (.int .i64 z.ro.live.e)) ⟨g5, u * 8 + 5, none⟩ (.int .i64 z.ro.gone)) ⟨g5, u * 8 + 6, none⟩ (.int .i64 z.ro.shade)) ⟨g5, u * 8 + 7, none⟩ (.slice z.A z.ro.cols.length z.c)) = w6 at hput ⊢
                  have HPUT := Lib.hid (MP.out.put HMM.out HN2.out HZE.out (by rw [HU.out]; exact hput))
                  clear hput f0 f1 f2 f3 f4 f5 f6 f7 b5' hw6
                  go_wp2
                  go_roundw
                  case rel => exact ⟨_, _, _, _, _, _, _, _, _, rfl, rfl, HPUT.out⟩
                  case measure => simp [lenS]; omega
              · have t0 : (tcmp y.ro.key x.ro.key == 0) = false := by rw [beq_eq_false_iff_ne]; exact fun h => hn (tcmp_zero.1 h)
                have hp : pushK Ro.key Ro.join (ros M) x.ro = ros M ++ [x.ro] := by rw [HMM.out, show ros (L ++ [y]) = ros L ++ [y.ro] by simp [ros], pushK_last]; exact if_neg hn
                have HP := Lib.hid hp
                have s1 := S1.out
                have s2 := S2.out
                clear hp hn
                go_wp2_with fail
                refine wp_region_held_drew (S := fun w' => Below w4.heap.size w4 w') (by kernel_rfl) ?_ (fun hHeld => ?_)
                · exact (Below.refl _ _).drew
                refine wpAnyH_take (i := 0) (v := ?_) rfl (by kernel_rfl) (by kernel_rfl) (by kernel_rfl) (fun _ _ _ h => h) (Or.inl ⟨by rfl, ?_⟩) (by assumption) ?_
                rotate_left
                · (intro wx hSw; (try dsimp only at hSw); go_simp; try with_reducible rfl)
                try simp only [Act.put, List.getElem_toArray, List.getElem_cons_succ, List.getElem_cons_zero, List.setIfInBounds_toArray, List.set_cons_zero, List.set_cons_succ]
                refine wpAnyH_take (i := 1) (v := ?_) rfl (by kernel_rfl) (by kernel_rfl) (by kernel_rfl) (fun _ _ _ h => h) (Or.inl ⟨by rfl, ?_⟩) (by assumption) ?_
                rotate_left
                · (intro wx hSw; (try dsimp only at hSw); go_simp; try with_reducible rfl)
                try simp only [Act.put, List.getElem_toArray, List.getElem_cons_succ, List.getElem_cons_zero, List.setIfInBounds_toArray, List.set_cons_zero, List.set_cons_succ]
                refine wpAnyH_take (i := 2) (v := ?_) rfl (by kernel_rfl) (by kernel_rfl) (by kernel_rfl) (fun _ _ _ h => h) (Or.inl ⟨by rfl, ?_⟩) (by assumption) ?_
                rotate_left
                · (intro wx hSw; (try dsimp only at hSw); go_simp; try with_reducible rfl)
                try simp only [Act.put, List.getElem_toArray, List.getElem_cons_succ, List.getElem_cons_zero, List.setIfInBounds_toArray, List.set_cons_zero, List.set_cons_succ]
                refine wpAnyH_take (i := 3) (v := ?_) rfl (by kernel_rfl) (by kernel_rfl) (by kernel_rfl) (fun _ _ _ h => h) (Or.inl ⟨by rfl, ?_⟩) (by assumption) ?_
                rotate_left
                · (intro wx hSw; (try dsimp only at hSw); go_simp; try with_reducible rfl)
                try simp only [Act.put, List.getElem_toArray, List.getElem_cons_succ, List.getElem_cons_zero, List.setIfInBounds_toArray, List.set_cons_zero, List.set_cons_succ]
                refine wpAnyH_take (i := 4) (v := ?_) rfl (by kernel_rfl) (by kernel_rfl) (by kernel_rfl) (fun _ _ _ h => h) (Or.inl ⟨by rfl, ?_⟩) (by assumption) ?_
                rotate_left
                · (intro wx hSw; (try dsimp only at hSw); go_simp; try with_reducible rfl)
                try simp only [Act.put, List.getElem_toArray, List.getElem_cons_succ, List.getElem_cons_zero, List.setIfInBounds_toArray, List.set_cons_zero, List.set_cons_succ]
                refine wpAnyH_take (i := 5) (v := ?_) rfl (by kernel_rfl) (by kernel_rfl) (by kernel_rfl) (fun _ _ _ h => h) (Or.inl ⟨by rfl, ?_⟩) (by assumption) ?_
                rotate_left
                · (intro wx hSw; (try dsimp only at hSw); go_simp; try with_reducible rfl)
                try simp only [Act.put, List.getElem_toArray, List.getElem_cons_succ, List.getElem_cons_zero, List.setIfInBounds_toArray, List.set_cons_zero, List.set_cons_succ]
                refine wpAnyH_take (i := 6) (v := ?_) rfl (by kernel_rfl) (by kernel_rfl) (by kernel_rfl) (fun _ _ _ h => h) (Or.inl ⟨by rfl, ?_⟩) (by assumption) ?_
                rotate_left
                · (intro wx hSw; (try dsimp only at hSw); go_simp; try with_reducible rfl)
                try simp only [Act.put, List.getElem_toArray, List.getElem_cons_succ, List.getElem_cons_zero, List.setIfInBounds_toArray, List.set_cons_zero, List.set_cons_succ]
                refine wpAnyH_take (i := 7) (v := ?_) rfl (by kernel_rfl) (by kernel_rfl) (by kernel_rfl) (fun _ _ _ h => h) (Or.inl ⟨by rfl, ?_⟩) (by assumption) ?_
                rotate_left
                · (intro wx hSw; (try dsimp only at hSw); obtain ⟨⟨_, _, _, _, _, _, _, _⟩, _, _, _, _, _, _, _, _⟩ := HALL4.out _ hSw; go_simp; try with_reducible rfl)
                try simp only [Act.put, List.getElem_toArray, List.getElem_cons_succ, List.getElem_cons_zero, List.setIfInBounds_toArray, List.set_cons_zero, List.set_cons_succ]
                refine wpAnyH_take (i := 8) (v := ?_) rfl (by kernel_rfl) (by kernel_rfl) (by kernel_rfl) (fun _ _ _ h => h) (Or.inl ⟨by rfl, ?_⟩) (by assumption) ?_
                rotate_left
                · (intro wx hSw; (try dsimp only at hSw); obtain ⟨⟨_, _, _, _, _, _, _, _⟩, _, _, _, _, _, _, _, _⟩ := HALL4.out _ hSw; go_simp; try with_reducible rfl)
                try simp only [Act.put, List.getElem_toArray, List.getElem_cons_succ, List.getElem_cons_zero, List.setIfInBounds_toArray, List.set_cons_zero, List.set_cons_succ]
                refine wpAnyH_ready (rs := [9]) (by kernel_rfl) (by simp) (AllReadyH.cons rfl (fun K hK => ?_) AllReadyH.nil)
                go_simp
                refine (bykey_ra y x _).mono ?_
                rintro e v1 ⟨rfl, b1⟩
                try go_wp2_with fail
                refine hK.out _ _ ?_ (fun hHeld => ?_)
                · exact next (by assumption) b1
                clear hK K
                try simp only [Act.put, List.getElem_toArray, List.getElem_cons_succ, List.getElem_cons_zero, List.setIfInBounds_toArray, List.set_cons_zero, List.set_cons_succ]
                refine wpAnyH_take (i := 10) (v := ?_) rfl (by kernel_rfl) (by kernel_rfl) (by kernel_rfl) (fun _ _ _ h => h) (Or.inl ⟨by rfl, ?_⟩) (by assumption) ?_
                rotate_left
                · (intro wx hSw; (try dsimp only at hSw); go_simp; try with_reducible rfl)
                try simp only [Act.put, List.getElem_toArray, List.getElem_cons_succ, List.getElem_cons_zero, List.setIfInBounds_toArray, List.set_cons_zero, List.set_cons_succ]
                refine wpAnyH_take (i := 11) (v := ?_) rfl (by kernel_rfl) (by kernel_rfl) (by kernel_rfl) (fun _ _ _ h => h) (Or.inl ⟨by rfl, ?_⟩) (by assumption) ?_
                rotate_left
                · (intro wx hSw; (try dsimp only at hSw); go_simp; try with_reducible rfl)
                try simp only [Act.put, List.getElem_toArray, List.getElem_cons_succ, List.getElem_cons_zero, List.setIfInBounds_toArray, List.set_cons_zero, List.set_cons_succ]
                refine wpAnyH_done (by kernel_rfl) ?_ _
                have hl8 := hHeld
                obtain ⟨⟨_, _, _, _, _, _, _, _⟩, _, _, _, _, _, _, _, _⟩ := HALL4.out _ hHeld
                clear s1 s2
                have hcw := (HCV.out.on hl8).on ((Below.refl _ _).alloc (Nat.le_refl _) (.cells #[.string x.ro.key, .string x.ro.live.s, .bool x.ro.live.d, .int .i64 x.ro.live.a, .int .i64 x.ro.live.e, .int .i64 x.ro.gone, .int .i64 x.ro.shade, .slice x.A x.ro.cols.length x.c] 36))
                have hk1 := RdR.laid v1 x
                have hsx : Safe w (v1) x := Or.inl XIN0.out
                have HCW := Lib.hid hcw; have HK1 := Lib.hid hk1; have HSX := Lib.hid (hsx.on ((Below.refl _ _).alloc (Nat.le_refl _) (.cells #[.string x.ro.key, .string x.ro.live.s, .bool x.ro.live.d, .int .i64 x.ro.live.a, .int .i64 x.ro.live.e, .int .i64 x.ro.gone, .int .i64 x.ro.shade, .slice x.A x.ro.cols.length x.c] 36)))
                clear hcw hk1 hl8 hsx
                go_wp2_with (at_builtin; refine list_ex rfl (.tmp 78) (.tmp 80) _ _ rfl (.slice (some ⟨g5, 0, none⟩) m c0) (.slice (some ⟨(v1).heap.size, 0, none⟩) 1 1) rfl rfl (run_appR w.heap.size (HM.out ▸ HCW.out.cur.own) HK1.out ?s1 ?s2) ?_)
                case s1 => have h9 := HM.out; have h8 := MP.out.sum; (try simp at h9); (try simp); omega
                case s2 => simpa using HCW.out.below.size
                intro v3 w3 ho3 hg3 hloc3
                obtain ⟨A3, m3, c3, rfl, hm3, hc3⟩ := HCW.out.app (k := [x]) (fun y hy => by rw [List.mem_singleton.1 hy]; exact HSX.out) ho3 hg3
                have HC3 := Lib.hid (MP.out.app HP.out hc3)
                clear hc3 ho3 hg3 hloc3
                go_wp2
                go_roundw
                case rel => exact ⟨_, _, _, _, _, _, _, _, _, rfl, rfl, HC3.out⟩
                case measure => simp [lenS]; omega
          · have hrun2 : runK Ro.key Ro.join (pushK Ro.key Ro.join (ros M) p.ro) (ros la') (ros (q :: lb')) = R := by rw [← HMS.out.run]; exact (runK_ab _ _ _ _ _ hyx).symm
            have t1 : decide (tcmp p.ro.key q.ro.key ≤ 0) = true := decide_eq_true (tcmp_le.2 hyx)
            obtain ⟨x, hx⟩ : ∃ x, x = p := ⟨_, rfl⟩
            rw [← hx] at hrun2 hc01 hpin t1
            have MP := Lib.hid ((hx ▸ HMS.out : MSt w wr B B' R _ _ n1 n2 c1 c2 (x :: la') (q :: lb') M _).takeA A1' hla' hrun2)
            have XIN0 : Hid (RaIn w w.heap.size x) := Lib.hid (hpin.up HBB.out)
            have XIN : Hid (RaIn wr wr.heap.size x) := Lib.hid ((hpin.below (HCUR.out.below.mono HBB.out)).up (Nat.le_trans HBB.out HWS.out))
            clear hrun2 hla' hlb' hqin hpin hx
            have hall2 : ∀ w', Below U.heap.size U w' → RowAt w' g1 o1 x ∧ RowAt w' g2 o2 q := fun w' hb => by
              have hb2 : Below wr.heap.size wr w' := HAL.out.trans (hb.mono (by have := HUS.out; omega))
              exact ⟨hc01.below hb2 hgw1, hc02.below hb2 hgw2⟩
            have HALL2 := Lib.hid hall2
            have HALLW2 := Lib.hid (fun w' (hb2 : Below wr.heap.size wr w') => And.intro (hc01.below hb2 hgw1) (hc02.below hb2 hgw2))
            have w1 := W1_.out
            have w2 := W2_.out
            clear hc01 hc02 hall2 e1 e2 hyx
            go_wp2_with fail
            rw [← hU]
            clear hU
            have HALL := Lib.hid (fun w' hb => (HALL2.out w' hb).1)
            have HALLW := Lib.hid (fun w' hb => (HALLW2.out w' hb).1)
            refine wp_region_held_drew (S := fun w' => Below U.heap.size U w') (by kernel_rfl) ?_ (fun hHeld => ?_)
            · exact (Below.refl _ _).drew
            refine wpAnyH_take (i := 0) (v := ?_) rfl (by kernel_rfl) (by kernel_rfl) (by kernel_rfl) (fun _ _ _ h => h) (Or.inl ⟨by rfl, ?_⟩) (by assumption) ?_
            rotate_left
            · (intro wx hSw; (try dsimp only at hSw); go_simp; try with_reducible rfl)
            try simp only [Act.put, List.getElem_toArray, List.getElem_cons_succ, List.getElem_cons_zero, List.setIfInBounds_toArray, List.set_cons_zero, List.set_cons_succ]
            refine wpAnyH_take (i := 1) (v := ?_) rfl (by kernel_rfl) (by kernel_rfl) (by kernel_rfl) (fun _ _ _ h => h) (Or.inl ⟨by rfl, ?_⟩) (by assumption) ?_
            rotate_left
            · (intro wx hSw; (try dsimp only at hSw); go_simp; try with_reducible rfl)
            try simp only [Act.put, List.getElem_toArray, List.getElem_cons_succ, List.getElem_cons_zero, List.setIfInBounds_toArray, List.set_cons_zero, List.set_cons_succ]
            refine wpAnyH_take (i := 2) (v := ?_) rfl (by kernel_rfl) (by kernel_rfl) (by kernel_rfl) (fun _ _ _ h => h) (Or.inl ⟨by rfl, ?_⟩) (by assumption) ?_
            rotate_left
            · (intro wx hSw; (try dsimp only at hSw); go_simp; try with_reducible rfl)
            try simp only [Act.put, List.getElem_toArray, List.getElem_cons_succ, List.getElem_cons_zero, List.setIfInBounds_toArray, List.set_cons_zero, List.set_cons_succ]
            refine wpAnyH_take (i := 3) (v := ?_) rfl (by kernel_rfl) (by kernel_rfl) (by kernel_rfl) (fun _ _ _ h => h) (Or.inl ⟨by rfl, ?_⟩) (by assumption) ?_
            rotate_left
            · (intro wx hSw; (try dsimp only at hSw); go_simp; try with_reducible rfl)
            try simp only [Act.put, List.getElem_toArray, List.getElem_cons_succ, List.getElem_cons_zero, List.setIfInBounds_toArray, List.set_cons_zero, List.set_cons_succ]
            refine wpAnyH_take (i := 4) (v := ?_) rfl (by kernel_rfl) (by kernel_rfl) (by kernel_rfl) (fun _ _ _ h => h) (Or.inl ⟨by rfl, ?_⟩) (by assumption) ?_
            rotate_left
            · (intro wx hSw; (try dsimp only at hSw); go_simp; try with_reducible rfl)
            try simp only [Act.put, List.getElem_toArray, List.getElem_cons_succ, List.getElem_cons_zero, List.setIfInBounds_toArray, List.set_cons_zero, List.set_cons_succ]
            refine wpAnyH_take (i := 5) (v := ?_) rfl (by kernel_rfl) (by kernel_rfl) (by kernel_rfl) (fun _ _ _ h => h) (Or.inl ⟨by rfl, ?_⟩) (by assumption) ?_
            rotate_left
            · (intro wx hSw; (try dsimp only at hSw); go_simp; try with_reducible rfl)
            try simp only [Act.put, List.getElem_toArray, List.getElem_cons_succ, List.getElem_cons_zero, List.setIfInBounds_toArray, List.set_cons_zero, List.set_cons_succ]
            refine wpAnyH_take (i := 6) (v := ?_) rfl (by kernel_rfl) (by kernel_rfl) (by kernel_rfl) (fun _ _ _ h => h) (Or.inl ⟨by rfl, ?_⟩) (by assumption) ?_
            rotate_left
            · (intro wx hSw; (try dsimp only at hSw); go_simp; try with_reducible rfl)
            try simp only [Act.put, List.getElem_toArray, List.getElem_cons_succ, List.getElem_cons_zero, List.setIfInBounds_toArray, List.set_cons_zero, List.set_cons_succ]
            refine wpAnyH_take (i := 7) (v := ?_) rfl (by kernel_rfl) (by kernel_rfl) (by kernel_rfl) (fun _ _ _ h => h) (Or.inl ⟨by rfl, ?_⟩) (by assumption) ?_
            rotate_left
            · (intro wx hSw; (try dsimp only at hSw); go_simp; try with_reducible rfl)
            try simp only [Act.put, List.getElem_toArray, List.getElem_cons_succ, List.getElem_cons_zero, List.setIfInBounds_toArray, List.set_cons_zero, List.set_cons_succ]
            refine wpAnyH_take (i := 8) (v := ?_) rfl (by kernel_rfl) (by kernel_rfl) (by kernel_rfl) (fun _ _ _ h => h) (Or.inl ⟨by rfl, ?_⟩) (by assumption) ?_
            rotate_left
            · (intro wx hSw; (try dsimp only at hSw); go_simp; try with_reducible rfl)
            try simp only [Act.put, List.getElem_toArray, List.getElem_cons_succ, List.getElem_cons_zero, List.setIfInBounds_toArray, List.set_cons_zero, List.set_cons_succ]
            refine wpAnyH_take (i := 9) (v := ?_) rfl (by kernel_rfl) (by kernel_rfl) (by kernel_rfl) (fun _ _ _ h => h) (Or.inl ⟨by rfl, ?_⟩) (by assumption) ?_
            rotate_left
            · (intro wx hSw; (try dsimp only at hSw); go_simp; try with_reducible rfl)
            try simp only [Act.put, List.getElem_toArray, List.getElem_cons_succ, List.getElem_cons_zero, List.setIfInBounds_toArray, List.set_cons_zero, List.set_cons_succ]
            refine wpAnyH_take (i := 10) (v := ?_) rfl (by kernel_rfl) (by kernel_rfl) (by kernel_rfl) (fun _ _ _ h => h) (Or.inl ⟨by rfl, ?_⟩) (by assumption) ?_
            rotate_left
            · (intro wx hSw; (try dsimp only at hSw); go_simp; try with_reducible rfl)
            try simp only [Act.put, List.getElem_toArray, List.getElem_cons_succ, List.getElem_cons_zero, List.setIfInBounds_toArray, List.set_cons_zero, List.set_cons_succ]
            refine wpAnyH_take (i := 11) (v := ?_) rfl (by kernel_rfl) (by kernel_rfl) (by kernel_rfl) (fun _ _ _ h => h) (Or.inl ⟨by rfl, ?_⟩) (by assumption) ?_
            rotate_left
            · (intro wx hSw; (try dsimp only at hSw); obtain ⟨⟨_, _, _, _, _, _, _, _⟩, _, _, _, _, _, _, _, _⟩ := HALL2.out _ hSw; go_simp; try with_reducible rfl)
            try simp only [Act.put, List.getElem_toArray, List.getElem_cons_succ, List.getElem_cons_zero, List.setIfInBounds_toArray, List.set_cons_zero, List.set_cons_succ]
            refine wpAnyH_take (i := 12) (v := ?_) rfl (by kernel_rfl) (by kernel_rfl) (by kernel_rfl) (fun _ _ _ h => h) (Or.inl ⟨by rfl, ?_⟩) (by assumption) ?_
            rotate_left
            · (intro wx hSw; (try dsimp only at hSw); go_simp; try with_reducible rfl)
            try simp only [Act.put, List.getElem_toArray, List.getElem_cons_succ, List.getElem_cons_zero, List.setIfInBounds_toArray, List.set_cons_zero, List.set_cons_succ]
            refine wpAnyH_take (i := 13) (v := ?_) rfl (by kernel_rfl) (by kernel_rfl) (by kernel_rfl) (fun _ _ _ h => h) (Or.inl ⟨by rfl, ?_⟩) (by assumption) ?_
            rotate_left
            · (intro wx hSw; (try dsimp only at hSw); go_simp; try with_reducible rfl)
            try simp only [Act.put, List.getElem_toArray, List.getElem_cons_succ, List.getElem_cons_zero, List.setIfInBounds_toArray, List.set_cons_zero, List.set_cons_succ]
            refine wpAnyH_take (i := 14) (v := ?_) rfl (by kernel_rfl) (by kernel_rfl) (by kernel_rfl) (fun _ _ _ h => h) (Or.inl ⟨by rfl, ?_⟩) (by assumption) ?_
            rotate_left
            · (intro wx hSw; (try dsimp only at hSw); obtain ⟨⟨_, _, _, _, _, _, _, _⟩, _, _, _, _, _, _, _, _⟩ := HALL2.out _ hSw; go_simp; try with_reducible rfl)
            try simp only [Act.put, List.getElem_toArray, List.getElem_cons_succ, List.getElem_cons_zero, List.setIfInBounds_toArray, List.set_cons_zero, List.set_cons_succ]
            refine wpAnyH_ready (rs := [15]) (by kernel_rfl) (by simp) (AllReadyH.cons rfl (fun K hK => ?_) AllReadyH.nil)
            go_simp
            refine (bykey_ra _ _ _).mono ?_
            rintro e v1 ⟨rfl, b1⟩
            try go_wp2_with fail
            refine hK.out _ _ ?_ (fun hHeld => ?_)
            · exact next (by assumption) b1
            clear hK K
            try simp only [Act.put, List.getElem_toArray, List.getElem_cons_succ, List.getElem_cons_zero, List.setIfInBounds_toArray, List.set_cons_zero, List.set_cons_succ]
            refine wpAnyH_take (i := 16) (v := ?_) rfl (by kernel_rfl) (by kernel_rfl) (by kernel_rfl) (fun _ _ _ h => h) (Or.inl ⟨by rfl, ?_⟩) (by assumption) ?_
            rotate_left
            · (intro wx hSw; (try dsimp only at hSw); go_simp; try with_reducible rfl)
            try simp only [Act.put, List.getElem_toArray, List.getElem_cons_succ, List.getElem_cons_zero, List.setIfInBounds_toArray, List.set_cons_zero, List.set_cons_succ]
            refine wpAnyH_take (i := 17) (v := ?_) rfl (by kernel_rfl) (by kernel_rfl) (by kernel_rfl) (fun _ _ _ h => h) (Or.inl ⟨by rfl, ?_⟩) (by assumption) ?_
            rotate_left
            · (intro wx hSw; (try dsimp only at hSw); go_simp; try with_reducible rfl)
            try simp only [Act.put, List.getElem_toArray, List.getElem_cons_succ, List.getElem_cons_zero, List.setIfInBounds_toArray, List.set_cons_zero, List.set_cons_succ]
            refine wpAnyH_take (i := 18) (v := ?_) rfl (by kernel_rfl) (by kernel_rfl) (by kernel_rfl) (fun _ _ _ h => h) (Or.inl ⟨by rfl, ?_⟩) (by assumption) ?_
            rotate_left
            · (intro wx hSw; (try dsimp only at hSw); go_simp; try with_reducible rfl)
            try simp only [Act.put, List.getElem_toArray, List.getElem_cons_succ, List.getElem_cons_zero, List.setIfInBounds_toArray, List.set_cons_zero, List.set_cons_succ]
            refine wpAnyH_done (by kernel_rfl) ?_ _
            clear t1
            clear w1 w2
            have hlow : Below U.heap.size U v1 := hHeld
            obtain ⟨_, _, _, _, _, _, _, _⟩ := HALL.out _ hlow
            have hq := (hlow.block wr.heap.size (by have := HUS.out; omega)).trans HZ.out
            have z0 := cell_at (i := 0) hq rfl
            have z1 := cell_at (i := 1) hq rfl
            have z2 := cell_at (i := 2) hq rfl
            have z3 := cell_at (i := 3) hq rfl
            have z4 := cell_at (i := 4) hq rfl
            have z5 := cell_at (i := 5) hq rfl
            have z6 := cell_at (i := 6) hq rfl
            have z7 := cell_at (i := 7) hq rfl
            have y0 := thawed_at (i := 0) hq
            have y1 := thawed_at (i := 1) hq
            have y2 := thawed_at (i := 2) hq
            have y3 := thawed_at (i := 3) hq
            have y4 := thawed_at (i := 4) hq
            have y5 := thawed_at (i := 5) hq
            have y6 := thawed_at (i := 6) hq
            have y7 := thawed_at (i := 7) hq
            have HQ4_ := Lib.hid (set8_block hq x)
            have HB4_ := Lib.hid (below_set80 (HAL.out.trans (hlow.mono (by have := HUS.out; omega))) (Nat.le_refl wr.heap.size) x)
            clear hq
            have HLOW := Lib.hid (HAL.out.trans (hlow.mono (by have := HUS.out; omega)))
            go_wp2_with fail
            refine wp_region_held_drew (S := fun w' => Below wr.heap.size wr w') (by kernel_rfl) ?_ (fun hHeld => ?_)
            · exact HLOW.out.drew
            refine wpAnyH_take (i := 0) (v := ?_) rfl (by kernel_rfl) (by kernel_rfl) (by kernel_rfl) (fun _ _ _ h => h) (Or.inl ⟨by rfl, ?_⟩) (by assumption) ?_
            rotate_left
            · (intro wx hSw; (try dsimp only at hSw); go_simp; try with_reducible rfl)
            try simp only [Act.put, List.getElem_toArray, List.getElem_cons_succ, List.getElem_cons_zero, List.setIfInBounds_toArray, List.set_cons_zero, List.set_cons_succ]
            refine wpAnyH_take (i := 1) (v := ?_) rfl (by kernel_rfl) (by kernel_rfl) (by kernel_rfl) (fun _ _ _ h => h) (Or.inl ⟨by rfl, ?_⟩) (by assumption) ?_
            rotate_left
            · (intro wx hSw; (try dsimp only at hSw); go_simp; try with_reducible rfl)
            try simp only [Act.put, List.getElem_toArray, List.getElem_cons_succ, List.getElem_cons_zero, List.setIfInBounds_toArray, List.set_cons_zero, List.set_cons_succ]
            refine wpAnyH_take (i := 2) (v := ?_) rfl (by kernel_rfl) (by kernel_rfl) (by kernel_rfl) (fun _ _ _ h => h) (Or.inl ⟨by rfl, ?_⟩) (by assumption) ?_
            rotate_left
            · (intro wx hSw; (try dsimp only at hSw); obtain ⟨_, _, _, _, _, _, _, _⟩ := HALLW.out _ hSw; go_simp; try with_reducible rfl)
            try simp only [Act.put, List.getElem_toArray, List.getElem_cons_succ, List.getElem_cons_zero, List.setIfInBounds_toArray, List.set_cons_zero, List.set_cons_succ]
            refine wpAnyH_take (i := 3) (v := ?_) rfl (by kernel_rfl) (by kernel_rfl) (by kernel_rfl) (fun _ _ _ h => h) (Or.inl ⟨by rfl, ?_⟩) (by assumption) ?_
            rotate_left
            · (intro wx hSw; (try dsimp only at hSw); go_simp; try with_reducible rfl)
            try simp only [Act.put, List.getElem_toArray, List.getElem_cons_succ, List.getElem_cons_zero, List.setIfInBounds_toArray, List.set_cons_zero, List.set_cons_succ]
            refine wpAnyH_take (i := 4) (v := ?_) rfl (by kernel_rfl) (by kernel_rfl) (by kernel_rfl) (fun _ _ _ h => h) (Or.inl ⟨by rfl, ?_⟩) (by assumption) ?_
            rotate_left
            · (intro wx hSw; (try dsimp only at hSw); go_simp; try with_reducible rfl)
            try simp only [Act.put, List.getElem_toArray, List.getElem_cons_succ, List.getElem_cons_zero, List.setIfInBounds_toArray, List.set_cons_zero, List.set_cons_succ]
            refine wpAnyH_ready (rs := [5]) (by kernel_rfl) (by simp) (AllReadyH.cons rfl (fun K hK => ?_) AllReadyH.nil)
            go_simp
            refine hK.out _ _ ?_ (fun hHeld => ?_)
            · exact HB4_.out.drew
            clear hK K
            try simp only [Act.put, List.getElem_toArray, List.getElem_cons_succ, List.getElem_cons_zero, List.setIfInBounds_toArray, List.set_cons_zero, List.set_cons_succ]
            refine wpAnyH_take (i := 6) (v := ?_) rfl (by kernel_rfl) (by kernel_rfl) (by kernel_rfl) (fun _ _ _ h => h) (Or.inl ⟨by rfl, ?_⟩) (by assumption) ?_
            rotate_left
            · (intro wx hSw; (try dsimp only at hSw); go_simp; try with_reducible rfl)
            try simp only [Act.put, List.getElem_toArray, List.getElem_cons_succ, List.getElem_cons_zero, List.setIfInBounds_toArray, List.set_cons_zero, List.set_cons_succ]
            refine wpAnyH_done (by kernel_rfl) ?_ _
            obtain ⟨w4, hw4⟩ : ∃ w4, w4 = ((World.setCell (World.setCell (World.setCell (World.setCell (World.setCell (World.setCell (World.setCell (World.setCell (v1) ⟨wr.heap.size, 0, none⟩ (.string x.ro.key)) ⟨wr.heap.size, 1, none⟩ (.string x.ro.live.s)) ⟨wr.heap.size, 2, none⟩ (.bool x.ro.live.d)) ⟨wr.heap.size, 3, none⟩ (.int .i64 x.ro.live.a)) ⟨wr.heap.size, 4, none⟩ (.int .i64 x.ro.live.e)) ⟨wr.heap.size, 5, none⟩ (.int .i64 x.ro.gone)) ⟨wr.heap.size, 6, none⟩ (.int .i64 x.ro.shade)) ⟨wr.heap.size, 7, none⟩ (.slice x.A x.ro.cols.length x.c))).drew  := ⟨_, rfl⟩
            rw [← hw4]
            have HQ4 : Hid (w4.heap[wr.heap.size]? = some (.cells #[.string x.ro.key, .string x.ro.live.s, .bool x.ro.live.d, .int .i64 x.ro.live.a, .int .i64 x.ro.live.e, .int .i64 x.ro.gone, .int .i64 x.ro.shade, .slice x.A x.ro.cols.length x.c] 36)) := Lib.hid (by rw [hw4]; simp only [heap_drew]; exact HQ4_.out)
            have HB4 : Hid (Below wr.heap.size wr w4) := Lib.hid (by rw [hw4]; exact HB4_.out.drew )
            clear hw4 HQ4_ HB4_ z0 z1 z2 z3 z4 z5 z6 z7 y0 y1 y2 y3 y4 y5 y6 y7
            have HCV := Lib.hid (HCUR.out.on HB4.out)
            have HS4 := Lib.hid HB4.out.size
            have HX4 := Lib.hid (XIN.out.below HB4.out)
            rcases List.eq_nil_or_concat M with hM | ⟨L, y, hM⟩
            · have hp : pushK Ro.key Ro.join (ros M) x.ro = ros M ++ [x.ro] := by rw [hM]; rfl
              have hm0 : m = 0 := by rw [← HM.out, hM]; rfl
              have S1 := Lib.hid (show IntKind.i64.wrap ((m : Int) - 1) = -1 by rw [IntKind.wrap_i64]; omega)
              have S2 := Lib.hid (show wrap64 ((m : Int) - 1) = -1 by unfold wrap64; omega)
              have HP := Lib.hid hp
              have hall4 : ∀ w', Below w4.heap.size w4 w' → BlkAt w' wr.heap.size x := fun w' hb => BlkAt.of ((hb.block wr.heap.size (Array.getElem?_eq_some_iff.1 HQ4.out).1).trans HQ4.out)
              have HALL4 := Lib.hid hall4
              have s1 := S1.out
              have s2 := S2.out
              clear hm0 hM hp hall4
              go_wp2_with fail
              refine wp_region_held_drew (S := fun w' => Below w4.heap.size w4 w') (by kernel_rfl) ?_ (fun hHeld => ?_)
              · exact (Below.refl _ _).drew
              refine wpAnyH_take (i := 0) (v := ?_) rfl (by kernel_rfl) (by kernel_rfl) (by kernel_rfl) (fun _ _ _ h => h) (Or.inl ⟨by rfl, ?_⟩) (by assumption) ?_
              rotate_left
              · (intro wx hSw; (try dsimp only at hSw); go_simp; try with_reducible rfl)
              try simp only [Act.put, List.getElem_toArray, List.getElem_cons_succ, List.getElem_cons_zero, List.setIfInBounds_toArray, List.set_cons_zero, List.set_cons_succ]
              refine wpAnyH_take (i := 1) (v := ?_) rfl (by kernel_rfl) (by kernel_rfl) (by kernel_rfl) (fun _ _ _ h => h) (Or.inl ⟨by rfl, ?_⟩) (by assumption) ?_
              rotate_left
              · (intro wx hSw; (try dsimp only at hSw); go_simp; try with_reducible rfl)
              try simp only [Act.put, List.getElem_toArray, List.getElem_cons_succ, List.getElem_cons_zero, List.setIfInBounds_toArray, List.set_cons_zero, List.set_cons_succ]
              refine wpAnyH_take (i := 2) (v := ?_) rfl (by kernel_rfl) (by kernel_rfl) (by kernel_rfl) (fun _ _ _ h => h) (Or.inl ⟨by rfl, ?_⟩) (by assumption) ?_
              rotate_left
              · (intro wx hSw; (try dsimp only at hSw); go_simp; try with_reducible rfl)
              try simp only [Act.put, List.getElem_toArray, List.getElem_cons_succ, List.getElem_cons_zero, List.setIfInBounds_toArray, List.set_cons_zero, List.set_cons_succ]
              refine wpAnyH_take (i := 3) (v := undef) rfl (by kernel_rfl) (by kernel_rfl) (by kernel_rfl) (fun _ _ _ h => h) (Or.inr ⟨by rfl, rfl⟩) (by assumption) ?_
              try simp only [Act.put, List.getElem_toArray, List.getElem_cons_succ, List.getElem_cons_zero, List.setIfInBounds_toArray, List.set_cons_zero, List.set_cons_succ]
              refine wpAnyH_take (i := 4) (v := undef) rfl (by kernel_rfl) (by kernel_rfl) (by kernel_rfl) (fun _ _ _ h => h) (Or.inr ⟨by rfl, rfl⟩) (by assumption) ?_
              try simp only [Act.put, List.getElem_toArray, List.getElem_cons_succ, List.getElem_cons_zero, List.setIfInBounds_toArray, List.set_cons_zero, List.set_cons_succ]
              refine wpAnyH_take (i := 5) (v := undef) rfl (by kernel_rfl) (by kernel_rfl) (by kernel_rfl) (fun _ _ _ h => h) (Or.inr ⟨by rfl, rfl⟩) (by assumption) ?_
              try simp only [Act.put, List.getElem_toArray, List.getElem_cons_succ, List.getElem_cons_zero, List.setIfInBounds_toArray, List.set_cons_zero, List.set_cons_succ]
              refine wpAnyH_take (i := 6) (v := undef) rfl (by kernel_rfl) (by kernel_rfl) (by kernel_rfl) (fun _ _ _ h => h) (Or.inr ⟨by rfl, rfl⟩) (by assumption) ?_
              try simp only [Act.put, List.getElem_toArray, List.getElem_cons_succ, List.getElem_cons_zero, List.setIfInBounds_toArray, List.set_cons_zero, List.set_cons_succ]
              refine wpAnyH_take (i := 7) (v := undef) rfl (by kernel_rfl) (by kernel_rfl) (by kernel_rfl) (fun _ _ _ h => h) (Or.inr ⟨by rfl, rfl⟩) (by assumption) ?_
              try simp only [Act.put, List.getElem_toArray, List.getElem_cons_succ, List.getElem_cons_zero, List.setIfInBounds_toArray, List.set_cons_zero, List.set_cons_succ]
              refine wpAnyH_take (i := 8) (v := undef) rfl (by kernel_rfl) (by kernel_rfl) (by kernel_rfl) (fun _ _ _ h => h) (Or.inr ⟨by rfl, rfl⟩) (by assumption) ?_
              try simp only [Act.put, List.getElem_toArray, List.getElem_cons_succ, List.getElem_cons_zero, List.setIfInBounds_toArray, List.set_cons_zero, List.set_cons_succ]
              refine wpAnyH_take (i := 9) (v := undef) rfl (by kernel_rfl) (by kernel_rfl) (by kernel_rfl) (fun _ _ _ h => h) (Or.inr ⟨by rfl, rfl⟩) (by assumption) ?_
              try simp only [Act.put, List.getElem_toArray, List.getElem_cons_succ, List.getElem_cons_zero, List.setIfInBounds_toArray, List.set_cons_zero, List.set_cons_succ]
              refine wpAnyH_take (i := 10) (v := undef) rfl (by kernel_rfl) (by kernel_rfl) (by kernel_rfl) (fun _ _ _ h => h) (Or.inr ⟨by rfl, rfl⟩) (by assumption) ?_
              try simp only [Act.put, List.getElem_toArray, List.getElem_cons_succ, List.getElem_cons_zero, List.setIfInBounds_toArray, List.set_cons_zero, List.set_cons_succ]
              refine wpAnyH_take (i := 11) (v := ?_) rfl (by kernel_rfl) (by kernel_rfl) (by kernel_rfl) (fun _ _ _ h => h) (Or.inl ⟨by rfl, ?_⟩) (by assumption) ?_
              rotate_left
              · (intro wx hSw; (try dsimp only at hSw); go_simp; try with_reducible rfl)
              try simp only [Act.put, List.getElem_toArray, List.getElem_cons_succ, List.getElem_cons_zero, List.setIfInBounds_toArray, List.set_cons_zero, List.set_cons_succ]
              refine wpAnyH_done (by kernel_rfl) ?_ _
              have hl8 : Below w4.heap.size w4 w4.drew := (Below.refl _ _).drew
              generalize w4.drew = w8 at hl8 ⊢
              obtain ⟨_, _, _, _, _, _, _, _⟩ := HALL4.out _ hl8
              clear s1 s2
              have hcw := (HCV.out.on hl8).on ((Below.refl _ _).alloc (Nat.le_refl _) (.cells #[.string x.ro.key, .string x.ro.live.s, .bool x.ro.live.d, .int .i64 x.ro.live.a, .int .i64 x.ro.live.e, .int .i64 x.ro.gone, .int .i64 x.ro.shade, .slice x.A x.ro.cols.length x.c] 36))
              have hk1 := RdR.laid w8 x
              have hsx : Safe w (w8) x := Or.inl XIN0.out
              have HCW := Lib.hid hcw; have HK1 := Lib.hid hk1; have HSX := Lib.hid (hsx.on ((Below.refl _ _).alloc (Nat.le_refl _) (.cells #[.string x.ro.key, .string x.ro.live.s, .bool x.ro.live.d, .int .i64 x.ro.live.a, .int .i64 x.ro.live.e, .int .i64 x.ro.gone, .int .i64 x.ro.shade, .slice x.A x.ro.cols.length x.c] 36)))
              clear hcw hk1 hl8 hsx
              go_wp2_with (at_builtin; refine list_ex rfl (.tmp 78) (.tmp 80) _ _ rfl (.slice A0 m c0) (.slice (some ⟨(w8).heap.size, 0, none⟩) 1 1) rfl rfl (run_appR w.heap.size (HM.out ▸ HCW.out.cur.own) HK1.out ?s1 ?s2) ?_)
              case s1 => have h9 := HM.out; have h8 := MP.out.sum; (try simp at h9); (try simp); omega
              case s2 => simpa using HCW.out.below.size
              intro v3 w3 ho3 hg3 hloc3
              obtain ⟨A3, m3, c3, rfl, hm3, hc3⟩ := HCW.out.app (k := [x]) (fun y hy => by rw [List.mem_singleton.1 hy]; exact HSX.out) ho3 hg3
              have HC3 := Lib.hid (MP.out.app HP.out hc3)
              clear hc3 ho3 hg3 hloc3
              go_wp2
              go_roundw
              case rel => exact ⟨_, _, _, _, _, _, _, _, _, rfl, rfl, HC3.out⟩
              case measure => simp [lenS]; omega
            · rw [List.concat_eq_append] at hM
              have HMM := Lib.hid hM
              clear hM
              obtain ⟨u, hu⟩ : ∃ u, L.length = u := ⟨_, rfl⟩
              have hm1 : m = u + 1 := by rw [← HM.out, HMM.out, ← hu]; simp
              have hul : u < M.length := by have := HM.out; omega
              have hMu : M[u] = y := by simp [HMM.out, ← hu]
              have S1 := Lib.hid (show IntKind.i64.wrap ((m : Int) - 1) = (u : Int) by rw [IntKind.wrap_i64]; omega)
              have S2 := Lib.hid (show wrap64 ((m : Int) - 1) = (u : Int) by unfold wrap64; omega)
              obtain ⟨g5, rfl, hg5, hg5', hy5, hf5⟩ := HCV.out.row hul
              rw [hMu] at hy5
              have hall4 : ∀ w', Below w4.heap.size w4 w' → RowAt w' g5 (u * 8) y ∧ BlkAt w' wr.heap.size x := fun w' hb =>
                ⟨hy5.below hb hg5', BlkAt.of ((hb.block wr.heap.size (Array.getElem?_eq_some_iff.1 HQ4.out).1).trans HQ4.out)⟩
              have HALL4 := Lib.hid hall4
              have hysafe := HCV.out.safe y (by rw [HMM.out]; simp)
              have HY4 := Lib.hid (hysafe.ra HCV.out.below)
              have i5 : (u : Int) < m := by omega
              have i6 : (0 : Int) ≤ u := by omega
              have i7 : decide ((0 : Int) ≤ (u : Int)) = true := by simp
              have HU := Lib.hid hu; have HM1 := Lib.hid hm1; have HUL := Lib.hid hul
              clear hall4 hu hm1 hy5 hf5 hul hMu hysafe
              by_cases hn : y.ro.key = x.ro.key
              · have t0 : (tcmp y.ro.key x.ro.key == 0) = true := by rw [beq_iff_eq]; exact tcmp_zero.2 hn
                have HN2 := Lib.hid hn
                have s1 := S1.out
                have s2 := S2.out
                clear hn
                go_wp2_with fail
                refine wp_region_held_drew (S := fun w' => Below w4.heap.size w4 w') (by kernel_rfl) ?_ (fun hHeld => ?_)
                · exact (Below.refl _ _).drew
                refine wpAnyH_take (i := 0) (v := ?_) rfl (by kernel_rfl) (by kernel_rfl) (by kernel_rfl) (fun _ _ _ h => h) (Or.inl ⟨by rfl, ?_⟩) (by assumption) ?_
                rotate_left
                · (intro wx hSw; (try dsimp only at hSw); go_simp; try with_reducible rfl)
                try simp only [Act.put, List.getElem_toArray, List.getElem_cons_succ, List.getElem_cons_zero, List.setIfInBounds_toArray, List.set_cons_zero, List.set_cons_succ]
                refine wpAnyH_take (i := 1) (v := ?_) rfl (by kernel_rfl) (by kernel_rfl) (by kernel_rfl) (fun _ _ _ h => h) (Or.inl ⟨by rfl, ?_⟩) (by assumption) ?_
                rotate_left
                · (intro wx hSw; (try dsimp only at hSw); go_simp; try with_reducible rfl)
                try simp only [Act.put, List.getElem_toArray, List.getElem_cons_succ, List.getElem_cons_zero, List.setIfInBounds_toArray, List.set_cons_zero, List.set_cons_succ]
                refine wpAnyH_take (i := 2) (v := ?_) rfl (by kernel_rfl) (by kernel_rfl) (by kernel_rfl) (fun _ _ _ h => h) (Or.inl ⟨by rfl, ?_⟩) (by assumption) ?_
                rotate_left
                · (intro wx hSw; (try dsimp only at hSw); go_simp; try with_reducible rfl)
                try simp only [Act.put, List.getElem_toArray, List.getElem_cons_succ, List.getElem_cons_zero, List.setIfInBounds_toArray, List.set_cons_zero, List.set_cons_succ]
                refine wpAnyH_take (i := 3) (v := ?_) rfl (by kernel_rfl) (by kernel_rfl) (by kernel_rfl) (fun _ _ _ h => h) (Or.inl ⟨by rfl, ?_⟩) (by assumption) ?_
                rotate_left
                · (intro wx hSw; (try dsimp only at hSw); go_simp; try with_reducible rfl)
                try simp only [Act.put, List.getElem_toArray, List.getElem_cons_succ, List.getElem_cons_zero, List.setIfInBounds_toArray, List.set_cons_zero, List.set_cons_succ]
                refine wpAnyH_take (i := 4) (v := ?_) rfl (by kernel_rfl) (by kernel_rfl) (by kernel_rfl) (fun _ _ _ h => h) (Or.inl ⟨by rfl, ?_⟩) (by assumption) ?_
                rotate_left
                · (intro wx hSw; (try dsimp only at hSw); go_simp; try with_reducible rfl)
                try simp only [Act.put, List.getElem_toArray, List.getElem_cons_succ, List.getElem_cons_zero, List.setIfInBounds_toArray, List.set_cons_zero, List.set_cons_succ]
                refine wpAnyH_take (i := 5) (v := ?_) rfl (by kernel_rfl) (by kernel_rfl) (by kernel_rfl) (fun _ _ _ h => h) (Or.inl ⟨by rfl, ?_⟩) (by assumption) ?_
                rotate_left
                · (intro wx hSw; (try dsimp only at hSw); go_simp; try with_reducible rfl)
                try simp only [Act.put, List.getElem_toArray, List.getElem_cons_succ, List.getElem_cons_zero, List.setIfInBounds_toArray, List.set_cons_zero, List.set_cons_succ]
                refine wpAnyH_take (i := 6) (v := ?_) rfl (by kernel_rfl) (by kernel_rfl) (by kernel_rfl) (fun _ _ _ h => h) (Or.inl ⟨by rfl, ?_⟩) (by assumption) ?_
                rotate_left
                · (intro wx hSw; (try dsimp only at hSw); go_simp; try with_reducible rfl)
                try simp only [Act.put, List.getElem_toArray, List.getElem_cons_succ, List.getElem_cons_zero, List.setIfInBounds_toArray, List.set_cons_zero, List.set_cons_succ]
                refine wpAnyH_take (i := 7) (v := ?_) rfl (by kernel_rfl) (by kernel_rfl) (by kernel_rfl) (fun _ _ _ h => h) (Or.inl ⟨by rfl, ?_⟩) (by assumption) ?_
                rotate_left
                · (intro wx hSw; (try dsimp only at hSw); obtain ⟨⟨_, _, _, _, _, _, _, _⟩, _, _, _, _, _, _, _, _⟩ := HALL4.out _ hSw; go_simp; try with_reducible rfl)
                try simp only [Act.put, List.getElem_toArray, List.getElem_cons_succ, List.getElem_cons_zero, List.setIfInBounds_toArray, List.set_cons_zero, List.set_cons_succ]
                refine wpAnyH_take (i := 8) (v := ?_) rfl (by kernel_rfl) (by kernel_rfl) (by kernel_rfl) (fun _ _ _ h => h) (Or.inl ⟨by rfl, ?_⟩) (by assumption) ?_
                rotate_left
                · (intro wx hSw; (try dsimp only at hSw); obtain ⟨⟨_, _, _, _, _, _, _, _⟩, _, _, _, _, _, _, _, _⟩ := HALL4.out _ hSw; go_simp; try with_reducible rfl)
                try simp only [Act.put, List.getElem_toArray, List.getElem_cons_succ, List.getElem_cons_zero, List.setIfInBounds_toArray, List.set_cons_zero, List.set_cons_succ]
                refine wpAnyH_ready (rs := [9]) (by kernel_rfl) (by simp) (AllReadyH.cons rfl (fun K hK => ?_) AllReadyH.nil)
                go_simp
                refine (bykey_ra y x _).mono ?_
                rintro e v1 ⟨rfl, b1⟩
                try go_wp2_with fail
                refine hK.out _ _ ?_ (fun hHeld => ?_)
                · exact next (by assumption) b1
                clear hK K
                try simp only [Act.put, List.getElem_toArray, List.getElem_cons_succ, List.getElem_cons_zero, List.setIfInBounds_toArray, List.set_cons_zero, List.set_cons_succ]
                refine wpAnyH_take (i := 10) (v := ?_) rfl (by kernel_rfl) (by kernel_rfl) (by kernel_rfl) (fun _ _ _ h => h) (Or.inl ⟨by rfl, ?_⟩) (by assumption) ?_
                rotate_left
                · (intro wx hSw; (try dsimp only at hSw); go_simp; try with_reducible rfl)
                try simp only [Act.put, List.getElem_toArray, List.getElem_cons_succ, List.getElem_cons_zero, List.setIfInBounds_toArray, List.set_cons_zero, List.set_cons_succ]
                refine wpAnyH_take (i := 11) (v := ?_) rfl (by kernel_rfl) (by kernel_rfl) (by kernel_rfl) (fun _ _ _ h => h) (Or.inl ⟨by rfl, ?_⟩) (by assumption) ?_
                rotate_left
                · (intro wx hSw; (try dsimp only at hSw); go_simp; try with_reducible rfl)
                try simp only [Act.put, List.getElem_toArray, List.getElem_cons_succ, List.getElem_cons_zero, List.setIfInBounds_toArray, List.set_cons_zero, List.set_cons_succ]
                refine wpAnyH_done (by kernel_rfl) ?_ _
                obtain ⟨⟨_, _, _, _, _, _, _, _⟩, _, _, _, _, _, _, _, _⟩ := HALL4.out _ hHeld
                clear s1 s2
                have HH := Lib.hid hHeld
                clear hHeld
                go_wp2_with fail
                go_region_with (first
                  | (go_at_call 37
                     have hbv := next (w := w4) HH.out (show Below v1.heap.size v1 _ by first | exact (Below.refl _ _).drew | exact below_draws _ _ _ | exact Below.refl _ _)
                     refine (join_ra y x w4.heap.size wr.heap.size _ (HY4.out.below hbv) (HX4.out.below (hbv.mono HS4.out)) hbv.size (Nat.le_trans HS4.out hbv.size) ?hs (MP.out.um y (by rw [HMM.out]; simp)) MP.out.ux).mono ?_
                     case hs => have h1 := MP.out.tt; have h2 := tot_mem (L := M) (x := y) (by rw [HMM.out]; simp); omega
                     rintro e v5 ⟨z, rfl, hz, hcz⟩
                     unfold RA.v Ro.val
                     have b5' := next hbv hcz.below
                     obtain ⟨⟨_, _, _, _, _, _, _, _⟩, _, _, _, _, _, _, _, _⟩ := HALL4.out _ b5'
                     have hcl := HCV.out.on b5'
                     have HSZ := Lib.hid (Safe.of_cur (next HCUR.out.below (next HB4.out hbv)) hcz)
                     obtain ⟨g6, e6, _, _, _, hfz⟩ := hcl.row HUL.out
                     cases e6
                     have f0 := hfz (u * 8)
                     have f1 := hfz (u * 8 + 1)
                     have f2 := hfz (u * 8 + 2)
                     have f3 := hfz (u * 8 + 3)
                     have f4 := hfz (u * 8 + 4)
                     have f5 := hfz (u * 8 + 5)
                     have f6 := hfz (u * 8 + 6)
                     have f7 := hfz (u * 8 + 7)
                     have HCL := Lib.hid hcl
                     have HZE := Lib.hid hz
                     clear hcl hfz hz hcz hbv))
                all_goals
                  have hput := HCL.out.put HUL.out z HSZ.out
                  generalize hw6 : (World.setCell (World.setCell (World.setCell (World.setCell (World.setCell (World.setCell (World.setCell (World.setCell v5 ⟨g5, u * 8, none⟩ (.string z.ro.key)) ⟨g5, u * 8 + 1, none⟩ (.string z.ro.live.s)) ⟨g5, u * 8 + 2, none⟩ (.bool z.ro.live.d)) ⟨g5, u * 8 + 3, none⟩ (.int .i64 z.ro.live.a)) ⟨g5, u * 8 + 4, none⟩ (.int .i64 z.ro.live.e)) ⟨g5, u * 8 + 5, none⟩ (.int .i64 z.ro.gone)) ⟨g5, u * 8 + 6, none⟩ (.int .i64 z.ro.shade)) ⟨g5, u * 8 + 7, none⟩ (.slice z.A z.ro.cols.length z.c)) = w6 at hput ⊢
                  have HPUT := Lib.hid (MP.out.put HMM.out HN2.out HZE.out (by rw [HU.out]; exact hput))
                  clear hput f0 f1 f2 f3 f4 f5 f6 f7 b5' hw6
                  go_wp2
                  go_roundw
                  case rel => exact ⟨_, _, _, _, _, _, _, _, _, rfl, rfl, HPUT.out⟩
                  case measure => simp [lenS]; omega
              · have t0 : (tcmp y.ro.key x.ro.key == 0) = false := by rw [beq_eq_false_iff_ne]; exact fun h => hn (tcmp_zero.1 h)
                have hp : pushK Ro.key Ro.join (ros M) x.ro = ros M ++ [x.ro] := by rw [HMM.out, show ros (L ++ [y]) = ros L ++ [y.ro] by simp [ros], pushK_last]; exact if_neg hn
                have HP := Lib.hid hp
                have s1 := S1.out
                have s2 := S2.out
                clear hp hn
                go_wp2_with fail
                refine wp_region_held_drew (S := fun w' => Below w4.heap.size w4 w') (by kernel_rfl) ?_ (fun hHeld => ?_)
                · exact (Below.refl _ _).drew
                refine wpAnyH_take (i := 0) (v := ?_) rfl (by kernel_rfl) (by kernel_rfl) (by kernel_rfl) (fun _ _ _ h => h) (Or.inl ⟨by rfl, ?_⟩) (by assumption) ?_
                rotate_left
                · (intro wx hSw; (try dsimp only at hSw); go_simp; try with_reducible rfl)
                try simp only [Act.put, List.getElem_toArray, List.getElem_cons_succ, List.getElem_cons_zero, List.setIfInBounds_toArray, List.set_cons_zero, List.set_cons_succ]
                refine wpAnyH_take (i := 1) (v := ?_) rfl (by kernel_rfl) (by kernel_rfl) (by kernel_rfl) (fun _ _ _ h => h) (Or.inl ⟨by rfl, ?_⟩) (by assumption) ?_
                rotate_left
                · (intro wx hSw; (try dsimp only at hSw); go_simp; try with_reducible rfl)
                try simp only [Act.put, List.getElem_toArray, List.getElem_cons_succ, List.getElem_cons_zero, List.setIfInBounds_toArray, List.set_cons_zero, List.set_cons_succ]
                refine wpAnyH_take (i := 2) (v := ?_) rfl (by kernel_rfl) (by kernel_rfl) (by kernel_rfl) (fun _ _ _ h => h) (Or.inl ⟨by rfl, ?_⟩) (by assumption) ?_
                rotate_left
                · (intro wx hSw; (try dsimp only at hSw); go_simp; try with_reducible rfl)
                try simp only [Act.put, List.getElem_toArray, List.getElem_cons_succ, List.getElem_cons_zero, List.setIfInBounds_toArray, List.set_cons_zero, List.set_cons_succ]
                refine wpAnyH_take (i := 3) (v := ?_) rfl (by kernel_rfl) (by kernel_rfl) (by kernel_rfl) (fun _ _ _ h => h) (Or.inl ⟨by rfl, ?_⟩) (by assumption) ?_
                rotate_left
                · (intro wx hSw; (try dsimp only at hSw); go_simp; try with_reducible rfl)
                try simp only [Act.put, List.getElem_toArray, List.getElem_cons_succ, List.getElem_cons_zero, List.setIfInBounds_toArray, List.set_cons_zero, List.set_cons_succ]
                refine wpAnyH_take (i := 4) (v := ?_) rfl (by kernel_rfl) (by kernel_rfl) (by kernel_rfl) (fun _ _ _ h => h) (Or.inl ⟨by rfl, ?_⟩) (by assumption) ?_
                rotate_left
                · (intro wx hSw; (try dsimp only at hSw); go_simp; try with_reducible rfl)
                try simp only [Act.put, List.getElem_toArray, List.getElem_cons_succ, List.getElem_cons_zero, List.setIfInBounds_toArray, List.set_cons_zero, List.set_cons_succ]
                refine wpAnyH_take (i := 5) (v := ?_) rfl (by kernel_rfl) (by kernel_rfl) (by kernel_rfl) (fun _ _ _ h => h) (Or.inl ⟨by rfl, ?_⟩) (by assumption) ?_
                rotate_left
                · (intro wx hSw; (try dsimp only at hSw); go_simp; try with_reducible rfl)
                try simp only [Act.put, List.getElem_toArray, List.getElem_cons_succ, List.getElem_cons_zero, List.setIfInBounds_toArray, List.set_cons_zero, List.set_cons_succ]
                refine wpAnyH_take (i := 6) (v := ?_) rfl (by kernel_rfl) (by kernel_rfl) (by kernel_rfl) (fun _ _ _ h => h) (Or.inl ⟨by rfl, ?_⟩) (by assumption) ?_
                rotate_left
                · (intro wx hSw; (try dsimp only at hSw); go_simp; try with_reducible rfl)
                try simp only [Act.put, List.getElem_toArray, List.getElem_cons_succ, List.getElem_cons_zero, List.setIfInBounds_toArray, List.set_cons_zero, List.set_cons_succ]
                refine wpAnyH_take (i := 7) (v := ?_) rfl (by kernel_rfl) (by kernel_rfl) (by kernel_rfl) (fun _ _ _ h => h) (Or.inl ⟨by rfl, ?_⟩) (by assumption) ?_
                rotate_left
                · (intro wx hSw; (try dsimp only at hSw); obtain ⟨⟨_, _, _, _, _, _, _, _⟩, _, _, _, _, _, _, _, _⟩ := HALL4.out _ hSw; go_simp; try with_reducible rfl)
                try simp only [Act.put, List.getElem_toArray, List.getElem_cons_succ, List.getElem_cons_zero, List.setIfInBounds_toArray, List.set_cons_zero, List.set_cons_succ]
                refine wpAnyH_take (i := 8) (v := ?_) rfl (by kernel_rfl) (by kernel_rfl) (by kernel_rfl) (fun _ _ _ h => h) (Or.inl ⟨by rfl, ?_⟩) (by assumption) ?_
                rotate_left
                · (intro wx hSw; (try dsimp only at hSw); obtain ⟨⟨_, _, _, _, _, _, _, _⟩, _, _, _, _, _, _, _, _⟩ := HALL4.out _ hSw; go_simp; try with_reducible rfl)
                try simp only [Act.put, List.getElem_toArray, List.getElem_cons_succ, List.getElem_cons_zero, List.setIfInBounds_toArray, List.set_cons_zero, List.set_cons_succ]
                refine wpAnyH_ready (rs := [9]) (by kernel_rfl) (by simp) (AllReadyH.cons rfl (fun K hK => ?_) AllReadyH.nil)
                go_simp
                refine (bykey_ra y x _).mono ?_
                rintro e v1 ⟨rfl, b1⟩
                try go_wp2_with fail
                refine hK.out _ _ ?_ (fun hHeld => ?_)
                · exact next (by assumption) b1
                clear hK K
                try simp only [Act.put, List.getElem_toArray, List.getElem_cons_succ, List.getElem_cons_zero, List.setIfInBounds_toArray, List.set_cons_zero, List.set_cons_succ]
                refine wpAnyH_take (i := 10) (v := ?_) rfl (by kernel_rfl) (by kernel_rfl) (by kernel_rfl) (fun _ _ _ h => h) (Or.inl ⟨by rfl, ?_⟩) (by assumption) ?_
                rotate_left
                · (intro wx hSw; (try dsimp only at hSw); go_simp; try with_reducible rfl)
                try simp only [Act.put, List.getElem_toArray, List.getElem_cons_succ, List.getElem_cons_zero, List.setIfInBounds_toArray, List.set_cons_zero, List.set_cons_succ]
                refine wpAnyH_take (i := 11) (v := ?_) rfl (by kernel_rfl) (by kernel_rfl) (by kernel_rfl) (fun _ _ _ h => h) (Or.inl ⟨by rfl, ?_⟩) (by assumption) ?_
                rotate_left
                · (intro wx hSw; (try dsimp only at hSw); go_simp; try with_reducible rfl)
                try simp only [Act.put, List.getElem_toArray, List.getElem_cons_succ, List.getElem_cons_zero, List.setIfInBounds_toArray, List.set_cons_zero, List.set_cons_succ]
                refine wpAnyH_done (by kernel_rfl) ?_ _
                have hl8 := hHeld
                obtain ⟨⟨_, _, _, _, _, _, _, _⟩, _, _, _, _, _, _, _, _⟩ := HALL4.out _ hHeld
                clear s1 s2
                have hcw := (HCV.out.on hl8).on ((Below.refl _ _).alloc (Nat.le_refl _) (.cells #[.string x.ro.key, .string x.ro.live.s, .bool x.ro.live.d, .int .i64 x.ro.live.a, .int .i64 x.ro.live.e, .int .i64 x.ro.gone, .int .i64 x.ro.shade, .slice x.A x.ro.cols.length x.c] 36))
                have hk1 := RdR.laid v1 x
                have hsx : Safe w (v1) x := Or.inl XIN0.out
                have HCW := Lib.hid hcw; have HK1 := Lib.hid hk1; have HSX := Lib.hid (hsx.on ((Below.refl _ _).alloc (Nat.le_refl _) (.cells #[.string x.ro.key, .string x.ro.live.s, .bool x.ro.live.d, .int .i64 x.ro.live.a, .int .i64 x.ro.live.e, .int .i64 x.ro.gone, .int .i64 x.ro.shade, .slice x.A x.ro.cols.length x.c] 36)))
                clear hcw hk1 hl8 hsx
                go_wp2_with (at_builtin; refine list_ex rfl (.tmp 78) (.tmp 80) _ _ rfl (.slice (some ⟨g5, 0, none⟩) m c0) (.slice (some ⟨(v1).heap.size, 0, none⟩) 1 1) rfl rfl (run_appR w.heap.size (HM.out ▸ HCW.out.cur.own) HK1.out ?s1 ?s2) ?_)
                case s1 => have h9 := HM.out; have h8 := MP.out.sum; (try simp at h9); (try simp); omega
                case s2 => simpa using HCW.out.below.size
                intro v3 w3 ho3 hg3 hloc3
                obtain ⟨A3, m3, c3, rfl, hm3, hc3⟩ := HCW.out.app (k := [x]) (fun y hy => by rw [List.mem_singleton.1 hy]; exact HSX.out) ho3 hg3
                have HC3 := Lib.hid (MP.out.app HP.out hc3)
                clear hc3 ho3 hg3 hloc3
                go_wp2
                go_roundw
                case rel => exact ⟨_, _, _, _, _, _, _, _, _, rfl, rfl, HC3.out⟩
                case measure => simp [lenS]; omega
end Go.Proofs.Ytafbbojfifcncaa
