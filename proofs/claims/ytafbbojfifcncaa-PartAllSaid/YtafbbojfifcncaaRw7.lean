/-
  The developers' Merge of columns.
-/
import Derived.Test.YtafbbojfifcncaaTkl
import Derived.Test.YtafbbojfifcncaaRw6
import Derived.Lib.SmallJoins
import Derived.Test.YtafbbojfifcncaaRoM
import Derived.Test.YtafbbojfifcncaaRoB
import Derived.Deep.DeepCutAuto
import Derived.Deep.CutBlock
set_option linter.unusedVariables false
set_option linter.unusedSimpArgs false
namespace Go.Proofs.Ytafbbojfifcncaa
open Go Go.RowKit

def lenS : Value → Nat
  | .slice _ n _ => n
  | _ => 0
theorem run_makeK (w : World) (n : Nat) (hn : n ≤ 1000000) :
    (Instr.makeSlice 34 (.int .i64 0) (.int .i64 (n : Nat))).run Try.prog w = .ok (.slice (some ⟨w.heap.size, 0, none⟩) 0 n) (w.alloc (.cells (madeCells #[.string ⟨#[]⟩, .string ⟨#[]⟩, .bool false, .int .i64 0, .int .i64 0] (n * 5)) 66)) := by
  obtain ⟨i, hi, hz0, hz1, hz2⟩ := info_parts infoK
  have h := run_make (P := Try.prog) w 34 66 i _ Try.underlying34 hi hz0 .i64 .i64 0 (n : Int) (by omega) (by omega) (by rw [hz2]; omega) (by omega)
  rw [hz1, Int.toNat_natCast] at h
  exact h
theorem cur_made (w : World) (n : Nat) (hn : n ≤ 1000000) : Cur w (w.alloc (.cells (madeCells #[.string ⟨#[]⟩, .string ⟨#[]⟩, .bool false, .int .i64 0, .int .i64 0] (n * 5)) 66)) (.slice (some ⟨w.heap.size, 0, none⟩) 0 n) [] :=
  ⟨World.ownsRow_made w _ n (Nat.le_refl _) (by unfold maxLen; omega) (size_madeCells _ _), (Below.refl w.heap.size w).alloc (Nat.le_refl _) _⟩
theorem kRow_put (L : Cols) (y x : ByteArray × Ce) :
    (((((kRow (L ++ [y])).set (L.length * 5) (.string x.1)).set (L.length * 5 + 1) (.string x.2.s)).set (L.length * 5 + 2) (.bool x.2.d)).set (L.length * 5 + 3) (.int .i64 x.2.a)).set (L.length * 5 + 4) (.int .i64 x.2.e) = kRow (L ++ [x]) := by
  have hl := kRow_length L
  rw [kRow_append, kRow_append]
  have e : ∀ (k : List Value) (i : Nat) (v : Value), (kRow L ++ k).set (L.length * 5 + i) v = kRow L ++ k.set i v := fun k i v => by
    rw [List.set_append_right _ _ (by omega)]
    congr 1
    rw [show L.length * 5 + i - (kRow L).length = i by omega]
  have e0 := e (kRow [y]) 0
  rw [Nat.add_zero] at e0
  rw [e0, e, e, e, e]
  simp [kRow, kcs]
theorem Cur.put {w0 w : World} {g m cap u : Nat} {L M : Cols} {y : ByteArray × Ce} (h : Cur w0 w (.slice (some ⟨g, 0, none⟩) m cap) M) (hM : M = L ++ [y]) (hu : L.length = u) (m' : ByteArray) (s' : ByteArray) (d' : Bool) (a' e' : Int) :
    Cur w0 (((((w.setCell ⟨g, u * 5, none⟩ (.string m')).setCell ⟨g, u * 5 + 1, none⟩ (.string s')).setCell ⟨g, u * 5 + 2, none⟩ (.bool d')).setCell ⟨g, u * 5 + 3, none⟩ (.int .i64 a')).setCell ⟨g, u * 5 + 4, none⟩ (.int .i64 e')) (.slice (some ⟨g, 0, none⟩) m cap) (L ++ [(m', ⟨s', d', a', e'⟩)]) := by
  subst hM
  have hm : m = (L ++ [y]).length := by
    obtain ⟨A, c, e, _⟩ := own_slice h.own
    injection e
  subst hm
  subst hu
  have h0 := h.own
  have h1 := (h0.stored (L.length * 5) (.string m')).1
  have h2 := (h1.stored (L.length * 5 + 1) (.string s')).1
  have h3 := (h2.stored (L.length * 5 + 2) (.bool d')).1
  have h4 := (h3.stored (L.length * 5 + 3) (.int .i64 a')).1
  have h5 := (h4.stored (L.length * 5 + 4) (.int .i64 e')).1
  rw [show _ = _ from kRow_put L y (m', ⟨s', d', a', e'⟩)] at h5
  have hg := (h0.lt g rfl).1
  refine ⟨?_, ((((h.below.setCell hg _).setCell hg _).setCell hg _).setCell hg _).setCell hg _⟩
  have e : (L ++ [(m', (⟨s', d', a', e'⟩ : Ce))]).length = (L ++ [y]).length := by simp
  rw [e]
  exact h5
theorem Cur.appN {w0 w w' : World} {v v' : Value} {C k : Cols} {N : Nat} (h : Cur w0 w v C) (ho : w'.ownsRow w0.heap.size 66 5 v' N (kRow (C ++ k))) (hg : w.grownBy w' v.ownBlock) : ∃ A m c, v' = .slice A m c ∧ Cur w0 w' (.slice A m c) (C ++ k) := by
  have hN : N = (C ++ k).length := by have := ho.1; rw [kRow_length] at this; omega
  subst hN
  obtain ⟨A, c, rfl, _⟩ := own_slice ho
  exact ⟨A, _, c, rfl, ho, grown_ownN h.below (Nat.le_refl _) h.own hg⟩
theorem Cur.last {w0 w : World} {A : Option Addr} {m c : Nat} {L M : Cols} {y : ByteArray × Ce} (h : Cur w0 w (.slice A m c) M) (hM : M = L ++ [y]) : ∃ g, A = some ⟨g, 0, none⟩ ∧ w0.heap.size ≤ g ∧ g < w.heap.size ∧ (w.cell? ⟨g, (L.length * 5), none⟩ = some (.string y.1) ∧ w.cell? ⟨g, (L.length * 5) + 1, none⟩ = some (.string y.2.s) ∧ w.cell? ⟨g, (L.length * 5) + 2, none⟩ = some (.bool y.2.d) ∧ w.cell? ⟨g, (L.length * 5) + 3, none⟩ = some (.int .i64 y.2.a) ∧ w.cell? ⟨g, (L.length * 5) + 4, none⟩ = some (.int .i64 y.2.e)) ∧ ∀ i, w.frozen? ⟨g, i, none⟩ = false := by
  subst hM
  have hown := h.own
  rcases h.own.2 with ⟨_, e⟩ | ⟨g, cap, cur, e, hb, hh, hn, hm, hs, ht⟩
  · simp at e
  · injection e with e1 e2 e3
    subst e1; subst e2; subst e3
    have hl : L.length < (L ++ [y]).length := by simp
    have hy : (L ++ [y])[L.length]'hl = y := by simp
    have key : ∀ i (hi : i < 5) u, (kcs y)[i]? = some u → w.cell? ⟨g, L.length * 5 + i, none⟩ = some u := fun i hi u hu => by
      have := hown.cells (g := g) rfl (L.length * 5 + i) u (by rw [kRow_at _ _ _ hl hi, hy]; exact hu)
      rw [Addr.add_lit, Nat.zero_add] at this
      exact this
    exact ⟨g, rfl, hb, (Array.getElem?_eq_some_iff.1 hh).1, ⟨key 0 (by omega) _ rfl, key 1 (by omega) _ rfl, key 2 (by omega) _ rfl, key 3 (by omega) _ rfl, key 4 (by omega) _ rfl⟩, fun i => hown.frozenAt i⟩

set_option maxHeartbeats 16000000 in
theorem merge_any (A A' : Option Addr) (n n' c c' B B' : Nat) (l k : Cols) (w : World) (h : RdK w B A n l) (h' : RdK w B' A' n' k) (hB : B ≤ w.heap.size) (hB' : B' ≤ w.heap.size) (hc : n ≤ c) (hc' : n' ≤ c') (hn : n + n' ≤ 1000) :
    Calls Try.prog 56 #[.slice A n c, .slice A' n' c', .func (.func 57) #[] #[], .func (.func 58) #[] #[]] w fun e w' => ∃ v, e = .returned v ∧ Cur w w' v (runC [] l k) := by
  obtain ⟨R, hR⟩ : ∃ R, runC [] l k = R := ⟨_, rfl⟩
  rw [hR]
  have hadd : IntKind.i64.wrap ((n : Int) + (n' : Int)) = ((n + n' : Nat) : Int) := by rw [IntKind.wrap_i64]; push_cast; omega
  have hadd2 : wrap64 ((n : Int) + (n' : Int)) = ((n + n' : Nat) : Int) := by unfold wrap64; push_cast; omega
  have hmk := fun wx : World => run_makeK wx (n + n') (by omega)
  have hcm := cur_made w (n + n') (by omega)
  have HR := Lib.hid hR; have HA := Lib.hid h; have HA' := Lib.hid h'; have HCM := Lib.hid hcm; have HN := Lib.hid hn; have HC := Lib.hid hc; have HC' := Lib.hid hc'
  obtain ⟨N, hN⟩ : ∃ N, N = n + n' := ⟨_, rfl⟩
  rw [← hN] at hadd hadd2 hmk HCM
  have HNN := Lib.hid hN
  clear hR h h' hcm hn hc hc' hN
  go_enter Try.func56, Try.ntmps56
  go_wp2
  obtain ⟨W1, hW1⟩ : ∃ W1, W1 = w.alloc (.cells (madeCells #[.string ⟨#[]⟩, .string ⟨#[]⟩, .bool false, .int .i64 0, .int .i64 0] (N * 5)) 66) := ⟨_, rfl⟩
  rw [← hW1] at HCM ⊢
  clear hW1 hmk hadd hadd2
  go_loopw [0, 1, 9] (fun va vb vm wr => ∃ (A1 A2 : Option Addr) (n1 n2 c1 c2 : Nat) (la lb M : Cols), va = .slice A1 n1 c1 ∧ vb = .slice A2 n2 c2 ∧ RdK w B A1 n1 la ∧ RdK w B' A2 n2 lb ∧ n1 ≤ c1 ∧ n2 ≤ c2 ∧ M.length + (n1 + n2) ≤ 1000 ∧ runC M la lb = R ∧ Cur w wr vm M) (fun va vb _ _ => lenS va + lenS vb)
  case atStart => exact ⟨A, A', n, n', c, c', l, k, [], rfl, rfl, HA.out, HA'.out, HC.out, HC'.out, by have := HN.out; simpa using this, HR.out, HCM.out⟩
  case round =>
    obtain ⟨A1, A2, n1, n2, c1, c2, la, lb, M, rfl, rfl, r1, r2, hc1, hc2, hsum, hrun, hcur⟩ := hrel
    obtain ⟨A0, c0, rfl, _⟩ := hcur.slice
    obtain ⟨m, hm⟩ : ∃ m, M.length = m := ⟨_, rfl⟩
    rw [hm] at hsum ⊢
    have HM := Lib.hid hm
    clear hm
    have l1 := r1.1
    have l2 := r2.1
    have W1_ := Lib.hid (show IntKind.i64.wrap ((n1 : Int) + (n2 : Int)) = (n1 : Int) + n2 by rw [IntKind.wrap_i64]; omega)
    have W2_ := Lib.hid (show wrap64 ((n1 : Int) + (n2 : Int)) = (n1 : Int) + n2 by unfold wrap64; omega)
    have HSUM := Lib.hid hsum; have HRUN := Lib.hid hrun; have HCUR := Lib.hid hcur; have R1 := Lib.hid r1; have R2 := Lib.hid r2; have L1 := Lib.hid l1; have L2 := Lib.hid l2
    have hws := hcur.below.size
    clear hrun hcur r1 r2 l1 l2
    by_cases h0 : n1 + n2 = 0
    · have d0 : decide ((0 : Int) < (n1 : Int) + (n2 : Int)) = false := by simp; omega
      have d1 : decide (0 < n1 + n2) = false := by simp; omega
      have d2 : decide ((0 : Int) < ((n1 + n2 : Nat) : Int)) = false := by simp; omega
      have d3 : ¬ (0 < n1 + n2) := by omega
      have d4 : ¬ ((0 : Int) < (n1 : Int) + (n2 : Int)) := by omega
      have hf : M = R := by
        have e1 : la = [] := List.eq_nil_of_length_eq_zero (by rw [L1.out]; omega)
        have e2 : lb = [] := List.eq_nil_of_length_eq_zero (by rw [L2.out]; omega)
        rw [← HRUN.out, e1, e2, runC_nil]
      have HF := Lib.hid hf
      have w1 := W1_.out
      have w2 := W2_.out
      clear hf h0
      go_wp2
      go_ret
      refine ⟨_, rfl, ?_⟩
      rw [← HF.out, ← HM.out]
      exact HCUR.out
    · have d0 : decide ((0 : Int) < (n1 : Int) + (n2 : Int)) = true := by simp; omega
      have d1 : decide (0 < n1 + n2) = true := by simp; omega
      have d2 : decide ((0 : Int) < ((n1 + n2 : Nat) : Int)) = true := by simp; omega
      have d3 : 0 < n1 + n2 := by omega
      have d4 : (0 : Int) < (n1 : Int) + (n2 : Int) := by omega
      have hz := heap_alloc_new wr (.cells #[.string ⟨#[]⟩, .string ⟨#[]⟩, .bool false, .int .i64 0, .int .i64 0] 66)
      have ha := (Below.refl wr.heap.size wr).alloc (Nat.le_refl _) (.cells #[.string ⟨#[]⟩, .string ⟨#[]⟩, .bool false, .int .i64 0, .int .i64 0] 66)
      have HZ := Lib.hid hz; have HAL := Lib.hid ha; have H0 := Lib.hid h0; have HWS := Lib.hid hws
      clear hz ha h0 hws
      obtain ⟨U, hU⟩ : ∃ U, U = wr.alloc (.cells #[.string ⟨#[]⟩, .string ⟨#[]⟩, .bool false, .int .i64 0, .int .i64 0] 66) := ⟨_, rfl⟩
      have hUs : U.heap.size = wr.heap.size + 1 := by rw [hU]; simp
      have HUS := Lib.hid hUs
      rw [← hU] at HZ HAL
      clear hUs
      by_cases e2 : n2 = 0
      · have hpos : 0 < n1 := by omega
        obtain ⟨x, la', hla⟩ : ∃ x la', la = x :: la' := by
          match la, L1.out with
          | [], h => simp at h; omega
          | x :: la', _ => exact ⟨x, la', rfl⟩
        have hlb : lb = [] := List.eq_nil_of_length_eq_zero (by rw [L2.out]; exact e2)
        have hrun2 : runC (pushC M x) la' lb = R := by rw [← HRUN.out, hla, hlb, runC_a]
        have q1 : ((n2 : Int) == 0) = true := by rw [beq_iff_eq]; omega
        have q2 : (n2 == 0) = true := by rw [beq_iff_eq]; omega
        have d0 : decide ((0 : Int) < (n1 : Int) + (n2 : Int)) = true := by simp; omega
        have d1 : decide (0 < n1 + n2) = true := by simp; omega
        have i1 : (0 : Int) < n1 := by omega
        obtain ⟨A1', hsl, r1'⟩ := slK_l R1.out hc1 (1 : Int) 1 rfl (by omega)
        rw [hla] at r1'
        obtain ⟨g1, o1, rfl, hgB, hcc⟩ := (R1.out.below (HCUR.out.below.mono hB)).2 hpos
        have hc0 := hcc 0 (by rw [hla]; simp)
        obtain ⟨xm, ⟨xs, xd, xa, xe⟩⟩ := x
        have hx0 : la[0]'(by rw [hla]; simp) = (xm, ⟨xs, xd, xa, xe⟩) := by simp [hla]
        rw [hx0] at hc0
        simp only [Nat.zero_mul, Nat.add_zero] at hc0
        obtain ⟨e0, e1, e2', e3, e4⟩ := hc0
        have hgw : g1 < wr.heap.size := by have := HWS.out; omega
        have hall : ∀ w', Below U.heap.size U w' → w'.cell? ⟨g1, o1, none⟩ = some (.string xm) ∧ w'.cell? ⟨g1, o1 + 1, none⟩ = some (.string xs) ∧ w'.cell? ⟨g1, o1 + 2, none⟩ = some (.bool xd) ∧ w'.cell? ⟨g1, o1 + 3, none⟩ = some (.int .i64 xa) ∧ w'.cell? ⟨g1, o1 + 4, none⟩ = some (.int .i64 xe) := fun w' hb => by
          have hb2 : Below wr.heap.size wr w' := HAL.out.trans (hb.mono (by have := HUS.out; omega))
          exact ⟨(hb2.cell (p := ⟨g1, _, none⟩) hgw).trans e0, (hb2.cell (p := ⟨g1, _, none⟩) hgw).trans e1, (hb2.cell (p := ⟨g1, _, none⟩) hgw).trans e2', (hb2.cell (p := ⟨g1, _, none⟩) hgw).trans e3, (hb2.cell (p := ⟨g1, _, none⟩) hgw).trans e4⟩
        have HALL := Lib.hid hall; have HRUN2 := Lib.hid hrun2; have RA := Lib.hid r1'
        have RB := R2
        have HSUM2 := Lib.hid (show (pushC M (xm, ⟨xs, xd, xa, xe⟩)).length + (n1 - 1 + n2) ≤ 1000 by have := pushC_length M (xm, ⟨xs, xd, xa, xe⟩); have := HM.out; omega)
        have w1 := W1_.out
        have w2 := W2_.out
        clear hla hlb hrun2 r1' hcc e0 e1 e2' e3 e4 hx0 hall e2
        go_wp2_with fail
        rw [← hU]
        clear hU
        refine wp_region_held_drew (S := fun w' => Below U.heap.size U w') (by kernel_rfl) ?_ (fun hHeld => ?_)
        · exact (Below.refl _ _).drew
        refine takesH [0, 1, 2, 3, 4, 5, 6, 7, 8, 9, 10, 11, 12, 13, 14, 15, 16, 17, 18] ?_
        repeat
          refine takesH_one (v := ?_) ?_ ?_
          rotate_left
          · first | (refine Or.inr ⟨by rfl, ?_⟩; with_reducible rfl) | (refine Or.inl ⟨by rfl, ?_⟩; intro wx hSw; (try dsimp only at hSw); first | (go_simp; first | done | with_reducible rfl))
          try simp only [Act.put, List.getElem_toArray, List.getElem_cons_succ, List.getElem_cons_zero, List.setIfInBounds_toArray, List.set_cons_zero, List.set_cons_succ]
        refine takesH_nil ?_
        refine wpAnyH_done (by kernel_rfl) ?_ _
        clear w1 w2
        have hlow : Below U.heap.size U U := (Below.refl _ _)
        obtain ⟨_, _, _, _, _⟩ := HALL.out _ hlow
        have hq := (hlow.block wr.heap.size (by have := HUS.out; omega)).trans HZ.out
        have z0 := cell_at (i := 0) hq rfl
        have z1 := cell_at (i := 1) hq rfl
        have z2 := cell_at (i := 2) hq rfl
        have z3 := cell_at (i := 3) hq rfl
        have z4 := cell_at (i := 4) hq rfl
        have y0 := thawed_at (i := 0) hq
        have y1 := thawed_at (i := 1) hq
        have y2 := thawed_at (i := 2) hq
        have y3 := thawed_at (i := 3) hq
        have y4 := thawed_at (i := 4) hq
        have hq4 := Joins.block_setCell (i := 4) (Joins.block_setCell (i := 3) (Joins.block_setCell (i := 2) (Joins.block_setCell (i := 1) (Joins.block_setCell (i := 0) hq (.string xm)) (.string xs)) (.bool xd)) (.int .i64 xa)) (.int .i64 xe)
        have hle : wr.heap.size ≤ wr.heap.size := Nat.le_refl _
        have hb4 := (((((HAL.out.trans (hlow.mono (by have := HUS.out; omega))).setCell (p := ⟨wr.heap.size, 0, none⟩) hle (.string xm)).setCell (p := ⟨wr.heap.size, 1, none⟩) hle (.string xs)).setCell (p := ⟨wr.heap.size, 2, none⟩) hle (.bool xd)).setCell (p := ⟨wr.heap.size, 3, none⟩) hle (.int .i64 xa)).setCell (p := ⟨wr.heap.size, 4, none⟩) hle (.int .i64 xe)
        have HQ4_ := Lib.hid hq4; have HB4_ := Lib.hid hb4
        clear hq hq4 hb4 hle
        go_wp2_with fail
        go_region
        obtain ⟨w4, hw4⟩ : ∃ w4, w4 = (((((World.setCell U ⟨wr.heap.size, 0, none⟩ (.string xm)).setCell ⟨wr.heap.size, 1, none⟩ (.string xs)).setCell ⟨wr.heap.size, 2, none⟩ (.bool xd)).setCell ⟨wr.heap.size, 3, none⟩ (.int .i64 xa)).setCell ⟨wr.heap.size, 4, none⟩ (.int .i64 xe)).drew.drew := ⟨_, rfl⟩
        rw [← hw4]
        have HQ4 : Hid (w4.heap[wr.heap.size]? = some (.cells #[.string xm, .string xs, .bool xd, .int .i64 xa, .int .i64 xe] 66 (0, 0))) := Lib.hid (by rw [hw4]; exact HQ4_.out)
        have HB4 : Hid (Below wr.heap.size wr w4) := Lib.hid (by rw [hw4]; first | exact HB4_.out.drew.drew | exact HB4_.out.drew)
        clear hw4 HQ4_ HB4_ z0 z1 z2 z3 z4 y0 y1 y2 y3 y4
        have hcv := HCUR.out.on HB4.out
        rw [HM.out] at hcv
        have HCV := Lib.hid hcv
        have HS4 := Lib.hid HB4.out.size
        clear hcv
        rcases List.eq_nil_or_concat M with hM | ⟨L, ⟨ym, ⟨ys, yd, ya, ye⟩⟩, hM⟩
        · have hp : pushC M (xm, ⟨xs, xd, xa, xe⟩) = M ++ [(xm, ⟨xs, xd, xa, xe⟩)] := by rw [hM]; rfl
          have hm0 : m = 0 := by rw [← HM.out, hM]; rfl
          have S1 := Lib.hid (show IntKind.i64.wrap ((m : Int) - 1) = -1 by rw [IntKind.wrap_i64]; omega)
          have S2 := Lib.hid (show wrap64 ((m : Int) - 1) = -1 by unfold wrap64; omega)
          have HP := Lib.hid hp
          have hall4 : ∀ w', Below w4.heap.size w4 w' → w'.cell? ⟨wr.heap.size, 0, none⟩ = some (.string xm) ∧ w'.cell? ⟨wr.heap.size, 0 + 1, none⟩ = some (.string xs) ∧ w'.cell? ⟨wr.heap.size, 0 + 2, none⟩ = some (.bool xd) ∧ w'.cell? ⟨wr.heap.size, 0 + 3, none⟩ = some (.int .i64 xa) ∧ w'.cell? ⟨wr.heap.size, 0 + 4, none⟩ = some (.int .i64 xe) := fun w' hb => by
            have hq := (hb.block wr.heap.size (Array.getElem?_eq_some_iff.1 HQ4.out).1).trans HQ4.out
            exact ⟨cell_at hq rfl, cell_at hq rfl, cell_at hq rfl, cell_at hq rfl, cell_at hq rfl⟩
          have HALL4 := Lib.hid hall4
          have s1 := S1.out
          have s2 := S2.out
          clear hm0 hM hp hall4
          go_wp2_with fail
          refine wp_region_held_drew (S := fun w' => Below w4.heap.size w4 w') (by kernel_rfl) ?_ (fun hHeld => ?_)
          · exact (Below.refl _ _).drew
          refine takesH [0, 1, 2, 3, 4, 5, 6, 7, 8, 9, 10, 11] ?_
          repeat
            refine takesH_one (v := ?_) ?_ ?_
            rotate_left
            · first | (refine Or.inr ⟨by rfl, ?_⟩; with_reducible rfl) | (refine Or.inl ⟨by rfl, ?_⟩; intro wx hSw; (try dsimp only at hSw); first | (go_simp; first | done | with_reducible rfl))
            try simp only [Act.put, List.getElem_toArray, List.getElem_cons_succ, List.getElem_cons_zero, List.setIfInBounds_toArray, List.set_cons_zero, List.set_cons_succ]
          refine takesH_nil ?_
          refine wpAnyH_done (by kernel_rfl) ?_ _
          have hl8 : Below w4.heap.size w4 w4.drew := (Below.refl _ _).drew
          generalize w4.drew = w8 at hl8 ⊢
          obtain ⟨_, _, _, _, _⟩ := HALL4.out _ hl8
          clear s1 s2
          have hcw := (HCV.out.on hl8).on ((Below.refl _ _).alloc (Nat.le_refl _) (.cells #[.string xm, .string xs, .bool xd, .int .i64 xa, .int .i64 xe] 66))
          have hk1 := RdK.one w8 (xm, ⟨xs, xd, xa, xe⟩) (w8).heap.size rfl
          have HCW := Lib.hid hcw; have HK1 := Lib.hid hk1
          clear hcw hk1 hl8
          go_wp2_with (at_builtin; refine list_ex rfl (.tmp 78) (.tmp 80) _ _ rfl (.slice A0 m c0) (.slice (some ⟨(w8).heap.size, 0, none⟩) 1 1) rfl rfl (run_appK w.heap.size HCW.out.own HK1.out ?s1 ?s2) ?_)
          case s1 => have h9 := HM.out; (try simp at h9); (try simp); omega
          case s2 => simpa using HCW.out.below.size
          intro v3 w3 ho3 hg3 hloc3
          obtain ⟨A3, m3, c3, rfl, hc3⟩ := HCW.out.appN ho3 hg3
          have HC3 := Lib.hid hc3
          clear hc3 ho3 hg3 hloc3
          go_wp2
          go_roundw
          case rel => exact ⟨_, _, _, _, _, _, _, _, _, rfl, rfl, RA.out, RB.out, by omega, by omega, HSUM2.out, HRUN2.out, by rw [HP.out]; exact HC3.out⟩
          case measure => simp [lenS]; omega
        · rw [List.concat_eq_append] at hM
          have HMM := Lib.hid hM
          clear hM
          obtain ⟨u, hu⟩ : ∃ u, L.length = u := ⟨_, rfl⟩
          have hm1 : m = u + 1 := by rw [← HM.out, HMM.out, ← hu]; simp
          have S1 := Lib.hid (show IntKind.i64.wrap ((m : Int) - 1) = (u : Int) by rw [IntKind.wrap_i64]; omega)
          have S2 := Lib.hid (show wrap64 ((m : Int) - 1) = (u : Int) by unfold wrap64; omega)
          obtain ⟨g5, rfl, hg5, hg5', hy5, hf5⟩ := HCV.out.last HMM.out
          rw [hu] at hy5
          have hall4 : ∀ w', Below w4.heap.size w4 w' → (w'.cell? ⟨g5, u * 5, none⟩ = some (.string ym) ∧ w'.cell? ⟨g5, u * 5 + 1, none⟩ = some (.string ys) ∧ w'.cell? ⟨g5, u * 5 + 2, none⟩ = some (.bool yd) ∧ w'.cell? ⟨g5, u * 5 + 3, none⟩ = some (.int .i64 ya) ∧ w'.cell? ⟨g5, u * 5 + 4, none⟩ = some (.int .i64 ye)) ∧ w'.cell? ⟨wr.heap.size, 0, none⟩ = some (.string xm) ∧ w'.cell? ⟨wr.heap.size, 0 + 1, none⟩ = some (.string xs) ∧ w'.cell? ⟨wr.heap.size, 0 + 2, none⟩ = some (.bool xd) ∧ w'.cell? ⟨wr.heap.size, 0 + 3, none⟩ = some (.int .i64 xa) ∧ w'.cell? ⟨wr.heap.size, 0 + 4, none⟩ = some (.int .i64 xe) := fun w' hb => by
            have hq := (hb.block wr.heap.size (Array.getElem?_eq_some_iff.1 HQ4.out).1).trans HQ4.out
            obtain ⟨a0, a1, a2, a3, a4⟩ := hy5
            exact ⟨⟨(hb.cell (p := ⟨g5, _, none⟩) hg5').trans a0, (hb.cell (p := ⟨g5, _, none⟩) hg5').trans a1, (hb.cell (p := ⟨g5, _, none⟩) hg5').trans a2, (hb.cell (p := ⟨g5, _, none⟩) hg5').trans a3, (hb.cell (p := ⟨g5, _, none⟩) hg5').trans a4⟩, cell_at hq rfl, cell_at hq rfl, cell_at hq rfl, cell_at hq rfl, cell_at hq rfl⟩
          have HALL4 := Lib.hid hall4
          have i5 : (u : Int) < m := by omega
          have i6 : (0 : Int) ≤ u := by omega
          have i7 : decide ((0 : Int) ≤ (u : Int)) = true := by simp
          have HU := Lib.hid hu; have HM1 := Lib.hid hm1
          clear hall4 hu hm1 hy5 hf5
          by_cases hn : ym = xm
          · have t0 : (tcmp ym xm == 0) = true := by rw [beq_iff_eq]; exact tcmp_zero.2 hn
            have hp : pushC M (xm, ⟨xs, xd, xa, xe⟩) = L ++ [(ym, Ce.join ⟨ys, yd, ya, ye⟩ ⟨xs, xd, xa, xe⟩)] := by rw [HMM.out, pushC_last]; exact if_pos hn
            have HP := Lib.hid hp
            have s1 := S1.out
            have s2 := S2.out
            clear hp hn
            go_wp2_with fail
            refine wp_region_held_drew (S := fun w' => Below w4.heap.size w4 w') (by kernel_rfl) ?_ (fun hHeld => ?_)
            · exact (Below.refl _ _).drew
            refine takesH [0, 1, 2, 3, 4, 5, 6, 7, 8] ?_
            repeat
              refine takesH_one (v := ?_) ?_ ?_
              rotate_left
              · first | (refine Or.inr ⟨by rfl, ?_⟩; with_reducible rfl) | (refine Or.inl ⟨by rfl, ?_⟩; intro wx hSw; (try dsimp only at hSw); first | (go_simp; first | done | with_reducible rfl) | (obtain ⟨⟨_, _, _, _, _⟩, _, _, _, _, _⟩ := HALL4.out _ hSw; go_simp; first | done | with_reducible rfl))
              try simp only [Act.put, List.getElem_toArray, List.getElem_cons_succ, List.getElem_cons_zero, List.setIfInBounds_toArray, List.set_cons_zero, List.set_cons_succ]
            refine takesH_nil ?_
            refine wpAnyH_ready (rs := [9]) (by kernel_rfl) (by simp) (AllReadyH.cons rfl (fun K hK => ?_) AllReadyH.nil)
            go_simp
            refine (byname_any _ _ _ _ _ _ _ _ _ _ _).mono ?_
            rintro x v1 ⟨rfl, b1⟩
            try go_wp2_with fail
            refine hK.out _ _ ?_ (fun hHeld => ?_)
            · exact next (by assumption) b1
            clear hK K
            try simp only [Act.put, List.getElem_toArray, List.getElem_cons_succ, List.getElem_cons_zero, List.setIfInBounds_toArray, List.set_cons_zero, List.set_cons_succ]
            refine takesH [10, 11] ?_
            repeat
              refine takesH_one (v := ?_) ?_ ?_
              rotate_left
              · first | (refine Or.inr ⟨by rfl, ?_⟩; with_reducible rfl) | (refine Or.inl ⟨by rfl, ?_⟩; intro wx hSw; (try dsimp only at hSw); first | (go_simp; first | done | with_reducible rfl))
              try simp only [Act.put, List.getElem_toArray, List.getElem_cons_succ, List.getElem_cons_zero, List.setIfInBounds_toArray, List.set_cons_zero, List.set_cons_succ]
            refine takesH_nil ?_
            refine wpAnyH_done (by kernel_rfl) ?_ _
            obtain ⟨⟨_, _, _, _, _⟩, _, _, _, _, _⟩ := HALL4.out _ hHeld
            clear s1 s2
            have HH := Lib.hid hHeld
            clear hHeld
            go_wp2_with fail
            go_region_with (first
              | (go_at_call 58; refine (joincols_any _ _ _ _ _ _ _ _ _ _ _).mono ?_; rintro x v5 ⟨js, jd, ja, je, hje, rfl, b5⟩
                 have b5' := next HH.out (next (w := v1) (by first | exact (Below.refl _ _).drew | exact below_draws _ _ _ | exact Below.refl _ _) b5)
                 obtain ⟨⟨_, _, _, _, _⟩, _, _, _, _, _⟩ := HALL4.out _ b5'
                 have hcl := HCV.out.on b5'
                 obtain ⟨g6, e6, _, _, _, hfz⟩ := hcl.last HMM.out
                 cases e6
                 have f0 := hfz (u * 5)
                 have f1 := hfz (u * 5 + 1)
                 have f2 := hfz (u * 5 + 2)
                 have f3 := hfz (u * 5 + 3)
                 have f4 := hfz (u * 5 + 4)
                 have HCL := Lib.hid hcl
                 have HJE := Lib.hid hje
                 clear hcl hfz hje))
            all_goals
              have hput := HCL.out.put HMM.out HU.out ym js jd ja je
              rw [← HJE.out] at hput
              generalize hw6 : (((((v5.setCell ⟨g5, u * 5, none⟩ (.string ym)).setCell ⟨g5, u * 5 + 1, none⟩ (.string js)).setCell ⟨g5, u * 5 + 2, none⟩ (.bool jd)).setCell ⟨g5, u * 5 + 3, none⟩ (.int .i64 ja)).setCell ⟨g5, u * 5 + 4, none⟩ (.int .i64 je)) = w6 at hput ⊢
              have HPUT := Lib.hid hput
              clear hput f0 f1 f2 f3 f4 b5 b5' hw6
              go_wp2
              go_roundw
              case rel => exact ⟨_, _, _, _, _, _, _, _, _, rfl, rfl, RA.out, RB.out, by omega, by omega, HSUM2.out, HRUN2.out, by rw [HP.out]; exact HPUT.out⟩
              case measure => simp [lenS]; omega
          · have t0 : (tcmp ym xm == 0) = false := by rw [beq_eq_false_iff_ne]; exact fun h => hn (tcmp_zero.1 h)
            have hp : pushC M (xm, ⟨xs, xd, xa, xe⟩) = M ++ [(xm, ⟨xs, xd, xa, xe⟩)] := by rw [HMM.out, pushC_last]; exact if_neg hn
            have HP := Lib.hid hp
            have s1 := S1.out
            have s2 := S2.out
            clear hp hn
            go_wp2_with fail
            refine wp_region_held_drew (S := fun w' => Below w4.heap.size w4 w') (by kernel_rfl) ?_ (fun hHeld => ?_)
            · exact (Below.refl _ _).drew
            refine takesH [0, 1, 2, 3, 4, 5, 6, 7, 8] ?_
            repeat
              refine takesH_one (v := ?_) ?_ ?_
              rotate_left
              · first | (refine Or.inr ⟨by rfl, ?_⟩; with_reducible rfl) | (refine Or.inl ⟨by rfl, ?_⟩; intro wx hSw; (try dsimp only at hSw); first | (go_simp; first | done | with_reducible rfl) | (obtain ⟨⟨_, _, _, _, _⟩, _, _, _, _, _⟩ := HALL4.out _ hSw; go_simp; first | done | with_reducible rfl))
              try simp only [Act.put, List.getElem_toArray, List.getElem_cons_succ, List.getElem_cons_zero, List.setIfInBounds_toArray, List.set_cons_zero, List.set_cons_succ]
            refine takesH_nil ?_
            refine wpAnyH_ready (rs := [9]) (by kernel_rfl) (by simp) (AllReadyH.cons rfl (fun K hK => ?_) AllReadyH.nil)
            go_simp
            refine (byname_any _ _ _ _ _ _ _ _ _ _ _).mono ?_
            rintro x v1 ⟨rfl, b1⟩
            try go_wp2_with fail
            refine hK.out _ _ ?_ (fun hHeld => ?_)
            · exact next (by assumption) b1
            clear hK K
            try simp only [Act.put, List.getElem_toArray, List.getElem_cons_succ, List.getElem_cons_zero, List.setIfInBounds_toArray, List.set_cons_zero, List.set_cons_succ]
            refine takesH [10, 11] ?_
            repeat
              refine takesH_one (v := ?_) ?_ ?_
              rotate_left
              · first | (refine Or.inr ⟨by rfl, ?_⟩; with_reducible rfl) | (refine Or.inl ⟨by rfl, ?_⟩; intro wx hSw; (try dsimp only at hSw); first | (go_simp; first | done | with_reducible rfl))
              try simp only [Act.put, List.getElem_toArray, List.getElem_cons_succ, List.getElem_cons_zero, List.setIfInBounds_toArray, List.set_cons_zero, List.set_cons_succ]
            refine takesH_nil ?_
            refine wpAnyH_done (by kernel_rfl) ?_ _
            have hl8 := hHeld
            obtain ⟨⟨_, _, _, _, _⟩, _, _, _, _, _⟩ := HALL4.out _ hHeld
            clear s1 s2
            have hcw := (HCV.out.on hl8).on ((Below.refl _ _).alloc (Nat.le_refl _) (.cells #[.string xm, .string xs, .bool xd, .int .i64 xa, .int .i64 xe] 66))
            have hk1 := RdK.one v1 (xm, ⟨xs, xd, xa, xe⟩) (v1).heap.size rfl
            have HCW := Lib.hid hcw; have HK1 := Lib.hid hk1
            clear hcw hk1 hl8
            go_wp2_with (at_builtin; refine list_ex rfl (.tmp 78) (.tmp 80) _ _ rfl (.slice (some ⟨g5, 0, none⟩) m c0) (.slice (some ⟨(v1).heap.size, 0, none⟩) 1 1) rfl rfl (run_appK w.heap.size HCW.out.own HK1.out ?s1 ?s2) ?_)
            case s1 => have h9 := HM.out; (try simp at h9); (try simp); omega
            case s2 => simpa using HCW.out.below.size
            intro v3 w3 ho3 hg3 hloc3
            obtain ⟨A3, m3, c3, rfl, hc3⟩ := HCW.out.appN ho3 hg3
            have HC3 := Lib.hid hc3
            clear hc3 ho3 hg3 hloc3
            go_wp2
            go_roundw
            case rel => exact ⟨_, _, _, _, _, _, _, _, _, rfl, rfl, RA.out, RB.out, by omega, by omega, HSUM2.out, HRUN2.out, by rw [HP.out]; exact HC3.out⟩
            case measure => simp [lenS]; omega
      · have hpos2 : 0 < n2 := by omega
        have q1 : ((n2 : Int) == 0) = false := by rw [beq_eq_false_iff_ne]; omega
        have q2 : (n2 == 0) = false := by rw [beq_eq_false_iff_ne]; omega
        have d0 : decide ((0 : Int) < (n1 : Int) + (n2 : Int)) = true := by simp; omega
        have d1 : decide (0 < n1 + n2) = true := by simp; omega
        obtain ⟨y, lb', hlb⟩ : ∃ y lb', lb = y :: lb' := by
          match lb, L2.out with
          | [], h => simp at h; omega
          | y :: lb', _ => exact ⟨y, lb', rfl⟩
        obtain ⟨A2', hsl2, r2'⟩ := slK_l R2.out hc2 (1 : Int) 1 rfl (by omega)
        rw [hlb] at r2'
        obtain ⟨g2, o2, rfl, hgB2, hcc2⟩ := (R2.out.below (HCUR.out.below.mono hB')).2 hpos2
        have hc02 := hcc2 0 (by rw [hlb]; simp)
        have hy0 : lb[0]'(by rw [hlb]; simp) = y := by simp [hlb]
        rw [hy0] at hc02
        simp only [Nat.zero_mul, Nat.add_zero] at hc02
        have hgw2 : g2 < wr.heap.size := by have := HWS.out; omega
        have i2 : (0 : Int) < n2 := by omega
        by_cases e1 : n1 = 0
        · have hla : la = [] := List.eq_nil_of_length_eq_zero (by rw [L1.out]; exact e1)
          have hrun2 : runC (pushC M y) la lb' = R := by rw [← HRUN.out, hlb, hla, runC_b]
          obtain ⟨xm, ⟨xs, xd, xa, xe⟩⟩ := y
          obtain ⟨e0, e1', e2', e3, e4⟩ := hc02
          have hall : ∀ w', Below U.heap.size U w' → w'.cell? ⟨g2, o2, none⟩ = some (.string xm) ∧ w'.cell? ⟨g2, o2 + 1, none⟩ = some (.string xs) ∧ w'.cell? ⟨g2, o2 + 2, none⟩ = some (.bool xd) ∧ w'.cell? ⟨g2, o2 + 3, none⟩ = some (.int .i64 xa) ∧ w'.cell? ⟨g2, o2 + 4, none⟩ = some (.int .i64 xe) := fun w' hb => by
            have hb2 : Below wr.heap.size wr w' := HAL.out.trans (hb.mono (by have := HUS.out; omega))
            exact ⟨(hb2.cell (p := ⟨g2, _, none⟩) hgw2).trans e0, (hb2.cell (p := ⟨g2, _, none⟩) hgw2).trans e1', (hb2.cell (p := ⟨g2, _, none⟩) hgw2).trans e2', (hb2.cell (p := ⟨g2, _, none⟩) hgw2).trans e3, (hb2.cell (p := ⟨g2, _, none⟩) hgw2).trans e4⟩
          have HALL := Lib.hid hall; have HRUN2 := Lib.hid hrun2; have RB := Lib.hid r2'
          have RA := R1
          have HSUM2 := Lib.hid (show (pushC M (xm, ⟨xs, xd, xa, xe⟩)).length + (n1 + (n2 - 1)) ≤ 1000 by have := pushC_length M (xm, ⟨xs, xd, xa, xe⟩); have := HM.out; omega)
          have j1 : decide ((0 : Int) < (n1 : Int)) = false := by simp; omega
          have j2 : decide (0 < n1) = false := by simp; omega
          have w1 := W1_.out
          have w2 := W2_.out
          clear hla hlb hrun2 r2' hcc2 e0 e1' e2' e3 e4 hy0 hall e1 e2
          go_wp2_with fail
          rw [← hU]
          clear hU
          refine wp_region_held_drew (S := fun w' => Below U.heap.size U w') (by kernel_rfl) ?_ (fun hHeld => ?_)
          · exact (Below.refl _ _).drew
          refine takesH [0, 1, 2, 3, 4, 5, 6, 7, 8, 9, 10, 11, 12, 13, 14, 15, 16, 17, 18] ?_
          repeat
            refine takesH_one (v := ?_) ?_ ?_
            rotate_left
            · first | (refine Or.inr ⟨by rfl, ?_⟩; with_reducible rfl) | (refine Or.inl ⟨by rfl, ?_⟩; intro wx hSw; (try dsimp only at hSw); first | (go_simp; first | done | with_reducible rfl))
            try simp only [Act.put, List.getElem_toArray, List.getElem_cons_succ, List.getElem_cons_zero, List.setIfInBounds_toArray, List.set_cons_zero, List.set_cons_succ]
          refine takesH_nil ?_
          refine wpAnyH_done (by kernel_rfl) ?_ _
          clear w1 w2
          have hlow : Below U.heap.size U U := (Below.refl _ _)
          obtain ⟨_, _, _, _, _⟩ := HALL.out _ hlow
          have hq := (hlow.block wr.heap.size (by have := HUS.out; omega)).trans HZ.out
          have z0 := cell_at (i := 0) hq rfl
          have z1 := cell_at (i := 1) hq rfl
          have z2 := cell_at (i := 2) hq rfl
          have z3 := cell_at (i := 3) hq rfl
          have z4 := cell_at (i := 4) hq rfl
          have y0 := thawed_at (i := 0) hq
          have y1 := thawed_at (i := 1) hq
          have y2 := thawed_at (i := 2) hq
          have y3 := thawed_at (i := 3) hq
          have y4 := thawed_at (i := 4) hq
          have hq4 := Joins.block_setCell (i := 4) (Joins.block_setCell (i := 3) (Joins.block_setCell (i := 2) (Joins.block_setCell (i := 1) (Joins.block_setCell (i := 0) hq (.string xm)) (.string xs)) (.bool xd)) (.int .i64 xa)) (.int .i64 xe)
          have hle : wr.heap.size ≤ wr.heap.size := Nat.le_refl _
          have hb4 := (((((HAL.out.trans (hlow.mono (by have := HUS.out; omega))).setCell (p := ⟨wr.heap.size, 0, none⟩) hle (.string xm)).setCell (p := ⟨wr.heap.size, 1, none⟩) hle (.string xs)).setCell (p := ⟨wr.heap.size, 2, none⟩) hle (.bool xd)).setCell (p := ⟨wr.heap.size, 3, none⟩) hle (.int .i64 xa)).setCell (p := ⟨wr.heap.size, 4, none⟩) hle (.int .i64 xe)
          have HQ4_ := Lib.hid hq4; have HB4_ := Lib.hid hb4
          clear hq hq4 hb4 hle
          go_wp2_with fail
          go_region
          obtain ⟨w4, hw4⟩ : ∃ w4, w4 = (((((World.setCell U ⟨wr.heap.size, 0, none⟩ (.string xm)).setCell ⟨wr.heap.size, 1, none⟩ (.string xs)).setCell ⟨wr.heap.size, 2, none⟩ (.bool xd)).setCell ⟨wr.heap.size, 3, none⟩ (.int .i64 xa)).setCell ⟨wr.heap.size, 4, none⟩ (.int .i64 xe)).drew.drew := ⟨_, rfl⟩
          rw [← hw4]
          have HQ4 : Hid (w4.heap[wr.heap.size]? = some (.cells #[.string xm, .string xs, .bool xd, .int .i64 xa, .int .i64 xe] 66 (0, 0))) := Lib.hid (by rw [hw4]; exact HQ4_.out)
          have HB4 : Hid (Below wr.heap.size wr w4) := Lib.hid (by rw [hw4]; first | exact HB4_.out.drew.drew | exact HB4_.out.drew)
          clear hw4 HQ4_ HB4_ z0 z1 z2 z3 z4 y0 y1 y2 y3 y4
          have hcv := HCUR.out.on HB4.out
          rw [HM.out] at hcv
          have HCV := Lib.hid hcv
          have HS4 := Lib.hid HB4.out.size
          clear hcv
          rcases List.eq_nil_or_concat M with hM | ⟨L, ⟨ym, ⟨ys, yd, ya, ye⟩⟩, hM⟩
          · have hp : pushC M (xm, ⟨xs, xd, xa, xe⟩) = M ++ [(xm, ⟨xs, xd, xa, xe⟩)] := by rw [hM]; rfl
            have hm0 : m = 0 := by rw [← HM.out, hM]; rfl
            have S1 := Lib.hid (show IntKind.i64.wrap ((m : Int) - 1) = -1 by rw [IntKind.wrap_i64]; omega)
            have S2 := Lib.hid (show wrap64 ((m : Int) - 1) = -1 by unfold wrap64; omega)
            have HP := Lib.hid hp
            have hall4 : ∀ w', Below w4.heap.size w4 w' → w'.cell? ⟨wr.heap.size, 0, none⟩ = some (.string xm) ∧ w'.cell? ⟨wr.heap.size, 0 + 1, none⟩ = some (.string xs) ∧ w'.cell? ⟨wr.heap.size, 0 + 2, none⟩ = some (.bool xd) ∧ w'.cell? ⟨wr.heap.size, 0 + 3, none⟩ = some (.int .i64 xa) ∧ w'.cell? ⟨wr.heap.size, 0 + 4, none⟩ = some (.int .i64 xe) := fun w' hb => by
              have hq := (hb.block wr.heap.size (Array.getElem?_eq_some_iff.1 HQ4.out).1).trans HQ4.out
              exact ⟨cell_at hq rfl, cell_at hq rfl, cell_at hq rfl, cell_at hq rfl, cell_at hq rfl⟩
            have HALL4 := Lib.hid hall4
            have s1 := S1.out
            have s2 := S2.out
            clear hm0 hM hp hall4
            go_wp2_with fail
            refine wp_region_held_drew (S := fun w' => Below w4.heap.size w4 w') (by kernel_rfl) ?_ (fun hHeld => ?_)
            · exact (Below.refl _ _).drew
            refine takesH [0, 1, 2, 3, 4, 5, 6, 7, 8, 9, 10, 11] ?_
            repeat
              refine takesH_one (v := ?_) ?_ ?_
              rotate_left
              · first | (refine Or.inr ⟨by rfl, ?_⟩; with_reducible rfl) | (refine Or.inl ⟨by rfl, ?_⟩; intro wx hSw; (try dsimp only at hSw); first | (go_simp; first | done | with_reducible rfl))
              try simp only [Act.put, List.getElem_toArray, List.getElem_cons_succ, List.getElem_cons_zero, List.setIfInBounds_toArray, List.set_cons_zero, List.set_cons_succ]
            refine takesH_nil ?_
            refine wpAnyH_done (by kernel_rfl) ?_ _
            have hl8 : Below w4.heap.size w4 w4.drew := (Below.refl _ _).drew
            generalize w4.drew = w8 at hl8 ⊢
            obtain ⟨_, _, _, _, _⟩ := HALL4.out _ hl8
            clear s1 s2
            have hcw := (HCV.out.on hl8).on ((Below.refl _ _).alloc (Nat.le_refl _) (.cells #[.string xm, .string xs, .bool xd, .int .i64 xa, .int .i64 xe] 66))
            have hk1 := RdK.one w8 (xm, ⟨xs, xd, xa, xe⟩) (w8).heap.size rfl
            have HCW := Lib.hid hcw; have HK1 := Lib.hid hk1
            clear hcw hk1 hl8
            go_wp2_with (at_builtin; refine list_ex rfl (.tmp 78) (.tmp 80) _ _ rfl (.slice A0 m c0) (.slice (some ⟨(w8).heap.size, 0, none⟩) 1 1) rfl rfl (run_appK w.heap.size HCW.out.own HK1.out ?s1 ?s2) ?_)
            case s1 => have h9 := HM.out; (try simp at h9); (try simp); omega
            case s2 => simpa using HCW.out.below.size
            intro v3 w3 ho3 hg3 hloc3
            obtain ⟨A3, m3, c3, rfl, hc3⟩ := HCW.out.appN ho3 hg3
            have HC3 := Lib.hid hc3
            clear hc3 ho3 hg3 hloc3
            go_wp2
            go_roundw
            case rel => exact ⟨_, _, _, _, _, _, _, _, _, rfl, rfl, RA.out, RB.out, by omega, by omega, HSUM2.out, HRUN2.out, by rw [HP.out]; exact HC3.out⟩
            case measure => simp [lenS]; omega
          · rw [List.concat_eq_append] at hM
            have HMM := Lib.hid hM
            clear hM
            obtain ⟨u, hu⟩ : ∃ u, L.length = u := ⟨_, rfl⟩
            have hm1 : m = u + 1 := by rw [← HM.out, HMM.out, ← hu]; simp
            have S1 := Lib.hid (show IntKind.i64.wrap ((m : Int) - 1) = (u : Int) by rw [IntKind.wrap_i64]; omega)
            have S2 := Lib.hid (show wrap64 ((m : Int) - 1) = (u : Int) by unfold wrap64; omega)
            obtain ⟨g5, rfl, hg5, hg5', hy5, hf5⟩ := HCV.out.last HMM.out
            rw [hu] at hy5
            have hall4 : ∀ w', Below w4.heap.size w4 w' → (w'.cell? ⟨g5, u * 5, none⟩ = some (.string ym) ∧ w'.cell? ⟨g5, u * 5 + 1, none⟩ = some (.string ys) ∧ w'.cell? ⟨g5, u * 5 + 2, none⟩ = some (.bool yd) ∧ w'.cell? ⟨g5, u * 5 + 3, none⟩ = some (.int .i64 ya) ∧ w'.cell? ⟨g5, u * 5 + 4, none⟩ = some (.int .i64 ye)) ∧ w'.cell? ⟨wr.heap.size, 0, none⟩ = some (.string xm) ∧ w'.cell? ⟨wr.heap.size, 0 + 1, none⟩ = some (.string xs) ∧ w'.cell? ⟨wr.heap.size, 0 + 2, none⟩ = some (.bool xd) ∧ w'.cell? ⟨wr.heap.size, 0 + 3, none⟩ = some (.int .i64 xa) ∧ w'.cell? ⟨wr.heap.size, 0 + 4, none⟩ = some (.int .i64 xe) := fun w' hb => by
              have hq := (hb.block wr.heap.size (Array.getElem?_eq_some_iff.1 HQ4.out).1).trans HQ4.out
              obtain ⟨a0, a1, a2, a3, a4⟩ := hy5
              exact ⟨⟨(hb.cell (p := ⟨g5, _, none⟩) hg5').trans a0, (hb.cell (p := ⟨g5, _, none⟩) hg5').trans a1, (hb.cell (p := ⟨g5, _, none⟩) hg5').trans a2, (hb.cell (p := ⟨g5, _, none⟩) hg5').trans a3, (hb.cell (p := ⟨g5, _, none⟩) hg5').trans a4⟩, cell_at hq rfl, cell_at hq rfl, cell_at hq rfl, cell_at hq rfl, cell_at hq rfl⟩
            have HALL4 := Lib.hid hall4
            have i5 : (u : Int) < m := by omega
            have i6 : (0 : Int) ≤ u := by omega
            have i7 : decide ((0 : Int) ≤ (u : Int)) = true := by simp
            have HU := Lib.hid hu; have HM1 := Lib.hid hm1
            clear hall4 hu hm1 hy5 hf5
            by_cases hn : ym = xm
            · have t0 : (tcmp ym xm == 0) = true := by rw [beq_iff_eq]; exact tcmp_zero.2 hn
              have hp : pushC M (xm, ⟨xs, xd, xa, xe⟩) = L ++ [(ym, Ce.join ⟨ys, yd, ya, ye⟩ ⟨xs, xd, xa, xe⟩)] := by rw [HMM.out, pushC_last]; exact if_pos hn
              have HP := Lib.hid hp
              have s1 := S1.out
              have s2 := S2.out
              clear hp hn
              go_wp2_with fail
              refine wp_region_held_drew (S := fun w' => Below w4.heap.size w4 w') (by kernel_rfl) ?_ (fun hHeld => ?_)
              · exact (Below.refl _ _).drew
              refine takesH [0, 1, 2, 3, 4, 5, 6, 7, 8] ?_
              repeat
                refine takesH_one (v := ?_) ?_ ?_
                rotate_left
                · first | (refine Or.inr ⟨by rfl, ?_⟩; with_reducible rfl) | (refine Or.inl ⟨by rfl, ?_⟩; intro wx hSw; (try dsimp only at hSw); first | (go_simp; first | done | with_reducible rfl) | (obtain ⟨⟨_, _, _, _, _⟩, _, _, _, _, _⟩ := HALL4.out _ hSw; go_simp; first | done | with_reducible rfl))
                try simp only [Act.put, List.getElem_toArray, List.getElem_cons_succ, List.getElem_cons_zero, List.setIfInBounds_toArray, List.set_cons_zero, List.set_cons_succ]
              refine takesH_nil ?_
              refine wpAnyH_ready (rs := [9]) (by kernel_rfl) (by simp) (AllReadyH.cons rfl (fun K hK => ?_) AllReadyH.nil)
              go_simp
              refine (byname_any _ _ _ _ _ _ _ _ _ _ _).mono ?_
              rintro x v1 ⟨rfl, b1⟩
              try go_wp2_with fail
              refine hK.out _ _ ?_ (fun hHeld => ?_)
              · exact next (by assumption) b1
              clear hK K
              try simp only [Act.put, List.getElem_toArray, List.getElem_cons_succ, List.getElem_cons_zero, List.setIfInBounds_toArray, List.set_cons_zero, List.set_cons_succ]
              refine takesH [10, 11] ?_
              repeat
                refine takesH_one (v := ?_) ?_ ?_
                rotate_left
                · first | (refine Or.inr ⟨by rfl, ?_⟩; with_reducible rfl) | (refine Or.inl ⟨by rfl, ?_⟩; intro wx hSw; (try dsimp only at hSw); first | (go_simp; first | done | with_reducible rfl))
                try simp only [Act.put, List.getElem_toArray, List.getElem_cons_succ, List.getElem_cons_zero, List.setIfInBounds_toArray, List.set_cons_zero, List.set_cons_succ]
              refine takesH_nil ?_
              refine wpAnyH_done (by kernel_rfl) ?_ _
              obtain ⟨⟨_, _, _, _, _⟩, _, _, _, _, _⟩ := HALL4.out _ hHeld
              clear s1 s2
              have HH := Lib.hid hHeld
              clear hHeld
              go_wp2_with fail
              go_region_with (first
                | (go_at_call 58; refine (joincols_any _ _ _ _ _ _ _ _ _ _ _).mono ?_; rintro x v5 ⟨js, jd, ja, je, hje, rfl, b5⟩
                   have b5' := next HH.out (next (w := v1) (by first | exact (Below.refl _ _).drew | exact below_draws _ _ _ | exact Below.refl _ _) b5)
                   obtain ⟨⟨_, _, _, _, _⟩, _, _, _, _, _⟩ := HALL4.out _ b5'
                   have hcl := HCV.out.on b5'
                   obtain ⟨g6, e6, _, _, _, hfz⟩ := hcl.last HMM.out
                   cases e6
                   have f0 := hfz (u * 5)
                   have f1 := hfz (u * 5 + 1)
                   have f2 := hfz (u * 5 + 2)
                   have f3 := hfz (u * 5 + 3)
                   have f4 := hfz (u * 5 + 4)
                   have HCL := Lib.hid hcl
                   have HJE := Lib.hid hje
                   clear hcl hfz hje))
              all_goals
                have hput := HCL.out.put HMM.out HU.out ym js jd ja je
                rw [← HJE.out] at hput
                generalize hw6 : (((((v5.setCell ⟨g5, u * 5, none⟩ (.string ym)).setCell ⟨g5, u * 5 + 1, none⟩ (.string js)).setCell ⟨g5, u * 5 + 2, none⟩ (.bool jd)).setCell ⟨g5, u * 5 + 3, none⟩ (.int .i64 ja)).setCell ⟨g5, u * 5 + 4, none⟩ (.int .i64 je)) = w6 at hput ⊢
                have HPUT := Lib.hid hput
                clear hput f0 f1 f2 f3 f4 b5 b5' hw6
                go_wp2
                go_roundw
                case rel => exact ⟨_, _, _, _, _, _, _, _, _, rfl, rfl, RA.out, RB.out, by omega, by omega, HSUM2.out, HRUN2.out, by rw [HP.out]; exact HPUT.out⟩
                case measure => simp [lenS]; omega
            · have t0 : (tcmp ym xm == 0) = false := by rw [beq_eq_false_iff_ne]; exact fun h => hn (tcmp_zero.1 h)
              have hp : pushC M (xm, ⟨xs, xd, xa, xe⟩) = M ++ [(xm, ⟨xs, xd, xa, xe⟩)] := by rw [HMM.out, pushC_last]; exact if_neg hn
              have HP := Lib.hid hp
              have s1 := S1.out
              have s2 := S2.out
              clear hp hn
              go_wp2_with fail
              refine wp_region_held_drew (S := fun w' => Below w4.heap.size w4 w') (by kernel_rfl) ?_ (fun hHeld => ?_)
              · exact (Below.refl _ _).drew
              refine takesH [0, 1, 2, 3, 4, 5, 6, 7, 8] ?_
              repeat
                refine takesH_one (v := ?_) ?_ ?_
                rotate_left
                · first | (refine Or.inr ⟨by rfl, ?_⟩; with_reducible rfl) | (refine Or.inl ⟨by rfl, ?_⟩; intro wx hSw; (try dsimp only at hSw); first | (go_simp; first | done | with_reducible rfl) | (obtain ⟨⟨_, _, _, _, _⟩, _, _, _, _, _⟩ := HALL4.out _ hSw; go_simp; first | done | with_reducible rfl))
                try simp only [Act.put, List.getElem_toArray, List.getElem_cons_succ, List.getElem_cons_zero, List.setIfInBounds_toArray, List.set_cons_zero, List.set_cons_succ]
              refine takesH_nil ?_
              refine wpAnyH_ready (rs := [9]) (by kernel_rfl) (by simp) (AllReadyH.cons rfl (fun K hK => ?_) AllReadyH.nil)
              go_simp
              refine (byname_any _ _ _ _ _ _ _ _ _ _ _).mono ?_
              rintro x v1 ⟨rfl, b1⟩
              try go_wp2_with fail
              refine hK.out _ _ ?_ (fun hHeld => ?_)
              · exact next (by assumption) b1
              clear hK K
              try simp only [Act.put, List.getElem_toArray, List.getElem_cons_succ, List.getElem_cons_zero, List.setIfInBounds_toArray, List.set_cons_zero, List.set_cons_succ]
              refine takesH [10, 11] ?_
              repeat
                refine takesH_one (v := ?_) ?_ ?_
                rotate_left
                · first | (refine Or.inr ⟨by rfl, ?_⟩; with_reducible rfl) | (refine Or.inl ⟨by rfl, ?_⟩; intro wx hSw; (try dsimp only at hSw); first | (go_simp; first | done | with_reducible rfl))
                try simp only [Act.put, List.getElem_toArray, List.getElem_cons_succ, List.getElem_cons_zero, List.setIfInBounds_toArray, List.set_cons_zero, List.set_cons_succ]
              refine takesH_nil ?_
              refine wpAnyH_done (by kernel_rfl) ?_ _
              have hl8 := hHeld
              obtain ⟨⟨_, _, _, _, _⟩, _, _, _, _, _⟩ := HALL4.out _ hHeld
              clear s1 s2
              have hcw := (HCV.out.on hl8).on ((Below.refl _ _).alloc (Nat.le_refl _) (.cells #[.string xm, .string xs, .bool xd, .int .i64 xa, .int .i64 xe] 66))
              have hk1 := RdK.one v1 (xm, ⟨xs, xd, xa, xe⟩) (v1).heap.size rfl
              have HCW := Lib.hid hcw; have HK1 := Lib.hid hk1
              clear hcw hk1 hl8
              go_wp2_with (at_builtin; refine list_ex rfl (.tmp 78) (.tmp 80) _ _ rfl (.slice (some ⟨g5, 0, none⟩) m c0) (.slice (some ⟨(v1).heap.size, 0, none⟩) 1 1) rfl rfl (run_appK w.heap.size HCW.out.own HK1.out ?s1 ?s2) ?_)
              case s1 => have h9 := HM.out; (try simp at h9); (try simp); omega
              case s2 => simpa using HCW.out.below.size
              intro v3 w3 ho3 hg3 hloc3
              obtain ⟨A3, m3, c3, rfl, hc3⟩ := HCW.out.appN ho3 hg3
              have HC3 := Lib.hid hc3
              clear hc3 ho3 hg3 hloc3
              go_wp2
              go_roundw
              case rel => exact ⟨_, _, _, _, _, _, _, _, _, rfl, rfl, RA.out, RB.out, by omega, by omega, HSUM2.out, HRUN2.out, by rw [HP.out]; exact HC3.out⟩
              case measure => simp [lenS]; omega
        · have hpos1 : 0 < n1 := by omega
          obtain ⟨x, la', hla⟩ : ∃ x la', la = x :: la' := by
            match la, L1.out with
            | [], h => simp at h; omega
            | x :: la', _ => exact ⟨x, la', rfl⟩
          obtain ⟨A1', hsl1, r1'⟩ := slK_l R1.out hc1 (1 : Int) 1 rfl (by omega)
          rw [hla] at r1'
          obtain ⟨g1, o1, rfl, hgB1, hcc1⟩ := (R1.out.below (HCUR.out.below.mono hB)).2 hpos1
          have hc01 := hcc1 0 (by rw [hla]; simp)
          have hx0 : la[0]'(by rw [hla]; simp) = x := by simp [hla]
          rw [hx0] at hc01
          simp only [Nat.zero_mul, Nat.add_zero] at hc01
          have hgw1 : g1 < wr.heap.size := by have := HWS.out; omega
          have i1 : (0 : Int) < n1 := by omega
          have j1 : decide ((0 : Int) < (n1 : Int)) = true := by simp; omega
          have j2 : decide (0 < n1) = true := by simp; omega
          by_cases hyx : nlt y.1 x.1
          · have hrun2 : runC (pushC M y) la lb' = R := by rw [← HRUN.out, hlb, hla, runC_ba _ _ _ _ _ hyx]
            obtain ⟨xm, ⟨xs, xd, xa, xe⟩⟩ := y
            obtain ⟨zm, ⟨zs, zd, za, ze⟩⟩ := x
            have t1 : decide (tcmp zm xm ≤ 0) = false := decide_eq_false fun h => tcmp_le.1 h hyx
            have RA := R1
            have RB := Lib.hid r2'
            have HSUM2 := Lib.hid (show (pushC M (xm, ⟨xs, xd, xa, xe⟩)).length + (n1 + (n2 - 1)) ≤ 1000 by have := pushC_length M (xm, ⟨xs, xd, xa, xe⟩); have := HM.out; omega)
            obtain ⟨a0, a1, a2, a3, a4⟩ := hc01
            obtain ⟨b0, b1, b2, b3, b4⟩ := hc02
            have hall2 : ∀ w', Below U.heap.size U w' → (w'.cell? ⟨g1, o1, none⟩ = some (.string zm) ∧ w'.cell? ⟨g1, o1 + 1, none⟩ = some (.string zs) ∧ w'.cell? ⟨g1, o1 + 2, none⟩ = some (.bool zd) ∧ w'.cell? ⟨g1, o1 + 3, none⟩ = some (.int .i64 za) ∧ w'.cell? ⟨g1, o1 + 4, none⟩ = some (.int .i64 ze)) ∧ w'.cell? ⟨g2, o2, none⟩ = some (.string xm) ∧ w'.cell? ⟨g2, o2 + 1, none⟩ = some (.string xs) ∧ w'.cell? ⟨g2, o2 + 2, none⟩ = some (.bool xd) ∧ w'.cell? ⟨g2, o2 + 3, none⟩ = some (.int .i64 xa) ∧ w'.cell? ⟨g2, o2 + 4, none⟩ = some (.int .i64 xe) := fun w' hb => by
              have hb2 : Below wr.heap.size wr w' := HAL.out.trans (hb.mono (by have := HUS.out; omega))
              exact ⟨⟨(hb2.cell (p := ⟨g1, _, none⟩) hgw1).trans a0, (hb2.cell (p := ⟨g1, _, none⟩) hgw1).trans a1, (hb2.cell (p := ⟨g1, _, none⟩) hgw1).trans a2, (hb2.cell (p := ⟨g1, _, none⟩) hgw1).trans a3, (hb2.cell (p := ⟨g1, _, none⟩) hgw1).trans a4⟩, (hb2.cell (p := ⟨g2, _, none⟩) hgw2).trans b0, (hb2.cell (p := ⟨g2, _, none⟩) hgw2).trans b1, (hb2.cell (p := ⟨g2, _, none⟩) hgw2).trans b2, (hb2.cell (p := ⟨g2, _, none⟩) hgw2).trans b3, (hb2.cell (p := ⟨g2, _, none⟩) hgw2).trans b4⟩
            have HALL2 := Lib.hid hall2; have HRUN2 := Lib.hid hrun2
            have w1 := W1_.out
            have w2 := W2_.out
            clear hla hlb hrun2 r1' r2' hcc1 hcc2 hx0 hy0 hall2 e1 e2 a0 a1 a2 a3 a4 b0 b1 b2 b3 b4 hyx
            go_wp2_with fail
            rw [← hU]
            clear hU
            have HALL := Lib.hid (fun w' hb => (HALL2.out w' hb).2)
            refine wp_region_held_drew (S := fun w' => Below U.heap.size U w') (by kernel_rfl) ?_ (fun hHeld => ?_)
            · exact (Below.refl _ _).drew
            refine takesH [0, 1, 2, 3, 4, 5, 6, 7, 8, 9, 10, 11, 12, 13, 14] ?_
            repeat
              refine takesH_one (v := ?_) ?_ ?_
              rotate_left
              · first | (refine Or.inr ⟨by rfl, ?_⟩; with_reducible rfl) | (refine Or.inl ⟨by rfl, ?_⟩; intro wx hSw; (try dsimp only at hSw); first | (go_simp; first | done | with_reducible rfl) | (obtain ⟨⟨_, _, _, _, _⟩, _, _, _, _, _⟩ := HALL2.out _ hSw; go_simp; first | done | with_reducible rfl))
              try simp only [Act.put, List.getElem_toArray, List.getElem_cons_succ, List.getElem_cons_zero, List.setIfInBounds_toArray, List.set_cons_zero, List.set_cons_succ]
            refine takesH_nil ?_
            refine wpAnyH_ready (rs := [15]) (by kernel_rfl) (by simp) (AllReadyH.cons rfl (fun K hK => ?_) AllReadyH.nil)
            go_simp
            refine (byname_any _ _ _ _ _ _ _ _ _ _ _).mono ?_
            rintro x v1 ⟨rfl, b1⟩
            try go_wp2_with fail
            refine hK.out _ _ ?_ (fun hHeld => ?_)
            · exact next (by assumption) b1
            clear hK K
            try simp only [Act.put, List.getElem_toArray, List.getElem_cons_succ, List.getElem_cons_zero, List.setIfInBounds_toArray, List.set_cons_zero, List.set_cons_succ]
            refine takesH [16, 17, 18] ?_
            repeat
              refine takesH_one (v := ?_) ?_ ?_
              rotate_left
              · first | (refine Or.inr ⟨by rfl, ?_⟩; with_reducible rfl) | (refine Or.inl ⟨by rfl, ?_⟩; intro wx hSw; (try dsimp only at hSw); first | (go_simp; first | done | with_reducible rfl))
              try simp only [Act.put, List.getElem_toArray, List.getElem_cons_succ, List.getElem_cons_zero, List.setIfInBounds_toArray, List.set_cons_zero, List.set_cons_succ]
            refine takesH_nil ?_
            refine wpAnyH_done (by kernel_rfl) ?_ _
            clear t1
            clear w1 w2
            have hlow : Below U.heap.size U v1 := hHeld
            obtain ⟨_, _, _, _, _⟩ := HALL.out _ hlow
            have hq := (hlow.block wr.heap.size (by have := HUS.out; omega)).trans HZ.out
            have z0 := cell_at (i := 0) hq rfl
            have z1 := cell_at (i := 1) hq rfl
            have z2 := cell_at (i := 2) hq rfl
            have z3 := cell_at (i := 3) hq rfl
            have z4 := cell_at (i := 4) hq rfl
            have y0 := thawed_at (i := 0) hq
            have y1 := thawed_at (i := 1) hq
            have y2 := thawed_at (i := 2) hq
            have y3 := thawed_at (i := 3) hq
            have y4 := thawed_at (i := 4) hq
            have hq4 := Joins.block_setCell (i := 4) (Joins.block_setCell (i := 3) (Joins.block_setCell (i := 2) (Joins.block_setCell (i := 1) (Joins.block_setCell (i := 0) hq (.string xm)) (.string xs)) (.bool xd)) (.int .i64 xa)) (.int .i64 xe)
            have hle : wr.heap.size ≤ wr.heap.size := Nat.le_refl _
            have hb4 := (((((HAL.out.trans (hlow.mono (by have := HUS.out; omega))).setCell (p := ⟨wr.heap.size, 0, none⟩) hle (.string xm)).setCell (p := ⟨wr.heap.size, 1, none⟩) hle (.string xs)).setCell (p := ⟨wr.heap.size, 2, none⟩) hle (.bool xd)).setCell (p := ⟨wr.heap.size, 3, none⟩) hle (.int .i64 xa)).setCell (p := ⟨wr.heap.size, 4, none⟩) hle (.int .i64 xe)
            have HQ4_ := Lib.hid hq4; have HB4_ := Lib.hid hb4
            clear hq hq4 hb4 hle
            go_wp2_with fail
            go_region
            obtain ⟨w4, hw4⟩ : ∃ w4, w4 = (((((World.setCell v1 ⟨wr.heap.size, 0, none⟩ (.string xm)).setCell ⟨wr.heap.size, 1, none⟩ (.string xs)).setCell ⟨wr.heap.size, 2, none⟩ (.bool xd)).setCell ⟨wr.heap.size, 3, none⟩ (.int .i64 xa)).setCell ⟨wr.heap.size, 4, none⟩ (.int .i64 xe)).drew := ⟨_, rfl⟩
            rw [← hw4]
            have HQ4 : Hid (w4.heap[wr.heap.size]? = some (.cells #[.string xm, .string xs, .bool xd, .int .i64 xa, .int .i64 xe] 66 (0, 0))) := Lib.hid (by rw [hw4]; exact HQ4_.out)
            have HB4 : Hid (Below wr.heap.size wr w4) := Lib.hid (by rw [hw4]; first | exact HB4_.out.drew.drew | exact HB4_.out.drew)
            clear hw4 HQ4_ HB4_ z0 z1 z2 z3 z4 y0 y1 y2 y3 y4
            have hcv := HCUR.out.on HB4.out
            rw [HM.out] at hcv
            have HCV := Lib.hid hcv
            have HS4 := Lib.hid HB4.out.size
            clear hcv
            rcases List.eq_nil_or_concat M with hM | ⟨L, ⟨ym, ⟨ys, yd, ya, ye⟩⟩, hM⟩
            · have hp : pushC M (xm, ⟨xs, xd, xa, xe⟩) = M ++ [(xm, ⟨xs, xd, xa, xe⟩)] := by rw [hM]; rfl
              have hm0 : m = 0 := by rw [← HM.out, hM]; rfl
              have S1 := Lib.hid (show IntKind.i64.wrap ((m : Int) - 1) = -1 by rw [IntKind.wrap_i64]; omega)
              have S2 := Lib.hid (show wrap64 ((m : Int) - 1) = -1 by unfold wrap64; omega)
              have HP := Lib.hid hp
              have hall4 : ∀ w', Below w4.heap.size w4 w' → w'.cell? ⟨wr.heap.size, 0, none⟩ = some (.string xm) ∧ w'.cell? ⟨wr.heap.size, 0 + 1, none⟩ = some (.string xs) ∧ w'.cell? ⟨wr.heap.size, 0 + 2, none⟩ = some (.bool xd) ∧ w'.cell? ⟨wr.heap.size, 0 + 3, none⟩ = some (.int .i64 xa) ∧ w'.cell? ⟨wr.heap.size, 0 + 4, none⟩ = some (.int .i64 xe) := fun w' hb => by
                have hq := (hb.block wr.heap.size (Array.getElem?_eq_some_iff.1 HQ4.out).1).trans HQ4.out
                exact ⟨cell_at hq rfl, cell_at hq rfl, cell_at hq rfl, cell_at hq rfl, cell_at hq rfl⟩
              have HALL4 := Lib.hid hall4
              have s1 := S1.out
              have s2 := S2.out
              clear hm0 hM hp hall4
              go_wp2_with fail
              refine wp_region_held_drew (S := fun w' => Below w4.heap.size w4 w') (by kernel_rfl) ?_ (fun hHeld => ?_)
              · exact (Below.refl _ _).drew
              refine takesH [0, 1, 2, 3, 4, 5, 6, 7, 8, 9, 10, 11] ?_
              repeat
                refine takesH_one (v := ?_) ?_ ?_
                rotate_left
                · first | (refine Or.inr ⟨by rfl, ?_⟩; with_reducible rfl) | (refine Or.inl ⟨by rfl, ?_⟩; intro wx hSw; (try dsimp only at hSw); first | (go_simp; first | done | with_reducible rfl))
                try simp only [Act.put, List.getElem_toArray, List.getElem_cons_succ, List.getElem_cons_zero, List.setIfInBounds_toArray, List.set_cons_zero, List.set_cons_succ]
              refine takesH_nil ?_
              refine wpAnyH_done (by kernel_rfl) ?_ _
              have hl8 : Below w4.heap.size w4 w4.drew := (Below.refl _ _).drew
              generalize w4.drew = w8 at hl8 ⊢
              obtain ⟨_, _, _, _, _⟩ := HALL4.out _ hl8
              clear s1 s2
              have hcw := (HCV.out.on hl8).on ((Below.refl _ _).alloc (Nat.le_refl _) (.cells #[.string xm, .string xs, .bool xd, .int .i64 xa, .int .i64 xe] 66))
              have hk1 := RdK.one w8 (xm, ⟨xs, xd, xa, xe⟩) (w8).heap.size rfl
              have HCW := Lib.hid hcw; have HK1 := Lib.hid hk1
              clear hcw hk1 hl8
              go_wp2_with (at_builtin; refine list_ex rfl (.tmp 78) (.tmp 80) _ _ rfl (.slice A0 m c0) (.slice (some ⟨(w8).heap.size, 0, none⟩) 1 1) rfl rfl (run_appK w.heap.size HCW.out.own HK1.out ?s1 ?s2) ?_)
              case s1 => have h9 := HM.out; (try simp at h9); (try simp); omega
              case s2 => simpa using HCW.out.below.size
              intro v3 w3 ho3 hg3 hloc3
              obtain ⟨A3, m3, c3, rfl, hc3⟩ := HCW.out.appN ho3 hg3
              have HC3 := Lib.hid hc3
              clear hc3 ho3 hg3 hloc3
              go_wp2
              go_roundw
              case rel => exact ⟨_, _, _, _, _, _, _, _, _, rfl, rfl, RA.out, RB.out, by omega, by omega, HSUM2.out, HRUN2.out, by rw [HP.out]; exact HC3.out⟩
              case measure => simp [lenS]; omega
            · rw [List.concat_eq_append] at hM
              have HMM := Lib.hid hM
              clear hM
              obtain ⟨u, hu⟩ : ∃ u, L.length = u := ⟨_, rfl⟩
              have hm1 : m = u + 1 := by rw [← HM.out, HMM.out, ← hu]; simp
              have S1 := Lib.hid (show IntKind.i64.wrap ((m : Int) - 1) = (u : Int) by rw [IntKind.wrap_i64]; omega)
              have S2 := Lib.hid (show wrap64 ((m : Int) - 1) = (u : Int) by unfold wrap64; omega)
              obtain ⟨g5, rfl, hg5, hg5', hy5, hf5⟩ := HCV.out.last HMM.out
              rw [hu] at hy5
              have hall4 : ∀ w', Below w4.heap.size w4 w' → (w'.cell? ⟨g5, u * 5, none⟩ = some (.string ym) ∧ w'.cell? ⟨g5, u * 5 + 1, none⟩ = some (.string ys) ∧ w'.cell? ⟨g5, u * 5 + 2, none⟩ = some (.bool yd) ∧ w'.cell? ⟨g5, u * 5 + 3, none⟩ = some (.int .i64 ya) ∧ w'.cell? ⟨g5, u * 5 + 4, none⟩ = some (.int .i64 ye)) ∧ w'.cell? ⟨wr.heap.size, 0, none⟩ = some (.string xm) ∧ w'.cell? ⟨wr.heap.size, 0 + 1, none⟩ = some (.string xs) ∧ w'.cell? ⟨wr.heap.size, 0 + 2, none⟩ = some (.bool xd) ∧ w'.cell? ⟨wr.heap.size, 0 + 3, none⟩ = some (.int .i64 xa) ∧ w'.cell? ⟨wr.heap.size, 0 + 4, none⟩ = some (.int .i64 xe) := fun w' hb => by
                have hq := (hb.block wr.heap.size (Array.getElem?_eq_some_iff.1 HQ4.out).1).trans HQ4.out
                obtain ⟨a0, a1, a2, a3, a4⟩ := hy5
                exact ⟨⟨(hb.cell (p := ⟨g5, _, none⟩) hg5').trans a0, (hb.cell (p := ⟨g5, _, none⟩) hg5').trans a1, (hb.cell (p := ⟨g5, _, none⟩) hg5').trans a2, (hb.cell (p := ⟨g5, _, none⟩) hg5').trans a3, (hb.cell (p := ⟨g5, _, none⟩) hg5').trans a4⟩, cell_at hq rfl, cell_at hq rfl, cell_at hq rfl, cell_at hq rfl, cell_at hq rfl⟩
              have HALL4 := Lib.hid hall4
              have i5 : (u : Int) < m := by omega
              have i6 : (0 : Int) ≤ u := by omega
              have i7 : decide ((0 : Int) ≤ (u : Int)) = true := by simp
              have HU := Lib.hid hu; have HM1 := Lib.hid hm1
              clear hall4 hu hm1 hy5 hf5
              by_cases hn : ym = xm
              · have t0 : (tcmp ym xm == 0) = true := by rw [beq_iff_eq]; exact tcmp_zero.2 hn
                have hp : pushC M (xm, ⟨xs, xd, xa, xe⟩) = L ++ [(ym, Ce.join ⟨ys, yd, ya, ye⟩ ⟨xs, xd, xa, xe⟩)] := by rw [HMM.out, pushC_last]; exact if_pos hn
                have HP := Lib.hid hp
                have s1 := S1.out
                have s2 := S2.out
                clear hp hn
                go_wp2_with fail
                refine wp_region_held_drew (S := fun w' => Below w4.heap.size w4 w') (by kernel_rfl) ?_ (fun hHeld => ?_)
                · exact (Below.refl _ _).drew
                refine takesH [0, 1, 2, 3, 4, 5, 6, 7, 8] ?_
                repeat
                  refine takesH_one (v := ?_) ?_ ?_
                  rotate_left
                  · first | (refine Or.inr ⟨by rfl, ?_⟩; with_reducible rfl) | (refine Or.inl ⟨by rfl, ?_⟩; intro wx hSw; (try dsimp only at hSw); first | (go_simp; first | done | with_reducible rfl) | (obtain ⟨⟨_, _, _, _, _⟩, _, _, _, _, _⟩ := HALL4.out _ hSw; go_simp; first | done | with_reducible rfl))
                  try simp only [Act.put, List.getElem_toArray, List.getElem_cons_succ, List.getElem_cons_zero, List.setIfInBounds_toArray, List.set_cons_zero, List.set_cons_succ]
                refine takesH_nil ?_
                refine wpAnyH_ready (rs := [9]) (by kernel_rfl) (by simp) (AllReadyH.cons rfl (fun K hK => ?_) AllReadyH.nil)
                go_simp
                refine (byname_any _ _ _ _ _ _ _ _ _ _ _).mono ?_
                rintro x v1 ⟨rfl, b1⟩
                try go_wp2_with fail
                refine hK.out _ _ ?_ (fun hHeld => ?_)
                · exact next (by assumption) b1
                clear hK K
                try simp only [Act.put, List.getElem_toArray, List.getElem_cons_succ, List.getElem_cons_zero, List.setIfInBounds_toArray, List.set_cons_zero, List.set_cons_succ]
                refine takesH [10, 11] ?_
                repeat
                  refine takesH_one (v := ?_) ?_ ?_
                  rotate_left
                  · first | (refine Or.inr ⟨by rfl, ?_⟩; with_reducible rfl) | (refine Or.inl ⟨by rfl, ?_⟩; intro wx hSw; (try dsimp only at hSw); first | (go_simp; first | done | with_reducible rfl))
                  try simp only [Act.put, List.getElem_toArray, List.getElem_cons_succ, List.getElem_cons_zero, List.setIfInBounds_toArray, List.set_cons_zero, List.set_cons_succ]
                refine takesH_nil ?_
                refine wpAnyH_done (by kernel_rfl) ?_ _
                obtain ⟨⟨_, _, _, _, _⟩, _, _, _, _, _⟩ := HALL4.out _ hHeld
                clear s1 s2
                have HH := Lib.hid hHeld
                clear hHeld
                go_wp2_with fail
                go_region_with (first
                  | (go_at_call 58; refine (joincols_any _ _ _ _ _ _ _ _ _ _ _).mono ?_; rintro x v5 ⟨js, jd, ja, je, hje, rfl, b5⟩
                     have b5' := next HH.out (next (w := v1) (by first | exact (Below.refl _ _).drew | exact below_draws _ _ _ | exact Below.refl _ _) b5)
                     obtain ⟨⟨_, _, _, _, _⟩, _, _, _, _, _⟩ := HALL4.out _ b5'
                     have hcl := HCV.out.on b5'
                     obtain ⟨g6, e6, _, _, _, hfz⟩ := hcl.last HMM.out
                     cases e6
                     have f0 := hfz (u * 5)
                     have f1 := hfz (u * 5 + 1)
                     have f2 := hfz (u * 5 + 2)
                     have f3 := hfz (u * 5 + 3)
                     have f4 := hfz (u * 5 + 4)
                     have HCL := Lib.hid hcl
                     have HJE := Lib.hid hje
                     clear hcl hfz hje))
                all_goals
                  have hput := HCL.out.put HMM.out HU.out ym js jd ja je
                  rw [← HJE.out] at hput
                  generalize hw6 : (((((v5.setCell ⟨g5, u * 5, none⟩ (.string ym)).setCell ⟨g5, u * 5 + 1, none⟩ (.string js)).setCell ⟨g5, u * 5 + 2, none⟩ (.bool jd)).setCell ⟨g5, u * 5 + 3, none⟩ (.int .i64 ja)).setCell ⟨g5, u * 5 + 4, none⟩ (.int .i64 je)) = w6 at hput ⊢
                  have HPUT := Lib.hid hput
                  clear hput f0 f1 f2 f3 f4 b5 b5' hw6
                  go_wp2
                  go_roundw
                  case rel => exact ⟨_, _, _, _, _, _, _, _, _, rfl, rfl, RA.out, RB.out, by omega, by omega, HSUM2.out, HRUN2.out, by rw [HP.out]; exact HPUT.out⟩
                  case measure => simp [lenS]; omega
              · have t0 : (tcmp ym xm == 0) = false := by rw [beq_eq_false_iff_ne]; exact fun h => hn (tcmp_zero.1 h)
                have hp : pushC M (xm, ⟨xs, xd, xa, xe⟩) = M ++ [(xm, ⟨xs, xd, xa, xe⟩)] := by rw [HMM.out, pushC_last]; exact if_neg hn
                have HP := Lib.hid hp
                have s1 := S1.out
                have s2 := S2.out
                clear hp hn
                go_wp2_with fail
                refine wp_region_held_drew (S := fun w' => Below w4.heap.size w4 w') (by kernel_rfl) ?_ (fun hHeld => ?_)
                · exact (Below.refl _ _).drew
                refine takesH [0, 1, 2, 3, 4, 5, 6, 7, 8] ?_
                repeat
                  refine takesH_one (v := ?_) ?_ ?_
                  rotate_left
                  · first | (refine Or.inr ⟨by rfl, ?_⟩; with_reducible rfl) | (refine Or.inl ⟨by rfl, ?_⟩; intro wx hSw; (try dsimp only at hSw); first | (go_simp; first | done | with_reducible rfl) | (obtain ⟨⟨_, _, _, _, _⟩, _, _, _, _, _⟩ := HALL4.out _ hSw; go_simp; first | done | with_reducible rfl))
                  try simp only [Act.put, List.getElem_toArray, List.getElem_cons_succ, List.getElem_cons_zero, List.setIfInBounds_toArray, List.set_cons_zero, List.set_cons_succ]
                refine takesH_nil ?_
                refine wpAnyH_ready (rs := [9]) (by kernel_rfl) (by simp) (AllReadyH.cons rfl (fun K hK => ?_) AllReadyH.nil)
                go_simp
                refine (byname_any _ _ _ _ _ _ _ _ _ _ _).mono ?_
                rintro x v1 ⟨rfl, b1⟩
                try go_wp2_with fail
                refine hK.out _ _ ?_ (fun hHeld => ?_)
                · exact next (by assumption) b1
                clear hK K
                try simp only [Act.put, List.getElem_toArray, List.getElem_cons_succ, List.getElem_cons_zero, List.setIfInBounds_toArray, List.set_cons_zero, List.set_cons_succ]
                refine takesH [10, 11] ?_
                repeat
                  refine takesH_one (v := ?_) ?_ ?_
                  rotate_left
                  · first | (refine Or.inr ⟨by rfl, ?_⟩; with_reducible rfl) | (refine Or.inl ⟨by rfl, ?_⟩; intro wx hSw; (try dsimp only at hSw); first | (go_simp; first | done | with_reducible rfl))
                  try simp only [Act.put, List.getElem_toArray, List.getElem_cons_succ, List.getElem_cons_zero, List.setIfInBounds_toArray, List.set_cons_zero, List.set_cons_succ]
                refine takesH_nil ?_
                refine wpAnyH_done (by kernel_rfl) ?_ _
                have hl8 := hHeld
                obtain ⟨⟨_, _, _, _, _⟩, _, _, _, _, _⟩ := HALL4.out _ hHeld
                clear s1 s2
                have hcw := (HCV.out.on hl8).on ((Below.refl _ _).alloc (Nat.le_refl _) (.cells #[.string xm, .string xs, .bool xd, .int .i64 xa, .int .i64 xe] 66))
                have hk1 := RdK.one v1 (xm, ⟨xs, xd, xa, xe⟩) (v1).heap.size rfl
                have HCW := Lib.hid hcw; have HK1 := Lib.hid hk1
                clear hcw hk1 hl8
                go_wp2_with (at_builtin; refine list_ex rfl (.tmp 78) (.tmp 80) _ _ rfl (.slice (some ⟨g5, 0, none⟩) m c0) (.slice (some ⟨(v1).heap.size, 0, none⟩) 1 1) rfl rfl (run_appK w.heap.size HCW.out.own HK1.out ?s1 ?s2) ?_)
                case s1 => have h9 := HM.out; (try simp at h9); (try simp); omega
                case s2 => simpa using HCW.out.below.size
                intro v3 w3 ho3 hg3 hloc3
                obtain ⟨A3, m3, c3, rfl, hc3⟩ := HCW.out.appN ho3 hg3
                have HC3 := Lib.hid hc3
                clear hc3 ho3 hg3 hloc3
                go_wp2
                go_roundw
                case rel => exact ⟨_, _, _, _, _, _, _, _, _, rfl, rfl, RA.out, RB.out, by omega, by omega, HSUM2.out, HRUN2.out, by rw [HP.out]; exact HC3.out⟩
                case measure => simp [lenS]; omega
          · have hrun2 : runC (pushC M x) la' lb = R := by rw [← HRUN.out, hlb, hla, runC_ab _ _ _ _ _ hyx]
            obtain ⟨zm, ⟨zs, zd, za, ze⟩⟩ := y
            obtain ⟨xm, ⟨xs, xd, xa, xe⟩⟩ := x
            have t1 : decide (tcmp xm zm ≤ 0) = true := decide_eq_true (tcmp_le.2 hyx)
            have RA := Lib.hid r1'
            have RB := R2
            have HSUM2 := Lib.hid (show (pushC M (xm, ⟨xs, xd, xa, xe⟩)).length + (n1 - 1 + n2) ≤ 1000 by have := pushC_length M (xm, ⟨xs, xd, xa, xe⟩); have := HM.out; omega)
            obtain ⟨a0, a1, a2, a3, a4⟩ := hc01
            obtain ⟨b0, b1, b2, b3, b4⟩ := hc02
            have hall2 : ∀ w', Below U.heap.size U w' → (w'.cell? ⟨g1, o1, none⟩ = some (.string xm) ∧ w'.cell? ⟨g1, o1 + 1, none⟩ = some (.string xs) ∧ w'.cell? ⟨g1, o1 + 2, none⟩ = some (.bool xd) ∧ w'.cell? ⟨g1, o1 + 3, none⟩ = some (.int .i64 xa) ∧ w'.cell? ⟨g1, o1 + 4, none⟩ = some (.int .i64 xe)) ∧ w'.cell? ⟨g2, o2, none⟩ = some (.string zm) ∧ w'.cell? ⟨g2, o2 + 1, none⟩ = some (.string zs) ∧ w'.cell? ⟨g2, o2 + 2, none⟩ = some (.bool zd) ∧ w'.cell? ⟨g2, o2 + 3, none⟩ = some (.int .i64 za) ∧ w'.cell? ⟨g2, o2 + 4, none⟩ = some (.int .i64 ze) := fun w' hb => by
              have hb2 : Below wr.heap.size wr w' := HAL.out.trans (hb.mono (by have := HUS.out; omega))
              exact ⟨⟨(hb2.cell (p := ⟨g1, _, none⟩) hgw1).trans a0, (hb2.cell (p := ⟨g1, _, none⟩) hgw1).trans a1, (hb2.cell (p := ⟨g1, _, none⟩) hgw1).trans a2, (hb2.cell (p := ⟨g1, _, none⟩) hgw1).trans a3, (hb2.cell (p := ⟨g1, _, none⟩) hgw1).trans a4⟩, (hb2.cell (p := ⟨g2, _, none⟩) hgw2).trans b0, (hb2.cell (p := ⟨g2, _, none⟩) hgw2).trans b1, (hb2.cell (p := ⟨g2, _, none⟩) hgw2).trans b2, (hb2.cell (p := ⟨g2, _, none⟩) hgw2).trans b3, (hb2.cell (p := ⟨g2, _, none⟩) hgw2).trans b4⟩
            have HALL2 := Lib.hid hall2; have HRUN2 := Lib.hid hrun2
            have w1 := W1_.out
            have w2 := W2_.out
            clear hla hlb hrun2 r1' r2' hcc1 hcc2 hx0 hy0 hall2 e1 e2 a0 a1 a2 a3 a4 b0 b1 b2 b3 b4 hyx
            go_wp2_with fail
            rw [← hU]
            clear hU
            have HALL := Lib.hid (fun w' hb => (HALL2.out w' hb).1)
            refine wp_region_held_drew (S := fun w' => Below U.heap.size U w') (by kernel_rfl) ?_ (fun hHeld => ?_)
            · exact (Below.refl _ _).drew
            refine takesH [0, 1, 2, 3, 4, 5, 6, 7, 8, 9, 10, 11, 12, 13, 14] ?_
            repeat
              refine takesH_one (v := ?_) ?_ ?_
              rotate_left
              · first | (refine Or.inr ⟨by rfl, ?_⟩; with_reducible rfl) | (refine Or.inl ⟨by rfl, ?_⟩; intro wx hSw; (try dsimp only at hSw); first | (go_simp; first | done | with_reducible rfl) | (obtain ⟨⟨_, _, _, _, _⟩, _, _, _, _, _⟩ := HALL2.out _ hSw; go_simp; first | done | with_reducible rfl))
              try simp only [Act.put, List.getElem_toArray, List.getElem_cons_succ, List.getElem_cons_zero, List.setIfInBounds_toArray, List.set_cons_zero, List.set_cons_succ]
            refine takesH_nil ?_
            refine wpAnyH_ready (rs := [15]) (by kernel_rfl) (by simp) (AllReadyH.cons rfl (fun K hK => ?_) AllReadyH.nil)
            go_simp
            refine (byname_any _ _ _ _ _ _ _ _ _ _ _).mono ?_
            rintro x v1 ⟨rfl, b1⟩
            try go_wp2_with fail
            refine hK.out _ _ ?_ (fun hHeld => ?_)
            · exact next (by assumption) b1
            clear hK K
            try simp only [Act.put, List.getElem_toArray, List.getElem_cons_succ, List.getElem_cons_zero, List.setIfInBounds_toArray, List.set_cons_zero, List.set_cons_succ]
            refine takesH [16, 17, 18] ?_
            repeat
              refine takesH_one (v := ?_) ?_ ?_
              rotate_left
              · first | (refine Or.inr ⟨by rfl, ?_⟩; with_reducible rfl) | (refine Or.inl ⟨by rfl, ?_⟩; intro wx hSw; (try dsimp only at hSw); first | (go_simp; first | done | with_reducible rfl))
              try simp only [Act.put, List.getElem_toArray, List.getElem_cons_succ, List.getElem_cons_zero, List.setIfInBounds_toArray, List.set_cons_zero, List.set_cons_succ]
            refine takesH_nil ?_
            refine wpAnyH_done (by kernel_rfl) ?_ _
            clear t1
            clear w1 w2
            have hlow : Below U.heap.size U v1 := hHeld
            obtain ⟨_, _, _, _, _⟩ := HALL.out _ hlow
            have hq := (hlow.block wr.heap.size (by have := HUS.out; omega)).trans HZ.out
            have z0 := cell_at (i := 0) hq rfl
            have z1 := cell_at (i := 1) hq rfl
            have z2 := cell_at (i := 2) hq rfl
            have z3 := cell_at (i := 3) hq rfl
            have z4 := cell_at (i := 4) hq rfl
            have y0 := thawed_at (i := 0) hq
            have y1 := thawed_at (i := 1) hq
            have y2 := thawed_at (i := 2) hq
            have y3 := thawed_at (i := 3) hq
            have y4 := thawed_at (i := 4) hq
            have hq4 := Joins.block_setCell (i := 4) (Joins.block_setCell (i := 3) (Joins.block_setCell (i := 2) (Joins.block_setCell (i := 1) (Joins.block_setCell (i := 0) hq (.string xm)) (.string xs)) (.bool xd)) (.int .i64 xa)) (.int .i64 xe)
            have hle : wr.heap.size ≤ wr.heap.size := Nat.le_refl _
            have hb4 := (((((HAL.out.trans (hlow.mono (by have := HUS.out; omega))).setCell (p := ⟨wr.heap.size, 0, none⟩) hle (.string xm)).setCell (p := ⟨wr.heap.size, 1, none⟩) hle (.string xs)).setCell (p := ⟨wr.heap.size, 2, none⟩) hle (.bool xd)).setCell (p := ⟨wr.heap.size, 3, none⟩) hle (.int .i64 xa)).setCell (p := ⟨wr.heap.size, 4, none⟩) hle (.int .i64 xe)
            have HQ4_ := Lib.hid hq4; have HB4_ := Lib.hid hb4
            clear hq hq4 hb4 hle
            go_wp2_with fail
            go_region
            obtain ⟨w4, hw4⟩ : ∃ w4, w4 = (((((World.setCell v1 ⟨wr.heap.size, 0, none⟩ (.string xm)).setCell ⟨wr.heap.size, 1, none⟩ (.string xs)).setCell ⟨wr.heap.size, 2, none⟩ (.bool xd)).setCell ⟨wr.heap.size, 3, none⟩ (.int .i64 xa)).setCell ⟨wr.heap.size, 4, none⟩ (.int .i64 xe)).drew := ⟨_, rfl⟩
            rw [← hw4]
            have HQ4 : Hid (w4.heap[wr.heap.size]? = some (.cells #[.string xm, .string xs, .bool xd, .int .i64 xa, .int .i64 xe] 66 (0, 0))) := Lib.hid (by rw [hw4]; exact HQ4_.out)
            have HB4 : Hid (Below wr.heap.size wr w4) := Lib.hid (by rw [hw4]; first | exact HB4_.out.drew.drew | exact HB4_.out.drew)
            clear hw4 HQ4_ HB4_ z0 z1 z2 z3 z4 y0 y1 y2 y3 y4
            have hcv := HCUR.out.on HB4.out
            rw [HM.out] at hcv
            have HCV := Lib.hid hcv
            have HS4 := Lib.hid HB4.out.size
            clear hcv
            rcases List.eq_nil_or_concat M with hM | ⟨L, ⟨ym, ⟨ys, yd, ya, ye⟩⟩, hM⟩
            · have hp : pushC M (xm, ⟨xs, xd, xa, xe⟩) = M ++ [(xm, ⟨xs, xd, xa, xe⟩)] := by rw [hM]; rfl
              have hm0 : m = 0 := by rw [← HM.out, hM]; rfl
              have S1 := Lib.hid (show IntKind.i64.wrap ((m : Int) - 1) = -1 by rw [IntKind.wrap_i64]; omega)
              have S2 := Lib.hid (show wrap64 ((m : Int) - 1) = -1 by unfold wrap64; omega)
              have HP := Lib.hid hp
              have hall4 : ∀ w', Below w4.heap.size w4 w' → w'.cell? ⟨wr.heap.size, 0, none⟩ = some (.string xm) ∧ w'.cell? ⟨wr.heap.size, 0 + 1, none⟩ = some (.string xs) ∧ w'.cell? ⟨wr.heap.size, 0 + 2, none⟩ = some (.bool xd) ∧ w'.cell? ⟨wr.heap.size, 0 + 3, none⟩ = some (.int .i64 xa) ∧ w'.cell? ⟨wr.heap.size, 0 + 4, none⟩ = some (.int .i64 xe) := fun w' hb => by
                have hq := (hb.block wr.heap.size (Array.getElem?_eq_some_iff.1 HQ4.out).1).trans HQ4.out
                exact ⟨cell_at hq rfl, cell_at hq rfl, cell_at hq rfl, cell_at hq rfl, cell_at hq rfl⟩
              have HALL4 := Lib.hid hall4
              have s1 := S1.out
              have s2 := S2.out
              clear hm0 hM hp hall4
              go_wp2_with fail
              refine wp_region_held_drew (S := fun w' => Below w4.heap.size w4 w') (by kernel_rfl) ?_ (fun hHeld => ?_)
              · exact (Below.refl _ _).drew
              refine takesH [0, 1, 2, 3, 4, 5, 6, 7, 8, 9, 10, 11] ?_
              repeat
                refine takesH_one (v := ?_) ?_ ?_
                rotate_left
                · first | (refine Or.inr ⟨by rfl, ?_⟩; with_reducible rfl) | (refine Or.inl ⟨by rfl, ?_⟩; intro wx hSw; (try dsimp only at hSw); first | (go_simp; first | done | with_reducible rfl))
                try simp only [Act.put, List.getElem_toArray, List.getElem_cons_succ, List.getElem_cons_zero, List.setIfInBounds_toArray, List.set_cons_zero, List.set_cons_succ]
              refine takesH_nil ?_
              refine wpAnyH_done (by kernel_rfl) ?_ _
              have hl8 : Below w4.heap.size w4 w4.drew := (Below.refl _ _).drew
              generalize w4.drew = w8 at hl8 ⊢
              obtain ⟨_, _, _, _, _⟩ := HALL4.out _ hl8
              clear s1 s2
              have hcw := (HCV.out.on hl8).on ((Below.refl _ _).alloc (Nat.le_refl _) (.cells #[.string xm, .string xs, .bool xd, .int .i64 xa, .int .i64 xe] 66))
              have hk1 := RdK.one w8 (xm, ⟨xs, xd, xa, xe⟩) (w8).heap.size rfl
              have HCW := Lib.hid hcw; have HK1 := Lib.hid hk1
              clear hcw hk1 hl8
              go_wp2_with (at_builtin; refine list_ex rfl (.tmp 78) (.tmp 80) _ _ rfl (.slice A0 m c0) (.slice (some ⟨(w8).heap.size, 0, none⟩) 1 1) rfl rfl (run_appK w.heap.size HCW.out.own HK1.out ?s1 ?s2) ?_)
              case s1 => have h9 := HM.out; (try simp at h9); (try simp); omega
              case s2 => simpa using HCW.out.below.size
              intro v3 w3 ho3 hg3 hloc3
              obtain ⟨A3, m3, c3, rfl, hc3⟩ := HCW.out.appN ho3 hg3
              have HC3 := Lib.hid hc3
              clear hc3 ho3 hg3 hloc3
              go_wp2
              go_roundw
              case rel => exact ⟨_, _, _, _, _, _, _, _, _, rfl, rfl, RA.out, RB.out, by omega, by omega, HSUM2.out, HRUN2.out, by rw [HP.out]; exact HC3.out⟩
              case measure => simp [lenS]; omega
            · rw [List.concat_eq_append] at hM
              have HMM := Lib.hid hM
              clear hM
              obtain ⟨u, hu⟩ : ∃ u, L.length = u := ⟨_, rfl⟩
              have hm1 : m = u + 1 := by rw [← HM.out, HMM.out, ← hu]; simp
              have S1 := Lib.hid (show IntKind.i64.wrap ((m : Int) - 1) = (u : Int) by rw [IntKind.wrap_i64]; omega)
              have S2 := Lib.hid (show wrap64 ((m : Int) - 1) = (u : Int) by unfold wrap64; omega)
              obtain ⟨g5, rfl, hg5, hg5', hy5, hf5⟩ := HCV.out.last HMM.out
              rw [hu] at hy5
              have hall4 : ∀ w', Below w4.heap.size w4 w' → (w'.cell? ⟨g5, u * 5, none⟩ = some (.string ym) ∧ w'.cell? ⟨g5, u * 5 + 1, none⟩ = some (.string ys) ∧ w'.cell? ⟨g5, u * 5 + 2, none⟩ = some (.bool yd) ∧ w'.cell? ⟨g5, u * 5 + 3, none⟩ = some (.int .i64 ya) ∧ w'.cell? ⟨g5, u * 5 + 4, none⟩ = some (.int .i64 ye)) ∧ w'.cell? ⟨wr.heap.size, 0, none⟩ = some (.string xm) ∧ w'.cell? ⟨wr.heap.size, 0 + 1, none⟩ = some (.string xs) ∧ w'.cell? ⟨wr.heap.size, 0 + 2, none⟩ = some (.bool xd) ∧ w'.cell? ⟨wr.heap.size, 0 + 3, none⟩ = some (.int .i64 xa) ∧ w'.cell? ⟨wr.heap.size, 0 + 4, none⟩ = some (.int .i64 xe) := fun w' hb => by
                have hq := (hb.block wr.heap.size (Array.getElem?_eq_some_iff.1 HQ4.out).1).trans HQ4.out
                obtain ⟨a0, a1, a2, a3, a4⟩ := hy5
                exact ⟨⟨(hb.cell (p := ⟨g5, _, none⟩) hg5').trans a0, (hb.cell (p := ⟨g5, _, none⟩) hg5').trans a1, (hb.cell (p := ⟨g5, _, none⟩) hg5').trans a2, (hb.cell (p := ⟨g5, _, none⟩) hg5').trans a3, (hb.cell (p := ⟨g5, _, none⟩) hg5').trans a4⟩, cell_at hq rfl, cell_at hq rfl, cell_at hq rfl, cell_at hq rfl, cell_at hq rfl⟩
              have HALL4 := Lib.hid hall4
              have i5 : (u : Int) < m := by omega
              have i6 : (0 : Int) ≤ u := by omega
              have i7 : decide ((0 : Int) ≤ (u : Int)) = true := by simp
              have HU := Lib.hid hu; have HM1 := Lib.hid hm1
              clear hall4 hu hm1 hy5 hf5
              by_cases hn : ym = xm
              · have t0 : (tcmp ym xm == 0) = true := by rw [beq_iff_eq]; exact tcmp_zero.2 hn
                have hp : pushC M (xm, ⟨xs, xd, xa, xe⟩) = L ++ [(ym, Ce.join ⟨ys, yd, ya, ye⟩ ⟨xs, xd, xa, xe⟩)] := by rw [HMM.out, pushC_last]; exact if_pos hn
                have HP := Lib.hid hp
                have s1 := S1.out
                have s2 := S2.out
                clear hp hn
                go_wp2_with fail
                refine wp_region_held_drew (S := fun w' => Below w4.heap.size w4 w') (by kernel_rfl) ?_ (fun hHeld => ?_)
                · exact (Below.refl _ _).drew
                refine takesH [0, 1, 2, 3, 4, 5, 6, 7, 8] ?_
                repeat
                  refine takesH_one (v := ?_) ?_ ?_
                  rotate_left
                  · first | (refine Or.inr ⟨by rfl, ?_⟩; with_reducible rfl) | (refine Or.inl ⟨by rfl, ?_⟩; intro wx hSw; (try dsimp only at hSw); first | (go_simp; first | done | with_reducible rfl) | (obtain ⟨⟨_, _, _, _, _⟩, _, _, _, _, _⟩ := HALL4.out _ hSw; go_simp; first | done | with_reducible rfl))
                  try simp only [Act.put, List.getElem_toArray, List.getElem_cons_succ, List.getElem_cons_zero, List.setIfInBounds_toArray, List.set_cons_zero, List.set_cons_succ]
                refine takesH_nil ?_
                refine wpAnyH_ready (rs := [9]) (by kernel_rfl) (by simp) (AllReadyH.cons rfl (fun K hK => ?_) AllReadyH.nil)
                go_simp
                refine (byname_any _ _ _ _ _ _ _ _ _ _ _).mono ?_
                rintro x v1 ⟨rfl, b1⟩
                try go_wp2_with fail
                refine hK.out _ _ ?_ (fun hHeld => ?_)
                · exact next (by assumption) b1
                clear hK K
                try simp only [Act.put, List.getElem_toArray, List.getElem_cons_succ, List.getElem_cons_zero, List.setIfInBounds_toArray, List.set_cons_zero, List.set_cons_succ]
                refine takesH [10, 11] ?_
                repeat
                  refine takesH_one (v := ?_) ?_ ?_
                  rotate_left
                  · first | (refine Or.inr ⟨by rfl, ?_⟩; with_reducible rfl) | (refine Or.inl ⟨by rfl, ?_⟩; intro wx hSw; (try dsimp only at hSw); first | (go_simp; first | done | with_reducible rfl))
                  try simp only [Act.put, List.getElem_toArray, List.getElem_cons_succ, List.getElem_cons_zero, List.setIfInBounds_toArray, List.set_cons_zero, List.set_cons_succ]
                refine takesH_nil ?_
                refine wpAnyH_done (by kernel_rfl) ?_ _
                obtain ⟨⟨_, _, _, _, _⟩, _, _, _, _, _⟩ := HALL4.out _ hHeld
                clear s1 s2
                have HH := Lib.hid hHeld
                clear hHeld
                go_wp2_with fail
                go_region_with (first
                  | (go_at_call 58; refine (joincols_any _ _ _ _ _ _ _ _ _ _ _).mono ?_; rintro x v5 ⟨js, jd, ja, je, hje, rfl, b5⟩
                     have b5' := next HH.out (next (w := v1) (by first | exact (Below.refl _ _).drew | exact below_draws _ _ _ | exact Below.refl _ _) b5)
                     obtain ⟨⟨_, _, _, _, _⟩, _, _, _, _, _⟩ := HALL4.out _ b5'
                     have hcl := HCV.out.on b5'
                     obtain ⟨g6, e6, _, _, _, hfz⟩ := hcl.last HMM.out
                     cases e6
                     have f0 := hfz (u * 5)
                     have f1 := hfz (u * 5 + 1)
                     have f2 := hfz (u * 5 + 2)
                     have f3 := hfz (u * 5 + 3)
                     have f4 := hfz (u * 5 + 4)
                     have HCL := Lib.hid hcl
                     have HJE := Lib.hid hje
                     clear hcl hfz hje))
                all_goals
                  have hput := HCL.out.put HMM.out HU.out ym js jd ja je
                  rw [← HJE.out] at hput
                  generalize hw6 : (((((v5.setCell ⟨g5, u * 5, none⟩ (.string ym)).setCell ⟨g5, u * 5 + 1, none⟩ (.string js)).setCell ⟨g5, u * 5 + 2, none⟩ (.bool jd)).setCell ⟨g5, u * 5 + 3, none⟩ (.int .i64 ja)).setCell ⟨g5, u * 5 + 4, none⟩ (.int .i64 je)) = w6 at hput ⊢
                  have HPUT := Lib.hid hput
                  clear hput f0 f1 f2 f3 f4 b5 b5' hw6
                  go_wp2
                  go_roundw
                  case rel => exact ⟨_, _, _, _, _, _, _, _, _, rfl, rfl, RA.out, RB.out, by omega, by omega, HSUM2.out, HRUN2.out, by rw [HP.out]; exact HPUT.out⟩
                  case measure => simp [lenS]; omega
              · have t0 : (tcmp ym xm == 0) = false := by rw [beq_eq_false_iff_ne]; exact fun h => hn (tcmp_zero.1 h)
                have hp : pushC M (xm, ⟨xs, xd, xa, xe⟩) = M ++ [(xm, ⟨xs, xd, xa, xe⟩)] := by rw [HMM.out, pushC_last]; exact if_neg hn
                have HP := Lib.hid hp
                have s1 := S1.out
                have s2 := S2.out
                clear hp hn
                go_wp2_with fail
                refine wp_region_held_drew (S := fun w' => Below w4.heap.size w4 w') (by kernel_rfl) ?_ (fun hHeld => ?_)
                · exact (Below.refl _ _).drew
                refine takesH [0, 1, 2, 3, 4, 5, 6, 7, 8] ?_
                repeat
                  refine takesH_one (v := ?_) ?_ ?_
                  rotate_left
                  · first | (refine Or.inr ⟨by rfl, ?_⟩; with_reducible rfl) | (refine Or.inl ⟨by rfl, ?_⟩; intro wx hSw; (try dsimp only at hSw); first | (go_simp; first | done | with_reducible rfl) | (obtain ⟨⟨_, _, _, _, _⟩, _, _, _, _, _⟩ := HALL4.out _ hSw; go_simp; first | done | with_reducible rfl))
                  try simp only [Act.put, List.getElem_toArray, List.getElem_cons_succ, List.getElem_cons_zero, List.setIfInBounds_toArray, List.set_cons_zero, List.set_cons_succ]
                refine takesH_nil ?_
                refine wpAnyH_ready (rs := [9]) (by kernel_rfl) (by simp) (AllReadyH.cons rfl (fun K hK => ?_) AllReadyH.nil)
                go_simp
                refine (byname_any _ _ _ _ _ _ _ _ _ _ _).mono ?_
                rintro x v1 ⟨rfl, b1⟩
                try go_wp2_with fail
                refine hK.out _ _ ?_ (fun hHeld => ?_)
                · exact next (by assumption) b1
                clear hK K
                try simp only [Act.put, List.getElem_toArray, List.getElem_cons_succ, List.getElem_cons_zero, List.setIfInBounds_toArray, List.set_cons_zero, List.set_cons_succ]
                refine takesH [10, 11] ?_
                repeat
                  refine takesH_one (v := ?_) ?_ ?_
                  rotate_left
                  · first | (refine Or.inr ⟨by rfl, ?_⟩; with_reducible rfl) | (refine Or.inl ⟨by rfl, ?_⟩; intro wx hSw; (try dsimp only at hSw); first | (go_simp; first | done | with_reducible rfl))
                  try simp only [Act.put, List.getElem_toArray, List.getElem_cons_succ, List.getElem_cons_zero, List.setIfInBounds_toArray, List.set_cons_zero, List.set_cons_succ]
                refine takesH_nil ?_
                refine wpAnyH_done (by kernel_rfl) ?_ _
                have hl8 := hHeld
                obtain ⟨⟨_, _, _, _, _⟩, _, _, _, _, _⟩ := HALL4.out _ hHeld
                clear s1 s2
                have hcw := (HCV.out.on hl8).on ((Below.refl _ _).alloc (Nat.le_refl _) (.cells #[.string xm, .string xs, .bool xd, .int .i64 xa, .int .i64 xe] 66))
                have hk1 := RdK.one v1 (xm, ⟨xs, xd, xa, xe⟩) (v1).heap.size rfl
                have HCW := Lib.hid hcw; have HK1 := Lib.hid hk1
                clear hcw hk1 hl8
                go_wp2_with (at_builtin; refine list_ex rfl (.tmp 78) (.tmp 80) _ _ rfl (.slice (some ⟨g5, 0, none⟩) m c0) (.slice (some ⟨(v1).heap.size, 0, none⟩) 1 1) rfl rfl (run_appK w.heap.size HCW.out.own HK1.out ?s1 ?s2) ?_)
                case s1 => have h9 := HM.out; (try simp at h9); (try simp); omega
                case s2 => simpa using HCW.out.below.size
                intro v3 w3 ho3 hg3 hloc3
                obtain ⟨A3, m3, c3, rfl, hc3⟩ := HCW.out.appN ho3 hg3
                have HC3 := Lib.hid hc3
                clear hc3 ho3 hg3 hloc3
                go_wp2
                go_roundw
                case rel => exact ⟨_, _, _, _, _, _, _, _, _, rfl, rfl, RA.out, RB.out, by omega, by omega, HSUM2.out, HRUN2.out, by rw [HP.out]; exact HC3.out⟩
                case measure => simp [lenS]; omega
end Go.Proofs.Ytafbbojfifcncaa
