/-
  PartSees: for every input the law returns true, and each argument reads as it read. No condition.
-/
import Derived.Test.YtafbbojfifcncaaPd3
import Derived.Test.YtafbbojfifcncaaRo2
import Derived.Deep.RegionHeld3
import Derived.Test.YtafbbojfifcncaaLawPSeesA
import Derived.Deep.DeepCutAuto
import Derived.Deep.CutBlock
import Derived.Deep.RegionWith
import Derived.Test.YtafbbojfifcncaaProg
import Derived.ProofKit
import Derived.OpenShut
import Derived.ChangeOld
import Derived.Carry
import Derived.Test.YtafbbojfifcncaaCeZ
import Derived.Lib.SmallJoins
import Derived.Test.YtafbbojfifcncaaRows
import Derived.WalkKit
import Derived.ShutString
import Derived.Below
set_option linter.unusedVariables false
set_option linter.unusedSimpArgs false
namespace Go.Proofs.Ytafbbojfifcncaa
open Go Go.RowKit

theorem rsame_ra (x y : RA) (B B' : Nat) (w : World) (h : RaIn w B x) (h' : RaIn w B' y) (hB : B ≤ w.heap.size) (hB' : B' ≤ w.heap.size) (hn : x.ro.cols.length ≤ 1000) (hn' : y.ro.cols.length ≤ 1000) :
    Calls Try.prog 41 #[.agg #[.string x.ro.key, .string x.ro.live.s, .bool x.ro.live.d, .int .i64 x.ro.live.a, .int .i64 x.ro.live.e, .int .i64 x.ro.gone, .int .i64 x.ro.shade, .slice x.A x.ro.cols.length x.c], .agg #[.string y.ro.key, .string y.ro.live.s, .bool y.ro.live.d, .int .i64 y.ro.live.a, .int .i64 y.ro.live.e, .int .i64 y.ro.gone, .int .i64 y.ro.shade, .slice y.A y.ro.cols.length y.c]] w fun e w' => e = .returned (.bool (x.ro.same y.ro)) ∧ Below w.heap.size w w' :=
  rsamerow_any x.ro.key x.ro.live.s y.ro.key y.ro.live.s x.ro.live.d y.ro.live.d x.ro.live.a x.ro.live.e x.ro.gone x.ro.shade y.ro.live.a y.ro.live.e y.ro.gone y.ro.shade x.A y.A x.ro.cols.length x.c y.ro.cols.length y.c B B' x.ro.cols y.ro.cols w h.rd h'.rd hB hB' (by omega) (by omega)
set_option maxRecDepth 8000 in
set_option maxHeartbeats 4000000 in
theorem rsamerows_any (A A' : Option Addr) (n n' c c' B B' : Nat) (L M : List RA) (w : World) (h : Lies w B A n c L) (h' : Lies w B' A' n' c' M) (hB : B ≤ w.heap.size) (hB' : B' ≤ w.heap.size) (hn : n ≤ 1000000) (hn' : n' ≤ 1000000) (hf : ∀ x ∈ L, x.ro.cols.length ≤ 1000) (hf' : ∀ x ∈ M, x.ro.cols.length ≤ 1000) :
    Calls Try.prog 20 #[.slice A n c, .slice A' n' c'] w fun e w' => e = .returned (.bool (decide (ros L = ros M))) ∧ Below w.heap.size w w' := by
  have hl := h.len
  have hl' := h'.len
  obtain ⟨v, hv⟩ : ∃ v : Bool, decide (ros L = ros M) = v := ⟨_, rfl⟩
  rw [hv]
  have HV := Lib.hid hv
  clear hv
  by_cases hne : n = n'
  · subst hne
    have HL := Lib.hid hl
    have HL' := Lib.hid hl'
    have HH := Lib.hid h; have HH' := Lib.hid h'
    have HF := Lib.hid hf; have HF' := Lib.hid hf'
    clear hl hl' h h' hf hf'
    go_enter Try.func20, Try.ntmps20
    go_wp2
    go_loopw [5] (fun i wr => ∃ t : Nat, t ≤ n ∧ i = .int .i64 t ∧ ros (L.take t) = ros (M.take t) ∧ Below w.heap.size w wr) (fun i _ => n - (intOf i).toNat)
    case atStart => exact ⟨0, Nat.zero_le _, rfl, rfl, Below.refl _ _⟩
    case round =>
      obtain ⟨t, ht, rfl, hz, hb⟩ := hrel
      have HZ := Lib.hid hz; have HB := Lib.hid hb
      clear hz hb
      by_cases hlt : t < n
      · have i1 : (t : Int) < n := by omega
        have i0 : (0 : Int) ≤ t := by omega
        have htl : t < L.length := by rw [HL.out]; exact hlt
        have htl' : t < M.length := by rw [HL'.out]; exact hlt
        obtain ⟨g, o, rfl, hgb⟩ := HH.out.rd.ex (by omega)
        obtain ⟨g', o', rfl, hgb'⟩ := HH'.out.rd.ex (by omega)
        have hrow := (HH.out.below (HB.out.mono hB)).rd.row htl
        have hrow' := (HH'.out.below (HB.out.mono hB')).rd.row htl'
        have hin := (HH.out.below (HB.out.mono hB)).held L[t] (List.getElem_mem htl)
        have hin' := (HH'.out.below (HB.out.mono hB')).held M[t] (List.getElem_mem htl')
        have hcl := HF.out L[t] (List.getElem_mem htl)
        have hcl' := HF'.out M[t] (List.getElem_mem htl')
        have htk := ros_take htl
        have htk' := ros_take htl'
        have hne : L[t].ro ≠ M[t].ro → v = false := fun hh => by
          rw [← HV.out, decide_eq_false_iff_not]
          intro he
          refine hh ?_
          have h1 : (ros L)[t]? = (ros M)[t]? := by rw [he]
          rw [List.getElem?_map, List.getElem?_map, List.getElem?_eq_getElem htl, List.getElem?_eq_getElem htl'] at h1
          injection h1
        obtain ⟨x, hx⟩ : ∃ x, L[t] = x := ⟨_, rfl⟩
        obtain ⟨y, hy⟩ : ∃ y, M[t] = y := ⟨_, rfl⟩
        rw [hx] at hrow hin hcl htk hne
        rw [hy] at hrow' hin' hcl' htk' hne
        obtain ⟨u, hu⟩ : ∃ u, x.ro.same y.ro = u := ⟨_, rfl⟩
        have HRX := Lib.hid hrow; have HRY := Lib.hid hrow'; have HU := Lib.hid hu; have HTK := Lib.hid htk; have HTK' := Lib.hid htk'; have HNE := Lib.hid hne
        have HIN := Lib.hid hin; have HIN' := Lib.hid hin'; have HCL := Lib.hid hcl; have HCL' := Lib.hid hcl'
        have HGW : Hid (g < wr.heap.size) := Lib.hid (by have := HB.out.size; omega)
        have HGW' : Hid (g' < wr.heap.size) := Lib.hid (by have := HB.out.size; omega)
        have HUB : Hid (B ≤ wr.heap.size) := Lib.hid (Nat.le_trans hB HB.out.size)
        have HUB' : Hid (B' ≤ wr.heap.size) := Lib.hid (Nat.le_trans hB' HB.out.size)
        clear hrow hrow' hu htk htk' hne hin hin' hcl hcl' hx hy
        go_wp2_with fail
        refine wp_region_held_drew (S := fun w' => Below wr.heap.size wr w') (by kernel_rfl) ?_ (fun hHeld => ?_)
        · exact (Below.refl _ _).drew
        refine wpAnyH_take (i := 0) (v := ?_) rfl (by kernel_rfl) (by kernel_rfl) (by kernel_rfl) (fun _ _ _ h => h) (Or.inl ⟨by rfl, ?_⟩) (by assumption) ?_
        rotate_left
        · (intro wx hSw; (try dsimp only at hSw); go_simp; try with_reducible rfl)
        try simp only [Act.put, List.getElem_toArray, List.getElem_cons_succ, List.getElem_cons_zero, List.setIfInBounds_toArray, List.set_cons_zero, List.set_cons_succ]
        refine wpAnyH_take (i := 1) (v := ?_) rfl (by kernel_rfl) (by kernel_rfl) (by kernel_rfl) (fun _ _ _ h => h) (Or.inl ⟨by rfl, ?_⟩) (by assumption) ?_
        rotate_left
        · (intro wx hSw; (try dsimp only at hSw); go_simp; try with_reducible rfl)
        try simp only [Act.put, List.getElem_toArray, List.getElem_cons_succ, List.getElem_cons_zero, List.setIfInBounds_toArray, List.set_cons_zero, List.set_cons_succ]
        refine wpAnyH_take (i := 2) (v := ?_) rfl (by kernel_rfl) (by kernel_rfl) (by kernel_rfl) (fun _ _ _ h => h) (Or.inl ⟨by rfl, ?_⟩) (by assumption) ?_
        rotate_left
        · (intro wx hSw; (try dsimp only at hSw); go_simp; try with_reducible rfl)
        try simp only [Act.put, List.getElem_toArray, List.getElem_cons_succ, List.getElem_cons_zero, List.setIfInBounds_toArray, List.set_cons_zero, List.set_cons_succ]
        refine wpAnyH_take (i := 3) (v := ?_) rfl (by kernel_rfl) (by kernel_rfl) (by kernel_rfl) (fun _ _ _ h => h) (Or.inl ⟨by rfl, ?_⟩) (by assumption) ?_
        rotate_left
        · (intro wx hSw; (try dsimp only at hSw); obtain ⟨_, _, _, _, _, _, _, _⟩ := HRX.out.below hSw HGW.out; go_simp; try with_reducible rfl)
        try simp only [Act.put, List.getElem_toArray, List.getElem_cons_succ, List.getElem_cons_zero, List.setIfInBounds_toArray, List.set_cons_zero, List.set_cons_succ]
        refine wpAnyH_take (i := 4) (v := ?_) rfl (by kernel_rfl) (by kernel_rfl) (by kernel_rfl) (fun _ _ _ h => h) (Or.inl ⟨by rfl, ?_⟩) (by assumption) ?_
        rotate_left
        · (intro wx hSw; (try dsimp only at hSw); go_simp; try with_reducible rfl)
        try simp only [Act.put, List.getElem_toArray, List.getElem_cons_succ, List.getElem_cons_zero, List.setIfInBounds_toArray, List.set_cons_zero, List.set_cons_succ]
        refine wpAnyH_take (i := 5) (v := ?_) rfl (by kernel_rfl) (by kernel_rfl) (by kernel_rfl) (fun _ _ _ h => h) (Or.inl ⟨by rfl, ?_⟩) (by assumption) ?_
        rotate_left
        · (intro wx hSw; (try dsimp only at hSw); go_simp; try with_reducible rfl)
        try simp only [Act.put, List.getElem_toArray, List.getElem_cons_succ, List.getElem_cons_zero, List.setIfInBounds_toArray, List.set_cons_zero, List.set_cons_succ]
        refine wpAnyH_take (i := 6) (v := ?_) rfl (by kernel_rfl) (by kernel_rfl) (by kernel_rfl) (fun _ _ _ h => h) (Or.inl ⟨by rfl, ?_⟩) (by assumption) ?_
        rotate_left
        · (intro wx hSw; (try dsimp only at hSw); go_simp; try with_reducible rfl)
        try simp only [Act.put, List.getElem_toArray, List.getElem_cons_succ, List.getElem_cons_zero, List.setIfInBounds_toArray, List.set_cons_zero, List.set_cons_succ]
        refine wpAnyH_take (i := 7) (v := ?_) rfl (by kernel_rfl) (by kernel_rfl) (by kernel_rfl) (fun _ _ _ h => h) (Or.inl ⟨by rfl, ?_⟩) (by assumption) ?_
        rotate_left
        · (intro wx hSw; (try dsimp only at hSw); obtain ⟨_, _, _, _, _, _, _, _⟩ := HRY.out.below hSw HGW'.out; go_simp; try with_reducible rfl)
        try simp only [Act.put, List.getElem_toArray, List.getElem_cons_succ, List.getElem_cons_zero, List.setIfInBounds_toArray, List.set_cons_zero, List.set_cons_succ]
        refine wpAnyH_ready (rs := [8]) (by kernel_rfl) (by simp) (AllReadyH.cons rfl (fun K hK => ?_) AllReadyH.nil)
        go_simp
        refine (rsame_ra x y B B' _ (HIN.out.below (hHeld.mono HUB.out)) (HIN'.out.below (hHeld.mono HUB'.out)) (Nat.le_trans HUB.out hHeld.size) (Nat.le_trans HUB'.out hHeld.size) HCL.out HCL'.out).mono ?_
        rintro e w1 ⟨rfl, b1⟩
        rw [HU.out]
        try go_wp2_with fail
        refine hK.out _ _ ?_ (fun hHeld => ?_)
        · exact next hHeld b1
        clear hK K
        try simp only [Act.put, List.getElem_toArray, List.getElem_cons_succ, List.getElem_cons_zero, List.setIfInBounds_toArray, List.set_cons_zero, List.set_cons_succ]
        refine wpAnyH_take (i := 9) (v := ?_) rfl (by kernel_rfl) (by kernel_rfl) (by kernel_rfl) (fun _ _ _ h => h) (Or.inl ⟨by rfl, ?_⟩) (by assumption) ?_
        rotate_left
        · (intro wx hSw; (try dsimp only at hSw); go_simp; try with_reducible rfl)
        try simp only [Act.put, List.getElem_toArray, List.getElem_cons_succ, List.getElem_cons_zero, List.setIfInBounds_toArray, List.set_cons_zero, List.set_cons_succ]
        refine wpAnyH_done (by kernel_rfl) ?_ _
        cases u
        · have hv0 : v = false := HNE.out fun he => by have := (rosame_iff _ _).2 he; rw [HU.out] at this; cases this
          subst hv0
          go_wp2
          go_ret
          exact ⟨rfl, next HB.out hHeld⟩
        · go_wp2
          go_roundw
          case rel => exact ⟨t + 1, by omega, by go_num, by rw [HTK.out, HTK'.out, HZ.out, (rosame_iff _ _).1 HU.out], next HB.out hHeld⟩
          case measure => simp [intOf]; omega
      · obtain rfl : t = n := by omega
        have hf : v = true := by
          rw [← HV.out, decide_eq_true_iff]
          have := HZ.out
          rwa [List.take_of_length_le (by rw [HL.out]; exact Nat.le_refl _), List.take_of_length_le (by rw [HL'.out]; exact Nat.le_refl _)] at this
        subst hf
        go_wp2
        go_ret
        exact ⟨rfl, HB.out⟩
  · have hf : v = false := by
      rw [← HV.out, decide_eq_false_iff_not]
      intro he
      have := congrArg List.length he
      rw [List.length_map, List.length_map, hl, hl'] at this
      exact hne this
    subst hf
    have hb : ((n : Int) != n') = true := by rw [bne_iff_ne]; omega
    go_enter Try.func20, Try.ntmps20
    go_wp2
    go_ret
    exact ⟨rfl, Below.refl _ _⟩
set_option maxRecDepth 8000 in
set_option maxHeartbeats 4000000 in
theorem rpsame_any (k k' : ByteArray) (g g' : Int) (A A' : Option Addr) (n n' c c' B B' : Nat) (L M : List RA) (w : World) (h : Lies w B A n c L) (h' : Lies w B' A' n' c' M) (hB : B ≤ w.heap.size) (hB' : B' ≤ w.heap.size) (hn : n ≤ 1000000) (hn' : n' ≤ 1000000) (hf : ∀ x ∈ L, x.ro.cols.length ≤ 1000) (hf' : ∀ x ∈ M, x.ro.cols.length ≤ 1000) :
    Calls Try.prog 13 #[.agg #[.string k, .int .i64 g, .slice A n c], .agg #[.string k', .int .i64 g', .slice A' n' c']] w fun e w' => e = .returned (.bool (psame k g (ros L) k' g' (ros M))) ∧ Below w.heap.size w w' := by
  obtain ⟨r, hrr⟩ : ∃ r, psame k g (ros L) k' g' (ros M) = r := ⟨_, rfl⟩
  rw [hrr]
  have bz := ((Below.refl w.heap.size w).alloc (Nat.le_refl _) (.cells #[.string k, .int .i64 g, .slice A n c] 24)).alloc (by simp) (.cells #[.string k', .int .i64 g', .slice A' n' c'] 24)
  have HL := Lib.hid (h.below (bz.mono hB)); have HL' := Lib.hid (h'.below (bz.mono hB')); have BZ := Lib.hid bz; have HR := Lib.hid hrr; have HF := Lib.hid hf; have HF' := Lib.hid hf'
  clear hrr bz h h' hf hf'
  unfold psame at HR
  cases h1 : (k.toList == k'.toList)
  · have hv : r = false := by rw [← HR.out, h1]; rfl
    subst hv
    go_enter Try.func13, Try.ntmps13
    go_wp2
    go_ret
    exact ⟨rfl, BZ.out⟩
  · cases h3 : (g == g')
    · have hv : r = false := by rw [← HR.out, h1, h3]; rfl
      subst hv
      go_enter Try.func13, Try.ntmps13
      go_wp2
      go_ret
      exact ⟨rfl, BZ.out⟩
    · have hv : decide (ros L = ros M) = r := by rw [← HR.out, h1, h3]; simp
      have HV := Lib.hid hv
      clear hv
      go_enter Try.func13, Try.ntmps13
      go_wp2_with fail
      refine (rsamerows_any A A' n n' c c' B B' L M _ HL.out HL'.out ?hb ?hb' hn hn' HF.out HF'.out).mono ?_
      case hb => simp; omega
      case hb' => simp; omega
      rintro e w2 ⟨rfl, b2⟩
      rw [HV.out]
      go_wp2
      go_ret
      exact ⟨rfl, next BZ.out b2⟩
end Go.Proofs.Ytafbbojfifcncaa
set_option linter.unusedVariables false
set_option linter.unusedSimpArgs false
namespace Go.Proofs.Ytafbbojfifcncaa
open Go Go.RowKit Go.Joins

theorem lowerC {w V w9 : World} {v : Value} {C : Cols} (h : Cur V w9 v C) (hV : Below w.heap.size w V) : Cur w w9 v C := ⟨own_base h.own hV.size, next hV h.below⟩
theorem below_kept {w0 w w' : World} {F : Nat → Prop} (h : Below w0.heap.size w0 w) (hk : Kept F w w') (hF : ∀ k, F k → w0.heap.size ≤ k) : Below w0.heap.size w0 w' :=
  h.trans ⟨hk.os, hk.tape, hk.output, hk.size, fun k hk' => hk.block k (Nat.lt_of_lt_of_le hk' h.size) fun hf => by have := hF k hf; omega⟩
theorem kept_set3h {w : World} {q : Nat} {o : Obj} (h : w.heap[q]? = some o) (u0 u1 u2 : Value) : Kept (fun k => k = q) w (((w.setCell ⟨q, 0, none⟩ u0).setCell ⟨q, 1, none⟩ u1).setCell ⟨q, 2, none⟩ u2) := kept_set3 q u0 u1 u2
theorem slR_lh {w : World} {B n : Nat} {A : Option Addr} {l : List RA} (h : RdR w B A n l) {c : Nat} (hn : n ≤ c) (x y : Int) (lo hi : Nat) (ex : x = (lo : Nat)) (ey : y = (hi : Nat)) (h1 : lo ≤ hi) (h2 : hi ≤ n) :
    ∃ A', (∀ wx : World, (Instr.slice 22 (.slice A n c) (some (.int .i64 x)) (some (.int .i64 y)) none).run Try.prog wx = .ok (.slice A' (hi - lo) (c - lo)) wx) ∧ RdR w B A' (hi - lo) ((l.drop lo).take (hi - lo)) := by
  refine ⟨if c = lo then A else A.map (·.add (lo * 8)), fun wx => ?_, (h.cut (Nat.le_trans h1 h2) hn).pre (by omega)⟩
  obtain ⟨i, hi', hz0, hz1, hz2⟩ := info_parts infoR
  subst ex; subst ey
  rw [run_slice_lh (P := Try.prog) (t := 22) (ht := by rw [elemR]; exact Try.underlying22) (h0 := by omega) (h1 := by omega) (h2 := by omega), elemR]
  simp [sizeOf, typeInfo, hi', hz1, sliced, Result.andThen]
/-- A row's own block of noughts, the columns new. -/
theorem Cur.put8 {w0 w : World} {z : RA} (hc : Cur w0 w (.slice z.A z.ro.cols.length z.c) z.ro.cols) {q : Nat} {v0 v1 v2 v3 v4 v5 v6 v7 : Value} (h : w.heap[q]? = some (.cells #[v0, v1, v2, v3, v4, v5, v6, v7] 36 (0, 0))) (hq : w0.heap.size ≤ q) :
    Cur w0 (World.setCell (World.setCell (World.setCell (World.setCell (World.setCell (World.setCell (World.setCell (World.setCell w ⟨q, 0, none⟩ (.string z.ro.key)) ⟨q, 1, none⟩ (.string z.ro.live.s)) ⟨q, 2, none⟩ (.bool z.ro.live.d)) ⟨q, 3, none⟩ (.int .i64 z.ro.live.a)) ⟨q, 4, none⟩ (.int .i64 z.ro.live.e)) ⟨q, 5, none⟩ (.int .i64 z.ro.gone)) ⟨q, 6, none⟩ (.int .i64 z.ro.shade)) ⟨q, 7, none⟩ (.slice z.A z.ro.cols.length z.c)) (.slice z.A z.ro.cols.length z.c) z.ro.cols :=
  ⟨own_kept hc.own fun g hg => (kept_set80 (w := w) q z).block g (own_block_lt hc.own g hg) (own_ne hc.own h (by decide) g hg), below_set80 hc.below hq z⟩
theorem psees_long (A : Option Addr) (n c : Nat) (v1 : Int) (st : Bool) (w : World) (h : 60 < n) :
    Calls Try.prog 5 #[.slice A n c, .int .i64 v1, .bool st] w fun e w' => e = .returned (.bool true) ∧ Below w.heap.size w w' := by
  have d1 : decide ((60 : Int) < (n : Nat)) = true := by simp; omega
  go_enter Try.func5, Try.ntmps5
  go_wp2_with fail
  refine (pawake_any _).mono ?_
  rintro x w2 ⟨rfl, b2⟩
  go_wp2
  go_ret
  exact ⟨rfl, b2⟩
set_option maxRecDepth 8000 in
set_option maxHeartbeats 16000000 in
theorem psees_short (A : Option Addr) (n c : Nat) (l : List Int) (v1 : Int) (st : Bool) (w : World) (hr : RdZ w w.heap.size A n l) (hnc : n ≤ c) (hc : c ≤ maxLen) (hx : ∀ x ∈ l, (Lit.int .i64 x).wf = true) (h1 : (Lit.int .i64 v1).wf = true) (hn : n ≤ 60) :
    Calls Try.prog 5 #[.slice A n c, .int .i64 v1, .bool st] w fun e w' => e = .returned (.bool true) ∧ Below w.heap.size w w' := by
  have d1 : decide ((60 : Int) < (n : Nat)) = false := by simp; omega
  have HR := Lib.hid hr; have HX := Lib.hid hx; have H1 := Lib.hid h1
  clear hr hx h1
  go_enter Try.func5, Try.ntmps5
  go_wp2_with fail
  refine (several_any A n c l 2 ⟨#[107]⟩ _ HR.out hnc hc HX.out (by omega) (by decide)).mono ?_
  rintro e W0 ⟨Ps, A0, c0, rfl, hlen, hps, hrd, hb0⟩
  obtain ⟨g0, o0, rfl, hg0⟩ := hrd.ex (by omega)
  obtain ⟨P0, P1, rfl⟩ : ∃ P0 P1, Ps = [P0, P1] := by
    match Ps, hlen with
    | [a, b], _ => exact ⟨a, b, rfl⟩
  obtain ⟨hn0, hl0⟩ := hps P0 (by simp)
  obtain ⟨hn1, hl1⟩ := hps P1 (by simp)
  have hc0 : ∀ w', Below W0.heap.size W0 w' → w'.cell? ⟨g0, o0, none⟩ = some (.string ⟨#[107]⟩) ∧ w'.cell? ⟨g0, o0 + 1, none⟩ = some (.int .i64 P0.g) ∧ w'.cell? ⟨g0, o0 + 2, none⟩ = some (.slice P0.A P0.L.length P0.c) := fun w' hb => by
    have h1 := (hrd.below hb).part (j := 0) (by simp)
    simp only [List.getElem_cons_zero, Nat.zero_mul, Nat.add_zero] at h1
    rwa [hn0.1] at h1
  have hc1 : ∀ w', Below W0.heap.size W0 w' → w'.cell? ⟨g0, o0 + 3, none⟩ = some (.string ⟨#[107]⟩) ∧ w'.cell? ⟨g0, o0 + 3 + 1, none⟩ = some (.int .i64 P1.g) ∧ w'.cell? ⟨g0, o0 + 3 + 2, none⟩ = some (.slice P1.A P1.L.length P1.c) := fun w' hb => by
    have h1 := (hrd.below hb).part (j := 1) (by simp)
    simp only [List.getElem_cons_zero, List.getElem_cons_succ, Nat.one_mul] at h1
    rwa [hn1.1] at h1
  have HC0 := Lib.hid hc0; have HC1 := Lib.hid hc1; have HB0 := Lib.hid hb0
  have HI0 := Lib.hid hn0.2; have HI1 := Lib.hid hn1.2; have HL0 := Lib.hid hl0; have HL1 := Lib.hid hl1
  clear hlen hps hrd hn0 hl0 hn1 hl1 hc0 hc1 hb0 HR HX
  go_upto_region 4 with fail
  go_cut [8, 9] (fun s8 s9 wx => ∃ (qa : Nat) (M3 : List RA) (A3 : Option Addr) (n3 c3 : Nat), s8 = .pointer (some ⟨qa, 0, none⟩) ∧ s9 = .bool true ∧ wx.heap[qa]? = some (.cells #[.string ⟨#[107]⟩, .int .i64 (max P0.g P1.g), .slice A3 n3 c3] 24 (0, 0)) ∧ ros M3 = mrgR (ros P0.L) (ros P1.L) ∧ Fresh W0 wx (.slice A3 n3 c3) M3)
  case first =>
    go_wp2_with fail
    refine wp_region_held_drew (S := fun w' => Below W0.heap.size W0 w') (by kernel_rfl) ?_ (fun hHeld => ?_)
    · exact (Below.refl _ _).drew
    refine wpAnyH_take (i := 0) (v := ?_) rfl (by kernel_rfl) (by kernel_rfl) (by kernel_rfl) (fun _ _ _ h => h) (Or.inl ⟨by rfl, ?_⟩) (by assumption) ?_
    rotate_left
    · (intro wx hSw; (try dsimp only at hSw); go_simp; try with_reducible rfl)
    try simp only [Act.put, List.getElem_toArray, List.getElem_cons_succ, List.getElem_cons_zero, List.setIfInBounds_toArray, List.set_cons_zero, List.set_cons_succ]
    refine wpAnyH_take (i := 1) (v := ?_) rfl (by kernel_rfl) (by kernel_rfl) (by kernel_rfl) (fun _ _ _ h => h) (Or.inl ⟨by rfl, ?_⟩) (by assumption) ?_
    rotate_left
    · (intro wx hSw; (try dsimp only at hSw); go_simp; try with_reducible rfl)
    try simp only [Act.put, List.getElem_toArray, List.getElem_cons_succ, List.getElem_cons_zero, List.setIfInBounds_toArray, List.set_cons_zero, List.set_cons_succ]
    refine wpAnyH_take (i := 2) (v := ?_) rfl (by kernel_rfl) (by kernel_rfl) (by kernel_rfl) (fun _ _ _ h => h) (Or.inl ⟨by rfl, ?_⟩) (by assumption) ?_
    rotate_left
    · (intro wx hSw; (try dsimp only at hSw); obtain ⟨_, _, _⟩ := HC0.out _ hSw; go_simp; try with_reducible rfl)
    try simp only [Act.put, List.getElem_toArray, List.getElem_cons_succ, List.getElem_cons_zero, List.setIfInBounds_toArray, List.set_cons_zero, List.set_cons_succ]
    refine wpAnyH_take (i := 3) (v := ?_) rfl (by kernel_rfl) (by kernel_rfl) (by kernel_rfl) (fun _ _ _ h => h) (Or.inl ⟨by rfl, ?_⟩) (by assumption) ?_
    rotate_left
    · (intro wx hSw; (try dsimp only at hSw); go_simp; try with_reducible rfl)
    try simp only [Act.put, List.getElem_toArray, List.getElem_cons_succ, List.getElem_cons_zero, List.setIfInBounds_toArray, List.set_cons_zero, List.set_cons_succ]
    refine wpAnyH_take (i := 4) (v := ?_) rfl (by kernel_rfl) (by kernel_rfl) (by kernel_rfl) (fun _ _ _ h => h) (Or.inl ⟨by rfl, ?_⟩) (by assumption) ?_
    rotate_left
    · (intro wx hSw; (try dsimp only at hSw); go_simp; try with_reducible rfl)
    try simp only [Act.put, List.getElem_toArray, List.getElem_cons_succ, List.getElem_cons_zero, List.setIfInBounds_toArray, List.set_cons_zero, List.set_cons_succ]
    refine wpAnyH_take (i := 5) (v := ?_) rfl (by kernel_rfl) (by kernel_rfl) (by kernel_rfl) (fun _ _ _ h => h) (Or.inl ⟨by rfl, ?_⟩) (by assumption) ?_
    rotate_left
    · (intro wx hSw; (try dsimp only at hSw); obtain ⟨_, _, _⟩ := HC1.out _ hSw; go_simp; try with_reducible rfl)
    try simp only [Act.put, List.getElem_toArray, List.getElem_cons_succ, List.getElem_cons_zero, List.setIfInBounds_toArray, List.set_cons_zero, List.set_cons_succ]
    refine wpAnyH_ready (rs := [6, 10]) (by kernel_rfl) (by simp) (AllReadyH.cons rfl (fun K hK => ?_) (AllReadyH.cons rfl (fun K hK => ?_) AllReadyH.nil))
    · go_simp
      refine (pjoin_in ⟨#[107]⟩ ⟨#[107]⟩ P0.g P1.g P0.A P1.A P0.L.length P1.L.length P0.c P1.c W0.heap.size W0.heap.size P0.L P1.L _ (HL0.out.below hHeld) (HL1.out.below hHeld) hHeld.size hHeld.size HI0.out HI1.out).mono ?_
      rintro e v7 ⟨M3, A3, n3, c3, rfl, hM3, hfr⟩
      have CB := Lib.hid (hHeld.trans (hfr.below.mono hHeld.size))
      have HM3 := Lib.hid hM3
      have HF3 := Lib.hid (hfr.lower hHeld)
      clear hfr hM3
      try go_wp2_with fail
      refine hK.out _ _ ?_ (fun hHeld => ?_)
      · first | exact CB.out | exact hHeld
      clear hK K
      try simp only [Act.put, List.getElem_toArray, List.getElem_cons_succ, List.getElem_cons_zero, List.setIfInBounds_toArray, List.set_cons_zero, List.set_cons_succ]
      refine wpAnyH_take (i := 7) (v := ?_) rfl (by kernel_rfl) (by kernel_rfl) (by kernel_rfl) (fun _ _ _ h => h) (Or.inl ⟨by rfl, ?_⟩) (by assumption) ?_
      rotate_left
      · (intro wx hSw; (try dsimp only at hSw); go_simp; try with_reducible rfl)
      try simp only [Act.put, List.getElem_toArray, List.getElem_cons_succ, List.getElem_cons_zero, List.setIfInBounds_toArray, List.set_cons_zero, List.set_cons_succ]
      refine wpAnyH_take (i := 8) (v := ?_) rfl (by kernel_rfl) (by kernel_rfl) (by kernel_rfl) (fun _ _ _ h => h) (Or.inl ⟨by rfl, ?_⟩) (by assumption) ?_
      rotate_left
      · (intro wx hSw; (try dsimp only at hSw); go_simp; try with_reducible rfl)
      try simp only [Act.put, List.getElem_toArray, List.getElem_cons_succ, List.getElem_cons_zero, List.setIfInBounds_toArray, List.set_cons_zero, List.set_cons_succ]
      refine wpAnyH_take (i := 9) (v := ?_) rfl (by kernel_rfl) (by kernel_rfl) (by kernel_rfl) (fun _ _ _ h => h) (Or.inl ⟨by rfl, ?_⟩) (by assumption) ?_
      rotate_left
      · (intro wx hSw; (try dsimp only at hSw); go_simp; try with_reducible rfl)
      try simp only [Act.put, List.getElem_toArray, List.getElem_cons_succ, List.getElem_cons_zero, List.setIfInBounds_toArray, List.set_cons_zero, List.set_cons_succ]
      refine wpAnyH_ready (rs := [10]) (by kernel_rfl) (by simp) (AllReadyH.cons rfl (fun K hK => ?_) AllReadyH.nil)
      go_simp
      have XZ := Lib.hid (heap_alloc_new v7 (.cells #[.string ⟨#[]⟩, .int .i64 0, .slice none 0 0] 24))
      have CBX : Below W0.heap.size W0 (v7.alloc (.cells #[.string ⟨#[]⟩, .int .i64 0, .slice none 0 0] 24)) := hHeld.alloc hHeld.size _
      have HXQ : Hid (W0.heap.size ≤ v7.heap.size) := Lib.hid hHeld.size
      have HF3 := Lib.hid (HF3.out.on ((Below.refl v7.heap.size v7).alloc (Nat.le_refl _) (.cells #[.string ⟨#[]⟩, .int .i64 0, .slice none 0 0] 24)))
      generalize v7.alloc (.cells #[.string ⟨#[]⟩, .int .i64 0, .slice none 0 0] 24) = wx at *
      refine hK.out _ _ ?_ (fun hHeld => ?_)
      · exact CBX
      clear hK K
      try simp only [Act.put, List.getElem_toArray, List.getElem_cons_succ, List.getElem_cons_zero, List.setIfInBounds_toArray, List.set_cons_zero, List.set_cons_succ]
      refine wpAnyH_ready (rs := [11]) (by kernel_rfl) (by simp) (AllReadyH.cons rfl (fun K hK => ?_) AllReadyH.nil)
      have z0 := cell_at (i := 0) XZ.out rfl
      have z1 := cell_at (i := 1) XZ.out rfl
      have z2 := cell_at (i := 2) XZ.out rfl
      have y0 := thawed_at (i := 0) XZ.out
      have y1 := thawed_at (i := 1) XZ.out
      have y2 := thawed_at (i := 2) XZ.out
      have M9 := Lib.hid (set3_block XZ.out (.string ⟨#[107]⟩) (.int .i64 (max P0.g P1.g)) (.slice A3 n3 c3))
      have K9 := kept_set3h XZ.out (.string ⟨#[107]⟩) (.int .i64 (max P0.g P1.g)) (.slice A3 n3 c3)
      have HF9 := Lib.hid (HF3.out.kept K9 (e := 24) (fun j hj => by subst hj; exact ⟨HXQ.out, _, XZ.out⟩) (by decide) (by decide))
      have CB9 := Lib.hid (below_kept hHeld K9 fun j hj => by subst hj; exact HXQ.out)
      clear K9
      go_simp
      refine hK.out _ _ ?_ (fun hHeld => ?_)
      · exact CB9.out
      clear hK K
      try simp only [Act.put, List.getElem_toArray, List.getElem_cons_succ, List.getElem_cons_zero, List.setIfInBounds_toArray, List.set_cons_zero, List.set_cons_succ]
      refine wpAnyH_take (i := 12) (v := ?_) rfl (by kernel_rfl) (by kernel_rfl) (by kernel_rfl) (fun _ _ _ h => h) (Or.inl ⟨by rfl, ?_⟩) (by assumption) ?_
      rotate_left
      · (intro wx hSw; (try dsimp only at hSw); go_simp; try with_reducible rfl)
      try simp only [Act.put, List.getElem_toArray, List.getElem_cons_succ, List.getElem_cons_zero, List.setIfInBounds_toArray, List.set_cons_zero, List.set_cons_succ]
      refine wpAnyH_done (by kernel_rfl) ?_ _
      go_wp2_with fail
      go_meet
      exact ⟨_, M3, A3, n3, c3, rfl, rfl, M9.out, HM3.out, HF9.out⟩
    · go_simp
      have XZ : Hid (((W0.alloc (.cells #[.string ⟨#[]⟩, .int .i64 0, .slice none 0 0] 24)).drew).heap[W0.heap.size]? = some (.cells #[.string ⟨#[]⟩, .int .i64 0, .slice none 0 0] 24)) := Lib.hid (heap_alloc_new W0 _)
      have CBX : Below W0.heap.size W0 ((W0.alloc (.cells #[.string ⟨#[]⟩, .int .i64 0, .slice none 0 0] 24)).drew) := ((Below.refl W0.heap.size W0).alloc (Nat.le_refl _) _).drew
      have HXQ : Hid (W0.heap.size ≤ W0.heap.size) := Lib.hid (Nat.le_refl _)
      generalize (W0.alloc (.cells #[.string ⟨#[]⟩, .int .i64 0, .slice none 0 0] 24)).drew = wx at *
      refine hK.out _ _ ?_ (fun hHeld => ?_)
      · exact CBX
      clear hK K
      try simp only [Act.put, List.getElem_toArray, List.getElem_cons_succ, List.getElem_cons_zero, List.setIfInBounds_toArray, List.set_cons_zero, List.set_cons_succ]
      refine wpAnyH_ready (rs := [6]) (by kernel_rfl) (by simp) (AllReadyH.cons rfl (fun K hK => ?_) AllReadyH.nil)
      go_simp
      refine (pjoin_in ⟨#[107]⟩ ⟨#[107]⟩ P0.g P1.g P0.A P1.A P0.L.length P1.L.length P0.c P1.c W0.heap.size W0.heap.size P0.L P1.L _ (HL0.out.below hHeld) (HL1.out.below hHeld) hHeld.size hHeld.size HI0.out HI1.out).mono ?_
      rintro e v7 ⟨M3, A3, n3, c3, rfl, hM3, hfr⟩
      have CB := Lib.hid (hHeld.trans (hfr.below.mono hHeld.size))
      have HM3 := Lib.hid hM3
      have HF3 := Lib.hid (hfr.lower hHeld)
      have XZ := Lib.hid ((hfr.below.block _ (Array.getElem?_eq_some_iff.1 XZ.out).1).trans XZ.out)
      clear hfr hM3
      try go_wp2_with fail
      refine hK.out _ _ ?_ (fun hHeld => ?_)
      · first | exact CB.out | exact hHeld
      clear hK K
      try simp only [Act.put, List.getElem_toArray, List.getElem_cons_succ, List.getElem_cons_zero, List.setIfInBounds_toArray, List.set_cons_zero, List.set_cons_succ]
      refine wpAnyH_take (i := 7) (v := ?_) rfl (by kernel_rfl) (by kernel_rfl) (by kernel_rfl) (fun _ _ _ h => h) (Or.inl ⟨by rfl, ?_⟩) (by assumption) ?_
      rotate_left
      · (intro wx hSw; (try dsimp only at hSw); go_simp; try with_reducible rfl)
      try simp only [Act.put, List.getElem_toArray, List.getElem_cons_succ, List.getElem_cons_zero, List.setIfInBounds_toArray, List.set_cons_zero, List.set_cons_succ]
      refine wpAnyH_take (i := 8) (v := ?_) rfl (by kernel_rfl) (by kernel_rfl) (by kernel_rfl) (fun _ _ _ h => h) (Or.inl ⟨by rfl, ?_⟩) (by assumption) ?_
      rotate_left
      · (intro wx hSw; (try dsimp only at hSw); go_simp; try with_reducible rfl)
      try simp only [Act.put, List.getElem_toArray, List.getElem_cons_succ, List.getElem_cons_zero, List.setIfInBounds_toArray, List.set_cons_zero, List.set_cons_succ]
      refine wpAnyH_take (i := 9) (v := ?_) rfl (by kernel_rfl) (by kernel_rfl) (by kernel_rfl) (fun _ _ _ h => h) (Or.inl ⟨by rfl, ?_⟩) (by assumption) ?_
      rotate_left
      · (intro wx hSw; (try dsimp only at hSw); go_simp; try with_reducible rfl)
      try simp only [Act.put, List.getElem_toArray, List.getElem_cons_succ, List.getElem_cons_zero, List.setIfInBounds_toArray, List.set_cons_zero, List.set_cons_succ]
      refine wpAnyH_ready (rs := [11]) (by kernel_rfl) (by simp) (AllReadyH.cons rfl (fun K hK => ?_) AllReadyH.nil)
      have z0 := cell_at (i := 0) XZ.out rfl
      have z1 := cell_at (i := 1) XZ.out rfl
      have z2 := cell_at (i := 2) XZ.out rfl
      have y0 := thawed_at (i := 0) XZ.out
      have y1 := thawed_at (i := 1) XZ.out
      have y2 := thawed_at (i := 2) XZ.out
      have M9 := Lib.hid (set3_block XZ.out (.string ⟨#[107]⟩) (.int .i64 (max P0.g P1.g)) (.slice A3 n3 c3))
      have K9 := kept_set3h XZ.out (.string ⟨#[107]⟩) (.int .i64 (max P0.g P1.g)) (.slice A3 n3 c3)
      have HF9 := Lib.hid (HF3.out.kept K9 (e := 24) (fun j hj => by subst hj; exact ⟨HXQ.out, _, XZ.out⟩) (by decide) (by decide))
      have CB9 := Lib.hid (below_kept hHeld K9 fun j hj => by subst hj; exact HXQ.out)
      clear K9
      go_simp
      refine hK.out _ _ ?_ (fun hHeld => ?_)
      · exact CB9.out
      clear hK K
      try simp only [Act.put, List.getElem_toArray, List.getElem_cons_succ, List.getElem_cons_zero, List.setIfInBounds_toArray, List.set_cons_zero, List.set_cons_succ]
      refine wpAnyH_take (i := 12) (v := ?_) rfl (by kernel_rfl) (by kernel_rfl) (by kernel_rfl) (fun _ _ _ h => h) (Or.inl ⟨by rfl, ?_⟩) (by assumption) ?_
      rotate_left
      · (intro wx hSw; (try dsimp only at hSw); go_simp; try with_reducible rfl)
      try simp only [Act.put, List.getElem_toArray, List.getElem_cons_succ, List.getElem_cons_zero, List.setIfInBounds_toArray, List.set_cons_zero, List.set_cons_succ]
      refine wpAnyH_done (by kernel_rfl) ?_ _
      go_wp2_with fail
      go_meet
      exact ⟨_, M3, A3, n3, c3, rfl, rfl, M9.out, HM3.out, HF9.out⟩
  case rest =>
    obtain ⟨qa, M, A3, n3, c3, rfl, rfl, hpa, hm, hfa⟩ := hcut
    generalize wc = W1 at hpa hfa ⊢
    have hla := hfa.lies
    have hIM : PartIn ⟨⟨#[107]⟩, max P0.g P1.g, ros M⟩ := by rw [hm]; exact HI0.out.join HI1.out
    obtain ⟨G, hG⟩ : ∃ G, max P0.g P1.g = G := ⟨_, rfl⟩
    rw [hG] at hpa hIM
    have hn4 : n3 ≤ 4 := by have := hIM.mlen; have := hla.1; omega
    have hG0 : max G 0 = G := by
      have h1 := hIM.gone
      unfold stm at h1
      simp only [Bool.and_eq_true, decide_eq_true_iff] at h1
      omega
    have HPA := Lib.hid hpa; have HLA := Lib.hid hla.2.1; have HNM := Lib.hid hla.1; have HIM := Lib.hid hIM; have HM := Lib.hid hm; have HBA := Lib.hid hfa.below; have HG0 := Lib.hid hG0
    have la := (Array.getElem?_eq_some_iff.1 hpa).1
    have HN0 : Hid (P0.L.length ≤ 1000000) := Lib.hid (by have := HI0.out.mlen; omega)
    have HN1 : Hid (P1.L.length ≤ 1000000) := Lib.hid (by have := HI1.out.mlen; omega)
    have HF0 := Lib.hid HI0.out.colsle; have HF1 := Lib.hid HI1.out.colsle
    clear hpa hla hIM hm hfa hG hG0
    go_wp2_with fail
    refine (place_any v1 14 _ (by decide) (by decide) (bounds_i64 H1.out)).mono ?_
    rintro e w' ⟨rfl, rfl⟩
    obtain ⟨T, hT⟩ : ∃ T : Int, v1 % 14 = T := ⟨_, rfl⟩
    have t0 : 0 ≤ T := by omega
    have t1 : T < 14 := by omega
    rw [hT]
    clear hT
    obtain ⟨_, _, _⟩ := PtAt.of HPA.out
    go_wp2_with fail
    refine (pseen_any ⟨#[107]⟩ G T st A3 n3 c3 W1.heap.size M _ HLA.out (Nat.le_refl _) (by omega) HIM.out.colsle).mono ?_
    rintro e W2 ⟨v, Ms, rfl, hms, hos⟩
    obtain ⟨As, cs, rfl, hcs1, _, hcs3, hls⟩ := hos.slice
    obtain ⟨ns, hns⟩ : ∃ ns, Ms.length = ns := ⟨_, rfl⟩
    rw [hns] at hls hcs1 ⊢
    have HMS := Lib.hid hms; have HLS := Lib.hid hls; have HNS := Lib.hid hns; have HB12 := Lib.hid hos.below; have HCS := Lib.hid hcs1
    have hns4 : ns ≤ 4 := by
      have h1 := congrArg List.length hms
      have h2 := seenR_length G T st (ros M)
      rw [List.length_map] at h1 h2
      have := HNM.out
      omega
    clear hms hls hos hcs1 hcs3 hns
    go_wp2_with fail
    go_loopw [13, 12] (fun iv av wr => ∃ (i t : Nat), i ≤ n3 ∧ iv = .int .i64 i ∧ av = .int .i64 t ∧ (seenR G T st (ros (M.take i))).length = t ∧ Below W2.heap.size W2 wr) (fun iv _ _ => n3 - (intOf iv).toNat)
    case atStart => exact ⟨0, 0, Nat.zero_le _, rfl, rfl, rfl, Below.refl _ _⟩
    case round =>
      obtain ⟨i, t, hi, rfl, rfl, ht, hb⟩ := hrel
      have hb1 := next HB12.out hb
      have hpt := (PtAt.of HPA.out).below hb1 la
      have HPT := Lib.hid hpt
      have HT := Lib.hid ht; have HB := Lib.hid hb; have HB1 := Lib.hid hb1; have HBW := Lib.hid (next HBA.out hb1)
      clear ht hb hb1 hpt
      by_cases hlt : i < n3
      · have i1 : (i : Int) < n3 := by omega
        have i0 : (0 : Int) ≤ i := by omega
        obtain ⟨gm, om, rfl, hgm⟩ := HLA.out.rd.ex (by omega)
        have hil : i < M.length := by rw [← HNM.out]; exact hlt
        have hrow := (HLA.out.below HB1.out).rd.row hil
        have hxr := HIM.out.rows M[i].ro (List.mem_map.2 ⟨M[i], List.getElem_mem hil, rfl⟩)
        have hmem : M[i].ro ∈ mrgR (ros P0.L) (ros P1.L) := by rw [← HM.out]; exact List.mem_map.2 ⟨M[i], List.getElem_mem hil, rfl⟩
        have htk := seenR_take (g := G) (t := T) (st := st) hil
        obtain ⟨Tl, htl⟩ := seenR_le (g := G) (t := T) (st := st) hil
        obtain ⟨x, hx⟩ : ∃ x, M[i] = x := ⟨_, rfl⟩
        rw [hx] at hrow hxr hmem htk htl
        have hone := sees_one HI0.out.rise HI1.out.rise HI0.out.rows HI1.out.rows hmem hxr.1
        have ha := (Below.refl wr.heap.size wr).alloc (Nat.le_refl _) (.cells #[.string x.ro.key, .string x.ro.live.s, .bool x.ro.live.d, .int .i64 x.ro.live.a, .int .i64 x.ro.live.e, .int .i64 x.ro.gone, .int .i64 x.ro.shade, .slice x.A x.ro.cols.length x.c] 36)
        obtain ⟨U, hU⟩ : ∃ U, U = wr.alloc (.cells #[.string x.ro.key, .string x.ro.live.s, .bool x.ro.live.d, .int .i64 x.ro.live.a, .int .i64 x.ro.live.e, .int .i64 x.ro.gone, .int .i64 x.ro.shade, .slice x.A x.ro.cols.length x.c] 36) := ⟨_, rfl⟩
        have hUs : U.heap.size = wr.heap.size + 1 := by rw [hU]; simp
        have hrb : U.heap[wr.heap.size]? = some (.cells #[.string x.ro.key, .string x.ro.live.s, .bool x.ro.live.d, .int .i64 x.ro.live.a, .int .i64 x.ro.live.e, .int .i64 x.ro.gone, .int .i64 x.ro.shade, .slice x.A x.ro.cols.length x.c] 36) := by rw [hU]; exact heap_alloc_new wr _
        rw [← hU] at ha
        have HRX := Lib.hid hrb; have HUS := Lib.hid hUs
        clear hUs
        have HRB : Hid (∀ w', Below U.heap.size U w' → BlkAt w' wr.heap.size x) := Lib.hid fun w' hb => (BlkAt.of HRX.out).below hb (by have := HUS.out; omega)
        have HBU := Lib.hid (HBW.out.trans (ha.mono HBW.out.size))
        have HWU := Lib.hid ha
        have HXR := Lib.hid hxr; have HTK := Lib.hid htk; have HTL := Lib.hid htl; have HONE := Lib.hid hone
        obtain ⟨_, _, _⟩ := HPT.out
        obtain ⟨_, _, _, _, _, _, _, _⟩ := hrow
        clear hxr hmem htk htl hx hone ha hrb
        go_upto_region 12 with fail
        rw [← hU]; clear hU
        go_cut [15, 16] (fun s15 s16 wx => ∃ (q : Nat) (b : Bool) (z : RA), s15 = .pointer (some ⟨q, 0, none⟩) ∧ s16 = .bool b ∧ wx.heap[q]? = some (.cells #[.string z.ro.key, .string z.ro.live.s, .bool z.ro.live.d, .int .i64 z.ro.live.a, .int .i64 z.ro.live.e, .int .i64 z.ro.gone, .int .i64 z.ro.shade, .slice z.A z.ro.cols.length z.c] 36 (0, 0)) ∧ z.ro = rowOf (ros P0.L) x.ro.key ∧ Cur U wx (.slice z.A z.ro.cols.length z.c) z.ro.cols)
        case first =>
          go_wp2_with fail
          refine wp_region_held_drew (S := fun w' => Below U.heap.size U w') (by kernel_rfl) ?_ (fun hHeld => ?_)
          · exact (Below.refl _ _).drew
          refine wpAnyH_take (i := 0) (v := ?_) rfl (by kernel_rfl) (by kernel_rfl) (by kernel_rfl) (fun _ _ _ h => h) (Or.inl ⟨by rfl, ?_⟩) (by assumption) ?_
          rotate_left
          · (intro wx hSw; (try dsimp only at hSw); go_simp; try with_reducible rfl)
          try simp only [Act.put, List.getElem_toArray, List.getElem_cons_succ, List.getElem_cons_zero, List.setIfInBounds_toArray, List.set_cons_zero, List.set_cons_succ]
          refine wpAnyH_take (i := 1) (v := ?_) rfl (by kernel_rfl) (by kernel_rfl) (by kernel_rfl) (fun _ _ _ h => h) (Or.inl ⟨by rfl, ?_⟩) (by assumption) ?_
          rotate_left
          · (intro wx hSw; (try dsimp only at hSw); go_simp; try with_reducible rfl)
          try simp only [Act.put, List.getElem_toArray, List.getElem_cons_succ, List.getElem_cons_zero, List.setIfInBounds_toArray, List.set_cons_zero, List.set_cons_succ]
          refine wpAnyH_take (i := 2) (v := ?_) rfl (by kernel_rfl) (by kernel_rfl) (by kernel_rfl) (fun _ _ _ h => h) (Or.inl ⟨by rfl, ?_⟩) (by assumption) ?_
          rotate_left
          · (intro wx hSw; (try dsimp only at hSw); obtain ⟨_, _, _⟩ := HC0.out _ (HBU.out.trans (hSw.mono HBU.out.size)); go_simp; try with_reducible rfl)
          try simp only [Act.put, List.getElem_toArray, List.getElem_cons_succ, List.getElem_cons_zero, List.setIfInBounds_toArray, List.set_cons_zero, List.set_cons_succ]
          refine wpAnyH_take (i := 3) (v := ?_) rfl (by kernel_rfl) (by kernel_rfl) (by kernel_rfl) (fun _ _ _ h => h) (Or.inl ⟨by rfl, ?_⟩) (by assumption) ?_
          rotate_left
          · (intro wx hSw; (try dsimp only at hSw); go_simp; try with_reducible rfl)
          try simp only [Act.put, List.getElem_toArray, List.getElem_cons_succ, List.getElem_cons_zero, List.setIfInBounds_toArray, List.set_cons_zero, List.set_cons_succ]
          refine wpAnyH_take (i := 4) (v := ?_) rfl (by kernel_rfl) (by kernel_rfl) (by kernel_rfl) (fun _ _ _ h => h) (Or.inl ⟨by rfl, ?_⟩) (by assumption) ?_
          rotate_left
          · (intro wx hSw; (try dsimp only at hSw); obtain ⟨_, _, _, _, _, _, _, _⟩ := HRB.out _ hSw; go_simp; try with_reducible rfl)
          try simp only [Act.put, List.getElem_toArray, List.getElem_cons_succ, List.getElem_cons_zero, List.setIfInBounds_toArray, List.set_cons_zero, List.set_cons_succ]
          refine wpAnyH_ready (rs := [5, 9]) (by kernel_rfl) (by simp) (AllReadyH.cons rfl (fun K hK => ?_) (AllReadyH.cons rfl (fun K hK => ?_) AllReadyH.nil))
          · go_simp
            refine (prow_any ⟨#[107]⟩ x.ro.key P0.g P0.A P0.L.length P0.c W0.heap.size P0.L _ (HL0.out.below (HBU.out.trans (hHeld.mono HBU.out.size))) (Nat.le_trans HBU.out.size hHeld.size) HN0.out HF0.out).mono ?_
            rintro e v7 ⟨z, rfl, hz, hcz⟩
            unfold RA.v Ro.val
            have CB := Lib.hid (hHeld.trans (hcz.below.mono hHeld.size))
            have HZ := Lib.hid hz
            have HCZ := Lib.hid (lowerC hcz hHeld)
            clear hz hcz
            try go_wp2_with fail
            refine hK.out _ _ ?_ (fun hHeld => ?_)
            · first | exact CB.out | exact hHeld
            clear hK K
            try simp only [Act.put, List.getElem_toArray, List.getElem_cons_succ, List.getElem_cons_zero, List.setIfInBounds_toArray, List.set_cons_zero, List.set_cons_succ]
            refine wpAnyH_take (i := 6) (v := ?_) rfl (by kernel_rfl) (by kernel_rfl) (by kernel_rfl) (fun _ _ _ h => h) (Or.inl ⟨by rfl, ?_⟩) (by assumption) ?_
            rotate_left
            · (intro wx hSw; (try dsimp only at hSw); go_simp; try with_reducible rfl)
            try simp only [Act.put, List.getElem_toArray, List.getElem_cons_succ, List.getElem_cons_zero, List.setIfInBounds_toArray, List.set_cons_zero, List.set_cons_succ]
            refine wpAnyH_take (i := 7) (v := ?_) rfl (by kernel_rfl) (by kernel_rfl) (by kernel_rfl) (fun _ _ _ h => h) (Or.inl ⟨by rfl, ?_⟩) (by assumption) ?_
            rotate_left
            · (intro wx hSw; (try dsimp only at hSw); go_simp; try with_reducible rfl)
            try simp only [Act.put, List.getElem_toArray, List.getElem_cons_succ, List.getElem_cons_zero, List.setIfInBounds_toArray, List.set_cons_zero, List.set_cons_succ]
            refine wpAnyH_take (i := 8) (v := ?_) rfl (by kernel_rfl) (by kernel_rfl) (by kernel_rfl) (fun _ _ _ h => h) (Or.inl ⟨by rfl, ?_⟩) (by assumption) ?_
            rotate_left
            · (intro wx hSw; (try dsimp only at hSw); go_simp; try with_reducible rfl)
            try simp only [Act.put, List.getElem_toArray, List.getElem_cons_succ, List.getElem_cons_zero, List.setIfInBounds_toArray, List.set_cons_zero, List.set_cons_succ]
            refine wpAnyH_ready (rs := [9]) (by kernel_rfl) (by simp) (AllReadyH.cons rfl (fun K hK => ?_) AllReadyH.nil)
            go_simp
            have XZ := Lib.hid (heap_alloc_new v7 (.cells #[.string ⟨#[]⟩, .string ⟨#[]⟩, .bool false, .int .i64 0, .int .i64 0, .int .i64 0, .int .i64 0, .slice none 0 0] 36))
            have CBX : Below U.heap.size U (v7.alloc (.cells #[.string ⟨#[]⟩, .string ⟨#[]⟩, .bool false, .int .i64 0, .int .i64 0, .int .i64 0, .int .i64 0, .slice none 0 0] 36)) := hHeld.alloc hHeld.size _
            have HXQ : Hid (U.heap.size ≤ v7.heap.size) := Lib.hid hHeld.size
            have HCZ := Lib.hid (HCZ.out.on ((Below.refl v7.heap.size v7).alloc (Nat.le_refl _) (.cells #[.string ⟨#[]⟩, .string ⟨#[]⟩, .bool false, .int .i64 0, .int .i64 0, .int .i64 0, .int .i64 0, .slice none 0 0] 36)))
            generalize v7.alloc (.cells #[.string ⟨#[]⟩, .string ⟨#[]⟩, .bool false, .int .i64 0, .int .i64 0, .int .i64 0, .int .i64 0, .slice none 0 0] 36) = wx at *
            refine hK.out _ _ ?_ (fun hHeld => ?_)
            · exact CBX
            clear hK K
            try simp only [Act.put, List.getElem_toArray, List.getElem_cons_succ, List.getElem_cons_zero, List.setIfInBounds_toArray, List.set_cons_zero, List.set_cons_succ]
            refine wpAnyH_ready (rs := [10]) (by kernel_rfl) (by simp) (AllReadyH.cons rfl (fun K hK => ?_) AllReadyH.nil)
            have z0 := cell_at (i := 0) XZ.out rfl
            have z1 := cell_at (i := 1) XZ.out rfl
            have z2 := cell_at (i := 2) XZ.out rfl
            have z3 := cell_at (i := 3) XZ.out rfl
            have z4 := cell_at (i := 4) XZ.out rfl
            have z5 := cell_at (i := 5) XZ.out rfl
            have z6 := cell_at (i := 6) XZ.out rfl
            have z7 := cell_at (i := 7) XZ.out rfl
            have y0 := thawed_at (i := 0) XZ.out
            have y1 := thawed_at (i := 1) XZ.out
            have y2 := thawed_at (i := 2) XZ.out
            have y3 := thawed_at (i := 3) XZ.out
            have y4 := thawed_at (i := 4) XZ.out
            have y5 := thawed_at (i := 5) XZ.out
            have y6 := thawed_at (i := 6) XZ.out
            have y7 := thawed_at (i := 7) XZ.out
            have M9 := Lib.hid (set8_block XZ.out z)
            have HF9 := Lib.hid (HCZ.out.put8 XZ.out HXQ.out)
            go_simp
            refine hK.out _ _ ?_ (fun hHeld => ?_)
            · exact HF9.out.below
            clear hK K
            try simp only [Act.put, List.getElem_toArray, List.getElem_cons_succ, List.getElem_cons_zero, List.setIfInBounds_toArray, List.set_cons_zero, List.set_cons_succ]
            refine wpAnyH_take (i := 11) (v := ?_) rfl (by kernel_rfl) (by kernel_rfl) (by kernel_rfl) (fun _ _ _ h => h) (Or.inl ⟨by rfl, ?_⟩) (by assumption) ?_
            rotate_left
            · (intro wx hSw; (try dsimp only at hSw); go_simp; try with_reducible rfl)
            try simp only [Act.put, List.getElem_toArray, List.getElem_cons_succ, List.getElem_cons_zero, List.setIfInBounds_toArray, List.set_cons_zero, List.set_cons_succ]
            refine wpAnyH_done (by kernel_rfl) ?_ _
            go_wp2_with fail
            go_meet
            exact ⟨_, _, z, rfl, rfl, M9.out, HZ.out, HF9.out⟩
          · go_simp
            have XZ : Hid (((U.alloc (.cells #[.string ⟨#[]⟩, .string ⟨#[]⟩, .bool false, .int .i64 0, .int .i64 0, .int .i64 0, .int .i64 0, .slice none 0 0] 36)).drew).heap[U.heap.size]? = some (.cells #[.string ⟨#[]⟩, .string ⟨#[]⟩, .bool false, .int .i64 0, .int .i64 0, .int .i64 0, .int .i64 0, .slice none 0 0] 36)) := Lib.hid (heap_alloc_new U _)
            have CBX : Below U.heap.size U ((U.alloc (.cells #[.string ⟨#[]⟩, .string ⟨#[]⟩, .bool false, .int .i64 0, .int .i64 0, .int .i64 0, .int .i64 0, .slice none 0 0] 36)).drew) := ((Below.refl U.heap.size U).alloc (Nat.le_refl _) _).drew
            have HXQ : Hid (U.heap.size ≤ U.heap.size) := Lib.hid (Nat.le_refl _)
            generalize (U.alloc (.cells #[.string ⟨#[]⟩, .string ⟨#[]⟩, .bool false, .int .i64 0, .int .i64 0, .int .i64 0, .int .i64 0, .slice none 0 0] 36)).drew = wx at *
            refine hK.out _ _ ?_ (fun hHeld => ?_)
            · exact CBX
            clear hK K
            try simp only [Act.put, List.getElem_toArray, List.getElem_cons_succ, List.getElem_cons_zero, List.setIfInBounds_toArray, List.set_cons_zero, List.set_cons_succ]
            refine wpAnyH_ready (rs := [5]) (by kernel_rfl) (by simp) (AllReadyH.cons rfl (fun K hK => ?_) AllReadyH.nil)
            go_simp
            refine (prow_any ⟨#[107]⟩ x.ro.key P0.g P0.A P0.L.length P0.c W0.heap.size P0.L _ (HL0.out.below (HBU.out.trans (hHeld.mono HBU.out.size))) (Nat.le_trans HBU.out.size hHeld.size) HN0.out HF0.out).mono ?_
            rintro e v7 ⟨z, rfl, hz, hcz⟩
            unfold RA.v Ro.val
            have CB := Lib.hid (hHeld.trans (hcz.below.mono hHeld.size))
            have HZ := Lib.hid hz
            have HCZ := Lib.hid (lowerC hcz hHeld)
            have XZ := Lib.hid ((hcz.below.block _ (Array.getElem?_eq_some_iff.1 XZ.out).1).trans XZ.out)
            clear hz hcz
            try go_wp2_with fail
            refine hK.out _ _ ?_ (fun hHeld => ?_)
            · first | exact CB.out | exact hHeld
            clear hK K
            try simp only [Act.put, List.getElem_toArray, List.getElem_cons_succ, List.getElem_cons_zero, List.setIfInBounds_toArray, List.set_cons_zero, List.set_cons_succ]
            refine wpAnyH_take (i := 6) (v := ?_) rfl (by kernel_rfl) (by kernel_rfl) (by kernel_rfl) (fun _ _ _ h => h) (Or.inl ⟨by rfl, ?_⟩) (by assumption) ?_
            rotate_left
            · (intro wx hSw; (try dsimp only at hSw); go_simp; try with_reducible rfl)
            try simp only [Act.put, List.getElem_toArray, List.getElem_cons_succ, List.getElem_cons_zero, List.setIfInBounds_toArray, List.set_cons_zero, List.set_cons_succ]
            refine wpAnyH_take (i := 7) (v := ?_) rfl (by kernel_rfl) (by kernel_rfl) (by kernel_rfl) (fun _ _ _ h => h) (Or.inl ⟨by rfl, ?_⟩) (by assumption) ?_
            rotate_left
            · (intro wx hSw; (try dsimp only at hSw); go_simp; try with_reducible rfl)
            try simp only [Act.put, List.getElem_toArray, List.getElem_cons_succ, List.getElem_cons_zero, List.setIfInBounds_toArray, List.set_cons_zero, List.set_cons_succ]
            refine wpAnyH_take (i := 8) (v := ?_) rfl (by kernel_rfl) (by kernel_rfl) (by kernel_rfl) (fun _ _ _ h => h) (Or.inl ⟨by rfl, ?_⟩) (by assumption) ?_
            rotate_left
            · (intro wx hSw; (try dsimp only at hSw); go_simp; try with_reducible rfl)
            try simp only [Act.put, List.getElem_toArray, List.getElem_cons_succ, List.getElem_cons_zero, List.setIfInBounds_toArray, List.set_cons_zero, List.set_cons_succ]
            refine wpAnyH_ready (rs := [10]) (by kernel_rfl) (by simp) (AllReadyH.cons rfl (fun K hK => ?_) AllReadyH.nil)
            have z0 := cell_at (i := 0) XZ.out rfl
            have z1 := cell_at (i := 1) XZ.out rfl
            have z2 := cell_at (i := 2) XZ.out rfl
            have z3 := cell_at (i := 3) XZ.out rfl
            have z4 := cell_at (i := 4) XZ.out rfl
            have z5 := cell_at (i := 5) XZ.out rfl
            have z6 := cell_at (i := 6) XZ.out rfl
            have z7 := cell_at (i := 7) XZ.out rfl
            have y0 := thawed_at (i := 0) XZ.out
            have y1 := thawed_at (i := 1) XZ.out
            have y2 := thawed_at (i := 2) XZ.out
            have y3 := thawed_at (i := 3) XZ.out
            have y4 := thawed_at (i := 4) XZ.out
            have y5 := thawed_at (i := 5) XZ.out
            have y6 := thawed_at (i := 6) XZ.out
            have y7 := thawed_at (i := 7) XZ.out
            have M9 := Lib.hid (set8_block XZ.out z)
            have HF9 := Lib.hid (HCZ.out.put8 XZ.out HXQ.out)
            go_simp
            refine hK.out _ _ ?_ (fun hHeld => ?_)
            · exact HF9.out.below
            clear hK K
            try simp only [Act.put, List.getElem_toArray, List.getElem_cons_succ, List.getElem_cons_zero, List.setIfInBounds_toArray, List.set_cons_zero, List.set_cons_succ]
            refine wpAnyH_take (i := 11) (v := ?_) rfl (by kernel_rfl) (by kernel_rfl) (by kernel_rfl) (fun _ _ _ h => h) (Or.inl ⟨by rfl, ?_⟩) (by assumption) ?_
            rotate_left
            · (intro wx hSw; (try dsimp only at hSw); go_simp; try with_reducible rfl)
            try simp only [Act.put, List.getElem_toArray, List.getElem_cons_succ, List.getElem_cons_zero, List.setIfInBounds_toArray, List.set_cons_zero, List.set_cons_succ]
            refine wpAnyH_done (by kernel_rfl) ?_ _
            go_wp2_with fail
            go_meet
            exact ⟨_, _, z, rfl, rfl, M9.out, HZ.out, HF9.out⟩
        case rest =>
          obtain ⟨q1, u1, z1, rfl, rfl, hq1, hz1, hcz1⟩ := hcut
          generalize wc = U2 at hq1 hcz1 ⊢
          have hb12 := hcz1.below
          have HBU2 := Lib.hid (HBU.out.trans (hb12.mono HBU.out.size))
          have HRB2 : Hid (∀ w', Below U2.heap.size U2 w' → BlkAt w' wr.heap.size x) := Lib.hid fun w' hb => HRB.out w' (next hb12 hb)
          have HQ1 := Lib.hid hq1; have HZ1 := Lib.hid hz1; have HCZ1 := Lib.hid hcz1
          clear hq1 hz1 hcz1 hb12
          go_upto_region 13 with fail
          skip
          go_cut [17, 18] (fun s15 s16 wx => ∃ (q : Nat) (b : Bool) (z : RA), s15 = .pointer (some ⟨q, 0, none⟩) ∧ s16 = .bool b ∧ wx.heap[q]? = some (.cells #[.string z.ro.key, .string z.ro.live.s, .bool z.ro.live.d, .int .i64 z.ro.live.a, .int .i64 z.ro.live.e, .int .i64 z.ro.gone, .int .i64 z.ro.shade, .slice z.A z.ro.cols.length z.c] 36 (0, 0)) ∧ z.ro = rowOf (ros P1.L) x.ro.key ∧ Cur U2 wx (.slice z.A z.ro.cols.length z.c) z.ro.cols)
          case first =>
            go_wp2_with fail
            refine wp_region_held_drew (S := fun w' => Below U2.heap.size U2 w') (by kernel_rfl) ?_ (fun hHeld => ?_)
            · exact (Below.refl _ _).drew
            refine wpAnyH_take (i := 0) (v := ?_) rfl (by kernel_rfl) (by kernel_rfl) (by kernel_rfl) (fun _ _ _ h => h) (Or.inl ⟨by rfl, ?_⟩) (by assumption) ?_
            rotate_left
            · (intro wx hSw; (try dsimp only at hSw); go_simp; try with_reducible rfl)
            try simp only [Act.put, List.getElem_toArray, List.getElem_cons_succ, List.getElem_cons_zero, List.setIfInBounds_toArray, List.set_cons_zero, List.set_cons_succ]
            refine wpAnyH_take (i := 1) (v := ?_) rfl (by kernel_rfl) (by kernel_rfl) (by kernel_rfl) (fun _ _ _ h => h) (Or.inl ⟨by rfl, ?_⟩) (by assumption) ?_
            rotate_left
            · (intro wx hSw; (try dsimp only at hSw); go_simp; try with_reducible rfl)
            try simp only [Act.put, List.getElem_toArray, List.getElem_cons_succ, List.getElem_cons_zero, List.setIfInBounds_toArray, List.set_cons_zero, List.set_cons_succ]
            refine wpAnyH_take (i := 2) (v := ?_) rfl (by kernel_rfl) (by kernel_rfl) (by kernel_rfl) (fun _ _ _ h => h) (Or.inl ⟨by rfl, ?_⟩) (by assumption) ?_
            rotate_left
            · (intro wx hSw; (try dsimp only at hSw); obtain ⟨_, _, _⟩ := HC1.out _ (HBU2.out.trans (hSw.mono HBU2.out.size)); go_simp; try with_reducible rfl)
            try simp only [Act.put, List.getElem_toArray, List.getElem_cons_succ, List.getElem_cons_zero, List.setIfInBounds_toArray, List.set_cons_zero, List.set_cons_succ]
            refine wpAnyH_take (i := 3) (v := ?_) rfl (by kernel_rfl) (by kernel_rfl) (by kernel_rfl) (fun _ _ _ h => h) (Or.inl ⟨by rfl, ?_⟩) (by assumption) ?_
            rotate_left
            · (intro wx hSw; (try dsimp only at hSw); go_simp; try with_reducible rfl)
            try simp only [Act.put, List.getElem_toArray, List.getElem_cons_succ, List.getElem_cons_zero, List.setIfInBounds_toArray, List.set_cons_zero, List.set_cons_succ]
            refine wpAnyH_take (i := 4) (v := ?_) rfl (by kernel_rfl) (by kernel_rfl) (by kernel_rfl) (fun _ _ _ h => h) (Or.inl ⟨by rfl, ?_⟩) (by assumption) ?_
            rotate_left
            · (intro wx hSw; (try dsimp only at hSw); obtain ⟨_, _, _, _, _, _, _, _⟩ := HRB2.out _ hSw; go_simp; try with_reducible rfl)
            try simp only [Act.put, List.getElem_toArray, List.getElem_cons_succ, List.getElem_cons_zero, List.setIfInBounds_toArray, List.set_cons_zero, List.set_cons_succ]
            refine wpAnyH_ready (rs := [5, 9]) (by kernel_rfl) (by simp) (AllReadyH.cons rfl (fun K hK => ?_) (AllReadyH.cons rfl (fun K hK => ?_) AllReadyH.nil))
            · go_simp
              refine (prow_any ⟨#[107]⟩ x.ro.key P1.g P1.A P1.L.length P1.c W0.heap.size P1.L _ (HL1.out.below (HBU2.out.trans (hHeld.mono HBU2.out.size))) (Nat.le_trans HBU2.out.size hHeld.size) HN1.out HF1.out).mono ?_
              rintro e v7 ⟨z, rfl, hz, hcz⟩
              unfold RA.v Ro.val
              have CB := Lib.hid (hHeld.trans (hcz.below.mono hHeld.size))
              have HZ := Lib.hid hz
              have HCZ := Lib.hid (lowerC hcz hHeld)
              clear hz hcz
              try go_wp2_with fail
              refine hK.out _ _ ?_ (fun hHeld => ?_)
              · first | exact CB.out | exact hHeld
              clear hK K
              try simp only [Act.put, List.getElem_toArray, List.getElem_cons_succ, List.getElem_cons_zero, List.setIfInBounds_toArray, List.set_cons_zero, List.set_cons_succ]
              refine wpAnyH_take (i := 6) (v := ?_) rfl (by kernel_rfl) (by kernel_rfl) (by kernel_rfl) (fun _ _ _ h => h) (Or.inl ⟨by rfl, ?_⟩) (by assumption) ?_
              rotate_left
              · (intro wx hSw; (try dsimp only at hSw); go_simp; try with_reducible rfl)
              try simp only [Act.put, List.getElem_toArray, List.getElem_cons_succ, List.getElem_cons_zero, List.setIfInBounds_toArray, List.set_cons_zero, List.set_cons_succ]
              refine wpAnyH_take (i := 7) (v := ?_) rfl (by kernel_rfl) (by kernel_rfl) (by kernel_rfl) (fun _ _ _ h => h) (Or.inl ⟨by rfl, ?_⟩) (by assumption) ?_
              rotate_left
              · (intro wx hSw; (try dsimp only at hSw); go_simp; try with_reducible rfl)
              try simp only [Act.put, List.getElem_toArray, List.getElem_cons_succ, List.getElem_cons_zero, List.setIfInBounds_toArray, List.set_cons_zero, List.set_cons_succ]
              refine wpAnyH_take (i := 8) (v := ?_) rfl (by kernel_rfl) (by kernel_rfl) (by kernel_rfl) (fun _ _ _ h => h) (Or.inl ⟨by rfl, ?_⟩) (by assumption) ?_
              rotate_left
              · (intro wx hSw; (try dsimp only at hSw); go_simp; try with_reducible rfl)
              try simp only [Act.put, List.getElem_toArray, List.getElem_cons_succ, List.getElem_cons_zero, List.setIfInBounds_toArray, List.set_cons_zero, List.set_cons_succ]
              refine wpAnyH_ready (rs := [9]) (by kernel_rfl) (by simp) (AllReadyH.cons rfl (fun K hK => ?_) AllReadyH.nil)
              go_simp
              have XZ := Lib.hid (heap_alloc_new v7 (.cells #[.string ⟨#[]⟩, .string ⟨#[]⟩, .bool false, .int .i64 0, .int .i64 0, .int .i64 0, .int .i64 0, .slice none 0 0] 36))
              have CBX : Below U2.heap.size U2 (v7.alloc (.cells #[.string ⟨#[]⟩, .string ⟨#[]⟩, .bool false, .int .i64 0, .int .i64 0, .int .i64 0, .int .i64 0, .slice none 0 0] 36)) := hHeld.alloc hHeld.size _
              have HXQ : Hid (U2.heap.size ≤ v7.heap.size) := Lib.hid hHeld.size
              have HCZ := Lib.hid (HCZ.out.on ((Below.refl v7.heap.size v7).alloc (Nat.le_refl _) (.cells #[.string ⟨#[]⟩, .string ⟨#[]⟩, .bool false, .int .i64 0, .int .i64 0, .int .i64 0, .int .i64 0, .slice none 0 0] 36)))
              generalize v7.alloc (.cells #[.string ⟨#[]⟩, .string ⟨#[]⟩, .bool false, .int .i64 0, .int .i64 0, .int .i64 0, .int .i64 0, .slice none 0 0] 36) = wx at *
              refine hK.out _ _ ?_ (fun hHeld => ?_)
              · exact CBX
              clear hK K
              try simp only [Act.put, List.getElem_toArray, List.getElem_cons_succ, List.getElem_cons_zero, List.setIfInBounds_toArray, List.set_cons_zero, List.set_cons_succ]
              refine wpAnyH_ready (rs := [10]) (by kernel_rfl) (by simp) (AllReadyH.cons rfl (fun K hK => ?_) AllReadyH.nil)
              have z0 := cell_at (i := 0) XZ.out rfl
              have z1 := cell_at (i := 1) XZ.out rfl
              have z2 := cell_at (i := 2) XZ.out rfl
              have z3 := cell_at (i := 3) XZ.out rfl
              have z4 := cell_at (i := 4) XZ.out rfl
              have z5 := cell_at (i := 5) XZ.out rfl
              have z6 := cell_at (i := 6) XZ.out rfl
              have z7 := cell_at (i := 7) XZ.out rfl
              have y0 := thawed_at (i := 0) XZ.out
              have y1 := thawed_at (i := 1) XZ.out
              have y2 := thawed_at (i := 2) XZ.out
              have y3 := thawed_at (i := 3) XZ.out
              have y4 := thawed_at (i := 4) XZ.out
              have y5 := thawed_at (i := 5) XZ.out
              have y6 := thawed_at (i := 6) XZ.out
              have y7 := thawed_at (i := 7) XZ.out
              have M9 := Lib.hid (set8_block XZ.out z)
              have HF9 := Lib.hid (HCZ.out.put8 XZ.out HXQ.out)
              go_simp
              refine hK.out _ _ ?_ (fun hHeld => ?_)
              · exact HF9.out.below
              clear hK K
              try simp only [Act.put, List.getElem_toArray, List.getElem_cons_succ, List.getElem_cons_zero, List.setIfInBounds_toArray, List.set_cons_zero, List.set_cons_succ]
              refine wpAnyH_take (i := 11) (v := ?_) rfl (by kernel_rfl) (by kernel_rfl) (by kernel_rfl) (fun _ _ _ h => h) (Or.inl ⟨by rfl, ?_⟩) (by assumption) ?_
              rotate_left
              · (intro wx hSw; (try dsimp only at hSw); go_simp; try with_reducible rfl)
              try simp only [Act.put, List.getElem_toArray, List.getElem_cons_succ, List.getElem_cons_zero, List.setIfInBounds_toArray, List.set_cons_zero, List.set_cons_succ]
              refine wpAnyH_done (by kernel_rfl) ?_ _
              go_wp2_with fail
              go_meet
              exact ⟨_, _, z, rfl, rfl, M9.out, HZ.out, HF9.out⟩
            · go_simp
              have XZ : Hid (((U2.alloc (.cells #[.string ⟨#[]⟩, .string ⟨#[]⟩, .bool false, .int .i64 0, .int .i64 0, .int .i64 0, .int .i64 0, .slice none 0 0] 36)).drew).heap[U2.heap.size]? = some (.cells #[.string ⟨#[]⟩, .string ⟨#[]⟩, .bool false, .int .i64 0, .int .i64 0, .int .i64 0, .int .i64 0, .slice none 0 0] 36)) := Lib.hid (heap_alloc_new U2 _)
              have CBX : Below U2.heap.size U2 ((U2.alloc (.cells #[.string ⟨#[]⟩, .string ⟨#[]⟩, .bool false, .int .i64 0, .int .i64 0, .int .i64 0, .int .i64 0, .slice none 0 0] 36)).drew) := ((Below.refl U2.heap.size U2).alloc (Nat.le_refl _) _).drew
              have HXQ : Hid (U2.heap.size ≤ U2.heap.size) := Lib.hid (Nat.le_refl _)
              generalize (U2.alloc (.cells #[.string ⟨#[]⟩, .string ⟨#[]⟩, .bool false, .int .i64 0, .int .i64 0, .int .i64 0, .int .i64 0, .slice none 0 0] 36)).drew = wx at *
              refine hK.out _ _ ?_ (fun hHeld => ?_)
              · exact CBX
              clear hK K
              try simp only [Act.put, List.getElem_toArray, List.getElem_cons_succ, List.getElem_cons_zero, List.setIfInBounds_toArray, List.set_cons_zero, List.set_cons_succ]
              refine wpAnyH_ready (rs := [5]) (by kernel_rfl) (by simp) (AllReadyH.cons rfl (fun K hK => ?_) AllReadyH.nil)
              go_simp
              refine (prow_any ⟨#[107]⟩ x.ro.key P1.g P1.A P1.L.length P1.c W0.heap.size P1.L _ (HL1.out.below (HBU2.out.trans (hHeld.mono HBU2.out.size))) (Nat.le_trans HBU2.out.size hHeld.size) HN1.out HF1.out).mono ?_
              rintro e v7 ⟨z, rfl, hz, hcz⟩
              unfold RA.v Ro.val
              have CB := Lib.hid (hHeld.trans (hcz.below.mono hHeld.size))
              have HZ := Lib.hid hz
              have HCZ := Lib.hid (lowerC hcz hHeld)
              have XZ := Lib.hid ((hcz.below.block _ (Array.getElem?_eq_some_iff.1 XZ.out).1).trans XZ.out)
              clear hz hcz
              try go_wp2_with fail
              refine hK.out _ _ ?_ (fun hHeld => ?_)
              · first | exact CB.out | exact hHeld
              clear hK K
              try simp only [Act.put, List.getElem_toArray, List.getElem_cons_succ, List.getElem_cons_zero, List.setIfInBounds_toArray, List.set_cons_zero, List.set_cons_succ]
              refine wpAnyH_take (i := 6) (v := ?_) rfl (by kernel_rfl) (by kernel_rfl) (by kernel_rfl) (fun _ _ _ h => h) (Or.inl ⟨by rfl, ?_⟩) (by assumption) ?_
              rotate_left
              · (intro wx hSw; (try dsimp only at hSw); go_simp; try with_reducible rfl)
              try simp only [Act.put, List.getElem_toArray, List.getElem_cons_succ, List.getElem_cons_zero, List.setIfInBounds_toArray, List.set_cons_zero, List.set_cons_succ]
              refine wpAnyH_take (i := 7) (v := ?_) rfl (by kernel_rfl) (by kernel_rfl) (by kernel_rfl) (fun _ _ _ h => h) (Or.inl ⟨by rfl, ?_⟩) (by assumption) ?_
              rotate_left
              · (intro wx hSw; (try dsimp only at hSw); go_simp; try with_reducible rfl)
              try simp only [Act.put, List.getElem_toArray, List.getElem_cons_succ, List.getElem_cons_zero, List.setIfInBounds_toArray, List.set_cons_zero, List.set_cons_succ]
              refine wpAnyH_take (i := 8) (v := ?_) rfl (by kernel_rfl) (by kernel_rfl) (by kernel_rfl) (fun _ _ _ h => h) (Or.inl ⟨by rfl, ?_⟩) (by assumption) ?_
              rotate_left
              · (intro wx hSw; (try dsimp only at hSw); go_simp; try with_reducible rfl)
              try simp only [Act.put, List.getElem_toArray, List.getElem_cons_succ, List.getElem_cons_zero, List.setIfInBounds_toArray, List.set_cons_zero, List.set_cons_succ]
              refine wpAnyH_ready (rs := [10]) (by kernel_rfl) (by simp) (AllReadyH.cons rfl (fun K hK => ?_) AllReadyH.nil)
              have z0 := cell_at (i := 0) XZ.out rfl
              have z1 := cell_at (i := 1) XZ.out rfl
              have z2 := cell_at (i := 2) XZ.out rfl
              have z3 := cell_at (i := 3) XZ.out rfl
              have z4 := cell_at (i := 4) XZ.out rfl
              have z5 := cell_at (i := 5) XZ.out rfl
              have z6 := cell_at (i := 6) XZ.out rfl
              have z7 := cell_at (i := 7) XZ.out rfl
              have y0 := thawed_at (i := 0) XZ.out
              have y1 := thawed_at (i := 1) XZ.out
              have y2 := thawed_at (i := 2) XZ.out
              have y3 := thawed_at (i := 3) XZ.out
              have y4 := thawed_at (i := 4) XZ.out
              have y5 := thawed_at (i := 5) XZ.out
              have y6 := thawed_at (i := 6) XZ.out
              have y7 := thawed_at (i := 7) XZ.out
              have M9 := Lib.hid (set8_block XZ.out z)
              have HF9 := Lib.hid (HCZ.out.put8 XZ.out HXQ.out)
              go_simp
              refine hK.out _ _ ?_ (fun hHeld => ?_)
              · exact HF9.out.below
              clear hK K
              try simp only [Act.put, List.getElem_toArray, List.getElem_cons_succ, List.getElem_cons_zero, List.setIfInBounds_toArray, List.set_cons_zero, List.set_cons_succ]
              refine wpAnyH_take (i := 11) (v := ?_) rfl (by kernel_rfl) (by kernel_rfl) (by kernel_rfl) (fun _ _ _ h => h) (Or.inl ⟨by rfl, ?_⟩) (by assumption) ?_
              rotate_left
              · (intro wx hSw; (try dsimp only at hSw); go_simp; try with_reducible rfl)
              try simp only [Act.put, List.getElem_toArray, List.getElem_cons_succ, List.getElem_cons_zero, List.setIfInBounds_toArray, List.set_cons_zero, List.set_cons_succ]
              refine wpAnyH_done (by kernel_rfl) ?_ _
              go_wp2_with fail
              go_meet
              exact ⟨_, _, z, rfl, rfl, M9.out, HZ.out, HF9.out⟩
          case rest =>
            obtain ⟨q2, u2, z2, rfl, rfl, hq2, hz2, hcz2⟩ := hcut
            generalize wc = U3 at hq2 hcz2 ⊢
            have hb23 := hcz2.below
            have hq1 := (hb23.block q1 (Array.getElem?_eq_some_iff.1 HQ1.out).1).trans HQ1.out
            have hbw2 : Below wr.heap.size wr U2 := HWU.out.trans (HCZ1.out.below.mono HWU.out.size)
            have hbw3 : Below wr.heap.size wr U3 := next hbw2 hb23
            have hr1 : RowIn z1.ro ∧ z1.ro.key = x.ro.key := by rw [HZ1.out]; exact rowOf_in HI0.out.rows HXR.out.1 rfl
            have hr2 : RowIn z2.ro ∧ z2.ro.key = x.ro.key := by rw [hz2]; exact rowOf_in HI1.out.rows HXR.out.1 rfl
            have hp1 : PartIn ⟨⟨#[107]⟩, G, ros [z1]⟩ := part_one (by decide) HIM.out.gone hr1.1 (by rw [hr1.2]; exact HXR.out.2)
            have hp2 : PartIn ⟨⟨#[]⟩, 0, ros [z2]⟩ := part_one (by decide) (by decide) hr2.1 (by rw [hr2.2]; exact HXR.out.2)
            have hmrg : mrgR (ros [z1]) (ros [z2]) = [x.ro] := by
              show mrgR [z1.ro] [z2.ro] = _
              rw [HZ1.out, hz2]
              exact HONE.out
            have ha1 := (Below.refl U3.heap.size U3).alloc (Nat.le_refl _) (.cells #[.string z1.ro.key, .string z1.ro.live.s, .bool z1.ro.live.d, .int .i64 z1.ro.live.a, .int .i64 z1.ro.live.e, .int .i64 z1.ro.gone, .int .i64 z1.ro.shade, .slice z1.A z1.ro.cols.length z1.c] 36)
            have ha2 := ha1.alloc (by simp) (.cells #[.string z2.ro.key, .string z2.ro.live.s, .bool z2.ro.live.d, .int .i64 z2.ro.live.a, .int .i64 z2.ro.live.e, .int .i64 z2.ro.gone, .int .i64 z2.ro.shade, .slice z2.A z2.ro.cols.length z2.c] 36)
            have ha3 := (Below.refl (U3.alloc (.cells #[.string z1.ro.key, .string z1.ro.live.s, .bool z1.ro.live.d, .int .i64 z1.ro.live.a, .int .i64 z1.ro.live.e, .int .i64 z1.ro.gone, .int .i64 z1.ro.shade, .slice z1.A z1.ro.cols.length z1.c] 36)).heap.size (U3.alloc (.cells #[.string z1.ro.key, .string z1.ro.live.s, .bool z1.ro.live.d, .int .i64 z1.ro.live.a, .int .i64 z1.ro.live.e, .int .i64 z1.ro.gone, .int .i64 z1.ro.shade, .slice z1.A z1.ro.cols.length z1.c] 36))).alloc (Nat.le_refl _) (.cells #[.string z2.ro.key, .string z2.ro.live.s, .bool z2.ro.live.d, .int .i64 z2.ro.live.a, .int .i64 z2.ro.live.e, .int .i64 z2.ro.gone, .int .i64 z2.ro.shade, .slice z2.A z2.ro.cols.length z2.c] 36)
            have hl1 := (RdR.laid U3 z1).below (ha3.mono (by simp))
            have hl2 := RdR.laid (U3.alloc (.cells #[.string z1.ro.key, .string z1.ro.live.s, .bool z1.ro.live.d, .int .i64 z1.ro.live.a, .int .i64 z1.ro.live.e, .int .i64 z1.ro.gone, .int .i64 z1.ro.shade, .slice z1.A z1.ro.cols.length z1.c] 36)) z2
            have hi1 := HCZ1.out.roIn.below (next hb23 ha2)
            have hi2 := hcz2.roIn.below ha2
            have hq2' := new_at hq2 (.cells #[.string z1.ro.key, .string z1.ro.live.s, .bool z1.ro.live.d, .int .i64 z1.ro.live.a, .int .i64 z1.ro.live.e, .int .i64 z1.ro.gone, .int .i64 z1.ro.shade, .slice z1.A z1.ro.cols.length z1.c] 36)
            obtain ⟨V, hV⟩ : ∃ V, V = (U3.alloc (.cells #[.string z1.ro.key, .string z1.ro.live.s, .bool z1.ro.live.d, .int .i64 z1.ro.live.a, .int .i64 z1.ro.live.e, .int .i64 z1.ro.gone, .int .i64 z1.ro.shade, .slice z1.A z1.ro.cols.length z1.c] 36)).alloc (.cells #[.string z2.ro.key, .string z2.ro.live.s, .bool z2.ro.live.d, .int .i64 z2.ro.live.a, .int .i64 z2.ro.live.e, .int .i64 z2.ro.gone, .int .i64 z2.ro.shade, .slice z2.A z2.ro.cols.length z2.c] 36) := ⟨_, rfl⟩
            have hVs : V.heap.size = U3.heap.size + 2 := by rw [hV]; simp
            rw [← hV] at hl1 hl2 hi1 hi2 ha2
            simp only [World.size_alloc] at hl2
            have hly1 : Lies V V.heap.size (some ⟨U3.heap.size, 0, none⟩) 1 1 [z1] := ⟨hl1.up (by omega), fun y hy => by rw [List.mem_singleton.1 hy]; exact hi1.up (by have := hb23.size; omega), Nat.le_refl _⟩
            have hly2 : Lies V V.heap.size (some ⟨U3.heap.size + 1, 0, none⟩) 1 1 [z2] := ⟨hl2.up (by omega), fun y hy => by rw [List.mem_singleton.1 hy]; exact hi2.up (by omega), Nat.le_refl _⟩
            obtain ⟨_, _, _⟩ := (PtAt.of HPA.out).below (next HB1.out hbw3) la
            obtain ⟨_, _, _, _, _, _, _, _⟩ := BlkAt.of hq1
            obtain ⟨_, _, _, _, _, _, _, _⟩ := BlkAt.of hq2'
            have HLY1 := Lib.hid hly1; have HLY2 := Lib.hid hly2; have HP1 := Lib.hid hp1; have HP2 := Lib.hid hp2; have HMG := Lib.hid hmrg; have HWV := Lib.hid (next hbw3 ha2)
            clear hr1 hr2 hp1 hp2 hmrg ha1 ha2 ha3 hl1 hl2 hi1 hi2 hly1 hly2 hq2' hq1 hq2 hcz2 hb23 hbw2 hbw3 hz2 hVs
            go_wp2_with fail
            rw [← hV]
            clear hV
            refine (pjoin_in ⟨#[107]⟩ ⟨#[]⟩ G 0 (some ⟨U3.heap.size, 0, none⟩) (some ⟨U3.heap.size + 1, 0, none⟩) 1 1 1 1 V.heap.size V.heap.size [z1] [z2] _ HLY1.out HLY2.out (Nat.le_refl _) (Nat.le_refl _) HP1.out HP2.out).mono ?_
            rintro e V3 ⟨Mo, Ao, no, co, rfl, hMo, hfo⟩
            rw [HMG.out] at hMo
            rw [HG0.out]
            have hlo := hfo.lies
            have hno : no = 1 := by
              have h1 := congrArg List.length hMo
              rw [List.length_map] at h1
              have := hlo.1
              simp only [List.length_cons, List.length_nil] at h1
              omega
            subst hno
            have hco : ∀ y ∈ Mo, y.ro.cols.length ≤ 1000 := fun y hy => by
              have h1 : y.ro ∈ ros Mo := List.mem_map.2 ⟨y, hy, rfl⟩
              rw [hMo] at h1
              rw [List.mem_singleton.1 h1]
              exact Nat.le_trans HXR.out.1.cols.len (by omega)
            have hav := (Below.refl V3.heap.size V3).alloc (Nat.le_refl _) (.cells #[.string ⟨#[107]⟩, .int .i64 G, .slice Ao 1 co] 24)
            have HMO := Lib.hid hMo; have HLO := Lib.hid (hlo.2.1.below hav); have HCO := Lib.hid hco; have HW3 := Lib.hid (next (next HWV.out hfo.below) hav)
            obtain ⟨V4, hV4⟩ : ∃ V, V = V3.alloc (.cells #[.string ⟨#[107]⟩, .int .i64 G, .slice Ao 1 co] 24) := ⟨_, rfl⟩
            have hvs : V3.heap.size ≤ V4.heap.size := by rw [hV4]; simp
            obtain ⟨_, _, _⟩ := PtAt.of (heap_alloc_new V3 (.cells #[.string ⟨#[107]⟩, .int .i64 G, .slice Ao 1 co] 24))
            rw [← hV4] at HLO HW3
            clear hMo hlo hfo hco hav
            go_wp2_with fail
            rw [← hV4]
            clear hV4
            refine (pseen_any ⟨#[107]⟩ G T st Ao 1 co V3.heap.size Mo V4 HLO.out hvs (by omega) HCO.out).mono ?_
            rintro e V5 ⟨v, Mz, rfl, hmz, hoz⟩
            obtain ⟨Az, cz, rfl, hcz, _, _, hlz⟩ := hoz.slice
            obtain ⟨nz, hnz⟩ : ∃ nz, Mz.length = nz := ⟨_, rfl⟩
            rw [hnz] at hlz hcz ⊢
            rw [HMO.out] at hmz
            have hw5 := next HW3.out hoz.below
            have HBX := Lib.hid (next HB.out hw5)
            have hzl : nz = (seenR G T st [x.ro]).length := by rw [← hmz, List.length_map, hnz]
            rcases seenR_one G T st x.ro with hs | hs
            · rw [hs] at hzl
              have e1 : decide ((1 : Int) < (nz : Nat)) = false := by simp only [List.length_nil] at hzl; simp; omega
              have e2 : (((nz : Nat) : Int) == 0) = true := by simp only [List.length_nil] at hzl; rw [beq_iff_eq]; omega
              have e3 : decide (1 < nz) = false := by simp only [List.length_nil] at hzl; simp; omega
              have e4 : (nz == 0) = true := by simp only [List.length_nil] at hzl; rw [beq_iff_eq]; omega
              have HR := Lib.hid (show (seenR G T st (ros (M.take (i + 1)))).length = t by rw [HTK.out, hs, List.append_nil]; exact HT.out)
              clear hmz hoz hcz hlz hnz hw5 hzl hs
              go_wp2
              go_roundw
              case rel => exact ⟨i + 1, t, by omega, by go_num, rfl, HR.out, HBX.out⟩
              case measure => simp [intOf]; omega
            · rw [hs] at hzl hmz
              simp only [List.length_cons, List.length_nil] at hzl
              obtain rfl : nz = 1 := by omega
              clear hzl
              have htn : t < ns := by
                have h1 := congrArg List.length HMS.out
                rw [List.length_map, HTL.out, hs, List.length_append, HT.out, HNS.out] at h1
                simp at h1
                omega
              have t2 : (t : Int) < ns := by omega
              have t3 : (0 : Int) ≤ t := by omega
              have hls5 := HLS.out.below HBX.out
              obtain ⟨A9, hsl, hr9⟩ := slR_lh hls5.rd HCS.out (t : Int) ((t : Int) + 1) t (t + 1) rfl (by omega) (by omega) (by omega)
              rw [show t + 1 - t = 1 by omega] at hsl hr9
              have hl9 : Lies V5 W2.heap.size A9 1 (cs - t) ((Ms.drop t).take 1) := ⟨hr9, fun y hy => hls5.held y (List.mem_of_mem_drop (List.mem_of_mem_take hy)), by have := HCS.out; omega⟩
              have heq : decide (ros Mz = ros ((Ms.drop t).take 1)) = true := by
                rw [decide_eq_true_iff, hmz]
                show _ = List.map RA.ro ((Ms.drop t).take 1)
                rw [List.map_take, List.map_drop]
                have h1 : List.map RA.ro Ms = _ := HMS.out
                rw [h1, HTL.out, hs, List.drop_left' HT.out]
                rfl
              have hcm : ∀ y ∈ (Ms.drop t).take 1, y.ro.cols.length ≤ 1000 := fun y hy => by
                obtain ⟨r, hr, hle⟩ := seenR_cols (show y.ro ∈ seenR G T st (ros M) by rw [← HMS.out]; exact List.mem_map.2 ⟨y, List.mem_of_mem_drop (List.mem_of_mem_take hy), rfl⟩)
                have := (HIM.out.rows r hr).1.cols.len
                omega
              have hcz3 : ∀ y ∈ Mz, y.ro.cols.length ≤ 1000 := fun y hy => by
                obtain ⟨r, hr, hle⟩ := seenR_cols (g := G) (t := T) (st := st) (l := [x.ro]) (show y.ro ∈ _ by rw [hs, ← hmz]; exact List.mem_map.2 ⟨y, hy, rfl⟩)
                rw [List.mem_singleton.1 hr] at hle
                have := HXR.out.1.cols.len
                omega
              have HR := Lib.hid (show (seenR G T st (ros (M.take (i + 1)))).length = t + 1 by rw [HTK.out, hs, List.length_append, HT.out]; rfl)
              have HLZ := Lib.hid hlz; have HL9 := Lib.hid hl9; have HEQ := Lib.hid heq; have HCM := Lib.hid hcm; have HCZ3 := Lib.hid hcz3
              clear hmz hoz hcz hlz hnz hw5 hs hls5 hr9 hl9 heq hcm hcz3
              go_wp2_with fail
              refine (rsamerows_any Az A9 1 1 cz (cs - t) V5.heap.size W2.heap.size Mz ((Ms.drop t).take 1) V5 HLZ.out HL9.out (Nat.le_refl _) HBX.out.size (by omega) (by omega) HCZ3.out HCM.out).mono ?_
              rintro e V6 ⟨rfl, b6⟩
              rw [HEQ.out]
              have HB6 := Lib.hid (next HBX.out b6)
              clear b6
              go_wp2
              go_roundw
              case rel => exact ⟨i + 1, t + 1, by omega, by go_num, by go_num, HR.out, HB6.out⟩
              case measure => simp [intOf]; omega
      · obtain rfl : i = n3 := by omega
        have d0 : decide ((i : Int) < (i : Int)) = false := by simp
        have htn : t = ns := by
          have h1 := HT.out
          rw [List.take_of_length_le (by rw [← HNM.out]; exact Nat.le_refl _), ← HMS.out, List.length_map, HNS.out] at h1
          exact h1.symm
        subst htn
        have e1 : ((t : Int) == (t : Int)) = true := by simp
        have x20 : IntKind.i64.wrap (T + 20) = T + 20 := by rw [IntKind.wrap_i64]; omega
        obtain ⟨_, _, _⟩ := HPT.out
        go_wp2_with fail
        refine (pseen_any ⟨#[107]⟩ G (T + 20) st A3 i c3 W1.heap.size M wr (HLA.out.below HB1.out) HB1.out.size (by omega) HIM.out.colsle).mono ?_
        rintro e W5 ⟨v, Ml, rfl, hml, hol⟩
        obtain ⟨Al, cl, rfl, _, _, _, _⟩ := hol.slice
        have hle : Ml.length ≤ t := by
          have h1 := seenR_later (p := G) (now := T) (t := T + 20) (strict := st) (l := ros M) (by omega)
          rw [← hml, ← HMS.out, List.length_map, List.length_map, HNS.out] at h1
          exact h1
        have HB5 := Lib.hid (next HBW.out hol.below)
        obtain ⟨nl, hnl⟩ : ∃ nl, Ml.length = nl := ⟨_, rfl⟩
        rw [hnl] at hle ⊢
        have e2 : decide ((nl : Int) ≤ (t : Int)) = true := by simp; exact hle
        clear hml hol hnl
        go_wp2_with fail
        refine (pawake_any _).mono ?_
        rintro e w7 ⟨rfl, b7⟩
        go_wp2
        go_ret
        exact ⟨rfl, next (HB0.out.trans (HB5.out.mono HB0.out.size)) b7⟩
theorem psees_law (A : Option Addr) (n c : Nat) (l : List Int) (v1 : Int) (st : Bool) (w : World) (hr : RdZ w w.heap.size A n l) (hnc : n ≤ c) (hc : c ≤ maxLen) (hx : ∀ x ∈ l, (Lit.int .i64 x).wf = true) (h1 : (Lit.int .i64 v1).wf = true) :
    Calls Try.prog 5 #[.slice A n c, .int .i64 v1, .bool st] w fun e w' => e = .returned (.bool true) ∧ Below w.heap.size w w' := by
  by_cases h : 60 < n
  · exact psees_long A n c v1 st w h
  · exact psees_short A n c l v1 st w hr hnc hc hx h1 (by omega)
end Go.Proofs.Ytafbbojfifcncaa
set_option linter.unusedVariables false
namespace Go.Proofs.Ytafbbojfifcncaa
open Go Go.ChangeShapes Go.WideShapes Go.ChangeAt Go.RowKit

theorem trod_lt1 {H : Type} {enc : TypeId × Value → H} {P : Program} {w : World} {base : Nat} {sp : Nat → Bool} {held : Bool} {t : TypeId} {v : Value} {d : DataW H} {ps : List MemPlace} (h : DataW.Trod enc P w base sp held t v d ps) : ∀ p ∈ ps, p.block < w.heap.size := by
  obtain ⟨f, hf⟩ := h
  exact DataW.trod_lt f t _ _ hf
end Go.Proofs.Ytafbbojfifcncaa
set_option linter.unusedVariables false
namespace Go.Proofs.Ytafbbojfifcncaa
open Go Go.ChangeShapes Go.WideShapes Go.ChangeAt Go.RowKit Go.Joins

theorem cellsC : Try.prog.cellsOf 33 = 4 := by kernel_rfl
theorem cellsI : Try.prog.cellsOf 3 = 1 := by kernel_rfl
set_option maxRecDepth 8000 in
theorem open_ce {H : Type} {enc : TypeId × Value → H} {W : World} {base : Nat} {v : Value} {d : DataW H} {p : List MemPlace} (hval : Value.okWide Try.prog W .any base 33 v) (h : DataW.Trod enc Try.prog W 0 (fun _ => true) true 33 v d p) :
    ∃ s d a e, v = .agg #[.string s, .bool d, .int .i64 a, .int .i64 e] ∧ s.size ≤ maxLen ∧ (Lit.int .i64 a).wf = true ∧ (Lit.int .i64 e).wf = true := by
  obtain ⟨c0, c1, c2, c3, y0, y1, y2, y3, m, rfl, _, _, h0, h1, h2, h3⟩ := open_agg4 Try.underlying33 (by kernel_rfl) cellsC hval h
  obtain ⟨s, e0, _, w0⟩ := DataW.trod_string Try.underlying9 h0
  obtain ⟨b, e1, _⟩ := DataW.trod_bool Try.underlying4 h1
  obtain ⟨a, e2, _, w2⟩ := DataW.trod_int Try.underlying3 h2
  obtain ⟨e, e3, _, w3⟩ := DataW.trod_int Try.underlying3 h3
  simp at e0 e1 e2 e3
  subst e0; subst e1; subst e2; subst e3
  exact ⟨s, b, a, e, rfl, w0, w2, w3⟩
set_option maxRecDepth 8000 in
theorem open_rdz {H : Type} {enc : TypeId × Value → H} {W : World} {base : Nat} {v : Value} {d : DataW H} {p : List MemPlace} (hval : Value.okWide Try.prog W .any base 43 v) (h : DataW.Trod enc Try.prog W 0 (fun _ => true) true 43 v d p) :
    ∃ A n c l, v = .slice A n c ∧ RdZ W W.heap.size A n l ∧ n ≤ c ∧ c ≤ maxLen ∧ (∀ x ∈ l, (Lit.int .i64 x).wf = true) := by
  obtain ⟨a1, len, cap, rfl⟩ := okWide_slice Try.underlying43 hval
  obtain ⟨fuel, hf⟩ := h
  rcases open_ints Try.underlying43 Try.underlying3 cellsI hf with ⟨hcs, hx⟩ | ⟨a, len', cap', zs, hcs, _, hl, hm, hz, hx, hcell, hwz⟩
  · simp [Value.cells] at hcs
    obtain ⟨rfl, rfl, rfl⟩ := hcs
    exact ⟨none, 0, 0, [], rfl, ⟨rfl, fun h => absurd h (by omega)⟩, Nat.le_refl _, Nat.zero_le _, fun x hx => by cases hx⟩
  · simp [Value.cells] at hcs
    obtain ⟨rfl, rfl, rfl⟩ := hcs
    simp only [if_true] at hz
    refine ⟨some a, len, cap, zs.take len, rfl, ⟨by simp; omega, fun hn => ?_⟩, hl, hm, fun x hx => ?_⟩
    · have h0 := hcell 0 (by omega)
      have hs : a.spot = none := by simpa [Addr.add] using World.cell?_spot h0
      obtain ⟨g, o, sp⟩ := a
      simp only at hs
      subst hs
      refine ⟨g, o, rfl, World.block_lt_of_cell? W ⟨g, o, none⟩ (by simpa [Addr.add] using h0), fun j hj => ?_⟩
      have hj2 : j < zs.length := by simp at hj; omega
      have e : zs.getD j 0 = zs[j] := by simp [List.getD, hj2]
      have := hcell j hj2
      rw [e] at this
      simp only [Addr.add_lit] at this
      rw [this, List.getElem_take]
    · exact hwz x (List.mem_of_mem_take hx)
end Go.Proofs.Ytafbbojfifcncaa
set_option linter.unusedVariables false
namespace Go.Proofs.Ytafbbojfifcncaa.lawPartSees
open Go Go.ChangeShapes Go.WideShapes Go.ChangeAt Go.RowKit
open Go.ChangeMaps (open_string shut_string)

theorem own : ownKnob Try.prog.godebug = none := by kernel_rfl
theorem laidOut : laidOutB Try.prog = true := by kernel_rfl

set_option maxRecDepth 100000 in
theorem lifted (os : Os) (started : os.Started) (H : Type) (enc : TypeId × Value → H) :
    ReturnsInHanded {} Try.checked os 5 .any (Rows.partSeesSpec.pre6 enc Try.prog Try.f5 Rows.partSeesRow.domain false) (Rows.partSeesSpec.post enc Try.prog Try.f5 false true false false) := by
  refine returnsInHanded_of_change (C := Try.checked) own started (by kernel_rfl) Try.func5
    (ChangeSpec.witness6 (enc := enc) (C := Try.checked) false ⟨#[], #[.slice none 0 0, .int .i64 0, .bool false], []⟩ 8 (by kernel_rfl) (by kernel_rfl) (by kernel_rfl) (by kernel_rfl)) ?_
  intro W base args ds gs before hval0 hW hcnd _
  have hval : ∀ (j : Nat) t v, Try.f5.params[j]? = some t → args[j]? = some v → Value.okWide Try.prog W .any base t v := hval0
  have hW' := hW
  obtain ⟨p, q, hA0, hV, rfl, hfz, hnd⟩ := hW
  have hA : DataW.TrodAll enc Try.prog W 0 (fun _ => true) true Try.f5.params.toList args.toList ds p := hA0
  rw [Try.params5] at hA hval
  obtain ⟨v0, vs0, d0, ds0, p0, q0, hargs, rfl, rfl, h0, r0⟩ := trodAll_cons hA
  obtain ⟨v1, vs1, d1, ds1, p1, q1, rfl, rfl, rfl, h1, r1⟩ := trodAll_cons r0
  obtain ⟨v2, vs2, d2, ds2, p2, q2, rfl, rfl, rfl, h2, r2⟩ := trodAll_cons r1
  obtain ⟨rfl, rfl, rfl⟩ := trodAll_nil r2
  obtain rfl : args = #[v0, v1, v2] := by cases args; simp_all
  obtain ⟨rfl, rfl⟩ := trodVars_none hV
  have t0 := h0
  obtain ⟨A0, n0, c0, l0, rfl, wr0, wn0, wc0, ws0⟩ := open_rdz (hval 0 43 v0 rfl rfl) h0
  obtain ⟨a1, rfl, rfl, rfl, w1⟩ := open_int Try.underlying3 (hval 1 3 v1 rfl rfl) h1
  obtain ⟨a2, rfl, rfl, rfl⟩ := open_bool Try.underlying4 (hval 2 4 v2 rfl rfl) h2
  clear hA0 hval0
  refine (psees_law A0 n0 c0 l0 a1 a2 W wr0 wn0 wc0 ws0 w1).mono fun e W' ⟨he, bel⟩ => ?_
  subst he
  exact ⟨_, rfl, _, _, _, [], _, [], hW', trodAll_mk1 (shut_bool Try.underlying4 _), (trodAll_cons_mk (Below.trod laidOut (by kernel_rfl) (of_decide_eq_true (by kernel_rfl)) t0 bel (trod_lt1 t0)) (trodAll_cons_mk (shut_int Try.underlying3 w1) (trodAll_cons_mk (shut_bool Try.underlying4 _) trodAll_mk0))), rfl, bel.frame _, fun h => by cases h⟩

theorem over : Rows.partSeesRow.holds Try.pinned (OpenSpec.ofChange Rows.partSeesSpec) :=
  OpenClaim.holds_of_wide 5 Try.f5 rfl rfl rfl rfl rfl rfl rfl ⟨rfl, rfl, rfl, rfl, rfl⟩ rfl rfl rfl rfl rfl (by kernel_rfl) Try.func5 (by kernel_rfl)
    (of_decide_eq_true (by kernel_rfl)) (by unfold Func.isWrapper; first | (rw [if_pos (by decide +kernel)]; kernel_rfl) | (rw [if_neg (by decide +kernel)]; exact ⟨rfl, rfl⟩))
    (fun os started H enc _ => lifted os started H enc)

theorem proved : Rows.PartSeesSaid := over
end Go.Proofs.Ytafbbojfifcncaa.lawPartSees
