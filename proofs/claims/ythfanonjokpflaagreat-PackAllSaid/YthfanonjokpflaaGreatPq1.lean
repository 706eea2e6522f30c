/-
  The document's own SameRows, Same of partitions.
-/
import Derived.Test.YthfanonjokpflaaGreatTkl
import Derived.Test.YthfanonjokpflaaGreatPd3
import Derived.Test.YthfanonjokpflaaGreatRo2
import Derived.Deep.RegionHeld3
set_option linter.unusedVariables false
set_option linter.unusedSimpArgs false
namespace Go.Proofs.YthfanonjokpflaaGreat
open Go Go.RowKit

theorem rsame_ra (x y : RA) (B B' : Nat) (w : World) (h : RaIn w B x) (h' : RaIn w B' y) (hB : B ≤ w.heap.size) (hB' : B' ≤ w.heap.size) (hn : x.ro.cols.length ≤ 1000) (hn' : y.ro.cols.length ≤ 1000) :
    Calls Tryz.prog 84 #[.agg #[.string x.ro.key, .string x.ro.live.s, .bool x.ro.live.d, .int .i64 x.ro.live.a, .int .i64 x.ro.live.e, .int .i64 x.ro.gone, .int .i64 x.ro.shade, .slice x.A x.ro.cols.length x.c], .agg #[.string y.ro.key, .string y.ro.live.s, .bool y.ro.live.d, .int .i64 y.ro.live.a, .int .i64 y.ro.live.e, .int .i64 y.ro.gone, .int .i64 y.ro.shade, .slice y.A y.ro.cols.length y.c]] w fun e w' => e = .returned (.bool (x.ro.same y.ro)) ∧ Below w.heap.size w w' :=
  rsamerow_any x.ro.key x.ro.live.s y.ro.key y.ro.live.s x.ro.live.d y.ro.live.d x.ro.live.a x.ro.live.e x.ro.gone x.ro.shade y.ro.live.a y.ro.live.e y.ro.gone y.ro.shade x.A y.A x.ro.cols.length x.c y.ro.cols.length y.c B B' x.ro.cols y.ro.cols w h.rd h'.rd hB hB' (by omega) (by omega)
set_option maxRecDepth 8000 in
set_option maxHeartbeats 4000000 in
theorem rsamerows_any (A A' : Option Addr) (n n' c c' B B' : Nat) (L M : List RA) (w : World) (h : Lies w B A n c L) (h' : Lies w B' A' n' c' M) (hB : B ≤ w.heap.size) (hB' : B' ≤ w.heap.size) (hn : n ≤ 1000000) (hn' : n' ≤ 1000000) (hf : ∀ x ∈ L, x.ro.cols.length ≤ 1000) (hf' : ∀ x ∈ M, x.ro.cols.length ≤ 1000) :
    Calls Tryz.prog 46 #[.slice A n c, .slice A' n' c'] w fun e w' => e = .returned (.bool (decide (ros L = ros M))) ∧ Below w.heap.size w w' := by
  have hl := h.len
  have hl' := h'.len
  obtain ⟨v, hv⟩ : ∃ v : Bool, decide (ros L = ros M) = v := ⟨_, rfl⟩
  rw [hv]
  have HV := Lib.hid hv
  clear hv
  by_cases hne : n = n'
  · subst hne
    have HL := Lib.hid hl
    have HL' := Lib.hid hl'
    have HH := Lib.hid h; have HH' := Lib.hid h'
    have HF := Lib.hid hf; have HF' := Lib.hid hf'
    clear hl hl' h h' hf hf'
    go_enter Tryz.func46, Tryz.ntmps46
    go_wp2
    go_loopw [5] (fun i wr => ∃ t : Nat, t ≤ n ∧ i = .int .i64 t ∧ ros (L.take t) = ros (M.take t) ∧ Below w.heap.size w wr) (fun i _ => n - (intOf i).toNat)
    case atStart => exact ⟨0, Nat.zero_le _, rfl, rfl, Below.refl _ _⟩
    case round =>
      obtain ⟨t, ht, rfl, hz, hb⟩ := hrel
      have HZ := Lib.hid hz; have HB := Lib.hid hb
      clear hz hb
      by_cases hlt : t < n
      · have i1 : (t : Int) < n := by omega
        have i0 : (0 : Int) ≤ t := by omega
        have htl : t < L.length := by rw [HL.out]; exact hlt
        have htl' : t < M.length := by rw [HL'.out]; exact hlt
        obtain ⟨g, o, rfl, hgb⟩ := HH.out.rd.ex (by omega)
        obtain ⟨g', o', rfl, hgb'⟩ := HH'.out.rd.ex (by omega)
        have hrow := (HH.out.below (HB.out.mono hB)).rd.row htl
        have hrow' := (HH'.out.below (HB.out.mono hB')).rd.row htl'
        have hin := (HH.out.below (HB.out.mono hB)).held L[t] (List.getElem_mem htl)
        have hin' := (HH'.out.below (HB.out.mono hB')).held M[t] (List.getElem_mem htl')
        have hcl := HF.out L[t] (List.getElem_mem htl)
        have hcl' := HF'.out M[t] (List.getElem_mem htl')
        have htk := ros_take htl
        have htk' := ros_take htl'
        have hne : L[t].ro ≠ M[t].ro → v = false := fun hh => by
          rw [← HV.out, decide_eq_false_iff_not]
          intro he
          refine hh ?_
          have h1 : (ros L)[t]? = (ros M)[t]? := by rw [he]
          rw [List.getElem?_map, List.getElem?_map, List.getElem?_eq_getElem htl, List.getElem?_eq_getElem htl'] at h1
          injection h1
        obtain ⟨x, hx⟩ : ∃ x, L[t] = x := ⟨_, rfl⟩
        obtain ⟨y, hy⟩ : ∃ y, M[t] = y := ⟨_, rfl⟩
        rw [hx] at hrow hin hcl htk hne
        rw [hy] at hrow' hin' hcl' htk' hne
        obtain ⟨u, hu⟩ : ∃ u, x.ro.same y.ro = u := ⟨_, rfl⟩
        have HRX := Lib.hid hrow; have HRY := Lib.hid hrow'; have HU := Lib.hid hu; have HTK := Lib.hid htk; have HTK' := Lib.hid htk'; have HNE := Lib.hid hne
        have HIN := Lib.hid hin; have HIN' := Lib.hid hin'; have HCL := Lib.hid hcl; have HCL' := Lib.hid hcl'
        have HGW : Hid (g < wr.heap.size) := Lib.hid (by have := HB.out.size; omega)
        have HGW' : Hid (g' < wr.heap.size) := Lib.hid (by have := HB.out.size; omega)
        have HUB : Hid (B ≤ wr.heap.size) := Lib.hid (Nat.le_trans hB HB.out.size)
        have HUB' : Hid (B' ≤ wr.heap.size) := Lib.hid (Nat.le_trans hB' HB.out.size)
        clear hrow hrow' hu htk htk' hne hin hin' hcl hcl' hx hy
        go_wp2_with fail
        refine wp_region_held_drew (S := fun w' => Below wr.heap.size wr w') (by kernel_rfl) ?_ (fun hHeld => ?_)
        · exact (Below.refl _ _).drew
        refine takesH [0, 1, 2, 3, 4, 5, 6, 7] ?_
        repeat
          refine takesH_one (v := ?_) ?_ ?_
          rotate_left
          · first | (refine Or.inr ⟨by rfl, ?_⟩; with_reducible rfl) | (refine Or.inl ⟨by rfl, ?_⟩; intro wx hSw; (try dsimp only at hSw); first | (go_simp; first | done | with_reducible rfl) | (obtain ⟨_, _, _, _, _, _, _, _⟩ := HRX.out.below hSw HGW.out; go_simp; first | done | with_reducible rfl) | (obtain ⟨_, _, _, _, _, _, _, _⟩ := HRY.out.below hSw HGW'.out; go_simp; first | done | with_reducible rfl))
          try simp only [Act.put, List.getElem_toArray, List.getElem_cons_succ, List.getElem_cons_zero, List.setIfInBounds_toArray, List.set_cons_zero, List.set_cons_succ]
        refine takesH_nil ?_
        refine wpAnyH_ready (rs := [8]) (by kernel_rfl) (by simp) (AllReadyH.cons rfl (fun K hK => ?_) AllReadyH.nil)
        go_simp
        refine (rsame_ra x y B B' _ (HIN.out.below (hHeld.mono HUB.out)) (HIN'.out.below (hHeld.mono HUB'.out)) (Nat.le_trans HUB.out hHeld.size) (Nat.le_trans HUB'.out hHeld.size) HCL.out HCL'.out).mono ?_
        rintro e w1 ⟨rfl, b1⟩
        rw [HU.out]
        try go_wp2_with fail
        refine hK.out _ _ ?_ (fun hHeld => ?_)
        · exact next hHeld b1
        clear hK K
        try simp only [Act.put, List.getElem_toArray, List.getElem_cons_succ, List.getElem_cons_zero, List.setIfInBounds_toArray, List.set_cons_zero, List.set_cons_succ]
        refine takesH [9] ?_
        repeat
          refine takesH_one (v := ?_) ?_ ?_
          rotate_left
          · first | (refine Or.inr ⟨by rfl, ?_⟩; with_reducible rfl) | (refine Or.inl ⟨by rfl, ?_⟩; intro wx hSw; (try dsimp only at hSw); first | (go_simp; first | done | with_reducible rfl))
          try simp only [Act.put, List.getElem_toArray, List.getElem_cons_succ, List.getElem_cons_zero, List.setIfInBounds_toArray, List.set_cons_zero, List.set_cons_succ]
        refine takesH_nil ?_
        refine wpAnyH_done (by kernel_rfl) ?_ _
        cases u
        · have hv0 : v = false := HNE.out fun he => by have := (rosame_iff _ _).2 he; rw [HU.out] at this; cases this
          subst hv0
          go_wp2
          go_ret
          exact ⟨rfl, next HB.out hHeld⟩
        · go_wp2
          go_roundw
          case rel => exact ⟨t + 1, by omega, by go_num, by rw [HTK.out, HTK'.out, HZ.out, (rosame_iff _ _).1 HU.out], next HB.out hHeld⟩
          case measure => simp [intOf]; omega
      · obtain rfl : t = n := by omega
        have hf : v = true := by
          rw [← HV.out, decide_eq_true_iff]
          have := HZ.out
          rwa [List.take_of_length_le (by rw [HL.out]; exact Nat.le_refl _), List.take_of_length_le (by rw [HL'.out]; exact Nat.le_refl _)] at this
        subst hf
        go_wp2
        go_ret
        exact ⟨rfl, HB.out⟩
  · have hf : v = false := by
      rw [← HV.out, decide_eq_false_iff_not]
      intro he
      have := congrArg List.length he
      rw [List.length_map, List.length_map, hl, hl'] at this
      exact hne this
    subst hf
    have hb : ((n : Int) != n') = true := by rw [bne_iff_ne]; omega
    go_enter Tryz.func46, Tryz.ntmps46
    go_wp2
    go_ret
    exact ⟨rfl, Below.refl _ _⟩
set_option maxRecDepth 8000 in
set_option maxHeartbeats 4000000 in
theorem rpsame_any (k k' : ByteArray) (g g' : Int) (A A' : Option Addr) (n n' c c' B B' : Nat) (L M : List RA) (w : World) (h : Lies w B A n c L) (h' : Lies w B' A' n' c' M) (hB : B ≤ w.heap.size) (hB' : B' ≤ w.heap.size) (hn : n ≤ 1000000) (hn' : n' ≤ 1000000) (hf : ∀ x ∈ L, x.ro.cols.length ≤ 1000) (hf' : ∀ x ∈ M, x.ro.cols.length ≤ 1000) :
    Calls Tryz.prog 17 #[.agg #[.string k, .int .i64 g, .slice A n c], .agg #[.string k', .int .i64 g', .slice A' n' c']] w fun e w' => e = .returned (.bool (psame k g (ros L) k' g' (ros M))) ∧ Below w.heap.size w w' := by
  obtain ⟨r, hrr⟩ : ∃ r, psame k g (ros L) k' g' (ros M) = r := ⟨_, rfl⟩
  rw [hrr]
  have bz := ((Below.refl w.heap.size w).alloc (Nat.le_refl _) (.cells #[.string k, .int .i64 g, .slice A n c] 24)).alloc (by simp) (.cells #[.string k', .int .i64 g', .slice A' n' c'] 24)
  have HL := Lib.hid (h.below (bz.mono hB)); have HL' := Lib.hid (h'.below (bz.mono hB')); have BZ := Lib.hid bz; have HR := Lib.hid hrr; have HF := Lib.hid hf; have HF' := Lib.hid hf'
  clear hrr bz h h' hf hf'
  unfold psame at HR
  cases h1 : (k.toList == k'.toList)
  · have hv : r = false := by rw [← HR.out, h1]; rfl
    subst hv
    go_enter Tryz.func17, Tryz.ntmps17
    go_wp2
    go_ret
    exact ⟨rfl, BZ.out⟩
  · cases h3 : (g == g')
    · have hv : r = false := by rw [← HR.out, h1, h3]; rfl
      subst hv
      go_enter Tryz.func17, Tryz.ntmps17
      go_wp2
      go_ret
      exact ⟨rfl, BZ.out⟩
    · have hv : decide (ros L = ros M) = r := by rw [← HR.out, h1, h3]; simp
      have HV := Lib.hid hv
      clear hv
      go_enter Tryz.func17, Tryz.ntmps17
      go_wp2_with fail
      refine (rsamerows_any A A' n n' c c' B B' L M _ HL.out HL'.out ?hb ?hb' hn hn' HF.out HF'.out).mono ?_
      case hb => simp; omega
      case hb' => simp; omega
      rintro e w2 ⟨rfl, b2⟩
      rw [HV.out]
      go_wp2
      go_ret
      exact ⟨rfl, next BZ.out b2⟩
end Go.Proofs.YthfanonjokpflaaGreat
