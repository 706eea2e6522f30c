/-
  The document's own reader (chapter 9): what is joined to partitions.
-/
import Derived.Test.YthfanonjokpflaaGreatTkl
import Derived.Test.YthfanonjokpflaaGreatLawPkAllB
import Derived.Test.YthfanonjokpflaaGreatPq1
import Derived.Deep.RegionHeld3
import Derived.Test.YthfanonjokpflaaGreatPd3
import Derived.Test.YthfanonjokpflaaGreatPk
import Derived.Test.YthfanonjokpflaaGreatLawPkAllA
import Derived.Test.YthfanonjokpflaaGreatKg3
import Derived.Test.YthfanonjokpflaaGreatRr1
import Derived.Test.YthfanonjokpflaaGreatKg
import Derived.Test.YthfanonjokpflaaGreatKq
import Derived.Lib.SmallJoins
import Derived.Test.YthfanonjokpflaaGreatPo
import Derived.Test.YthfanonjokpflaaGreatPm0
import Derived.Deep.DeepCutAuto
import Derived.Deep.CutBlock
import Derived.Test.YthfanonjokpflaaGreatPa
set_option linter.unusedVariables false
set_option linter.unusedSimpArgs false
namespace Go.Proofs.YthfanonjokpflaaGreat
open Go Go.RowKit

set_option maxRecDepth 8000 in
set_option maxHeartbeats 4000000 in
theorem same_ints (A A' : Option Addr) (n c c' B B' : Nat) (L : List Int) (w : World) (h : RdZ w B A n L) (h' : RdZ w B' A' n L) (hB : B ≤ w.heap.size) (hB' : B' ≤ w.heap.size) (hn : n ≤ 1000000) :
    Calls Tryz.prog 49 #[.slice A n c, .slice A' n c'] w fun e w' => e = .returned (.bool true) ∧ Below w.heap.size w w' := by
  have hl := h.1
  have HH := Lib.hid h; have HH' := Lib.hid h'; have HB := Lib.hid hB; have HB' := Lib.hid hB'; have HL := Lib.hid hl; have HN := Lib.hid hn
  have d1 : ((n : Int) == (n : Int)) = true := by simp
  clear h h' hB hB' hn hl
  go_enter Tryz.func49, Tryz.ntmps49
  go_wp2
  clear d1
  go_loopw [5] (fun i wr => ∃ t : Nat, t ≤ n ∧ i = .int .i64 t ∧ Below w.heap.size w wr) (fun i _ => n - (intOf i).toNat)
  case atStart => exact ⟨0, Nat.zero_le _, rfl, Below.refl _ _⟩
  case round =>
    obtain ⟨t, ht, rfl, hb⟩ := hrel
    have i8 : n ≤ 1000000 := HN.out
    have BB := Lib.hid hb
    by_cases hlt : t < n
    · have i1 : (t : Int) < n := by omega
      have i0 : (0 : Int) ≤ t := by omega
      have htl : t < L.length := by rw [HL.out]; exact hlt
      have hq := HH.out.below (hb.mono HB.out)
      have hq' := HH'.out.below (hb.mono HB'.out)
      obtain ⟨g, o, rfl, hg, hc⟩ := hq.2 (by omega)
      obtain ⟨g', o', rfl, hg', hc'⟩ := hq'.2 (by omega)
      have z := hc t htl
      have z' := hc' t htl
      obtain ⟨x, hx⟩ : ∃ x, L[t] = x := ⟨_, rfl⟩
      rw [hx] at z z'
      have e0 : (x != x) = false := by simp
      have e1 : (x == x) = true := by simp
      have hgw : g < wr.heap.size := by have := HB.out; have := hb.size; omega
      have hgw' : g' < wr.heap.size := by have := HB'.out; have := hb.size; omega
      have hall : ∀ w', Below wr.heap.size wr w' → w'.cell? ⟨g, o + t, none⟩ = some (.int .i64 x) ∧ w'.cell? ⟨g', o' + t, none⟩ = some (.int .i64 x) := fun w' hb' => ⟨(hb'.cell (p := ⟨g, o + t, none⟩) hgw).trans z, (hb'.cell (p := ⟨g', o' + t, none⟩) hgw').trans z'⟩
      have HALL := Lib.hid hall
      clear hall hb hq hq' hc hc' z z' hx hg hg' hgw hgw'
      go_wp2_with fail
      refine wp_region_held_drew (S := fun w' => Below wr.heap.size wr w') (by kernel_rfl) ?_ (fun hHeld => ?_)
      · exact (Below.refl _ _).drew
      refine takesH [0, 1, 2, 3, 4, 5, 6, 7, 8] ?_
      repeat
        refine takesH_one (v := ?_) ?_ ?_
        rotate_left
        · first | (refine Or.inr ⟨by rfl, ?_⟩; with_reducible rfl) | (refine Or.inl ⟨by rfl, ?_⟩; intro wx hSw; (try dsimp only at hSw); first | (go_simp; first | done | with_reducible rfl) | (obtain ⟨_, _⟩ := HALL.out _ hSw; go_simp; first | done | with_reducible rfl))
        try simp only [Act.put, List.getElem_toArray, List.getElem_cons_succ, List.getElem_cons_zero, List.setIfInBounds_toArray, List.set_cons_zero, List.set_cons_succ]
      refine takesH_nil ?_
      refine wpAnyH_done (by kernel_rfl) ?_ _
      have BD := Lib.hid (next BB.out hHeld)
      go_wp2
      go_roundw
      case rel => exact ⟨t + 1, by omega, by go_num, BD.out⟩
      case measure => simp [intOf]; omega
    · obtain rfl : t = n := by omega
      clear hb
      go_wp2
      go_ret
      exact ⟨rfl, BB.out⟩
set_option maxRecDepth 8000 in
set_option maxHeartbeats 4000000 in
theorem same_notes (A A' : Option Addr) (n c c' B B' : Nat) (L : List NA) (w : World) (h : RdN w B A n L) (h' : RdN w B' A' n L) (hB : B ≤ w.heap.size) (hB' : B' ≤ w.heap.size) (hn : n ≤ 1000000) :
    Calls Tryz.prog 48 #[.slice A n c, .slice A' n c'] w fun e w' => e = .returned (.bool true) ∧ Below w.heap.size w w' := by
  have hl := h.1
  have HH := Lib.hid h; have HH' := Lib.hid h'; have HB := Lib.hid hB; have HB' := Lib.hid hB'; have HL := Lib.hid hl; have HN := Lib.hid hn
  have d1 : ((n : Int) == (n : Int)) = true := by simp
  clear h h' hB hB' hn hl
  go_enter Tryz.func48, Tryz.ntmps48
  go_wp2
  clear d1
  go_loopw [5] (fun i wr => ∃ t : Nat, t ≤ n ∧ i = .int .i64 t ∧ Below w.heap.size w wr) (fun i _ => n - (intOf i).toNat)
  case atStart => exact ⟨0, Nat.zero_le _, rfl, Below.refl _ _⟩
  case round =>
    obtain ⟨t, ht, rfl, hb⟩ := hrel
    have i8 : n ≤ 1000000 := HN.out
    have BB := Lib.hid hb
    by_cases hlt : t < n
    · have i1 : (t : Int) < n := by omega
      have i0 : (0 : Int) ≤ t := by omega
      have htl : t < L.length := by rw [HL.out]; exact hlt
      have hq := HH.out.below (hb.mono HB.out)
      have hq' := HH'.out.below (hb.mono HB'.out)
      obtain ⟨g, o, rfl, hg⟩ := hq.ex (by omega)
      obtain ⟨g', o', rfl, hg'⟩ := hq'.ex (by omega)
      have z := hq.part htl
      have z' := hq'.part htl
      obtain ⟨⟨x, s⟩, hx⟩ : ∃ x, L[t] = x := ⟨_, rfl⟩
      rw [hx] at z z'
      dsimp only at z z'
      have e0 : (x != x) = false := by simp
      have e1 : (x == x) = true := by simp
      have e2 : (s.toList != s.toList) = false := by simp
      have e3 : (s.toList == s.toList) = true := by simp
      have hgw : g < wr.heap.size := by have := HB.out; have := hb.size; omega
      have hgw' : g' < wr.heap.size := by have := HB'.out; have := hb.size; omega
      have hall : ∀ w', Below wr.heap.size wr w' → w'.cell? ⟨g, o + t * 2, none⟩ = some (.int .i64 x) ∧ w'.cell? ⟨g, o + t * 2 + 1, none⟩ = some (.string s) ∧ w'.cell? ⟨g', o' + t * 2, none⟩ = some (.int .i64 x) ∧ w'.cell? ⟨g', o' + t * 2 + 1, none⟩ = some (.string s) := fun w' hb' => ⟨(hb'.cell (p := ⟨g, _, none⟩) hgw).trans z.1, (hb'.cell (p := ⟨g, _, none⟩) hgw).trans z.2, (hb'.cell (p := ⟨g', _, none⟩) hgw').trans z'.1, (hb'.cell (p := ⟨g', _, none⟩) hgw').trans z'.2⟩
      have HALL := Lib.hid hall
      clear hall hb hq hq' z z' hx hg hg' hgw hgw'
      go_wp2_with fail
      refine wp_region_held_drew (S := fun w' => Below wr.heap.size wr w') (by kernel_rfl) ?_ (fun hHeld => ?_)
      · exact (Below.refl _ _).drew
      refine takesH [0, 1, 2, 3, 4, 5, 6, 7, 8, 9, 10, 11, 12, 13, 14, 15, 16, 17, 18, 19, 20, 21, 22, 23] ?_
      repeat
        refine takesH_one (v := ?_) ?_ ?_
        rotate_left
        · first | (refine Or.inr ⟨by rfl, ?_⟩; with_reducible rfl) | (refine Or.inl ⟨by rfl, ?_⟩; intro wx hSw; (try dsimp only at hSw); first | (go_simp; first | done | with_reducible rfl) | (obtain ⟨_, _, _, _⟩ := HALL.out _ hSw; go_simp; first | done | with_reducible rfl))
        try simp only [Act.put, List.getElem_toArray, List.getElem_cons_succ, List.getElem_cons_zero, List.setIfInBounds_toArray, List.set_cons_zero, List.set_cons_succ]
      refine takesH_nil ?_
      refine wpAnyH_done (by kernel_rfl) ?_ _
      have BD := Lib.hid (next BB.out hHeld)
      go_wp2
      go_roundw
      case rel => exact ⟨t + 1, by omega, by go_num, BD.out⟩
      case measure => simp [intOf]; omega
    · obtain rfl : t = n := by omega
      clear hb
      go_wp2
      go_ret
      exact ⟨rfl, BB.out⟩
set_option maxRecDepth 8000 in
set_option maxHeartbeats 4000000 in
theorem same_muts (A A' : Option Addr) (n c c' B B' : Nat) (L M : List MA) (w : World) (h : LiesM w B A n c L) (h' : LiesM w B' A' n c' M) (hB : B ≤ w.heap.size) (hB' : B' ≤ w.heap.size) (hn : n ≤ 1000000) (hf : ∀ x ∈ L, x.p.L.length ≤ 1000000 ∧ ∀ y ∈ x.p.L, y.ro.cols.length ≤ 1000) (hf' : ∀ x ∈ M, x.p.L.length ≤ 1000000 ∧ ∀ y ∈ x.p.L, y.ro.cols.length ≤ 1000) (he : muts L = muts M) :
    Calls Tryz.prog 47 #[.slice A n c, .slice A' n c'] w fun e w' => e = .returned (.bool true) ∧ Below w.heap.size w w' := by
  have hl := h.rd.1
  have HH := Lib.hid h; have HH' := Lib.hid h'; have HB := Lib.hid hB; have HB' := Lib.hid hB'; have HL := Lib.hid hl; have HN := Lib.hid hn; have HM := Lib.hid h'.rd.1; have HF := Lib.hid hf; have HF' := Lib.hid hf'; have HE := Lib.hid he
  clear hf hf' he
  have d1 : ((n : Int) == (n : Int)) = true := by simp
  clear h h' hB hB' hn hl
  go_enter Tryz.func47, Tryz.ntmps47
  go_wp2
  clear d1
  go_loopw [5] (fun i wr => ∃ t : Nat, t ≤ n ∧ i = .int .i64 t ∧ Below w.heap.size w wr) (fun i _ => n - (intOf i).toNat)
  case atStart => exact ⟨0, Nat.zero_le _, rfl, Below.refl _ _⟩
  case round =>
    obtain ⟨t, ht, rfl, hb⟩ := hrel
    have i8 : n ≤ 1000000 := HN.out
    have BB := Lib.hid hb
    by_cases hlt : t < n
    · have i1 : (t : Int) < n := by omega
      have i0 : (0 : Int) ≤ t := by omega
      have htl : t < L.length := by rw [HL.out]; exact hlt
      have hq := HH.out.below (hb.mono HB.out)
      have hq' := HH'.out.below (hb.mono HB'.out)
      have htm : t < M.length := by rw [HM.out]; exact hlt
      obtain ⟨g, o, rfl, hg⟩ := hq.rd.ex (by omega)
      obtain ⟨g', o', rfl, hg'⟩ := hq'.rd.ex (by omega)
      have z := hq.rd.part htl
      have z' := hq'.rd.part htm
      have p := hq.parts L[t] (List.getElem_mem htl)
      have p' := hq'.parts M[t] (List.getElem_mem htm)
      have f := HF.out L[t] (List.getElem_mem htl)
      have f' := HF'.out M[t] (List.getElem_mem htm)
      have em : mutOf L[t] = mutOf M[t] := by
        have h1 : (muts L)[t]'(by rw [List.length_map]; exact htl) = (muts M)[t]'(by rw [List.length_map]; exact htm) := by simp only [HE.out]
        simpa using h1
      obtain ⟨⟨tb, pk, pg, pL, pA, pc⟩, hx⟩ : ∃ x, L[t] = x := ⟨_, rfl⟩
      obtain ⟨⟨tb', pk', pg', pM, pA', pc'⟩, hx'⟩ : ∃ x, M[t] = x := ⟨_, rfl⟩
      rw [hx] at z p f em
      rw [hx'] at z' p' f' em
      dsimp only at z z' p p' f f'
      unfold mutOf at em
      injection em with em1 em2
      injection em2 with em2 em3 em4
      dsimp only at em1 em2 em3 em4
      subst em1
      subst em2
      subst em3
      have ps : psame pk pg (ros pL) pk pg (ros pM) = true := by rw [em4]; exact psame_self _ _ _
      have e2 : (tb.toList != tb.toList) = false := by simp
      have e3 : (tb.toList == tb.toList) = true := by simp
      have hgw : g < wr.heap.size := by have := HB.out; have := hb.size; omega
      have hgw' : g' < wr.heap.size := by have := HB'.out; have := hb.size; omega
      have PP := Lib.hid (show _ ∧ _ from ⟨p, p'⟩); have FF := Lib.hid (show _ ∧ _ from ⟨f, f'⟩); have PS := Lib.hid ps; have BW := Lib.hid (show B ≤ wr.heap.size ∧ B' ≤ wr.heap.size from ⟨Nat.le_trans HB.out hb.size, Nat.le_trans HB'.out hb.size⟩)
      have hall : ∀ w', Below wr.heap.size wr w' → w'.cell? ⟨g, o + t * 4, none⟩ = some (.string tb) ∧ w'.cell? ⟨g, o + t * 4 + 1, none⟩ = some (.string pk) ∧ w'.cell? ⟨g, o + t * 4 + 2, none⟩ = some (.int .i64 pg) ∧ w'.cell? ⟨g, o + t * 4 + 3, none⟩ = some (.slice pA pL.length pc) ∧ w'.cell? ⟨g', o' + t * 4, none⟩ = some (.string tb) ∧ w'.cell? ⟨g', o' + t * 4 + 1, none⟩ = some (.string pk) ∧ w'.cell? ⟨g', o' + t * 4 + 2, none⟩ = some (.int .i64 pg) ∧ w'.cell? ⟨g', o' + t * 4 + 3, none⟩ = some (.slice pA' pM.length pc') := fun w' hb' => ⟨(hb'.cell (p := ⟨g, _, none⟩) hgw).trans z.1, (hb'.cell (p := ⟨g, _, none⟩) hgw).trans z.2.1, (hb'.cell (p := ⟨g, _, none⟩) hgw).trans z.2.2.1, (hb'.cell (p := ⟨g, _, none⟩) hgw).trans z.2.2.2, (hb'.cell (p := ⟨g', _, none⟩) hgw').trans z'.1, (hb'.cell (p := ⟨g', _, none⟩) hgw').trans z'.2.1, (hb'.cell (p := ⟨g', _, none⟩) hgw').trans z'.2.2.1, (hb'.cell (p := ⟨g', _, none⟩) hgw').trans z'.2.2.2⟩
      have HALL := Lib.hid hall
      clear hall hb hq hq' z z' p p' f f' hx hx' hg hg' hgw hgw' ps em4
      go_wp2_with fail
      refine wp_region_held_drew (S := fun w' => Below wr.heap.size wr w') (by kernel_rfl) ?_ (fun hHeld => ?_)
      · exact (Below.refl _ _).drew
      refine takesH [0, 1, 2, 3, 4, 5, 6, 7, 8, 9, 10, 11, 12, 13, 14, 15, 16, 17, 18, 19, 20, 21] ?_
      repeat
        refine takesH_one (v := ?_) ?_ ?_
        rotate_left
        · first | (refine Or.inr ⟨by rfl, ?_⟩; with_reducible rfl) | (refine Or.inl ⟨by rfl, ?_⟩; intro wx hSw; (try dsimp only at hSw); first | (go_simp; first | done | with_reducible rfl) | (obtain ⟨_, _, _, _, _, _, _, _⟩ := HALL.out _ hSw; go_simp; first | done | with_reducible rfl))
        try simp only [Act.put, List.getElem_toArray, List.getElem_cons_succ, List.getElem_cons_zero, List.setIfInBounds_toArray, List.set_cons_zero, List.set_cons_succ]
      refine takesH_nil ?_
      refine wpAnyH_ready (rs := [22]) (by kernel_rfl) (by simp) (AllReadyH.cons rfl (fun K hK => ?_) AllReadyH.nil)
      go_simp
      refine (rpsame_any pk pk pg pg pA pA' pL.length pM.length pc pc' B B' pL pM _ (PP.out.1.below (hHeld.mono BW.out.1)) (PP.out.2.below (hHeld.mono BW.out.2)) (Nat.le_trans BW.out.1 hHeld.size) (Nat.le_trans BW.out.2 hHeld.size) FF.out.1.1 FF.out.2.1 FF.out.1.2 FF.out.2.2).mono ?_
      rintro e v1 ⟨rfl, b1⟩
      rw [PS.out]
      try go_wp2_with fail
      refine hK.out _ _ ?_ (fun hHeld => ?_)
      · exact next hHeld b1
      clear hK K
      try simp only [Act.put, List.getElem_toArray, List.getElem_cons_succ, List.getElem_cons_zero, List.setIfInBounds_toArray, List.set_cons_zero, List.set_cons_succ]
      refine takesH [23, 24] ?_
      repeat
        refine takesH_one (v := ?_) ?_ ?_
        rotate_left
        · first | (refine Or.inr ⟨by rfl, ?_⟩; with_reducible rfl) | (refine Or.inl ⟨by rfl, ?_⟩; intro wx hSw; (try dsimp only at hSw); first | (go_simp; first | done | with_reducible rfl))
        try simp only [Act.put, List.getElem_toArray, List.getElem_cons_succ, List.getElem_cons_zero, List.setIfInBounds_toArray, List.set_cons_zero, List.set_cons_succ]
      refine takesH_nil ?_
      refine wpAnyH_done (by kernel_rfl) ?_ _
      have BD := Lib.hid (next BB.out hHeld)
      go_wp2
      go_roundw
      case rel => exact ⟨t + 1, by omega, by go_num, BD.out⟩
      case measure => simp [intOf]; omega
    · obtain rfl : t = n := by omega
      clear hb
      go_wp2
      go_ret
      exact ⟨rfl, BB.out⟩
end Go.Proofs.YthfanonjokpflaaGreat
set_option linter.unusedVariables false
set_option linter.unusedSimpArgs false
namespace Go.Proofs.YthfanonjokpflaaGreat
open Go Go.RowKit

def fewPB (k : ByteArray) (m : Nat) (l : List Ro) : Bool := decide (k.size ≤ 300) && (decide (l.length ≤ m) && l.all fewB)
theorem fewrow_ra (x : RA) (B : Nat) (w : World) (h : RaIn w B x) (hB : B ≤ w.heap.size) :
    Calls Tryz.prog 21 #[.agg #[.string x.ro.key, .string x.ro.live.s, .bool x.ro.live.d, .int .i64 x.ro.live.a, .int .i64 x.ro.live.e, .int .i64 x.ro.gone, .int .i64 x.ro.shade, .slice x.A x.ro.cols.length x.c]] w fun e w' => e = .returned (.bool (fewB x.ro)) ∧ Below w.heap.size w w' := fewrow_ro x.ro x.A x.c B w h hB
set_option maxRecDepth 8000 in
set_option maxHeartbeats 8000000 in
theorem fewpart_any (k : ByteArray) (g : Int) (A : Option Addr) (n c B m : Nat) (L : List RA) (w : World) (h : Lies w B A n c L) (hB : B ≤ w.heap.size) (hm : m ≤ 1000000) :
    Calls Tryz.prog 4 #[.agg #[.string k, .int .i64 g, .slice A n c], .int .i64 m] w fun x w' => x = .returned (.bool (fewPB k m (ros L))) ∧ Below w.heap.size w w' := by
  obtain ⟨r, hrr⟩ : ∃ r, fewPB k m (ros L) = r := ⟨_, rfl⟩
  rw [hrr]
  unfold fewPB at hrr
  rw [List.length_map, h.len] at hrr
  have hl := h.len
  have bz := (Below.refl w.heap.size w).alloc (Nat.le_refl _) (.cells #[.string k, .int .i64 g, .slice A n c] 24)
  have hz := heap_alloc_new w (.cells #[.string k, .int .i64 g, .slice A n c] 24)
  obtain ⟨V, hV⟩ : ∃ V, V = w.alloc (.cells #[.string k, .int .i64 g, .slice A n c] 24) := ⟨_, rfl⟩
  have hVs : V.heap.size = w.heap.size + 1 := by rw [hV]; simp
  rw [← hV] at bz hz
  have HL := Lib.hid hl; have HH := Lib.hid (h.below (bz.mono hB)); have BZ := Lib.hid bz; have RR := Lib.hid hrr; have HZ := Lib.hid hz; have HVS := Lib.hid hVs
  obtain ⟨_, _, _⟩ := PtAt.of hz
  clear hrr bz hz h hl hVs
  go_enter Tryz.func4, Tryz.ntmps4
  by_cases h1 : k.size ≤ 300
  · have x1 : decide (300 < k.size) = false := decide_eq_false (by omega)
    have y1 : decide ((300 : Int) < ((k.size : Nat) : Int)) = false := decide_eq_false (by omega)
    by_cases h4 : n ≤ m
    · have x4 : decide (m < n) = false := decide_eq_false (by omega)
      have y4 : decide ((m : Int) < (n : Int)) = false := decide_eq_false (by omega)
      have hr2 : (ros L).all fewB = r := by rw [← RR.out, decide_eq_true h1, decide_eq_true h4]; rfl
      have HR := Lib.hid hr2
      clear hr2
      go_wp2_with fail
      rw [← hV]
      clear hV
      clear h1 x1 y1 x4 y4
      go_loopw [5] (fun i wr => ∃ t : Nat, t ≤ n ∧ i = .int .i64 t ∧ (ros (L.take t)).all fewB = true ∧ Below V.heap.size V wr) (fun i _ => n - (intOf i).toNat)
      case atStart => exact ⟨0, Nat.zero_le _, rfl, rfl, Below.refl _ _⟩
      case round =>
        obtain ⟨t, ht, rfl, hg, hb⟩ := hrel
        have HG := Lib.hid hg; have HB := Lib.hid hb
        obtain ⟨_, _, _⟩ := PtAt.of ((hb.block w.heap.size (by have := HVS.out; omega)).trans HZ.out)
        clear hg hb
        by_cases hlt : t < n
        · have i1 : (t : Int) < n := by omega
          have i0 : (0 : Int) ≤ t := by omega
          have htl : t < L.length := by rw [HL.out]; exact hlt
          obtain ⟨g0, o0, rfl, hgB⟩ := HH.out.rd.ex (by omega)
          have hlies := HH.out.below (HB.out.mono (by have := HVS.out; omega))
          have htk := ros_take htl
          have hmem : L[t].ro ∈ ros L := List.mem_map.2 ⟨_, List.getElem_mem htl, rfl⟩
          obtain ⟨x, hx⟩ : ∃ x, L[t] = x := ⟨_, rfl⟩
          have hrow := hlies.rd.row htl
          have hin := hlies.held L[t] (List.getElem_mem htl)
          rw [hx] at hrow hin htk hmem
          obtain ⟨u1, hu1⟩ : ∃ u, fewB x.ro = u := ⟨_, rfl⟩
          have U1 := Lib.hid hu1; have HIN := Lib.hid hin; have HTK := Lib.hid htk; have HMEM := Lib.hid hmem
          obtain ⟨_, _, _, _, _, _, _, _⟩ := hrow
          clear hu1 hx hin htk hmem
          go_wp2_with fail
          refine (fewrow_ra x B _ HIN.out (by have := HVS.out; have := HB.out.size; omega)).mono ?_
          rintro e w1 ⟨rfl, b1⟩
          rw [U1.out]
          have B1 := Lib.hid (next HB.out b1)
          clear b1
          cases u1
          · have hv : r = false := by
              rw [← HR.out, List.all_eq_false]
              exact ⟨_, HMEM.out, by rw [U1.out]; decide⟩
            subst hv
            go_wp2
            go_ret
            exact ⟨rfl, next BZ.out B1.out⟩
          · go_wp2
            go_roundw
            case rel => exact ⟨t + 1, by omega, by go_num, by rw [HTK.out, List.all_append, HG.out]; simp [U1.out], B1.out⟩
            case measure => simp [intOf]; omega
        · obtain rfl : t = n := by omega
          have hv : r = true := by rw [← HR.out, ← HG.out, List.take_of_length_le (by rw [HL.out]; exact Nat.le_refl _)]
          subst hv
          go_wp2
          go_ret
          exact ⟨rfl, next BZ.out HB.out⟩
    · have x4 : decide (m < n) = true := decide_eq_true (by omega)
      have y4 : decide ((m : Int) < (n : Int)) = true := decide_eq_true (by omega)
      have hv : r = false := by rw [← RR.out, decide_eq_false h4]; simp
      subst hv
      subst hV
      go_wp2
      go_ret
      exact ⟨rfl, BZ.out⟩
  · have x1 : decide (300 < k.size) = true := decide_eq_true (by omega)
    have y1 : decide ((300 : Int) < ((k.size : Nat) : Int)) = true := decide_eq_true (by omega)
    have hv : r = false := by rw [← RR.out, decide_eq_false h1]; rfl
    subst hv
    subst hV
    go_wp2
    go_ret
    exact ⟨rfl, BZ.out⟩
end Go.Proofs.YthfanonjokpflaaGreat
set_option linter.unusedVariables false
set_option linter.unusedSimpArgs false
namespace Go.Proofs.YthfanonjokpflaaGreat
open Go Go.RowKit

theorem at_newS {W : World} {r : Nat} {cs : Array Value} {t : TypeId} (h : W.heap[r]? = some (.cells cs t (0, 0))) (o : Obj) : (W.alloc o).heap[r]? = some (.cells cs t (0, 0)) :=
  (((Below.refl W.heap.size W).alloc (Nat.le_refl _) o).block r (Array.getElem?_eq_some_iff.1 h).1).trans h
/-- A batch whose partitions are not too great to be held against others. -/
structure BtC (x : BA) : Prop where
  muts : ∀ y ∈ x.M, y.p.L.length ≤ 1000000 ∧ ∀ r ∈ y.p.L, r.ro.cols.length ≤ 1000
  lm : x.M.length ≤ 1000000
  ln : x.N.length ≤ 1000000
  ld : x.D.length ≤ 1000000
set_option maxRecDepth 8000 in
set_option maxHeartbeats 2000000 in
theorem same_batch (x y : BA) (B B' : Nat) (w : World) (h : LiesB w B x) (h' : LiesB w B' y) (hB : B ≤ w.heap.size) (hB' : B' ≤ w.heap.size) (hc : BtC x) (hc' : BtC y) (he : x.bt = y.bt) :
    Calls Tryz.prog 18 #[bV x, bV y] w fun e w' => e = .returned (.bool true) ∧ Below w.heap.size w w' := by
  have e1 : muts x.M = muts y.M := congrArg Bt.muts he
  have e2 : x.N = y.N := congrArg Bt.add he
  have e3 : x.D = y.D := congrArg Bt.drop he
  have l1 : x.M.length = y.M.length := by have := congrArg List.length e1; simpa using this
  obtain ⟨AM, cM, M, AN, cN, N, AD, cD, D⟩ := x
  obtain ⟨AM', cM', M', AN', cN', N', AD', cD', D'⟩ := y
  dsimp only at e1 e2 e3 l1
  subst e2
  subst e3
  obtain ⟨m, hm⟩ : ∃ m, M'.length = m := ⟨_, rfl⟩
  rw [hm] at l1
  have hv : bV ⟨AM, cM, M, AN, cN, N, AD, cD, D⟩ = .agg #[.slice AM m cM, .slice AN N.length cN, .slice AD D.length cD] := by unfold bV; rw [l1]
  have hv' : bV ⟨AM', cM', M', AN', cN', N, AD', cD', D⟩ = .agg #[.slice AM' m cM', .slice AN' N.length cN', .slice AD' D.length cD'] := by unfold bV; rw [hm]
  rw [hv, hv']
  have hm1 := h.muts
  have hm1' := h'.muts
  dsimp only at hm1 hm1'
  rw [l1] at hm1
  rw [hm] at hm1'
  have bz := (Below.refl w.heap.size w).alloc (Nat.le_refl _) (.cells #[.slice AM m cM, .slice AN N.length cN, .slice AD D.length cD] 29)
  have hz := heap_alloc_new w (.cells #[.slice AM m cM, .slice AN N.length cN, .slice AD D.length cD] 29)
  obtain ⟨V1, hV1⟩ : ∃ V, V = w.alloc (.cells #[.slice AM m cM, .slice AN N.length cN, .slice AD D.length cD] 29) := ⟨_, rfl⟩
  rw [← hV1] at bz hz
  have hs1 : V1.heap.size = w.heap.size + 1 := by rw [hV1]; simp
  have bz2 := (Below.refl V1.heap.size V1).alloc (Nat.le_refl _) (.cells #[.slice AM' m cM', .slice AN' N.length cN', .slice AD' D.length cD'] 29)
  have hy := heap_alloc_new V1 (.cells #[.slice AM' m cM', .slice AN' N.length cN', .slice AD' D.length cD'] 29)
  have hz2 := at_newS hz (.cells #[.slice AM' m cM', .slice AN' N.length cN', .slice AD' D.length cD'] 29)
  obtain ⟨V2, hV2⟩ : ∃ V, V = V1.alloc (.cells #[.slice AM' m cM', .slice AN' N.length cN', .slice AD' D.length cD'] 29) := ⟨_, rfl⟩
  rw [← hV2] at bz2 hy hz2
  rw [hs1] at hy
  have hb2 : Below w.heap.size w V2 := next bz bz2
  have N1 := same_muts AM AM' m cM cM' B B' M M' V2 (hm1.below (hb2.mono hB)) (hm1'.below (hb2.mono hB')) (Nat.le_trans hB hb2.size) (Nat.le_trans hB' hb2.size) (by rw [← l1]; exact hc.lm) hc.muts hc'.muts e1
  have HN1 := Lib.hid N1; have HZ := Lib.hid hz2; have HY := Lib.hid hy; have HB2 := Lib.hid hb2; have HH := Lib.hid h; have HH' := Lib.hid h'; have HB := Lib.hid hB; have HB' := Lib.hid hB'; have HC := Lib.hid hc
  have x0 := cell_at (i := 0) hz2 rfl
  have y0 := cell_at (i := 0) hy rfl
  clear bz hz bz2 hy hz2 hb2 N1 hs1 hm1 hm1' h h' hB hB' hc hc' he e1 l1 hm hv hv'
  go_enter Tryz.func18, Tryz.ntmps18
  go_wp2_with fail
  rw [← hV1, ← hV2]
  clear hV1 hV2
  refine HN1.out.mono ?_
  rintro e w3 ⟨rfl, b3⟩
  have hz3 := (b3.block _ (Array.getElem?_eq_some_iff.1 HZ.out).1).trans HZ.out
  have hy3 := (b3.block _ (Array.getElem?_eq_some_iff.1 HY.out).1).trans HY.out
  have B3 := Lib.hid (next HB2.out b3)
  have HZ3 := Lib.hid hz3; have HY3 := Lib.hid hy3
  clear x0 y0 hz3 hy3 b3
  have x1 := cell_at (i := 1) HZ3.out rfl
  have y1 := cell_at (i := 1) HY3.out rfl
  have N2 := same_notes AN AN' N.length cN cN' B B' N w3 (HH.out.notes.below (B3.out.mono HB.out)) (HH'.out.notes.below (B3.out.mono HB'.out)) (Nat.le_trans HB.out B3.out.size) (Nat.le_trans HB'.out B3.out.size) HC.out.ln
  have HN2 := Lib.hid N2
  clear N2
  go_wp2_with fail
  refine HN2.out.mono ?_
  rintro e w4 ⟨rfl, b4⟩
  have hz4 := (b4.block _ (Array.getElem?_eq_some_iff.1 HZ3.out).1).trans HZ3.out
  have hy4 := (b4.block _ (Array.getElem?_eq_some_iff.1 HY3.out).1).trans HY3.out
  have B4 := Lib.hid (next B3.out b4)
  clear x1 y1 b4
  have x2 := cell_at (i := 2) hz4 rfl
  have y2 := cell_at (i := 2) hy4 rfl
  clear hz4 hy4
  have N3 := same_ints AD AD' D.length cD cD' B B' D w4 (HH.out.drops.below (B4.out.mono HB.out)) (HH'.out.drops.below (B4.out.mono HB'.out)) (Nat.le_trans HB.out B4.out.size) (Nat.le_trans HB'.out B4.out.size) HC.out.ld
  have HN3 := Lib.hid N3
  clear N3
  go_wp2_with fail
  refine HN3.out.mono ?_
  rintro e w5 ⟨rfl, b5⟩
  have B5 := Lib.hid (next B4.out b5)
  clear x2 y2 b5
  go_wp2
  go_ret
  exact ⟨rfl, B5.out⟩
end Go.Proofs.YthfanonjokpflaaGreat
set_option linter.unusedVariables false
set_option linter.unusedSimpArgs false
namespace Go.Proofs.YthfanonjokpflaaGreat
open Go Go.RowKit

def fewMu (rows : Nat) (x : MA) : Prop := x.tb.size ≤ 300 ∧ fewPB x.p.k rows (ros x.p.L) = true
set_option maxRecDepth 8000 in
set_option maxHeartbeats 4000000 in
theorem few_muts (A : Option Addr) (n c B m rows : Nat) (L : List MA) (w : World) (h : LiesM w B A n c L) (hB : B ≤ w.heap.size) (hm : m ≤ 1000) (hrows : rows ≤ 1000) :
    Calls Tryz.prog 22 #[.slice A n c, .int .i64 (m : Nat), .int .i64 (rows : Nat)] w fun e w' => ∃ b : Bool, e = .returned (.bool b) ∧ (b = true → n ≤ m ∧ ∀ x ∈ L, fewMu rows x) ∧ Below w.heap.size w w' := by
  have hl := h.rd.1
  have HH := Lib.hid h; have HB := Lib.hid hB; have HL := Lib.hid hl; have HM := Lib.hid hm; have HR := Lib.hid hrows
  clear h hB hl hm hrows
  go_enter Tryz.func22, Tryz.ntmps22
  go_wp2
  go_loopw [7] (fun i wr => ∃ t : Nat, t ≤ n ∧ t ≤ m ∧ i = .int .i64 t ∧ (∀ x ∈ L.take t, fewMu rows x) ∧ Below w.heap.size w wr) (fun i _ => m - (intOf i).toNat)
  case atStart => exact ⟨0, Nat.zero_le _, Nat.zero_le _, rfl, fun x hx => (by simp at hx), Below.refl _ _⟩
  case round =>
    obtain ⟨t, htn, htm, rfl, hall, hb⟩ := hrel
    have i8 : m ≤ 1000 := HM.out
    have HALL := Lib.hid hall; have BB := Lib.hid hb
    clear hall hb
    by_cases hlt : t < n
    · have i1 : (t : Int) < n := by omega
      have j1 : decide ((t : Int) < (n : Int)) = true := decide_eq_true i1
      have j2 : decide (t < n) = true := decide_eq_true hlt
      have i0 : (0 : Int) ≤ t := by omega
      by_cases hlm : t < m
      · have i2 : (t : Int) < m := by omega
        have j3 : decide ((t : Int) < (m : Int)) = true := decide_eq_true i2
        have j4 : decide (t < m) = true := decide_eq_true hlm
        have htl : t < L.length := by rw [HL.out]; exact hlt
        have hq := HH.out.below (BB.out.mono HB.out)
        obtain ⟨g0, o0, rfl, hg0⟩ := hq.rd.ex (by omega)
        obtain ⟨z0, z1, z2, z3⟩ := hq.rd.part htl
        have hp := hq.parts L[t] (List.getElem_mem htl)
        have hstep : fewMu rows L[t] → ∀ x ∈ L.take (t + 1), fewMu rows x := fun hf x hx => by
          rw [List.take_succ_eq_append_getElem htl] at hx
          rcases List.mem_append.1 hx with h1 | h1
          · exact HALL.out x h1
          · rw [List.mem_singleton.1 h1]; exact hf
        obtain ⟨x, hx⟩ : ∃ x, L[t] = x := ⟨_, rfl⟩
        rw [hx] at z0 z1 z2 z3 hp hstep
        have HP := Lib.hid hp; have HST := Lib.hid hstep
        clear hq hp hstep hx HALL
        by_cases hs : x.tb.size ≤ 300
        · have j5 : decide ((300 : Int) < (x.tb.size : Int)) = false := decide_eq_false (by omega)
          have j6 : decide (300 < x.tb.size) = false := decide_eq_false (by omega)
          have HS := Lib.hid hs
          clear hs
          go_wp2_with fail
          refine (fewpart_any x.p.k x.p.g x.p.A x.p.L.length x.p.c B rows x.p.L _ HP.out (Nat.le_trans HB.out BB.out.size) (by have := HR.out; omega)).mono ?_
          rintro e w2 ⟨rfl, b2⟩
          have B2 := Lib.hid (next BB.out b2)
          obtain ⟨u, hu⟩ : ∃ u, fewPB x.p.k rows (ros x.p.L) = u := ⟨_, rfl⟩
          rw [hu]
          have HU := Lib.hid hu
          clear b2 hu z0 z1 z2 z3
          cases u with
          | false =>
            go_wp2
            go_ret
            exact ⟨false, rfl, fun h => (by cases h), B2.out⟩
          | true =>
            go_wp2
            go_roundw
            case rel => exact ⟨t + 1, by omega, by omega, by go_num, HST.out ⟨HS.out, HU.out⟩, B2.out⟩
            case measure => simp [intOf]; omega
        · have j5 : decide ((300 : Int) < (x.tb.size : Int)) = true := decide_eq_true (by omega)
          have j6 : decide (300 < x.tb.size) = true := decide_eq_true (by omega)
          clear hs
          go_wp2
          go_ret
          exact ⟨false, rfl, fun h => (by cases h), BB.out⟩
      · have j3 : decide ((t : Int) < (m : Int)) = false := decide_eq_false (by omega)
        have j4 : decide (t < m) = false := decide_eq_false (by omega)
        have j5 : decide ((n : Int) ≤ (m : Int)) = false := decide_eq_false (by omega)
        have j6 : decide (n ≤ m) = false := decide_eq_false (by omega)
        go_wp2
        go_ret
        exact ⟨false, rfl, fun h => (by cases h), BB.out⟩
    · obtain ⟨k, hk⟩ : ∃ k, n = k := ⟨_, rfl⟩
      have htk : t = k := by omega
      subst htk
      have hall : ∀ x ∈ L, fewMu rows x := by
        have := HALL.out
        rw [List.take_of_length_le (by rw [HL.out, hk]; exact Nat.le_refl _)] at this
        exact this
      have HA := Lib.hid hall; have HNM := Lib.hid (show n ≤ m by omega)
      subst hk
      have j1 : decide ((n : Int) < (n : Int)) = false := decide_eq_false (by omega)
      have j5 : decide ((n : Int) ≤ (m : Int)) = true := decide_eq_true (by omega)
      have j6 : decide (n ≤ m) = true := decide_eq_true (by omega)
      clear hall HALL
      go_wp2
      go_ret
      exact ⟨true, rfl, fun _ => ⟨HNM.out, HA.out⟩, BB.out⟩
/-- Not too much of a batch. -/
structure FewBt (z : BA) : Prop where
  lm : z.M.length ≤ 70
  muts : ∀ x ∈ z.M, fewMu 20 x
  ln : z.N.length ≤ 310
  ld : z.D.length ≤ 310
  notes : ∀ y ∈ z.N, y.2.size ≤ 5000
set_option maxRecDepth 8000 in
set_option maxHeartbeats 4000000 in
theorem few_batch (z : BA) (B : Nat) (w : World) (h : LiesB w B z) (hB : B ≤ w.heap.size) :
    Calls Tryz.prog 5 #[bV z] w fun e w' => ∃ b : Bool, e = .returned (.bool b) ∧ (b = true → FewBt z) ∧ Below w.heap.size w w' := by
  have bz := (Below.refl w.heap.size w).alloc (Nat.le_refl _) (bO z)
  have hz := heap_alloc_new w (bO z)
  obtain ⟨V, hV⟩ : ∃ V, V = w.alloc (bO z) := ⟨_, rfl⟩
  rw [← hV] at bz hz
  have hc0 := cell_at (i := 0) hz rfl
  have N1 := few_muts z.AM z.M.length z.cM B 70 20 z.M V (h.muts.below (bz.mono hB)) (Nat.le_trans hB bz.size) (by omega) (by omega)
  have HZ := Lib.hid hz; have BZ := Lib.hid bz; have HH := Lib.hid h; have HB := Lib.hid hB; have HN1 := Lib.hid N1
  clear hz bz h hB N1
  go_enter Tryz.func5, Tryz.ntmps5
  go_wp2_with fail
  try unfold bO at hV
  rw [← hV]
  clear hV
  refine (HN1.out).mono ?_
  rintro e w1 ⟨b, rfl, hbt, b1⟩
  have hz1 := (b1.block _ (Array.getElem?_eq_some_iff.1 HZ.out).1).trans HZ.out
  have B1 := Lib.hid (next BZ.out b1)
  have HZ1 := Lib.hid hz1; have HBT := Lib.hid hbt
  have hc1 := cell_at (i := 1) hz1 rfl
  have hc2 := cell_at (i := 2) hz1 rfl
  clear hz1 b1 hc0 hbt
  cases b with
  | false =>
    go_wp2
    go_ret
    exact ⟨false, rfl, fun h => (by cases h), B1.out⟩
  | true =>
    obtain ⟨nn, hnn⟩ : ∃ nn, z.N.length = nn := ⟨_, rfl⟩
    obtain ⟨nd, hnd⟩ : ∃ nd, z.D.length = nd := ⟨_, rfl⟩
    rw [hnn] at hc1
    rw [hnd] at hc2
    have hnotes := HH.out.notes
    rw [hnn] at hnotes
    have HNT := Lib.hid hnotes; have HNN := Lib.hid hnn; have HND := Lib.hid hnd
    clear hnotes
    by_cases h2 : nn ≤ 310
    · have j1 : decide ((310 : Int) < (nn : Int)) = false := decide_eq_false (by omega)
      have j2 : decide (310 < nn) = false := decide_eq_false (by omega)
      by_cases h3 : nd ≤ 310
      · have j3 : decide ((310 : Int) < (nd : Int)) = false := decide_eq_false (by omega)
        have j4 : decide (310 < nd) = false := decide_eq_false (by omega)
        clear hnn hnd
        go_wp2
        go_loopw [3] (fun i wr => ∃ t : Nat, t ≤ nn ∧ i = .int .i64 t ∧ (∀ y ∈ z.N.take t, y.2.size ≤ 5000) ∧ Below w1.heap.size w1 wr) (fun i _ => nn - (intOf i).toNat)
        case atStart => exact ⟨0, Nat.zero_le _, rfl, fun x hx => (by simp at hx), Below.refl _ _⟩
        case round =>
          obtain ⟨t, htn, rfl, hall, hb⟩ := hrel
          have HALL := Lib.hid hall; have BB := Lib.hid hb
          have hzr := (hb.block _ (Array.getElem?_eq_some_iff.1 HZ1.out).1).trans HZ1.out
          have k1 := cell_at (i := 1) hzr rfl
          rw [HNN.out] at k1
          clear hall hb hzr hc1 hc2
          by_cases hlt : t < nn
          · have i1 : (t : Int) < nn := by omega
            have i0 : (0 : Int) ≤ t := by omega
            have htl : t < z.N.length := by rw [HNN.out]; exact hlt
            have hq := HNT.out.below ((next B1.out BB.out).mono HB.out)
            obtain ⟨g0, o0, hga, hg0⟩ := hq.ex (by omega)
            rw [hga] at hq k1
            obtain ⟨z0, z1⟩ := hq.part htl
            have hstep : (z.N[t]).2.size ≤ 5000 → ∀ y ∈ z.N.take (t + 1), y.2.size ≤ 5000 := fun hf x hx => by
              rw [List.take_succ_eq_append_getElem htl] at hx
              rcases List.mem_append.1 hx with h1 | h1
              · exact HALL.out x h1
              · rw [List.mem_singleton.1 h1]; exact hf
            obtain ⟨⟨yi, ys⟩, hy⟩ : ∃ y, z.N[t] = y := ⟨_, rfl⟩
            rw [hy] at z0 z1 hstep
            dsimp only at z0 z1 hstep
            have HST := Lib.hid hstep
            clear hq hstep hy HALL htl hga
            by_cases hs : ys.size ≤ 5000
            · have j5 : decide ((5000 : Int) < (ys.size : Int)) = false := decide_eq_false (by omega)
              have j6 : decide (5000 < ys.size) = false := decide_eq_false (by omega)
              have HS := Lib.hid hs
              clear hs
              go_wp2
              go_roundw
              case rel => exact ⟨t + 1, by omega, by go_num, HST.out HS.out, BB.out⟩
              case measure => simp [intOf]; omega
            · have j5 : decide ((5000 : Int) < (ys.size : Int)) = true := decide_eq_true (by omega)
              have j6 : decide (5000 < ys.size) = true := decide_eq_true (by omega)
              clear hs
              go_wp2
              go_ret
              exact ⟨false, rfl, fun h => (by cases h), next B1.out BB.out⟩
          · obtain rfl : t = nn := by omega
            have hall : ∀ y ∈ z.N, y.2.size ≤ 5000 := by
              have := HALL.out
              rw [List.take_of_length_le (by rw [HNN.out]; exact Nat.le_refl _)] at this
              exact this
            have HA := Lib.hid hall; have H2 := Lib.hid h2; have H3 := Lib.hid h3
            clear hall HALL
            go_wp2
            go_ret
            exact ⟨true, rfl, fun _ => ⟨(HBT.out (by simp)).1, (HBT.out (by simp)).2, by rw [HNN.out]; exact H2.out, by rw [HND.out]; exact H3.out, HA.out⟩, next B1.out BB.out⟩
      · have j3 : decide ((310 : Int) < (nd : Int)) = true := decide_eq_true (by omega)
        have j4 : decide (310 < nd) = true := decide_eq_true (by omega)
        clear h3 hnn hnd
        go_wp2
        go_ret
        exact ⟨false, rfl, fun h => (by cases h), B1.out⟩
    · have j1 : decide ((310 : Int) < (nn : Int)) = true := decide_eq_true (by omega)
      have j2 : decide (310 < nn) = true := decide_eq_true (by omega)
      clear h2 hnn hnd
      go_wp2
      go_ret
      exact ⟨false, rfl, fun h => (by cases h), B1.out⟩
end Go.Proofs.YthfanonjokpflaaGreat
set_option linter.unusedVariables false
set_option linter.unusedSimpArgs false
namespace Go.Proofs.YthfanonjokpflaaGreat
open Go Go.RowKit

theorem conv_below (w : World) (e : TypeId) (s : ByteArray) : Below w.heap.size w (Lib.bytesWorld w e s) :=
  ⟨rfl, rfl, rfl, by rw [Lib.bytesWorld_size]; omega, fun k hk => Lib.bytesWorld_at_old w e s k hk⟩
/-- []byte(s): where it lies. -/
theorem conv_bytes (w : World) (s : ByteArray) (hs : s.size ≤ maxLen) : ∃ c, (convert 9 33 (.string s)).run Tryz.prog w = .ok (.slice (some ⟨w.heap.size, 0, none⟩) s.size c) (Lib.bytesWorld w 5 s) ∧ s.size ≤ c ∧ c ≤ maxLen ∧ Rd (Lib.bytesWorld w 5 s) (w.heap.size + 1) (some ⟨w.heap.size, 0, none⟩) s.size s.data.toList ∧ (Lib.bytesWorld w 5 s).heap.size = w.heap.size + 1 := by
  refine ⟨_, Lib.run_convert_string_bytes (P := Tryz.prog) w 9 33 5 s Tryz.underlying9 Tryz.underlying33 Tryz.underlying5, grownCap_ge w s.size 0 5, grownCap_le_maxLen w s.size 0 5 hs, ⟨by rw [← Lib.size_eq], fun _ => ⟨_, rfl, by show w.heap.size < _; omega, fun j hj => ?_⟩⟩, Lib.bytesWorld_size w _ s⟩
  rw [Addr.add_lit, Nat.zero_add, Lib.bytesWorld_cell w _ s j (by rw [Lib.size_eq]; exact hj), List.getD_eq_getElem?_getD, List.getElem?_eq_getElem hj]
  rfl
theorem err_ne {p : Pz Pa} {e : Pa → Bs} {G T : Pa → Prop} (h : Codec p e G T) {ok : Pa → Bool} {b : Bs} {c : Int} (hg : getP p ok b = .error c) : c ≠ 0 := by
  unfold getP at hg
  split at hg
  · injection hg with hg; rw [← hg]; decide
  · cases hp : p b with
    | error c' =>
      rw [hp] at hg
      injection hg with hg
      rcases h.errs hp with h | h <;> omega
    | ok y =>
      rw [hp] at hg
      dsimp only at hg
      split at hg
      · split at hg
        · cases hg
        · injection hg with hg; omega
      · injection hg with hg; omega
theorem err_neB {b : Bs} {c : Int} (hg : getBatch b = .error c) : c ≠ 0 := by
  unfold getBatch getP at hg
  split at hg
  · injection hg with hg; rw [← hg]; decide
  · cases hp : batchP b with
    | error c' =>
      rw [hp] at hg
      injection hg with hg
      rcases batch_codecT.errs hp with h | h <;> omega
    | ok y =>
      rw [hp] at hg
      dsimp only at hg
      split at hg
      · split at hg
        · cases hg
        · injection hg with hg; omega
      · injection hg with hg; omega
/-- GetPart's two results, one way. -/
theorem GivesG.one {w w' : World} {b : Bs} {x : Ending} (h : GivesG w (getPart b) x w') : ∃ (z : PA) (e : Int), x = .returned (.tuple #[.agg #[.string z.k, .int .i64 z.g, .slice z.A z.L.length z.c], .int .i64 e]) ∧ Below w.heap.size w w' ∧ (e = 0 → getPart b = .ok ⟨z.k, z.g, ros z.L⟩ ∧ RowsQ w w' z.A z.L.length z.c z.L) ∧ (∀ c, getPart b = .error c → e = c) := by
  cases hR : getPart b with
  | error c =>
    rw [hR] at h
    obtain ⟨rfl, h⟩ := h
    exact ⟨⟨⟨#[]⟩, 0, [], none, 0⟩, c, rfl, h, fun e => absurd e (err_ne part_codec hR), fun c' hc => by injection hc⟩
  | ok p =>
    rw [hR] at h
    obtain ⟨z, hp, rfl, hrows, hb⟩ := h
    exact ⟨z, 0, rfl, hb, fun _ => ⟨by rw [hp], hrows⟩, fun c hc => by cases hc⟩
theorem GivesH.one {w w' : World} {b : Bs} {x : Ending} (h : GivesH w (getBatch b) x w') : ∃ (z : BA) (e : Int), x = .returned (.tuple #[bV z, .int .i64 e]) ∧ Below w.heap.size w w' ∧ (e = 0 → getBatch b = .ok z.bt ∧ BatQ w w' z) ∧ (∀ c, getBatch b = .error c → e = c) := by
  cases hR : getBatch b with
  | error c =>
    rw [hR] at h
    obtain ⟨rfl, h⟩ := h
    exact ⟨⟨none, 0, [], none, 0, [], none, 0, []⟩, c, rfl, h, fun e => absurd e (err_neB hR), fun c' hc => by injection hc⟩
  | ok p =>
    rw [hR] at h
    obtain ⟨z, hp, rfl, hrows, hb⟩ := h
    exact ⟨z, 0, rfl, hb, fun _ => ⟨by rw [hp], hrows⟩, fun c hc => by cases hc⟩
/-- Part's and Batch's two results, one way. -/
theorem GivesP.one {w w' : World} {R : Except Int Bs} {x : Ending} (hne : ∀ c, R = .error c → c ≠ 0) (h : GivesP w R x w') : ∃ (A : Option Addr) (n c : Nat) (e : Int), x = .returned (.tuple #[.slice A n c, .int .i64 e]) ∧ Below w.heap.size w w' ∧ (e = 0 → ∃ b : Bs, R = .ok b ∧ b.length = n ∧ n ≤ c ∧ c ≤ maxLen ∧ (A = none → c = 0) ∧ w'.ownsRow w.heap.size 5 1 (.slice A n c) n (Lib.byteCells b)) := by
  cases R with
  | error c =>
    obtain ⟨rfl, h⟩ := h
    exact ⟨none, 0, 0, c, rfl, h, fun e => absurd e (hne c rfl)⟩
  | ok b =>
    obtain ⟨A, n, c, rfl, h1, h2, h3, h4, h5, h6⟩ := h
    exact ⟨A, n, c, 0, rfl, h6, fun _ => ⟨b, rfl, h1, h2, h3, h4, h5⟩⟩
structure IsFewQ (R : Ro) : Prop where
  len : R.cols.length ≤ 20
  live : R.live.s.size ≤ 1000
  cols : ∀ x ∈ R.cols, x.1.size ≤ 300 ∧ x.2.s.size ≤ 300
theorem fewQ_of {R : Ro} (h : fewB R = true) : IsFewQ R := by
  unfold fewB at h
  simp only [Bool.and_eq_true, decide_eq_true_iff, List.all_eq_true] at h
  refine ⟨h.2.1, h.2.2.1, fun x hx => ?_⟩
  have := h.2.2.2 x hx
  unfold fewC at this
  simpa only [Bool.and_eq_true, decide_eq_true_iff] using this
theorem fewR_of {k : ByteArray} {m : Nat} {L : List RA} (h : fewPB k m (ros L) = true) : FewR L ∧ L.length ≤ m ∧ ∀ x ∈ L, x.ro.cols.length ≤ 1000 := by
  unfold fewPB at h
  simp only [Bool.and_eq_true, decide_eq_true_iff, List.all_eq_true, List.length_map] at h
  have hr : ∀ x ∈ L, IsFewQ x.ro := fun x hx => fewQ_of (h.2.2 x.ro (List.mem_map.2 ⟨x, hx, rfl⟩))
  refine ⟨fun x hx => ?_, h.2.1, fun x hx => ?_⟩
  · have h1 := hr x hx
    refine ⟨fun y hy => ?_, by have := h1.live; unfold maxLen; omega, by have := h1.len; omega⟩
    have := h1.cols y hy
    exact ⟨by omega, by unfold maxLen; omega⟩
  · have := (hr x hx).len; omega
theorem btF_few {z : BA} (h : FewBt z) : BtF z := ⟨fun y hy => by
  have h1 := h.muts y hy
  have h2 := fewR_of h1.2
  exact ⟨by have := h1.1; omega, by omega, h2.1⟩, fun y hy => by have := h.notes y hy; unfold maxLen; omega, by have := h.lm; omega, by have := h.ln; omega, by have := h.ld; omega⟩
end Go.Proofs.YthfanonjokpflaaGreat
set_option linter.unusedVariables false
set_option linter.unusedSimpArgs false
namespace Go.Proofs.YthfanonjokpflaaGreat
open Go Go.RowKit

def codeR {α : Type} (R : Except Int α) : Int := match R with | .ok _ => 0 | .error e => e
def bytesR (R : Except Int Bs) : Bs := match R with | .ok b => b | .error _ => []
def partR (R : Except Int Pa) : Pa := match R with | .ok p => p | .error _ => ⟨⟨#[]⟩, 0, []⟩
def batR (R : Except Int Bt) : Bt := match R with | .ok p => p | .error _ => ⟨[], [], []⟩
theorem GivesP.all {w w' : World} {R : Except Int Bs} {x : Ending} (h : GivesP w R x w') : ∃ (A : Option Addr) (n c : Nat), x = .returned (.tuple #[.slice A n c, .int .i64 (codeR R)]) ∧ Rd w' w'.heap.size A n (bytesR R) ∧ Below w.heap.size w w' := by
  cases R with
  | error e =>
    obtain ⟨rfl, hb⟩ := h
    exact ⟨none, 0, 0, rfl, ⟨rfl, fun h => absurd h (by omega)⟩, hb⟩
  | ok b =>
    obtain ⟨A, n, c, rfl, _, _, _, _, ho, hb⟩ := h
    obtain ⟨A', c', e, _, _, _, hr⟩ := Rd.of_own ho
    injection e with e1 e2 e3
    subst e1
    exact ⟨A, n, c, rfl, hr, hb⟩
theorem GivesX9.all {w w' : World} {R : Except Int Bs} {x : Ending} (h : GivesX9 w R x w') : x = .returned (.tuple #[.string (bs (bytesR R)), .int .i64 (codeR R)]) ∧ Below w.heap.size w w' := by
  cases R with
  | error e => exact h
  | ok b => exact h
theorem GivesG.all {w w' : World} {R : Except Int Pa} {x : Ending} (h : GivesG w R x w') : ∃ z : PA, x = .returned (.tuple #[.agg #[.string z.k, .int .i64 z.g, .slice z.A z.L.length z.c], .int .i64 (codeR R)]) ∧ (⟨z.k, z.g, ros z.L⟩ : Pa) = partR R ∧ RowsQ w w' z.A z.L.length z.c z.L ∧ Below w.heap.size w w' := by
  cases R with
  | error e =>
    obtain ⟨rfl, hb⟩ := h
    exact ⟨⟨⟨#[]⟩, 0, [], none, 0⟩, rfl, rfl, RowsQ.nil _ _, hb⟩
  | ok p =>
    obtain ⟨z, hz, rfl, hr, hb⟩ := h
    exact ⟨z, rfl, hz, hr, hb⟩
theorem GivesH.all {w w' : World} {R : Except Int Bt} {x : Ending} (h : GivesH w R x w') : ∃ z : BA, x = .returned (.tuple #[bV z, .int .i64 (codeR R)]) ∧ z.bt = batR R ∧ BatQ w w' z ∧ Below w.heap.size w w' := by
  cases R with
  | error e =>
    obtain ⟨rfl, hb⟩ := h
    exact ⟨⟨none, 0, [], none, 0, [], none, 0, []⟩, rfl, rfl, ⟨MutsQ.nil _ _, own_nilN _ _, own_nilZ _ _⟩, hb⟩
  | ok p =>
    obtain ⟨z, hz, rfl, hr, hb⟩ := h
    exact ⟨z, rfl, hz, hr, hb⟩
theorem getP_ok {α : Type} {p : Pz α} {ok : α → Bool} {l : Bs} {x : α} (h : getP p ok l = .ok x) : ok x = true := by
  unfold getP at h
  split at h
  · cases h
  · cases hp : p l with
    | error c => rw [hp] at h; cases h
    | ok y =>
      rw [hp] at h
      dsimp only at h
      split at h
      · split at h
        · rename_i h2
          injection h with h
          rw [← h]
          exact h2
        · cases h
      · cases h
theorem ok_few {p : Pa} (h : p.ok = true) : p.rows.length ≤ 1000000 ∧ ∀ r ∈ p.rows, r.cols.length ≤ 1000 := by
  obtain ⟨_, _, h3, h4⟩ := Pa.ok_of h
  exact ⟨by omega, fun r hr => by have := (rowS_of (rowsB_each h4 r hr)).len; omega⟩
/-- Few enough rows, whichever way. -/
theorem partR_few {l : Bs} {z : PA} (h : (⟨z.k, z.g, ros z.L⟩ : Pa) = partR (getPart l)) : z.L.length ≤ 1000000 ∧ ∀ x ∈ z.L, x.ro.cols.length ≤ 1000 := by
  cases hR : getPart l with
  | error e =>
    rw [hR] at h
    have h3 : ros z.L = [] := congrArg Pa.rows h
    have h4 : z.L = [] := List.map_eq_nil_iff.1 h3
    rw [h4]
    exact ⟨Nat.zero_le _, fun x hx => by cases hx⟩
  | ok p =>
    rw [hR] at h
    have hf := ok_few (getP_ok hR)
    have h3 : ros z.L = p.rows := congrArg Pa.rows h
    rw [← h3] at hf
    exact ⟨by have := hf.1; rwa [List.length_map] at this, fun x hx => hf.2 x.ro (List.mem_map.2 ⟨x, hx, rfl⟩)⟩
theorem batR_c {l : Bs} {z : BA} (h : z.bt = batR (getBatch l)) : BtC z := by
  have h1 : muts z.M = (batR (getBatch l)).muts := congrArg Bt.muts h
  have h2 : z.N = (batR (getBatch l)).add := congrArg Bt.add h
  have h3 : z.D = (batR (getBatch l)).drop := congrArg Bt.drop h
  cases hR : getBatch l with
  | error e =>
    rw [hR] at h1 h2 h3
    have h4 : z.M = [] := List.map_eq_nil_iff.1 h1
    refine ⟨fun y hy => ?_, ?_, ?_, ?_⟩
    · rw [h4] at hy; cases hy
    · rw [h4]; exact Nat.zero_le _
    · rw [h2]; exact Nat.zero_le _
    · rw [h3]; exact Nat.zero_le _
  | ok p =>
    rw [hR] at h1 h2 h3
    have hok : p.ok = true := getP_ok hR
    unfold Bt.ok at hok
    simp only [Bool.and_eq_true, decide_eq_true_iff, List.all_eq_true] at hok
    have h1 : muts z.M = p.muts := h1
    have h2 : z.N = p.add := h2
    have h3 : z.D = p.drop := h3
    refine ⟨fun y hy => ?_, ?_, ?_, ?_⟩
    · have hm : mutOf y ∈ p.muts := by rw [← h1]; exact List.mem_map.2 ⟨y, hy, rfl⟩
      have h5 := hok.2.1 _ hm
      unfold mutB at h5
      simp only [Bool.and_eq_true] at h5
      have h6 := ok_few h5.2
      unfold mutOf at h6
      dsimp only at h6
      exact ⟨by have := h6.1; rwa [List.length_map] at this, fun r hr => h6.2 r.ro (List.mem_map.2 ⟨r, hr, rfl⟩)⟩
    · have := congrArg List.length h1
      rw [List.length_map] at this
      omega
    · rw [h2]; omega
    · rw [h3]; omega
/-- From W on. -/
def Ever (W : World) (F : World → Prop) : Prop := ∀ w', Below W.heap.size W w' → F w'
theorem Ever.on {W W' : World} {F : World → Prop} (h : Ever W F) (hb : Below W.heap.size W W') : Ever W' F := fun w' h' => h w' (next hb h')
theorem Ever.now {W : World} {F : World → Prop} (h : Ever W F) : F W := h W (Below.refl _ _)
end Go.Proofs.YthfanonjokpflaaGreat
set_option linter.unusedVariables false
set_option linter.unusedSimpArgs false
namespace Go.Proofs.YthfanonjokpflaaGreat
open Go Go.RowKit

set_option maxRecDepth 8000 in
set_option maxHeartbeats 4000000 in
theorem rcheckbatch (x : BA) (B : Nat) (w : World) (hr : LiesB w B x) (hB : B ≤ w.heap.size) (hf : BtF x) :
    Calls Tryz.prog 20 #[bV x] w fun e w' => e = .returned (.bool x.bt.ok) ∧ Below w.heap.size w w' := by
  have bz := (Below.refl w.heap.size w).alloc (Nat.le_refl _) (bO x)
  have hz := heap_alloc_new w (bO x)
  obtain ⟨V, hV⟩ : ∃ V, V = w.alloc (bO x) := ⟨_, rfl⟩
  rw [← hV] at bz hz
  have hc0 := cell_at (i := 0) hz rfl
  have hc1 := cell_at (i := 1) hz rfl
  have hc2 := cell_at (i := 2) hz rfl
  have N1 := rcheckmuts x.AM x.M.length x.cM B 64 x.M V (hr.muts.below (bz.mono hB)) (Nat.le_trans hB bz.size) hf.muts hf.lm (by omega)
  obtain ⟨u1, hu1⟩ : ∃ u, (decide (x.M.length ≤ 64) && x.M.all (fun x : MA => mutB (mutOf x))) = u := ⟨_, rfl⟩
  obtain ⟨a2, ha2⟩ : ∃ u, x.N.all addB = u := ⟨_, rfl⟩
  obtain ⟨a3, ha3⟩ : ∃ u, x.D.all dropB = u := ⟨_, rfl⟩
  obtain ⟨nn, hnn⟩ : ∃ nn, x.N.length = nn := ⟨_, rfl⟩
  obtain ⟨nd, hnd⟩ : ∃ nd, x.D.length = nd := ⟨_, rfl⟩
  have hv : x.bt.ok = (u1 && (decide (nn ≤ 300) && a2) && (decide (nd ≤ 300) && a3)) := by rw [bt_ok, hu1, ha2, ha3, hnn, hnd]
  rw [hu1] at N1
  have hno := hr.notes
  have hdr := hr.drops
  rw [hnn] at hno
  rw [hnd] at hdr
  have HZ := Lib.hid hz; have BZ := Lib.hid bz; have HF := Lib.hid hf; have HB := Lib.hid hB; have HN1 := Lib.hid N1; have HV := Lib.hid hv; have A2 := Lib.hid ha2; have A3 := Lib.hid ha3; have HNN := Lib.hid hnn; have HND := Lib.hid hnd; have HNO := Lib.hid hno; have HDR := Lib.hid hdr
  have hn8 : nn ≤ 1000000 := by rw [← hnn]; exact hf.ln
  have hd8 : nd ≤ 1000000 := by rw [← hnd]; exact hf.ld
  obtain ⟨r, hrr⟩ : ∃ r, x.bt.ok = r := ⟨_, rfl⟩
  rw [hrr] at HV ⊢
  clear hz bz hv hu1 ha2 ha3 hr hf hB N1 hrr hno hdr hnn hnd
  go_enter Tryz.func20, Tryz.ntmps20
  go_wp2_with fail
  try unfold bO at hV
  rw [← hV]
  clear hV
  refine (HN1.out).mono ?_
  rintro e w1 ⟨rfl, b1⟩
  have hz1 := (b1.block _ (Array.getElem?_eq_some_iff.1 HZ.out).1).trans HZ.out
  have B1 := Lib.hid (next BZ.out b1)
  clear hc0 hc1 hc2
  have hc1 := cell_at (i := 1) hz1 rfl
  have hc2 := cell_at (i := 2) hz1 rfl
  rw [HNN.out] at hc1
  rw [HND.out] at hc2
  have HZ1 := Lib.hid hz1
  clear hz1 b1
  cases u1 with
  | false =>
    have hrf : r = false := by rw [HV.out]; rfl
    subst hrf
    go_wp2
    go_ret
    exact ⟨rfl, B1.out⟩
  | true =>
    by_cases h2 : nn ≤ 300
    · have j1 : decide ((300 : Int) < (nn : Int)) = false := decide_eq_false (by omega)
      have j2 : decide (300 < nn) = false := decide_eq_false (by omega)
      have j2' : decide (nn ≤ 300) = true := decide_eq_true h2
      by_cases h3 : nd ≤ 300
      · have j3 : decide ((300 : Int) < (nd : Int)) = false := decide_eq_false (by omega)
        have j4 : decide (300 < nd) = false := decide_eq_false (by omega)
        have j4' : decide (nd ≤ 300) = true := decide_eq_true h3
        have HV2 : Hid (r = (a2 && a3)) := Lib.hid (by rw [HV.out, j2', j4']; simp)
        clear j2' j4'
        go_wp2
        go_loopw [3] (fun i wr => ∃ t : Nat, t ≤ nn ∧ i = .int .i64 t ∧ (x.N.take t).all addB = true ∧ Below w1.heap.size w1 wr) (fun i _ => nn - (intOf i).toNat)
        case atStart => exact ⟨0, Nat.zero_le _, rfl, rfl, Below.refl _ _⟩
        case round =>
          obtain ⟨t, htn, rfl, hall, hb⟩ := hrel
          have BB := Lib.hid hb
          have hzr := (hb.block _ (Array.getElem?_eq_some_iff.1 HZ1.out).1).trans HZ1.out
          have k1 := cell_at (i := 1) hzr rfl
          have k2 := cell_at (i := 2) hzr rfl
          rw [HNN.out] at k1
          rw [HND.out] at k2
          have HZR := Lib.hid hzr
          clear hb hzr hc1 hc2
          by_cases hlt : t < nn
          · have i1 : (t : Int) < nn := by omega
            have i0 : (0 : Int) ≤ t := by omega
            have htl : t < x.N.length := by rw [HNN.out]; exact hlt
            have hq := HNO.out.below ((next B1.out BB.out).mono HB.out)
            obtain ⟨g0, o0, hga, hg0⟩ := hq.ex (by omega)
            rw [hga] at hq k1
            obtain ⟨z0, z1⟩ := hq.part htl
            have hno := all_no (p := addB) htl
            have hyes := all_yes (p := addB) htl hall
            obtain ⟨⟨yi, ys⟩, hy⟩ : ∃ y, x.N[t] = y := ⟨_, rfl⟩
            rw [hy] at z0 z1 hno hyes
            dsimp only at z0 z1
            have HNA := Lib.hid hno; have HYES := Lib.hid hyes
            clear hq hno hyes hy hall htl hga k2
            by_cases c1 : 1 ≤ yi
            · have e1 : decide (yi < 1) = false := decide_eq_false (by omega)
              by_cases c2 : yi ≤ 1099511627776
              · have e2 : decide ((1099511627776 : Int) < yi) = false := decide_eq_false (by omega)
                by_cases hs : ys.size ≤ 4096
                · have j5 : decide ((4096 : Int) < (ys.size : Int)) = false := decide_eq_false (by omega)
                  have j6 : decide (4096 < ys.size) = false := decide_eq_false (by omega)
                  have HY : Hid ((x.N.take (t + 1)).all addB = true) := Lib.hid (HYES.out (by unfold addB; simp only [decide_eq_true c1, decide_eq_true c2, decide_eq_true hs]; rfl))
                  clear hs c1 c2
                  go_wp2
                  go_roundw
                  case rel => exact ⟨t + 1, by omega, by go_num, HY.out, BB.out⟩
                  case measure => simp [intOf]; omega
                · have j5 : decide ((4096 : Int) < (ys.size : Int)) = true := decide_eq_true (by omega)
                  have j6 : decide (4096 < ys.size) = true := decide_eq_true (by omega)
                  have hrf : r = false := by rw [HV2.out, ← A2.out, HNA.out (by unfold addB; simp only [decide_eq_false hs, Bool.and_false])]; rfl
                  subst hrf
                  clear hs c1 c2
                  go_wp2
                  go_ret
                  exact ⟨rfl, next B1.out BB.out⟩
              · have e2 : decide ((1099511627776 : Int) < yi) = true := decide_eq_true (by omega)
                have hrf : r = false := by rw [HV2.out, ← A2.out, HNA.out (by unfold addB; simp only [decide_eq_false c2, Bool.false_and, Bool.and_false])]; rfl
                subst hrf
                clear c1 c2
                go_wp2
                go_ret
                exact ⟨rfl, next B1.out BB.out⟩
            · have e1 : decide (yi < 1) = true := decide_eq_true (by omega)
              have hrf : r = false := by rw [HV2.out, ← A2.out, HNA.out (by unfold addB; simp only [decide_eq_false c1, Bool.false_and])]; rfl
              subst hrf
              clear c1
              go_wp2
              go_ret
              exact ⟨rfl, next B1.out BB.out⟩
          · obtain rfl : t = nn := by omega
            have i9 : decide ((t : Int) < (t : Int)) = false := decide_eq_false (by omega)
            rw [List.take_of_length_le (by rw [HNN.out]; exact Nat.le_refl _)] at hall
            have hr3 : r = a3 := by rw [HV2.out, ← A2.out, hall]; rfl
            subst hr3
            have HZQ := HZR
            clear hall HV HV2 A2
            go_wp2
            go_loopw [4] (fun i wr2 => ∃ t2 : Nat, t2 ≤ nd ∧ i = .int .i64 t2 ∧ (x.D.take t2).all dropB = true ∧ Below wr.heap.size wr wr2) (fun i _ => nd - (intOf i).toNat)
            case atStart => exact ⟨0, Nat.zero_le _, rfl, rfl, Below.refl _ _⟩
            case round =>
              obtain ⟨t2, ht2, rfl, hall, hb2⟩ := hrel
              have BB2 := Lib.hid (next (next B1.out BB.out) hb2)
              have BB3 := Lib.hid hb2
              have hzr := (hb2.block _ (Array.getElem?_eq_some_iff.1 HZR.out).1).trans HZR.out
              have k2 := cell_at (i := 2) hzr rfl
              rw [HND.out] at k2
              clear hb2 hzr
              by_cases hlt2 : t2 < nd
              · have i1 : (t2 : Int) < nd := by omega
                have i0 : (0 : Int) ≤ t2 := by omega
                have htl : t2 < x.D.length := by rw [HND.out]; exact hlt2
                have hq := HDR.out.below (BB2.out.mono HB.out)
                obtain ⟨g0, o0, hga, hg0, hcs⟩ := hq.2 (by omega)
                have z0 := hcs t2 htl
                rw [hga] at k2
                have hno := all_no (p := dropB) htl
                have hyes := all_yes (p := dropB) htl hall
                obtain ⟨y, hy⟩ : ∃ y, x.D[t2] = y := ⟨_, rfl⟩
                rw [hy] at z0 hno hyes
                have HNA := Lib.hid hno; have HYES := Lib.hid hyes
                clear hq hno hyes hy hall htl hga hcs hg0
                by_cases c1 : 1 ≤ y
                · have e1 : decide (y < 1) = false := decide_eq_false (by omega)
                  by_cases c2 : y ≤ 1099511627776
                  · have e2 : decide ((1099511627776 : Int) < y) = false := decide_eq_false (by omega)
                    have HY : Hid ((x.D.take (t2 + 1)).all dropB = true) := Lib.hid (HYES.out (by unfold dropB; simp only [decide_eq_true c1, decide_eq_true c2]; rfl))
                    clear c1 c2
                    go_wp2
                    go_roundw
                    case rel => exact ⟨t2 + 1, by omega, by go_num, HY.out, BB3.out⟩
                    case measure => simp [intOf]; omega
                  · have e2 : decide ((1099511627776 : Int) < y) = true := decide_eq_true (by omega)
                    have hrf : r = false := by rw [← A3.out, HNA.out (by unfold dropB; simp only [decide_eq_false c2, Bool.and_false])]
                    subst hrf
                    clear c1 c2
                    go_wp2
                    go_ret
                    exact ⟨rfl, BB2.out⟩
                · have e1 : decide (y < 1) = true := decide_eq_true (by omega)
                  have hrf : r = false := by rw [← A3.out, HNA.out (by unfold dropB; simp only [decide_eq_false c1, Bool.false_and])]
                  subst hrf
                  clear c1
                  go_wp2
                  go_ret
                  exact ⟨rfl, BB2.out⟩
              · obtain rfl : t2 = nd := by omega
                have i9 : decide ((t2 : Int) < (t2 : Int)) = false := decide_eq_false (by omega)
                rw [List.take_of_length_le (by rw [HND.out]; exact Nat.le_refl _)] at hall
                have hrf : r = true := by rw [← A3.out, hall]
                subst hrf
                clear hall
                go_wp2
                go_ret
                exact ⟨rfl, BB2.out⟩
      · have j3 : decide ((300 : Int) < (nd : Int)) = true := decide_eq_true (by omega)
        have j4 : decide (300 < nd) = true := decide_eq_true (by omega)
        have hrf : r = false := by rw [HV.out, decide_eq_false h3]; simp
        subst hrf
        clear h3
        go_wp2
        go_ret
        exact ⟨rfl, B1.out⟩
    · have j1 : decide ((300 : Int) < (nn : Int)) = true := decide_eq_true (by omega)
      have j2 : decide (300 < nn) = true := decide_eq_true (by omega)
      have hrf : r = false := by rw [HV.out, decide_eq_false h2]; simp
      subst hrf
      clear h2
      go_wp2
      go_ret
      exact ⟨rfl, B1.out⟩
end Go.Proofs.YthfanonjokpflaaGreat
set_option linter.unusedVariables false
set_option linter.unusedSimpArgs false
namespace Go.Proofs.YthfanonjokpflaaGreat
open Go Go.RowKit

set_option maxRecDepth 8000 in
set_option maxHeartbeats 8000000 in
theorem rmuts9 (A : Option Addr) (n c B : Nat) (L : List MA) (w : World) (hr : LiesM w B A n c L) (hB : B ≤ w.heap.size) (hx : ∀ x ∈ L, x.tb.size ≤ 1000000000 ∧ Pa.ok ⟨x.p.k, x.p.g, ros x.p.L⟩ = true) (hn : n ≤ 1000000) (htot : (numL n ++ (muts L).flatMap mE).length ≤ 400000000) :
    Calls Tryz.prog 32 #[.slice A n c] w fun e w' => e = .returned (.string (bs (numL n ++ (muts L).flatMap mE))) ∧ Below w.heap.size w w' := by
  have hl := hr.rd.1
  obtain ⟨P, hP⟩ : ∃ P, numL n ++ (muts L).flatMap mE = P := ⟨_, rfl⟩
  have hst : numL n ++ (muts (L.drop 0)).flatMap mE = P := by rw [← hP, List.drop_zero]
  rw [hP] at htot ⊢
  have HR := Lib.hid hr; have HB := Lib.hid hB; have HX := Lib.hid hx; have HL := Lib.hid hl; have HT := Lib.hid htot; have HST := Lib.hid hst; have HNN := Lib.hid hn
  clear hr hB hx hl htot hst hP hn
  go_enter Tryz.func32, Tryz.ntmps32
  go_wp2_with fail
  refine (rnum9 n _ (by have := HNN.out; omega)).mono ?_
  rintro e w1 ⟨rfl, b1⟩
  have B1 := Lib.hid b1
  clear b1
  go_wp2_with fail
  go_loopw [4, 3] (fun i v wr => ∃ (t : Nat) (X : Bs), t ≤ n ∧ i = .int .i64 t ∧ v = .string (bs X) ∧ X ++ (muts (L.drop t)).flatMap mE = P ∧ Below w.heap.size w wr) (fun i _ _ => n - (intOf i).toNat)
  case atStart => exact ⟨0, numL n, Nat.zero_le _, rfl, rfl, HST.out, B1.out⟩
  case round =>
    obtain ⟨t, X, ht, rfl, rfl, hx0, hb⟩ := hrel
    by_cases hlt : t < n
    · have i1 : (t : Int) < n := by omega
      have i0 : (0 : Int) ≤ t := by omega
      have i8 : n ≤ 1000000 := HNN.out
      have htl : t < L.length := by rw [HL.out]; exact hlt
      have hrd := HR.out.below (hb.mono HB.out)
      obtain ⟨g0, o0, rfl, hg0⟩ := hrd.rd.ex (by omega)
      have hwr : B ≤ wr.heap.size := Nat.le_trans HB.out hb.size
      have hcolf := fun (w' : World) (hb' : Below wr.heap.size wr w') => (hrd.rd.below (hb'.mono hwr)).part htl
      have hinf := fun (w' : World) (hb' : Below wr.heap.size wr w') => Lies.below (hrd.parts L[t] (List.getElem_mem htl)) (hb'.mono hwr)
      have hszf : ∀ w', Below wr.heap.size wr w' → B ≤ w'.heap.size := fun w' hb' => Nat.le_trans hwr hb'.size
      have hs := HX.out L[t] (List.getElem_mem htl)
      rw [drop_muts htl, List.flatMap_cons] at hx0
      obtain ⟨x, hcx⟩ : ∃ y, L[t] = y := ⟨_, rfl⟩
      rw [hcx] at hs hx0
      simp only [hcx] at hcolf hinf
      obtain ⟨Q, hQ⟩ : ∃ Q, pE ⟨x.p.k, x.p.g, ros x.p.L⟩ = Q := ⟨_, rfl⟩
      obtain ⟨R, hR⟩ : ∃ R, (muts (L.drop (t + 1))).flatMap mE = R := ⟨_, rfl⟩
      have hm : mE (mutOf x) = tE x.tb ++ tE (bs Q) := by rw [← hQ]; rfl
      rw [hm, hR] at hx0
      obtain ⟨X1, h1⟩ : ∃ Y, X ++ tE x.tb = Y := ⟨_, rfl⟩
      obtain ⟨X2, h2⟩ : ∃ Y, X1 ++ tE (bs Q) = Y := ⟨_, rfl⟩
      have h3 : X2 ++ R = P := by rw [← hx0, ← h2, ← h1]; simp only [List.append_assoc]
      have m2 : X2.length ≤ 400000000 := by have := congrArg List.length h3; rw [List.length_append] at this; have := HT.out; omega
      have m1 : X1.length ≤ 400000000 := by have := congrArg List.length h2; rw [List.length_append] at this; omega
      have hql : (bs Q).size ≤ 1000000000 := by
        have h5 := pa_len hs.2
        rw [hQ] at h5
        show Q.length ≤ _
        omega
      have a1 := fun wx => add_bs h1 (by omega) wx
      have a2 := fun wx => add_bs h2 (by omega) wx
      have HBW := Lib.hid hb; have S1 := Lib.hid hs; have HCOL := Lib.hid hcolf; have HINF := Lib.hid hinf; have HSZ := Lib.hid hszf; have HPE := Lib.hid hQ; have HQL := Lib.hid hql
      have H3 : Hid (X2 ++ (muts (L.drop (t + 1))).flatMap mE = P) := Lib.hid (by rw [hR]; exact h3)
      clear hrd hs hb hcolf hinf hszf hQ hql hx0 hm hR h1 h2 h3 m1 m2 hcx hwr htl hg0 ht
      go_wp2_with fail
      refine wp_region_held_drew (S := fun w' => Below wr.heap.size wr w') (by kernel_rfl) ?_ (fun hHeld => ?_)
      · exact (Below.refl _ _).drew
      refine takesH [0, 1, 2, 3, 4, 5, 8, 9, 10, 11, 12] ?_
      repeat
        refine takesH_one (v := ?_) ?_ ?_
        rotate_left
        · first | (refine Or.inr ⟨by rfl, ?_⟩; with_reducible rfl) | (refine Or.inl ⟨by rfl, ?_⟩; intro wx hSw; (try dsimp only at hSw); first | (go_simp; first | done | with_reducible rfl) | (obtain ⟨_, _, _, _⟩ := HCOL.out _ hSw; go_simp; first | done | with_reducible rfl))
        try simp only [Act.put, List.getElem_toArray, List.getElem_cons_succ, List.getElem_cons_zero, List.setIfInBounds_toArray, List.set_cons_zero, List.set_cons_succ]
      refine takesH_nil ?_
      refine wpAnyH_ready (rs := [6]) (by kernel_rfl) (by simp) (AllReadyH.cons rfl (fun K hK => ?_) AllReadyH.nil)
      go_simp
      refine (rtext9 x.tb _ S1.out.1).mono ?_
      rintro e' w1 ⟨rfl, b1⟩
      try go_wp2_with fail
      refine hK.out _ _ ?_ (fun hHeld => ?_)
      · exact next hHeld b1
      clear hK K
      try simp only [Act.put, List.getElem_toArray, List.getElem_cons_succ, List.getElem_cons_zero, List.setIfInBounds_toArray, List.set_cons_zero, List.set_cons_succ]
      refine takesH [7] ?_
      repeat
        refine takesH_one (v := ?_) ?_ ?_
        rotate_left
        · first | (refine Or.inr ⟨by rfl, ?_⟩; with_reducible rfl) | (refine Or.inl ⟨by rfl, ?_⟩; intro wx hSw; (try dsimp only at hSw); first | (go_simp; first | done | with_reducible rfl))
        try simp only [Act.put, List.getElem_toArray, List.getElem_cons_succ, List.getElem_cons_zero, List.setIfInBounds_toArray, List.set_cons_zero, List.set_cons_succ]
      refine takesH_nil ?_
      refine wpAnyH_ready (rs := [13]) (by kernel_rfl) (by simp) (AllReadyH.cons rfl (fun K hK => ?_) AllReadyH.nil)
      go_simp
      refine (rbytes9 x.p.k x.p.g x.p.A x.p.L.length x.p.c B x.p.L _ (HINF.out _ hHeld) (HSZ.out _ hHeld) S1.out.2).mono ?_
      rintro e' w1 ⟨rfl, b1⟩
      rw [HPE.out]
      try go_wp2_with fail
      refine hK.out _ _ ?_ (fun hHeld => ?_)
      · exact next hHeld b1
      clear hK K
      try simp only [Act.put, List.getElem_toArray, List.getElem_cons_succ, List.getElem_cons_zero, List.setIfInBounds_toArray, List.set_cons_zero, List.set_cons_succ]
      refine wpAnyH_ready (rs := [14]) (by kernel_rfl) (by simp) (AllReadyH.cons rfl (fun K hK => ?_) AllReadyH.nil)
      go_simp
      refine (rtext9 (bs Q) _ HQL.out).mono ?_
      rintro e' w1 ⟨rfl, b1⟩
      try go_wp2_with fail
      refine hK.out _ _ ?_ (fun hHeld => ?_)
      · exact next hHeld b1
      clear hK K
      try simp only [Act.put, List.getElem_toArray, List.getElem_cons_succ, List.getElem_cons_zero, List.setIfInBounds_toArray, List.set_cons_zero, List.set_cons_succ]
      refine takesH [15, 16] ?_
      repeat
        refine takesH_one (v := ?_) ?_ ?_
        rotate_left
        · first | (refine Or.inr ⟨by rfl, ?_⟩; with_reducible rfl) | (refine Or.inl ⟨by rfl, ?_⟩; intro wx hSw; (try dsimp only at hSw); first | (go_simp; first | done | with_reducible rfl))
        try simp only [Act.put, List.getElem_toArray, List.getElem_cons_succ, List.getElem_cons_zero, List.setIfInBounds_toArray, List.set_cons_zero, List.set_cons_succ]
      refine takesH_nil ?_
      refine wpAnyH_done (by kernel_rfl) ?_ _
      have BW := Lib.hid (next HBW.out hHeld)
      clear hHeld a1 a2
      go_wp2
      go_roundw
      case rel => exact ⟨t + 1, X2, by omega, by go_num, rfl, H3.out, BW.out⟩
      case measure => simp [intOf]; omega
    · obtain rfl : t = n := by omega
      rw [List.drop_of_length_le (by rw [HL.out]; exact Nat.le_refl _)] at hx0
      have hX : X = P := by simpa using hx0
      subst hX
      have HBW := Lib.hid hb
      have j1 : decide ((t : Int) < (t : Int)) = false := decide_eq_false (by omega)
      clear hx0 hb
      go_wp2
      go_ret
      exact ⟨rfl, HBW.out⟩
end Go.Proofs.YthfanonjokpflaaGreat
set_option linter.unusedVariables false
set_option linter.unusedSimpArgs false
namespace Go.Proofs.YthfanonjokpflaaGreat
open Go Go.RowKit

theorem drop_flat {α : Type} {L : List α} {t : Nat} (h : t < L.length) (e : α → Bs) : (L.drop t).flatMap e = e L[t] ++ (L.drop (t + 1)).flatMap e := by rw [List.drop_eq_getElem_cons h, List.flatMap_cons]
set_option maxRecDepth 8000 in
set_option maxHeartbeats 8000000 in
theorem rbatch9 (x : BA) (B : Nat) (w : World) (hr : LiesB w B x) (hB : B ≤ w.heap.size) (hf : BtF x) :
    Calls Tryz.prog 12 #[bV x] w (GivesX9 w (putBatch x.bt)) := by
  have bz := (Below.refl w.heap.size w).alloc (Nat.le_refl _) (bO x)
  have hz := heap_alloc_new w (bO x)
  obtain ⟨V, hV⟩ : ∃ V, V = w.alloc (bO x) := ⟨_, rfl⟩
  rw [← hV] at bz hz
  obtain ⟨u, hu⟩ : ∃ u, x.bt.ok = u := ⟨_, rfl⟩
  have C1 := rcheckbatch x B V (hr.below (bz.mono hB)) (Nat.le_trans hB bz.size) hf
  rw [hu] at C1
  obtain ⟨R, hR⟩ : ∃ R, putBatch x.bt = R := ⟨_, rfl⟩
  rw [hR]
  have HU := Lib.hid hu; have HZ := Lib.hid hz; have BZ := Lib.hid bz; have HC1 := Lib.hid C1; have HR := Lib.hid hr; have HB := Lib.hid hB; have HRR := Lib.hid hR; have HF := Lib.hid hf
  have hc0 := cell_at (i := 0) HZ.out rfl
  have hc1 := cell_at (i := 1) HZ.out rfl
  have hc2 := cell_at (i := 2) HZ.out rfl
  clear hu hz bz C1 hr hf hR hB
  go_enter Tryz.func12, Tryz.ntmps12
  go_wp2_with fail
  try unfold bO at hV
  rw [← hV]
  clear hV
  refine (HC1.out).mono ?_
  rintro e w1 ⟨rfl, b1⟩
  have hz1 := (b1.block _ (Array.getElem?_eq_some_iff.1 HZ.out).1).trans HZ.out
  have B1 := Lib.hid (next BZ.out b1)
  have HZ1 := Lib.hid hz1
  clear hc0 hc1 hc2 b1 hz1
  cases u with
  | false =>
    have hRe : R = .error 1 := by rw [← HRR.out, putBatch_no HU.out]
    subst hRe
    go_wp2
    go_ret2
    exact ⟨rfl, B1.out⟩
  | true =>
    obtain ⟨nm, hnm⟩ : ∃ nm, x.M.length = nm := ⟨_, rfl⟩
    obtain ⟨nn, hnn⟩ : ∃ nn, x.N.length = nn := ⟨_, rfl⟩
    obtain ⟨nd, hnd⟩ : ∃ nd, x.D.length = nd := ⟨_, rfl⟩
    have hbs := btS_of HU.out
    have hle := bt_len HU.out
    have hok : ∀ y ∈ x.M, y.tb.size ≤ 1000000000 ∧ Pa.ok ⟨y.p.k, y.p.g, ros y.p.L⟩ = true := fun y hy => by
      have h := HU.out
      rw [bt_ok] at h
      simp only [Bool.and_eq_true, List.all_eq_true] at h
      have h1 := h.1.1.2 y hy
      unfold mutB mutOf at h1
      simp only [Bool.and_eq_true] at h1
      exact ⟨by have := (hbs.muts y hy).1; omega, h1.2⟩
    obtain ⟨P, hP⟩ : ∃ P, bE x.bt = P := ⟨_, rfl⟩
    have hpe : (numL nm ++ (muts x.M).flatMap mE) ++ ((numL nn ++ x.N.flatMap aE) ++ (numL nd ++ x.D.flatMap fun v => numL v.toNat)) = P := by
      rw [← hP, ← hnm, ← hnn, ← hnd]
      unfold bE BA.bt
      simp only [List.length_map]
    rw [hP] at hle
    have hRe : R = (if 262144 < P.length then .error 2 else .ok P) := by
      rw [← HRR.out]
      unfold putBatch putP
      rw [if_pos HU.out, hP]
    have hz1 := HZ1.out
    unfold bO at hz1
    rw [hnm, hnn, hnd] at hz1
    have hcs : ∀ w', Below w1.heap.size w1 w' → w'.cell? ⟨w.heap.size, 0, none⟩ = some (.slice x.AM nm x.cM) ∧ w'.cell? ⟨w.heap.size, 1, none⟩ = some (.slice x.AN nn x.cN) ∧ w'.cell? ⟨w.heap.size, 2, none⟩ = some (.slice x.AD nd x.cD) := fun w' hb => by
      have h := (hb.block _ (Array.getElem?_eq_some_iff.1 hz1).1).trans hz1
      exact ⟨cell_at h rfl, cell_at h rfl, cell_at h rfl⟩
    have hlb := HR.out.below (B1.out.mono HB.out)
    have hB1 := Nat.le_trans HB.out B1.out.size
    obtain ⟨H1, hH1⟩ : ∃ X, numL nm ++ (muts x.M).flatMap mE = X := ⟨_, rfl⟩
    obtain ⟨H2, hH2⟩ : ∃ X, H1 ++ numL nn = X := ⟨_, rfl⟩
    obtain ⟨Q, hQ⟩ : ∃ X, numL nd ++ x.D.flatMap (fun v => numL v.toNat) = X := ⟨_, rfl⟩
    have hst : H2 ++ ((x.N.drop 0).flatMap aE ++ Q) = P := by
      rw [← hpe, ← hH2, ← hH1, hQ, List.drop_zero]
      simp only [List.append_assoc]
    have l2 : H2.length ≤ 30000000 := by have := congrArg List.length hst; rw [List.length_append] at this; omega
    have l1 : H1.length ≤ 30000000 := by have := congrArg List.length hH2; rw [List.length_append] at this; omega
    have hmu : ∀ w', Below w1.heap.size w1 w' → Calls Tryz.prog 32 #[.slice x.AM nm x.cM] w' fun e w'' => e = .returned (.string (bs H1)) ∧ Below w'.heap.size w' w'' := fun w' hb => by
      have h := rmuts9 x.AM nm x.cM B x.M w' (by rw [← hnm]; exact hlb.muts.below (hb.mono hB1)) (Nat.le_trans hB1 hb.size) hok (by have := hbs.lm; omega) (by rw [hH1]; omega)
      rw [hH1] at h
      exact h
    have a1 := fun wx => add_bs (a := H1) (b := numL nn) (c := H2) hH2 (by omega) wx
    have HM := Lib.hid hmu; have HCS := Lib.hid hcs; have HLB := Lib.hid hlb; have HB1 := Lib.hid hB1; have HBS := Lib.hid hbs; have HLE := Lib.hid hle; have HRE := Lib.hid hRe; have HST := Lib.hid hst; have HQ := Lib.hid hQ; have HNN := Lib.hid hnn; have HND := Lib.hid hnd; have HNN8 := Lib.hid (show nn ≤ 1000000000000000 by have := hbs.ln; omega)
    have hn8 : nn ≤ 1000000 := by have := hbs.ln; omega
    have hd8 : nd ≤ 1000000 := by have := hbs.ld; omega
    have hw8 : w.heap.size < w1.heap.size := (Array.getElem?_eq_some_iff.1 hz1).1
    have HW8 := Lib.hid hw8
    clear hmu hcs hlb hB1 hbs hle hRe hst hQ hnn hnd hnm hok hP hpe hz1 hH1 hH2 l1 l2 hw8
    obtain ⟨q0, q1, q2⟩ := HCS.out w1 (Below.refl _ _)
    go_wp2_with fail
    refine wp_region_held_drew (S := fun w' => Below w1.heap.size w1 w') (by kernel_rfl) ?_ (fun hHeld => ?_)
    · exact (Below.refl _ _).drew
    refine takesH [0, 1, 3, 4, 5] ?_
    repeat
      refine takesH_one (v := ?_) ?_ ?_
      rotate_left
      · first | (refine Or.inr ⟨by rfl, ?_⟩; with_reducible rfl) | (refine Or.inl ⟨by rfl, ?_⟩; intro wx hSw; (try dsimp only at hSw); first | (go_simp; first | done | with_reducible rfl) | (obtain ⟨_, _, _⟩ := HCS.out _ hSw; go_simp; first | done | with_reducible rfl))
      try simp only [Act.put, List.getElem_toArray, List.getElem_cons_succ, List.getElem_cons_zero, List.setIfInBounds_toArray, List.set_cons_zero, List.set_cons_succ]
    refine takesH_nil ?_
    refine wpAnyH_ready (rs := [2]) (by kernel_rfl) (by simp) (AllReadyH.cons rfl (fun K hK => ?_) AllReadyH.nil)
    go_simp
    refine ((HM.out _ hHeld)).mono ?_
    rintro e' w2 ⟨rfl, b1⟩
    try go_wp2_with fail
    refine hK.out _ _ ?_ (fun hHeld => ?_)
    · exact next hHeld b1
    clear hK K
    try simp only [Act.put, List.getElem_toArray, List.getElem_cons_succ, List.getElem_cons_zero, List.setIfInBounds_toArray, List.set_cons_zero, List.set_cons_succ]
    refine wpAnyH_ready (rs := [6]) (by kernel_rfl) (by simp) (AllReadyH.cons rfl (fun K hK => ?_) AllReadyH.nil)
    go_simp
    refine (rnum9 nn _ HNN8.out).mono ?_
    rintro e' w2 ⟨rfl, b1⟩
    try go_wp2_with fail
    refine hK.out _ _ ?_ (fun hHeld => ?_)
    · exact next hHeld b1
    clear hK K
    try simp only [Act.put, List.getElem_toArray, List.getElem_cons_succ, List.getElem_cons_zero, List.setIfInBounds_toArray, List.set_cons_zero, List.set_cons_succ]
    refine takesH [7, 8] ?_
    repeat
      refine takesH_one (v := ?_) ?_ ?_
      rotate_left
      · first | (refine Or.inr ⟨by rfl, ?_⟩; with_reducible rfl) | (refine Or.inl ⟨by rfl, ?_⟩; intro wx hSw; (try dsimp only at hSw); first | (go_simp; first | done | with_reducible rfl))
      try simp only [Act.put, List.getElem_toArray, List.getElem_cons_succ, List.getElem_cons_zero, List.setIfInBounds_toArray, List.set_cons_zero, List.set_cons_succ]
    refine takesH_nil ?_
    refine wpAnyH_done (by kernel_rfl) ?_ _
    have B2 := Lib.hid hHeld
    clear hHeld a1
    clear q0 q1 q2
    go_wp2_with fail
    go_loopw [5, 4] (fun i v wr => ∃ (t : Nat) (X : Bs), t ≤ nn ∧ i = .int .i64 t ∧ v = .string (bs X) ∧ X ++ ((x.N.drop t).flatMap aE ++ Q) = P ∧ Below w1.heap.size w1 wr) (fun i _ _ => nn - (intOf i).toNat)
    case atStart => exact ⟨0, H2, Nat.zero_le _, rfl, rfl, HST.out, B2.out⟩
    case round =>
      obtain ⟨t, X, ht, rfl, rfl, hx0, hb⟩ := hrel
      obtain ⟨_, k1, _⟩ := HCS.out _ hb
      by_cases hlt : t < nn
      · have i1 : (t : Int) < nn := by omega
        have i0 : (0 : Int) ≤ t := by omega
        have htl : t < x.N.length := by rw [HNN.out]; exact hlt
        have hq := HLB.out.notes.below (hb.mono HB1.out)
        rw [HNN.out] at hq
        obtain ⟨g0, o0, hga, hg0⟩ := hq.ex (by omega)
        have hcsf := HCS.out
        rw [hga] at hq k1 hcsf
        have hcef := fun (w' : World) (hb' : Below wr.heap.size wr w') => (And.intro (hcsf _ (next hb hb')).1 (And.intro (hcsf _ (next hb hb')).2.1 (And.intro (hcsf _ (next hb hb')).2.2 ((hq.below (hb'.mono (Nat.le_trans HB1.out hb.size))).part htl))))
        have hys := HBS.out.notes x.N[t] (List.getElem_mem htl)
        rw [drop_flat htl] at hx0
        obtain ⟨⟨yi, ys⟩, hy⟩ : ∃ y, x.N[t] = y := ⟨_, rfl⟩
        rw [hy] at hys hx0
        simp only [hy] at hcef
        obtain ⟨R9, hR9⟩ : ∃ R, (x.N.drop (t + 1)).flatMap aE ++ Q = R := ⟨_, rfl⟩
        obtain ⟨X1, h1⟩ : ∃ Y, X ++ numL yi.toNat = Y := ⟨_, rfl⟩
        obtain ⟨X2, h2⟩ : ∃ Y, X1 ++ tE ys = Y := ⟨_, rfl⟩
        have h3 : X2 ++ R9 = P := by rw [← hx0, ← h2, ← h1, ← hR9]; unfold aE; simp only [List.append_assoc]
        have m2 : X2.length ≤ 30000000 := by have := congrArg List.length h3; rw [List.length_append] at this; have := HLE.out; omega
        have m1 : X1.length ≤ 30000000 := by have := congrArg List.length h2; rw [List.length_append] at this; omega
        have a1 := fun wx => add_bs h1 (by omega) wx
        have a2 := fun wx => add_bs h2 (by omega) wx
        have HBW := Lib.hid hb; have HCE := Lib.hid hcef
        have HYS : Hid (Stm yi ∧ ys.size ≤ 1000000000) := Lib.hid ⟨hys.1, by have := hys.2; dsimp only at this; omega⟩
        have H3 : Hid (X2 ++ ((x.N.drop (t + 1)).flatMap aE ++ Q) = P) := Lib.hid (by rw [hR9]; exact h3)
        clear hq hcsf hcef hys hb hx0 hR9 h1 h2 h3 m1 m2 hy htl hg0 hga ht
        go_wp2_with fail
        refine wp_region_held_drew (S := fun w' => Below wr.heap.size wr w') (by kernel_rfl) ?_ (fun hHeld => ?_)
        · exact (Below.refl _ _).drew
        refine takesH [0, 1, 2, 3, 4, 5, 6, 9, 10, 11, 12, 13, 14] ?_
        repeat
          refine takesH_one (v := ?_) ?_ ?_
          rotate_left
          · first | (refine Or.inr ⟨by rfl, ?_⟩; with_reducible rfl) | (refine Or.inl ⟨by rfl, ?_⟩; intro wx hSw; (try dsimp only at hSw); first | (go_simp; first | done | with_reducible rfl) | (obtain ⟨_, _, _, _, _⟩ := HCE.out _ hSw; go_simp; first | done | with_reducible rfl))
          try simp only [Act.put, List.getElem_toArray, List.getElem_cons_succ, List.getElem_cons_zero, List.setIfInBounds_toArray, List.set_cons_zero, List.set_cons_succ]
        refine takesH_nil ?_
        refine wpAnyH_ready (rs := [7]) (by kernel_rfl) (by simp) (AllReadyH.cons rfl (fun K hK => ?_) AllReadyH.nil)
        go_simp
        refine (rnum9i yi _ HYS.out.1).mono ?_
        rintro e' w2 ⟨rfl, b1⟩
        try go_wp2_with fail
        refine hK.out _ _ ?_ (fun hHeld => ?_)
        · exact next hHeld b1
        clear hK K
        try simp only [Act.put, List.getElem_toArray, List.getElem_cons_succ, List.getElem_cons_zero, List.setIfInBounds_toArray, List.set_cons_zero, List.set_cons_succ]
        refine takesH [8] ?_
        repeat
          refine takesH_one (v := ?_) ?_ ?_
          rotate_left
          · first | (refine Or.inr ⟨by rfl, ?_⟩; with_reducible rfl) | (refine Or.inl ⟨by rfl, ?_⟩; intro wx hSw; (try dsimp only at hSw); first | (go_simp; first | done | with_reducible rfl))
          try simp only [Act.put, List.getElem_toArray, List.getElem_cons_succ, List.getElem_cons_zero, List.setIfInBounds_toArray, List.set_cons_zero, List.set_cons_succ]
        refine takesH_nil ?_
        refine wpAnyH_ready (rs := [15]) (by kernel_rfl) (by simp) (AllReadyH.cons rfl (fun K hK => ?_) AllReadyH.nil)
        go_simp
        refine (rtext9 ys _ HYS.out.2).mono ?_
        rintro e' w2 ⟨rfl, b1⟩
        try go_wp2_with fail
        refine hK.out _ _ ?_ (fun hHeld => ?_)
        · exact next hHeld b1
        clear hK K
        try simp only [Act.put, List.getElem_toArray, List.getElem_cons_succ, List.getElem_cons_zero, List.setIfInBounds_toArray, List.set_cons_zero, List.set_cons_succ]
        refine takesH [16, 17] ?_
        repeat
          refine takesH_one (v := ?_) ?_ ?_
          rotate_left
          · first | (refine Or.inr ⟨by rfl, ?_⟩; with_reducible rfl) | (refine Or.inl ⟨by rfl, ?_⟩; intro wx hSw; (try dsimp only at hSw); first | (go_simp; first | done | with_reducible rfl))
          try simp only [Act.put, List.getElem_toArray, List.getElem_cons_succ, List.getElem_cons_zero, List.setIfInBounds_toArray, List.set_cons_zero, List.set_cons_succ]
        refine takesH_nil ?_
        refine wpAnyH_done (by kernel_rfl) ?_ _
        have BW := Lib.hid (next HBW.out hHeld)
        clear hHeld a1 a2
        go_wp2
        go_roundw
        case rel => exact ⟨t + 1, X2, by omega, by go_num, rfl, H3.out, BW.out⟩
        case measure => simp [intOf]; omega
      · obtain rfl : t = nn := by omega
        rw [List.drop_of_length_le (by rw [HNN.out]; exact Nat.le_refl _)] at hx0
        have hX : X ++ Q = P := by simpa using hx0
        obtain ⟨X1, h1⟩ : ∃ Y, X ++ numL nd = Y := ⟨_, rfl⟩
        have h2 : X1 ++ (x.D.drop 0).flatMap (fun v => numL v.toNat) = P := by rw [← hX, ← HQ.out, ← h1, List.drop_zero, List.append_assoc]
        have m1 : X1.length ≤ 30000000 := by have := congrArg List.length h2; rw [List.length_append] at this; have := HLE.out; omega
        have a1 := fun wx => add_bs h1 (by omega) wx
        have H2 := Lib.hid h2
        have HBW := Lib.hid hb
        have j1 : decide ((t : Int) < (t : Int)) = false := decide_eq_false (by omega)
        clear hx0 hb h1 h2 hX m1
        go_wp2_with fail
        refine (rnum9 nd _ (by omega)).mono ?_
        rintro e w4 ⟨rfl, b4⟩
        have B4 := Lib.hid (next HBW.out b4)
        clear b4
        go_wp2_with fail
        go_loopw [6, 4] (fun i v wr2 => ∃ (t2 : Nat) (X : Bs), t2 ≤ nd ∧ i = .int .i64 t2 ∧ v = .string (bs X) ∧ X ++ (x.D.drop t2).flatMap (fun v => numL v.toNat) = P ∧ Below w1.heap.size w1 wr2) (fun i _ _ => nd - (intOf i).toNat)
        case atStart => exact ⟨0, X1, Nat.zero_le _, rfl, rfl, H2.out, B4.out⟩
        case round =>
          obtain ⟨t2, X3, ht2, rfl, rfl, hx3, hb3⟩ := hrel
          obtain ⟨_, _, k3⟩ := HCS.out _ hb3
          by_cases hlt2 : t2 < nd
          · have i1 : (t2 : Int) < nd := by omega
            have i0 : (0 : Int) ≤ t2 := by omega
            have htl : t2 < x.D.length := by rw [HND.out]; exact hlt2
            have hq := HLB.out.drops.below (hb3.mono HB1.out)
            rw [HND.out] at hq
            obtain ⟨g0, o0, hga, hg0, hcs⟩ := hq.2 (by omega)
            have z0 := hcs t2 htl
            rw [hga] at k3
            have hys := HBS.out.drops x.D[t2] (List.getElem_mem htl)
            rw [drop_flat htl] at hx3
            obtain ⟨y, hy⟩ : ∃ y, x.D[t2] = y := ⟨_, rfl⟩
            rw [hy] at z0 hys hx3
            obtain ⟨R9, hR9⟩ : ∃ R, (x.D.drop (t2 + 1)).flatMap (fun v => numL v.toNat) = R := ⟨_, rfl⟩
            rw [hR9] at hx3
            obtain ⟨X4, h1⟩ : ∃ Y, X3 ++ numL y.toNat = Y := ⟨_, rfl⟩
            have h3 : X4 ++ R9 = P := by rw [← hx3, ← h1]; simp only [List.append_assoc]
            have m1 : X4.length ≤ 30000000 := by have := congrArg List.length h3; rw [List.length_append] at this; have := HLE.out; omega
            have a2 := fun wx => add_bs h1 (by omega) wx
            have HBW3 := Lib.hid hb3; have HYS := Lib.hid hys
            have H3 : Hid (X4 ++ (x.D.drop (t2 + 1)).flatMap (fun v => numL v.toNat) = P) := Lib.hid (by rw [hR9]; exact h3)
            clear hq hcs hys hb3 hx3 hR9 h1 h3 m1 hy htl hg0 hga ht2 a1
            go_wp2_with fail
            refine (rnum9i y _ HYS.out).mono ?_
            rintro e w5 ⟨rfl, b5⟩
            have BW := Lib.hid (next HBW3.out b5)
            clear b5
            go_wp2
            go_roundw
            case rel => exact ⟨t2 + 1, X4, by omega, by go_num, rfl, H3.out, BW.out⟩
            case measure => simp [intOf]; omega
          · obtain rfl : t2 = nd := by omega
            rw [List.drop_of_length_le (by rw [HND.out]; exact Nat.le_refl _)] at hx3
            have hX : X3 = P := by simpa using hx3
            subst hX
            have HBW3 := Lib.hid (next B1.out hb3)
            have j2 : decide ((t2 : Int) < (t2 : Int)) = false := decide_eq_false (by omega)
            obtain ⟨T, hT⟩ : ∃ T, bs X3 = T := ⟨_, rfl⟩
            have hts : T.size = X3.length := by rw [← hT]; rfl
            rw [hT]
            have HT := Lib.hid hT
            clear hx3 hb3 a1 hT
            by_cases h8 : 262144 < T.size
            · have d1 : decide ((262144 : Int) < (T.size : Int)) = true := by simp; omega
              have d2 : decide (262144 < T.size) = true := by simp; omega
              have hR : R = .error 2 := by rw [HRE.out, if_pos (by omega)]
              subst hR
              clear h8 hts
              go_wp2
              go_ret2
              exact ⟨rfl, HBW3.out⟩
            · have d1 : decide ((262144 : Int) < (T.size : Int)) = false := by simp; omega
              have d2 : decide (262144 < T.size) = false := by simp; omega
              have hR : R = .ok X3 := by rw [HRE.out, if_neg (by omega)]
              subst hR
              clear h8 hts
              go_wp2
              go_ret2
              obtain rfl := HT.out
              exact ⟨rfl, HBW3.out⟩
end Go.Proofs.YthfanonjokpflaaGreat
set_option linter.unusedVariables false
namespace Go.Proofs.YthfanonjokpflaaGreat
open Go Go.RowKit

set_option maxHeartbeats 4000000 in
theorem rgetNum_any (s : ByteArray) (i : Int) (w : World) (hs : s.size ≤ 70368744177664) :
    Calls Tryz.prog 102 #[.string s, .int .i64 i] w fun e w' => e = .returned (numV (gnum s.data.toList i)) ∧ w = w' := by
  have hl : s.data.toList.length = s.size := (Lib.size_eq s).symm
  by_cases hneg : i < 0
  · rw [gnum_out _ i (Or.inl hneg)]
    clear hl
    go_enter Tryz.func102, Tryz.ntmps102
    go_wp2
    go_ret3
    exact ⟨rfl, rfl⟩
  have t0 : decide (i < 0) = false := by simp; omega
  by_cases hbig : (s.size : Int) < i
  · rw [gnum_out _ i (Or.inr (by rw [hl]; exact hbig))]
    clear hl
    go_enter Tryz.func102, Tryz.ntmps102
    go_wp2
    go_ret3
    exact ⟨rfl, rfl⟩
  obtain ⟨i, rfl⟩ : ∃ k : Nat, i = (k : Nat) := ⟨i.toNat, by omega⟩
  have t1 : decide ((s.size : Int) < i) = false := by simp; omega
  by_cases hend : i = s.size
  · have hg := gnum_end s.data.toList
    rw [hl, ← hend] at hg
    rw [hg]
    have t2 : ((i : Int) == s.size) = true := by simp; omega
    have HE := Lib.hid hend
    clear hl hg hend
    go_enter Tryz.func102, Tryz.ntmps102
    go_wp2
    go_ret3
    exact ⟨rfl, rfl⟩
  have t2 : ((i : Int) == s.size) = false := by simp; omega
  have hi : i < s.size := by omega
  have hil : i < s.data.toList.length := by omega
  have hg := gnum_at s.data.toList i hil
  have ei : s.data.toList[i] = s[i] := rfl
  rw [ei] at hg
  obtain ⟨b, hbe⟩ : ∃ b : Nat, s[i].toNat = b := ⟨_, rfl⟩
  have hb255 : b < 256 := by rw [← hbe]; exact s[i].toNat_lt
  rw [hbe] at hg
  have hbk : s[i].toNat < 256 := s[i].toNat_lt
  by_cases h8 : 8 < b
  · rw [if_pos (Or.inl h8)] at hg
    rw [hg]
    have t3 : decide ((8 : Int) < s[i].toNat) = true := by rw [hbe]; simp; omega
    have HBE := Lib.hid hbe
    clear hg hl ei hbe hend
    go_enter Tryz.func102, Tryz.ntmps102
    go_wp2
    go_ret3
    exact ⟨rfl, rfl⟩
  have t3 : decide ((8 : Int) < s[i].toNat) = false := by rw [hbe]; simp; omega
  by_cases h6 : 0 < b ∧ s.data.toList[i + 1]? = some 0
  · obtain ⟨h60, h61⟩ := h6
    rw [if_pos (Or.inr ⟨h60, h61⟩)] at hg
    rw [hg]
    obtain ⟨hil2, h62⟩ := List.getElem?_eq_some_iff.1 h61
    have hi2 : i + 1 < s.size := by omega
    have h63 : s[i + 1] = 0 := h62
    have t4 : decide ((0 : Int) < s[i].toNat) = true := by rw [hbe]; simp; omega
    have hp : 0 < s[i].toNat := by omega
    have t5 : decide ((i : Int) + 1 < s.size) = true := by simp; omega
    have t6 : ((s[i + 1].toNat : Int) == 0) = true := by rw [h63]; rfl
    have HBE := Lib.hid hbe
    have H63 := Lib.hid h63
    clear hg hl ei hbe hend h61 h62 h63
    go_enter Tryz.func102, Tryz.ntmps102
    go_wp2
    go_ret3
    exact ⟨rfl, rfl⟩
  rw [if_neg (by rintro (h | h); exact h8 h; exact h6 h)] at hg
  have hbk8 : s[i].toNat ≤ 8 := by omega
  by_cases h0 : b = 0
  · rw [if_neg (by omega)] at hg
    rw [hg]
    have t4 : decide ((0 : Int) < s[i].toNat) = false := by rw [hbe, h0]; rfl
    have hbk0 : (s[i].toNat : Int) ≤ 0 := by omega
    have hbk1 : ¬ 0 < s[i].toNat := by omega
    have t7 : decide ((s.size : Int) - i - 1 < s[i].toNat) = false := by simp; omega
    have t8 : decide ((1 : Int) ≤ s[i].toNat) = false := by simp; omega
    have hfit : i + 1 + s[i].toNat ≤ s.size := by omega
    have HBE := Lib.hid hbe
    have HL := Lib.hid hl
    have H0 := Lib.hid h0
    clear hg hl ei hbe hend h6 h0
    go_enter Tryz.func102, Tryz.ntmps102
    go_wp2
    go_loop [8, 9] (fun v j => ∃ k : Nat, j = .int .i64 ((k + 1 : Nat) : Int) ∧ k ≤ s[i].toNat ∧ v = .int .u64 (vl ((s.data.toList.drop (i + 1)).take k) : Nat)) (fun _ j => s[i].toNat + 1 - (intOf j).toNat)
    case atStart => exact ⟨0, rfl, Nat.zero_le _, rfl⟩
    case round =>
      obtain ⟨k, rfl, hk, rfl⟩ := hrel
      · obtain rfl : k = s[i].toNat := by omega
        go_wp2
        go_ret3
        refine ⟨?_, rfl⟩
        rw [← HBE.out]
        rfl
  have t4 : decide ((0 : Int) < s[i].toNat) = true := by simp; omega
  have hp : 0 < s[i].toNat := by omega
  by_cases hlast : i + 1 = s.size
  · rw [if_pos (by omega)] at hg
    rw [hg]
    have t5 : decide ((i : Int) + 1 < s.size) = false := by simp; omega
    have t7 : decide ((s.size : Int) - i - 1 < s[i].toNat) = true := by simp; omega
    have HBE := Lib.hid hbe
    have HLA := Lib.hid hlast
    clear hg hl ei hbe hend h6 hlast
    go_enter Tryz.func102, Tryz.ntmps102
    go_wp2
    go_ret3
    exact ⟨rfl, rfl⟩
  have hi2 : i + 1 < s.size := by omega
  have t5 : decide ((i : Int) + 1 < s.size) = true := by simp; omega
  have t6 : ((s[i + 1].toNat : Int) == 0) = false := by
    rw [beq_eq_false_iff_ne]
    intro h1
    refine h6 ⟨by omega, ?_⟩
    rw [List.getElem?_eq_getElem (by omega)]
    exact congrArg some (UInt8.toNat_inj.1 (show s[i + 1].toNat = 0 by omega))
  by_cases hsh : s.size - (i + 1) < b
  · rw [if_pos (by omega)] at hg
    rw [hg]
    have t7 : decide ((s.size : Int) - i - 1 < s[i].toNat) = true := by simp; omega
    have HBE := Lib.hid hbe
    clear hg hl ei hbe hend h6
    go_enter Tryz.func102, Tryz.ntmps102
    go_wp2
    go_ret3
    exact ⟨rfl, rfl⟩
  rw [if_neg (by omega)] at hg
  rw [hg]
  have t7 : decide ((s.size : Int) - i - 1 < s[i].toNat) = false := by simp; omega
  have hfit : i + 1 + s[i].toNat ≤ s.size := by omega
  have HBE := Lib.hid hbe
  have HL := Lib.hid hl
  clear hg hl ei hbe hend h6 hsh
  go_enter Tryz.func102, Tryz.ntmps102
  go_wp2
  go_loop [8, 9] (fun v j => ∃ k : Nat, j = .int .i64 ((k + 1 : Nat) : Int) ∧ k ≤ s[i].toNat ∧ v = .int .u64 (vl ((s.data.toList.drop (i + 1)).take k) : Nat)) (fun _ j => s[i].toNat + 1 - (intOf j).toNat)
  case atStart => exact ⟨0, rfl, Nat.zero_le _, rfl⟩
  case round =>
    obtain ⟨k, rfl, hk, rfl⟩ := hrel
    by_cases hlt : k < s[i].toNat
    · have hks : i + (k + 1) < s.size := by omega
      have hst : vl ((s.data.toList.drop (i + 1)).take (k + 1)) = vl ((s.data.toList.drop (i + 1)).take k) * 256 + s[i + (k + 1)].toNat := by
        have hkl : k < (s.data.toList.drop (i + 1)).length := by rw [List.length_drop, HL.out]; omega
        rw [List.take_succ_eq_append_getElem hkl, vl_snoc, List.getElem_drop]
        show _ + s[i + 1 + k].toNat = _
        simp only [show i + 1 + k = i + (k + 1) from by omega]
      have hv := vl_small (s.data.toList.drop (i + 1)) k (by omega)
      have hbk2 := s[i + (k + 1)].toNat_lt
      have HST := Lib.hid hst
      clear hst
      go_wp2
      go_round
      case rel => exact ⟨k + 1, by go_num, by omega, by rw [HST.out]; go_num⟩
      case measure => simp [intOf]; omega
    · obtain rfl : k = s[i].toNat := by omega
      go_wp2
      go_ret3
      refine ⟨?_, rfl⟩
      rw [← HBE.out]
      rfl
end Go.Proofs.YthfanonjokpflaaGreat
set_option linter.unusedVariables false
set_option linter.unusedSimpArgs false
namespace Go.Proofs.YthfanonjokpflaaGreat
open Go Go.RowKit

/-- A reader's block. -/
def RB (w : World) (q : Nat) (s : ByteArray) (i : Nat) (e : Int) : Prop := w.heap[q]? = some (.cells #[.string s, .int .i64 i, .int .i64 e] 77 (0, 0))
theorem RB.cells {w : World} {q i : Nat} {s : ByteArray} {e : Int} (h : RB w q s i e) : w.cell? ⟨q, 0, none⟩ = some (.string s) ∧ w.cell? ⟨q, 1, none⟩ = some (.int .i64 i) ∧ w.cell? ⟨q, 2, none⟩ = some (.int .i64 e) := ⟨cell_at h rfl, cell_at h rfl, cell_at h rfl⟩
theorem RB.thaw {w : World} {q i : Nat} {s : ByteArray} {e : Int} (h : RB w q s i e) (j : Nat) : w.frozen? ⟨q, j, none⟩ = false := thawed_at h
theorem RB.lt {w : World} {q i : Nat} {s : ByteArray} {e : Int} (h : RB w q s i e) : q < w.heap.size := (Array.getElem?_eq_some_iff.1 h).1
theorem RB.put1 {w : World} {q i : Nat} {s : ByteArray} {e : Int} (h : RB w q s i e) (j : Nat) : RB (w.setCell ⟨q, 1, none⟩ (.int .i64 j)) q s j e := by
  have m := Joins.block_setCell (i := 1) h (.int .i64 (j : Int))
  simp only [List.setIfInBounds_toArray, List.set_cons_zero, List.set_cons_succ] at m
  exact m
theorem RB.put2 {w : World} {q i : Nat} {s : ByteArray} {e : Int} (h : RB w q s i e) (c : Int) : RB (w.setCell ⟨q, 2, none⟩ (.int .i64 c)) q s i c := by
  have m := Joins.block_setCell (i := 2) h (.int .i64 c)
  simp only [List.setIfInBounds_toArray, List.set_cons_zero, List.set_cons_succ] at m
  exact m
theorem RB.below {w w' : World} {q i : Nat} {s : ByteArray} {e : Int} (h : RB w q s i e) (hb : Below w.heap.size w w') : RB w' q s i e := (hb.block q h.lt).trans h
theorem RB.drew {w : World} {q i : Nat} {s : ByteArray} {e : Int} (h : RB w q s i e) : RB w.drew q s i e := h
abbrev KeptR (q : Nat) (w w' : World) : Prop := Kept (fun k => k = q) w w'
theorem KeptR.on {q : Nat} {w w' w'' : World} (h : KeptR q w w') (h' : KeptR q w' w'') : KeptR q w w'' := Kept.trans h h' fun _ h => Or.inl h
theorem sdl (s : ByteArray) : s.data.toList.length = s.size := rfl

theorem rwrong (q i : Nat) (e c : Int) (s : ByteArray) (w : World) (h : RB w q s i e) :
    Calls Tryz.prog 39 #[.pointer (some ⟨q, 0, none⟩), .int .i64 c] w fun x w' => x = .returned (.tuple #[]) ∧ RB w' q s i (if e = 0 then c else e) ∧ KeptR q w w' := by
  obtain ⟨_, _, _⟩ := h.cells
  have f2 := h.thaw 2
  have H := Lib.hid h
  clear h
  by_cases he : e = 0
  · subst he
    rw [if_pos rfl]
    go_enter Tryz.func39, Tryz.ntmps39
    go_wp2
    go_end0
    exact ⟨rfl, H.out.put2 c, Kept.setCell _ w _ _ rfl⟩
  · rw [if_neg he]
    have e0 : (e == 0) = false := by simp; exact he
    go_enter Tryz.func39, Tryz.ntmps39
    go_wp2
    go_end0
    exact ⟨rfl, H.out, Kept.refl _ _⟩
set_option maxHeartbeats 4000000 in
theorem rraw (q i : Nat) (e : Int) (s : ByteArray) (w : World) (h : RB w q s i e) (hi : i ≤ s.size) (hs : s.size ≤ 1000000000) :
    Calls Tryz.prog 83 #[.pointer (some ⟨q, 0, none⟩)] w fun x w' => ∃ (v j : Nat) (f : Int), x = .returned (.int .u64 v) ∧ v < 18446744073709551616 ∧ RB w' q s j f ∧ KeptR q w w' ∧ Went rawP s.data.toList i e v j f := by
  have hg := gnum_raw s.data.toList i (by rw [sdl]; exact hi)
  obtain ⟨_, _, _⟩ := h.cells
  have f1 := h.thaw 1
  have hc : ∀ w', Below w.heap.size w w' → w'.cell? ⟨q, 0, none⟩ = some (.string s) ∧ w'.cell? ⟨q, 1, none⟩ = some (.int .i64 i) ∧ w'.cell? ⟨q, 2, none⟩ = some (.int .i64 e) := fun w' hb => (h.below hb).cells
  have H := Lib.hid h; have HC := Lib.hid hc; have HI : Hid (i ≤ s.data.toList.length) := Lib.hid hi; have HS : Hid (s.size ≤ 70368744177664) := Lib.hid (by omega)
  clear h hc
  by_cases he : e = 0
  · subst he
    cases hr : rawP (s.data.toList.drop i) with
    | error c =>
      rw [hr] at hg
      have hc0 : c ≠ 0 := by rcases raw_errs hr with rfl | rfl <;> decide
      have e1 : (c == 0) = false := by simp; exact hc0
      have HGN : Hid (numV (gnum s.data.toList i) = .tuple #[.int .u64 0, .int .i64 0, .int .i64 c]) := Lib.hid (by rw [hg]; rfl)
      have HR := Lib.hid hr; have HC0 := Lib.hid hc0
      clear hg hr hi hs hc0
      go_enter Tryz.func83, Tryz.ntmps83
      go_wp2_with fail
      refine wp_region_held_drew (S := fun w' => Below w.heap.size w w') (by kernel_rfl) ?_ (fun hHeld => ?_)
      · exact (Below.refl _ _).drew
      refine takesH [0, 1, 2, 3, 4, 5, 6, 7] ?_
      repeat
        refine takesH_one (v := ?_) ?_ ?_
        rotate_left
        · first | (refine Or.inr ⟨by rfl, ?_⟩; with_reducible rfl) | (refine Or.inl ⟨by rfl, ?_⟩; intro wx hSw; (try dsimp only at hSw); first | (go_simp; first | done | with_reducible rfl) | (obtain ⟨_, _, _⟩ := HC.out _ hSw; go_simp; first | done | with_reducible rfl))
        try simp only [Act.put, List.getElem_toArray, List.getElem_cons_succ, List.getElem_cons_zero, List.setIfInBounds_toArray, List.set_cons_zero, List.set_cons_succ]
      refine takesH_nil ?_
      refine wpAnyH_ready (rs := [8]) (by kernel_rfl) (by simp) (AllReadyH.cons rfl (fun K hK => ?_) AllReadyH.nil)
      go_simp
      refine (rgetNum_any s i _ HS.out).mono ?_
      rintro x w1 ⟨rfl, hw1⟩
      rw [HGN.out]
      have hb1 : Below w.heap.size w w1 := by rw [← hw1]; exact hHeld
      clear hw1
      try go_wp2_with fail
      refine hK.out _ _ ?_ (fun hHeld => ?_)
      · exact hb1
      clear hK K
      try simp only [Act.put, List.getElem_toArray, List.getElem_cons_succ, List.getElem_cons_zero, List.setIfInBounds_toArray, List.set_cons_zero, List.set_cons_succ]
      refine takesH [9, 10, 11, 12, 13, 14, 15] ?_
      repeat
        refine takesH_one (v := ?_) ?_ ?_
        rotate_left
        · first | (refine Or.inr ⟨by rfl, ?_⟩; with_reducible rfl) | (refine Or.inl ⟨by rfl, ?_⟩; intro wx hSw; (try dsimp only at hSw); first | (go_simp; first | done | with_reducible rfl))
        try simp only [Act.put, List.getElem_toArray, List.getElem_cons_succ, List.getElem_cons_zero, List.setIfInBounds_toArray, List.set_cons_zero, List.set_cons_succ]
      refine takesH_nil ?_
      refine wpAnyH_done (by kernel_rfl) ?_ _
      have H1 := Lib.hid (H.out.below hHeld)
      have hk := Lib.hid (show KeptR q w w1 from Kept.of_below hHeld _)
      clear hHeld hb1
      go_wp2_with fail
      refine (rwrong q i 0 c s _ H1.out).mono ?_
      rintro x w2 ⟨rfl, h2, k2⟩
      rw [if_pos rfl] at h2
      have H2 := Lib.hid h2; have K2 := Lib.hid k2
      clear h2 k2
      go_wp2
      go_ret
      have hw := Went.wrong (e := 0) (p := rawP) (0 : Nat) c HC0.out HI.out fun _ => HR.out
      rw [if_pos rfl] at hw
      exact ⟨0, i, c, rfl, by omega, H2.out, hk.out.on K2.out, hw⟩
    | ok z =>
      obtain ⟨v, r⟩ := z
      rw [hr] at hg
      have hv := (raw_canon hr).2
      obtain ⟨j, hj⟩ : ∃ j, s.data.toList.length - r.length = j := ⟨_, rfl⟩
      have hat := raw_at hi hr
      dsimp only at hg
      rw [hj] at hg hat
      have HGN : Hid (numV (gnum s.data.toList i) = .tuple #[.int .u64 (v : Nat), .int .i64 (j : Nat), .int .i64 0]) := Lib.hid (by rw [hg]; rfl)
      have HW : Hid (Went rawP s.data.toList i 0 v j 0) := Lib.hid ⟨fun _ => hat.1, hat.2.1, fun h => absurd rfl h, fun _ _ => by rw [hr, ← hat.2.2], fun _ h => absurd rfl h⟩
      have HV := Lib.hid hv
      clear hg hr hj hat hi hs hv
      go_enter Tryz.func83, Tryz.ntmps83
      go_wp2_with fail
      refine wp_region_held_drew (S := fun w' => Below w.heap.size w w') (by kernel_rfl) ?_ (fun hHeld => ?_)
      · exact (Below.refl _ _).drew
      refine takesH [0, 1, 2, 3, 4, 5, 6, 7] ?_
      repeat
        refine takesH_one (v := ?_) ?_ ?_
        rotate_left
        · first | (refine Or.inr ⟨by rfl, ?_⟩; with_reducible rfl) | (refine Or.inl ⟨by rfl, ?_⟩; intro wx hSw; (try dsimp only at hSw); first | (go_simp; first | done | with_reducible rfl) | (obtain ⟨_, _, _⟩ := HC.out _ hSw; go_simp; first | done | with_reducible rfl))
        try simp only [Act.put, List.getElem_toArray, List.getElem_cons_succ, List.getElem_cons_zero, List.setIfInBounds_toArray, List.set_cons_zero, List.set_cons_succ]
      refine takesH_nil ?_
      refine wpAnyH_ready (rs := [8]) (by kernel_rfl) (by simp) (AllReadyH.cons rfl (fun K hK => ?_) AllReadyH.nil)
      go_simp
      refine (rgetNum_any s i _ HS.out).mono ?_
      rintro x w1 ⟨rfl, hw1⟩
      rw [HGN.out]
      have hb1 : Below w.heap.size w w1 := by rw [← hw1]; exact hHeld
      clear hw1
      try go_wp2_with fail
      refine hK.out _ _ ?_ (fun hHeld => ?_)
      · exact hb1
      clear hK K
      try simp only [Act.put, List.getElem_toArray, List.getElem_cons_succ, List.getElem_cons_zero, List.setIfInBounds_toArray, List.set_cons_zero, List.set_cons_succ]
      refine takesH [9, 10, 11, 12, 13, 14, 15] ?_
      repeat
        refine takesH_one (v := ?_) ?_ ?_
        rotate_left
        · first | (refine Or.inr ⟨by rfl, ?_⟩; with_reducible rfl) | (refine Or.inl ⟨by rfl, ?_⟩; intro wx hSw; (try dsimp only at hSw); first | (go_simp; first | done | with_reducible rfl))
        try simp only [Act.put, List.getElem_toArray, List.getElem_cons_succ, List.getElem_cons_zero, List.setIfInBounds_toArray, List.set_cons_zero, List.set_cons_succ]
      refine takesH_nil ?_
      refine wpAnyH_done (by kernel_rfl) ?_ _
      have h1 := H.out.below hHeld
      obtain ⟨_, _, _⟩ := h1.cells
      have f1 := h1.thaw 1
      have H1 := Lib.hid h1
      have hk := Lib.hid (show KeptR q w w1 from Kept.of_below hHeld _)
      clear hHeld hb1 h1
      go_wp2
      go_ret
      exact ⟨v, j, 0, rfl, HV.out, H1.out.put1 j, hk.out.on (Kept.setCell _ w1 _ _ rfl), HW.out⟩
  · have e0 : (e == 0) = false := by simp; exact he
    have HE := Lib.hid he
    clear hg hi hs he
    go_enter Tryz.func83, Tryz.ntmps83
    go_wp2
    go_ret
    exact ⟨0, i, e, rfl, by omega, H.out, Kept.refl _ _, Went.off 0 HE.out (Nat.le_refl _) HI.out⟩
set_option maxHeartbeats 4000000 in
theorem rnumR (q i : Nat) (e : Int) (s : ByteArray) (w : World) (h : RB w q s i e) (hi : i ≤ s.size) (hs : s.size ≤ 1000000000) :
    Calls Tryz.prog 44 #[.pointer (some ⟨q, 0, none⟩)] w fun x w' => ∃ (v : Int) (j : Nat) (f : Int), x = .returned (.int .i64 v) ∧ Stm v ∧ RB w' q s j f ∧ KeptR q w w' ∧ Went numP s.data.toList i e v j f := by
  go_enter Tryz.func44, Tryz.ntmps44
  go_wp2_with fail
  refine (rraw q i e s w h hi hs).mono ?_
  rintro x w1 ⟨v, j, f, rfl, hv, h1, k1, hw⟩
  by_cases hb : 1099511627776 < v
  · have d1 : decide ((1099511627776 : Int) < (v : Int)) = true := by simp; omega
    have d2 : decide (1099511627776 < v) = true := by simp; omega
    have hw2 : Went numP s.data.toList i e (0 : Int) j (if f = 0 then 6 else f) := by
      refine hw.bind (Went.wrong (0 : Int) 6 (by decide) hw.len fun _ => ?_)
      rw [if_pos hb]
    have HW := Lib.hid hw2; have H1 := Lib.hid h1; have K1 := Lib.hid k1
    clear hw hw2 h1 k1 h hi hs
    go_wp2_with fail
    refine (rwrong q j f 6 s _ H1.out).mono ?_
    rintro x w2 ⟨rfl, h2, k2⟩
    have H2 := Lib.hid h2; have K2 := Lib.hid k2
    clear h2 k2
    go_wp2
    go_ret
    exact ⟨0, j, _, rfl, ⟨by omega, by omega⟩, H2.out, K1.out.on K2.out, HW.out⟩
  · have d1 : decide ((1099511627776 : Int) < (v : Int)) = false := by simp; omega
    have d2 : decide (1099511627776 < v) = false := by simp; omega
    have hc : IntKind.i64.wrap (v : Int) = (v : Int) := by rw [IntKind.wrap_i64]; omega
    have hw2 : Went numP s.data.toList i e (v : Int) j f := by
      have h3 := hw.bind (q := fun (v : Nat) (l : Bs) => if 1099511627776 < v then (.error 6 : Except Int (Int × Bs)) else .ok ((v : Int), l)) (y := (v : Int)) (k := j) (g := f) ⟨fun _ => Nat.le_refl _, hw.len, fun _ => rfl, fun _ _ => if_neg hb, fun h h' => absurd h h'⟩
      exact h3
    have HW := Lib.hid hw2; have H1 := Lib.hid h1; have K1 := Lib.hid k1
    clear hw hw2 h1 k1 h hi hs
    go_wp2
    go_ret
    exact ⟨v, j, f, rfl, ⟨by omega, by omega⟩, H1.out, K1.out, HW.out⟩
end Go.Proofs.YthfanonjokpflaaGreat
set_option linter.unusedVariables false
set_option linter.unusedSimpArgs false
namespace Go.Proofs.YthfanonjokpflaaGreat
open Go Go.RowKit

theorem slS (s : ByteArray) (i j : Int) (a b : Nat) (ei : i = (a : Nat)) (ej : j = (b : Nat)) (h1 : a ≤ b) (h2 : b ≤ s.size) (wx : World) :
    (Instr.slice 9 (.string s) (some (.int .i64 i)) (some (.int .i64 j)) none).run Tryz.prog wx = .ok (.string (s.extract a b)) wx := by
  subst ei
  subst ej
  rw [run_slice_string_if (P := Tryz.prog) (h := Tryz.underlying9), if_pos (by omega), if_pos (by omega), Int.toNat_natCast, Int.toNat_natCast]
theorem ext_bs (s : ByteArray) (a n : Nat) : s.extract a (a + n) = bs ((s.data.toList.drop a).take n) := bs_of (by simp)
set_option maxHeartbeats 4000000 in
theorem rcount (q i : Nat) (e : Int) (s : ByteArray) (w : World) (h : RB w q s i e) (hi : i ≤ s.size) (hs : s.size ≤ 1000000000) :
    Calls Tryz.prog 43 #[.pointer (some ⟨q, 0, none⟩)] w fun x w' => ∃ (v j : Nat) (f : Int), x = .returned (.int .i64 v) ∧ v ≤ s.size - j ∧ RB w' q s j f ∧ KeptR q w w' ∧ Went cntP s.data.toList i e v j f := by
  go_enter Tryz.func43, Tryz.ntmps43
  go_wp2_with fail
  refine (rraw q i e s w h hi hs).mono ?_
  rintro x w1 ⟨v, j, f, rfl, hv, h1, k1, hw⟩
  have hj : j ≤ s.size := hw.len
  obtain ⟨m, hm⟩ : ∃ m, j + m = s.size := ⟨s.size - j, by omega⟩
  have hdl : (s.data.toList.drop j).length = m := by rw [List.length_drop, sdl]; omega
  have x1 : IntKind.i64.wrap ((s.size : Int) - (j : Int)) = (m : Int) := by rw [IntKind.wrap_i64]; omega
  have x2 : IntKind.u64.wrap (m : Int) = (m : Int) := by rw [IntKind.wrap_u64]; omega
  have hc : ∀ w', Below w1.heap.size w1 w' → w'.cell? ⟨q, 0, none⟩ = some (.string s) ∧ w'.cell? ⟨q, 1, none⟩ = some (.int .i64 j) ∧ w'.cell? ⟨q, 2, none⟩ = some (.int .i64 f) := fun w' hb => (h1.below hb).cells
  have HC := Lib.hid hc; have H1 := Lib.hid h1; have K1 := Lib.hid k1; have HM := Lib.hid hm
  by_cases hb : m < v
  · have d1 : decide ((m : Int) < (v : Int)) = true := by simp; omega
    have d2 : decide (m < v) = true := by simp; omega
    have hw2 : Went cntP s.data.toList i e (0 : Nat) j (if f = 0 then 8 else f) := by
      refine hw.bind (Went.wrong (0 : Nat) 8 (by decide) hw.len fun _ => ?_)
      rw [hdl, if_pos hb]
    have HW := Lib.hid hw2
    clear hw hw2 h1 k1 h hi hs hc hm hdl hj hb
    go_wp2_with fail
    refine wp_region_held_drew (S := fun w' => Below w1.heap.size w1 w') (by kernel_rfl) ?_ (fun hHeld => ?_)
    · exact (Below.refl _ _).drew
    refine takesH [0, 1, 2, 3, 4, 5, 6, 7, 8, 9, 10, 11, 12] ?_
    repeat
      refine takesH_one (v := ?_) ?_ ?_
      rotate_left
      · first | (refine Or.inr ⟨by rfl, ?_⟩; with_reducible rfl) | (refine Or.inl ⟨by rfl, ?_⟩; intro wx hSw; (try dsimp only at hSw); first | (go_simp; first | done | with_reducible rfl) | (obtain ⟨_, _, _⟩ := HC.out _ hSw; go_simp; first | done | with_reducible rfl))
      try simp only [Act.put, List.getElem_toArray, List.getElem_cons_succ, List.getElem_cons_zero, List.setIfInBounds_toArray, List.set_cons_zero, List.set_cons_succ]
    refine takesH_nil ?_
    refine wpAnyH_done (by kernel_rfl) ?_ _
    have H2 := Lib.hid (H1.out.below hHeld)
    have K2 := Lib.hid (K1.out.on (show KeptR q w1 w1.drew from Kept.of_below hHeld _))
    clear hHeld
    go_wp2_with fail
    refine (rwrong q j f 8 s _ H2.out).mono ?_
    rintro x w2 ⟨rfl, h3, k3⟩
    have H3 := Lib.hid h3; have K3 := Lib.hid k3
    clear h3 k3
    go_wp2
    go_ret
    exact ⟨0, j, _, rfl, Nat.zero_le _, H3.out, K2.out.on K3.out, HW.out⟩
  · have d1 : decide ((m : Int) < (v : Int)) = false := by simp; omega
    have d2 : decide (m < v) = false := by simp; omega
    have x3 : IntKind.i64.wrap (v : Int) = (v : Int) := by rw [IntKind.wrap_i64]; omega
    have hw2 : Went cntP s.data.toList i e v j f := by
      have h3 := hw.bind (q := fun (v : Nat) (l : Bs) => if l.length < v then (.error 8 : Except Int (Nat × Bs)) else .ok (v, l)) (y := v) (k := j) (g := f) ⟨fun _ => Nat.le_refl _, hw.len, fun _ => rfl, fun _ _ => by rw [hdl]; exact if_neg hb, fun h h' => absurd h h'⟩
      exact h3
    have HW := Lib.hid hw2
    have HV : Hid (v ≤ s.size - j) := Lib.hid (by omega)
    clear hw hw2 h1 k1 h hi hs hc hm hdl hj hb
    go_wp2_with fail
    refine wp_region_held_drew (S := fun w' => Below w1.heap.size w1 w') (by kernel_rfl) ?_ (fun hHeld => ?_)
    · exact (Below.refl _ _).drew
    refine takesH [0, 1, 2, 3, 4, 5, 6, 7, 8, 9, 10, 11, 12] ?_
    repeat
      refine takesH_one (v := ?_) ?_ ?_
      rotate_left
      · first | (refine Or.inr ⟨by rfl, ?_⟩; with_reducible rfl) | (refine Or.inl ⟨by rfl, ?_⟩; intro wx hSw; (try dsimp only at hSw); first | (go_simp; first | done | with_reducible rfl) | (obtain ⟨_, _, _⟩ := HC.out _ hSw; go_simp; first | done | with_reducible rfl))
      try simp only [Act.put, List.getElem_toArray, List.getElem_cons_succ, List.getElem_cons_zero, List.setIfInBounds_toArray, List.set_cons_zero, List.set_cons_succ]
    refine takesH_nil ?_
    refine wpAnyH_done (by kernel_rfl) ?_ _
    have H2 := Lib.hid (H1.out.below hHeld)
    have K2 := Lib.hid (K1.out.on (show KeptR q w1 w1.drew from Kept.of_below hHeld _))
    clear hHeld
    go_wp2
    go_ret
    exact ⟨v, j, f, rfl, HV.out, H2.out, K2.out, HW.out⟩
set_option maxHeartbeats 4000000 in
theorem rtextR (q i : Nat) (e : Int) (s : ByteArray) (w : World) (h : RB w q s i e) (hi : i ≤ s.size) (hs : s.size ≤ 1000000000) :
    Calls Tryz.prog 45 #[.pointer (some ⟨q, 0, none⟩)] w fun x w' => ∃ (v : ByteArray) (j : Nat) (f : Int), x = .returned (.string v) ∧ v.size ≤ s.size ∧ RB w' q s j f ∧ KeptR q w w' ∧ Went txtP s.data.toList i e v j f := by
  go_enter Tryz.func45, Tryz.ntmps45
  go_wp2_with fail
  refine (rcount q i e s w h hi hs).mono ?_
  rintro x w1 ⟨v, j, f, rfl, hv, h1, k1, hw⟩
  have hj : j ≤ s.size := hw.len
  have hc : ∀ w', Below w1.heap.size w1 w' → w'.cell? ⟨q, 0, none⟩ = some (.string s) ∧ w'.cell? ⟨q, 1, none⟩ = some (.int .i64 j) ∧ w'.cell? ⟨q, 2, none⟩ = some (.int .i64 f) := fun w' hb => (h1.below hb).cells
  obtain ⟨_, _, _⟩ := h1.cells
  have HC := Lib.hid hc; have H1 := Lib.hid h1; have K1 := Lib.hid k1
  by_cases hf : f = 0
  · subst hf
    have x1 : IntKind.i64.wrap ((j : Int) + (v : Int)) = (j : Int) + (v : Int) := by rw [IntKind.wrap_i64]; omega
    have hsl := fun wx => slS s (j : Int) ((j : Int) + (v : Int)) j (j + v) rfl (by omega) (by omega) (by omega) wx
    obtain ⟨T, hT⟩ : ∃ T, s.extract j (j + v) = T := ⟨_, rfl⟩
    simp only [hT] at hsl
    rw [ext_bs] at hT
    have hw1 : Went bodyP s.data.toList i e ((s.data.toList.drop j).take v) (j + v) 0 := by
      have h3 := hw.bind (q := fun (n : Nat) (l : Bs) => (.ok (l.take n, l.drop n) : Except Int (Bs × Bs))) (y := (s.data.toList.drop j).take v) (k := j + v) (g := 0) ⟨fun _ => by omega, by rw [sdl]; omega, fun h => absurd rfl h, fun _ _ => by rw [List.drop_drop], fun _ h => absurd rfl h⟩
      exact h3
    have hw2 : Went txtP s.data.toList i e T (j + v) 0 := by rw [← hT]; exact hw1.map (q := fun b => (⟨b.toArray⟩ : ByteArray))
    have hts : T.size ≤ s.size := by rw [← hT, bs_size, List.length_take, List.length_drop, sdl]; omega
    have HW := Lib.hid hw2; have HTS := Lib.hid hts
    have D1 := Lib.hid (show (j : Int) + (v : Int) = ((j + v : Nat) : Int) by omega)
    clear hw hw1 hw2 h1 k1 h hi hs hc hT hts
    go_wp2_with fail
    refine wp_region_held_drew (S := fun w' => Below w1.heap.size w1 w') (by kernel_rfl) ?_ (fun hHeld => ?_)
    · exact (Below.refl _ _).drew
    refine takesH [0, 1, 2, 3, 4, 5, 6, 7, 8, 9, 10, 11, 12, 13, 14, 15] ?_
    repeat
      refine takesH_one (v := ?_) ?_ ?_
      rotate_left
      · first | (refine Or.inr ⟨by rfl, ?_⟩; with_reducible rfl) | (refine Or.inl ⟨by rfl, ?_⟩; intro wx hSw; (try dsimp only at hSw); first | (go_simp; first | done | with_reducible rfl) | (obtain ⟨_, _, _⟩ := HC.out _ hSw; go_simp; first | done | with_reducible rfl))
      try simp only [Act.put, List.getElem_toArray, List.getElem_cons_succ, List.getElem_cons_zero, List.setIfInBounds_toArray, List.set_cons_zero, List.set_cons_succ]
    refine takesH_nil ?_
    refine wpAnyH_done (by kernel_rfl) ?_ _
    have h2 := H1.out.below hHeld
    obtain ⟨_, _, _⟩ := h2.cells
    have f1 := h2.thaw 1
    have H2 := Lib.hid h2
    have K2 := Lib.hid (K1.out.on (show KeptR q w1 w1.drew from Kept.of_below hHeld _))
    clear hHeld h2
    go_wp2
    go_ret
    exact ⟨T, j + v, 0, rfl, HTS.out, (D1.out ▸ H2.out.put1 (j + v) : RB (w1.drew.setCell ⟨q, 1, none⟩ (.int .i64 ((j : Int) + (v : Int)))) q s (j + v) 0), K2.out.on (Kept.setCell _ _ _ _ rfl), HW.out⟩
  · have e0 : (f == 0) = false := by simp; exact hf
    have hw1 : Went bodyP s.data.toList i e [] j f := hw.bind (Went.off [] hf (Nat.le_refl _) hw.len)
    have hw2 : Went txtP s.data.toList i e (⟨#[]⟩ : ByteArray) j f := hw1.map (q := bs)
    have HW := Lib.hid hw2
    clear hw hw1 hw2 h1 k1 h hi hs hc hf
    go_wp2
    go_ret
    exact ⟨⟨#[]⟩, j, f, rfl, Nat.zero_le _, H1.out, K1.out, HW.out⟩
end Go.Proofs.YthfanonjokpflaaGreat
set_option linter.unusedVariables false
set_option linter.unusedSimpArgs false
namespace Go.Proofs.YthfanonjokpflaaGreat
open Go Go.RowKit

theorem Went.skip {α : Type} {p : Pz α} {q : Pz α} {l : Bs} {i k : Nat} {f : Int} {x : α} (h : Went q l (i + 1) 0 x k f) (hp : p (l.drop i) = q (l.drop (i + 1))) : Went p l i 0 x k f :=
  ⟨fun e => Nat.le_of_succ_le (h.le e), h.len, fun h => absurd rfl h, fun a b => hp.trans (h.ok a b), fun a b => hp.trans (h.no a b)⟩
theorem set4c_block {w : World} {q : Nat} {v0 v1 v2 v3 : Value} (h : w.heap[q]? = some (.cells #[v0, v1, v2, v3] 54 (0, 0))) (u0 u1 u2 u3 : Value) :
    ((((w.setCell ⟨q, 0, none⟩ u0).setCell ⟨q, 1, none⟩ u1).setCell ⟨q, 2, none⟩ u2).setCell ⟨q, 3, none⟩ u3).heap[q]? = some (.cells #[u0, u1, u2, u3] 54 (0, 0)) := by
  have m := Joins.block_setCell (i := 0) h u0
  simp only [List.setIfInBounds_toArray, List.set_cons_zero, List.set_cons_succ] at m
  have m1 := Joins.block_setCell (i := 1) m u1
  simp only [List.setIfInBounds_toArray, List.set_cons_zero, List.set_cons_succ] at m1
  have m2 := Joins.block_setCell (i := 2) m1 u2
  simp only [List.setIfInBounds_toArray, List.set_cons_zero, List.set_cons_succ] at m2
  have m3 := Joins.block_setCell (i := 3) m2 u3
  simp only [List.setIfInBounds_toArray, List.set_cons_zero, List.set_cons_succ] at m3
  exact m3
theorem one4c {w : World} {q : Nat} {v0 v1 v2 v3 : Value} (h : w.heap[q]? = some (.cells #[v0, v1, v2, v3] 54 (0, 0))) (u : Value) :
    (w.setCell ⟨q, 0, none⟩ u).heap[q]? = some (.cells #[u, v1, v2, v3] 54 (0, 0)) ∧ (w.setCell ⟨q, 1, none⟩ u).heap[q]? = some (.cells #[v0, u, v2, v3] 54 (0, 0)) ∧ (w.setCell ⟨q, 3, none⟩ u).heap[q]? = some (.cells #[v0, v1, v2, u] 54 (0, 0)) := by
  have m := Joins.block_setCell (i := 0) h u
  have m1 := Joins.block_setCell (i := 1) h u
  have m3 := Joins.block_setCell (i := 3) h u
  simp only [List.setIfInBounds_toArray, List.set_cons_zero, List.set_cons_succ] at m m1 m3
  exact ⟨m, m1, m3⟩
theorem kept_set4c {w : World} (q : Nat) (u0 u1 u2 u3 : Value) : Kept (fun k => k = q) w ((((w.setCell ⟨q, 0, none⟩ u0).setCell ⟨q, 1, none⟩ u1).setCell ⟨q, 2, none⟩ u2).setCell ⟨q, 3, none⟩ u3) :=
  (((Kept.setCell (fun k => k = q) w ⟨q, 0, none⟩ u0 rfl).trans (Kept.setCell (fun k => k = q) _ ⟨q, 1, none⟩ u1 rfl) fun _ h => Or.inl h).trans (Kept.setCell (fun k => k = q) _ ⟨q, 2, none⟩ u2 rfl) fun _ h => Or.inl h).trans (Kept.setCell (fun k => k = q) _ ⟨q, 3, none⟩ u3 rfl) fun _ h => Or.inl h
/-- A block of the call's own written. -/
theorem KeptR.own {q p : Nat} {w w1 w2 : World} (h : KeptR q w w1) (h' : Kept (fun k => k = p) w1 w2) (hp : w.heap.size ≤ p) : KeptR q w w2 := Kept.trans h h' fun k hk => Or.inr (by subst hk; exact hp)
theorem KeptR.new {q : Nat} {w w1 w2 : World} (h : KeptR q w w1) (h' : Below w1.heap.size w1 w2) : KeptR q w w2 := h.on (Kept.of_below h' _)
theorem Kept.at {F : Nat → Prop} {w w' : World} {k : Nat} {o : Obj} (h : Kept F w w') (hk : w.heap[k]? = some o) (hf : ¬ F k) : w'.heap[k]? = some o := (h.block k (Array.getElem?_eq_some_iff.1 hk).1 hf).trans hk
set_option maxRecDepth 8000 in
set_option maxHeartbeats 8000000 in
theorem rcellR (q i : Nat) (e : Int) (s : ByteArray) (w : World) (h : RB w q s i e) (hi : i ≤ s.size) (hs : s.size ≤ 100000000) :
    Calls Tryz.prog 100 #[.pointer (some ⟨q, 0, none⟩)] w fun x w' => ∃ (c : Ce) (j : Nat) (f : Int), x = .returned (.agg #[.string c.s, .bool c.d, .int .i64 c.a, .int .i64 c.e]) ∧ c.s.size ≤ s.size ∧ RB w' q s j f ∧ KeptR q w w' ∧ Went cellP s.data.toList i e c j f := by
  have hqw := h.lt
  have bz := (Below.refl w.heap.size w).alloc (Nat.le_refl _) (.cells #[.string ⟨#[]⟩, .bool false, .int .i64 0, .int .i64 0] 54)
  have hz := heap_alloc_new w (.cells #[.string ⟨#[]⟩, .bool false, .int .i64 0, .int .i64 0] 54)
  have h0 := h.below bz
  obtain ⟨V, hV⟩ : ∃ V, V = w.alloc (.cells #[.string ⟨#[]⟩, .bool false, .int .i64 0, .int .i64 0] 54) := ⟨_, rfl⟩
  have hVs : V.heap.size = w.heap.size + 1 := by rw [hV]; simp
  rw [← hV] at bz hz h0
  have H0 := Lib.hid h0; have HZ0 := Lib.hid hz; have BZ := Lib.hid bz; have HVS := Lib.hid hVs; have HQ := Lib.hid hqw
  clear h bz hz h0 hVs hqw
  go_enter Tryz.func100, Tryz.ntmps100
  go_wp2_with fail
  rw [← hV]
  clear hV
  refine (rnumR q i e s _ H0.out hi (by omega)).mono ?_
  rintro x w1 ⟨a, j, f, rfl, ha, h1, k1, hw⟩
  have hw1s : V.heap.size ≤ w1.heap.size := k1.size
  have hz1 := Kept.at k1 HZ0.out (by have := HQ.out; omega)
  have ba := (Below.refl w1.heap.size w1).alloc (Nat.le_refl _) (.cells #[.string ⟨#[]⟩, .bool false, .int .i64 a, .int .i64 0] 54)
  have hpu := heap_alloc_new w1 (.cells #[.string ⟨#[]⟩, .bool false, .int .i64 a, .int .i64 0] 54)
  have hzu := (ba.block w.heap.size (by have := HVS.out; omega)).trans hz1
  have hru := h1.below ba
  have hku : KeptR q w (w1.alloc (.cells #[.string ⟨#[]⟩, .bool false, .int .i64 a, .int .i64 0] 54)) := KeptR.new (KeptR.on (Kept.of_below BZ.out _) k1) ba
  have hus : (w1.alloc (.cells #[.string ⟨#[]⟩, .bool false, .int .i64 a, .int .i64 0] 54)).heap.size = w1.heap.size + 1 := by simp
  obtain ⟨_, _, _⟩ := hru.cells
  have l2 := cell_at (i := 2) hpu rfl
  have hj : j ≤ s.size := hw.len
  have HSZ : Hid ((⟨#[]⟩ : ByteArray).size ≤ s.size) := Lib.hid (Nat.zero_le _)
  by_cases hf : f = 0
  · subst hf
    by_cases ha0 : a = 0
    · have e1 : (a == 0) = true := by rw [ha0]; rfl
      have hw2 : Went cellP s.data.toList i e (⟨⟨#[]⟩, false, a, 0⟩ : Ce) j 0 := hw.bind ((Went.ret (⟨⟨#[]⟩, false, a, 0⟩ : Ce) hw.len 0).same fun _ => by rw [ha0]; rfl)
      have HW := Lib.hid hw2; have HP := Lib.hid hpu; have HZ := Lib.hid hzu; have HRB := Lib.hid hru; have HK := Lib.hid hku
      clear hw hw2 hpu hzu hru hku hus h1 k1 hz1 ba hi hs hw1s ha0
      have k0 := cell_at (i := 0) HP.out rfl
      have k1 := cell_at (i := 1) HP.out rfl
      have k2 := cell_at (i := 2) HP.out rfl
      have k3 := cell_at (i := 3) HP.out rfl
      have z0 := cell_at (i := 0) HZ.out rfl
      have z1 := cell_at (i := 1) HZ.out rfl
      have z2 := cell_at (i := 2) HZ.out rfl
      have z3 := cell_at (i := 3) HZ.out rfl
      have y0 := thawed_at (i := 0) HZ.out
      have y1 := thawed_at (i := 1) HZ.out
      have y2 := thawed_at (i := 2) HZ.out
      have y3 := thawed_at (i := 3) HZ.out
      have m9 := set4c_block HZ.out (.string (⟨#[]⟩ : ByteArray)) (.bool false) (.int .i64 a) (.int .i64 0)
      have n9 := kept_set4c (w := (w1.alloc (.cells #[.string ⟨#[]⟩, .bool false, .int .i64 a, .int .i64 0] 54))) w.heap.size (.string (⟨#[]⟩ : ByteArray)) (.bool false) (.int .i64 a) (.int .i64 0)
      have K9 := Lib.hid (HK.out.own n9 (Nat.le_refl _))
      have R9 := Lib.hid (show RB _ q s _ _ from Kept.at n9 HRB.out (by have := HQ.out; omega))
      clear n9
      go_wp2
      generalize (((World.setCell (w1.alloc (.cells #[.string ⟨#[]⟩, .bool false, .int .i64 a, .int .i64 0] 54)) ⟨w.heap.size, 0, none⟩ (.string (⟨#[]⟩ : ByteArray))).setCell ⟨w.heap.size, 1, none⟩ (.bool false)).setCell ⟨w.heap.size, 2, none⟩ (.int .i64 a)).setCell ⟨w.heap.size, 3, none⟩ (.int .i64 0) = w9 at m9 K9 R9 ⊢
      clear z0 z1 z2 z3 y0 y1 y2 y3 k0 k1 k2 k3
      have q0 := cell_at (i := 0) m9 rfl
      have q1 := cell_at (i := 1) m9 rfl
      have q2 := cell_at (i := 2) m9 rfl
      have q3 := cell_at (i := 3) m9 rfl
      refine bodyPost_ret (v := .agg #[.string (⟨#[]⟩ : ByteArray), .bool false, .int .i64 a, .int .i64 0]) ?_ rfl ?_
      · simp [results, Tryz.results100, go_sem, q0, q1, q2, q3]
      · exact ⟨⟨(⟨#[]⟩ : ByteArray), false, a, 0⟩, _, _, rfl, HSZ.out, R9.out, K9.out, HW.out⟩
    · have e1 : (a == 0) = false := by simp; exact ha0
      obtain ⟨U, hU⟩ : ∃ U, U = w1.alloc (.cells #[.string ⟨#[]⟩, .bool false, .int .i64 a, .int .i64 0] 54) := ⟨_, rfl⟩
      have hpu' := hpu; have hzu' := hzu; have hru' := hru; have hku' := hku; have hus' := hus
      rw [← hU] at hpu' hzu' hru' hku' hus'
      have hc : ∀ w', Below U.heap.size U w' → w'.cell? ⟨q, 0, none⟩ = some (.string s) ∧ w'.cell? ⟨q, 1, none⟩ = some (.int .i64 j) ∧ w'.cell? ⟨q, 2, none⟩ = some (.int .i64 0) := fun w' hb => (hru'.below hb).cells
      have HC := Lib.hid hc; have HPU := Lib.hid hpu'; have HZU := Lib.hid hzu'; have HRU := Lib.hid hru'; have HKU := Lib.hid hku'; have HUS := Lib.hid hus'; have HWN := Lib.hid hw; have HA := Lib.hid ha
      have HS8 := Lib.hid hs
      have HWQ : Hid (w.heap.size < w1.heap.size ∧ q < w1.heap.size) := Lib.hid ⟨by have := HVS.out; omega, h1.lt⟩
      clear hw hpu hzu hru hku hus h1 k1 hz1 ba hi hw1s hpu' hzu' hru' hku' hus' hc ha
      by_cases hend : s.size ≤ j
      · have d1 : decide ((s.size : Int) ≤ (j : Int)) = true := by simp; omega
        have d2 : decide (s.size ≤ j) = true := by simp; omega
        have hw2 : Went cellP s.data.toList i e (⟨⟨#[]⟩, false, a, 0⟩ : Ce) j 8 := by
          have h3 := Went.wrong (e := 0) (p := tailP a) (l := s.data.toList) (⟨⟨#[]⟩, false, a, 0⟩ : Ce) 8 (by decide) HWN.out.len fun _ => by
            unfold tailP
            rw [if_neg ha0, List.drop_of_length_le (by rw [sdl]; exact hend)]
          rw [if_pos rfl] at h3
          exact HWN.out.bind h3
        have HW := Lib.hid hw2
        clear hw2 hend ha0 hs
        go_wp2_with fail
        rw [← hU]
        clear hU
        go_wp2_with fail
        refine wp_region_held_drew (S := fun w' => Below U.heap.size U w') (by kernel_rfl) ?_ (fun hHeld => ?_)
        · exact (Below.refl _ _).drew
        refine takesH [0, 1, 2, 3, 4, 5, 6, 7, 8, 9] ?_
        repeat
          refine takesH_one (v := ?_) ?_ ?_
          rotate_left
          · first | (refine Or.inr ⟨by rfl, ?_⟩; with_reducible rfl) | (refine Or.inl ⟨by rfl, ?_⟩; intro wx hSw; (try dsimp only at hSw); first | (go_simp; first | done | with_reducible rfl) | (obtain ⟨_, _, _⟩ := HC.out _ hSw; go_simp; first | done | with_reducible rfl))
          try simp only [Act.put, List.getElem_toArray, List.getElem_cons_succ, List.getElem_cons_zero, List.setIfInBounds_toArray, List.set_cons_zero, List.set_cons_succ]
        refine takesH_nil ?_
        refine wpAnyH_done (by kernel_rfl) ?_ _
        have H3 := Lib.hid (HRU.out.below hHeld)
        have HB3 := Lib.hid hHeld
        clear hHeld
        go_wp2_with fail
        refine (rwrong q j 0 8 s _ H3.out).mono ?_
        rintro x w2 ⟨rfl, h4, k4⟩
        rw [if_pos rfl] at h4
        have HP := Lib.hid (Kept.at k4 ((HB3.out.block w1.heap.size (by have := HUS.out; omega)).trans HPU.out) (by have := HWQ.out; omega))
        have HZ := Lib.hid (Kept.at k4 ((HB3.out.block w.heap.size (by have := HUS.out; have := HWQ.out; omega)).trans HZU.out) (by have := HQ.out; omega))
        have HRB := Lib.hid h4; have HK := Lib.hid ((HKU.out.new HB3.out).on k4)
        clear h4 k4
        have k0 := cell_at (i := 0) HP.out rfl
        have k1 := cell_at (i := 1) HP.out rfl
        have k2 := cell_at (i := 2) HP.out rfl
        have k3 := cell_at (i := 3) HP.out rfl
        have z0 := cell_at (i := 0) HZ.out rfl
        have z1 := cell_at (i := 1) HZ.out rfl
        have z2 := cell_at (i := 2) HZ.out rfl
        have z3 := cell_at (i := 3) HZ.out rfl
        have y0 := thawed_at (i := 0) HZ.out
        have y1 := thawed_at (i := 1) HZ.out
        have y2 := thawed_at (i := 2) HZ.out
        have y3 := thawed_at (i := 3) HZ.out
        have m9 := set4c_block HZ.out (.string (⟨#[]⟩ : ByteArray)) (.bool false) (.int .i64 a) (.int .i64 0)
        have n9 := kept_set4c (w := w2) w.heap.size (.string (⟨#[]⟩ : ByteArray)) (.bool false) (.int .i64 a) (.int .i64 0)
        have K9 := Lib.hid (HK.out.own n9 (Nat.le_refl _))
        have R9 := Lib.hid (show RB _ q s _ _ from Kept.at n9 HRB.out (by have := HQ.out; omega))
        clear n9
        go_wp2
        generalize (((World.setCell w2 ⟨w.heap.size, 0, none⟩ (.string (⟨#[]⟩ : ByteArray))).setCell ⟨w.heap.size, 1, none⟩ (.bool false)).setCell ⟨w.heap.size, 2, none⟩ (.int .i64 a)).setCell ⟨w.heap.size, 3, none⟩ (.int .i64 0) = w9 at m9 K9 R9 ⊢
        clear z0 z1 z2 z3 y0 y1 y2 y3 k0 k1 k2 k3
        have q0 := cell_at (i := 0) m9 rfl
        have q1 := cell_at (i := 1) m9 rfl
        have q2 := cell_at (i := 2) m9 rfl
        have q3 := cell_at (i := 3) m9 rfl
        refine bodyPost_ret (v := .agg #[.string (⟨#[]⟩ : ByteArray), .bool false, .int .i64 a, .int .i64 0]) ?_ rfl ?_
        · simp [results, Tryz.results100, go_sem, q0, q1, q2, q3]
        · exact ⟨⟨(⟨#[]⟩ : ByteArray), false, a, 0⟩, _, _, rfl, HSZ.out, R9.out, K9.out, HW.out⟩
      · have hlt : j < s.size := by omega
        have d1 : decide ((s.size : Int) ≤ (j : Int)) = false := by simp; omega
        have d2 : decide (s.size ≤ j) = false := by simp; omega
        have hdr : s.data.toList.drop j = s[j] :: s.data.toList.drop (j + 1) := List.drop_eq_getElem_cons (show j < s.data.toList.length from hlt)
        have htl : tailP a (s.data.toList.drop j) = if s[j] = 0 then (bindP txtP fun t => bindP numP fun e => retP (⟨t, false, a, e⟩ : Ce)) (s.data.toList.drop (j + 1)) else if s[j] = 1 then .ok (⟨⟨#[]⟩, true, a, 0⟩, s.data.toList.drop (j + 1)) else .error 6 := by
          unfold tailP
          rw [if_neg ha0, hdr]
        have hb256 : s[j].toNat < 256 := s[j].toNat_lt
        have x1 : IntKind.i64.wrap ((j : Int) + 1) = (j : Int) + 1 := by rw [IntKind.wrap_i64]; omega
        have HTL := Lib.hid htl
        have HJ1 := Lib.hid (show (j : Int) + 1 = ((j + 1 : Nat) : Int) by omega)
        have HLT := Lib.hid hlt
        clear hend ha0 hs hdr htl
        go_wp2_with fail
        rw [← hU]
        clear hU
        go_wp2_with fail
        refine wp_region_held_drew (S := fun w' => Below U.heap.size U w') (by kernel_rfl) ?_ (fun hHeld => ?_)
        · exact (Below.refl _ _).drew
        refine takesH [0, 1, 2, 3, 4, 5, 6, 7, 8, 9] ?_
        repeat
          refine takesH_one (v := ?_) ?_ ?_
          rotate_left
          · first | (refine Or.inr ⟨by rfl, ?_⟩; with_reducible rfl) | (refine Or.inl ⟨by rfl, ?_⟩; intro wx hSw; (try dsimp only at hSw); first | (go_simp; first | done | with_reducible rfl) | (obtain ⟨_, _, _⟩ := HC.out _ hSw; go_simp; first | done | with_reducible rfl))
          try simp only [Act.put, List.getElem_toArray, List.getElem_cons_succ, List.getElem_cons_zero, List.setIfInBounds_toArray, List.set_cons_zero, List.set_cons_succ]
        refine takesH_nil ?_
        refine wpAnyH_done (by kernel_rfl) ?_ _
        have HHB := Lib.hid hHeld
        clear hHeld
        go_wp2_with fail
        refine wp_region_held_drew (S := fun w' => Below U.heap.size U w') (by kernel_rfl) ?_ (fun hHeld => ?_)
        · exact HHB.out.drew
        refine takesH [0, 1, 2, 3, 4, 5, 6, 7, 8, 9] ?_
        repeat
          refine takesH_one (v := ?_) ?_ ?_
          rotate_left
          · first | (refine Or.inr ⟨by rfl, ?_⟩; with_reducible rfl) | (refine Or.inl ⟨by rfl, ?_⟩; intro wx hSw; (try dsimp only at hSw); first | (go_simp; first | done | with_reducible rfl) | (obtain ⟨_, _, _⟩ := HC.out _ hSw; go_simp; first | done | with_reducible rfl))
          try simp only [Act.put, List.getElem_toArray, List.getElem_cons_succ, List.getElem_cons_zero, List.setIfInBounds_toArray, List.set_cons_zero, List.set_cons_succ]
        refine takesH_nil ?_
        refine wpAnyH_done (by kernel_rfl) ?_ _
        obtain ⟨U7, hU7⟩ : ∃ U7, U7 = U.drew.drew := ⟨_, rfl⟩
        rw [← hU7] at hHeld ⊢
        clear hU7
        have h5 := HRU.out.below hHeld
        have hp0 := (hHeld.block w1.heap.size (by have := HUS.out; omega)).trans HPU.out
        have hz0 := (hHeld.block w.heap.size (by have := HUS.out; have := HWQ.out; omega)).trans HZU.out
        have kq := Kept.setCell (fun k => k = q) U7 ⟨q, 1, none⟩ (.int .i64 ((j : Int) + 1)) rfl
        have hp1 := Kept.at kq hp0 (by have := HWQ.out; omega)
        have hz1 := Kept.at kq hz0 (by have := HQ.out; omega)
        have hr1 : RB (U7.setCell ⟨q, 1, none⟩ (.int .i64 ((j : Int) + 1))) q s (j + 1) 0 := by rw [HJ1.out]; exact h5.put1 (j + 1)
        have hk1 := (HKU.out.new hHeld).on kq
        obtain ⟨_, _, _⟩ := h5.cells
        have f1 := h5.thaw 1
        have HP1 := Lib.hid hp1; have HZ1 := Lib.hid hz1; have HR1 := Lib.hid hr1; have HK1 := Lib.hid hk1
        rcases (show s[j] = 0 ∨ (s[j] ≠ 0 ∧ s[j] = 1) ∨ (s[j] ≠ 0 ∧ s[j] ≠ 1) from by
          by_cases h1 : s[j] = 0
          · exact Or.inl h1
          · by_cases h4 : s[j] = 1
            · exact Or.inr (Or.inl ⟨h1, h4⟩)
            · exact Or.inr (Or.inr ⟨h1, h4⟩)) with hkk | ⟨hkk1, hkk⟩ | ⟨hkk1, hkk⟩
        · have t6 : ((s[j].toNat : Int) == 0) = true := by rw [hkk]; rfl
          have ht2 : tailP a (s.data.toList.drop j) = (bindP txtP fun t => bindP numP fun e => retP (⟨t, false, a, e⟩ : Ce)) (s.data.toList.drop (j + 1)) := by rw [HTL.out]; exact if_pos hkk
          have HT2 := Lib.hid ht2
          clear h5 hp0 hz0 kq hp1 hz1 hr1 hk1 hHeld hkk ht2
          go_wp2_with fail
          generalize U7.setCell ⟨q, 1, none⟩ (.int .i64 ((j : Int) + 1)) = X1 at HP1 HZ1 HR1 HK1 ⊢
          refine (rtextR q (j + 1) 0 s X1 HR1.out (by have := HLT.out; omega) (by have := HS8.out; omega)).mono ?_
          rintro x w2 ⟨v, j2, f2, rfl, hvs, h6, k6, hw6⟩
          have hp2 := Kept.at k6 HP1.out (by have := HWQ.out; omega)
          have hz2 := Kept.at k6 HZ1.out (by have := HQ.out; omega)
          have l0 := cell_at (i := 0) hp2 rfl
          have m0 := thawed_at (i := 0) hp2
          have kp := Kept.setCell (fun k => k = w1.heap.size) w2 ⟨w1.heap.size, 0, none⟩ (.string v) rfl
          have hp3 := (one4c hp2 (.string v)).1
          have hz3 := Kept.at kp hz2 (by have := HWQ.out; omega)
          have hr3 : RB (w2.setCell ⟨w1.heap.size, 0, none⟩ (.string v)) q s j2 f2 := Kept.at kp h6 (by have := HWQ.out; omega)
          have hk3 := (HK1.out.on k6).own kp (by have := HWQ.out; omega)
          have HP3 := Lib.hid hp3; have HZ3 := Lib.hid hz3; have HR3 := Lib.hid hr3; have HK3 := Lib.hid hk3; have HW6 := Lib.hid hw6; have HVZ := Lib.hid hvs
          clear hp2 hz2 kp hp3 hz3 hr3 hk3 h6 k6 hw6 hvs HP1 HZ1 HR1 HK1
          go_wp2_with fail
          generalize w2.setCell ⟨w1.heap.size, 0, none⟩ (.string v) = X2 at HP3 HZ3 HR3 HK3 ⊢
          clear l0 m0
          refine (rnumR q j2 f2 s X2 HR3.out HW6.out.len (by have := HS8.out; omega)).mono ?_
          rintro x w3 ⟨e3, j3, f3, rfl, he3, h7, k7, hw7⟩
          have hp4 := Kept.at k7 HP3.out (by have := HWQ.out; omega)
          have hz4 := Kept.at k7 HZ3.out (by have := HQ.out; omega)
          have l3 := cell_at (i := 3) hp4 rfl
          have m3 := thawed_at (i := 3) hp4
          have kp := Kept.setCell (fun k => k = w1.heap.size) w3 ⟨w1.heap.size, 3, none⟩ (.int .i64 e3) rfl
          have hw8 : Went (bindP txtP fun t => bindP numP fun e => retP (⟨t, false, a, e⟩ : Ce)) s.data.toList (j + 1) 0 (⟨v, false, a, e3⟩ : Ce) j3 f3 := HW6.out.bind (hw7.bind (Went.ret _ hw7.len f3))
          have HW := Lib.hid (HWN.out.bind (hw8.skip HT2.out))
          have HP := Lib.hid (one4c hp4 (.int .i64 e3)).2.2
          have HZ := Lib.hid (Kept.at kp hz4 (by have := HWQ.out; omega))
          have HRB : Hid (RB (w3.setCell ⟨w1.heap.size, 3, none⟩ (.int .i64 e3)) q s j3 f3) := Lib.hid (Kept.at kp h7 (by have := HWQ.out; omega))
          have HK := Lib.hid ((HK3.out.on k7).own kp (by have := HWQ.out; omega))
          have HSZ := HVZ
          clear hp4 hz4 kp hw8 h7 k7 hw7 he3 HP3 HZ3 HR3 HK3
          have k0 := cell_at (i := 0) HP.out rfl
          have k1 := cell_at (i := 1) HP.out rfl
          have k2 := cell_at (i := 2) HP.out rfl
          have k3 := cell_at (i := 3) HP.out rfl
          have z0 := cell_at (i := 0) HZ.out rfl
          have z1 := cell_at (i := 1) HZ.out rfl
          have z2 := cell_at (i := 2) HZ.out rfl
          have z3 := cell_at (i := 3) HZ.out rfl
          have y0 := thawed_at (i := 0) HZ.out
          have y1 := thawed_at (i := 1) HZ.out
          have y2 := thawed_at (i := 2) HZ.out
          have y3 := thawed_at (i := 3) HZ.out
          have m9 := set4c_block HZ.out (.string v) (.bool false) (.int .i64 a) (.int .i64 e3)
          have n9 := kept_set4c (w := (w3.setCell ⟨w1.heap.size, 3, none⟩ (.int .i64 e3))) w.heap.size (.string v) (.bool false) (.int .i64 a) (.int .i64 e3)
          have K9 := Lib.hid (HK.out.own n9 (Nat.le_refl _))
          have R9 := Lib.hid (show RB _ q s _ _ from Kept.at n9 HRB.out (by have := HQ.out; omega))
          clear n9
          go_wp2
          generalize (((World.setCell (w3.setCell ⟨w1.heap.size, 3, none⟩ (.int .i64 e3)) ⟨w.heap.size, 0, none⟩ (.string v)).setCell ⟨w.heap.size, 1, none⟩ (.bool false)).setCell ⟨w.heap.size, 2, none⟩ (.int .i64 a)).setCell ⟨w.heap.size, 3, none⟩ (.int .i64 e3) = w9 at m9 K9 R9 ⊢
          clear z0 z1 z2 z3 y0 y1 y2 y3 k0 k1 k2 k3
          have q0 := cell_at (i := 0) m9 rfl
          have q1 := cell_at (i := 1) m9 rfl
          have q2 := cell_at (i := 2) m9 rfl
          have q3 := cell_at (i := 3) m9 rfl
          refine bodyPost_ret (v := .agg #[.string v, .bool false, .int .i64 a, .int .i64 e3]) ?_ rfl ?_
          · simp [results, Tryz.results100, go_sem, q0, q1, q2, q3]
          · exact ⟨⟨v, false, a, e3⟩, _, _, rfl, HSZ.out, R9.out, K9.out, HW.out⟩
        · have t6 : ((s[j].toNat : Int) == 0) = false := by rw [hkk]; rfl
          rw [show ((s[j].toNat : Nat) : Int) = 1 by rw [hkk]; rfl]
          clear t6
          have hw8 : Went (tailP a) s.data.toList j 0 (⟨⟨#[]⟩, true, a, 0⟩ : Ce) (j + 1) 0 := ⟨fun _ => Nat.le_succ _, HLT.out, fun h => absurd rfl h, fun _ _ => by rw [HTL.out]; exact (if_neg hkk1).trans (if_pos hkk), fun _ h => absurd rfl h⟩
          have HW := Lib.hid (HWN.out.bind hw8)
          clear h5 hp0 hz0 kq hp1 hz1 hr1 hk1 hHeld hkk hkk1 hw8
          have l1 := cell_at (i := 1) HP1.out rfl
          have m1 := thawed_at (i := 1) HP1.out
          have kp := Kept.setCell (fun k => k = w1.heap.size) (U7.setCell ⟨q, 1, none⟩ (.int .i64 ((j : Int) + 1))) ⟨w1.heap.size, 1, none⟩ (.bool true) rfl
          have HP := Lib.hid (one4c HP1.out (.bool true)).2.1
          have HZ := Lib.hid (Kept.at kp HZ1.out (by have := HWQ.out; omega))
          have HRB : Hid (RB ((U7.setCell ⟨q, 1, none⟩ (.int .i64 ((j : Int) + 1))).setCell ⟨w1.heap.size, 1, none⟩ (.bool true)) q s (j + 1) 0) := Lib.hid (Kept.at kp HR1.out (by have := HWQ.out; omega))
          have HK := Lib.hid (HK1.out.own kp (by have := HWQ.out; omega))
          clear kp HP1 HZ1 HR1 HK1
          have k0 := cell_at (i := 0) HP.out rfl
          have k1 := cell_at (i := 1) HP.out rfl
          have k2 := cell_at (i := 2) HP.out rfl
          have k3 := cell_at (i := 3) HP.out rfl
          have z0 := cell_at (i := 0) HZ.out rfl
          have z1 := cell_at (i := 1) HZ.out rfl
          have z2 := cell_at (i := 2) HZ.out rfl
          have z3 := cell_at (i := 3) HZ.out rfl
          have y0 := thawed_at (i := 0) HZ.out
          have y1 := thawed_at (i := 1) HZ.out
          have y2 := thawed_at (i := 2) HZ.out
          have y3 := thawed_at (i := 3) HZ.out
          have m9 := set4c_block HZ.out (.string (⟨#[]⟩ : ByteArray)) (.bool true) (.int .i64 a) (.int .i64 0)
          have n9 := kept_set4c (w := (World.setCell (U7.setCell ⟨q, 1, none⟩ (.int .i64 ((j : Int) + 1))) ⟨w1.heap.size, 1, none⟩ (.bool true))) w.heap.size (.string (⟨#[]⟩ : ByteArray)) (.bool true) (.int .i64 a) (.int .i64 0)
          have K9 := Lib.hid (HK.out.own n9 (Nat.le_refl _))
          have R9 := Lib.hid (show RB _ q s _ _ from Kept.at n9 HRB.out (by have := HQ.out; omega))
          clear n9
          go_wp2
          generalize (((World.setCell (World.setCell (U7.setCell ⟨q, 1, none⟩ (.int .i64 ((j : Int) + 1))) ⟨w1.heap.size, 1, none⟩ (.bool true)) ⟨w.heap.size, 0, none⟩ (.string (⟨#[]⟩ : ByteArray))).setCell ⟨w.heap.size, 1, none⟩ (.bool true)).setCell ⟨w.heap.size, 2, none⟩ (.int .i64 a)).setCell ⟨w.heap.size, 3, none⟩ (.int .i64 0) = w9 at m9 K9 R9 ⊢
          clear z0 z1 z2 z3 y0 y1 y2 y3 k0 k1 k2 k3
          have q0 := cell_at (i := 0) m9 rfl
          have q1 := cell_at (i := 1) m9 rfl
          have q2 := cell_at (i := 2) m9 rfl
          have q3 := cell_at (i := 3) m9 rfl
          refine bodyPost_ret (v := .agg #[.string (⟨#[]⟩ : ByteArray), .bool true, .int .i64 a, .int .i64 0]) ?_ rfl ?_
          · simp [results, Tryz.results100, go_sem, q0, q1, q2, q3]
          · exact ⟨⟨(⟨#[]⟩ : ByteArray), true, a, 0⟩, _, _, rfl, HSZ.out, R9.out, K9.out, HW.out⟩
        · have hn0 : s[j].toNat ≠ 0 := fun h => hkk1 (UInt8.toNat_inj.1 h)
          have hn1 : s[j].toNat ≠ 1 := fun h => hkk (UInt8.toNat_inj.1 h)
          have t6 : ((s[j].toNat : Int) == 0) = false := by simp; omega
          have t7 : ((s[j].toNat : Int) == 1) = false := by simp; omega
          have hw8 : Went (tailP a) s.data.toList j 0 (⟨⟨#[]⟩, false, a, 0⟩ : Ce) (j + 1) 6 := ⟨fun _ => Nat.le_succ _, HLT.out, fun h => absurd rfl h, fun _ h => absurd h (by decide), fun _ _ => by rw [HTL.out]; exact (if_neg hkk1).trans (if_neg hkk)⟩
          have HW := Lib.hid (HWN.out.bind hw8)
          clear h5 hp0 hz0 kq hp1 hz1 hr1 hk1 hHeld hkk hkk1 hw8 hn0 hn1
          go_wp2_with fail
          generalize U7.setCell ⟨q, 1, none⟩ (.int .i64 ((j : Int) + 1)) = X1 at HP1 HZ1 HR1 HK1 ⊢
          refine (rwrong q (j + 1) 0 6 s X1 HR1.out).mono ?_
          rintro x w2 ⟨rfl, h6, k6⟩
          rw [if_pos rfl] at h6
          have HP := Lib.hid (Kept.at k6 HP1.out (by have := HWQ.out; omega))
          have HZ := Lib.hid (Kept.at k6 HZ1.out (by have := HQ.out; omega))
          have HRB := Lib.hid h6; have HK := Lib.hid (HK1.out.on k6)
          clear h6 k6 HP1 HZ1 HR1 HK1
          have k0 := cell_at (i := 0) HP.out rfl
          have k1 := cell_at (i := 1) HP.out rfl
          have k2 := cell_at (i := 2) HP.out rfl
          have k3 := cell_at (i := 3) HP.out rfl
          have z0 := cell_at (i := 0) HZ.out rfl
          have z1 := cell_at (i := 1) HZ.out rfl
          have z2 := cell_at (i := 2) HZ.out rfl
          have z3 := cell_at (i := 3) HZ.out rfl
          have y0 := thawed_at (i := 0) HZ.out
          have y1 := thawed_at (i := 1) HZ.out
          have y2 := thawed_at (i := 2) HZ.out
          have y3 := thawed_at (i := 3) HZ.out
          have m9 := set4c_block HZ.out (.string (⟨#[]⟩ : ByteArray)) (.bool false) (.int .i64 a) (.int .i64 0)
          have n9 := kept_set4c (w := w2) w.heap.size (.string (⟨#[]⟩ : ByteArray)) (.bool false) (.int .i64 a) (.int .i64 0)
          have K9 := Lib.hid (HK.out.own n9 (Nat.le_refl _))
          have R9 := Lib.hid (show RB _ q s _ _ from Kept.at n9 HRB.out (by have := HQ.out; omega))
          clear n9
          go_wp2
          generalize (((World.setCell w2 ⟨w.heap.size, 0, none⟩ (.string (⟨#[]⟩ : ByteArray))).setCell ⟨w.heap.size, 1, none⟩ (.bool false)).setCell ⟨w.heap.size, 2, none⟩ (.int .i64 a)).setCell ⟨w.heap.size, 3, none⟩ (.int .i64 0) = w9 at m9 K9 R9 ⊢
          clear z0 z1 z2 z3 y0 y1 y2 y3 k0 k1 k2 k3
          have q0 := cell_at (i := 0) m9 rfl
          have q1 := cell_at (i := 1) m9 rfl
          have q2 := cell_at (i := 2) m9 rfl
          have q3 := cell_at (i := 3) m9 rfl
          refine bodyPost_ret (v := .agg #[.string (⟨#[]⟩ : ByteArray), .bool false, .int .i64 a, .int .i64 0]) ?_ rfl ?_
          · simp [results, Tryz.results100, go_sem, q0, q1, q2, q3]
          · exact ⟨⟨(⟨#[]⟩ : ByteArray), false, a, 0⟩, _, _, rfl, HSZ.out, R9.out, K9.out, HW.out⟩
  · have e1 : (f == 0) = false := by simp; exact hf
    have hw2 : Went cellP s.data.toList i e (⟨⟨#[]⟩, false, a, 0⟩ : Ce) j f := hw.bind (Went.off _ hf (Nat.le_refl _) hw.len)
    have HW := Lib.hid hw2; have HP := Lib.hid hpu; have HZ := Lib.hid hzu; have HRB := Lib.hid hru; have HK := Lib.hid hku
    clear hw hw2 hpu hzu hru hku hus h1 k1 hz1 ba hi hs hw1s hf
    have k0 := cell_at (i := 0) HP.out rfl
    have k1 := cell_at (i := 1) HP.out rfl
    have k2 := cell_at (i := 2) HP.out rfl
    have k3 := cell_at (i := 3) HP.out rfl
    have z0 := cell_at (i := 0) HZ.out rfl
    have z1 := cell_at (i := 1) HZ.out rfl
    have z2 := cell_at (i := 2) HZ.out rfl
    have z3 := cell_at (i := 3) HZ.out rfl
    have y0 := thawed_at (i := 0) HZ.out
    have y1 := thawed_at (i := 1) HZ.out
    have y2 := thawed_at (i := 2) HZ.out
    have y3 := thawed_at (i := 3) HZ.out
    have m9 := set4c_block HZ.out (.string (⟨#[]⟩ : ByteArray)) (.bool false) (.int .i64 a) (.int .i64 0)
    have n9 := kept_set4c (w := (w1.alloc (.cells #[.string ⟨#[]⟩, .bool false, .int .i64 a, .int .i64 0] 54))) w.heap.size (.string (⟨#[]⟩ : ByteArray)) (.bool false) (.int .i64 a) (.int .i64 0)
    have K9 := Lib.hid (HK.out.own n9 (Nat.le_refl _))
    have R9 := Lib.hid (show RB _ q s _ _ from Kept.at n9 HRB.out (by have := HQ.out; omega))
    clear n9
    go_wp2
    generalize (((World.setCell (w1.alloc (.cells #[.string ⟨#[]⟩, .bool false, .int .i64 a, .int .i64 0] 54)) ⟨w.heap.size, 0, none⟩ (.string (⟨#[]⟩ : ByteArray))).setCell ⟨w.heap.size, 1, none⟩ (.bool false)).setCell ⟨w.heap.size, 2, none⟩ (.int .i64 a)).setCell ⟨w.heap.size, 3, none⟩ (.int .i64 0) = w9 at m9 K9 R9 ⊢
    clear z0 z1 z2 z3 y0 y1 y2 y3 k0 k1 k2 k3
    have q0 := cell_at (i := 0) m9 rfl
    have q1 := cell_at (i := 1) m9 rfl
    have q2 := cell_at (i := 2) m9 rfl
    have q3 := cell_at (i := 3) m9 rfl
    refine bodyPost_ret (v := .agg #[.string (⟨#[]⟩ : ByteArray), .bool false, .int .i64 a, .int .i64 0]) ?_ rfl ?_
    · simp [results, Tryz.results100, go_sem, q0, q1, q2, q3]
    · exact ⟨⟨(⟨#[]⟩ : ByteArray), false, a, 0⟩, _, _, rfl, HSZ.out, R9.out, K9.out, HW.out⟩
end Go.Proofs.YthfanonjokpflaaGreat
set_option linter.unusedVariables false
set_option linter.unusedSimpArgs false
namespace Go.Proofs.YthfanonjokpflaaGreat
open Go Go.RowKit

theorem own_ge {w : World} {b n size : Nat} {e : TypeId} {v : Value} {xs : List Value} (h : w.ownsRow b e size v n xs) : ∀ g, v.ownBlock = some g → b ≤ g := by
  rcases h.2 with ⟨rfl, rfl⟩ | ⟨g, cap, cur, rfl, h2, h3, h4, h5, _⟩
  · intro g hg; cases hg
  · intro g' hg
    injection hg with hg
    subst hg
    first | exact h2 | exact h3 | exact h4 | exact h5
theorem KeptR.grown {q : Nat} {w w1 w2 : World} {n size : Nat} {e : TypeId} {v : Value} {xs : List Value} (h : KeptR q w w1) (ho : w1.ownsRow w.heap.size e size v n xs) (hg : w1.grownBy w2 v.ownBlock) : KeptR q w w2 :=
  Kept.trans h (Kept.of_grown (F := fun k => v.ownBlock = some k) hg fun k hk => hk) fun k hk => Or.inr (own_ge ho k hk)
theorem set_live {w : World} {r : Nat} {v0 v1 v2 v3 v4 v5 v6 v7 : Value} (h : w.heap[r]? = some (.cells #[v0, v1, v2, v3, v4, v5, v6, v7] 57 (0, 0))) (u1 u2 u3 u4 : Value) :
    ((((w.setCell ⟨r, 1, none⟩ u1).setCell ⟨r, 2, none⟩ u2).setCell ⟨r, 3, none⟩ u3).setCell ⟨r, 4, none⟩ u4).heap[r]? = some (.cells #[v0, u1, u2, u3, u4, v5, v6, v7] 57 (0, 0)) := by
  have m := Joins.block_setCell (i := 1) h u1
  simp only [List.setIfInBounds_toArray, List.set_cons_zero, List.set_cons_succ] at m
  have m1 := Joins.block_setCell (i := 2) m u2
  simp only [List.setIfInBounds_toArray, List.set_cons_zero, List.set_cons_succ] at m1
  have m2 := Joins.block_setCell (i := 3) m1 u3
  simp only [List.setIfInBounds_toArray, List.set_cons_zero, List.set_cons_succ] at m2
  have m3 := Joins.block_setCell (i := 4) m2 u4
  simp only [List.setIfInBounds_toArray, List.set_cons_zero, List.set_cons_succ] at m3
  exact m3
theorem kept_live {w : World} (r : Nat) (u1 u2 u3 u4 : Value) : Kept (fun k => k = r) w ((((w.setCell ⟨r, 1, none⟩ u1).setCell ⟨r, 2, none⟩ u2).setCell ⟨r, 3, none⟩ u3).setCell ⟨r, 4, none⟩ u4) :=
  (((Kept.setCell (fun k => k = r) w ⟨r, 1, none⟩ u1 rfl).trans (Kept.setCell (fun k => k = r) _ ⟨r, 2, none⟩ u2 rfl) fun _ h => Or.inl h).trans (Kept.setCell (fun k => k = r) _ ⟨r, 3, none⟩ u3 rfl) fun _ h => Or.inl h).trans (Kept.setCell (fun k => k = r) _ ⟨r, 4, none⟩ u4 rfl) fun _ h => Or.inl h
theorem set_two {w : World} {r : Nat} {v0 v1 v2 v3 v4 v5 v6 v7 : Value} (h : w.heap[r]? = some (.cells #[v0, v1, v2, v3, v4, v5, v6, v7] 57 (0, 0))) (u5 u6 : Value) :
    ((w.setCell ⟨r, 5, none⟩ u5).setCell ⟨r, 6, none⟩ u6).heap[r]? = some (.cells #[v0, v1, v2, v3, v4, u5, u6, v7] 57 (0, 0)) := by
  have m := Joins.block_setCell (i := 5) h u5
  simp only [List.setIfInBounds_toArray, List.set_cons_zero, List.set_cons_succ] at m
  have m1 := Joins.block_setCell (i := 6) m u6
  simp only [List.setIfInBounds_toArray, List.set_cons_zero, List.set_cons_succ] at m1
  exact m1
theorem kept_two {w : World} (r : Nat) (u5 u6 : Value) : Kept (fun k => k = r) w ((w.setCell ⟨r, 5, none⟩ u5).setCell ⟨r, 6, none⟩ u6) :=
  (Kept.setCell (fun k => k = r) w ⟨r, 5, none⟩ u5 rfl).trans (Kept.setCell (fun k => k = r) _ ⟨r, 6, none⟩ u6 rfl) fun _ h => Or.inl h
theorem Went.row {l : Bs} {i j1 j2 j3 j4 j5 j : Nat} {e f1 f2 f3 f4 f5 f : Int} {k : ByteArray} {c : Ce} {g h : Int} {n : Nat} {K : Cols} (H1 : Went txtP l i e k j1 f1) (H2 : Went cellP l j1 f1 c j2 f2) (H3 : Went numP l j2 f2 g j3 f3) (H4 : Went numP l j3 f3 h j4 f4)
    (H5 : Went cntP l j4 f4 n j5 f5) (HL : Loops colP l n j5 f5 K j f) (hd : f = 0 → K.length = n) : Went rowP l i e (⟨k, c, g, h, K⟩ : Ro) j f := by
  have H6 := HL.list H5 hd
  have W1 : Went (bindP numP fun h => bindP (listP colP) fun l => retP (h, l)) l j3 f3 (h, K) j f := H4.bind (H6.bind (Went.ret (h, K) H6.len f))
  have W2 : Went (bindP numP fun g => bindP (bindP numP fun h => bindP (listP colP) fun l => retP (h, l)) fun y => retP (g, y)) l j2 f2 (g, (h, K)) j f := H3.bind (W1.bind (Went.ret (g, (h, K)) H6.len f))
  have W3 : Went (bindP cellP fun c => bindP (bindP numP fun g => bindP (bindP numP fun h => bindP (listP colP) fun l => retP (h, l)) fun y => retP (g, y)) fun y => retP (c, y)) l j1 f1 (c, (g, (h, K))) j f := H2.bind (W2.bind (Went.ret (c, (g, (h, K))) H6.len f))
  have W4 : Went rowT l i e (k, (c, (g, (h, K)))) j f := H1.bind (W3.bind (Went.ret (k, (c, (g, (h, K)))) H6.len f))
  exact W4.map (q := fun z => (⟨z.1, z.2.1, z.2.2.1, z.2.2.2.1, z.2.2.2.2⟩ : Ro))
/-- Columns of one's own. -/
def OwnK (w0 w : World) (A : Option Addr) (t c : Nat) (K : Cols) : Prop := w.ownsRow w0.heap.size 99 5 (.slice A t c) t (kRow K)
theorem OwnK.on {w0 w w' : World} {A : Option Addr} {t c : Nat} {K : Cols} (h : OwnK w0 w A t c K) (hb : Below w.heap.size w w') : OwnK w0 w' A t c K := own_below h hb
theorem OwnK.kept {w0 w w' : World} {A : Option Addr} {t c : Nat} {K : Cols} {F : Nat → Prop} {e : TypeId} (h : OwnK w0 w A t c K) (hk : Kept F w w') (hF : ∀ k, F k → ∃ cs, w.heap[k]? = some (.cells cs e (0, 0))) (he : 99 ≠ e) : OwnK w0 w' A t c K :=
  own_kept h fun g hg => hk.block g (own_block_lt h g hg) fun hf => by
    obtain ⟨cs, h1⟩ := hF g hf
    obtain ⟨cs', h2⟩ := own_tag h g hg
    rw [h1] at h2
    injection h2 with h2
    injection h2 with _ h3 _
    exact he h3.symm
theorem OwnK.kept1 {w0 w w' : World} {A : Option Addr} {t c r : Nat} {K : Cols} {cs : Array Value} {e : TypeId} (h : OwnK w0 w A t c K) (hk : Kept (fun k => k = r) w w') (hr : w.heap[r]? = some (.cells cs e (0, 0))) (he : 99 ≠ e) : OwnK w0 w' A t c K :=
  h.kept hk (fun k hk => by subst hk; exact ⟨cs, hr⟩) he
set_option maxRecDepth 8000 in
set_option maxHeartbeats 8000000 in
theorem rrowR (q i : Nat) (e : Int) (s : ByteArray) (w : World) (h : RB w q s i e) (hi : i ≤ s.size) (hs : s.size ≤ 900000) :
    Calls Tryz.prog 77 #[.pointer (some ⟨q, 0, none⟩)] w fun x w' => ∃ (z : RA) (j : Nat) (f : Int), x = .returned (.agg #[.string z.ro.key, .string z.ro.live.s, .bool z.ro.live.d, .int .i64 z.ro.live.a, .int .i64 z.ro.live.e, .int .i64 z.ro.gone, .int .i64 z.ro.shade, .slice z.A z.ro.cols.length z.c]) ∧ RB w' q s j f ∧ KeptR q w w' ∧ OwnC w w' z ∧ z.ro.cols.length ≤ s.size ∧ Went rowP s.data.toList i e z.ro j f := by
  have hqw := h.lt
  have bz := (Below.refl w.heap.size w).alloc (Nat.le_refl _) (.cells #[.string ⟨#[]⟩, .string ⟨#[]⟩, .bool false, .int .i64 0, .int .i64 0, .int .i64 0, .int .i64 0, .slice none 0 0] 57)
  have hz := heap_alloc_new w (.cells #[.string ⟨#[]⟩, .string ⟨#[]⟩, .bool false, .int .i64 0, .int .i64 0, .int .i64 0, .int .i64 0, .slice none 0 0] 57)
  have h0 := h.below bz
  obtain ⟨V, hV⟩ : ∃ V, V = w.alloc (.cells #[.string ⟨#[]⟩, .string ⟨#[]⟩, .bool false, .int .i64 0, .int .i64 0, .int .i64 0, .int .i64 0, .slice none 0 0] 57) := ⟨_, rfl⟩
  have hVs : V.heap.size = w.heap.size + 1 := by rw [hV]; simp
  rw [← hV] at bz hz h0
  have H0 := Lib.hid h0; have HZ0 := Lib.hid hz; have BZ := Lib.hid bz; have HVS := Lib.hid hVs; have HQ := Lib.hid hqw; have HS := Lib.hid hs
  clear h bz hz h0 hVs hqw hs
  go_enter Tryz.func77, Tryz.ntmps77
  go_wp2_with fail
  rw [← hV]
  clear hV
  refine (rtextR q i e s _ H0.out hi (by have := HS.out; omega)).mono ?_
  rintro x w1 ⟨v, j1, f1, rfl, hvs, h1, k1, hw1⟩
  have ba := (Below.refl w1.heap.size w1).alloc (Nat.le_refl _) (.cells #[.string v, .string ⟨#[]⟩, .bool false, .int .i64 0, .int .i64 0, .int .i64 0, .int .i64 0, .slice none 0 0] 57)
  have hpu := heap_alloc_new w1 (.cells #[.string v, .string ⟨#[]⟩, .bool false, .int .i64 0, .int .i64 0, .int .i64 0, .int .i64 0, .slice none 0 0] 57)
  have hz1 := Kept.at k1 HZ0.out (by have := HQ.out; omega)
  have hV1 : V.heap.size ≤ w1.heap.size := k1.size
  have hzu := (ba.block w.heap.size (by have := HVS.out; omega)).trans hz1
  have hru := h1.below ba
  have hku := KeptR.new (KeptR.on (Kept.of_below BZ.out _) k1) ba
  obtain ⟨U, hU⟩ : ∃ U, U = w1.alloc (.cells #[.string v, .string ⟨#[]⟩, .bool false, .int .i64 0, .int .i64 0, .int .i64 0, .int .i64 0, .slice none 0 0] 57) := ⟨_, rfl⟩
  rw [← hU] at hpu hzu hru hku
  have HWQ : Hid (w.heap.size < w1.heap.size ∧ q < w1.heap.size ∧ q < w.heap.size) := Lib.hid ⟨by have := HVS.out; omega, h1.lt, HQ.out⟩
  have HPU := Lib.hid hpu; have HZU := Lib.hid hzu; have HRU := Lib.hid hru; have HKU := Lib.hid hku; have HW1 := Lib.hid hw1
  clear ba hpu hz1 hV1 hzu hru hku h1 k1 hw1 hvs hi
  go_wp2_with fail
  rw [← hU]
  clear hU
  refine (rcellR q j1 f1 s U HRU.out HW1.out.len (by have := HS.out; omega)).mono ?_
  rintro x w2 ⟨⟨cs, cd, ca, ce⟩, j2, f2, rfl, hcs, h2, k2, hw2⟩
  have hp2 := Kept.at k2 HPU.out (by have := HWQ.out; omega)
  have hz2 := Kept.at k2 HZU.out (by have := HWQ.out; omega)
  have z1 := cell_at (i := 1) hp2 rfl
  have z2 := cell_at (i := 2) hp2 rfl
  have z3 := cell_at (i := 3) hp2 rfl
  have z4 := cell_at (i := 4) hp2 rfl
  have y1 := thawed_at (i := 1) hp2
  have y2 := thawed_at (i := 2) hp2
  have y3 := thawed_at (i := 3) hp2
  have y4 := thawed_at (i := 4) hp2
  have kp := kept_live (w := w2) w1.heap.size (.string cs) (.bool cd) (.int .i64 ca) (.int .i64 ce)
  have hp3 := set_live hp2 (.string cs) (.bool cd) (.int .i64 ca) (.int .i64 ce)
  have hz3 := Kept.at kp hz2 (by have := HWQ.out; omega)
  have hr3 : RB _ q s j2 f2 := Kept.at kp h2 (by have := HWQ.out; omega)
  have hk3 := (HKU.out.on k2).own kp (by have := HWQ.out; omega)
  have HP3 := Lib.hid hp3; have HZ3 := Lib.hid hz3; have HR3 := Lib.hid hr3; have HK3 := Lib.hid hk3; have HW2 := Lib.hid hw2
  clear hp2 hz2 kp hp3 hz3 hr3 hk3 h2 k2 hw2 hcs HPU HZU HRU HKU
  go_wp2_with fail
  generalize (((w2.setCell ⟨w1.heap.size, 1, none⟩ (.string cs)).setCell ⟨w1.heap.size, 2, none⟩ (.bool cd)).setCell ⟨w1.heap.size, 3, none⟩ (.int .i64 ca)).setCell ⟨w1.heap.size, 4, none⟩ (.int .i64 ce) = X2 at HP3 HZ3 HR3 HK3 ⊢
  clear z1 z2 z3 z4 y1 y2 y3 y4
  refine (rnumR q j2 f2 s X2 HR3.out HW2.out.len (by have := HS.out; omega)).mono ?_
  rintro x w3 ⟨g, j3, f3, rfl, hg, h3, k3, hw3⟩
  have HP4 := Lib.hid (Kept.at k3 HP3.out (by have := HWQ.out; omega)); have HZ4 := Lib.hid (Kept.at k3 HZ3.out (by have := HWQ.out; omega)); have HR4 := Lib.hid h3; have HK4 := Lib.hid (HK3.out.on k3); have HW3 := Lib.hid hw3
  clear h3 k3 hw3 hg HP3 HZ3 HR3 HK3
  go_wp2_with fail
  refine (rnumR q j3 f3 s w3 HR4.out HW3.out.len (by have := HS.out; omega)).mono ?_
  rintro x w4 ⟨hh, j4, f4, rfl, hg, h3, k3, hw3⟩
  have hp5 := Kept.at k3 HP4.out (by have := HWQ.out; omega)
  have hz5 := Kept.at k3 HZ4.out (by have := HWQ.out; omega)
  have z5 := cell_at (i := 5) hp5 rfl
  have z6 := cell_at (i := 6) hp5 rfl
  have y5 := thawed_at (i := 5) hp5
  have y6 := thawed_at (i := 6) hp5
  have kp := kept_two (w := w4) w1.heap.size (.int .i64 g) (.int .i64 hh)
  have HP6 := Lib.hid (set_two hp5 (.int .i64 g) (.int .i64 hh))
  have HZ6 := Lib.hid (Kept.at kp hz5 (by have := HWQ.out; omega))
  have HR6 : Hid (RB _ q s j4 f4) := Lib.hid (Kept.at kp h3 (by have := HWQ.out; omega))
  have HK6 := Lib.hid ((HK4.out.on k3).own kp (by have := HWQ.out; omega)); have HW4 := Lib.hid hw3
  clear hp5 hz5 kp h3 k3 hw3 hg HP4 HZ4 HR4 HK4
  go_wp2_with fail
  generalize (w4.setCell ⟨w1.heap.size, 5, none⟩ (.int .i64 g)).setCell ⟨w1.heap.size, 6, none⟩ (.int .i64 hh) = X4 at HP6 HZ6 HR6 HK6 ⊢
  clear z5 z6 y5 y6
  refine (rcount q j4 f4 s X4 HR6.out HW4.out.len (by have := HS.out; omega)).mono ?_
  rintro x w5 ⟨n, j5, f5, rfl, hn, h5, k5, hw5⟩
  have HN : Hid (n ≤ s.size) := Lib.hid (by omega)
  have HP7 := Lib.hid (Kept.at k5 HP6.out (by have := HWQ.out; omega)); have HZ7 := Lib.hid (Kept.at k5 HZ6.out (by have := HWQ.out; omega)); have HR7 := Lib.hid h5; have HK7 := Lib.hid (HK6.out.on k5); have HW5 := Lib.hid hw5
  clear h5 k5 hw5 hn HP6 HZ6 HR6 HK6
  go_wp2_with fail
  go_loopw [5] (fun i' wr => ∃ (t : Nat) (Ks : Cols) (A3 : Option Addr) (c3 : Nat) (j : Nat) (f : Int), i' = .int .i64 t ∧ Ks.length = t ∧ wr.heap[w1.heap.size]? = some (.cells #[.string v, .string cs, .bool cd, .int .i64 ca, .int .i64 ce, .int .i64 g, .int .i64 hh, .slice A3 t c3] 57) ∧ wr.heap[w.heap.size]? = some (.cells #[.string ⟨#[]⟩, .string ⟨#[]⟩, .bool false, .int .i64 0, .int .i64 0, .int .i64 0, .int .i64 0, .slice none 0 0] 57) ∧ RB wr q s j f ∧ KeptR q w wr ∧ OwnK w wr A3 t c3 Ks ∧ Loops colP s.data.toList n j5 f5 Ks j f) (fun i _ => n - (intOf i).toNat)
  case atStart => exact ⟨0, [], none, 0, j5, f5, rfl, rfl, HP7.out, HZ7.out, HR7.out, HK7.out, own_nilK _ _, Loops.start _ _ HW5.out.len _⟩
  case round =>
    obtain ⟨t, Ks, A3, c3, j, f, rfl, ht, hp, hz, hr, hk, ho, hl⟩ := hrel
    obtain ⟨_, _, _⟩ := hr.cells
    have i8 : n ≤ 1000000 := by have := HN.out; have := HS.out; omega
    have htn : t ≤ n := by rw [← ht]; exact hl.many
    have HT := Lib.hid ht; have HPR := Lib.hid hp; have HZR := Lib.hid hz; have HRR := Lib.hid hr; have HKR := Lib.hid hk; have HOR := Lib.hid ho; have HLR := Lib.hid hl
    clear ht hp hz hr hk ho hl HP7 HZ7 HR7 HK7
    by_cases hlt : t < n
    · have i1 : (t : Int) < n := by omega
      have i2 : decide ((t : Int) < (n : Int)) = true := by simp; omega
      by_cases hf : f = 0
      · subst hf
        go_wp2_with fail
        refine (rtextR q j 0 s wr HRR.out HLR.out.len (by have := HS.out; omega)).mono ?_
        rintro x w6 ⟨nm, j6, f6, rfl, hnm, h6, k6, hw6⟩
        have T6 := Lib.hid (Kept.at k6 HPR.out (by have := HWQ.out; omega)); have Z6 := Lib.hid (Kept.at k6 HZR.out (by have := HWQ.out; omega)); have H6 := Lib.hid h6; have K6 := Lib.hid (HKR.out.on k6); have HW6 := Lib.hid hw6
        have O6 := Lib.hid (HOR.out.kept1 k6 HRR.out (by decide))
        clear h6 k6 hw6 hnm
        go_wp2_with fail
        refine wp_region_z (S := fun w' => w'.heap[w1.heap.size]? = some (.cells #[.string v, .string cs, .bool cd, .int .i64 ca, .int .i64 ce, .int .i64 g, .int .i64 hh, .slice A3 t c3] 57)) 9 (by kernel_rfl) ?_ (fun hHeld => ?_)
        · exact T6.out
        refine takesZ [0, 1, 2, 3] ?_
        repeat
          refine takesZ_one (v := ?_) ?_ ?_
          rotate_left
          · first | (refine Or.inr ⟨by rfl, ?_⟩; with_reducible rfl) | (refine Or.inl ⟨by rfl, ?_⟩; intro wx hSw; (try dsimp only at hSw); first | (go_simp; first | done | with_reducible rfl) | (have hc7 := cell_at (i := 7) hSw rfl; go_simp; first | done | with_reducible rfl))
          try simp only [Act.put, List.getElem_toArray, List.getElem_cons_succ, List.getElem_cons_zero, List.setIfInBounds_toArray, List.set_cons_zero, List.set_cons_succ]
        refine takesZ_nil ?_
        refine wpAnyZ_one (i := 4) (by kernel_rfl) rfl (fun K hK => ?_)
        go_simp
        refine (rcellR q j6 f6 s w6.drew H6.out.drew HW6.out.len (by have := HS.out; omega)).mono ?_
        rintro e' v7 ⟨⟨xs, xd, xa, xe⟩, j7, f7, rfl, hxs, h7, k7, hw7⟩
        have k7 : KeptR q w6 v7 := ⟨k7.os, k7.tape, k7.output, k7.size, k7.block⟩
        have T7 := Lib.hid (Kept.at k7 T6.out (by have := HWQ.out; omega))
        have Z7 := Lib.hid (Kept.at k7 Z6.out (by have := HWQ.out; omega))
        have R7 := Lib.hid h7
        have K7 := Lib.hid (K6.out.on k7)
        have O7 := Lib.hid (OwnK.kept1 O6.out k7 H6.out (by decide))
        have HW7 := Lib.hid hw7
        have ba := (Below.refl v7.heap.size v7).alloc (Nat.le_refl _) (.cells #[.string nm, .string xs, .bool xd, .int .i64 xa, .int .i64 xe] 99)
        have T8 := Lib.hid ((ba.block _ (Array.getElem?_eq_some_iff.1 T7.out).1).trans T7.out)
        have Z8 := Lib.hid ((ba.block _ (Array.getElem?_eq_some_iff.1 Z7.out).1).trans Z7.out)
        have R8 := Lib.hid (R7.out.below ba)
        have O8 := Lib.hid (O7.out.on ba)
        have K8 := Lib.hid (K7.out.new ba)
        have RD := Lib.hid (RdK.one v7 (nm, ⟨xs, xd, xa, xe⟩) v7.heap.size rfl)
        clear h7 k7 hw7 hxs ba
        try go_wp2_with fail
        refine hK.out _ _ ?_ (fun hHeld => ?_)
        · exact T7.out
        clear hK K
        try simp only [Act.put, List.getElem_toArray, List.getElem_cons_succ, List.getElem_cons_zero, List.setIfInBounds_toArray, List.set_cons_zero, List.set_cons_succ]
        refine takesZ [5] ?_
        repeat
          refine takesZ_one (v := ?_) ?_ ?_
          rotate_left
          · first | (refine Or.inr ⟨by rfl, ?_⟩; with_reducible rfl) | (refine Or.inl ⟨by rfl, ?_⟩; intro wx hSw; (try dsimp only at hSw); first | (go_simp; first | done | with_reducible rfl))
          try simp only [Act.put, List.getElem_toArray, List.getElem_cons_succ, List.getElem_cons_zero, List.setIfInBounds_toArray, List.set_cons_zero, List.set_cons_succ]
        refine takesZ_nil ?_
        refine wpAnyZ_one (i := 6) (by kernel_rfl) rfl (fun K hK => ?_)
        go_simp
        refine hK.out _ _ ?_ (fun hHeld => ?_)
        · exact T8.out
        clear hK K
        try simp only [Act.put, List.getElem_toArray, List.getElem_cons_succ, List.getElem_cons_zero, List.setIfInBounds_toArray, List.set_cons_zero, List.set_cons_succ]
        refine wpAnyZ_one (i := 7) (by kernel_rfl) rfl (fun K hK => ?_)
        refine step_ex rfl (.tmp 36) (.tmp 41) _ _ rfl (.slice A3 t c3) (.slice (some ⟨v7.heap.size, 0, none⟩) 1 1) (by simp [Act.eval]) (by simp [Act.eval]) (run_appK w.heap.size O8.out RD.out ?s3 ?s4) ?_
        case s3 => have := HN.out; have := HS.out; omega
        case s4 => exact K8.out.size
        intro v9 w9 ho9 hg9
        obtain ⟨hg9, _⟩ := hg9
        obtain ⟨A9, c9, rfl, _⟩ := own_slice ho9
        have T9 := Lib.hid ((hg9.block w1.heap.size (Array.getElem?_eq_some_iff.1 T8.out).1 (fun hp => own_ne O8.out T8.out (by decide) _ hp.symm rfl)).trans T8.out)
        have Z9 := Lib.hid ((hg9.block w.heap.size (Array.getElem?_eq_some_iff.1 Z8.out).1 (fun hp => own_ne O8.out Z8.out (by decide) _ hp.symm rfl)).trans Z8.out)
        have R9 : Hid (RB w9 q s j7 f7) := Lib.hid ((hg9.block q R8.out.lt (fun hp => own_ne O8.out R8.out (by decide) _ hp.symm rfl)).trans R8.out)
        have K9 := Lib.hid (K8.out.grown O8.out hg9)
        have O9 : Hid (OwnK w w9 A9 (t + 1) c9 (Ks ++ [(nm, ⟨xs, xd, xa, xe⟩)])) := Lib.hid ho9
        clear ho9 hg9
        refine hK.out _ _ ?_ (fun hHeld => ?_)
        · exact T9.out
        clear hK K
        try simp only [Act.put, List.getElem_toArray, List.getElem_cons_succ, List.getElem_cons_zero, List.setIfInBounds_toArray, List.set_cons_zero, List.set_cons_succ]
        have k7c := cell_at (i := 7) hHeld rfl
        have f7c := thawed_at (i := 7) hHeld
        refine takesZ [8] ?_
        repeat
          refine takesZ_one (v := ?_) ?_ ?_
          rotate_left
          · first | (refine Or.inr ⟨by rfl, ?_⟩; with_reducible rfl) | (refine Or.inl ⟨by rfl, ?_⟩; intro wx hSw; (try dsimp only at hSw); first | (go_simp; first | done | with_reducible rfl))
          try simp only [Act.put, List.getElem_toArray, List.getElem_cons_succ, List.getElem_cons_zero, List.setIfInBounds_toArray, List.set_cons_zero, List.set_cons_succ]
        refine takesZ_nil ?_
        refine wpAnyZ_last (by kernel_rfl) rfl (fun K hK => ?_)
        go_simp
        refine hK.out _ _ ?_
        clear hK K
        try simp only [Act.put, List.getElem_toArray, List.getElem_cons_succ, List.getElem_cons_zero, List.setIfInBounds_toArray, List.set_cons_zero, List.set_cons_succ]
        refine wpAnyZ_done (by kernel_rfl) ?_ _
        have kp := Kept.setCell (fun k => k = w1.heap.size) w9 ⟨w1.heap.size, 7, none⟩ (.slice A9 (t + 1) c9) rfl
        have hpn := block_set7 hHeld (.slice A9 (t + 1) c9)
        have hzn := Kept.at kp Z9.out (by have := HWQ.out; omega)
        have hrn : RB (w9.setCell ⟨w1.heap.size, 7, none⟩ (.slice A9 (t + 1) c9)) q s j7 f7 := Kept.at kp R9.out (by have := HWQ.out; omega)
        have hkn := K9.out.own kp (by have := HWQ.out; omega)
        have hon := O9.out.kept1 kp hHeld (by decide)
        generalize w9.setCell ⟨w1.heap.size, 7, none⟩ (.slice A9 (t + 1) c9) = wn at hpn hzn hrn hkn hon ⊢
        have hcl : Went colP s.data.toList j 0 (nm, (⟨xs, xd, xa, xe⟩ : Ce)) j7 f7 := HW6.out.bind (HW7.out.bind (Went.ret _ HW7.out.len f7))
        have PN := Lib.hid hpn; have ZN := Lib.hid hzn; have RN := Lib.hid hrn; have KN := Lib.hid hkn; have ON := Lib.hid hon
        have LN := Lib.hid (HLR.out.step (by rw [HT.out]; exact hlt) hcl)
        have HT1 : Hid ((Ks ++ [(nm, (⟨xs, xd, xa, xe⟩ : Ce))]).length = t + 1) := Lib.hid (by rw [List.length_append, HT.out]; rfl)
        clear kp hpn hzn hrn hkn hon hcl hHeld k7c f7c
        go_wp2
        go_roundw
        case rel => exact ⟨t + 1, _, A9, c9, j7, f7, by go_num, HT1.out, PN.out, ZN.out, RN.out, KN.out, ON.out, LN.out⟩
        case measure => simp [intOf]; omega
      · have e1 : (f == 0) = false := by simp; exact hf
        have HWE := Lib.hid (Went.row HW1.out HW2.out HW3.out HW4.out HW5.out HLR.out fun h => absurd h hf)
        clear hf
        have z0 := cell_at (i := 0) HPR.out rfl
        have z1 := cell_at (i := 1) HPR.out rfl
        have z2 := cell_at (i := 2) HPR.out rfl
        have z3 := cell_at (i := 3) HPR.out rfl
        have z4 := cell_at (i := 4) HPR.out rfl
        have z5 := cell_at (i := 5) HPR.out rfl
        have z6 := cell_at (i := 6) HPR.out rfl
        have z7 := cell_at (i := 7) HPR.out rfl
        have x0 := cell_at (i := 0) HZR.out rfl
        have x1 := cell_at (i := 1) HZR.out rfl
        have x2 := cell_at (i := 2) HZR.out rfl
        have x3 := cell_at (i := 3) HZR.out rfl
        have x4 := cell_at (i := 4) HZR.out rfl
        have x5 := cell_at (i := 5) HZR.out rfl
        have x6 := cell_at (i := 6) HZR.out rfl
        have x7 := cell_at (i := 7) HZR.out rfl
        have y0 := thawed_at (i := 0) HZR.out
        have y1 := thawed_at (i := 1) HZR.out
        have y2 := thawed_at (i := 2) HZR.out
        have y3 := thawed_at (i := 3) HZR.out
        have y4 := thawed_at (i := 4) HZR.out
        have y5 := thawed_at (i := 5) HZR.out
        have y6 := thawed_at (i := 6) HZR.out
        have y7 := thawed_at (i := 7) HZR.out
        obtain ⟨Z, hZ⟩ : ∃ Z : RA, Z = ⟨⟨v, ⟨cs, cd, ca, ce⟩, g, hh, Ks⟩, A3, c3⟩ := ⟨_, rfl⟩
        have m9 := set8_block HZR.out (⟨⟨v, ⟨cs, cd, ca, ce⟩, g, hh, Ks⟩, A3, c3⟩ : RA)
        have n9 := kept_set80 (w := wr) w.heap.size (⟨⟨v, ⟨cs, cd, ca, ce⟩, g, hh, Ks⟩, A3, c3⟩ : RA)
        have hko := HKR.out.own n9 (Nat.le_refl _)
        have hrb : RB _ q s j f := Kept.at n9 HRR.out (by have := HWQ.out; omega)
        have hoo := HOR.out.kept1 n9 HZR.out (by decide)
        dsimp only at m9 n9 hko hrb hoo
        rw [HT.out] at m9 n9 hko hrb hoo
        have KO := Lib.hid hko; have RBO := Lib.hid hrb; have OO := Lib.hid hoo
        clear n9 hko hrb hoo hZ
        go_wp2
        generalize World.setCell (World.setCell (World.setCell (World.setCell (World.setCell (World.setCell (World.setCell (World.setCell wr ⟨w.heap.size, 0, none⟩ (.string v)) ⟨w.heap.size, 1, none⟩ (.string cs)) ⟨w.heap.size, 2, none⟩ (.bool cd)) ⟨w.heap.size, 3, none⟩ (.int .i64 ca)) ⟨w.heap.size, 4, none⟩ (.int .i64 ce)) ⟨w.heap.size, 5, none⟩ (.int .i64 g)) ⟨w.heap.size, 6, none⟩ (.int .i64 hh)) ⟨w.heap.size, 7, none⟩ (.slice A3 t c3) = w9 at m9 KO RBO OO ⊢
        clear z0 z1 z2 z3 z4 z5 z6 z7 x0 x1 x2 x3 x4 x5 x6 x7 y0 y1 y2 y3 y4 y5 y6 y7
        have q0 := cell_at (i := 0) m9 rfl
        have q1 := cell_at (i := 1) m9 rfl
        have q2 := cell_at (i := 2) m9 rfl
        have q3 := cell_at (i := 3) m9 rfl
        have q4 := cell_at (i := 4) m9 rfl
        have q5 := cell_at (i := 5) m9 rfl
        have q6 := cell_at (i := 6) m9 rfl
        have q7 := cell_at (i := 7) m9 rfl
        refine bodyPost_ret (v := .agg #[.string v, .string cs, .bool cd, .int .i64 ca, .int .i64 ce, .int .i64 g, .int .i64 hh, .slice A3 t c3]) ?_ rfl ?_
        · simp [results, Tryz.results77, go_sem, q0, q1, q2, q3, q4, q5, q6, q7]
        · refine ⟨⟨⟨v, ⟨cs, cd, ca, ce⟩, g, hh, Ks⟩, A3, c3⟩, j, f, ?_, RBO.out, KO.out, ?_, ?_, HWE.out⟩
          · dsimp only; rw [HT.out]
          · unfold OwnC; dsimp only; rw [HT.out]; exact OO.out
          · dsimp only; rw [HT.out]; have := HLR.out.many; have := HN.out; have := HT.out; omega
    · obtain rfl : t = n := by omega
      have i2 : decide ((t : Int) < (t : Int)) = false := by simp
      have HWE := Lib.hid (Went.row HW1.out HW2.out HW3.out HW4.out HW5.out HLR.out fun _ => HT.out)
      have z0 := cell_at (i := 0) HPR.out rfl
      have z1 := cell_at (i := 1) HPR.out rfl
      have z2 := cell_at (i := 2) HPR.out rfl
      have z3 := cell_at (i := 3) HPR.out rfl
      have z4 := cell_at (i := 4) HPR.out rfl
      have z5 := cell_at (i := 5) HPR.out rfl
      have z6 := cell_at (i := 6) HPR.out rfl
      have z7 := cell_at (i := 7) HPR.out rfl
      have x0 := cell_at (i := 0) HZR.out rfl
      have x1 := cell_at (i := 1) HZR.out rfl
      have x2 := cell_at (i := 2) HZR.out rfl
      have x3 := cell_at (i := 3) HZR.out rfl
      have x4 := cell_at (i := 4) HZR.out rfl
      have x5 := cell_at (i := 5) HZR.out rfl
      have x6 := cell_at (i := 6) HZR.out rfl
      have x7 := cell_at (i := 7) HZR.out rfl
      have y0 := thawed_at (i := 0) HZR.out
      have y1 := thawed_at (i := 1) HZR.out
      have y2 := thawed_at (i := 2) HZR.out
      have y3 := thawed_at (i := 3) HZR.out
      have y4 := thawed_at (i := 4) HZR.out
      have y5 := thawed_at (i := 5) HZR.out
      have y6 := thawed_at (i := 6) HZR.out
      have y7 := thawed_at (i := 7) HZR.out
      obtain ⟨Z, hZ⟩ : ∃ Z : RA, Z = ⟨⟨v, ⟨cs, cd, ca, ce⟩, g, hh, Ks⟩, A3, c3⟩ := ⟨_, rfl⟩
      have m9 := set8_block HZR.out (⟨⟨v, ⟨cs, cd, ca, ce⟩, g, hh, Ks⟩, A3, c3⟩ : RA)
      have n9 := kept_set80 (w := wr) w.heap.size (⟨⟨v, ⟨cs, cd, ca, ce⟩, g, hh, Ks⟩, A3, c3⟩ : RA)
      have hko := HKR.out.own n9 (Nat.le_refl _)
      have hrb : RB _ q s j f := Kept.at n9 HRR.out (by have := HWQ.out; omega)
      have hoo := HOR.out.kept1 n9 HZR.out (by decide)
      dsimp only at m9 n9 hko hrb hoo
      rw [HT.out] at m9 n9 hko hrb hoo
      have KO := Lib.hid hko; have RBO := Lib.hid hrb; have OO := Lib.hid hoo
      clear n9 hko hrb hoo hZ
      go_wp2
      generalize World.setCell (World.setCell (World.setCell (World.setCell (World.setCell (World.setCell (World.setCell (World.setCell wr ⟨w.heap.size, 0, none⟩ (.string v)) ⟨w.heap.size, 1, none⟩ (.string cs)) ⟨w.heap.size, 2, none⟩ (.bool cd)) ⟨w.heap.size, 3, none⟩ (.int .i64 ca)) ⟨w.heap.size, 4, none⟩ (.int .i64 ce)) ⟨w.heap.size, 5, none⟩ (.int .i64 g)) ⟨w.heap.size, 6, none⟩ (.int .i64 hh)) ⟨w.heap.size, 7, none⟩ (.slice A3 t c3) = w9 at m9 KO RBO OO ⊢
      clear z0 z1 z2 z3 z4 z5 z6 z7 x0 x1 x2 x3 x4 x5 x6 x7 y0 y1 y2 y3 y4 y5 y6 y7
      have q0 := cell_at (i := 0) m9 rfl
      have q1 := cell_at (i := 1) m9 rfl
      have q2 := cell_at (i := 2) m9 rfl
      have q3 := cell_at (i := 3) m9 rfl
      have q4 := cell_at (i := 4) m9 rfl
      have q5 := cell_at (i := 5) m9 rfl
      have q6 := cell_at (i := 6) m9 rfl
      have q7 := cell_at (i := 7) m9 rfl
      refine bodyPost_ret (v := .agg #[.string v, .string cs, .bool cd, .int .i64 ca, .int .i64 ce, .int .i64 g, .int .i64 hh, .slice A3 t c3]) ?_ rfl ?_
      · simp [results, Tryz.results77, go_sem, q0, q1, q2, q3, q4, q5, q6, q7]
      · refine ⟨⟨⟨v, ⟨cs, cd, ca, ce⟩, g, hh, Ks⟩, A3, c3⟩, j, f, ?_, RBO.out, KO.out, ?_, ?_, HWE.out⟩
        · dsimp only; rw [HT.out]
        · unfold OwnC; dsimp only; rw [HT.out]; exact OO.out
        · dsimp only; rw [HT.out]; have := HLR.out.many; have := HN.out; have := HT.out; omega
end Go.Proofs.YthfanonjokpflaaGreat
set_option linter.unusedVariables false
set_option linter.unusedSimpArgs false
namespace Go.Proofs.YthfanonjokpflaaGreat
open Go Go.RowKit

/-- The merge under way. -/
structure MSt (w wr : World) (B B' : Nat) (R : List Ro) (A1 A2 : Option Addr) (n1 n2 c1 c2 : Nat) (la lb M : List RA) (vm : Value) : Prop where
  a : Lies w B A1 n1 c1 la
  b : Lies w B' A2 n2 c2 lb
  sum : M.length + (n1 + n2) ≤ 1000
  run : runK Ro.key Ro.join (ros M) (ros la) (ros lb) = R
  ua : ∀ x ∈ la, x.ro.Up
  ub : ∀ x ∈ lb, x.ro.Up
  um : ∀ x ∈ M, x.ro.Up
  tt : tot M + (tot la + tot lb) ≤ 1000
  own : Own w wr vm M
/-- .. with x taken off a list. -/
structure MPd (w : World) (B B' : Nat) (R : List Ro) (A1 A2 : Option Addr) (n1 n2 c1 c2 : Nat) (la lb M : List RA) (x : RA) : Prop where
  a : Lies w B A1 n1 c1 la
  b : Lies w B' A2 n2 c2 lb
  sum : M.length + 1 + (n1 + n2) ≤ 1000
  run : runK Ro.key Ro.join (pushK Ro.key Ro.join (ros M) x.ro) (ros la) (ros lb) = R
  ua : ∀ x ∈ la, x.ro.Up
  ub : ∀ x ∈ lb, x.ro.Up
  um : ∀ x ∈ M, x.ro.Up
  ux : x.ro.Up
  tt : tot M + x.ro.cols.length + (tot la + tot lb) ≤ 1000
section
variable {w wr w' : World} {B B' : Nat} {R : List Ro} {A1 A2 : Option Addr} {n1 n2 c1 c2 : Nat} {la lb M L : List RA} {vm v' : Value} {x y z : RA}
theorem MPd.app (h : MPd w B B' R A1 A2 n1 n2 c1 c2 la lb M x) (hp : pushK Ro.key Ro.join (ros M) x.ro = ros M ++ [x.ro]) (ho : Own w w' v' (M ++ [x])) : MSt w w' B B' R A1 A2 n1 n2 c1 c2 la lb (M ++ [x]) v' where
  a := h.a
  b := h.b
  sum := by have := h.sum; simp; omega
  run := by have := h.run; rw [hp] at this; simpa [ros] using this
  ua := h.ua
  ub := h.ub
  um := fun y hy => by
    rcases List.mem_append.1 hy with h1 | h1
    · exact h.um y h1
    · rw [List.mem_singleton.1 h1]; exact h.ux
  tt := by have := h.tt; rw [tot_app, tot_cons, tot_nil]; omega
  own := ho
theorem MPd.put (h : MPd w B B' R A1 A2 n1 n2 c1 c2 la lb M x) (hM : M = L ++ [y]) (hk : y.ro.key = x.ro.key) (hz : z.ro = y.ro.join x.ro) (ho : Own w w' v' (M.set L.length z)) : MSt w w' B B' R A1 A2 n1 n2 c1 c2 la lb (L ++ [z]) v' where
  a := h.a
  b := h.b
  sum := by have := h.sum; rw [hM] at this; simp at this ⊢; omega
  run := by
    have := h.run
    rw [hM, show ros (L ++ [y]) = ros L ++ [y.ro] by simp [ros], pushK_last, if_pos hk] at this
    rw [show ros (L ++ [z]) = ros L ++ [z.ro] by simp [ros], hz]
    exact this
  ua := h.ua
  ub := h.ub
  um := fun t ht => by
    rcases List.mem_append.1 ht with h1 | h1
    · exact h.um t (by rw [hM]; exact List.mem_append_left _ h1)
    · rw [List.mem_singleton.1 h1, hz]; exact (h.um y (by rw [hM]; simp)).join h.ux
  tt := by
    have := h.tt
    rw [hM, tot_app, tot_cons, tot_nil] at this
    rw [tot_app, tot_cons, tot_nil, hz]
    have := len_join y.ro x.ro
    omega
  own := by
    have e : M.set L.length z = L ++ [z] := by rw [hM]; simp
    rw [← e]
    exact ho
end

end Go.Proofs.YthfanonjokpflaaGreat
set_option linter.unusedVariables false
set_option linter.unusedSimpArgs false
namespace Go.Proofs.YthfanonjokpflaaGreat
open Go Go.RowKit

theorem set3_block {w : World} {q : Nat} {v0 v1 v2 : Value} (h : w.heap[q]? = some (.cells #[v0, v1, v2] 24 (0, 0))) (u0 u1 u2 : Value) :
    (((w.setCell ⟨q, 0, none⟩ u0).setCell ⟨q, 1, none⟩ u1).setCell ⟨q, 2, none⟩ u2).heap[q]? = some (.cells #[u0, u1, u2] 24 (0, 0)) := by
  have h0 := Joins.block_setCell (i := 0) h u0
  simp only [List.setIfInBounds_toArray, List.set_cons_zero, List.set_cons_succ] at h0
  have h1 := Joins.block_setCell (i := 1) h0 u1
  simp only [List.setIfInBounds_toArray, List.set_cons_zero, List.set_cons_succ] at h1
  have h2 := Joins.block_setCell (i := 2) h1 u2
  simpa only [List.setIfInBounds_toArray, List.set_cons_zero, List.set_cons_succ] using h2
theorem kept_set3 {w : World} (q : Nat) (u0 u1 u2 : Value) : Kept (fun k => k = q) w (((w.setCell ⟨q, 0, none⟩ u0).setCell ⟨q, 1, none⟩ u1).setCell ⟨q, 2, none⟩ u2) :=
  (((Kept.refl (fun k => k = q) w).trans (Kept.setCell (fun k => k = q) _ ⟨q, 0, none⟩ u0 rfl) fun _ h => Or.inl h).trans (Kept.setCell (fun k => k = q) _ ⟨q, 1, none⟩ u1 rfl) fun _ h => Or.inl h).trans (Kept.setCell (fun k => k = q) _ ⟨q, 2, none⟩ u2 rfl) fun _ h => Or.inl h
theorem part_setrows {w : World} {r : Nat} {v0 v1 v2 : Value} (hr : w.heap[r]? = some (.cells #[v0, v1, v2] 24 (0, 0))) (u : Value) : (w.setCell ⟨r, 2, none⟩ u).heap[r]? = some (.cells #[v0, v1, u] 24 (0, 0)) := by
  have m := Joins.block_setCell (i := 2) hr u
  simp only [List.setIfInBounds_toArray, List.set_cons_zero, List.set_cons_succ] at m
  exact m

end Go.Proofs.YthfanonjokpflaaGreat
set_option linter.unusedVariables false
set_option linter.unusedSimpArgs false
namespace Go.Proofs.YthfanonjokpflaaGreat
open Go Go.RowKit

theorem OwnC.grown {w0 w w' : World} {x : RA} {b n : Nat} {v : Value} {xs : List Value} (h : OwnC w0 w x) (ho : w.ownsRow b 57 8 v n xs) (hg : w.grownBy w' v.ownBlock) : OwnC w0 w' x :=
  h.kept (F := fun k => v.ownBlock = some k) (Kept.of_grown hg fun k hk => hk) (fun k hk => own_tag ho k hk) (by decide)
theorem Fresh.app {w0 w w' : World} {v v' : Value} {L k : List RA} {N : Nat} (h : Fresh w0 w v L) (hk : ∀ x ∈ k, OwnC w0 w x) (ho : w'.ownsRow w0.heap.size 57 8 v' N (rRow (L ++ k))) (hg : w.grownBy w' v.ownBlock) : ∃ A m c, v' = .slice A m c ∧ m = (L ++ k).length ∧ Fresh w0 w' (.slice A m c) (L ++ k) := by
  obtain ⟨A, m, c, rfl, h1⟩ := h.cur.appN ho hg
  refine ⟨A, m, c, rfl, ?_, h1, fun x hx => ?_⟩
  · obtain ⟨A', c', e, _⟩ := own_slice h1.own
    injection e
  · rcases List.mem_append.1 hx with h2 | h2
    · exact (h.cols x h2).grown h.cur.own hg
    · exact (hk x h2).grown h.cur.own hg
theorem Fresh.nil {w V : World} (hb : Below w.heap.size w V) : Fresh w V (.slice none 0 0) [] := ⟨⟨own_nilR _ _, hb⟩, fun x hx => by cases hx⟩

set_option maxRecDepth 8000 in
set_option maxHeartbeats 4000000 in
theorem rcopyrow_ra (x : RA) (B : Nat) (w : World) (h : RaIn w B x) (hB : B ≤ w.heap.size) (hn : x.ro.cols.length ≤ 1000) :
    Calls Tryz.prog 63 #[.agg #[.string x.ro.key, .string x.ro.live.s, .bool x.ro.live.d, .int .i64 x.ro.live.a, .int .i64 x.ro.live.e, .int .i64 x.ro.gone, .int .i64 x.ro.shade, .slice x.A x.ro.cols.length x.c]] w fun e w' => ∃ z : RA, e = .returned z.v ∧ z.ro = x.ro ∧ Cur w w' (.slice z.A z.ro.cols.length z.c) z.ro.cols := by
  have bz := ((Below.refl w.heap.size w).alloc (Nat.le_refl _) (.cells #[.string x.ro.key, .string x.ro.live.s, .bool x.ro.live.d, .int .i64 x.ro.live.a, .int .i64 x.ro.live.e, .int .i64 x.ro.gone, .int .i64 x.ro.shade, .slice x.A x.ro.cols.length x.c] 57)).alloc (by simp) (.cells #[.string ⟨#[]⟩, .string ⟨#[]⟩, .bool false, .int .i64 0, .int .i64 0, .int .i64 0, .int .i64 0, .slice none 0 0] 57)
  have hz0 := new_at (heap_alloc_new w (.cells #[.string x.ro.key, .string x.ro.live.s, .bool x.ro.live.d, .int .i64 x.ro.live.a, .int .i64 x.ro.live.e, .int .i64 x.ro.gone, .int .i64 x.ro.shade, .slice x.A x.ro.cols.length x.c] 57)) (.cells #[.string ⟨#[]⟩, .string ⟨#[]⟩, .bool false, .int .i64 0, .int .i64 0, .int .i64 0, .int .i64 0, .slice none 0 0] 57)
  have hz1 := heap_alloc_new (w.alloc (.cells #[.string x.ro.key, .string x.ro.live.s, .bool x.ro.live.d, .int .i64 x.ro.live.a, .int .i64 x.ro.live.e, .int .i64 x.ro.gone, .int .i64 x.ro.shade, .slice x.A x.ro.cols.length x.c] 57)) (.cells #[.string ⟨#[]⟩, .string ⟨#[]⟩, .bool false, .int .i64 0, .int .i64 0, .int .i64 0, .int .i64 0, .slice none 0 0] 57)
  simp only [World.size_alloc] at hz1
  obtain ⟨V, hV⟩ : ∃ V, V = (w.alloc (.cells #[.string x.ro.key, .string x.ro.live.s, .bool x.ro.live.d, .int .i64 x.ro.live.a, .int .i64 x.ro.live.e, .int .i64 x.ro.gone, .int .i64 x.ro.shade, .slice x.A x.ro.cols.length x.c] 57)).alloc (.cells #[.string ⟨#[]⟩, .string ⟨#[]⟩, .bool false, .int .i64 0, .int .i64 0, .int .i64 0, .int .i64 0, .slice none 0 0] 57) := ⟨_, rfl⟩
  have hVs : V.heap.size = w.heap.size + 2 := by rw [hV]; simp
  rw [← hV] at bz hz0 hz1
  have ha := (Below.refl V.heap.size V).alloc (Nat.le_refl _) (.cells #[.string x.ro.key, .string x.ro.live.s, .bool x.ro.live.d, .int .i64 x.ro.live.a, .int .i64 x.ro.live.e, .int .i64 x.ro.gone, .int .i64 x.ro.shade, .slice x.A x.ro.cols.length x.c] 57)
  have hx2 := heap_alloc_new V (.cells #[.string x.ro.key, .string x.ro.live.s, .bool x.ro.live.d, .int .i64 x.ro.live.a, .int .i64 x.ro.live.e, .int .i64 x.ro.gone, .int .i64 x.ro.shade, .slice x.A x.ro.cols.length x.c] 57)
  have hrd := (h.below (bz.mono hB)).below (ha.mono (by omega))
  have hu0 := (ha.block w.heap.size (by omega)).trans hz0
  have hu1 := (ha.block (w.heap.size + 1) (by omega)).trans hz1
  obtain ⟨U, hU⟩ : ∃ U, U = V.alloc (.cells #[.string x.ro.key, .string x.ro.live.s, .bool x.ro.live.d, .int .i64 x.ro.live.a, .int .i64 x.ro.live.e, .int .i64 x.ro.gone, .int .i64 x.ro.shade, .slice x.A x.ro.cols.length x.c] 57) := ⟨_, rfl⟩
  have hUs : U.heap.size = V.heap.size + 1 := by rw [hU]; simp
  rw [← hU] at ha hx2 hrd hu0 hu1
  have hrd2 := hrd.rd
  have k7 : U.cell? ⟨w.heap.size, 7, none⟩ = some (.slice x.A x.ro.cols.length x.c) := cell_at (i := 7) hu0 rfl
  have HRD := Lib.hid hrd2; have HX2 := Lib.hid hx2; have HU1 := Lib.hid hu1; have BU := Lib.hid (next bz ha); have HS := Lib.hid hVs; have HUS := Lib.hid hUs
  obtain ⟨_, _, _, _, _, _, _, _⟩ := BlkAt.of hz0
  clear hrd hrd2 hx2 hu0 hu1 ha bz hz0 hz1 hVs hUs h
  go_enter Tryz.func63, Tryz.ntmps63
  go_wp2_with (at_builtin; rw [← hV]; rw [← hU]; clear hU; clear hV; refine list_ex rfl (.const (.slice none 0 0)) (.tmp 6) _ _ rfl (.slice none 0 0) (.slice x.A x.ro.cols.length x.c) rfl rfl (run_appK U.heap.size (own_nilK _ _) (show RdK _ B x.A x.ro.cols.length x.ro.cols from HRD.out) ?s1 ?s2) ?_)
  case s1 => omega
  case s2 => exact Nat.le_refl _
  intro v3 w3 ho3 hg3 _
  obtain ⟨A3, m3, c3, rfl, hc3⟩ := (⟨own_nilK _ _, Below.refl _ _⟩ : Cur U U (.slice none 0 0) []).appN ho3 hg3
  rw [List.nil_append] at hc3
  have hm3 : m3 = x.ro.cols.length := by
    obtain ⟨A', c', e, _⟩ := own_slice hc3.own
    injection e
  have hx3 := (hc3.below.block V.heap.size (by have := HUS.out; omega)).trans HX2.out
  have hr3 := (hc3.below.block (w.heap.size + 1) (by have := HUS.out; have := HS.out; omega)).trans HU1.out
  have k7' : w3.cell? ⟨V.heap.size, 7, none⟩ = some (.slice x.A x.ro.cols.length x.c) := cell_at (i := 7) hx3 rfl
  have f7 := thawed_at (i := 7) hx3
  have m4 := block_set7 hx3 (.slice A3 m3 c3)
  have n3 := (Below.heap_setCell w3 ⟨V.heap.size, 7, none⟩ (.slice A3 m3 c3) (w.heap.size + 1) (by have := HS.out; show w.heap.size + 1 ≠ V.heap.size; omega)).trans hr3
  have r0 := cell_at (i := 0) m4 rfl
  have r1 := cell_at (i := 1) m4 rfl
  have r2 := cell_at (i := 2) m4 rfl
  have r3 := cell_at (i := 3) m4 rfl
  have r4 := cell_at (i := 4) m4 rfl
  have r5 := cell_at (i := 5) m4 rfl
  have r6 := cell_at (i := 6) m4 rfl
  have r7 := cell_at (i := 7) m4 rfl
  have z0 := cell_at (i := 0) n3 rfl
  have z1 := cell_at (i := 1) n3 rfl
  have z2 := cell_at (i := 2) n3 rfl
  have z3 := cell_at (i := 3) n3 rfl
  have z4 := cell_at (i := 4) n3 rfl
  have z5 := cell_at (i := 5) n3 rfl
  have z6 := cell_at (i := 6) n3 rfl
  have z7 := cell_at (i := 7) n3 rfl
  have y0 := thawed_at (i := 0) n3
  have y1 := thawed_at (i := 1) n3
  have y2 := thawed_at (i := 2) n3
  have y3 := thawed_at (i := 3) n3
  have y4 := thawed_at (i := 4) n3
  have y5 := thawed_at (i := 5) n3
  have y6 := thawed_at (i := 6) n3
  have y7 := thawed_at (i := 7) n3
  have C3 := Lib.hid hc3; have N3 := Lib.hid n3; have X3 := Lib.hid hx3; have R3 := Lib.hid hr3; have M3 := Lib.hid hm3
  clear hc3 n3 m4 hx3 hr3 ho3 hg3 hm3
  rw [← show V.heap.size = w.heap.size + 1 + 1 by have := HS.out; omega]
  go_wp2
  have hm3 := M3.out
  subst hm3
  have m9 := set8_block N3.out (⟨x.ro, A3, c3⟩ : RA)
  have k9 := (Kept.setCell (fun k => k = V.heap.size ∨ k = w.heap.size + 1) w3 ⟨V.heap.size, 7, none⟩ (.slice A3 x.ro.cols.length c3) (Or.inl rfl)).trans (kept_set80 (w.heap.size + 1) (⟨x.ro, A3, c3⟩ : RA)) fun k hk => Or.inl (Or.inr hk)
  dsimp only at m9 k9
  have hf9 : OwnC w _ (⟨x.ro, A3, c3⟩ : RA) := OwnC.kept (w0 := w) (w := w3) (x := ⟨x.ro, A3, c3⟩) (e := 57) (own_base C3.out.own BU.out.size) k9 (fun k hk => by
    rcases hk with rfl | rfl
    · exact ⟨_, X3.out⟩
    · exact ⟨_, R3.out⟩) (by decide)
  have hb9 := (BU.out.trans (C3.out.below.mono BU.out.size)).trans (k9.below (B := w.heap.size) (fun k e => by have := HS.out; omega) (by have := BU.out.size; have := C3.out.below.size; omega))
  have HF9 := Lib.hid hf9; have HB9 := Lib.hid hb9
  clear hf9 hb9
  generalize hw9 : World.setCell (World.setCell (World.setCell (World.setCell (World.setCell (World.setCell (World.setCell (World.setCell (w3.setCell ⟨V.heap.size, 7, none⟩ (.slice A3 x.ro.cols.length c3)) ⟨w.heap.size + 1, 0, none⟩ (.string x.ro.key)) ⟨w.heap.size + 1, 1, none⟩ (.string x.ro.live.s)) ⟨w.heap.size + 1, 2, none⟩ (.bool x.ro.live.d)) ⟨w.heap.size + 1, 3, none⟩ (.int .i64 x.ro.live.a)) ⟨w.heap.size + 1, 4, none⟩ (.int .i64 x.ro.live.e)) ⟨w.heap.size + 1, 5, none⟩ (.int .i64 x.ro.gone)) ⟨w.heap.size + 1, 6, none⟩ (.int .i64 x.ro.shade)) ⟨w.heap.size + 1, 7, none⟩ (.slice A3 x.ro.cols.length c3) = w9 at m9 k9 HF9 HB9 ⊢
  clear hw9 r0 r1 r2 r3 r4 r5 r6 r7 z0 z1 z2 z3 z4 z5 z6 z7 y0 y1 y2 y3 y4 y5 y6 y7
  have q0 := cell_at (i := 0) m9 rfl
  have q1 := cell_at (i := 1) m9 rfl
  have q2 := cell_at (i := 2) m9 rfl
  have q3 := cell_at (i := 3) m9 rfl
  have q4 := cell_at (i := 4) m9 rfl
  have q5 := cell_at (i := 5) m9 rfl
  have q6 := cell_at (i := 6) m9 rfl
  have q7 := cell_at (i := 7) m9 rfl
  refine bodyPost_ret (v := .agg #[.string x.ro.key, .string x.ro.live.s, .bool x.ro.live.d, .int .i64 x.ro.live.a, .int .i64 x.ro.live.e, .int .i64 x.ro.gone, .int .i64 x.ro.shade, .slice A3 x.ro.cols.length c3]) ?_ rfl ?_
  · simp [results, Tryz.results63, go_sem, q0, q1, q2, q3, q4, q5, q6, q7]
  · exact ⟨⟨x.ro, A3, c3⟩, rfl, rfl, HF9.out, HB9.out⟩

set_option maxRecDepth 8000 in
set_option maxHeartbeats 8000000 in
theorem rpcopy_any (k : ByteArray) (g : Int) (A : Option Addr) (n c B : Nat) (L : List RA) (w : World) (h : Lies w B A n c L) (hB : B ≤ w.heap.size) (hn : n ≤ 1000) (hf : ∀ x ∈ L, x.ro.cols.length ≤ 1000) :
    Calls Tryz.prog 26 #[.agg #[.string k, .int .i64 g, .slice A n c]] w fun e w' => ∃ M A' n' c', e = .returned (.agg #[.string k, .int .i64 g, .slice A' n' c']) ∧ ros M = ros L ∧ Fresh w w' (.slice A' n' c') M := by
  have hl := h.len
  have bz := ((Below.refl w.heap.size w).alloc (Nat.le_refl _) (.cells #[.string k, .int .i64 g, .slice A n c] 24)).alloc (by simp) (.cells #[.string ⟨#[]⟩, .int .i64 0, .slice none 0 0] 24)
  have hz0 := new_at (heap_alloc_new w (.cells #[.string k, .int .i64 g, .slice A n c] 24)) (.cells #[.string ⟨#[]⟩, .int .i64 0, .slice none 0 0] 24)
  have hz1 := heap_alloc_new (w.alloc (.cells #[.string k, .int .i64 g, .slice A n c] 24)) (.cells #[.string ⟨#[]⟩, .int .i64 0, .slice none 0 0] 24)
  simp only [World.size_alloc] at hz1
  obtain ⟨V, hV⟩ : ∃ V, V = (w.alloc (.cells #[.string k, .int .i64 g, .slice A n c] 24)).alloc (.cells #[.string ⟨#[]⟩, .int .i64 0, .slice none 0 0] 24) := ⟨_, rfl⟩
  have hVs : V.heap.size = w.heap.size + 2 := by rw [hV]; simp
  rw [← hV] at bz hz0 hz1
  have HL := Lib.hid hl; have HH := Lib.hid (h.below (bz.mono hB)); have HF := Lib.hid hf; have BZ := Lib.hid bz; have HZ0 := Lib.hid hz0; have HZ1 := Lib.hid hz1; have HVS := Lib.hid hVs
  have HNB := Lib.hid hn
  have hp0 : ∀ w', Below V.heap.size V w' → PtAt w' w.heap.size k g A n c := fun w' hb => PtAt.of ((hb.block w.heap.size (by omega)).trans hz0)
  have HP0 := Lib.hid hp0
  obtain ⟨_, _, _⟩ := PtAt.of hz0
  have hv2 : V.heap.size = w.heap.size + 1 + 1 := by omega
  have HV2 := Lib.hid hv2
  clear hl h hf bz hz0 hz1 hVs hp0 hv2
  go_enter Tryz.func26, Tryz.ntmps26
  go_wp2_with fail
  rw [← hV]
  clear hV
  go_wp2_with fail
  rw [← HV2.out]
  go_loopw [4] (fun i wr => ∃ (t m : Nat) (K : List RA) (A3 : Option Addr) (c3 : Nat), t ≤ n ∧ i = .int .i64 t ∧ K.length = m ∧ m ≤ t ∧ ros K = ros (L.take t) ∧ wr.heap[V.heap.size]? = some (.cells #[.string k, .int .i64 g, .slice A3 m c3] 24) ∧ Fresh V wr (.slice A3 m c3) K) (fun i _ => n - (intOf i).toNat)
  case atStart => exact ⟨0, 0, [], none, 0, Nat.zero_le _, rfl, rfl, Nat.le_refl _, rfl, heap_alloc_new V _, Fresh.nil ((Below.refl V.heap.size V).alloc (Nat.le_refl _) _)⟩
  case round =>
    obtain ⟨t, m, K, A3, c3, ht, rfl, hm, hmt, hk, hp, ho⟩ := hrel
    have HM := Lib.hid hm; have HMT := Lib.hid hmt; have HK := Lib.hid hk; have HT := Lib.hid hp; have HO := Lib.hid ho
    obtain ⟨_, _, _⟩ := HP0.out _ ho.below
    clear hm hmt hk ho
    by_cases hlt : t < n
    · have i1 : (t : Int) < n := by omega
      have i0 : (0 : Int) ≤ t := by omega
      have htl : t < L.length := by rw [HL.out]; exact hlt
      obtain ⟨g0, o0, rfl, hgb⟩ := HH.out.rd.ex (by omega)
      have htk := ros_take htl
      have hlies := HH.out.below (HO.out.below.mono (by have := HVS.out; omega))
      have hin := hlies.held L[t] (List.getElem_mem htl)
      have hcl := HF.out L[t] (List.getElem_mem htl)
      obtain ⟨x, hx⟩ : ∃ x, L[t] = x := ⟨_, rfl⟩
      have hrw : ∀ w', Below V.heap.size V w' → RowAt w' g0 (o0 + t * 8) x := fun w' hb => by
        have h1 := (HH.out.below (hb.mono (by have := HVS.out; omega))).rd.row htl
        rwa [hx] at h1
      rw [hx] at hin hcl htk
      have HIN := Lib.hid hin; have HCL := Lib.hid hcl; have HTK := Lib.hid htk; have HRW := Lib.hid hrw
      have HUB : Hid (B ≤ wr.drew.heap.size) := Lib.hid (by have := HVS.out; have := HO.out.below.size; show B ≤ wr.heap.size; omega)
      clear hin hcl htk hrw hx hlies hp
      go_wp2_with fail
      refine wp_region_z (S := fun w' => w'.heap[V.heap.size]? = some (.cells #[.string k, .int .i64 g, .slice A3 m c3] 24) ∧ Below V.heap.size V w') 11 (by kernel_rfl) ?_ (fun hHeld => ?_)
      · exact ⟨HT.out, HO.out.below.drew⟩
      refine takesZ [0, 1, 2, 3, 4, 5, 6] ?_
      repeat
        refine takesZ_one (v := ?_) ?_ ?_
        rotate_left
        · first | (refine Or.inr ⟨by rfl, ?_⟩; with_reducible rfl) | (refine Or.inl ⟨by rfl, ?_⟩; intro wx hSw; (try dsimp only at hSw); first | (go_simp; first | done | with_reducible rfl) | (obtain ⟨_, _, _⟩ := PtAt.of hSw.1; go_simp; first | done | with_reducible rfl) | (obtain ⟨_, _, _⟩ := HP0.out _ hSw.2; go_simp; first | done | with_reducible rfl) | (obtain ⟨_, _, _, _, _, _, _, _⟩ := HRW.out _ hSw.2; go_simp; first | done | with_reducible rfl))
        try simp only [Act.put, List.getElem_toArray, List.getElem_cons_succ, List.getElem_cons_zero, List.setIfInBounds_toArray, List.set_cons_zero, List.set_cons_succ]
      refine takesZ_nil ?_
      refine wpAnyZ_one (i := 7) (by kernel_rfl) rfl (fun K hK => ?_)
      go_simp
      refine (rcopyrow_ra x B wr.drew (HIN.out.below (Below.refl _ _).drew) HUB.out HCL.out).mono ?_
      rintro e v4 ⟨z, rfl, hz, hcz⟩
      unfold RA.v Ro.val
      have HZ := Lib.hid hz
      have hb4 : Below wr.heap.size wr v4 := next (w := wr) (w1 := wr.drew) ((Below.refl wr.heap.size wr).drew) hcz.below
      have C4 := Lib.hid (HO.out.on hb4)
      have hz4 : OwnC V v4 z := own_base hcz.own HO.out.below.size
      have T4 := Lib.hid ((hb4.block V.heap.size (Array.getElem?_eq_some_iff.1 HT.out).1).trans HT.out)
      have RD := Lib.hid (RdR.laid v4 z)
      have ba4 := (Below.refl v4.heap.size v4).alloc (Nat.le_refl _) (.cells #[.string z.ro.key, .string z.ro.live.s, .bool z.ro.live.d, .int .i64 z.ro.live.a, .int .i64 z.ro.live.e, .int .i64 z.ro.gone, .int .i64 z.ro.shade, .slice z.A z.ro.cols.length z.c] 57)
      have C5 := Lib.hid (C4.out.on ba4)
      have HZ5 := Lib.hid (hz4.on ba4)
      have T5 := Lib.hid ((ba4.block V.heap.size (Array.getElem?_eq_some_iff.1 T4.out).1).trans T4.out)
      clear hz hcz hb4 hz4 ba4
      try go_wp2_with fail
      refine hK.out _ _ ?_ (fun hHeld => ?_)
      · exact ⟨T4.out, C4.out.below⟩
      clear hK K
      try simp only [Act.put, List.getElem_toArray, List.getElem_cons_succ, List.getElem_cons_zero, List.setIfInBounds_toArray, List.set_cons_zero, List.set_cons_succ]
      refine wpAnyZ_one (i := 8) (by kernel_rfl) rfl (fun K hK => ?_)
      go_simp
      refine hK.out _ _ ?_ (fun hHeld => ?_)
      · exact ⟨T5.out, C5.out.below⟩
      clear hK K
      try simp only [Act.put, List.getElem_toArray, List.getElem_cons_succ, List.getElem_cons_zero, List.setIfInBounds_toArray, List.set_cons_zero, List.set_cons_succ]
      refine wpAnyZ_one (i := 9) (by kernel_rfl) rfl (fun K hK => ?_)
      refine step_ex rfl (.tmp 18) (.tmp 25) _ _ rfl (.slice A3 m c3) (.slice (some ⟨v4.heap.size, 0, none⟩) 1 1) (by simp [Act.eval]) (by simp [Act.eval]) (run_appR V.heap.size (HM.out ▸ C5.out.cur.own) RD.out ?s3 ?s4) ?_
      case s3 => have := HMT.out; have := HNB.out; omega
      case s4 => exact C5.out.below.size
      intro v6 w6 ho6 hg6
      obtain ⟨hg6, _⟩ := hg6
      obtain ⟨A6, m6, c6, rfl, hm6, hc6⟩ := C5.out.app (k := [z]) (fun y hy => by rw [List.mem_singleton.1 hy]; exact HZ5.out) ho6 hg6
      have C6 := Lib.hid hc6
      have T6 := Lib.hid ((hg6.block V.heap.size (Array.getElem?_eq_some_iff.1 T5.out).1 (fun hp => own_ne C5.out.cur.own T5.out (by decide) _ hp.symm rfl)).trans T5.out)
      have M6 := Lib.hid hm6
      clear ho6 hg6 hc6 hm6
      refine hK.out _ _ ?_ (fun hHeld => ?_)
      · exact ⟨T6.out, C6.out.below⟩
      clear hK K
      try simp only [Act.put, List.getElem_toArray, List.getElem_cons_succ, List.getElem_cons_zero, List.setIfInBounds_toArray, List.set_cons_zero, List.set_cons_succ]
      have k2 := cell_at (i := 2) hHeld.1 rfl
      have f2 := thawed_at (i := 2) hHeld.1
      refine takesZ [10] ?_
      repeat
        refine takesZ_one (v := ?_) ?_ ?_
        rotate_left
        · first | (refine Or.inr ⟨by rfl, ?_⟩; with_reducible rfl) | (refine Or.inl ⟨by rfl, ?_⟩; intro wx hSw; (try dsimp only at hSw); first | (go_simp; first | done | with_reducible rfl))
        try simp only [Act.put, List.getElem_toArray, List.getElem_cons_succ, List.getElem_cons_zero, List.setIfInBounds_toArray, List.set_cons_zero, List.set_cons_succ]
      refine takesZ_nil ?_
      refine wpAnyZ_last (by kernel_rfl) rfl (fun K hK => ?_)
      go_simp
      refine hK.out _ _ ?_
      clear hK K
      try simp only [Act.put, List.getElem_toArray, List.getElem_cons_succ, List.getElem_cons_zero, List.setIfInBounds_toArray, List.set_cons_zero, List.set_cons_succ]
      refine wpAnyZ_done (by kernel_rfl) ?_ _
      have hp9 := part_setrows hHeld.1 (.slice A6 m6 c6)
      have hc9 := C6.out.kept (Kept.setCell (fun j => j = V.heap.size) w6 ⟨V.heap.size, 2, none⟩ (.slice A6 m6 c6) rfl) (e := 24) (fun j hj => by subst hj; exact ⟨Nat.le_refl _, _, hHeld.1⟩) (by decide) (by decide)
      generalize w6.setCell ⟨V.heap.size, 2, none⟩ (.slice A6 m6 c6) = w9 at hp9 hc9 ⊢
      have P9 := Lib.hid hp9; have C9 := Lib.hid hc9
      have hs : ros (K ++ [z]) = ros (L.take (t + 1)) := by rw [HTK.out, ← HK.out, ← HZ.out]; simp [ros]
      have HS := Lib.hid hs
      have hm7 : m6 = m + 1 := by rw [M6.out, List.length_append, HM.out]; rfl
      have HM7 := Lib.hid hm7
      clear hp9 hc9 hs hHeld k2 f2 hm7
      go_wp2
      go_roundw
      case rel => exact ⟨t + 1, m6, K ++ [z], A6, c6, by omega, by go_num, M6.out.symm, by rw [HM7.out]; have := HMT.out; omega, HS.out, P9.out, C9.out⟩
      case measure => simp [intOf]; omega
    · obtain rfl : t = n := by omega
      have k0 := cell_at (i := 0) HT.out rfl
      have k1 := cell_at (i := 1) HT.out rfl
      have k2 := cell_at (i := 2) HT.out rfl
      have hm1 := (HO.out.below.block (w.heap.size + 1) (by have := HVS.out; omega)).trans HZ1.out
      have z0 := cell_at (i := 0) hm1 rfl
      have z1 := cell_at (i := 1) hm1 rfl
      have z2 := cell_at (i := 2) hm1 rfl
      have y0 := thawed_at (i := 0) hm1
      have y1 := thawed_at (i := 1) hm1
      have y2 := thawed_at (i := 2) hm1
      have m9 := set3_block hm1 (.string k) (.int .i64 g) (.slice A3 m c3)
      have k9 := kept_set3 (w := wr) (w.heap.size + 1) (.string k) (.int .i64 g) (.slice A3 m c3)
      have hfr9 := (HO.out.lower BZ.out).kept k9 (e := 24) (fun j hj => by subst hj; exact ⟨by omega, _, hm1⟩) (by decide) (by decide)
      have hros : ros K = ros L := by rw [HK.out, List.take_of_length_le (by rw [HL.out]; exact Nat.le_refl _)]
      have HFR := Lib.hid hfr9; have HROS := Lib.hid hros
      clear hfr9 k9 hm1 hros hp
      go_wp2
      generalize hw9 : (((wr.setCell ⟨w.heap.size + 1, 0, none⟩ (.string k)).setCell ⟨w.heap.size + 1, 1, none⟩ (.int .i64 g)).setCell ⟨w.heap.size + 1, 2, none⟩ (.slice A3 m c3)) = w9 at m9 HFR ⊢
      clear hw9 z0 z1 z2 y0 y1 y2 k0 k1 k2
      have q0 := cell_at (i := 0) m9 rfl
      have q1 := cell_at (i := 1) m9 rfl
      have q2 := cell_at (i := 2) m9 rfl
      refine bodyPost_ret (v := .agg #[.string k, .int .i64 g, .slice A3 m c3]) ?_ rfl ?_
      · simp [results, Tryz.results26, go_sem, q0, q1, q2]
      · exact ⟨K, A3, m, c3, rfl, HROS.out, HFR.out⟩

set_option maxRecDepth 8000 in
set_option maxHeartbeats 8000000 in
theorem lpart_any (k : ByteArray) (g : Int) (A : Option Addr) (n c B : Nat) (L : List RA) (w : World) (h : Lies w B A n c L) (hB : B ≤ w.heap.size) (hn : n ≤ 1000) (hf : ∀ x ∈ L, x.ro.cols.length ≤ 1000) :
    Calls Tryz.prog 8 #[.agg #[.string k, .int .i64 g, .slice A n c]] w fun e w' => ∃ M A' n' c', e = .returned (.agg #[.string k, .int .i64 g, .slice A' n' c']) ∧ ros M = ros L ∧ Fresh w w' (.slice A' n' c') M := by
  have bz := ((Below.refl w.heap.size w).alloc (Nat.le_refl _) (.cells #[.string k, .int .i64 g, .slice A n c] 24)).alloc (by simp) (.cells #[.string ⟨#[]⟩, .int .i64 0, .slice none 0 0] 24)
  have hz0 := new_at (heap_alloc_new w (.cells #[.string k, .int .i64 g, .slice A n c] 24)) (.cells #[.string ⟨#[]⟩, .int .i64 0, .slice none 0 0] 24)
  have hz1 := heap_alloc_new (w.alloc (.cells #[.string k, .int .i64 g, .slice A n c] 24)) (.cells #[.string ⟨#[]⟩, .int .i64 0, .slice none 0 0] 24)
  simp only [World.size_alloc] at hz1
  obtain ⟨V, hV⟩ : ∃ V, V = (w.alloc (.cells #[.string k, .int .i64 g, .slice A n c] 24)).alloc (.cells #[.string ⟨#[]⟩, .int .i64 0, .slice none 0 0] 24) := ⟨_, rfl⟩
  have hVs : V.heap.size = w.heap.size + 2 := by rw [hV]; simp
  rw [← hV] at bz hz0 hz1
  have HH := Lib.hid (h.below (bz.mono hB)); have HF := Lib.hid hf; have BZ := Lib.hid bz; have HZ1 := Lib.hid hz1; have HVS := Lib.hid hVs
  obtain ⟨_, _, _⟩ := PtAt.of hz0
  clear h hf bz hz0 hz1 hVs
  go_enter Tryz.func8, Tryz.ntmps8
  go_wp2_with fail
  rw [← hV]
  clear hV
  go_wp2_with fail
  refine (rpcopy_any k g A n c B L _ HH.out (by have := HVS.out; omega) hn HF.out).mono ?_
  rintro e w1 ⟨M, A', n', c', rfl, hM, hfr⟩
  have hm1 := (hfr.below.block (w.heap.size + 1) (by have := HVS.out; omega)).trans HZ1.out
  have z0 := cell_at (i := 0) hm1 rfl
  have z1 := cell_at (i := 1) hm1 rfl
  have z2 := cell_at (i := 2) hm1 rfl
  have y0 := thawed_at (i := 0) hm1
  have y1 := thawed_at (i := 1) hm1
  have y2 := thawed_at (i := 2) hm1
  have m9 := set3_block hm1 (.string k) (.int .i64 g) (.slice A' n' c')
  have k9 := kept_set3 (w := w1) (w.heap.size + 1) (.string k) (.int .i64 g) (.slice A' n' c')
  have hfr9 := (hfr.lower BZ.out).kept k9 (e := 24) (fun j hj => by subst hj; exact ⟨by omega, _, hm1⟩) (by decide) (by decide)
  have HFR := Lib.hid hfr9; have HM := Lib.hid hM
  clear hfr hfr9 hM k9 hm1
  go_wp2
  generalize hw9 : (((w1.setCell ⟨w.heap.size + 1, 0, none⟩ (.string k)).setCell ⟨w.heap.size + 1, 1, none⟩ (.int .i64 g)).setCell ⟨w.heap.size + 1, 2, none⟩ (.slice A' n' c')) = w9 at m9 HFR ⊢
  clear hw9 z0 z1 z2 y0 y1 y2
  have q0 := cell_at (i := 0) m9 rfl
  have q1 := cell_at (i := 1) m9 rfl
  have q2 := cell_at (i := 2) m9 rfl
  refine bodyPost_ret (v := .agg #[.string k, .int .i64 g, .slice A' n' c']) ?_ rfl ?_
  · simp [results, Tryz.results8, go_sem, q0, q1, q2]
  · exact ⟨M, A', n', c', rfl, HM.out, HFR.out⟩
end Go.Proofs.YthfanonjokpflaaGreat
set_option linter.unusedVariables false
set_option linter.unusedSimpArgs false
namespace Go.Proofs.YthfanonjokpflaaGreat
open Go Go.RowKit

/-- Rows of one's own, whose columns are one's own. -/
structure RowsO (w0 w : World) (A : Option Addr) (m c : Nat) (M : List RA) : Prop where
  own : w.ownsRow w0.heap.size 57 8 (.slice A m c) m (rRow M)
  cols : ∀ x ∈ M, OwnC w0 w x
theorem RowsO.on {w0 w w' : World} {A : Option Addr} {m c : Nat} {M : List RA} (h : RowsO w0 w A m c M) (hb : Below w.heap.size w w') : RowsO w0 w' A m c M := ⟨own_below h.own hb, fun x hx => (h.cols x hx).on hb⟩
theorem RowsO.kept1 {w0 w w' : World} {A : Option Addr} {m c r : Nat} {M : List RA} {cs : Array Value} {e : TypeId} (h : RowsO w0 w A m c M) (hk : Kept (fun k => k = r) w w') (hr : w.heap[r]? = some (.cells cs e (0, 0))) (he : 99 ≠ e) (he' : 57 ≠ e) : RowsO w0 w' A m c M :=
  ⟨own_kept h.own fun g hg => hk.block g (own_block_lt h.own g hg) fun hf => by
    obtain ⟨cs', h2⟩ := own_tag h.own g hg
    subst hf
    rw [hr] at h2
    injection h2 with h2
    injection h2 with _ h3 _
    exact he' h3.symm, fun x hx => (h.cols x hx).kept hk (fun k hk => by subst hk; exact ⟨cs, hr⟩) he⟩
theorem RowsO.app {w0 w w' : World} {A A' : Option Addr} {m c m' c' : Nat} {M k : List RA} (h : RowsO w0 w A m c M) (hk : ∀ x ∈ k, OwnC w0 w x) (ho : w'.ownsRow w0.heap.size 57 8 (.slice A' m' c') m' (rRow (M ++ k))) (hg : w.grownBy w' (Value.slice A m c).ownBlock) : RowsO w0 w' A' m' c' (M ++ k) :=
  ⟨ho, fun x hx => by
    rcases List.mem_append.1 hx with h1 | h1
    · exact (h.cols x h1).grown h.own hg
    · exact (hk x h1).grown h.own hg⟩
theorem Went.part {l : Bs} {i j1 j2 j3 j : Nat} {e f1 f2 f3 f : Int} {k : ByteArray} {g : Int} {n : Nat} {K : List Ro} (H1 : Went txtP l i e k j1 f1) (H2 : Went numP l j1 f1 g j2 f2)
    (H3 : Went cntP l j2 f2 n j3 f3) (HL : Loops rowP l n j3 f3 K j f) (hd : f = 0 → K.length = n) : Went partP l i e (⟨k, g, K⟩ : Pa) j f := by
  have H6 := HL.list H3 hd
  have W1 : Went (bindP numP fun g => bindP (listP rowP) fun l => retP (g, l)) l j1 f1 (g, K) j f := H2.bind (H6.bind (Went.ret (g, K) H6.len f))
  have W2 : Went partT l i e (k, (g, K)) j f := H1.bind (W1.bind (Went.ret (k, (g, K)) H6.len f))
  exact W2.map (q := fun z => (⟨z.1, z.2.1, z.2.2⟩ : Pa))
set_option maxRecDepth 8000 in
set_option maxHeartbeats 8000000 in
theorem rpartR (q i : Nat) (e : Int) (s : ByteArray) (w : World) (h : RB w q s i e) (hi : i ≤ s.size) (hs : s.size ≤ 900000) :
    Calls Tryz.prog 37 #[.pointer (some ⟨q, 0, none⟩)] w fun x w' => ∃ (k : ByteArray) (g : Int) (M : List RA) (A : Option Addr) (m c j : Nat) (f : Int), x = .returned (.agg #[.string k, .int .i64 g, .slice A m c]) ∧ M.length = m ∧ RB w' q s j f ∧ KeptR q w w' ∧ RowsO w w' A m c M ∧ m ≤ s.size ∧ (∀ x ∈ M, x.ro.cols.length ≤ s.size) ∧ Went partP s.data.toList i e ⟨k, g, ros M⟩ j f := by
  have hqw := h.lt
  have bz := (Below.refl w.heap.size w).alloc (Nat.le_refl _) (.cells #[.string ⟨#[]⟩, .int .i64 0, .slice none 0 0] 24)
  have hz := heap_alloc_new w (.cells #[.string ⟨#[]⟩, .int .i64 0, .slice none 0 0] 24)
  have h0 := h.below bz
  obtain ⟨V, hV⟩ : ∃ V, V = w.alloc (.cells #[.string ⟨#[]⟩, .int .i64 0, .slice none 0 0] 24) := ⟨_, rfl⟩
  have hVs : V.heap.size = w.heap.size + 1 := by rw [hV]; simp
  rw [← hV] at bz hz h0
  have H0 := Lib.hid h0; have HZ0 := Lib.hid hz; have BZ := Lib.hid bz; have HVS := Lib.hid hVs; have HQ := Lib.hid hqw; have HS := Lib.hid hs
  clear h bz hz h0 hVs hqw hs
  go_enter Tryz.func37, Tryz.ntmps37
  go_wp2_with fail
  rw [← hV]
  clear hV
  refine (rtextR q i e s _ H0.out hi (by have := HS.out; omega)).mono ?_
  rintro x w1 ⟨v, j1, f1, rfl, hvs, h1, k1, hw1⟩
  have ba := (Below.refl w1.heap.size w1).alloc (Nat.le_refl _) (.cells #[.string v, .int .i64 0, .slice none 0 0] 24)
  have hpu := heap_alloc_new w1 (.cells #[.string v, .int .i64 0, .slice none 0 0] 24)
  have hz1 := Kept.at k1 HZ0.out (by have := HQ.out; omega)
  have hV1 : V.heap.size ≤ w1.heap.size := k1.size
  have hzu := (ba.block w.heap.size (by have := HVS.out; omega)).trans hz1
  have hru := h1.below ba
  have hku := KeptR.new (KeptR.on (Kept.of_below BZ.out _) k1) ba
  obtain ⟨U, hU⟩ : ∃ U, U = w1.alloc (.cells #[.string v, .int .i64 0, .slice none 0 0] 24) := ⟨_, rfl⟩
  rw [← hU] at hpu hzu hru hku
  have HWQ : Hid (w.heap.size < w1.heap.size ∧ q < w1.heap.size ∧ q < w.heap.size) := Lib.hid ⟨by have := HVS.out; omega, h1.lt, HQ.out⟩
  have HPU := Lib.hid hpu; have HZU := Lib.hid hzu; have HRU := Lib.hid hru; have HKU := Lib.hid hku; have HW1 := Lib.hid hw1
  clear ba hpu hz1 hV1 hzu hru hku h1 k1 hw1 hvs hi
  go_wp2_with fail
  rw [← hU]
  clear hU
  refine (rnumR q j1 f1 s U HRU.out HW1.out.len (by have := HS.out; omega)).mono ?_
  rintro x w2 ⟨g, j2, f2, rfl, hg, h2, k2, hw2⟩
  have hp2 := Kept.at k2 HPU.out (by have := HWQ.out; omega)
  have hz2 := Kept.at k2 HZU.out (by have := HWQ.out; omega)
  have z1 := cell_at (i := 1) hp2 rfl
  have y1 := thawed_at (i := 1) hp2
  have kp := Kept.setCell (fun k => k = w1.heap.size) w2 ⟨w1.heap.size, 1, none⟩ (.int .i64 g) rfl
  have hp3 : (w2.setCell ⟨w1.heap.size, 1, none⟩ (.int .i64 g)).heap[w1.heap.size]? = some (.cells #[.string v, .int .i64 g, .slice none 0 0] 24) := by
    have m := Joins.block_setCell (i := 1) hp2 (.int .i64 g)
    simp only [List.setIfInBounds_toArray, List.set_cons_zero, List.set_cons_succ] at m
    exact m
  have hz3 := Kept.at kp hz2 (by have := HWQ.out; omega)
  have hr3 : RB (w2.setCell ⟨w1.heap.size, 1, none⟩ (.int .i64 g)) q s j2 f2 := Kept.at kp h2 (by have := HWQ.out; omega)
  have hk3 := (HKU.out.on k2).own kp (by have := HWQ.out; omega)
  have HP3 := Lib.hid hp3; have HZ3 := Lib.hid hz3; have HR3 := Lib.hid hr3; have HK3 := Lib.hid hk3; have HW2 := Lib.hid hw2
  clear hp2 hz2 kp hp3 hz3 hr3 hk3 h2 k2 hw2 hg HPU HZU HRU HKU
  go_wp2_with fail
  generalize w2.setCell ⟨w1.heap.size, 1, none⟩ (.int .i64 g) = X2 at HP3 HZ3 HR3 HK3 ⊢
  clear z1 y1
  refine (rcount q j2 f2 s X2 HR3.out HW2.out.len (by have := HS.out; omega)).mono ?_
  rintro x w5 ⟨n, j5, f5, rfl, hn, h5, k5, hw5⟩
  have HN : Hid (n ≤ s.size) := Lib.hid (by omega)
  have HP7 := Lib.hid (Kept.at k5 HP3.out (by have := HWQ.out; omega)); have HZ7 := Lib.hid (Kept.at k5 HZ3.out (by have := HWQ.out; omega)); have HR7 := Lib.hid h5; have HK7 := Lib.hid (HK3.out.on k5); have HW5 := Lib.hid hw5
  clear h5 k5 hw5 hn HP3 HZ3 HR3 HK3
  go_wp2_with fail
  go_loopw [5] (fun i' wr => ∃ (t : Nat) (Ms : List RA) (A3 : Option Addr) (c3 : Nat) (j : Nat) (f : Int), i' = .int .i64 t ∧ Ms.length = t ∧ wr.heap[w1.heap.size]? = some (.cells #[.string v, .int .i64 g, .slice A3 t c3] 24) ∧ wr.heap[w.heap.size]? = some (.cells #[.string ⟨#[]⟩, .int .i64 0, .slice none 0 0] 24) ∧ RB wr q s j f ∧ KeptR q w wr ∧ RowsO w wr A3 t c3 Ms ∧ (∀ x ∈ Ms, x.ro.cols.length ≤ s.size) ∧ Loops rowP s.data.toList n j5 f5 (ros Ms) j f) (fun i _ => n - (intOf i).toNat)
  case atStart => exact ⟨0, [], none, 0, j5, f5, rfl, rfl, HP7.out, HZ7.out, HR7.out, HK7.out, ⟨own_nilR _ _, fun x hx => by cases hx⟩, fun x hx => (by cases hx), Loops.start _ _ HW5.out.len _⟩
  case round =>
    obtain ⟨t, Ms, A3, c3, j, f, rfl, ht, hp, hz, hr, hk, ho, hcm, hl⟩ := hrel
    obtain ⟨_, _, _⟩ := hr.cells
    have i8 : n ≤ 1000000 := by have := HN.out; have := HS.out; omega
    have htn : t ≤ n := by rw [← ht]; have := hl.many; rwa [List.length_map] at this
    have HT := Lib.hid ht; have HPR := Lib.hid hp; have HZR := Lib.hid hz; have HRR := Lib.hid hr; have HKR := Lib.hid hk; have HOR := Lib.hid ho; have HLR := Lib.hid hl; have HCM := Lib.hid hcm; have HTN := Lib.hid htn
    clear ht hp hz hr hk ho hl hcm HP7 HZ7 HR7 HK7
    by_cases hlt : t < n
    · have i1 : (t : Int) < n := by omega
      have i2 : decide ((t : Int) < (n : Int)) = true := by simp; omega
      by_cases hf : f = 0
      · subst hf
        go_wp2_with fail
        refine wp_region_z (S := fun w' => w'.heap[w1.heap.size]? = some (.cells #[.string v, .int .i64 g, .slice A3 t c3] 24)) 7 (by kernel_rfl) ?_ (fun hHeld => ?_)
        · exact HPR.out
        refine takesZ [0, 1, 2] ?_
        repeat
          refine takesZ_one (v := ?_) ?_ ?_
          rotate_left
          · first | (refine Or.inr ⟨by rfl, ?_⟩; with_reducible rfl) | (refine Or.inl ⟨by rfl, ?_⟩; intro wx hSw; (try dsimp only at hSw); first | (go_simp; first | done | with_reducible rfl) | (have hc2 := cell_at (i := 2) hSw rfl; go_simp; first | done | with_reducible rfl))
          try simp only [Act.put, List.getElem_toArray, List.getElem_cons_succ, List.getElem_cons_zero, List.setIfInBounds_toArray, List.set_cons_zero, List.set_cons_succ]
        refine takesZ_nil ?_
        refine wpAnyZ_one (i := 3) (by kernel_rfl) rfl (fun K hK => ?_)
        go_simp
        refine (rrowR q j 0 s wr.drew HRR.out.drew HLR.out.len HS.out).mono ?_
        rintro e' v7 ⟨z, j7, f7, rfl, h7, k7, o7, hz7, hw7⟩
        have k7 : KeptR q wr v7 := ⟨k7.os, k7.tape, k7.output, k7.size, k7.block⟩
        have T7 := Lib.hid (Kept.at k7 HPR.out (by have := HWQ.out; omega))
        have Z7 := Lib.hid (Kept.at k7 HZR.out (by have := HWQ.out; omega))
        have R7 := Lib.hid h7
        have K7 := Lib.hid (HKR.out.on k7)
        have O7 := Lib.hid (HOR.out.kept1 k7 HRR.out (by decide) (by decide))
        have HW7 := Lib.hid hw7
        have OZ7 : Hid (OwnC w v7 z) := Lib.hid (own_base o7 HKR.out.size)
        have HZC := Lib.hid hz7
        have ba := (Below.refl v7.heap.size v7).alloc (Nat.le_refl _) (.cells #[.string z.ro.key, .string z.ro.live.s, .bool z.ro.live.d, .int .i64 z.ro.live.a, .int .i64 z.ro.live.e, .int .i64 z.ro.gone, .int .i64 z.ro.shade, .slice z.A z.ro.cols.length z.c] 57)
        have T8 := Lib.hid ((ba.block _ (Array.getElem?_eq_some_iff.1 T7.out).1).trans T7.out)
        have Z8 := Lib.hid ((ba.block _ (Array.getElem?_eq_some_iff.1 Z7.out).1).trans Z7.out)
        have R8 := Lib.hid (R7.out.below ba)
        have O8 := Lib.hid (O7.out.on ba)
        have OZ8 := Lib.hid (OZ7.out.on ba)
        have K8 := Lib.hid (K7.out.new ba)
        have RD := Lib.hid (RdR.laid v7 z)
        clear h7 k7 o7 hw7 hz7 ba
        try go_wp2_with fail
        refine hK.out _ _ ?_ (fun hHeld => ?_)
        · exact T7.out
        clear hK K
        try simp only [Act.put, List.getElem_toArray, List.getElem_cons_succ, List.getElem_cons_zero, List.setIfInBounds_toArray, List.set_cons_zero, List.set_cons_succ]
        refine wpAnyZ_one (i := 4) (by kernel_rfl) rfl (fun K hK => ?_)
        go_simp
        refine hK.out _ _ ?_ (fun hHeld => ?_)
        · exact T8.out
        clear hK K
        try simp only [Act.put, List.getElem_toArray, List.getElem_cons_succ, List.getElem_cons_zero, List.setIfInBounds_toArray, List.set_cons_zero, List.set_cons_succ]
        refine wpAnyZ_one (i := 5) (by kernel_rfl) rfl (fun K hK => ?_)
        refine step_ex rfl (.tmp 27) (.tmp 30) _ _ rfl (.slice A3 t c3) (.slice (some ⟨v7.heap.size, 0, none⟩) 1 1) (by simp [Act.eval]) (by simp [Act.eval]) (run_appR w.heap.size O8.out.own RD.out ?s3 ?s4) ?_
        case s3 => have := HN.out; have := HS.out; omega
        case s4 => exact K8.out.size
        intro v9 w9 ho9 hg9
        obtain ⟨hg9, _⟩ := hg9
        obtain ⟨A9, c9, rfl, _⟩ := own_slice ho9
        have T9 := Lib.hid ((hg9.block w1.heap.size (Array.getElem?_eq_some_iff.1 T8.out).1 (fun hp => own_ne O8.out.own T8.out (by decide) _ hp.symm rfl)).trans T8.out)
        have Z9 := Lib.hid ((hg9.block w.heap.size (Array.getElem?_eq_some_iff.1 Z8.out).1 (fun hp => own_ne O8.out.own Z8.out (by decide) _ hp.symm rfl)).trans Z8.out)
        have R9 : Hid (RB w9 q s j7 f7) := Lib.hid ((hg9.block q R8.out.lt (fun hp => own_ne O8.out.own R8.out (by decide) _ hp.symm rfl)).trans R8.out)
        have K9 := Lib.hid (K8.out.grown O8.out.own hg9)
        have O9 := Lib.hid (O8.out.app (k := [z]) (fun x hx => by rw [List.mem_singleton.1 hx]; exact OZ8.out) ho9 hg9)
        clear ho9 hg9
        refine hK.out _ _ ?_ (fun hHeld => ?_)
        · exact T9.out
        clear hK K
        try simp only [Act.put, List.getElem_toArray, List.getElem_cons_succ, List.getElem_cons_zero, List.setIfInBounds_toArray, List.set_cons_zero, List.set_cons_succ]
        have k7c := cell_at (i := 2) hHeld rfl
        have f7c := thawed_at (i := 2) hHeld
        refine takesZ [6] ?_
        repeat
          refine takesZ_one (v := ?_) ?_ ?_
          rotate_left
          · first | (refine Or.inr ⟨by rfl, ?_⟩; with_reducible rfl) | (refine Or.inl ⟨by rfl, ?_⟩; intro wx hSw; (try dsimp only at hSw); first | (go_simp; first | done | with_reducible rfl))
          try simp only [Act.put, List.getElem_toArray, List.getElem_cons_succ, List.getElem_cons_zero, List.setIfInBounds_toArray, List.set_cons_zero, List.set_cons_succ]
        refine takesZ_nil ?_
        refine wpAnyZ_last (by kernel_rfl) rfl (fun K hK => ?_)
        go_simp
        refine hK.out _ _ ?_
        clear hK K
        try simp only [Act.put, List.getElem_toArray, List.getElem_cons_succ, List.getElem_cons_zero, List.setIfInBounds_toArray, List.set_cons_zero, List.set_cons_succ]
        refine wpAnyZ_done (by kernel_rfl) ?_ _
        have kp := Kept.setCell (fun k => k = w1.heap.size) w9 ⟨w1.heap.size, 2, none⟩ (.slice A9 (t + 1) c9) rfl
        have hpn := part_setrows hHeld (.slice A9 (t + 1) c9)
        have hzn := Kept.at kp Z9.out (by have := HWQ.out; omega)
        have hrn : RB (w9.setCell ⟨w1.heap.size, 2, none⟩ (.slice A9 (t + 1) c9)) q s j7 f7 := Kept.at kp R9.out (by have := HWQ.out; omega)
        have hkn := K9.out.own kp (by have := HWQ.out; omega)
        have hon := O9.out.kept1 kp hHeld (by decide) (by decide)
        generalize w9.setCell ⟨w1.heap.size, 2, none⟩ (.slice A9 (t + 1) c9) = wn at hpn hzn hrn hkn hon ⊢
        have PN := Lib.hid hpn; have ZN := Lib.hid hzn; have RN := Lib.hid hrn; have KN := Lib.hid hkn; have ON := Lib.hid hon
        have hln := HLR.out.step (by rw [List.length_map, HT.out]; exact hlt) HW7.out
        have LN : Hid (Loops rowP s.data.toList n j5 f5 (ros (Ms ++ [z])) j7 f7) := Lib.hid (by rw [show ros (Ms ++ [z]) = ros Ms ++ [z.ro] by simp [ros]]; exact hln)
        have HT1 : Hid ((Ms ++ [z]).length = t + 1) := Lib.hid (by rw [List.length_append, HT.out]; rfl)
        have CN : Hid (∀ x ∈ Ms ++ [z], x.ro.cols.length ≤ s.size) := Lib.hid fun x hx => by
          rcases List.mem_append.1 hx with h1 | h1
          · exact HCM.out x h1
          · rw [List.mem_singleton.1 h1]; exact HZC.out
        clear kp hpn hzn hrn hkn hon hHeld k7c f7c hln
        go_wp2
        go_roundw
        case rel => exact ⟨t + 1, _, A9, c9, j7, f7, by go_num, HT1.out, PN.out, ZN.out, RN.out, KN.out, ON.out, CN.out, LN.out⟩
        case measure => simp [intOf]; omega
      · have e1 : (f == 0) = false := by simp; exact hf
        have HWE := Lib.hid (Went.part HW1.out HW2.out HW5.out HLR.out fun h => absurd h hf)
        clear hf
        have z0 := cell_at (i := 0) HPR.out rfl
        have z1 := cell_at (i := 1) HPR.out rfl
        have z2 := cell_at (i := 2) HPR.out rfl
        have x0 := cell_at (i := 0) HZR.out rfl
        have x1 := cell_at (i := 1) HZR.out rfl
        have x2 := cell_at (i := 2) HZR.out rfl
        have y0 := thawed_at (i := 0) HZR.out
        have y1 := thawed_at (i := 1) HZR.out
        have y2 := thawed_at (i := 2) HZR.out
        have m9 := set3_block HZR.out (.string v) (.int .i64 g) (.slice A3 t c3)
        have n9 := kept_set3 (w := wr) w.heap.size (.string v) (.int .i64 g) (.slice A3 t c3)
        have KO := Lib.hid (HKR.out.own n9 (Nat.le_refl _))
        have RBO : Hid (RB _ q s j f) := Lib.hid (Kept.at n9 HRR.out (by have := HWQ.out; omega))
        have OO := Lib.hid (HOR.out.kept1 n9 HZR.out (by decide) (by decide))
        clear n9
        go_wp2
        generalize ((wr.setCell ⟨w.heap.size, 0, none⟩ (.string v)).setCell ⟨w.heap.size, 1, none⟩ (.int .i64 g)).setCell ⟨w.heap.size, 2, none⟩ (.slice A3 t c3) = w9 at m9 KO RBO OO ⊢
        clear z0 z1 z2 x0 x1 x2 y0 y1 y2
        have q0 := cell_at (i := 0) m9 rfl
        have q1 := cell_at (i := 1) m9 rfl
        have q2 := cell_at (i := 2) m9 rfl
        refine bodyPost_ret (v := .agg #[.string v, .int .i64 g, .slice A3 t c3]) ?_ rfl ?_
        · simp [results, Tryz.results37, go_sem, q0, q1, q2]
        · exact ⟨v, g, Ms, A3, t, c3, j, f, rfl, HT.out, RBO.out, KO.out, OO.out, by have := HTN.out; have := HN.out; omega, HCM.out, HWE.out⟩
    · obtain rfl : t = n := by omega
      have i2 : decide ((t : Int) < (t : Int)) = false := by simp
      have HWE := Lib.hid (Went.part HW1.out HW2.out HW5.out HLR.out fun _ => by rw [List.length_map]; exact HT.out)
      have z0 := cell_at (i := 0) HPR.out rfl
      have z1 := cell_at (i := 1) HPR.out rfl
      have z2 := cell_at (i := 2) HPR.out rfl
      have x0 := cell_at (i := 0) HZR.out rfl
      have x1 := cell_at (i := 1) HZR.out rfl
      have x2 := cell_at (i := 2) HZR.out rfl
      have y0 := thawed_at (i := 0) HZR.out
      have y1 := thawed_at (i := 1) HZR.out
      have y2 := thawed_at (i := 2) HZR.out
      have m9 := set3_block HZR.out (.string v) (.int .i64 g) (.slice A3 t c3)
      have n9 := kept_set3 (w := wr) w.heap.size (.string v) (.int .i64 g) (.slice A3 t c3)
      have KO := Lib.hid (HKR.out.own n9 (Nat.le_refl _))
      have RBO : Hid (RB _ q s j f) := Lib.hid (Kept.at n9 HRR.out (by have := HWQ.out; omega))
      have OO := Lib.hid (HOR.out.kept1 n9 HZR.out (by decide) (by decide))
      clear n9
      go_wp2
      generalize ((wr.setCell ⟨w.heap.size, 0, none⟩ (.string v)).setCell ⟨w.heap.size, 1, none⟩ (.int .i64 g)).setCell ⟨w.heap.size, 2, none⟩ (.slice A3 t c3) = w9 at m9 KO RBO OO ⊢
      clear z0 z1 z2 x0 x1 x2 y0 y1 y2
      have q0 := cell_at (i := 0) m9 rfl
      have q1 := cell_at (i := 1) m9 rfl
      have q2 := cell_at (i := 2) m9 rfl
      refine bodyPost_ret (v := .agg #[.string v, .int .i64 g, .slice A3 t c3]) ?_ rfl ?_
      · simp [results, Tryz.results37, go_sem, q0, q1, q2]
      · exact ⟨v, g, Ms, A3, t, c3, j, f, rfl, HT.out, RBO.out, KO.out, OO.out, by have := HTN.out; have := HN.out; omega, HCM.out, HWE.out⟩
end Go.Proofs.YthfanonjokpflaaGreat
set_option linter.unusedVariables false
set_option linter.unusedSimpArgs false
namespace Go.Proofs.YthfanonjokpflaaGreat
open Go Go.RowKit

set_option maxHeartbeats 4000000 in
theorem rendR (q i : Nat) (e : Int) (s : ByteArray) (w : World) (h : RB w q s i e) (hs : s.size ≤ 1000000000) :
    Calls Tryz.prog 38 #[.pointer (some ⟨q, 0, none⟩)] w fun x w' => x = .returned (.tuple #[]) ∧ RB w' q s i (if e = 0 ∧ i < s.size then 6 else e) ∧ KeptR q w w' := by
  have hc : ∀ w', Below w.heap.size w w' → w'.cell? ⟨q, 0, none⟩ = some (.string s) ∧ w'.cell? ⟨q, 1, none⟩ = some (.int .i64 i) ∧ w'.cell? ⟨q, 2, none⟩ = some (.int .i64 e) := fun w' hb => (h.below hb).cells
  have H := Lib.hid h; have HC := Lib.hid hc
  clear h hc
  go_enter Tryz.func38, Tryz.ntmps38
  by_cases he : e = 0
  · subst he
    by_cases hi : i < s.size
    · rw [if_pos ⟨rfl, hi⟩]
      have d1 : decide ((i : Int) < (s.size : Int)) = true := by simp; omega
      have d2 : decide (i < s.size) = true := by simp; omega
      go_wp2_with fail
      refine wp_region_held_drew (S := fun w' => Below w.heap.size w w') (by kernel_rfl) ?_ (fun hHeld => ?_)
      · exact (Below.refl _ _).drew
      refine takesH [0, 1, 2, 3, 4, 5, 6, 7, 8, 9, 10, 11, 12, 13, 14, 15, 16] ?_
      repeat
        refine takesH_one (v := ?_) ?_ ?_
        rotate_left
        · first | (refine Or.inr ⟨by rfl, ?_⟩; with_reducible rfl) | (refine Or.inl ⟨by rfl, ?_⟩; intro wx hSw; (try dsimp only at hSw); first | (go_simp; first | done | with_reducible rfl) | (obtain ⟨_, _, _⟩ := HC.out _ hSw; go_simp; first | done | with_reducible rfl))
        try simp only [Act.put, List.getElem_toArray, List.getElem_cons_succ, List.getElem_cons_zero, List.setIfInBounds_toArray, List.set_cons_zero, List.set_cons_succ]
      refine takesH_nil ?_
      refine wpAnyH_done (by kernel_rfl) ?_ _
      have H1 := Lib.hid (H.out.below hHeld)
      have K1 := Lib.hid (show KeptR q w w.drew from Kept.of_below hHeld _)
      clear hHeld
      go_wp2_with fail
      refine (rwrong q i 0 6 s _ H1.out).mono ?_
      rintro x w2 ⟨rfl, h2, k2⟩
      rw [if_pos rfl] at h2
      have H2 := Lib.hid h2; have K2 := Lib.hid (K1.out.on k2)
      clear h2 k2
      go_wp2
      go_end0
      exact ⟨rfl, H2.out, K2.out⟩
    · rw [if_neg fun h => hi h.2]
      have d1 : decide ((i : Int) < (s.size : Int)) = false := by simp; omega
      have d2 : decide (i < s.size) = false := by simp; omega
      go_wp2_with fail
      refine wp_region_held_drew (S := fun w' => Below w.heap.size w w') (by kernel_rfl) ?_ (fun hHeld => ?_)
      · exact (Below.refl _ _).drew
      refine takesH [0, 1, 2, 3, 4, 5, 6, 7, 8, 9, 10, 11, 12, 13, 14, 15, 16] ?_
      repeat
        refine takesH_one (v := ?_) ?_ ?_
        rotate_left
        · first | (refine Or.inr ⟨by rfl, ?_⟩; with_reducible rfl) | (refine Or.inl ⟨by rfl, ?_⟩; intro wx hSw; (try dsimp only at hSw); first | (go_simp; first | done | with_reducible rfl) | (obtain ⟨_, _, _⟩ := HC.out _ hSw; go_simp; first | done | with_reducible rfl))
        try simp only [Act.put, List.getElem_toArray, List.getElem_cons_succ, List.getElem_cons_zero, List.setIfInBounds_toArray, List.set_cons_zero, List.set_cons_succ]
      refine takesH_nil ?_
      refine wpAnyH_done (by kernel_rfl) ?_ _
      have H1 := Lib.hid (H.out.below hHeld)
      have K1 := Lib.hid (show KeptR q w w.drew from Kept.of_below hHeld _)
      clear hHeld
      go_wp2
      go_end0
      exact ⟨rfl, H1.out, K1.out⟩
  · rw [if_neg fun h => he h.1]
    have e1 : (e == 0) = false := by simp; exact he
    go_wp2_with fail
    refine wp_region_held_drew (S := fun w' => Below w.heap.size w w') (by kernel_rfl) ?_ (fun hHeld => ?_)
    · exact (Below.refl _ _).drew
    refine takesH [0, 1, 2, 3, 4, 5, 6, 7, 8, 9, 10, 11, 12, 13, 14, 15, 16] ?_
    repeat
      refine takesH_one (v := ?_) ?_ ?_
      rotate_left
      · first | (refine Or.inr ⟨by rfl, ?_⟩; with_reducible rfl) | (refine Or.inl ⟨by rfl, ?_⟩; intro wx hSw; (try dsimp only at hSw); first | (go_simp; first | done | with_reducible rfl) | (obtain ⟨_, _, _⟩ := HC.out _ hSw; go_simp; first | done | with_reducible rfl))
      try simp only [Act.put, List.getElem_toArray, List.getElem_cons_succ, List.getElem_cons_zero, List.setIfInBounds_toArray, List.set_cons_zero, List.set_cons_succ]
    refine takesH_nil ?_
    refine wpAnyH_done (by kernel_rfl) ?_ _
    have H1 := Lib.hid (H.out.below hHeld)
    have K1 := Lib.hid (show KeptR q w w.drew from Kept.of_below hHeld _)
    clear hHeld
    go_wp2
    go_end0
    exact ⟨rfl, H1.out, K1.out⟩
end Go.Proofs.YthfanonjokpflaaGreat
set_option linter.unusedVariables false
set_option linter.unusedSimpArgs false
namespace Go.Proofs.YthfanonjokpflaaGreat
open Go Go.RowKit

set_option maxRecDepth 8000 in
set_option maxHeartbeats 8000000 in
theorem rgetpart9 (s : ByteArray) (w : World) (hs : s.size ≤ 3000) : Calls Tryz.prog 14 #[.string s] w (GivesG w (getPart s.data.toList)) := by
  have bz := (Below.refl w.heap.size w).alloc (Nat.le_refl _) (.cells #[.string ⟨#[]⟩, .int .i64 0, .slice none 0 0] 24)
  have hz := heap_alloc_new w (.cells #[.string ⟨#[]⟩, .int .i64 0, .slice none 0 0] 24)
  obtain ⟨V1, hV1⟩ : ∃ V, V = w.alloc (.cells #[.string ⟨#[]⟩, .int .i64 0, .slice none 0 0] 24) := ⟨_, rfl⟩
  rw [← hV1] at bz hz
  have hs1 : V1.heap.size = w.heap.size + 1 := by rw [hV1]; simp
  have bz2 := (Below.refl V1.heap.size V1).alloc (Nat.le_refl _) (.cells #[.string s, .int .i64 0, .int .i64 0] 77)
  have hr0 := heap_alloc_new V1 (.cells #[.string s, .int .i64 0, .int .i64 0] 77)
  have hz2 := at_newQ hz (.cells #[.string s, .int .i64 0, .int .i64 0] 77)
  obtain ⟨V2, hV2⟩ : ∃ V, V = V1.alloc (.cells #[.string s, .int .i64 0, .int .i64 0] 77) := ⟨_, rfl⟩
  rw [← hV2] at bz2 hr0 hz2
  rw [hs1] at hr0
  have hb2 : Below w.heap.size w V2 := bz.trans (bz2.mono bz.size)
  have d1 : decide ((262144 : Int) < (s.size : Int)) = false := by simp; omega
  have d2 : decide (262144 < s.size) = false := by simp; omega
  have R0 : Hid (RB V2 (w.heap.size + 1) s 0 0) := Lib.hid hr0
  have HZ2 := Lib.hid hz2; have B2 := Lib.hid hb2; have HS := Lib.hid hs
  have hsl : s.data.toList.length = s.size := rfl
  have HSL := Lib.hid hsl
  clear bz hz bz2 hr0 hz2 hb2 hs1 hs hsl
  go_enter Tryz.func14, Tryz.ntmps14
  go_wp2_with fail
  rw [← hV1, ← hV2]
  clear hV1 hV2
  refine (rpartR (w.heap.size + 1) 0 0 s V2 R0.out (Nat.zero_le _) (by have := HS.out; omega)).mono ?_
  rintro x w1 ⟨pk, pg, M, Am, m, cm, j, f, rfl, hml, h1, k1, hro, hm1, hm2, hw⟩
  subst hml
  have ba := (Below.refl w1.heap.size w1).alloc (Nat.le_refl _) (.cells #[.string pk, .int .i64 pg, .slice Am M.length cm] 24)
  have hp1 := heap_alloc_new w1 (.cells #[.string pk, .int .i64 pg, .slice Am M.length cm] 24)
  have hz1 := at_newQ (Kept.atQ k1 HZ2.out (by omega)) (.cells #[.string pk, .int .i64 pg, .slice Am M.length cm] 24)
  have h1' := h1.below ba
  have hrows1 := (show RowsQ V2 w1 Am M.length cm M from ⟨hro.own, hro.cols⟩).on ba
  have hb1 : Below w.heap.size w (w1.alloc (.cells #[.string pk, .int .i64 pg, .slice Am M.length cm] 24)) := B2.out.trans ((KeptR.new k1 ba).below (fun k hk => by subst hk; exact Nat.le_succ _) B2.out.size)
  obtain ⟨U1, hU1⟩ : ∃ U, U = w1.alloc (.cells #[.string pk, .int .i64 pg, .slice Am M.length cm] 24) := ⟨_, rfl⟩
  rw [← hU1] at hp1 hz1 h1' hrows1 hb1
  have HQW : Hid (w.heap.size + 1 < w1.heap.size) := Lib.hid h1.lt
  have HP1 := Lib.hid hp1; have HZ1 := Lib.hid hz1; have H1 := Lib.hid h1'; have HR1 := Lib.hid hrows1; have HB1 := Lib.hid hb1; have HW := Lib.hid hw
  clear hp1 hz1 h1' hrows1 hb1 hw h1 k1 hro ba hm1 hm2
  go_wp2_with fail
  rw [← hU1]
  clear hU1
  refine (rendR (w.heap.size + 1) j f s U1 H1.out (by have := HS.out; omega)).mono ?_
  rintro x w3 ⟨rfl, h3, k3⟩
  obtain ⟨F, hF⟩ : ∃ F, (if f = 0 ∧ j < s.size then (6 : Int) else f) = F := ⟨_, rfl⟩
  rw [hF] at h3
  have R3 := Lib.hid h3
  have HZ3 := Lib.hid (Kept.atQ k3 HZ1.out (by omega)); have HP3 := Lib.hid (Kept.atQ k3 HP1.out (by have := HQW.out; omega))
  have HR3 := Lib.hid (HR1.out.kept1 k3 H1.out (by decide) (by decide))
  have B3 := Lib.hid (HB1.out.trans (k3.below (fun k hk => by subst hk; omega) HB1.out.size))
  have hres : F ≠ 0 → getPart s.data.toList = .error F := fun h => by
    have hlen := HSL.out
    have hnn := HS.out
    unfold getPart getP
    rw [if_neg (by omega)]
    by_cases hf : f = 0
    · subst hf
      have h5 := HW.out.ok rfl rfl
      rw [List.drop_zero] at h5
      rw [h5]
      dsimp only
      by_cases hjn : j < s.size
      · rw [if_pos ⟨rfl, hjn⟩] at hF
        rw [if_neg (fun h => by have := congrArg List.length h; rw [List.length_drop, List.length_nil] at this; omega), ← hF]
      · rw [if_neg (fun h => hjn h.2)] at hF
        exact absurd hF.symm h
    · rw [if_neg (fun h => hf h.1)] at hF
      have h5 := HW.out.no rfl hf
      rw [List.drop_zero] at h5
      rw [h5, ← hF]
  have hres0 : F = 0 → partP s.data.toList = .ok (⟨pk, pg, ros M⟩, []) := fun h => by
    have hlen := HSL.out
    subst h
    have hf : f = 0 := by
      refine Decidable.byContradiction fun hf => ?_
      rw [if_neg (fun h => hf h.1)] at hF
      exact hf hF
    subst hf
    have hjn : ¬ j < s.size := fun hjn => by
      rw [if_pos ⟨rfl, hjn⟩] at hF
      cases hF
    have h5 := HW.out.ok rfl rfl
    rw [List.drop_zero, List.drop_eq_nil_of_le (by omega)] at h5
    exact h5
  have HRES := Lib.hid hres; have HRES0 := Lib.hid hres0
  clear hres hres0 h3 k3 hF HZ1 HP1 H1 HR1 HB1
  obtain ⟨_, _, c2⟩ := R3.out.cells
  by_cases hF0 : F = 0
  · subst hF0
    have hpp := HRES0.out rfl
    have hcn := part_codec.canon hpp
    rw [List.append_nil] at hcn
    have hfew : FewR M := few_of_sizes hcn.2 (N := 3000) (by omega) (by rw [← hcn.1, HSL.out]; exact HS.out) rfl
    have hzl : M.length ≤ 900000 := by
      have h4 := (pa_sizes hcn.2 (N := 3000) (by rw [← hcn.1, HSL.out]; exact HS.out)).2.1
      dsimp only at h4
      rw [List.length_map] at h4
      omega
    obtain ⟨u, hu⟩ : ∃ u, Pa.ok ⟨pk, pg, ros M⟩ = u := ⟨_, rfl⟩
    have hgp : getPart s.data.toList = (if u = true then .ok ⟨pk, pg, ros M⟩ else .error 1) := by
      unfold getPart getP
      rw [if_neg (by have := HS.out; have := HSL.out; omega), hpp]
      dsimp only
      rw [if_pos rfl, hu]
    have N := rpcheck_any pk pg Am M.length cm w3.heap.size M w3 HR3.out.lies (Nat.le_refl _) (by omega) hfew
    rw [hu] at N
    have HNC := Lib.hid N; have HGP := Lib.hid hgp
    have k0 := cell_at (i := 0) HP3.out rfl
    have k1 := cell_at (i := 1) HP3.out rfl
    have k2 := cell_at (i := 2) HP3.out rfl
    clear hpp hcn hfew hzl hu hgp N HRES HRES0
    go_wp2_with fail
    clear c2
    refine HNC.out.mono ?_
    rintro x w4 ⟨rfl, b4⟩
    have HZ9 := Lib.hid ((b4.block _ (Array.getElem?_eq_some_iff.1 HZ3.out).1).trans HZ3.out)
    have HP9 := Lib.hid ((b4.block _ (Array.getElem?_eq_some_iff.1 HP3.out).1).trans HP3.out)
    have HR9 := Lib.hid (HR3.out.on b4)
    have R4 := Lib.hid (R3.out.below b4)
    have B4 := Lib.hid (B3.out.trans (b4.mono B3.out.size))
    clear b4 k0 k1 k2
    cases u with
    | false =>
      go_wp2_with fail
      refine (rwrong (w.heap.size + 1) j 0 1 s w4 R4.out).mono ?_
      rintro x w5 ⟨rfl, h5, k5⟩
      rw [if_pos rfl] at h5
      have R5 := Lib.hid h5
      have HZ5 := Lib.hid (Kept.atQ k5 HZ9.out (by omega))
      have B5 := Lib.hid (B4.out.trans (k5.below (fun k hk => by subst hk; omega) B4.out.size))
      have HRR : Hid (getPart s.data.toList = .error 1) := Lib.hid HGP.out
      have c2 := h5.cells.2.2
      clear h5 k5 HGP
      have HS8 := Lib.hid c2
      go_wp2_with fail
      clear c2
      refine wp_region_held_drew (S := fun w' => w'.cell? ⟨w.heap.size + 1, 2, none⟩ = some (.int .i64 1)) (by kernel_rfl) ?_ (fun hHeld => ?_)
      · exact HS8.out
      refine takesH [0, 1, 2, 3, 4] ?_
      repeat
        refine takesH_one (v := ?_) ?_ ?_
        rotate_left
        · first | (refine Or.inr ⟨by rfl, ?_⟩; with_reducible rfl) | (refine Or.inl ⟨by rfl, ?_⟩; intro wx hSw; (try dsimp only at hSw); first | (go_simp; first | done | with_reducible rfl))
        try simp only [Act.put, List.getElem_toArray, List.getElem_cons_succ, List.getElem_cons_zero, List.setIfInBounds_toArray, List.set_cons_zero, List.set_cons_succ]
      refine takesH_nil ?_
      refine wpAnyH_ready (rs := [5]) (by kernel_rfl) (by simp) (AllReadyH.cons rfl (fun K hK => ?_) AllReadyH.nil)
      obtain ⟨U, hU⟩ : ∃ U, U = w5.drew := ⟨_, rfl⟩
      rw [← hU]
      have HZ : Hid (U.heap[w.heap.size]? = some (.cells #[.string ⟨#[]⟩, .int .i64 0, .slice none 0 0] 24)) := Lib.hid (by rw [hU]; exact HZ5.out)
      have hr4 : RB U (w.heap.size + 1) s j 1 := by rw [hU]; exact RB.drew R5.out
      have hbU : Below w.heap.size w U := by rw [hU]; exact B5.out.drew
      clear hU
      have z0 := cell_at (i := 0) HZ.out rfl
      have z1 := cell_at (i := 1) HZ.out rfl
      have z2 := cell_at (i := 2) HZ.out rfl
      have y0 := thawed_at (i := 0) HZ.out
      have y1 := thawed_at (i := 1) HZ.out
      have y2 := thawed_at (i := 2) HZ.out
      have m9 := set3Q_block HZ.out (.string ⟨#[]⟩) (.int .i64 0) (.slice none 0 0)
      have b9 := (kept_set3Q (w := U) w.heap.size (.string ⟨#[]⟩) (.int .i64 0) (.slice none 0 0))
      have B9 := Lib.hid (hbU.trans (b9.below (fun k hk => by subst hk; exact Nat.le_refl _) hbU.size))
      have hb9 := Kept.atQ b9 hr4 (by omega)
      have S9 := Lib.hid (cell_at (i := 2) hb9 rfl)
      clear hr4 hbU b9 hb9
      go_simp
      refine hK.out _ _ ?_ (fun hHeld => ?_)
      · exact S9.out
      clear hK K
      try simp only [Act.put, List.getElem_toArray, List.getElem_cons_succ, List.getElem_cons_zero, List.setIfInBounds_toArray, List.set_cons_zero, List.set_cons_succ]
      clear z0 z1 z2 y0 y1 y2
      refine takesH [6] ?_
      repeat
        refine takesH_one (v := ?_) ?_ ?_
        rotate_left
        · first | (refine Or.inr ⟨by rfl, ?_⟩; with_reducible rfl) | (refine Or.inl ⟨by rfl, ?_⟩; intro wx hSw; (try dsimp only at hSw); first | (go_simp; first | done | with_reducible rfl))
        try simp only [Act.put, List.getElem_toArray, List.getElem_cons_succ, List.getElem_cons_zero, List.setIfInBounds_toArray, List.set_cons_zero, List.set_cons_succ]
      refine takesH_nil ?_
      refine wpAnyH_done (by kernel_rfl) ?_ _
      generalize World.setCell (World.setCell (World.setCell U ⟨w.heap.size, 0, none⟩ (.string ⟨#[]⟩)) ⟨w.heap.size, 1, none⟩ (.int .i64 0)) ⟨w.heap.size, 2, none⟩ (.slice none 0 0) = w9 at m9 B9 S9 hHeld ⊢
      go_wp2
      have q0 := cell_at (i := 0) m9 rfl
      have q1 := cell_at (i := 1) m9 rfl
      have q2 := cell_at (i := 2) m9 rfl
      refine bodyPost_ret (v := .tuple #[.agg #[.string ⟨#[]⟩, .int .i64 0, .slice none 0 0], .int .i64 1]) ?_ rfl ?_
      · simp [results, Tryz.results14, go_sem, q0, q1, q2]
      · rw [HRR.out]
        exact ⟨rfl, B9.out⟩
    | true =>
      have HRR : Hid (getPart s.data.toList = .ok ⟨pk, pg, ros M⟩) := Lib.hid HGP.out
      obtain ⟨_, _, c2⟩ := R4.out.cells
      have k0 := cell_at (i := 0) HP9.out rfl
      have k1 := cell_at (i := 1) HP9.out rfl
      have k2 := cell_at (i := 2) HP9.out rfl
      have m9 := set3Q_block HZ9.out (.string pk) (.int .i64 pg) (.slice Am M.length cm)
      have b9 := kept_set3Q (w := w4) w.heap.size (.string pk) (.int .i64 pg) (.slice Am M.length cm)
      have z0 := cell_at (i := 0) HZ9.out rfl
      have z1 := cell_at (i := 1) HZ9.out rfl
      have z2 := cell_at (i := 2) HZ9.out rfl
      have y0 := thawed_at (i := 0) HZ9.out
      have y1 := thawed_at (i := 1) HZ9.out
      have y2 := thawed_at (i := 2) HZ9.out
      have B9 := Lib.hid (show _ ∧ _ from ⟨B4.out.trans (b9.below (fun k hk => by subst hk; exact Nat.le_refl _) B4.out.size), (HR9.out.lower (w0 := w) B2.out.size).kept1 b9 HZ9.out (by decide) (by decide)⟩)
      clear b9
      go_wp2
      generalize World.setCell (World.setCell (World.setCell w4 ⟨w.heap.size, 0, none⟩ (.string pk)) ⟨w.heap.size, 1, none⟩ (.int .i64 pg)) ⟨w.heap.size, 2, none⟩ (.slice Am M.length cm) = w9 at m9 B9 ⊢
      clear z0 z1 z2 y0 y1 y2
      have q0 := cell_at (i := 0) m9 rfl
      have q1 := cell_at (i := 1) m9 rfl
      have q2 := cell_at (i := 2) m9 rfl
      refine bodyPost_ret (v := .tuple #[.agg #[.string pk, .int .i64 pg, .slice Am M.length cm], .int .i64 0]) ?_ rfl ?_
      · simp [results, Tryz.results14, go_sem, q0, q1, q2]
      · rw [HRR.out]
        exact ⟨⟨pk, pg, M, Am, cm⟩, rfl, rfl, B9.out.2, B9.out.1⟩
  · have e0 : (F == 0) = false := by simp; exact hF0
    have HRR := Lib.hid (HRES.out hF0)
    clear hF0 HRES HRES0
    have HS8 := Lib.hid c2
    go_wp2_with fail
    clear c2
    refine wp_region_held_drew (S := fun w' => w'.cell? ⟨w.heap.size + 1, 2, none⟩ = some (.int .i64 F)) (by kernel_rfl) ?_ (fun hHeld => ?_)
    · exact HS8.out
    refine takesH [0, 1, 2, 3, 4] ?_
    repeat
      refine takesH_one (v := ?_) ?_ ?_
      rotate_left
      · first | (refine Or.inr ⟨by rfl, ?_⟩; with_reducible rfl) | (refine Or.inl ⟨by rfl, ?_⟩; intro wx hSw; (try dsimp only at hSw); first | (go_simp; first | done | with_reducible rfl))
      try simp only [Act.put, List.getElem_toArray, List.getElem_cons_succ, List.getElem_cons_zero, List.setIfInBounds_toArray, List.set_cons_zero, List.set_cons_succ]
    refine takesH_nil ?_
    refine wpAnyH_ready (rs := [5]) (by kernel_rfl) (by simp) (AllReadyH.cons rfl (fun K hK => ?_) AllReadyH.nil)
    obtain ⟨U, hU⟩ : ∃ U, U = w3.drew := ⟨_, rfl⟩
    rw [← hU]
    have HZ : Hid (U.heap[w.heap.size]? = some (.cells #[.string ⟨#[]⟩, .int .i64 0, .slice none 0 0] 24)) := Lib.hid (by rw [hU]; exact HZ3.out)
    have hr4 : RB U (w.heap.size + 1) s j F := by rw [hU]; exact RB.drew R3.out
    have hbU : Below w.heap.size w U := by rw [hU]; exact B3.out.drew
    clear hU
    have z0 := cell_at (i := 0) HZ.out rfl
    have z1 := cell_at (i := 1) HZ.out rfl
    have z2 := cell_at (i := 2) HZ.out rfl
    have y0 := thawed_at (i := 0) HZ.out
    have y1 := thawed_at (i := 1) HZ.out
    have y2 := thawed_at (i := 2) HZ.out
    have m9 := set3Q_block HZ.out (.string ⟨#[]⟩) (.int .i64 0) (.slice none 0 0)
    have b9 := (kept_set3Q (w := U) w.heap.size (.string ⟨#[]⟩) (.int .i64 0) (.slice none 0 0))
    have B9 := Lib.hid (hbU.trans (b9.below (fun k hk => by subst hk; exact Nat.le_refl _) hbU.size))
    have hb9 := Kept.atQ b9 hr4 (by omega)
    have S9 := Lib.hid (cell_at (i := 2) hb9 rfl)
    clear hr4 hbU b9 hb9
    go_simp
    refine hK.out _ _ ?_ (fun hHeld => ?_)
    · exact S9.out
    clear hK K
    try simp only [Act.put, List.getElem_toArray, List.getElem_cons_succ, List.getElem_cons_zero, List.setIfInBounds_toArray, List.set_cons_zero, List.set_cons_succ]
    clear z0 z1 z2 y0 y1 y2
    refine takesH [6] ?_
    repeat
      refine takesH_one (v := ?_) ?_ ?_
      rotate_left
      · first | (refine Or.inr ⟨by rfl, ?_⟩; with_reducible rfl) | (refine Or.inl ⟨by rfl, ?_⟩; intro wx hSw; (try dsimp only at hSw); first | (go_simp; first | done | with_reducible rfl))
      try simp only [Act.put, List.getElem_toArray, List.getElem_cons_succ, List.getElem_cons_zero, List.setIfInBounds_toArray, List.set_cons_zero, List.set_cons_succ]
    refine takesH_nil ?_
    refine wpAnyH_done (by kernel_rfl) ?_ _
    generalize World.setCell (World.setCell (World.setCell U ⟨w.heap.size, 0, none⟩ (.string ⟨#[]⟩)) ⟨w.heap.size, 1, none⟩ (.int .i64 0)) ⟨w.heap.size, 2, none⟩ (.slice none 0 0) = w9 at m9 B9 S9 hHeld ⊢
    go_wp2
    have q0 := cell_at (i := 0) m9 rfl
    have q1 := cell_at (i := 1) m9 rfl
    have q2 := cell_at (i := 2) m9 rfl
    refine bodyPost_ret (v := .tuple #[.agg #[.string ⟨#[]⟩, .int .i64 0, .slice none 0 0], .int .i64 F]) ?_ rfl ?_
    · simp [results, Tryz.results14, go_sem, q0, q1, q2]
    · rw [HRR.out]
      exact ⟨rfl, B9.out⟩
end Go.Proofs.YthfanonjokpflaaGreat
set_option linter.unusedVariables false
set_option linter.unusedSimpArgs false
namespace Go.Proofs.YthfanonjokpflaaGreat
open Go Go.RowKit

theorem Went.nest {α : Type} {p : Pz α} {l k : Bs} {i j j2 : Nat} {e f f2 : Int} {x : α} (H1 : Went bodyP l i e k j f) (H2 : Went p k 0 f x j2 f2) : Went (nestP p) l i e x j (if f2 = 0 ∧ j2 < k.length then 6 else f2) := by
  unfold nestP
  refine H1.bind ⟨fun _ => Nat.le_refl _, H1.len, fun hf => ?_, fun hf h => ?_, fun hf h => ?_⟩
  · have h2 := H2.stays hf
    rw [if_neg (fun h => hf (by rw [← h2]; exact h.1)), h2]
  · by_cases hc : f2 = 0 ∧ j2 < k.length
    · rw [if_pos hc] at h; cases h
    · rw [if_neg hc] at h
      have h3 := H2.ok hf h
      rw [List.drop_zero] at h3
      have h4 : k.drop j2 = [] := List.drop_eq_nil_of_le (by have h5 : ¬ j2 < k.length := fun h6 => hc ⟨h, h6⟩; omega)
      rw [h4] at h3
      simp only [h3]
      rfl
  · by_cases h0 : f2 = 0
    · have h5 : j2 < k.length := by
        refine Decidable.byContradiction fun h6 => h ?_
        rw [if_neg (fun h7 => h6 h7.2)]
        exact h0
      rw [if_pos ⟨h0, h5⟩]
      have h3 := H2.ok hf h0
      rw [List.drop_zero] at h3
      have h4 : k.drop j2 ≠ [] := fun h6 => by have := congrArg List.length h6; rw [List.length_drop, List.length_nil] at this; omega
      simp only [h3, if_neg h4]
    · rw [if_neg (fun h7 => h0 h7.1)]
      have h3 := H2.no hf h0
      rw [List.drop_zero] at h3
      simp only [h3]
end Go.Proofs.YthfanonjokpflaaGreat
set_option linter.unusedVariables false
set_option linter.unusedSimpArgs false
namespace Go.Proofs.YthfanonjokpflaaGreat
open Go Go.RowKit

theorem bodyP_of {l r : Bs} {v : ByteArray} (h : txtP l = .ok (v, r)) : bodyP l = .ok (v.data.toList, r) := by
  unfold txtP bindP at h
  cases hb : bodyP l with
  | error c => rw [hb] at h; cases h
  | ok x =>
    rw [hb] at h
    obtain ⟨k, r'⟩ := x
    simp only [retP, Except.ok.injEq, Prod.mk.injEq] at h
    obtain ⟨h1, h2⟩ := h
    rw [← h1, ← h2]
theorem bodyP_no {l : Bs} {c : Int} (h : txtP l = .error c) : bodyP l = .error c := by
  unfold txtP bindP at h
  cases hb : bodyP l with
  | error c' => rw [hb] at h; injection h with h; rw [h]
  | ok x => rw [hb] at h; cases h
theorem Went.body {l : Bs} {i j : Nat} {e f : Int} {v : ByteArray} (h : Went txtP l i e v j f) : Went bodyP l i e v.data.toList j f :=
  ⟨h.le, h.len, h.stays, fun a b => bodyP_of (h.ok a b), fun a b => bodyP_no (h.no a b)⟩
theorem set3M_block {w : World} {q : Nat} {v0 v1 v2 v3 : Value} {T : TypeId} (h : w.heap[q]? = some (.cells #[v0, v1, v2, v3] T (0, 0))) (u1 u2 u3 : Value) :
    (((w.setCell ⟨q, 1, none⟩ u1).setCell ⟨q, 2, none⟩ u2).setCell ⟨q, 3, none⟩ u3).heap[q]? = some (.cells #[v0, u1, u2, u3] T (0, 0)) := by
  have m1 := Joins.block_setCell (i := 1) h u1
  simp only [List.setIfInBounds_toArray, List.set_cons_zero, List.set_cons_succ] at m1
  have m2 := Joins.block_setCell (i := 2) m1 u2
  simp only [List.setIfInBounds_toArray, List.set_cons_zero, List.set_cons_succ] at m2
  have m3 := Joins.block_setCell (i := 3) m2 u3
  simp only [List.setIfInBounds_toArray, List.set_cons_zero, List.set_cons_succ] at m3
  exact m3
theorem kept_set3M {w : World} (q : Nat) (u1 u2 u3 : Value) : Kept (fun k => k = q) w (((w.setCell ⟨q, 1, none⟩ u1).setCell ⟨q, 2, none⟩ u2).setCell ⟨q, 3, none⟩ u3) :=
  (((Kept.refl (fun k => k = q) w).trans (Kept.setCell (fun k => k = q) _ ⟨q, 1, none⟩ u1 rfl) fun _ h => Or.inl h).trans (Kept.setCell (fun k => k = q) _ ⟨q, 2, none⟩ u2 rfl) fun _ h => Or.inl h).trans (Kept.setCell (fun k => k = q) _ ⟨q, 3, none⟩ u3 rfl) fun _ h => Or.inl h
theorem RB.grown {w w' : World} {q i m size : Nat} {s : ByteArray} {e : Int} {ty : TypeId} {v : Value} {xs : List Value} {B : Nat} (h : RB w q s i e) (ho : w.ownsRow B ty size v m xs) (hT : ty ≠ 77) (hg : w.grownBy w' v.ownBlock) : RB w' q s i e :=
  (hg.block q h.lt (fun hp => own_ne ho h hT _ hp.symm rfl)).trans h
set_option maxRecDepth 8000 in
set_option maxHeartbeats 8000000 in
theorem rmutsR (q i : Nat) (e : Int) (s : ByteArray) (w : World) (h : RB w q s i e) (hi : i ≤ s.size) (hs : s.size ≤ 900000) :
    Calls Tryz.prog 42 #[.pointer (some ⟨q, 0, none⟩)] w fun x w' => ∃ (Ks : List MA) (A' : Option Addr) (m c' j : Nat) (f : Int), x = .returned (.slice A' m c') ∧ MutsQ w w' A' m c' Ks ∧ Ks.length = m ∧ m ≤ s.size ∧ RB w' q s j f ∧ KeptR q w w' ∧ Went (listP mutP) s.data.toList i e (muts Ks) j f := by
  have hqw := h.lt
  have HQ := Lib.hid hqw; have HS := Lib.hid hs
  go_enter Tryz.func42, Tryz.ntmps42
  go_wp2_with fail
  refine (rcount q i e s w h hi (by omega)).mono ?_
  rintro x w1 ⟨n, j0, f0, rfl, hn, h1, k1, hw1⟩
  have HN : Hid (n ≤ s.size) := Lib.hid (by omega)
  have H1 := Lib.hid h1; have K1 := Lib.hid k1; have HW1 := Lib.hid hw1
  clear hn h1 k1 hw1 h hi hs hqw
  go_wp2_with fail
  go_loopw [3, 5] (fun a i' wr => ∃ (t : Nat) (Ks : List MA) (A' : Option Addr) (c' j : Nat) (f : Int), a = .slice A' t c' ∧ i' = .int .i64 t ∧ Ks.length = t ∧ RB wr q s j f ∧ KeptR q w wr ∧ MutsQ w wr A' t c' Ks ∧ Loops mutP s.data.toList n j0 f0 (muts Ks) j f) (fun _ i' _ => n - (intOf i').toNat)
  case atStart => exact ⟨0, [], none, 0, j0, f0, rfl, rfl, rfl, H1.out, K1.out, MutsQ.nil _ _, Loops.start _ _ HW1.out.len _⟩
  case round =>
    obtain ⟨t, Ks, A3, c3, j, f, rfl, rfl, ht, hr, hk, hmine, hl⟩ := hrel
    have i8 : n ≤ 1000000 := by have := HN.out; have := HS.out; omega
    have htn : t ≤ n := by rw [← ht]; have := hl.many; rwa [List.length_map] at this
    obtain ⟨_, _, c2⟩ := hr.cells
    have HRR := Lib.hid hr; have HKR := Lib.hid hk; have HLR := Lib.hid hl; have HT := Lib.hid ht; have HMI := Lib.hid hmine; have HTN := Lib.hid htn
    clear hr hk hl ht hmine
    by_cases hlt : t < n
    · have i1 : (t : Int) < n := by omega
      have i2 : decide ((t : Int) < (n : Int)) = true := decide_eq_true (by omega)
      by_cases hf : f = 0
      · subst hf
        clear htn
        go_wp2_with fail
        refine (rtextR q j 0 s wr HRR.out HLR.out.len (by have := HS.out; omega)).mono ?_
        rintro x w2 ⟨v1, j1, f1, rfl, hv1, h2, k2, hw2⟩
        have ba := (Below.refl w2.heap.size w2).alloc (Nat.le_refl _) (.cells #[.string v1, .string ⟨#[]⟩, .int .i64 0, .slice none 0 0] 91)
        have hx0 := heap_alloc_new w2 (.cells #[.string v1, .string ⟨#[]⟩, .int .i64 0, .slice none 0 0] 91)
        obtain ⟨U1, hU1⟩ : ∃ U, U = w2.alloc (.cells #[.string v1, .string ⟨#[]⟩, .int .i64 0, .slice none 0 0] 91) := ⟨_, rfl⟩
        rw [← hU1] at ba hx0
        have hq2 := h2.lt
        have R2 := Lib.hid (h2.below ba)
        have K2 := Lib.hid (KeptR.new (k2) ba)
        have X2 := Lib.hid hx0; have W2 := Lib.hid hw2; have Q2 := Lib.hid (show q < w2.heap.size ∧ wr.heap.size ≤ w2.heap.size from ⟨hq2, k2.size⟩)
        have S2 := Lib.hid (show w2.heap.size < U1.heap.size from (Array.getElem?_eq_some_iff.1 hx0).1)
        clear c2 hv1 h2 k2 hw2 ba hx0 hq2
        go_wp2_with fail
        rw [← hU1]
        clear hU1
        refine (rtextR q j1 f1 s U1 R2.out W2.out.len (by have := HS.out; omega)).mono ?_
        rintro x w3 ⟨v2, j2, f2, rfl, hv2, h3, k3, hw3⟩
        have bb := (Below.refl w3.heap.size w3).alloc (Nat.le_refl _) (.cells #[.string v2, .int .i64 0, .int .i64 f2] 77)
        have hin := heap_alloc_new w3 (.cells #[.string v2, .int .i64 0, .int .i64 f2] 77)
        obtain ⟨U2, hU2⟩ : ∃ U, U = w3.alloc (.cells #[.string v2, .int .i64 0, .int .i64 f2] 77) := ⟨_, rfl⟩
        rw [← hU2] at bb hin
        have hs3 : U1.heap.size ≤ w3.heap.size := k3.size
        have R3 := Lib.hid (h3.below bb)
        have K3 := Lib.hid (KeptR.new (K2.out.on k3) bb)
        have hx3 := Kept.at k3 X2.out (by have := Q2.out; omega)
        have X3 := Lib.hid ((bb.block _ (Array.getElem?_eq_some_iff.1 hx3).1).trans hx3)
        have I3 : Hid (RB U2 w3.heap.size v2 0 f2) := Lib.hid hin
        have W3 := Lib.hid hw3; have V2 := Lib.hid hv2
        have Q3 : Hid (q < w2.heap.size ∧ w2.heap.size < w3.heap.size ∧ w3.heap.size < U2.heap.size) := Lib.hid ⟨Q2.out.1, by have := S2.out; omega, (Array.getElem?_eq_some_iff.1 hin).1⟩
        obtain ⟨_, _, c2⟩ := h3.cells
        clear hv2 h3 k3 hw3 bb hin hs3 hx3
        go_wp2_with fail
        rw [← hU2]
        clear hU2
        refine (rpartR w3.heap.size 0 f2 v2 U2 I3.out (Nat.zero_le _) (by have := V2.out; have := HS.out; omega)).mono ?_
        rintro x w4 ⟨pk, pg, M, Am, m, cm, j3, f3, rfl, hml, h4, k4, hro, hm1, hm2, hw4⟩
        subst hml
        have hs4 : U2.heap.size ≤ w4.heap.size := k4.size
        have hx4 := Kept.at k4 X3.out (by have := Q3.out; omega)
        have hr4 : RB w4 q s j2 f2 := Kept.at k4 R3.out (by have := Q3.out; omega)
        have hk4 := K3.out.own k4 (by have := Q3.out; have := Q2.out; omega)
        have hp4 : RowsQ w w4 Am M.length cm M := (show RowsQ U2 w4 Am M.length cm M from ⟨hro.own, hro.cols⟩).lower (Nat.le_trans HKR.out.size (K3.out.size))
        have y1 := thawed_at (i := 1) hx4
        have y2 := thawed_at (i := 2) hx4
        have y3 := thawed_at (i := 3) hx4
        have z1 := cell_at (i := 1) hx4 rfl
        have z2 := cell_at (i := 2) hx4 rfl
        have z3 := cell_at (i := 3) hx4 rfl
        have hx5 := set3M_block hx4 (.string pk) (.int .i64 pg) (.slice Am M.length cm)
        have k5 := kept_set3M (w := w4) w2.heap.size (.string pk) (.int .i64 pg) (.slice Am M.length cm)
        have X5 := Lib.hid hx5
        have R5 : Hid (RB _ q s j2 f2) := Lib.hid (Kept.at k5 hr4 (by have := Q3.out; omega))
        have I5 : Hid (RB _ w3.heap.size v2 j3 f3) := Lib.hid (Kept.at k5 h4 (by have := Q3.out; omega))
        have K5 := Lib.hid (hk4.own k5 Q2.out.2)
        have P5 := Lib.hid (hp4.kept1 k5 hx4 (by decide) (by decide))
        have W4 := Lib.hid hw4
        have Q5 := Lib.hid (show w3.heap.size < w4.heap.size from h4.lt)
        clear h4 k4 hro hm1 hm2 hw4 hs4 hx4 hr4 hk4 hp4 hx5 k5 c2
        go_wp2_with fail
        generalize World.setCell (World.setCell (World.setCell w4 ⟨w2.heap.size, 1, none⟩ (.string pk)) ⟨w2.heap.size, 2, none⟩ (.int .i64 pg)) ⟨w2.heap.size, 3, none⟩ (.slice Am M.length cm) = w5 at X5 R5 I5 K5 P5 ⊢
        clear y1 y2 y3 z1 z2 z3
        refine (rendR w3.heap.size j3 f3 v2 w5 I5.out (by have := V2.out; have := HS.out; omega)).mono ?_
        rintro x w6 ⟨rfl, h6, k6⟩
        obtain ⟨F, hF⟩ : ∃ F, (if f3 = 0 ∧ j3 < v2.size then (6 : Int) else f3) = F := ⟨_, rfl⟩
        rw [hF] at h6
        have hnest : Went (nestP partP) s.data.toList j1 f1 ⟨pk, pg, ros M⟩ j2 F := by
          have h4 := W3.out.body.nest W4.out
          have e : v2.data.toList.length = v2.size := rfl
          rw [e, hF] at h4
          exact h4
        have hFF : (if f2 = 0 then F else f2) = F := by
          by_cases h : f2 = 0
          · rw [if_pos h]
          · rw [if_neg h, ← hF, if_neg (fun h' => h (by rw [← W4.out.stays h]; exact h'.1)), W4.out.stays h]
        have hwent : Went mutP s.data.toList j 0 (mutOf ⟨v1, ⟨pk, pg, M, Am, cm⟩⟩) j2 F := W2.out.bind (hnest.bind (Went.ret _ hnest.len F))
        have R6 : Hid (RB w6 q s j2 f2) := Lib.hid (Kept.at k6 R5.out (by have := Q3.out; omega))
        have X6 := Lib.hid (Kept.at k6 X5.out (by have := Q3.out; omega))
        have K6 := Lib.hid (K5.out.own k6 (by have := Q3.out; have := Q2.out; omega))
        have P6 := Lib.hid (P5.out.kept1 k6 I5.out (by decide) (by decide))
        have HWM := Lib.hid hwent; have HFF := Lib.hid hFF
        obtain ⟨_, _, c6⟩ := h6.cells
        clear h6 k6 hF hnest hFF hwent X5 R5 I5 K5 P5
        go_wp2_with fail
        clear c6
        refine (rwrong q j2 f2 F s w6 R6.out).mono ?_
        rintro x w7 ⟨rfl, h7, k7⟩
        rw [HFF.out] at h7
        have hx7 := Kept.at k7 X6.out (by have := Q3.out; omega)
        have z0 := cell_at (i := 0) hx7 rfl
        have z1 := cell_at (i := 1) hx7 rfl
        have z2 := cell_at (i := 2) hx7 rfl
        have z3 := cell_at (i := 3) hx7 rfl
        have ba := (Below.refl w7.heap.size w7).alloc (Nat.le_refl _) (.cells #[.string v1, .string pk, .int .i64 pg, .slice Am M.length cm] 91)
        have RD8 := Lib.hid (RdM.laid w7 ⟨v1, ⟨pk, pg, M, Am, cm⟩⟩)
        have R8 := Lib.hid (h7.below ba)
        have K8 := Lib.hid (KeptR.new (HKR.out.on (K6.out.on k7)) ba)
        have M8 := Lib.hid ((HMI.out.kept3 (K6.out.on k7) HRR.out (by decide) (by decide) (by decide)).on ba)
        have P8 := Lib.hid ((P6.out.kept1 k7 R6.out (by decide) (by decide)).on ba)
        have HST := Lib.hid (HLR.out.step (by rw [List.length_map, HT.out]; exact hlt) HWM.out)
        clear h7 k7 hx7 ba
        go_wp2_with (at_builtin; refine list_ex rfl (.tmp 46) (.tmp 48) _ _ rfl (.slice A3 t c3) (.slice (some ⟨w7.heap.size, 0, none⟩) 1 1) rfl rfl (run_appM w.heap.size M8.out.own RD8.out ?s3 ?s4) ?_)
        case s3 => omega
        case s4 => exact K8.out.size
        intro v9 w9 ho9 hg9 _
        obtain ⟨A9, c9, rfl, _⟩ := own_slice ho9
        have H9 := Lib.hid (R8.out.grown M8.out.own (by decide) hg9)
        have K9 := Lib.hid (K8.out.grown M8.out.own hg9)
        have M9 : Hid (MutsQ w w9 A9 (t + 1) c9 (Ks ++ [⟨v1, ⟨pk, pg, M, Am, cm⟩⟩])) := Lib.hid (M8.out.snoc P8.out ho9 hg9)
        clear ho9 hg9 z0 z1 z2 z3
        go_wp2
        go_roundw
        case rel => exact ⟨t + 1, Ks ++ [⟨v1, ⟨pk, pg, M, Am, cm⟩⟩], A9, c9, j2, F, rfl, by go_num, by rw [List.length_append, HT.out]; rfl, H9.out, K9.out, M9.out, by have := HST.out; simpa using this⟩
        case measure => simp [intOf]; omega
      · have e1 : (f == 0) = false := by simp; exact hf
        have HWE := Lib.hid (Loops.list HW1.out HLR.out (fun h => absurd h hf))
        clear hf
        go_wp2
        go_ret
        exact ⟨Ks, A3, t, c3, j, f, rfl, HMI.out, HT.out, by have := HTN.out; have := HN.out; omega, HRR.out, HKR.out, HWE.out⟩
    · obtain rfl : t = n := by omega
      have i2 : decide ((t : Int) < (t : Int)) = false := decide_eq_false (by omega)
      have HWE := Lib.hid (Loops.list HW1.out HLR.out (fun _ => by rw [List.length_map, HT.out]))
      go_wp2
      go_ret
      exact ⟨Ks, A3, t, c3, j, f, rfl, HMI.out, HT.out, HN.out, HRR.out, HKR.out, HWE.out⟩
end Go.Proofs.YthfanonjokpflaaGreat
