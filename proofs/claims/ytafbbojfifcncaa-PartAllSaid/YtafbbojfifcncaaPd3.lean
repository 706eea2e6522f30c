/-
  The developers' Same of partitions.
-/
import Derived.Test.YtafbbojfifcncaaPm0
set_option linter.unusedVariables false
set_option linter.unusedSimpArgs false
namespace Go.Proofs.Ytafbbojfifcncaa
open Go Go.RowKit

instance : DecidableEq Ro := fun x y => decidable_of_iff _ (rosame_iff x y)
theorem same_dec (x y : Ro) : x.same y = decide (x = y) := by rw [Bool.eq_iff_iff, rosame_iff, decide_eq_true_iff]
/-- Partitions alike. -/
def psame (k : ByteArray) (g : Int) (l : List Ro) (k' : ByteArray) (g' : Int) (l' : List Ro) : Bool := k.toList == k'.toList && (g == g' && decide (l = l'))
theorem psame_iff {k k' : ByteArray} {g g' : Int} {l l' : List Ro} : psame k g l k' g' l' = true ↔ k = k' ∧ g = g' ∧ l = l' := by
  unfold psame
  rw [Bool.and_eq_true, Bool.and_eq_true, eqB_iff, beq_iff_eq, decide_eq_true_iff]
theorem psame_self (k : ByteArray) (g : Int) (l : List Ro) : psame k g l k g l = true := psame_iff.2 ⟨rfl, rfl, rfl⟩
theorem ros_take {L : List RA} {t : Nat} (h : t < L.length) : ros (L.take (t + 1)) = ros (L.take t) ++ [L[t].ro] := by
  rw [List.take_succ_eq_append_getElem h, ros, List.map_append]
  rfl
set_option maxRecDepth 8000 in
set_option maxHeartbeats 4000000 in
theorem equalfuncR_any (A A' : Option Addr) (n n' c c' B B' : Nat) (L K : List RA) (w : World) (h : Lies w B A n c L) (h' : Lies w B' A' n' c' K) (hB : B ≤ w.heap.size) (hB' : B' ≤ w.heap.size) (hn : n ≤ 1000000) (hn' : n' ≤ 1000000) (hf : ∀ x ∈ L, x.ro.cols.length ≤ 1000) (hf' : ∀ x ∈ K, x.ro.cols.length ≤ 1000) :
    Calls Try.prog 32 #[.slice A n c, .slice A' n' c', .func (.func 33) #[] #[]] w fun e w' => e = .returned (.bool (decide (ros L = ros K))) ∧ Below w.heap.size w w' := by
  have hl := h.len
  have hl' := h'.len
  obtain ⟨v, hv⟩ : ∃ v : Bool, decide (ros L = ros K) = v := ⟨_, rfl⟩
  rw [hv]
  have HV := Lib.hid hv
  clear hv
  by_cases hne : n = n'
  · subst hne
    have HL := Lib.hid hl
    have HL' := Lib.hid hl'
    have HH := Lib.hid h; have HH' := Lib.hid h'
    have HF := Lib.hid hf; have HF' := Lib.hid hf'
    clear hl hl' h h' hf hf'
    go_enter Try.func32, Try.ntmps32
    go_wp2
    go_loopw [17] (fun i wr => ∃ t : Nat, t ≤ n ∧ i = .int .i64 t ∧ ros (L.take t) = ros (K.take t) ∧ Below w.heap.size w wr) (fun i _ => n - (intOf i).toNat)
    case atStart => exact ⟨0, Nat.zero_le _, rfl, rfl, Below.refl _ _⟩
    case round =>
      obtain ⟨t, ht, rfl, hz, hb⟩ := hrel
      have HZ := Lib.hid hz; have HB := Lib.hid hb
      clear hz hb
      by_cases hlt : t < n
      · have i1 : (t : Int) < n := by omega
        have i0 : (0 : Int) ≤ t := by omega
        have htl : t < L.length := by rw [HL.out]; exact hlt
        have htl' : t < K.length := by rw [HL'.out]; exact hlt
        obtain ⟨g, o, rfl, hgb⟩ := HH.out.rd.ex (by omega)
        obtain ⟨g', o', rfl, hgb'⟩ := HH'.out.rd.ex (by omega)
        have hrow := (HH.out.below (HB.out.mono hB)).rd.row htl
        have hrow' := (HH'.out.below (HB.out.mono hB')).rd.row htl'
        have hin := (HH.out.below (HB.out.mono hB)).held L[t] (List.getElem_mem htl)
        have hin' := (HH'.out.below (HB.out.mono hB')).held K[t] (List.getElem_mem htl')
        have hcl := HF.out L[t] (List.getElem_mem htl)
        have hcl' := HF'.out K[t] (List.getElem_mem htl')
        have hgw : g < wr.heap.size := by have := HB.out.size; omega
        have hgw' : g' < wr.heap.size := by have := HB.out.size; omega
        have htk := ros_take htl
        have htk' := ros_take htl'
        have hne : L[t].ro ≠ K[t].ro → v = false := fun hh => by
          rw [← HV.out, decide_eq_false_iff_not]
          intro he
          refine hh ?_
          have h1 : (ros L)[t]? = (ros K)[t]? := by rw [he]
          rw [List.getElem?_map, List.getElem?_map, List.getElem?_eq_getElem htl, List.getElem?_eq_getElem htl'] at h1
          injection h1
        obtain ⟨x, hx⟩ : ∃ x, L[t] = x := ⟨_, rfl⟩
        obtain ⟨y, hy⟩ : ∃ y, K[t] = y := ⟨_, rfl⟩
        rw [hx] at hrow hin hcl htk hne
        rw [hy] at hrow' hin' hcl' htk' hne
        have ha := (Below.refl wr.heap.size wr).alloc (Nat.le_refl _) (.cells #[.string x.ro.key, .string x.ro.live.s, .bool x.ro.live.d, .int .i64 x.ro.live.a, .int .i64 x.ro.live.e, .int .i64 x.ro.gone, .int .i64 x.ro.shade, .slice x.A x.ro.cols.length x.c] 36)
        have ha2 := ha.alloc (by simp) (.cells #[.string y.ro.key, .string y.ro.live.s, .bool y.ro.live.d, .int .i64 y.ro.live.a, .int .i64 y.ro.live.e, .int .i64 y.ro.gone, .int .i64 y.ro.shade, .slice y.A y.ro.cols.length y.c] 36)
        have hrow2 := hrow'.below ha hgw'
        have hb0 := new_at (heap_alloc_new wr (.cells #[.string x.ro.key, .string x.ro.live.s, .bool x.ro.live.d, .int .i64 x.ro.live.a, .int .i64 x.ro.live.e, .int .i64 x.ro.gone, .int .i64 x.ro.shade, .slice x.A x.ro.cols.length x.c] 36)) (.cells #[.string y.ro.key, .string y.ro.live.s, .bool y.ro.live.d, .int .i64 y.ro.live.a, .int .i64 y.ro.live.e, .int .i64 y.ro.gone, .int .i64 y.ro.shade, .slice y.A y.ro.cols.length y.c] 36)
        have hb1 := heap_alloc_new (wr.alloc (.cells #[.string x.ro.key, .string x.ro.live.s, .bool x.ro.live.d, .int .i64 x.ro.live.a, .int .i64 x.ro.live.e, .int .i64 x.ro.gone, .int .i64 x.ro.shade, .slice x.A x.ro.cols.length x.c] 36)) (.cells #[.string y.ro.key, .string y.ro.live.s, .bool y.ro.live.d, .int .i64 y.ro.live.a, .int .i64 y.ro.live.e, .int .i64 y.ro.gone, .int .i64 y.ro.shade, .slice y.A y.ro.cols.length y.c] 36)
        simp only [World.size_alloc] at hb1
        have hin2 := hin.below (ha2.mono (by have := HB.out.size; omega))
        have hin2' := hin'.below (ha2.mono (by have := HB.out.size; omega))
        obtain ⟨_, _, _, _, _, _, _, _⟩ := hrow
        obtain ⟨_, _, _, _, _, _, _, _⟩ := hrow2
        obtain ⟨u, hu⟩ : ∃ u, x.ro.same y.ro = u := ⟨_, rfl⟩
        obtain ⟨_, _, _, _, _, _, _, _⟩ := BlkAt.of hb0
        obtain ⟨_, _, _, _, _, _, _, _⟩ := BlkAt.of hb1
        have hbb := HB.out.trans (ha2.mono HB.out.size)
        have HBB := Lib.hid hbb; have HU := Lib.hid hu; have HTK := Lib.hid htk; have HTK' := Lib.hid htk'; have HNE := Lib.hid hne
        have HIN := Lib.hid hin2; have HIN' := Lib.hid hin2'; have HCL := Lib.hid hcl; have HCL' := Lib.hid hcl'
        clear hbb ha ha2 hx hy hrow' htk htk' hne hu hb0 hb1 hin hin' hin2 hin2' hcl hcl'
        go_wp2_with fail
        refine (same_ra x y B B' _ HIN.out HIN'.out ?hb ?hb' HCL.out HCL'.out).mono ?_
        case hb => have := HB.out.size; simp; omega
        case hb' => have := HB.out.size; simp; omega
        rintro e w1 ⟨rfl, b1⟩
        rw [HU.out]
        have B1 := Lib.hid (next HBB.out b1)
        clear b1
        cases u
        · have hv0 : v = false := HNE.out fun he => by have := (rosame_iff _ _).2 he; rw [HU.out] at this; cases this
          subst hv0
          go_wp2
          go_ret
          exact ⟨rfl, B1.out⟩
        · go_wp2
          go_roundw
          case rel => exact ⟨t + 1, by omega, by go_num, by rw [HTK.out, HTK'.out, HZ.out, (rosame_iff _ _).1 HU.out], B1.out⟩
          case measure => simp [intOf]; omega
      · obtain rfl : t = n := by omega
        have hf : v = true := by
          rw [← HV.out, decide_eq_true_iff]
          have := HZ.out
          rwa [List.take_of_length_le (by rw [HL.out]; exact Nat.le_refl _), List.take_of_length_le (by rw [HL'.out]; exact Nat.le_refl _)] at this
        subst hf
        go_wp2
        go_ret
        exact ⟨rfl, HB.out⟩
  · have hf : v = false := by
      rw [← HV.out, decide_eq_false_iff_not]
      intro he
      have := congrArg List.length he
      rw [List.length_map, List.length_map, hl, hl'] at this
      exact hne this
    subst hf
    have hb : ((n : Int) != n') = true := by rw [bne_iff_ne]; omega
    go_enter Try.func32, Try.ntmps32
    go_wp2
    go_ret
    exact ⟨rfl, Below.refl _ _⟩

/-- A partition's three cells at block q. -/
def PtAt (w : World) (q : Nat) (k : ByteArray) (g : Int) (A : Option Addr) (n c : Nat) : Prop := w.cell? ⟨q, 0, none⟩ = some (.string k) ∧ w.cell? ⟨q, 1, none⟩ = some (.int .i64 g) ∧ w.cell? ⟨q, 2, none⟩ = some (.slice A n c)
theorem PtAt.of {w : World} {q : Nat} {k : ByteArray} {g : Int} {A : Option Addr} {n c : Nat} (h : w.heap[q]? = some (.cells #[.string k, .int .i64 g, .slice A n c] 24 (0, 0))) : PtAt w q k g A n c := ⟨cell_at h rfl, cell_at h rfl, cell_at h rfl⟩
theorem PtAt.below {w w' : World} {q B : Nat} {k : ByteArray} {g : Int} {A : Option Addr} {n c : Nat} (r : PtAt w q k g A n c) (hb : Below B w w') (hg : q < B) : PtAt w' q k g A n c :=
  ⟨(hb.cell (p := ⟨q, _, none⟩) hg).trans r.1, (hb.cell (p := ⟨q, _, none⟩) hg).trans r.2.1, (hb.cell (p := ⟨q, _, none⟩) hg).trans r.2.2⟩
set_option maxRecDepth 8000 in
set_option maxHeartbeats 4000000 in
theorem psame_any (k k' : ByteArray) (g g' : Int) (A A' : Option Addr) (n n' c c' B B' : Nat) (L K : List RA) (w : World) (h : Lies w B A n c L) (h' : Lies w B' A' n' c' K) (hB : B ≤ w.heap.size) (hB' : B' ≤ w.heap.size) (hn : n ≤ 1000000) (hn' : n' ≤ 1000000) (hf : ∀ x ∈ L, x.ro.cols.length ≤ 1000) (hf' : ∀ x ∈ K, x.ro.cols.length ≤ 1000) :
    Calls Try.prog 12 #[.agg #[.string k, .int .i64 g, .slice A n c], .agg #[.string k', .int .i64 g', .slice A' n' c']] w fun e w' => e = .returned (.bool (psame k g (ros L) k' g' (ros K))) ∧ Below w.heap.size w w' := by
  obtain ⟨r, hrr⟩ : ∃ r, psame k g (ros L) k' g' (ros K) = r := ⟨_, rfl⟩
  rw [hrr]
  have bz := ((Below.refl w.heap.size w).alloc (Nat.le_refl _) (.cells #[.string k, .int .i64 g, .slice A n c] 24)).alloc (by simp) (.cells #[.string k', .int .i64 g', .slice A' n' c'] 24)
  have HL := Lib.hid (h.below (bz.mono hB)); have HL' := Lib.hid (h'.below (bz.mono hB')); have BZ := Lib.hid bz; have HR := Lib.hid hrr; have HF := Lib.hid hf; have HF' := Lib.hid hf'
  clear hrr bz h h' hf hf'
  unfold psame at HR
  cases h1 : (k.toList == k'.toList)
  · have hv : r = false := by rw [← HR.out, h1]; rfl
    subst hv
    go_enter Try.func12, Try.ntmps12
    go_wp2
    go_ret
    exact ⟨rfl, BZ.out⟩
  · cases h3 : (g == g')
    · have hv : r = false := by rw [← HR.out, h1, h3]; rfl
      subst hv
      go_enter Try.func12, Try.ntmps12
      go_wp2
      go_ret
      exact ⟨rfl, BZ.out⟩
    · have hv : decide (ros L = ros K) = r := by rw [← HR.out, h1, h3]; simp
      have HV := Lib.hid hv
      clear hv
      go_enter Try.func12, Try.ntmps12
      go_wp2_with fail
      refine (equalfuncR_any A A' n n' c c' B B' L K _ HL.out HL'.out ?hb ?hb' hn hn' HF.out HF'.out).mono ?_
      case hb => simp; omega
      case hb' => simp; omega
      rintro e w2 ⟨rfl, b2⟩
      rw [HV.out]
      go_wp2
      go_ret
      exact ⟨rfl, next BZ.out b2⟩
end Go.Proofs.Ytafbbojfifcncaa
