/-
  PackBack: for every input the law returns true, and each argument reads as it read. No condition.
-/
import Derived.Test.YthfanonjokpflaaPk
import Derived.Test.YthfanonjokpflaaLawPBackA
import Derived.Test.YthfanonjokpflaaRoU
import Derived.Test.YthfanonjokpflaaRoL
import Derived.Test.YthfanonjokpflaaTkl
import Derived.Test.YthfanonjokpflaaRo2
import Derived.Deep.RegionHeld3
import Derived.Test.YthfanonjokpflaaRoK
import Derived.Test.YthfanonjokpflaaRoB
import Derived.Test.YthfanonjokpflaaCeA
import Derived.Test.YthfanonjokpflaaKq
import Derived.Test.YthfanonjokpflaaCe5
import Derived.Test.YthfanonjokpflaaRw7
import Derived.Deep.RegionLaw
import Derived.Deep.DeepCutAuto
import Derived.Deep.CutBlock
import Derived.Laws.IdiomStrings
import Derived.Laws.IdiomRangeMap
import Derived.Test.YthfanonjokpflaaRw2
import Derived.Lib.SmallJoins
import Derived.Test.YthfanonjokpflaaRoV
import Derived.Test.YthfanonjokpflaaRgz
import Derived.Test.YthfanonjokpflaaRo1
import Derived.Test.YthfanonjokpflaaRc3
import Derived.Test.YthfanonjokpflaaRnN
import Derived.Test.YthfanonjokpflaaPlc
import Derived.Test.YthfanonjokpflaaRw4
import Derived.Deep.QuietTactic
import Derived.BigQuiet
import Derived.WalkSpells
import Derived.Test.YthfanonjokpflaaProg
import Derived.ProofKit
import Derived.OpenShut
import Derived.ChangeOld
import Derived.Carry
import Derived.Deep.Slices
import Derived.ChangeSame
import Derived.Test.YthfanonjokpflaaPo
import Derived.Deep.Strs
import Derived.Test.YthfanonjokpflaaRows
import Derived.WalkKit
import Derived.ShutString
import Derived.Below
set_option linter.unusedVariables false
set_option linter.unusedSimpArgs false
namespace Go.Proofs.Ythfanonjokpflaa
open Go Go.RowKit

theorem riseK_of_rise : ∀ {l : Cols}, Rise l → RiseK Prod.fst l
  | [], _ => trivial
  | (m, c) :: l, h => ⟨h.1, riseK_of_rise h.2⟩
/-- Columns of the four names. -/
structure ColsIn (l : Cols) : Prop where
  rise : Rise l
  all : ∀ x ∈ l, colB x = true ∧ x.1.size ≤ 1 ∧ x.2.s.size ≤ 1 ∧ x.1 ∈ [nm 0, nm 1, nm 2, nm 3]
theorem ColsIn.nil : ColsIn [] := ⟨trivial, fun x hx => by cases hx⟩
theorem ColsIn.len {l : Cols} (h : ColsIn l) : l.length ≤ 4 := riseK_few (riseK_of_rise h.rise) fun x hx => (h.all x hx).2.2.2
/-- A row by numbers, or joins of such. -/
structure RowIn (r : Ro) : Prop where
  ok : r.ok = true
  cols : ColsIn r.cols
theorem RowIn.up {a : Ro} (h : RowIn a) : a.Up := up_of_ok h.ok
/-- A partition by numbers, or joins of such. -/
structure PartIn (p : Pa) : Prop where
  key : p.key.size ≤ 100
  gone : stm p.gone = true
  rise : RiseR p.rows
  rows : ∀ r ∈ p.rows, RowIn r ∧ r.key ∈ [dg 0, dg 1, dg 2, dg 3]
theorem PartIn.up {p : Pa} (h : PartIn p) : p.Up := ⟨h.rise, fun r hr => (h.rows r hr).1.up⟩
theorem PartIn.len {p : Pa} (h : PartIn p) : p.rows.length ≤ 4 := riseK_few h.rise fun r hr => (h.rows r hr).2
theorem PartIn.ok {p : Pa} (h : PartIn p) : p.ok = true := by
  unfold Pa.ok
  rw [decide_eq_true h.key, h.gone, decide_eq_true (show p.rows.length ≤ 100 from Nat.le_trans h.len (by omega)), rowsB_of h.rise fun r hr => (h.rows r hr).1.ok]
  rfl
end Go.Proofs.Ythfanonjokpflaa
set_option linter.unusedVariables false
set_option linter.unusedSimpArgs false
namespace Go.Proofs.Ythfanonjokpflaa
open Go Go.RowKit Go.Joins

theorem stm_ofP {n : Int} (h0 : 0 ≤ n) (h1 : n ≤ 1099511627776) : stm n = true := by unfold stm; rw [decide_eq_true h0, decide_eq_true h1]; rfl
/-- Each of the rows has columns of its own. -/
def OwnR (w : World) (b : Nat) (L : List RA) : Prop := ∀ x ∈ L, w.ownsRow b 90 5 (.slice x.A x.ro.cols.length x.c) x.ro.cols.length (kRow x.ro.cols)
theorem OwnR.kept {w w' : World} {b : Nat} {L : List RA} (h : OwnR w b L) (hk : ∀ x ∈ L, ∀ g, (Value.slice x.A x.ro.cols.length x.c).ownBlock = some g → w'.heap[g]? = w.heap[g]?) : OwnR w' b L := fun x hx => own_kept (h x hx) (hk x hx)
theorem OwnR.below {w w' : World} {b : Nat} {L : List RA} (h : OwnR w b L) (hb : Below w.heap.size w w') : OwnR w' b L := fun x hx => own_below (h x hx) hb
/-- Rows whose keys are those of the numbers below t. -/
structure RowsTo (t : Nat) (L : List RA) : Prop where
  rise : RiseR (L.map RA.ro)
  all : ∀ x ∈ L, RowIn x.ro ∧ ∃ i, i < t ∧ x.ro.key = dg i
  len : L.length ≤ t
theorem RowsTo.nil (t : Nat) : RowsTo t [] := ⟨trivial, fun x hx => (by cases hx), Nat.zero_le _⟩
theorem RowsTo.next {t : Nat} {L : List RA} (h : RowsTo t L) : RowsTo (t + 1) L := ⟨h.rise, fun x hx => by
  obtain ⟨h1, i, hi, e⟩ := h.all x hx
  exact ⟨h1, i, by omega, e⟩, Nat.le_succ_of_le h.len⟩
theorem RowsTo.snoc {t : Nat} {L : List RA} (h : RowsTo t L) (ht : t < 4) {x : RA} (hx : RowIn x.ro) (hk : x.ro.key = dg t) : RowsTo (t + 1) (L ++ [x]) := by
  refine ⟨?_, fun y hy => ?_, by have := h.len; simp; omega⟩
  · rw [List.map_append]
    refine riseK_snoc h.rise fun y hy => ?_
    obtain ⟨z, hz, rfl⟩ := List.mem_map.1 hy
    obtain ⟨_, i, hi, e⟩ := h.all z hz
    rw [e, hk]
    exact dg_facts.2 t ht i hi
  · rcases List.mem_append.1 hy with h1 | h1
    · exact h.next.all y h1
    · rw [List.mem_singleton.1 h1]
      exact ⟨hx, t, by omega, hk⟩
theorem RowsTo.part {L : List RA} (h : RowsTo 4 L) {k : ByteArray} {g : Int} (hk : k.size ≤ 100) (hg : 0 ≤ g ∧ g ≤ 8) : PartIn ⟨k, g, L.map RA.ro⟩ :=
  ⟨hk, stm_ofP hg.1 (Int.le_trans hg.2 (by omega)), h.rise, fun r hr => by
    obtain ⟨x, hx, rfl⟩ := List.mem_map.1 hr
    obtain ⟨h1, i, hi, e⟩ := h.all x hx
    refine ⟨h1, ?_⟩
    rw [e]
    have : i = 0 ∨ i = 1 ∨ i = 2 ∨ i = 3 := by omega
    rcases this with rfl | rfl | rfl | rfl <;> simp⟩
/-- The partition under way, at block r. -/
def PB (w : World) (r : Nat) (k : ByteArray) (g : Int) (A : Option Addr) (n c : Nat) : Prop := w.heap[r]? = some (.cells #[.string k, .int .i64 g, .slice A n c] 24 (0, 0))
theorem PB.cells {w : World} {r : Nat} {k : ByteArray} {g : Int} {A : Option Addr} {n c : Nat} (h : PB w r k g A n c) : w.cell? ⟨r, 0, none⟩ = some (.string k) ∧ w.cell? ⟨r, 1, none⟩ = some (.int .i64 g) ∧ w.cell? ⟨r, 2, none⟩ = some (.slice A n c) :=
  ⟨cell_at (i := 0) h rfl, cell_at (i := 1) h rfl, cell_at (i := 2) h rfl⟩
end Go.Proofs.Ythfanonjokpflaa
set_option linter.unusedVariables false
set_option linter.unusedSimpArgs false
namespace Go.Proofs.Ythfanonjokpflaa
open Go Go.RowKit

set_option maxRecDepth 8000 in
set_option maxHeartbeats 2000000 in
theorem getPart_any (A : Option Addr) (n c B : Nat) (l : Bs) (w : World) (hr : Rd w B A n l) (hB : B ≤ w.heap.size) (hnc : n ≤ c) (hc : c ≤ maxLen) (hA : A = none → c = 0) :
    Calls Try.prog 11 #[.slice A n c] w (GivesG w (getPart l)) := by
  have bz := (Below.refl w.heap.size w).alloc (Nat.le_refl _) (.cells #[.string ⟨#[]⟩, .int .i64 0, .slice none 0 0] 24)
  have hz := heap_alloc_new w (.cells #[.string ⟨#[]⟩, .int .i64 0, .slice none 0 0] 24)
  obtain ⟨V, hV⟩ : ∃ V, V = w.alloc (.cells #[.string ⟨#[]⟩, .int .i64 0, .slice none 0 0] 24) := ⟨_, rfl⟩
  rw [← hV] at bz hz
  have N := get_part A n c B l V (hr.below (bz.mono hB)) (Nat.le_trans hB bz.size) hnc hc hA
  obtain ⟨R, hR⟩ : ∃ R, getPart l = R := ⟨_, rfl⟩
  rw [hR] at N ⊢
  have HZ := Lib.hid hz; have BZ := Lib.hid bz; have HN := Lib.hid N
  clear bz hz N hr hB hnc hc hA hR
  go_enter Try.func11, Try.ntmps11
  go_wp2_with fail
  rw [← hV]
  clear hV
  refine HN.out.mono ?_
  intro x w1 hg
  cases R with
  | error e =>
    obtain ⟨rfl, b1⟩ := hg
    have HZ1 := Lib.hid ((b1.block _ (Array.getElem?_eq_some_iff.1 HZ.out).1).trans HZ.out)
    have B1 := Lib.hid (next BZ.out b1)
    have z0 := cell_at (i := 0) HZ1.out rfl
    have z1 := cell_at (i := 1) HZ1.out rfl
    have z2 := cell_at (i := 2) HZ1.out rfl
    have y0 := thawed_at (i := 0) HZ1.out
    have y1 := thawed_at (i := 1) HZ1.out
    have y2 := thawed_at (i := 2) HZ1.out
    have m9 := set3Q_block HZ1.out (.string ⟨#[]⟩) (.int .i64 0) (.slice none 0 0)
    have b9 := (kept_set3Q (w := w1) w.heap.size (.string ⟨#[]⟩) (.int .i64 0) (.slice none 0 0)).below (B := w.heap.size) (fun k hk => by subst hk; exact Nat.le_refl _) B1.out.size
    have B9 := Lib.hid (B1.out.trans b9)
    clear b1 b9
    go_wp2
    generalize World.setCell (World.setCell (World.setCell w1 ⟨w.heap.size, 0, none⟩ (.string ⟨#[]⟩)) ⟨w.heap.size, 1, none⟩ (.int .i64 0)) ⟨w.heap.size, 2, none⟩ (.slice none 0 0) = w9 at m9 B9 ⊢
    clear z0 z1 z2 y0 y1 y2
    have q0 := cell_at (i := 0) m9 rfl
    have q1 := cell_at (i := 1) m9 rfl
    have q2 := cell_at (i := 2) m9 rfl
    refine bodyPost_ret (v := .tuple #[.agg #[.string ⟨#[]⟩, .int .i64 0, .slice none 0 0], .int .i64 e]) ?_ rfl ?_
    · simp [results, Try.results11, go_sem, q0, q1, q2]
    · exact ⟨rfl, B9.out⟩
  | ok p =>
    obtain ⟨⟨zk, zg, zL, zA, zc⟩, hp, rfl, hrows, b1⟩ := hg
    dsimp only at hp hrows
    have HZ1 := Lib.hid ((b1.block _ (Array.getElem?_eq_some_iff.1 HZ.out).1).trans HZ.out)
    have B1 := Lib.hid (next BZ.out b1)
    have z0 := cell_at (i := 0) HZ1.out rfl
    have z1 := cell_at (i := 1) HZ1.out rfl
    have z2 := cell_at (i := 2) HZ1.out rfl
    have y0 := thawed_at (i := 0) HZ1.out
    have y1 := thawed_at (i := 1) HZ1.out
    have y2 := thawed_at (i := 2) HZ1.out
    have m9 := set3Q_block HZ1.out (.string zk) (.int .i64 zg) (.slice zA zL.length zc)
    have k9 := kept_set3Q (w := w1) w.heap.size (.string zk) (.int .i64 zg) (.slice zA zL.length zc)
    have b9 := k9.below (B := w.heap.size) (fun k hk => by subst hk; exact Nat.le_refl _) B1.out.size
    have B9 := Lib.hid (show _ ∧ _ from ⟨B1.out.trans b9, (hrows.lower (w0 := w) BZ.out.size).kept1 k9 HZ1.out (by decide) (by decide)⟩)
    have HP := Lib.hid hp
    clear b1 b9 k9 hrows hp
    go_wp2
    generalize World.setCell (World.setCell (World.setCell w1 ⟨w.heap.size, 0, none⟩ (.string zk)) ⟨w.heap.size, 1, none⟩ (.int .i64 zg)) ⟨w.heap.size, 2, none⟩ (.slice zA zL.length zc) = w9 at m9 B9 ⊢
    clear z0 z1 z2 y0 y1 y2
    have q0 := cell_at (i := 0) m9 rfl
    have q1 := cell_at (i := 1) m9 rfl
    have q2 := cell_at (i := 2) m9 rfl
    refine bodyPost_ret (v := .tuple #[.agg #[.string zk, .int .i64 zg, .slice zA zL.length zc], .int .i64 0]) ?_ rfl ?_
    · simp [results, Try.results11, go_sem, q0, q1, q2]
    · exact ⟨⟨zk, zg, zL, zA, zc⟩, HP.out, rfl, B9.out.2, B9.out.1⟩
end Go.Proofs.Ythfanonjokpflaa
set_option linter.unusedVariables false
set_option linter.unusedSimpArgs false
namespace Go.Proofs.Ythfanonjokpflaa
open Go Go.RowKit

theorem rsame_ra (x y : RA) (B B' : Nat) (w : World) (h : RaIn w B x) (h' : RaIn w B' y) (hB : B ≤ w.heap.size) (hB' : B' ≤ w.heap.size) (hn : x.ro.cols.length ≤ 1000) (hn' : y.ro.cols.length ≤ 1000) :
    Calls Try.prog 53 #[.agg #[.string x.ro.key, .string x.ro.live.s, .bool x.ro.live.d, .int .i64 x.ro.live.a, .int .i64 x.ro.live.e, .int .i64 x.ro.gone, .int .i64 x.ro.shade, .slice x.A x.ro.cols.length x.c], .agg #[.string y.ro.key, .string y.ro.live.s, .bool y.ro.live.d, .int .i64 y.ro.live.a, .int .i64 y.ro.live.e, .int .i64 y.ro.gone, .int .i64 y.ro.shade, .slice y.A y.ro.cols.length y.c]] w fun e w' => e = .returned (.bool (x.ro.same y.ro)) ∧ Below w.heap.size w w' :=
  rsamerow_any x.ro.key x.ro.live.s y.ro.key y.ro.live.s x.ro.live.d y.ro.live.d x.ro.live.a x.ro.live.e x.ro.gone x.ro.shade y.ro.live.a y.ro.live.e y.ro.gone y.ro.shade x.A y.A x.ro.cols.length x.c y.ro.cols.length y.c B B' x.ro.cols y.ro.cols w h.rd h'.rd hB hB' (by omega) (by omega)
set_option maxRecDepth 8000 in
set_option maxHeartbeats 4000000 in
theorem rsamerows_any (A A' : Option Addr) (n n' c c' B B' : Nat) (L M : List RA) (w : World) (h : Lies w B A n c L) (h' : Lies w B' A' n' c' M) (hB : B ≤ w.heap.size) (hB' : B' ≤ w.heap.size) (hn : n ≤ 1000000) (hn' : n' ≤ 1000000) (hf : ∀ x ∈ L, x.ro.cols.length ≤ 1000) (hf' : ∀ x ∈ M, x.ro.cols.length ≤ 1000) :
    Calls Try.prog 27 #[.slice A n c, .slice A' n' c'] w fun e w' => e = .returned (.bool (decide (ros L = ros M))) ∧ Below w.heap.size w w' := by
  have hl := h.len
  have hl' := h'.len
  obtain ⟨v, hv⟩ : ∃ v : Bool, decide (ros L = ros M) = v := ⟨_, rfl⟩
  rw [hv]
  have HV := Lib.hid hv
  clear hv
  by_cases hne : n = n'
  · subst hne
    have HL := Lib.hid hl
    have HL' := Lib.hid hl'
    have HH := Lib.hid h; have HH' := Lib.hid h'
    have HF := Lib.hid hf; have HF' := Lib.hid hf'
    clear hl hl' h h' hf hf'
    go_enter Try.func27, Try.ntmps27
    go_wp2
    go_loopw [5] (fun i wr => ∃ t : Nat, t ≤ n ∧ i = .int .i64 t ∧ ros (L.take t) = ros (M.take t) ∧ Below w.heap.size w wr) (fun i _ => n - (intOf i).toNat)
    case atStart => exact ⟨0, Nat.zero_le _, rfl, rfl, Below.refl _ _⟩
    case round =>
      obtain ⟨t, ht, rfl, hz, hb⟩ := hrel
      have HZ := Lib.hid hz; have HB := Lib.hid hb
      clear hz hb
      by_cases hlt : t < n
      · have i1 : (t : Int) < n := by omega
        have i0 : (0 : Int) ≤ t := by omega
        have htl : t < L.length := by rw [HL.out]; exact hlt
        have htl' : t < M.length := by rw [HL'.out]; exact hlt
        obtain ⟨g, o, rfl, hgb⟩ := HH.out.rd.ex (by omega)
        obtain ⟨g', o', rfl, hgb'⟩ := HH'.out.rd.ex (by omega)
        have hrow := (HH.out.below (HB.out.mono hB)).rd.row htl
        have hrow' := (HH'.out.below (HB.out.mono hB')).rd.row htl'
        have hin := (HH.out.below (HB.out.mono hB)).held L[t] (List.getElem_mem htl)
        have hin' := (HH'.out.below (HB.out.mono hB')).held M[t] (List.getElem_mem htl')
        have hcl := HF.out L[t] (List.getElem_mem htl)
        have hcl' := HF'.out M[t] (List.getElem_mem htl')
        have htk := ros_take htl
        have htk' := ros_take htl'
        have hne : L[t].ro ≠ M[t].ro → v = false := fun hh => by
          rw [← HV.out, decide_eq_false_iff_not]
          intro he
          refine hh ?_
          have h1 : (ros L)[t]? = (ros M)[t]? := by rw [he]
          rw [List.getElem?_map, List.getElem?_map, List.getElem?_eq_getElem htl, List.getElem?_eq_getElem htl'] at h1
          injection h1
        obtain ⟨x, hx⟩ : ∃ x, L[t] = x := ⟨_, rfl⟩
        obtain ⟨y, hy⟩ : ∃ y, M[t] = y := ⟨_, rfl⟩
        rw [hx] at hrow hin hcl htk hne
        rw [hy] at hrow' hin' hcl' htk' hne
        obtain ⟨u, hu⟩ : ∃ u, x.ro.same y.ro = u := ⟨_, rfl⟩
        have HRX := Lib.hid hrow; have HRY := Lib.hid hrow'; have HU := Lib.hid hu; have HTK := Lib.hid htk; have HTK' := Lib.hid htk'; have HNE := Lib.hid hne
        have HIN := Lib.hid hin; have HIN' := Lib.hid hin'; have HCL := Lib.hid hcl; have HCL' := Lib.hid hcl'
        have HGW : Hid (g < wr.heap.size) := Lib.hid (by have := HB.out.size; omega)
        have HGW' : Hid (g' < wr.heap.size) := Lib.hid (by have := HB.out.size; omega)
        have HUB : Hid (B ≤ wr.heap.size) := Lib.hid (Nat.le_trans hB HB.out.size)
        have HUB' : Hid (B' ≤ wr.heap.size) := Lib.hid (Nat.le_trans hB' HB.out.size)
        clear hrow hrow' hu htk htk' hne hin hin' hcl hcl' hx hy
        go_wp2_with fail
        refine wp_region_held_drew (S := fun w' => Below wr.heap.size wr w') (by kernel_rfl) ?_ (fun hHeld => ?_)
        · exact (Below.refl _ _).drew
        refine takesH [0, 1, 2, 3, 4, 5, 6, 7] ?_
        repeat
          refine takesH_one (v := ?_) ?_ ?_
          rotate_left
          · first | (refine Or.inr ⟨by rfl, ?_⟩; with_reducible rfl) | (refine Or.inl ⟨by rfl, ?_⟩; intro wx hSw; (try dsimp only at hSw); first | (go_simp; first | done | with_reducible rfl) | (obtain ⟨_, _, _, _, _, _, _, _⟩ := HRX.out.below hSw HGW.out; go_simp; first | done | with_reducible rfl) | (obtain ⟨_, _, _, _, _, _, _, _⟩ := HRY.out.below hSw HGW'.out; go_simp; first | done | with_reducible rfl))
          try simp only [Act.put, List.getElem_toArray, List.getElem_cons_succ, List.getElem_cons_zero, List.setIfInBounds_toArray, List.set_cons_zero, List.set_cons_succ]
        refine takesH_nil ?_
        refine wpAnyH_ready (rs := [8]) (by kernel_rfl) (by simp) (AllReadyH.cons rfl (fun K hK => ?_) AllReadyH.nil)
        go_simp
        refine (rsame_ra x y B B' _ (HIN.out.below (hHeld.mono HUB.out)) (HIN'.out.below (hHeld.mono HUB'.out)) (Nat.le_trans HUB.out hHeld.size) (Nat.le_trans HUB'.out hHeld.size) HCL.out HCL'.out).mono ?_
        rintro e w1 ⟨rfl, b1⟩
        rw [HU.out]
        try go_wp2_with fail
        refine hK.out _ _ ?_ (fun hHeld => ?_)
        · exact next hHeld b1
        clear hK K
        try simp only [Act.put, List.getElem_toArray, List.getElem_cons_succ, List.getElem_cons_zero, List.setIfInBounds_toArray, List.set_cons_zero, List.set_cons_succ]
        refine takesH [9] ?_
        repeat
          refine takesH_one (v := ?_) ?_ ?_
          rotate_left
          · first | (refine Or.inr ⟨by rfl, ?_⟩; with_reducible rfl) | (refine Or.inl ⟨by rfl, ?_⟩; intro wx hSw; (try dsimp only at hSw); first | (go_simp; first | done | with_reducible rfl))
          try simp only [Act.put, List.getElem_toArray, List.getElem_cons_succ, List.getElem_cons_zero, List.setIfInBounds_toArray, List.set_cons_zero, List.set_cons_succ]
        refine takesH_nil ?_
        refine wpAnyH_done (by kernel_rfl) ?_ _
        cases u
        · have hv0 : v = false := HNE.out fun he => by have := (rosame_iff _ _).2 he; rw [HU.out] at this; cases this
          subst hv0
          go_wp2
          go_ret
          exact ⟨rfl, next HB.out hHeld⟩
        · go_wp2
          go_roundw
          case rel => exact ⟨t + 1, by omega, by go_num, by rw [HTK.out, HTK'.out, HZ.out, (rosame_iff _ _).1 HU.out], next HB.out hHeld⟩
          case measure => simp [intOf]; omega
      · obtain rfl : t = n := by omega
        have hf : v = true := by
          rw [← HV.out, decide_eq_true_iff]
          have := HZ.out
          rwa [List.take_of_length_le (by rw [HL.out]; exact Nat.le_refl _), List.take_of_length_le (by rw [HL'.out]; exact Nat.le_refl _)] at this
        subst hf
        go_wp2
        go_ret
        exact ⟨rfl, HB.out⟩
  · have hf : v = false := by
      rw [← HV.out, decide_eq_false_iff_not]
      intro he
      have := congrArg List.length he
      rw [List.length_map, List.length_map, hl, hl'] at this
      exact hne this
    subst hf
    have hb : ((n : Int) != n') = true := by rw [bne_iff_ne]; omega
    go_enter Try.func27, Try.ntmps27
    go_wp2
    go_ret
    exact ⟨rfl, Below.refl _ _⟩
set_option maxRecDepth 8000 in
set_option maxHeartbeats 4000000 in
theorem rpsame_any (k k' : ByteArray) (g g' : Int) (A A' : Option Addr) (n n' c c' B B' : Nat) (L M : List RA) (w : World) (h : Lies w B A n c L) (h' : Lies w B' A' n' c' M) (hB : B ≤ w.heap.size) (hB' : B' ≤ w.heap.size) (hn : n ≤ 1000000) (hn' : n' ≤ 1000000) (hf : ∀ x ∈ L, x.ro.cols.length ≤ 1000) (hf' : ∀ x ∈ M, x.ro.cols.length ≤ 1000) :
    Calls Try.prog 12 #[.agg #[.string k, .int .i64 g, .slice A n c], .agg #[.string k', .int .i64 g', .slice A' n' c']] w fun e w' => e = .returned (.bool (psame k g (ros L) k' g' (ros M))) ∧ Below w.heap.size w w' := by
  obtain ⟨r, hrr⟩ : ∃ r, psame k g (ros L) k' g' (ros M) = r := ⟨_, rfl⟩
  rw [hrr]
  have bz := ((Below.refl w.heap.size w).alloc (Nat.le_refl _) (.cells #[.string k, .int .i64 g, .slice A n c] 24)).alloc (by simp) (.cells #[.string k', .int .i64 g', .slice A' n' c'] 24)
  have HL := Lib.hid (h.below (bz.mono hB)); have HL' := Lib.hid (h'.below (bz.mono hB')); have BZ := Lib.hid bz; have HR := Lib.hid hrr; have HF := Lib.hid hf; have HF' := Lib.hid hf'
  clear hrr bz h h' hf hf'
  unfold psame at HR
  cases h1 : (k.toList == k'.toList)
  · have hv : r = false := by rw [← HR.out, h1]; rfl
    subst hv
    go_enter Try.func12, Try.ntmps12
    go_wp2
    go_ret
    exact ⟨rfl, BZ.out⟩
  · cases h3 : (g == g')
    · have hv : r = false := by rw [← HR.out, h1, h3]; rfl
      subst hv
      go_enter Try.func12, Try.ntmps12
      go_wp2
      go_ret
      exact ⟨rfl, BZ.out⟩
    · have hv : decide (ros L = ros M) = r := by rw [← HR.out, h1, h3]; simp
      have HV := Lib.hid hv
      clear hv
      go_enter Try.func12, Try.ntmps12
      go_wp2_with fail
      refine (rsamerows_any A A' n n' c c' B B' L M _ HL.out HL'.out ?hb ?hb' hn hn' HF.out HF'.out).mono ?_
      case hb => simp; omega
      case hb' => simp; omega
      rintro e w2 ⟨rfl, b2⟩
      rw [HV.out]
      go_wp2
      go_ret
      exact ⟨rfl, next BZ.out b2⟩
end Go.Proofs.Ythfanonjokpflaa
set_option linter.unusedVariables false
set_option linter.unusedSimpArgs false
namespace Go.Proofs.Ythfanonjokpflaa
open Go Go.RowKit

set_option maxRecDepth 8000 in
set_option maxHeartbeats 4000000 in
theorem same_ints (A A' : Option Addr) (n c c' B B' : Nat) (L : List Int) (w : World) (h : RdZ w B A n L) (h' : RdZ w B' A' n L) (hB : B ≤ w.heap.size) (hB' : B' ≤ w.heap.size) (hn : n ≤ 1000000) :
    Calls Try.prog 34 #[.slice A n c, .slice A' n c'] w fun e w' => e = .returned (.bool true) ∧ Below w.heap.size w w' := by
  have hl := h.1
  have HH := Lib.hid h; have HH' := Lib.hid h'; have HB := Lib.hid hB; have HB' := Lib.hid hB'; have HL := Lib.hid hl; have HN := Lib.hid hn
  have d1 : ((n : Int) == (n : Int)) = true := by simp
  clear h h' hB hB' hn hl
  go_enter Try.func34, Try.ntmps34
  go_wp2
  clear d1
  go_loopw [5] (fun i wr => ∃ t : Nat, t ≤ n ∧ i = .int .i64 t ∧ Below w.heap.size w wr) (fun i _ => n - (intOf i).toNat)
  case atStart => exact ⟨0, Nat.zero_le _, rfl, Below.refl _ _⟩
  case round =>
    obtain ⟨t, ht, rfl, hb⟩ := hrel
    have i8 : n ≤ 1000000 := HN.out
    have BB := Lib.hid hb
    by_cases hlt : t < n
    · have i1 : (t : Int) < n := by omega
      have i0 : (0 : Int) ≤ t := by omega
      have htl : t < L.length := by rw [HL.out]; exact hlt
      have hq := HH.out.below (hb.mono HB.out)
      have hq' := HH'.out.below (hb.mono HB'.out)
      obtain ⟨g, o, rfl, hg, hc⟩ := hq.2 (by omega)
      obtain ⟨g', o', rfl, hg', hc'⟩ := hq'.2 (by omega)
      have z := hc t htl
      have z' := hc' t htl
      obtain ⟨x, hx⟩ : ∃ x, L[t] = x := ⟨_, rfl⟩
      rw [hx] at z z'
      have e0 : (x != x) = false := by simp
      have e1 : (x == x) = true := by simp
      have hgw : g < wr.heap.size := by have := HB.out; have := hb.size; omega
      have hgw' : g' < wr.heap.size := by have := HB'.out; have := hb.size; omega
      have hall : ∀ w', Below wr.heap.size wr w' → w'.cell? ⟨g, o + t, none⟩ = some (.int .i64 x) ∧ w'.cell? ⟨g', o' + t, none⟩ = some (.int .i64 x) := fun w' hb' => ⟨(hb'.cell (p := ⟨g, o + t, none⟩) hgw).trans z, (hb'.cell (p := ⟨g', o' + t, none⟩) hgw').trans z'⟩
      have HALL := Lib.hid hall
      clear hall hb hq hq' hc hc' z z' hx hg hg' hgw hgw'
      go_wp2_with fail
      refine wp_region_held_drew (S := fun w' => Below wr.heap.size wr w') (by kernel_rfl) ?_ (fun hHeld => ?_)
      · exact (Below.refl _ _).drew
      refine takesH [0, 1, 2, 3, 4, 5, 6, 7, 8] ?_
      repeat
        refine takesH_one (v := ?_) ?_ ?_
        rotate_left
        · first | (refine Or.inr ⟨by rfl, ?_⟩; with_reducible rfl) | (refine Or.inl ⟨by rfl, ?_⟩; intro wx hSw; (try dsimp only at hSw); first | (go_simp; first | done | with_reducible rfl) | (obtain ⟨_, _⟩ := HALL.out _ hSw; go_simp; first | done | with_reducible rfl))
        try simp only [Act.put, List.getElem_toArray, List.getElem_cons_succ, List.getElem_cons_zero, List.setIfInBounds_toArray, List.set_cons_zero, List.set_cons_succ]
      refine takesH_nil ?_
      refine wpAnyH_done (by kernel_rfl) ?_ _
      have BD := Lib.hid (next BB.out hHeld)
      go_wp2
      go_roundw
      case rel => exact ⟨t + 1, by omega, by go_num, BD.out⟩
      case measure => simp [intOf]; omega
    · obtain rfl : t = n := by omega
      clear hb
      go_wp2
      go_ret
      exact ⟨rfl, BB.out⟩
set_option maxRecDepth 8000 in
set_option maxHeartbeats 4000000 in
theorem same_notes (A A' : Option Addr) (n c c' B B' : Nat) (L : List NA) (w : World) (h : RdN w B A n L) (h' : RdN w B' A' n L) (hB : B ≤ w.heap.size) (hB' : B' ≤ w.heap.size) (hn : n ≤ 1000000) :
    Calls Try.prog 33 #[.slice A n c, .slice A' n c'] w fun e w' => e = .returned (.bool true) ∧ Below w.heap.size w w' := by
  have hl := h.1
  have HH := Lib.hid h; have HH' := Lib.hid h'; have HB := Lib.hid hB; have HB' := Lib.hid hB'; have HL := Lib.hid hl; have HN := Lib.hid hn
  have d1 : ((n : Int) == (n : Int)) = true := by simp
  clear h h' hB hB' hn hl
  go_enter Try.func33, Try.ntmps33
  go_wp2
  clear d1
  go_loopw [5] (fun i wr => ∃ t : Nat, t ≤ n ∧ i = .int .i64 t ∧ Below w.heap.size w wr) (fun i _ => n - (intOf i).toNat)
  case atStart => exact ⟨0, Nat.zero_le _, rfl, Below.refl _ _⟩
  case round =>
    obtain ⟨t, ht, rfl, hb⟩ := hrel
    have i8 : n ≤ 1000000 := HN.out
    have BB := Lib.hid hb
    by_cases hlt : t < n
    · have i1 : (t : Int) < n := by omega
      have i0 : (0 : Int) ≤ t := by omega
      have htl : t < L.length := by rw [HL.out]; exact hlt
      have hq := HH.out.below (hb.mono HB.out)
      have hq' := HH'.out.below (hb.mono HB'.out)
      obtain ⟨g, o, rfl, hg⟩ := hq.ex (by omega)
      obtain ⟨g', o', rfl, hg'⟩ := hq'.ex (by omega)
      have z := hq.part htl
      have z' := hq'.part htl
      obtain ⟨⟨x, s⟩, hx⟩ : ∃ x, L[t] = x := ⟨_, rfl⟩
      rw [hx] at z z'
      dsimp only at z z'
      have e0 : (x != x) = false := by simp
      have e1 : (x == x) = true := by simp
      have e2 : (s.toList != s.toList) = false := by simp
      have e3 : (s.toList == s.toList) = true := by simp
      have hgw : g < wr.heap.size := by have := HB.out; have := hb.size; omega
      have hgw' : g' < wr.heap.size := by have := HB'.out; have := hb.size; omega
      have hall : ∀ w', Below wr.heap.size wr w' → w'.cell? ⟨g, o + t * 2, none⟩ = some (.int .i64 x) ∧ w'.cell? ⟨g, o + t * 2 + 1, none⟩ = some (.string s) ∧ w'.cell? ⟨g', o' + t * 2, none⟩ = some (.int .i64 x) ∧ w'.cell? ⟨g', o' + t * 2 + 1, none⟩ = some (.string s) := fun w' hb' => ⟨(hb'.cell (p := ⟨g, _, none⟩) hgw).trans z.1, (hb'.cell (p := ⟨g, _, none⟩) hgw).trans z.2, (hb'.cell (p := ⟨g', _, none⟩) hgw').trans z'.1, (hb'.cell (p := ⟨g', _, none⟩) hgw').trans z'.2⟩
      have HALL := Lib.hid hall
      clear hall hb hq hq' z z' hx hg hg' hgw hgw'
      go_wp2_with fail
      refine wp_region_held_drew (S := fun w' => Below wr.heap.size wr w') (by kernel_rfl) ?_ (fun hHeld => ?_)
      · exact (Below.refl _ _).drew
      refine takesH [0, 1, 2, 3, 4, 5, 6, 7, 8, 9, 10, 11, 12, 13, 14, 15, 16, 17, 18, 19, 20, 21, 22, 23] ?_
      repeat
        refine takesH_one (v := ?_) ?_ ?_
        rotate_left
        · first | (refine Or.inr ⟨by rfl, ?_⟩; with_reducible rfl) | (refine Or.inl ⟨by rfl, ?_⟩; intro wx hSw; (try dsimp only at hSw); first | (go_simp; first | done | with_reducible rfl) | (obtain ⟨_, _, _, _⟩ := HALL.out _ hSw; go_simp; first | done | with_reducible rfl))
        try simp only [Act.put, List.getElem_toArray, List.getElem_cons_succ, List.getElem_cons_zero, List.setIfInBounds_toArray, List.set_cons_zero, List.set_cons_succ]
      refine takesH_nil ?_
      refine wpAnyH_done (by kernel_rfl) ?_ _
      have BD := Lib.hid (next BB.out hHeld)
      go_wp2
      go_roundw
      case rel => exact ⟨t + 1, by omega, by go_num, BD.out⟩
      case measure => simp [intOf]; omega
    · obtain rfl : t = n := by omega
      clear hb
      go_wp2
      go_ret
      exact ⟨rfl, BB.out⟩
set_option maxRecDepth 8000 in
set_option maxHeartbeats 4000000 in
theorem same_muts (A A' : Option Addr) (n c c' B B' : Nat) (L M : List MA) (w : World) (h : LiesM w B A n c L) (h' : LiesM w B' A' n c' M) (hB : B ≤ w.heap.size) (hB' : B' ≤ w.heap.size) (hn : n ≤ 1000000) (hf : ∀ x ∈ L, x.p.L.length ≤ 1000000 ∧ ∀ y ∈ x.p.L, y.ro.cols.length ≤ 1000) (hf' : ∀ x ∈ M, x.p.L.length ≤ 1000000 ∧ ∀ y ∈ x.p.L, y.ro.cols.length ≤ 1000) (he : muts L = muts M) :
    Calls Try.prog 32 #[.slice A n c, .slice A' n c'] w fun e w' => e = .returned (.bool true) ∧ Below w.heap.size w w' := by
  have hl := h.rd.1
  have HH := Lib.hid h; have HH' := Lib.hid h'; have HB := Lib.hid hB; have HB' := Lib.hid hB'; have HL := Lib.hid hl; have HN := Lib.hid hn; have HM := Lib.hid h'.rd.1; have HF := Lib.hid hf; have HF' := Lib.hid hf'; have HE := Lib.hid he
  clear hf hf' he
  have d1 : ((n : Int) == (n : Int)) = true := by simp
  clear h h' hB hB' hn hl
  go_enter Try.func32, Try.ntmps32
  go_wp2
  clear d1
  go_loopw [5] (fun i wr => ∃ t : Nat, t ≤ n ∧ i = .int .i64 t ∧ Below w.heap.size w wr) (fun i _ => n - (intOf i).toNat)
  case atStart => exact ⟨0, Nat.zero_le _, rfl, Below.refl _ _⟩
  case round =>
    obtain ⟨t, ht, rfl, hb⟩ := hrel
    have i8 : n ≤ 1000000 := HN.out
    have BB := Lib.hid hb
    by_cases hlt : t < n
    · have i1 : (t : Int) < n := by omega
      have i0 : (0 : Int) ≤ t := by omega
      have htl : t < L.length := by rw [HL.out]; exact hlt
      have hq := HH.out.below (hb.mono HB.out)
      have hq' := HH'.out.below (hb.mono HB'.out)
      have htm : t < M.length := by rw [HM.out]; exact hlt
      obtain ⟨g, o, rfl, hg⟩ := hq.rd.ex (by omega)
      obtain ⟨g', o', rfl, hg'⟩ := hq'.rd.ex (by omega)
      have z := hq.rd.part htl
      have z' := hq'.rd.part htm
      have p := hq.parts L[t] (List.getElem_mem htl)
      have p' := hq'.parts M[t] (List.getElem_mem htm)
      have f := HF.out L[t] (List.getElem_mem htl)
      have f' := HF'.out M[t] (List.getElem_mem htm)
      have em : mutOf L[t] = mutOf M[t] := by
        have h1 : (muts L)[t]'(by rw [List.length_map]; exact htl) = (muts M)[t]'(by rw [List.length_map]; exact htm) := by simp only [HE.out]
        simpa using h1
      obtain ⟨⟨tb, pk, pg, pL, pA, pc⟩, hx⟩ : ∃ x, L[t] = x := ⟨_, rfl⟩
      obtain ⟨⟨tb', pk', pg', pM, pA', pc'⟩, hx'⟩ : ∃ x, M[t] = x := ⟨_, rfl⟩
      rw [hx] at z p f em
      rw [hx'] at z' p' f' em
      dsimp only at z z' p p' f f'
      unfold mutOf at em
      injection em with em1 em2
      injection em2 with em2 em3 em4
      dsimp only at em1 em2 em3 em4
      subst em1
      subst em2
      subst em3
      have ps : psame pk pg (ros pL) pk pg (ros pM) = true := by rw [em4]; exact psame_self _ _ _
      have e2 : (tb.toList != tb.toList) = false := by simp
      have e3 : (tb.toList == tb.toList) = true := by simp
      have hgw : g < wr.heap.size := by have := HB.out; have := hb.size; omega
      have hgw' : g' < wr.heap.size := by have := HB'.out; have := hb.size; omega
      have PP := Lib.hid (show _ ∧ _ from ⟨p, p'⟩); have FF := Lib.hid (show _ ∧ _ from ⟨f, f'⟩); have PS := Lib.hid ps; have BW := Lib.hid (show B ≤ wr.heap.size ∧ B' ≤ wr.heap.size from ⟨Nat.le_trans HB.out hb.size, Nat.le_trans HB'.out hb.size⟩)
      have hall : ∀ w', Below wr.heap.size wr w' → w'.cell? ⟨g, o + t * 4, none⟩ = some (.string tb) ∧ w'.cell? ⟨g, o + t * 4 + 1, none⟩ = some (.string pk) ∧ w'.cell? ⟨g, o + t * 4 + 2, none⟩ = some (.int .i64 pg) ∧ w'.cell? ⟨g, o + t * 4 + 3, none⟩ = some (.slice pA pL.length pc) ∧ w'.cell? ⟨g', o' + t * 4, none⟩ = some (.string tb) ∧ w'.cell? ⟨g', o' + t * 4 + 1, none⟩ = some (.string pk) ∧ w'.cell? ⟨g', o' + t * 4 + 2, none⟩ = some (.int .i64 pg) ∧ w'.cell? ⟨g', o' + t * 4 + 3, none⟩ = some (.slice pA' pM.length pc') := fun w' hb' => ⟨(hb'.cell (p := ⟨g, _, none⟩) hgw).trans z.1, (hb'.cell (p := ⟨g, _, none⟩) hgw).trans z.2.1, (hb'.cell (p := ⟨g, _, none⟩) hgw).trans z.2.2.1, (hb'.cell (p := ⟨g, _, none⟩) hgw).trans z.2.2.2, (hb'.cell (p := ⟨g', _, none⟩) hgw').trans z'.1, (hb'.cell (p := ⟨g', _, none⟩) hgw').trans z'.2.1, (hb'.cell (p := ⟨g', _, none⟩) hgw').trans z'.2.2.1, (hb'.cell (p := ⟨g', _, none⟩) hgw').trans z'.2.2.2⟩
      have HALL := Lib.hid hall
      clear hall hb hq hq' z z' p p' f f' hx hx' hg hg' hgw hgw' ps em4
      go_wp2_with fail
      refine wp_region_held_drew (S := fun w' => Below wr.heap.size wr w') (by kernel_rfl) ?_ (fun hHeld => ?_)
      · exact (Below.refl _ _).drew
      refine takesH [0, 1, 2, 3, 4, 5, 6, 7, 8, 9, 10, 11, 12, 13, 14, 15, 16, 17, 18, 19, 20, 21] ?_
      repeat
        refine takesH_one (v := ?_) ?_ ?_
        rotate_left
        · first | (refine Or.inr ⟨by rfl, ?_⟩; with_reducible rfl) | (refine Or.inl ⟨by rfl, ?_⟩; intro wx hSw; (try dsimp only at hSw); first | (go_simp; first | done | with_reducible rfl) | (obtain ⟨_, _, _, _, _, _, _, _⟩ := HALL.out _ hSw; go_simp; first | done | with_reducible rfl))
        try simp only [Act.put, List.getElem_toArray, List.getElem_cons_succ, List.getElem_cons_zero, List.setIfInBounds_toArray, List.set_cons_zero, List.set_cons_succ]
      refine takesH_nil ?_
      refine wpAnyH_ready (rs := [22]) (by kernel_rfl) (by simp) (AllReadyH.cons rfl (fun K hK => ?_) AllReadyH.nil)
      go_simp
      refine (rpsame_any pk pk pg pg pA pA' pL.length pM.length pc pc' B B' pL pM _ (PP.out.1.below (hHeld.mono BW.out.1)) (PP.out.2.below (hHeld.mono BW.out.2)) (Nat.le_trans BW.out.1 hHeld.size) (Nat.le_trans BW.out.2 hHeld.size) FF.out.1.1 FF.out.2.1 FF.out.1.2 FF.out.2.2).mono ?_
      rintro e v1 ⟨rfl, b1⟩
      rw [PS.out]
      try go_wp2_with fail
      refine hK.out _ _ ?_ (fun hHeld => ?_)
      · exact next hHeld b1
      clear hK K
      try simp only [Act.put, List.getElem_toArray, List.getElem_cons_succ, List.getElem_cons_zero, List.setIfInBounds_toArray, List.set_cons_zero, List.set_cons_succ]
      refine takesH [23, 24] ?_
      repeat
        refine takesH_one (v := ?_) ?_ ?_
        rotate_left
        · first | (refine Or.inr ⟨by rfl, ?_⟩; with_reducible rfl) | (refine Or.inl ⟨by rfl, ?_⟩; intro wx hSw; (try dsimp only at hSw); first | (go_simp; first | done | with_reducible rfl))
        try simp only [Act.put, List.getElem_toArray, List.getElem_cons_succ, List.getElem_cons_zero, List.setIfInBounds_toArray, List.set_cons_zero, List.set_cons_succ]
      refine takesH_nil ?_
      refine wpAnyH_done (by kernel_rfl) ?_ _
      have BD := Lib.hid (next BB.out hHeld)
      go_wp2
      go_roundw
      case rel => exact ⟨t + 1, by omega, by go_num, BD.out⟩
      case measure => simp [intOf]; omega
    · obtain rfl : t = n := by omega
      clear hb
      go_wp2
      go_ret
      exact ⟨rfl, BB.out⟩
end Go.Proofs.Ythfanonjokpflaa
set_option linter.unusedVariables false
set_option linter.unusedSimpArgs false
namespace Go.Proofs.Ythfanonjokpflaa
open Go Go.RowKit

theorem Cur.lower {w V w9 : World} {v : Value} {C : Cols} (h : Cur V w9 v C) (hV : Below w.heap.size w V) : Cur w w9 v C := ⟨own_base h.own hV.size, next hV h.below⟩
end Go.Proofs.Ythfanonjokpflaa
set_option linter.unusedVariables false
set_option linter.unusedSimpArgs false
namespace Go.Proofs.Ythfanonjokpflaa
open Go Go.RowKit Go.Joins

/-- A row's block, the columns as they are. -/
def RJ (w : World) (r : Nat) (k s : ByteArray) (d : Bool) (a e g h : Int) (A : Option Addr) (n c : Nat) : Prop := w.heap[r]? = some (.cells #[.string k, .string s, .bool d, .int .i64 a, .int .i64 e, .int .i64 g, .int .i64 h, .slice A n c] 61 (0, 0))
theorem RJ.cells {w : World} {r : Nat} {k s : ByteArray} {d : Bool} {a e g h : Int} {A : Option Addr} {n c : Nat} (hr : RJ w r k s d a e g h A n c) : RoAt w r k s d a e g h A n c :=
  ⟨cell_at hr rfl, cell_at hr rfl, cell_at hr rfl, cell_at hr rfl, cell_at hr rfl, cell_at hr rfl, cell_at hr rfl, cell_at hr rfl⟩
theorem RJ.set {w : World} {r : Nat} {k s : ByteArray} {d : Bool} {a e g h : Int} {A : Option Addr} {n c : Nat} (hr : RJ w r k s d a e g h A n c) (k' s' : ByteArray) (d' : Bool) (a' e' g' h' : Int) (A' : Option Addr) (n' c' : Nat) :
    RJ ((((((((w.setCell ⟨r, 0, none⟩ (.string k')).setCell ⟨r, 1, none⟩ (.string s')).setCell ⟨r, 2, none⟩ (.bool d')).setCell ⟨r, 3, none⟩ (.int .i64 a')).setCell ⟨r, 4, none⟩ (.int .i64 e')).setCell ⟨r, 5, none⟩ (.int .i64 g')).setCell ⟨r, 6, none⟩ (.int .i64 h')).setCell ⟨r, 7, none⟩ (.slice A' n' c')) r k' s' d' a' e' g' h' A' n' c' := by
  have m := block_setCell (i := 7) (block_setCell (i := 6) (block_setCell (i := 5) (block_setCell (i := 4) (block_setCell (i := 3) (block_setCell (i := 2) (block_setCell (i := 1) (block_setCell (i := 0) hr (.string k')) (.string s')) (.bool d')) (.int .i64 a')) (.int .i64 e')) (.int .i64 g')) (.int .i64 h')) (.slice A' n' c')
  simp only [List.setIfInBounds_toArray, List.set_cons_zero, List.set_cons_succ] at m
  exact m
/-- Eight stores into one block. -/
theorem eight_heap (w : World) (r : Nat) (v0 v1 v2 v3 v4 v5 v6 v7 : Value) (j : Nat) (hj : j ≠ r) :
    ((((((((w.setCell ⟨r, 0, none⟩ v0).setCell ⟨r, 1, none⟩ v1).setCell ⟨r, 2, none⟩ v2).setCell ⟨r, 3, none⟩ v3).setCell ⟨r, 4, none⟩ v4).setCell ⟨r, 5, none⟩ v5).setCell ⟨r, 6, none⟩ v6).setCell ⟨r, 7, none⟩ v7).heap[j]? = w.heap[j]? := by
  iterate 8 rw [Below.heap_setCell _ _ _ _ hj]
theorem eight_below {B : Nat} {w0 w : World} (h : Below B w0 w) (r : Nat) (hr : B ≤ r) (v0 v1 v2 v3 v4 v5 v6 v7 : Value) :
    Below B w0 ((((((((w.setCell ⟨r, 0, none⟩ v0).setCell ⟨r, 1, none⟩ v1).setCell ⟨r, 2, none⟩ v2).setCell ⟨r, 3, none⟩ v3).setCell ⟨r, 4, none⟩ v4).setCell ⟨r, 5, none⟩ v5).setCell ⟨r, 6, none⟩ v6).setCell ⟨r, 7, none⟩ v7) :=
  (((((((h.setCell (p := ⟨r, 0, none⟩) hr v0).setCell (p := ⟨r, 1, none⟩) hr v1).setCell (p := ⟨r, 2, none⟩) hr v2).setCell (p := ⟨r, 3, none⟩) hr v3).setCell (p := ⟨r, 4, none⟩) hr v4).setCell (p := ⟨r, 5, none⟩) hr v5).setCell (p := ⟨r, 6, none⟩) hr v6).setCell (p := ⟨r, 7, none⟩) hr v7

theorem own_ne {w : World} {b n size : Nat} {e e' : TypeId} {v : Value} {xs : List Value} {r : Nat} {cs : Array Value} (h : w.ownsRow b e size v n xs) (hr : w.heap[r]? = some (.cells cs e' (0, 0))) (he : e ≠ e') : ∀ g, v.ownBlock = some g → g ≠ r := fun g hg hgr => by
  subst hgr
  obtain ⟨cs', h1⟩ := own_tag h g hg
  rw [h1] at hr
  injection hr with hr
  injection hr with _ h2
  exact he h2
theorem Cur.eight {w0 w : World} {v : Value} {C : Cols} (hc : Cur w0 w v C) {r : Nat} {k s : ByteArray} {d : Bool} {a e g h : Int} {A : Option Addr} {n c : Nat} (hr : RJ w r k s d a e g h A n c) (hb : w0.heap.size ≤ r) (v0 v1 v2 v3 v4 v5 v6 v7 : Value) :
    Cur w0 ((((((((w.setCell ⟨r, 0, none⟩ v0).setCell ⟨r, 1, none⟩ v1).setCell ⟨r, 2, none⟩ v2).setCell ⟨r, 3, none⟩ v3).setCell ⟨r, 4, none⟩ v4).setCell ⟨r, 5, none⟩ v5).setCell ⟨r, 6, none⟩ v6).setCell ⟨r, 7, none⟩ v7) v C :=
  ⟨own_kept hc.own fun g hg => eight_heap _ _ _ _ _ _ _ _ _ _ g (own_ne hc.own hr (by decide) g hg), eight_below hc.below r hb _ _ _ _ _ _ _ _⟩
end Go.Proofs.Ythfanonjokpflaa
set_option linter.unusedVariables false
set_option linter.unusedSimpArgs false
namespace Go.Proofs.Ythfanonjokpflaa
open Go Go.RowKit

def fewC (x : ByteArray × Ce) : Bool := decide (x.1.size ≤ 300) && decide (x.2.s.size ≤ 300)
def fewB (R : Ro) : Bool := decide (R.key.size ≤ 1000) && (decide (R.cols.length ≤ 20) && (decide (R.live.s.size ≤ 1000) && R.cols.all fewC))
structure Ro.IsFew (R : Ro) : Prop where
  key : R.key.size ≤ 1000
  len : R.cols.length ≤ 20
  live : R.live.s.size ≤ 1000
  cols : ∀ x ∈ R.cols, x.1.size ≤ 300 ∧ x.2.s.size ≤ 300
theorem Ro.IsFew.few {R : Ro} (h : R.IsFew) : Few R.cols := fun x hx => by
  have h1 := h.cols x hx
  refine ⟨by omega, by unfold maxLen; omega⟩

set_option maxHeartbeats 4000000 in
theorem fewrow_ro (R : Ro) (A : Option Addr) (c B : Nat) (w : World) (hi : RoIn w B R A c) (hB : B ≤ w.heap.size) :
    Calls Try.prog 20 #[R.val A c] w fun x w' => x = .returned (.bool (fewB R)) ∧ Below w.heap.size w w' := by
  obtain ⟨k, ⟨s, d, a, e⟩, g, h, l⟩ := R
  unfold Ro.val
  simp only
  obtain ⟨r, hrr⟩ : ∃ r, fewB ⟨k, ⟨s, d, a, e⟩, g, h, l⟩ = r := ⟨_, rfl⟩
  rw [hrr]
  unfold fewB at hrr
  simp only at hrr
  obtain ⟨n, hn⟩ : ∃ n, l.length = n := ⟨_, rfl⟩
  have hr := hi.rd
  simp only at hr
  rw [hn] at hrr hr ⊢
  have RR := Lib.hid hrr; have HN := Lib.hid hn
  have bz := (Below.refl w.heap.size w).alloc (Nat.le_refl _) (.cells #[.string k, .string s, .bool d, .int .i64 a, .int .i64 e, .int .i64 g, .int .i64 h, .slice A n c] 61)
  have ro := RoAt.new w k s d a e g h A n c
  have BZ := Lib.hid bz; have RO_ := Lib.hid ro; have HR0 := Lib.hid (hr.below (bz.mono hB))
  clear hrr bz ro hr hi hn
  obtain ⟨Z, hZ⟩ : ∃ U, U = w.alloc (.cells #[.string k, .string s, .bool d, .int .i64 a, .int .i64 e, .int .i64 g, .int .i64 h, .slice A n c] 61) := ⟨_, rfl⟩
  have hZs : Z.heap.size = w.heap.size + 1 := by rw [hZ]; simp
  rw [← hZ] at BZ RO_ HR0
  obtain ⟨_, _, _, _, _, _, _, _⟩ := RO_.out
  have HZS := Lib.hid hZs
  clear hZs
  go_enter Try.func20, Try.ntmps20
  by_cases h1 : k.size ≤ 1000
  · have x1 : decide (1000 < k.size) = false := decide_eq_false (by omega)
    have y1 : decide ((1000 : Int) < ((k.size : Nat) : Int)) = false := decide_eq_false (by omega)
    by_cases h2 : n ≤ 20
    · have x2 : decide (20 < n) = false := decide_eq_false (by omega)
      have y2 : decide ((20 : Int) < (n : Int)) = false := decide_eq_false (by omega)
      by_cases h3 : s.size ≤ 1000
      · have x3 : decide (1000 < s.size) = false := decide_eq_false (by omega)
        have y3 : decide ((1000 : Int) < ((s.size : Nat) : Int)) = false := decide_eq_false (by omega)
        have hr2 : l.all fewC = r := by rw [← RR.out, decide_eq_true h1, decide_eq_true h2, decide_eq_true h3]; rfl
        have HR2 := Lib.hid hr2
        clear hr2
        go_wp2_with fail
        rw [← hZ]
        clear hZ
        go_loopw [3] (fun i wr => ∃ t : Nat, t ≤ n ∧ i = .int .i64 t ∧ (l.take t).all fewC = true ∧ wr = Z) (fun i _ => n - (intOf i).toNat)
        case atStart => exact ⟨0, Nat.zero_le _, rfl, rfl, rfl⟩
        case round =>
          obtain ⟨t, ht, rfl, hg, rfl⟩ := hrel
          have HG := Lib.hid hg
          clear hg
          by_cases hlt : t < n
          · have i1 : (t : Int) < n := by omega
            have i0 : (0 : Int) ≤ t := by omega
            have htl : t < l.length := by rw [HN.out]; exact hlt
            obtain ⟨g0, o0, rfl, hgB, hc⟩ := HR0.out.2 (by omega)
            obtain ⟨e0, e1, e2, e3, e4⟩ := hc t htl
            clear hc
            obtain ⟨⟨m, ⟨cs, cd, ca, ce⟩⟩, hx⟩ : ∃ x, l[t] = x := ⟨_, rfl⟩
            rw [hx] at e0 e1 e2 e3 e4
            simp only at e0 e1 e2 e3 e4
            have htk : l.take (t + 1) = l.take t ++ [(m, ⟨cs, cd, ca, ce⟩)] := by rw [List.take_succ_eq_append_getElem htl, hx]
            have hmem : (m, (⟨cs, cd, ca, ce⟩ : Ce)) ∈ l := by rw [← hx]; exact List.getElem_mem htl
            have HTK := Lib.hid htk; have HMEM := Lib.hid hmem
            clear htk hmem hx
            by_cases h4 : m.size ≤ 300
            · have x4 : decide (300 < m.size) = false := decide_eq_false (by omega)
              have y4 : decide ((300 : Int) < ((m.size : Nat) : Int)) = false := decide_eq_false (by omega)
              by_cases h5 : cs.size ≤ 300
              · have x5 : decide (300 < cs.size) = false := decide_eq_false (by omega)
                have y5 : decide ((300 : Int) < ((cs.size : Nat) : Int)) = false := decide_eq_false (by omega)
                go_wp2
                go_roundw
                case rel =>
                  refine ⟨t + 1, by omega, by go_num, ?_, by first | rfl | trivial⟩
                  rw [HTK.out, List.all_append, HG.out]
                  simp [fewC, h4, h5]
                case measure => simp [intOf]; omega
              · have hv : r = false := by
                  rw [← HR2.out, List.all_eq_false]
                  exact ⟨_, HMEM.out, by simp [fewC]; omega⟩
                subst hv
                go_wp2
                go_ret
                exact ⟨rfl, BZ.out⟩
            · have hv : r = false := by
                rw [← HR2.out, List.all_eq_false]
                exact ⟨_, HMEM.out, by simp [fewC]; omega⟩
              subst hv
              go_wp2
              go_ret
              exact ⟨rfl, BZ.out⟩
          · obtain rfl : t = n := by omega
            have d0 : decide ((t : Int) < (t : Int)) = false := by simp
            have hv : r = true := by
              rw [← HR2.out, ← HG.out, List.take_of_length_le (by rw [HN.out]; exact Nat.le_refl _)]
            subst hv
            go_wp2
            go_ret
            exact ⟨rfl, BZ.out⟩
      · have hv : r = false := by rw [← RR.out, decide_eq_false h3]; simp
        subst hv
        subst hZ
        go_wp2
        go_ret
        exact ⟨rfl, BZ.out⟩
    · have hv : r = false := by rw [← RR.out, decide_eq_false h2]; simp
      subst hv
      subst hZ
      go_wp2
      go_ret
      exact ⟨rfl, BZ.out⟩
  · have hv : r = false := by rw [← RR.out, decide_eq_false h1]; simp
    subst hv
    subst hZ
    go_wp2
    go_ret
    exact ⟨rfl, BZ.out⟩
end Go.Proofs.Ythfanonjokpflaa
set_option linter.unusedVariables false
set_option linter.unusedSimpArgs false
namespace Go.Proofs.Ythfanonjokpflaa
open Go Go.RowKit

def fewPB (k : ByteArray) (m : Nat) (l : List Ro) : Bool := decide (k.size ≤ 300) && (decide (l.length ≤ m) && l.all fewB)
theorem fewrow_ra (x : RA) (B : Nat) (w : World) (h : RaIn w B x) (hB : B ≤ w.heap.size) :
    Calls Try.prog 20 #[.agg #[.string x.ro.key, .string x.ro.live.s, .bool x.ro.live.d, .int .i64 x.ro.live.a, .int .i64 x.ro.live.e, .int .i64 x.ro.gone, .int .i64 x.ro.shade, .slice x.A x.ro.cols.length x.c]] w fun e w' => e = .returned (.bool (fewB x.ro)) ∧ Below w.heap.size w w' := fewrow_ro x.ro x.A x.c B w h hB
set_option maxRecDepth 8000 in
set_option maxHeartbeats 8000000 in
theorem fewpart_any (k : ByteArray) (g : Int) (A : Option Addr) (n c B m : Nat) (L : List RA) (w : World) (h : Lies w B A n c L) (hB : B ≤ w.heap.size) (hm : m ≤ 1000000) :
    Calls Try.prog 7 #[.agg #[.string k, .int .i64 g, .slice A n c], .int .i64 m] w fun x w' => x = .returned (.bool (fewPB k m (ros L))) ∧ Below w.heap.size w w' := by
  obtain ⟨r, hrr⟩ : ∃ r, fewPB k m (ros L) = r := ⟨_, rfl⟩
  rw [hrr]
  unfold fewPB at hrr
  rw [List.length_map, h.len] at hrr
  have hl := h.len
  have bz := (Below.refl w.heap.size w).alloc (Nat.le_refl _) (.cells #[.string k, .int .i64 g, .slice A n c] 24)
  have hz := heap_alloc_new w (.cells #[.string k, .int .i64 g, .slice A n c] 24)
  obtain ⟨V, hV⟩ : ∃ V, V = w.alloc (.cells #[.string k, .int .i64 g, .slice A n c] 24) := ⟨_, rfl⟩
  have hVs : V.heap.size = w.heap.size + 1 := by rw [hV]; simp
  rw [← hV] at bz hz
  have HL := Lib.hid hl; have HH := Lib.hid (h.below (bz.mono hB)); have BZ := Lib.hid bz; have RR := Lib.hid hrr; have HZ := Lib.hid hz; have HVS := Lib.hid hVs
  obtain ⟨_, _, _⟩ := PtAt.of hz
  clear hrr bz hz h hl hVs
  go_enter Try.func7, Try.ntmps7
  by_cases h1 : k.size ≤ 300
  · have x1 : decide (300 < k.size) = false := decide_eq_false (by omega)
    have y1 : decide ((300 : Int) < ((k.size : Nat) : Int)) = false := decide_eq_false (by omega)
    by_cases h4 : n ≤ m
    · have x4 : decide (m < n) = false := decide_eq_false (by omega)
      have y4 : decide ((m : Int) < (n : Int)) = false := decide_eq_false (by omega)
      have hr2 : (ros L).all fewB = r := by rw [← RR.out, decide_eq_true h1, decide_eq_true h4]; rfl
      have HR := Lib.hid hr2
      clear hr2
      go_wp2_with fail
      rw [← hV]
      clear hV
      clear h1 x1 y1 x4 y4
      go_loopw [5] (fun i wr => ∃ t : Nat, t ≤ n ∧ i = .int .i64 t ∧ (ros (L.take t)).all fewB = true ∧ Below V.heap.size V wr) (fun i _ => n - (intOf i).toNat)
      case atStart => exact ⟨0, Nat.zero_le _, rfl, rfl, Below.refl _ _⟩
      case round =>
        obtain ⟨t, ht, rfl, hg, hb⟩ := hrel
        have HG := Lib.hid hg; have HB := Lib.hid hb
        obtain ⟨_, _, _⟩ := PtAt.of ((hb.block w.heap.size (by have := HVS.out; omega)).trans HZ.out)
        clear hg hb
        by_cases hlt : t < n
        · have i1 : (t : Int) < n := by omega
          have i0 : (0 : Int) ≤ t := by omega
          have htl : t < L.length := by rw [HL.out]; exact hlt
          obtain ⟨g0, o0, rfl, hgB⟩ := HH.out.rd.ex (by omega)
          have hlies := HH.out.below (HB.out.mono (by have := HVS.out; omega))
          have htk := ros_take htl
          have hmem : L[t].ro ∈ ros L := List.mem_map.2 ⟨_, List.getElem_mem htl, rfl⟩
          obtain ⟨x, hx⟩ : ∃ x, L[t] = x := ⟨_, rfl⟩
          have hrow := hlies.rd.row htl
          have hin := hlies.held L[t] (List.getElem_mem htl)
          rw [hx] at hrow hin htk hmem
          obtain ⟨u1, hu1⟩ : ∃ u, fewB x.ro = u := ⟨_, rfl⟩
          have U1 := Lib.hid hu1; have HIN := Lib.hid hin; have HTK := Lib.hid htk; have HMEM := Lib.hid hmem
          obtain ⟨_, _, _, _, _, _, _, _⟩ := hrow
          clear hu1 hx hin htk hmem
          go_wp2_with fail
          refine (fewrow_ra x B _ HIN.out (by have := HVS.out; have := HB.out.size; omega)).mono ?_
          rintro e w1 ⟨rfl, b1⟩
          rw [U1.out]
          have B1 := Lib.hid (next HB.out b1)
          clear b1
          cases u1
          · have hv : r = false := by
              rw [← HR.out, List.all_eq_false]
              exact ⟨_, HMEM.out, by rw [U1.out]; decide⟩
            subst hv
            go_wp2
            go_ret
            exact ⟨rfl, next BZ.out B1.out⟩
          · go_wp2
            go_roundw
            case rel => exact ⟨t + 1, by omega, by go_num, by rw [HTK.out, List.all_append, HG.out]; simp [U1.out], B1.out⟩
            case measure => simp [intOf]; omega
        · obtain rfl : t = n := by omega
          have hv : r = true := by rw [← HR.out, ← HG.out, List.take_of_length_le (by rw [HL.out]; exact Nat.le_refl _)]
          subst hv
          go_wp2
          go_ret
          exact ⟨rfl, next BZ.out HB.out⟩
    · have x4 : decide (m < n) = true := decide_eq_true (by omega)
      have y4 : decide ((m : Int) < (n : Int)) = true := decide_eq_true (by omega)
      have hv : r = false := by rw [← RR.out, decide_eq_false h4]; simp
      subst hv
      subst hV
      go_wp2
      go_ret
      exact ⟨rfl, BZ.out⟩
  · have x1 : decide (300 < k.size) = true := decide_eq_true (by omega)
    have y1 : decide ((300 : Int) < ((k.size : Nat) : Int)) = true := decide_eq_true (by omega)
    have hv : r = false := by rw [← RR.out, decide_eq_false h1]; rfl
    subst hv
    subst hV
    go_wp2
    go_ret
    exact ⟨rfl, BZ.out⟩
end Go.Proofs.Ythfanonjokpflaa
set_option linter.unusedVariables false
set_option linter.unusedSimpArgs false
namespace Go.Proofs.Ythfanonjokpflaa
open Go Go.RowKit

theorem at_newS {W : World} {r : Nat} {cs : Array Value} {t : TypeId} (h : W.heap[r]? = some (.cells cs t (0, 0))) (o : Obj) : (W.alloc o).heap[r]? = some (.cells cs t (0, 0)) :=
  (((Below.refl W.heap.size W).alloc (Nat.le_refl _) o).block r (Array.getElem?_eq_some_iff.1 h).1).trans h
/-- A batch whose partitions are not too great to be held against others. -/
structure BtC (x : BA) : Prop where
  muts : ∀ y ∈ x.M, y.p.L.length ≤ 1000000 ∧ ∀ r ∈ y.p.L, r.ro.cols.length ≤ 1000
  lm : x.M.length ≤ 1000000
  ln : x.N.length ≤ 1000000
  ld : x.D.length ≤ 1000000
set_option maxRecDepth 8000 in
set_option maxHeartbeats 2000000 in
theorem same_batch (x y : BA) (B B' : Nat) (w : World) (h : LiesB w B x) (h' : LiesB w B' y) (hB : B ≤ w.heap.size) (hB' : B' ≤ w.heap.size) (hc : BtC x) (hc' : BtC y) (he : x.bt = y.bt) :
    Calls Try.prog 16 #[bV x, bV y] w fun e w' => e = .returned (.bool true) ∧ Below w.heap.size w w' := by
  have e1 : muts x.M = muts y.M := congrArg Bt.muts he
  have e2 : x.N = y.N := congrArg Bt.add he
  have e3 : x.D = y.D := congrArg Bt.drop he
  have l1 : x.M.length = y.M.length := by have := congrArg List.length e1; simpa using this
  obtain ⟨AM, cM, M, AN, cN, N, AD, cD, D⟩ := x
  obtain ⟨AM', cM', M', AN', cN', N', AD', cD', D'⟩ := y
  dsimp only at e1 e2 e3 l1
  subst e2
  subst e3
  obtain ⟨m, hm⟩ : ∃ m, M'.length = m := ⟨_, rfl⟩
  rw [hm] at l1
  have hv : bV ⟨AM, cM, M, AN, cN, N, AD, cD, D⟩ = .agg #[.slice AM m cM, .slice AN N.length cN, .slice AD D.length cD] := by unfold bV; rw [l1]
  have hv' : bV ⟨AM', cM', M', AN', cN', N, AD', cD', D⟩ = .agg #[.slice AM' m cM', .slice AN' N.length cN', .slice AD' D.length cD'] := by unfold bV; rw [hm]
  rw [hv, hv']
  have hm1 := h.muts
  have hm1' := h'.muts
  dsimp only at hm1 hm1'
  rw [l1] at hm1
  rw [hm] at hm1'
  have bz := (Below.refl w.heap.size w).alloc (Nat.le_refl _) (.cells #[.slice AM m cM, .slice AN N.length cN, .slice AD D.length cD] 29)
  have hz := heap_alloc_new w (.cells #[.slice AM m cM, .slice AN N.length cN, .slice AD D.length cD] 29)
  obtain ⟨V1, hV1⟩ : ∃ V, V = w.alloc (.cells #[.slice AM m cM, .slice AN N.length cN, .slice AD D.length cD] 29) := ⟨_, rfl⟩
  rw [← hV1] at bz hz
  have hs1 : V1.heap.size = w.heap.size + 1 := by rw [hV1]; simp
  have bz2 := (Below.refl V1.heap.size V1).alloc (Nat.le_refl _) (.cells #[.slice AM' m cM', .slice AN' N.length cN', .slice AD' D.length cD'] 29)
  have hy := heap_alloc_new V1 (.cells #[.slice AM' m cM', .slice AN' N.length cN', .slice AD' D.length cD'] 29)
  have hz2 := at_newS hz (.cells #[.slice AM' m cM', .slice AN' N.length cN', .slice AD' D.length cD'] 29)
  obtain ⟨V2, hV2⟩ : ∃ V, V = V1.alloc (.cells #[.slice AM' m cM', .slice AN' N.length cN', .slice AD' D.length cD'] 29) := ⟨_, rfl⟩
  rw [← hV2] at bz2 hy hz2
  rw [hs1] at hy
  have hb2 : Below w.heap.size w V2 := next bz bz2
  have N1 := same_muts AM AM' m cM cM' B B' M M' V2 (hm1.below (hb2.mono hB)) (hm1'.below (hb2.mono hB')) (Nat.le_trans hB hb2.size) (Nat.le_trans hB' hb2.size) (by rw [← l1]; exact hc.lm) hc.muts hc'.muts e1
  have HN1 := Lib.hid N1; have HZ := Lib.hid hz2; have HY := Lib.hid hy; have HB2 := Lib.hid hb2; have HH := Lib.hid h; have HH' := Lib.hid h'; have HB := Lib.hid hB; have HB' := Lib.hid hB'; have HC := Lib.hid hc
  have x0 := cell_at (i := 0) hz2 rfl
  have y0 := cell_at (i := 0) hy rfl
  clear bz hz bz2 hy hz2 hb2 N1 hs1 hm1 hm1' h h' hB hB' hc hc' he e1 l1 hm hv hv'
  go_enter Try.func16, Try.ntmps16
  go_wp2_with fail
  rw [← hV1, ← hV2]
  clear hV1 hV2
  refine HN1.out.mono ?_
  rintro e w3 ⟨rfl, b3⟩
  have hz3 := (b3.block _ (Array.getElem?_eq_some_iff.1 HZ.out).1).trans HZ.out
  have hy3 := (b3.block _ (Array.getElem?_eq_some_iff.1 HY.out).1).trans HY.out
  have B3 := Lib.hid (next HB2.out b3)
  have HZ3 := Lib.hid hz3; have HY3 := Lib.hid hy3
  clear x0 y0 hz3 hy3 b3
  have x1 := cell_at (i := 1) HZ3.out rfl
  have y1 := cell_at (i := 1) HY3.out rfl
  have N2 := same_notes AN AN' N.length cN cN' B B' N w3 (HH.out.notes.below (B3.out.mono HB.out)) (HH'.out.notes.below (B3.out.mono HB'.out)) (Nat.le_trans HB.out B3.out.size) (Nat.le_trans HB'.out B3.out.size) HC.out.ln
  have HN2 := Lib.hid N2
  clear N2
  go_wp2_with fail
  refine HN2.out.mono ?_
  rintro e w4 ⟨rfl, b4⟩
  have hz4 := (b4.block _ (Array.getElem?_eq_some_iff.1 HZ3.out).1).trans HZ3.out
  have hy4 := (b4.block _ (Array.getElem?_eq_some_iff.1 HY3.out).1).trans HY3.out
  have B4 := Lib.hid (next B3.out b4)
  clear x1 y1 b4
  have x2 := cell_at (i := 2) hz4 rfl
  have y2 := cell_at (i := 2) hy4 rfl
  clear hz4 hy4
  have N3 := same_ints AD AD' D.length cD cD' B B' D w4 (HH.out.drops.below (B4.out.mono HB.out)) (HH'.out.drops.below (B4.out.mono HB'.out)) (Nat.le_trans HB.out B4.out.size) (Nat.le_trans HB'.out B4.out.size) HC.out.ld
  have HN3 := Lib.hid N3
  clear N3
  go_wp2_with fail
  refine HN3.out.mono ?_
  rintro e w5 ⟨rfl, b5⟩
  have B5 := Lib.hid (next B4.out b5)
  clear x2 y2 b5
  go_wp2
  go_ret
  exact ⟨rfl, B5.out⟩
end Go.Proofs.Ythfanonjokpflaa
set_option linter.unusedVariables false
set_option linter.unusedSimpArgs false
namespace Go.Proofs.Ythfanonjokpflaa
open Go Go.RowKit

def fewMu (rows : Nat) (x : MA) : Prop := x.tb.size ≤ 300 ∧ fewPB x.p.k rows (ros x.p.L) = true
set_option maxRecDepth 8000 in
set_option maxHeartbeats 4000000 in
theorem few_muts (A : Option Addr) (n c B m rows : Nat) (L : List MA) (w : World) (h : LiesM w B A n c L) (hB : B ≤ w.heap.size) (hm : m ≤ 1000) (hrows : rows ≤ 1000) :
    Calls Try.prog 21 #[.slice A n c, .int .i64 (m : Nat), .int .i64 (rows : Nat)] w fun e w' => ∃ b : Bool, e = .returned (.bool b) ∧ (b = true → n ≤ m ∧ ∀ x ∈ L, fewMu rows x) ∧ Below w.heap.size w w' := by
  have hl := h.rd.1
  have HH := Lib.hid h; have HB := Lib.hid hB; have HL := Lib.hid hl; have HM := Lib.hid hm; have HR := Lib.hid hrows
  clear h hB hl hm hrows
  go_enter Try.func21, Try.ntmps21
  go_wp2
  go_loopw [7] (fun i wr => ∃ t : Nat, t ≤ n ∧ t ≤ m ∧ i = .int .i64 t ∧ (∀ x ∈ L.take t, fewMu rows x) ∧ Below w.heap.size w wr) (fun i _ => m - (intOf i).toNat)
  case atStart => exact ⟨0, Nat.zero_le _, Nat.zero_le _, rfl, fun x hx => (by simp at hx), Below.refl _ _⟩
  case round =>
    obtain ⟨t, htn, htm, rfl, hall, hb⟩ := hrel
    have i8 : m ≤ 1000 := HM.out
    have HALL := Lib.hid hall; have BB := Lib.hid hb
    clear hall hb
    by_cases hlt : t < n
    · have i1 : (t : Int) < n := by omega
      have j1 : decide ((t : Int) < (n : Int)) = true := decide_eq_true i1
      have j2 : decide (t < n) = true := decide_eq_true hlt
      have i0 : (0 : Int) ≤ t := by omega
      by_cases hlm : t < m
      · have i2 : (t : Int) < m := by omega
        have j3 : decide ((t : Int) < (m : Int)) = true := decide_eq_true i2
        have j4 : decide (t < m) = true := decide_eq_true hlm
        have htl : t < L.length := by rw [HL.out]; exact hlt
        have hq := HH.out.below (BB.out.mono HB.out)
        obtain ⟨g0, o0, rfl, hg0⟩ := hq.rd.ex (by omega)
        obtain ⟨z0, z1, z2, z3⟩ := hq.rd.part htl
        have hp := hq.parts L[t] (List.getElem_mem htl)
        have hstep : fewMu rows L[t] → ∀ x ∈ L.take (t + 1), fewMu rows x := fun hf x hx => by
          rw [List.take_succ_eq_append_getElem htl] at hx
          rcases List.mem_append.1 hx with h1 | h1
          · exact HALL.out x h1
          · rw [List.mem_singleton.1 h1]; exact hf
        obtain ⟨x, hx⟩ : ∃ x, L[t] = x := ⟨_, rfl⟩
        rw [hx] at z0 z1 z2 z3 hp hstep
        have HP := Lib.hid hp; have HST := Lib.hid hstep
        clear hq hp hstep hx HALL
        by_cases hs : x.tb.size ≤ 300
        · have j5 : decide ((300 : Int) < (x.tb.size : Int)) = false := decide_eq_false (by omega)
          have j6 : decide (300 < x.tb.size) = false := decide_eq_false (by omega)
          have HS := Lib.hid hs
          clear hs
          go_wp2_with fail
          refine (fewpart_any x.p.k x.p.g x.p.A x.p.L.length x.p.c B rows x.p.L _ HP.out (Nat.le_trans HB.out BB.out.size) (by have := HR.out; omega)).mono ?_
          rintro e w2 ⟨rfl, b2⟩
          have B2 := Lib.hid (next BB.out b2)
          obtain ⟨u, hu⟩ : ∃ u, fewPB x.p.k rows (ros x.p.L) = u := ⟨_, rfl⟩
          rw [hu]
          have HU := Lib.hid hu
          clear b2 hu z0 z1 z2 z3
          cases u with
          | false =>
            go_wp2
            go_ret
            exact ⟨false, rfl, fun h => (by cases h), B2.out⟩
          | true =>
            go_wp2
            go_roundw
            case rel => exact ⟨t + 1, by omega, by omega, by go_num, HST.out ⟨HS.out, HU.out⟩, B2.out⟩
            case measure => simp [intOf]; omega
        · have j5 : decide ((300 : Int) < (x.tb.size : Int)) = true := decide_eq_true (by omega)
          have j6 : decide (300 < x.tb.size) = true := decide_eq_true (by omega)
          clear hs
          go_wp2
          go_ret
          exact ⟨false, rfl, fun h => (by cases h), BB.out⟩
      · have j3 : decide ((t : Int) < (m : Int)) = false := decide_eq_false (by omega)
        have j4 : decide (t < m) = false := decide_eq_false (by omega)
        have j5 : decide ((n : Int) ≤ (m : Int)) = false := decide_eq_false (by omega)
        have j6 : decide (n ≤ m) = false := decide_eq_false (by omega)
        go_wp2
        go_ret
        exact ⟨false, rfl, fun h => (by cases h), BB.out⟩
    · obtain ⟨k, hk⟩ : ∃ k, n = k := ⟨_, rfl⟩
      have htk : t = k := by omega
      subst htk
      have hall : ∀ x ∈ L, fewMu rows x := by
        have := HALL.out
        rw [List.take_of_length_le (by rw [HL.out, hk]; exact Nat.le_refl _)] at this
        exact this
      have HA := Lib.hid hall; have HNM := Lib.hid (show n ≤ m by omega)
      subst hk
      have j1 : decide ((n : Int) < (n : Int)) = false := decide_eq_false (by omega)
      have j5 : decide ((n : Int) ≤ (m : Int)) = true := decide_eq_true (by omega)
      have j6 : decide (n ≤ m) = true := decide_eq_true (by omega)
      clear hall HALL
      go_wp2
      go_ret
      exact ⟨true, rfl, fun _ => ⟨HNM.out, HA.out⟩, BB.out⟩
/-- Not too much of a batch. -/
structure FewBt (z : BA) : Prop where
  lm : z.M.length ≤ 70
  muts : ∀ x ∈ z.M, fewMu 20 x
  ln : z.N.length ≤ 310
  ld : z.D.length ≤ 310
  notes : ∀ y ∈ z.N, y.2.size ≤ 5000
set_option maxRecDepth 8000 in
set_option maxHeartbeats 4000000 in
theorem few_batch (z : BA) (B : Nat) (w : World) (h : LiesB w B z) (hB : B ≤ w.heap.size) :
    Calls Try.prog 8 #[bV z] w fun e w' => ∃ b : Bool, e = .returned (.bool b) ∧ (b = true → FewBt z) ∧ Below w.heap.size w w' := by
  have bz := (Below.refl w.heap.size w).alloc (Nat.le_refl _) (bO z)
  have hz := heap_alloc_new w (bO z)
  obtain ⟨V, hV⟩ : ∃ V, V = w.alloc (bO z) := ⟨_, rfl⟩
  rw [← hV] at bz hz
  have hc0 := cell_at (i := 0) hz rfl
  have N1 := few_muts z.AM z.M.length z.cM B 70 20 z.M V (h.muts.below (bz.mono hB)) (Nat.le_trans hB bz.size) (by omega) (by omega)
  have HZ := Lib.hid hz; have BZ := Lib.hid bz; have HH := Lib.hid h; have HB := Lib.hid hB; have HN1 := Lib.hid N1
  clear hz bz h hB N1
  go_enter Try.func8, Try.ntmps8
  go_wp2_with fail
  try unfold bO at hV
  rw [← hV]
  clear hV
  refine (HN1.out).mono ?_
  rintro e w1 ⟨b, rfl, hbt, b1⟩
  have hz1 := (b1.block _ (Array.getElem?_eq_some_iff.1 HZ.out).1).trans HZ.out
  have B1 := Lib.hid (next BZ.out b1)
  have HZ1 := Lib.hid hz1; have HBT := Lib.hid hbt
  have hc1 := cell_at (i := 1) hz1 rfl
  have hc2 := cell_at (i := 2) hz1 rfl
  clear hz1 b1 hc0 hbt
  cases b with
  | false =>
    go_wp2
    go_ret
    exact ⟨false, rfl, fun h => (by cases h), B1.out⟩
  | true =>
    obtain ⟨nn, hnn⟩ : ∃ nn, z.N.length = nn := ⟨_, rfl⟩
    obtain ⟨nd, hnd⟩ : ∃ nd, z.D.length = nd := ⟨_, rfl⟩
    rw [hnn] at hc1
    rw [hnd] at hc2
    have hnotes := HH.out.notes
    rw [hnn] at hnotes
    have HNT := Lib.hid hnotes; have HNN := Lib.hid hnn; have HND := Lib.hid hnd
    clear hnotes
    by_cases h2 : nn ≤ 310
    · have j1 : decide ((310 : Int) < (nn : Int)) = false := decide_eq_false (by omega)
      have j2 : decide (310 < nn) = false := decide_eq_false (by omega)
      by_cases h3 : nd ≤ 310
      · have j3 : decide ((310 : Int) < (nd : Int)) = false := decide_eq_false (by omega)
        have j4 : decide (310 < nd) = false := decide_eq_false (by omega)
        clear hnn hnd
        go_wp2
        go_loopw [3] (fun i wr => ∃ t : Nat, t ≤ nn ∧ i = .int .i64 t ∧ (∀ y ∈ z.N.take t, y.2.size ≤ 5000) ∧ Below w1.heap.size w1 wr) (fun i _ => nn - (intOf i).toNat)
        case atStart => exact ⟨0, Nat.zero_le _, rfl, fun x hx => (by simp at hx), Below.refl _ _⟩
        case round =>
          obtain ⟨t, htn, rfl, hall, hb⟩ := hrel
          have HALL := Lib.hid hall; have BB := Lib.hid hb
          have hzr := (hb.block _ (Array.getElem?_eq_some_iff.1 HZ1.out).1).trans HZ1.out
          have k1 := cell_at (i := 1) hzr rfl
          rw [HNN.out] at k1
          clear hall hb hzr hc1 hc2
          by_cases hlt : t < nn
          · have i1 : (t : Int) < nn := by omega
            have i0 : (0 : Int) ≤ t := by omega
            have htl : t < z.N.length := by rw [HNN.out]; exact hlt
            have hq := HNT.out.below ((next B1.out BB.out).mono HB.out)
            obtain ⟨g0, o0, hga, hg0⟩ := hq.ex (by omega)
            rw [hga] at hq k1
            obtain ⟨z0, z1⟩ := hq.part htl
            have hstep : (z.N[t]).2.size ≤ 5000 → ∀ y ∈ z.N.take (t + 1), y.2.size ≤ 5000 := fun hf x hx => by
              rw [List.take_succ_eq_append_getElem htl] at hx
              rcases List.mem_append.1 hx with h1 | h1
              · exact HALL.out x h1
              · rw [List.mem_singleton.1 h1]; exact hf
            obtain ⟨⟨yi, ys⟩, hy⟩ : ∃ y, z.N[t] = y := ⟨_, rfl⟩
            rw [hy] at z0 z1 hstep
            dsimp only at z0 z1 hstep
            have HST := Lib.hid hstep
            clear hq hstep hy HALL htl hga
            by_cases hs : ys.size ≤ 5000
            · have j5 : decide ((5000 : Int) < (ys.size : Int)) = false := decide_eq_false (by omega)
              have j6 : decide (5000 < ys.size) = false := decide_eq_false (by omega)
              have HS := Lib.hid hs
              clear hs
              go_wp2
              go_roundw
              case rel => exact ⟨t + 1, by omega, by go_num, HST.out HS.out, BB.out⟩
              case measure => simp [intOf]; omega
            · have j5 : decide ((5000 : Int) < (ys.size : Int)) = true := decide_eq_true (by omega)
              have j6 : decide (5000 < ys.size) = true := decide_eq_true (by omega)
              clear hs
              go_wp2
              go_ret
              exact ⟨false, rfl, fun h => (by cases h), next B1.out BB.out⟩
          · obtain rfl : t = nn := by omega
            have hall : ∀ y ∈ z.N, y.2.size ≤ 5000 := by
              have := HALL.out
              rw [List.take_of_length_le (by rw [HNN.out]; exact Nat.le_refl _)] at this
              exact this
            have HA := Lib.hid hall; have H2 := Lib.hid h2; have H3 := Lib.hid h3
            clear hall HALL
            go_wp2
            go_ret
            exact ⟨true, rfl, fun _ => ⟨(HBT.out (by simp)).1, (HBT.out (by simp)).2, by rw [HNN.out]; exact H2.out, by rw [HND.out]; exact H3.out, HA.out⟩, next B1.out BB.out⟩
      · have j3 : decide ((310 : Int) < (nd : Int)) = true := decide_eq_true (by omega)
        have j4 : decide (310 < nd) = true := decide_eq_true (by omega)
        clear h3 hnn hnd
        go_wp2
        go_ret
        exact ⟨false, rfl, fun h => (by cases h), B1.out⟩
    · have j1 : decide ((310 : Int) < (nn : Int)) = true := decide_eq_true (by omega)
      have j2 : decide (310 < nn) = true := decide_eq_true (by omega)
      clear h2 hnn hnd
      go_wp2
      go_ret
      exact ⟨false, rfl, fun h => (by cases h), B1.out⟩
end Go.Proofs.Ythfanonjokpflaa
set_option linter.unusedVariables false
set_option linter.unusedSimpArgs false
namespace Go.Proofs.Ythfanonjokpflaa
open Go Go.RowKit

theorem Rd.preQ {w : World} {B n : Nat} {A : Option Addr} {l : List UInt8} (h : Rd w B A n l) {m : Nat} (hm : m ≤ n) : Rd w B A m (l.take m) := by
  refine ⟨by rw [List.length_take, h.1]; omega, fun h0 => ?_⟩
  obtain ⟨ad, e, hb, hc⟩ := h.2 (by omega)
  refine ⟨ad, e, hb, fun j hj => ?_⟩
  have hj2 : j < l.length := by rw [List.length_take] at hj; omega
  rw [hc j hj2, List.getElem_take]
theorem sl_hQ {w : World} {B n : Nat} {A : Option Addr} {l : List UInt8} (h : Rd w B A n l) {c : Nat} (hn : n ≤ c) (hA : A = none → c = 0) (y : Int) (hi : Nat) (ey : y = (hi : Nat)) (h2 : hi ≤ n) :
    (∀ wx : World, (Instr.slice 33 (.slice A n c) none (some (.int .i64 y)) none).run Try.prog wx = .ok (.slice A hi c) wx) ∧ Rd w B A hi (l.take hi) := by
  refine ⟨fun wx => ?_, h.preQ h2⟩
  obtain ⟨i, hi', hz0, hz1, hz2⟩ := info_parts infoB
  subst ey
  rw [run_slice_h (P := Try.prog) (t := 33) (ht := by rw [sizeB]; exact Try.underlying33) (h0 := by omega) (h2 := by omega), sizeB]
  cases A with
  | none => simp [sizeOf, typeInfo, hi', hz1, sliced, Result.andThen]
  | some a =>
    have e : a.add 0 = a := by unfold Addr.add; rw [if_pos rfl]
    simp [sizeOf, typeInfo, hi', hz1, sliced, Result.andThen, e]
theorem conv_below (w : World) (e : TypeId) (s : ByteArray) : Below w.heap.size w (Lib.bytesWorld w e s) :=
  ⟨rfl, rfl, rfl, by rw [Lib.bytesWorld_size]; omega, fun k hk => Lib.bytesWorld_at_old w e s k hk⟩
/-- []byte(s): where it lies. -/
theorem conv_bytes (w : World) (s : ByteArray) (hs : s.size ≤ maxLen) : ∃ c, (convert 9 33 (.string s)).run Try.prog w = .ok (.slice (some ⟨w.heap.size, 0, none⟩) s.size c) (Lib.bytesWorld w 5 s) ∧ s.size ≤ c ∧ c ≤ maxLen ∧ Rd (Lib.bytesWorld w 5 s) (w.heap.size + 1) (some ⟨w.heap.size, 0, none⟩) s.size s.data.toList ∧ (Lib.bytesWorld w 5 s).heap.size = w.heap.size + 1 := by
  refine ⟨_, Lib.run_convert_string_bytes (P := Try.prog) w 9 33 5 s Try.underlying9 Try.underlying33 Try.underlying5, grownCap_ge w s.size 0 5, grownCap_le_maxLen w s.size 0 5 hs, ⟨by rw [← Lib.size_eq], fun _ => ⟨_, rfl, by show w.heap.size < _; omega, fun j hj => ?_⟩⟩, Lib.bytesWorld_size w _ s⟩
  rw [Addr.add_lit, Nat.zero_add, Lib.bytesWorld_cell w _ s j (by rw [Lib.size_eq]; exact hj), List.getD_eq_getElem?_getD, List.getElem?_eq_getElem hj]
  rfl
theorem err_ne {p : Pz Pa} {e : Pa → Bs} {G T : Pa → Prop} (h : Codec p e G T) {ok : Pa → Bool} {b : Bs} {c : Int} (hg : getP p ok b = .error c) : c ≠ 0 := by
  unfold getP at hg
  split at hg
  · injection hg with hg; rw [← hg]; decide
  · cases hp : p b with
    | error c' =>
      rw [hp] at hg
      injection hg with hg
      rcases h.errs hp with h | h <;> omega
    | ok y =>
      rw [hp] at hg
      dsimp only at hg
      split at hg
      · split at hg
        · cases hg
        · injection hg with hg; omega
      · injection hg with hg; omega
theorem err_neB {b : Bs} {c : Int} (hg : getBatch b = .error c) : c ≠ 0 := by
  unfold getBatch getP at hg
  split at hg
  · injection hg with hg; rw [← hg]; decide
  · cases hp : batchP b with
    | error c' =>
      rw [hp] at hg
      injection hg with hg
      rcases batch_codecT.errs hp with h | h <;> omega
    | ok y =>
      rw [hp] at hg
      dsimp only at hg
      split at hg
      · split at hg
        · cases hg
        · injection hg with hg; omega
      · injection hg with hg; omega
/-- GetPart's two results, one way. -/
theorem GivesG.one {w w' : World} {b : Bs} {x : Ending} (h : GivesG w (getPart b) x w') : ∃ (z : PA) (e : Int), x = .returned (.tuple #[.agg #[.string z.k, .int .i64 z.g, .slice z.A z.L.length z.c], .int .i64 e]) ∧ Below w.heap.size w w' ∧ (e = 0 → getPart b = .ok ⟨z.k, z.g, ros z.L⟩ ∧ RowsQ w w' z.A z.L.length z.c z.L) ∧ (∀ c, getPart b = .error c → e = c) := by
  cases hR : getPart b with
  | error c =>
    rw [hR] at h
    obtain ⟨rfl, h⟩ := h
    exact ⟨⟨⟨#[]⟩, 0, [], none, 0⟩, c, rfl, h, fun e => absurd e (err_ne part_codec hR), fun c' hc => by injection hc⟩
  | ok p =>
    rw [hR] at h
    obtain ⟨z, hp, rfl, hrows, hb⟩ := h
    exact ⟨z, 0, rfl, hb, fun _ => ⟨by rw [hp], hrows⟩, fun c hc => by cases hc⟩
theorem GivesH.one {w w' : World} {b : Bs} {x : Ending} (h : GivesH w (getBatch b) x w') : ∃ (z : BA) (e : Int), x = .returned (.tuple #[bV z, .int .i64 e]) ∧ Below w.heap.size w w' ∧ (e = 0 → getBatch b = .ok z.bt ∧ BatQ w w' z) ∧ (∀ c, getBatch b = .error c → e = c) := by
  cases hR : getBatch b with
  | error c =>
    rw [hR] at h
    obtain ⟨rfl, h⟩ := h
    exact ⟨⟨none, 0, [], none, 0, [], none, 0, []⟩, c, rfl, h, fun e => absurd e (err_neB hR), fun c' hc => by injection hc⟩
  | ok p =>
    rw [hR] at h
    obtain ⟨z, hp, rfl, hrows, hb⟩ := h
    exact ⟨z, 0, rfl, hb, fun _ => ⟨by rw [hp], hrows⟩, fun c hc => by cases hc⟩
/-- Part's and Batch's two results, one way. -/
theorem GivesP.one {w w' : World} {R : Except Int Bs} {x : Ending} (hne : ∀ c, R = .error c → c ≠ 0) (h : GivesP w R x w') : ∃ (A : Option Addr) (n c : Nat) (e : Int), x = .returned (.tuple #[.slice A n c, .int .i64 e]) ∧ Below w.heap.size w w' ∧ (e = 0 → ∃ b : Bs, R = .ok b ∧ b.length = n ∧ n ≤ c ∧ c ≤ maxLen ∧ (A = none → c = 0) ∧ w'.ownsRow w.heap.size 5 1 (.slice A n c) n (Lib.byteCells b)) := by
  cases R with
  | error c =>
    obtain ⟨rfl, h⟩ := h
    exact ⟨none, 0, 0, c, rfl, h, fun e => absurd e (hne c rfl)⟩
  | ok b =>
    obtain ⟨A, n, c, rfl, h1, h2, h3, h4, h5, h6⟩ := h
    exact ⟨A, n, c, 0, rfl, h6, fun _ => ⟨b, rfl, h1, h2, h3, h4, h5⟩⟩
theorem putP_ne {α : Type} {e : α → Bs} {ok : α → Bool} {x : α} (c : Int) (h : putP e ok x = .error c) : c ≠ 0 := by
  unfold putP at h
  split at h
  · split at h
    · injection h with h; omega
    · cases h
  · injection h with h; omega
structure IsFewQ (R : Ro) : Prop where
  len : R.cols.length ≤ 20
  live : R.live.s.size ≤ 1000
  cols : ∀ x ∈ R.cols, x.1.size ≤ 300 ∧ x.2.s.size ≤ 300
theorem fewQ_of {R : Ro} (h : fewB R = true) : IsFewQ R := by
  unfold fewB at h
  simp only [Bool.and_eq_true, decide_eq_true_iff, List.all_eq_true] at h
  refine ⟨h.2.1, h.2.2.1, fun x hx => ?_⟩
  have := h.2.2.2 x hx
  unfold fewC at this
  simpa only [Bool.and_eq_true, decide_eq_true_iff] using this
theorem fewR_of {k : ByteArray} {m : Nat} {L : List RA} (h : fewPB k m (ros L) = true) : FewR L ∧ L.length ≤ m ∧ ∀ x ∈ L, x.ro.cols.length ≤ 1000 := by
  unfold fewPB at h
  simp only [Bool.and_eq_true, decide_eq_true_iff, List.all_eq_true, List.length_map] at h
  have hr : ∀ x ∈ L, IsFewQ x.ro := fun x hx => fewQ_of (h.2.2 x.ro (List.mem_map.2 ⟨x, hx, rfl⟩))
  refine ⟨fun x hx => ?_, h.2.1, fun x hx => ?_⟩
  · have h1 := hr x hx
    refine ⟨fun y hy => ?_, by have := h1.live; unfold maxLen; omega, by have := h1.len; omega⟩
    have := h1.cols y hy
    exact ⟨by omega, by unfold maxLen; omega⟩
  · have := (hr x hx).len; omega
theorem btF_few {z : BA} (h : FewBt z) : BtF z := ⟨fun y hy => by
  have h1 := h.muts y hy
  have h2 := fewR_of h1.2
  exact ⟨by have := h1.1; omega, by omega, h2.1⟩, fun y hy => by have := h.notes y hy; unfold maxLen; omega, by have := h.lm; omega, by have := h.ln; omega, by have := h.ld; omega⟩
theorem btC_few {z : BA} (h : FewBt z) : BtC z := ⟨fun y hy => by
  have h2 := fewR_of (h.muts y hy).2
  exact ⟨by omega, h2.2.2⟩, by have := h.lm; omega, by have := h.ln; omega, by have := h.ld; omega⟩
end Go.Proofs.Ythfanonjokpflaa
set_option linter.unusedVariables false
set_option linter.unusedSimpArgs false
namespace Go.Proofs.Ythfanonjokpflaa
open Go Go.RowKit

theorem lies_nil (w : World) (B : Nat) : Lies w B none 0 0 [] := ⟨RdR.nil _ _ _, fun x hx => (by cases hx), Nat.le_refl _⟩
def bt0 : BA := ⟨none, 0, [], none, 0, [], none, 0, []⟩
theorem bt0_lies (w : World) (B : Nat) : LiesB w B bt0 := ⟨⟨⟨rfl, fun h => absurd h (by simp [bt0])⟩, fun x hx => (by cases hx), Nat.le_refl _⟩, ⟨rfl, fun h => absurd h (by simp [bt0])⟩, ⟨rfl, fun h => absurd h (by simp [bt0])⟩, Nat.le_refl _, Nat.le_refl _⟩
theorem bt0_few : BtF bt0 := ⟨fun y hy => (by cases hy), fun y hy => (by cases hy), by simp [bt0], by simp [bt0], by simp [bt0]⟩
theorem put_a : putPart ⟨⟨#[97]⟩, 0, ros []⟩ = .ok [1, 1, 97, 0, 0] := by kernel_rfl
theorem bt0_ok : bt0.bt.ok = true := by rfl
set_option maxHeartbeats 1000000 in
theorem awake9_any (w : World) : Calls Try.prog 9 #[] w fun x w' => x = .returned (.bool true) ∧ Below w.heap.size w w' := by
  have N := pack_part ⟨#[97]⟩ 0 none 0 0 0 [] w (lies_nil _ _) (Nat.zero_le _) (by omega) (fun x hx => by cases hx)
  rw [put_a] at N
  have HN := Lib.hid N
  clear N
  go_enter Try.func9, Try.ntmps9
  go_wp2_with fail
  refine (HN.out).mono ?_
  rintro e w1 ⟨A, n, c, rfl, h1, h2, h3, h4, h5, h6⟩
  obtain ⟨_, _, e, _, _, _, hrd⟩ := Rd.of_own h5
  injection e with e1 e2 e3
  subst e1; subst e3
  have hcv := cv_string hrd c
  have B1 := Lib.hid h6
  clear h1 h2 h3 h4 h5 h6 hrd
  have hcv : (convert 33 9 (.slice A n c)).run Try.prog w1 = .ok (.string ⟨#[1, 1, 97, 0, 0]⟩) w1 := hcv
  go_wp2_with fail
  refine (checkBatch_any bt0 0 w1 (bt0_lies _ _) (Nat.zero_le _) bt0_few).mono ?_
  rintro e w2 ⟨rfl, b2⟩
  rw [bt0_ok]
  have B2 := Lib.hid (next B1.out b2)
  clear b2 hcv
  go_wp2
  go_ret
  exact ⟨rfl, B2.out⟩
end Go.Proofs.Ythfanonjokpflaa
set_option linter.unusedVariables false
set_option linter.unusedSimpArgs false
namespace Go.Proofs.Ythfanonjokpflaa
open Go Go.RowKit

theorem btC_eq {y z : BA} (he : y.bt = z.bt) (h : BtC z) : BtC y := by
  have e1 : muts y.M = muts z.M := congrArg Bt.muts he
  have e2 : y.N = z.N := congrArg Bt.add he
  have e3 : y.D = z.D := congrArg Bt.drop he
  have l1 : y.M.length = z.M.length := by have := congrArg List.length e1; simpa using this
  refine ⟨fun m hm => ?_, by rw [l1]; exact h.lm, by rw [e2]; exact h.ln, by rw [e3]; exact h.ld⟩
  have h1 : mutOf m ∈ muts z.M := by rw [← e1]; exact List.mem_map.2 ⟨m, hm, rfl⟩
  obtain ⟨m', hm', hmm⟩ := List.mem_map.1 h1
  have h2 := h.muts m' hm'
  have h3 : ros m'.p.L = ros m.p.L := congrArg (fun p : ByteArray × Pa => p.2.rows) hmm
  refine ⟨by have := congrArg List.length h3; rw [List.length_map, List.length_map] at this; omega, fun r hr => ?_⟩
  have h4 : r.ro ∈ ros m'.p.L := by rw [h3]; exact List.mem_map.2 ⟨r, hr, rfl⟩
  obtain ⟨r', hr', hrr⟩ := List.mem_map.1 h4
  rw [← hrr]
  exact h2.2 r' hr'
theorem cols_eq {L M : List RA} (h : ros L = ros M) {b : Nat} (hM : ∀ x ∈ M, x.ro.cols.length ≤ b) : ∀ x ∈ L, x.ro.cols.length ≤ b := fun x hx => by
  have h4 : x.ro ∈ ros M := by rw [← h]; exact List.mem_map.2 ⟨x, hx, rfl⟩
  obtain ⟨r', hr', hrr⟩ := List.mem_map.1 h4
  rw [← hrr]
  exact hM r' hr'
theorem pE_len3 (p : Pa) : 3 ≤ (pE p).length := by
  unfold pE
  simp only [List.length_append]
  have h1 := numL_pos p.gone.toNat
  have h2 := numL_pos p.rows.length
  have h3 := tE_pos p.key []
  rw [List.append_nil] at h3
  omega
set_option maxRecDepth 8000 in
set_option maxHeartbeats 16000000 in
theorem back_law (YI : InnerOk) (k : ByteArray) (g : Int) (A : Option Addr) (n c : Nat) (L : List RA) (z : BA) (s : ByteArray) (v : Int) (w : World) (hr : Lies w w.heap.size A n c L) (hz : LiesB w w.heap.size z) (hss : s.size ≤ maxLen) (hv : (Lit.int .i64 v).wf = true) :
    Calls Try.prog 3 #[.agg #[.string k, .int .i64 g, .slice A n c], bV z, .string s, .int .i64 v] w fun e w' => e = .returned (.bool true) ∧ Below w.heap.size w w' := by
  have bz := (Below.refl w.heap.size w).alloc (Nat.le_refl _) (.cells #[.string k, .int .i64 g, .slice A n c] 24)
  have hp := heap_alloc_new w (.cells #[.string k, .int .i64 g, .slice A n c] 24)
  obtain ⟨V1, hV1⟩ : ∃ V, V = w.alloc (.cells #[.string k, .int .i64 g, .slice A n c] 24) := ⟨_, rfl⟩
  rw [← hV1] at bz hp
  have hs1 : V1.heap.size = w.heap.size + 1 := by rw [hV1]; simp
  have bz2 := (Below.refl V1.heap.size V1).alloc (Nat.le_refl _) (bO z)
  have hx := heap_alloc_new V1 (bO z)
  have hp2 := at_newS hp (bO z)
  obtain ⟨V2, hV2⟩ : ∃ V, V = V1.alloc (bO z) := ⟨_, rfl⟩
  rw [← hV2] at bz2 hx hp2
  rw [hs1] at hx
  have hs2 : V2.heap.size = w.heap.size + 1 + 1 := by rw [hV2, ← hs1]; simp
  have hb2 : Below w.heap.size w V2 := next bz bz2
  have N0 := fewpart_any k g A n c w.heap.size 30 L V2 (hr.below hb2) hb2.size (by omega)
  obtain ⟨u1, hu1⟩ : ∃ u, fewPB k 30 (ros L) = u := ⟨_, rfl⟩
  rw [hu1] at N0
  have HP := Lib.hid hp2; have HX := Lib.hid hx; have HS2 := Lib.hid hs2; have HB2 := Lib.hid hb2; have HR := Lib.hid (hr.below hb2); have HZ := Lib.hid (hz.below hb2); have HN0 := Lib.hid N0; have U1 := Lib.hid hu1; have HSS := Lib.hid hss; have HV := Lib.hid hv; have HL := Lib.hid hr.len
  have q0 := cell_at (i := 0) hp2 rfl
  have q1 := cell_at (i := 1) hp2 rfl
  have q2 := cell_at (i := 2) hp2 rfl
  clear bz hp bz2 hx hp2 hs1 hs2 hb2 N0 hu1 hr hz hss hv
  go_enter Try.func3, Try.ntmps3
  go_wp2_with fail
  try unfold bO at hV2
  rw [← hV1, ← hV2]
  clear hV1 hV2
  refine HN0.out.mono ?_
  rintro e w1 ⟨rfl, b1⟩
  have B1 := Lib.hid b1
  clear b1 q0 q1 q2
  cases u1 with
  | false =>
    go_wp2_with fail
    refine (awake9_any _).mono ?_
    rintro e wz ⟨rfl, bz⟩
    have BZ9 := Lib.hid (next (next HB2.out B1.out) bz)
    clear bz
    go_wp2
    go_ret
    exact ⟨rfl, BZ9.out⟩
  | true =>
    obtain ⟨hfr, hfl, hfc⟩ := fewR_of U1.out
    have HFR := Lib.hid hfr; have HFL := Lib.hid (show n ≤ 30 by have := HL.out; omega); have HFC := Lib.hid hfc
    have N1 := few_batch z w.heap.size w1 (HZ.out.below (B1.out.mono HB2.out.size)) (Nat.le_trans HB2.out.size B1.out.size)
    have HN1 := Lib.hid N1
    clear hfr hfl hfc N1
    have hxb := (B1.out.block (w.heap.size + 1) (by have := HS2.out; omega)).trans HX.out
    have x0 := cell_at (i := 0) hxb rfl
    have x1 := cell_at (i := 1) hxb rfl
    have x2 := cell_at (i := 2) hxb rfl
    clear hxb
    go_wp2_with fail
    refine HN1.out.mono ?_
    rintro e w2 ⟨u2, rfl, hu2, b2⟩
    have B2 := Lib.hid (next B1.out b2)
    have U2 := Lib.hid hu2
    clear b2 hu2 x0 x1 x2
    cases u2 with
    | false =>
      go_wp2_with fail
      refine (awake9_any _).mono ?_
      rintro e wz ⟨rfl, bz⟩
      have BZ9 := Lib.hid (next (next HB2.out B2.out) bz)
      clear bz
      go_wp2
      go_ret
      exact ⟨rfl, BZ9.out⟩
    | true =>
      have HFB := Lib.hid (U2.out rfl)
      by_cases hs3 : s.size ≤ 3000
      · have d1 : decide ((3000 : Int) < (s.size : Int)) = false := decide_eq_false (by omega)
        have d2 : decide (3000 < s.size) = false := decide_eq_false (by omega)
        have HS3 := Lib.hid hs3
        clear hs3
        -- a partition
        have N3 := pack_part k g A n c w.heap.size L w2 (HR.out.below (B2.out.mono HB2.out.size)) (Nat.le_trans HB2.out.size B2.out.size) (by have := HFL.out; omega) HFR.out
        have HN3 := Lib.hid N3
        clear N3
        have hpb := (B2.out.block w.heap.size (by have := HS2.out; omega)).trans HP.out
        have p0 := cell_at (i := 0) hpb rfl
        have p1 := cell_at (i := 1) hpb rfl
        have p2 := cell_at (i := 2) hpb rfl
        clear hpb
        go_wp2_with fail
        refine HN3.out.mono ?_
        intro e w3 hg3
        obtain ⟨A3, n3, c3, e3, rfl, b3, hok3⟩ := GivesP.one (fun c h => putP_ne c h) hg3
        have B3 := Lib.hid (next B2.out b3)
        have OK3 := Lib.hid hok3
        clear hg3 b3 hok3 p0 p1 p2
        go_upto_if 49 with fail
        go_cut [] from 9 to 92 (fun wx => ∃ wy, wx = wy ∧ Below V2.heap.size V2 wy)
        case first =>
          by_cases he3 : e3 = 0
          · subst he3
            obtain ⟨b, hput, hbl, g1, g2, g3, ho3⟩ := OK3.out rfl
            have hpp : putP pE Pa.ok ⟨k, g, ros L⟩ = .ok b := hput
            have hpok := put_ok hpp
            have hgot := part_codec.got (ok := Pa.ok) (fun x h => Pa.gd_of h) hpp
            have hshort := fun i (hi : i < b.length) => part_codec.shorter (ok := Pa.ok) (fun x h => Pa.gd_of h) hpp hi
            have hb27 : b.length ≤ 246127 := by rw [hpok.2.2]; exact pa_len hpok.1
            have hb3 : 3 ≤ b.length := by rw [hpok.2.2]; exact pE_len3 _
            have hlong := part_codec.longer (ok := Pa.ok) (fun x h => Pa.gd_of h) hpp (r := [0]) (by simp) (by simp; omega)
            have HGOT := Lib.hid hgot; have HSH := Lib.hid hshort; have HLO := Lib.hid hlong; have HB27 := Lib.hid (show n3 ≤ 246127 by omega); have HB3 := Lib.hid (show 3 ≤ n3 by omega); have HBL := Lib.hid hbl; have HO3 := Lib.hid ho3; have HC3 := Lib.hid (show n3 ≤ c3 ∧ c3 ≤ maxLen ∧ (A3 = none → c3 = 0) from ⟨g1, g2, g3⟩)
            clear hput hpp hpok hgot hshort hb27 hb3 hlong hbl g1 g2 g3 ho3 OK3
            go_wp2_with (at_builtin; refine list_ex rfl (.const (.slice none 0 0)) (.tmp 51) _ _ rfl (.slice none 0 0) (.slice A3 n3 c3) rfl rfl (run_appB_at w3.heap.size (own_nilY w3 _) c3 (Rd.of_own1 HO3.out) ?s1 ?s2) ?_)
            case s1 => have := HB27.out; simp; omega
            case s2 => exact Nat.le_refl _
            intro v4 w4 h4 hg4 _
            have b4 : Below w3.heap.size w3 w4 := (Below.refl _ _).grown hg4 (Nat.le_refl _) (fun g hg => by cases hg)
            try rw [Nat.zero_add] at h4
            try rw [List.nil_append] at h4
            obtain ⟨A4, c4, rfl, g4, g5, g6⟩ := own_slice h4
            have B4 := Lib.hid (next B3.out b4)
            have HO4 := Lib.hid (own_below HO3.out b4)
            have N4 := getPart_any A4 n3 c4 w4.heap.size b w4 (Rd.of_own1 h4) (Nat.le_refl _) g4 g5 g6
            have hgo := HGOT.out
            have hgo : getPart b = .ok ⟨k, g, ros L⟩ := hgo
            rw [hgo] at N4
            have HN4 := Lib.hid N4
            clear h4 hg4 b4 g4 g5 g6 N4 hgo
            go_wp2_with fail
            refine HN4.out.mono ?_
            rintro e w5 ⟨⟨zk, zg, zL, zA, zc⟩, hpe, rfl, hrows, b5⟩
            dsimp only at hpe hrows
            injection hpe with e1 e2 e4
            subst e1
            subst e2
            have ba := (Below.refl w5.heap.size w5).alloc (Nat.le_refl _) (.cells #[.string zk, .int .i64 zg, .slice zA zL.length zc] 24)
            have hzz := heap_alloc_new w5 (.cells #[.string zk, .int .i64 zg, .slice zA zL.length zc] 24)
            have b6 := next (next B4.out b5) ba
            have hpb := (b6.block w.heap.size (by have := HS2.out; omega)).trans HP.out
            have p0 := cell_at (i := 0) hpb rfl
            have p1 := cell_at (i := 1) hpb rfl
            have p2 := cell_at (i := 2) hpb rfl
            clear hpb
            obtain ⟨W6, hW6⟩ : ∃ W, W = w5.alloc (.cells #[.string zk, .int .i64 zg, .slice zA zL.length zc] 24) := ⟨_, rfl⟩
            rw [← hW6] at ba hzz b6
            have B6 := Lib.hid b6
            have HO6 := Lib.hid (own_below (own_below HO4.out b5) ba)
            have hzl : zL.length = n := by have := congrArg List.length e4; rw [List.length_map, List.length_map] at this; rw [this]; exact HL.out
            have N6 := rpsame_any zk zk zg zg zA A zL.length n zc c W6.heap.size w.heap.size zL L W6 (hrows.on ba).lies (HR.out.below (B6.out.mono HB2.out.size)) (Nat.le_refl _) (Nat.le_trans HB2.out.size B6.out.size) (by have := HFL.out; omega) (by have := HFL.out; omega) (cols_eq e4 HFC.out) HFC.out
            rw [e4, psame_self] at N6
            have HN6 := Lib.hid N6
            clear hrows b5 ba hzz hzl N6 e4 b6
            go_wp2_with fail
            try rw [← hW6]
            clear hW6
            refine HN6.out.mono ?_
            rintro e w7 ⟨rfl, b7⟩
            have B7 := Lib.hid (next B6.out b7)
            have HO7 := Lib.hid (own_below HO6.out b7)
            have d4 : decide ((n3 : Int) < 3) = false := decide_eq_false (by have := HB3.out; omega)
            have d5 : decide (n3 < 3) = false := decide_eq_false (by have := HB3.out; omega)
            clear b7 p0 p1 p2
            go_wp2_with fail
            refine (place_any v (n3 : Int) _ (by have := HB3.out; omega) (by have := HB27.out; omega) (bounds_i64 HV.out)).mono ?_
            rintro x w8 ⟨rfl, rfl⟩
            obtain ⟨i, hi, hin⟩ : ∃ i : Nat, v % (n3 : Int) = i ∧ i < n3 := ⟨(v % (n3 : Int)).toNat, by rw [Int.toNat_of_nonneg (Int.emod_nonneg _ (by have := HB3.out; omega))], by have h1 := Int.emod_nonneg v (show (n3 : Int) ≠ 0 by have := HB3.out; omega); have h2 := Int.emod_lt_of_pos v (show (0 : Int) < n3 by have := HB3.out; omega); omega⟩
            rw [hi]
            obtain ⟨hsl, hrd⟩ := sl_hQ (Rd.of_own1 HO7.out) HC3.out.1 HC3.out.2.2 (i : Int) i rfl (by omega)
            have N8 := getPart_any A3 i c3 w7.heap.size (b.take i) w7 hrd (Nat.le_refl _) (by have := HC3.out.1; omega) HC3.out.2.1 HC3.out.2.2
            have hgs : getPart (b.take i) = .error 8 := HSH.out i (by have := HBL.out; omega)
            rw [hgs] at N8
            have HN8 := Lib.hid N8
            clear N8 hgs hrd hi hin
            go_wp2_with fail
            refine HN8.out.mono ?_
            rintro e w9 ⟨rfl, b9⟩
            have ba9 := (Below.refl w9.heap.size w9).alloc (Nat.le_refl _) (.cells #[.string ⟨#[]⟩, .int .i64 0, .slice none 0 0] 24)
            have B9 := Lib.hid (next (next B7.out b9) ba9)
            have HO9 := Lib.hid (own_below (own_below HO7.out b9) ba9)
            clear b9 hsl ba9
            go_wp2_with (at_builtin; first | refine list_ex rfl (.const (.slice none 0 0)) (.tmp 80) _ _ rfl (.slice none 0 0) (.slice A3 n3 c3) rfl rfl (run_appB_at (w9.alloc (.cells #[.string ⟨#[]⟩, .int .i64 0, .slice none 0 0] 24)).heap.size (own_nilY _ _) c3 (Rd.of_own1 HO9.out) ?s1 ?s2) ?_)
            case s1 => have := HB27.out; simp; omega
            case s2 => exact Nat.le_refl _
            intro v5 w10 h5 hg5 _
            have b10 : Below (w9.alloc (.cells #[.string ⟨#[]⟩, .int .i64 0, .slice none 0 0] 24)).heap.size (w9.alloc (.cells #[.string ⟨#[]⟩, .int .i64 0, .slice none 0 0] 24)) w10 := (Below.refl _ _).grown hg5 (Nat.le_refl _) (fun g hg => by cases hg)
            have B10 := Lib.hid (next B9.out b10)
            try rw [Nat.zero_add] at h5
            try rw [List.nil_append] at h5
            obtain ⟨A5, c5, rfl, _⟩ := own_slice h5
            have bb := (Below.refl w10.heap.size w10).alloc (Nat.le_refl _) (.cells #[.int .u8 0] 5)
            have HO5 : Hid ((w10.alloc (.cells #[.int .u8 0] 5)).ownsRow (w9.heap.size + 1) 5 1 (.slice A5 n3 c5) n3 (Lib.byteCells b)) := Lib.hid (by first | exact own_below h5 bb | (have h6 := own_below h5 bb; simp only [World.size_alloc] at h6; exact h6))
            have HSZ5 : Hid (w9.heap.size + 1 ≤ (w10.alloc (.cells #[.int .u8 0] 5)).heap.size) := Lib.hid (by have h1 := b10.size; have h2 := bb.size; simp only [World.size_alloc] at h1 h2 ⊢; omega)
            have B11 := Lib.hid (next B10.out bb)
            clear h5 hg5 b10 bb
            go_wp2_with (at_builtin; refine list_ex rfl (.tmp 81) (.tmp 82) _ _ rfl (.slice A5 n3 c5) (.slice (some ⟨w10.heap.size, 0, none⟩) 1 1) rfl rfl (run_appB_at (w9.heap.size + 1) HO5.out 1 (Rd.one w10 0 0 rfl) ?s3 ?s4) ?_)
            case s3 => have := HB27.out; omega
            case s4 => exact HSZ5.out
            intro v6 w11 h6 hg6 _
            have b11 : Below V2.heap.size (w10.alloc (.cells #[.int .u8 0] 5)) w11 := (Below.refl _ _).grown hg6 (by have := B11.out.size; omega) (fun g hg => by have h1 := (World.ownsRow.lt HO5.out g hg).1; have h2 := B9.out.size; simp only [World.size_alloc] at h2; omega)
            have B12 := Lib.hid (B11.out.trans b11)
            obtain ⟨A6, c6, rfl, g4, g5, g6⟩ := own_slice h6
            have N11 := getPart_any A6 (n3 + 1) c6 w11.heap.size (b ++ [0]) w11 (Rd.of_own1 h6) (Nat.le_refl _) g4 g5 g6
            have hgl : getPart (b ++ [0]) = .error 6 := HLO.out
            rw [hgl] at N11
            have HN11 := Lib.hid N11
            clear h6 hg6 b11 g4 g5 g6 N11 hgl
            go_wp2_with fail
            refine HN11.out.mono ?_
            rintro e w12 ⟨rfl, b12⟩
            have B13 := Lib.hid (next (next B12.out b12) ((Below.refl w12.heap.size w12).alloc (Nat.le_refl _) (.cells #[.string ⟨#[]⟩, .int .i64 0, .slice none 0 0] 24)))
            clear b12
            go_wp2_with fail
            go_meet
            exact ⟨_, rfl, B13.out⟩
          · have e0 : (e3 == 0) = false := by simp; exact he3
            clear he3 OK3
            go_wp2_with fail
            go_meet
            exact ⟨_, rfl, B3.out⟩
        case rest =>
          -- a batch
          obtain ⟨wA, hwwA, hcwA⟩ := hcut
          rw [hwwA]
          have BA0 := Lib.hid hcwA
          clear hwwA hcwA B3 OK3
          have N4 := pack_batch z w.heap.size wA (HZ.out.below (BA0.out.mono HB2.out.size)) (Nat.le_trans HB2.out.size BA0.out.size) (btF_few HFB.out)
          have HN4 := Lib.hid N4
          clear N4
          have hxb := (BA0.out.block (w.heap.size + 1) (by have := HS2.out; omega)).trans HX.out
          have x0 := cell_at (i := 0) hxb rfl
          have x1 := cell_at (i := 1) hxb rfl
          have x2 := cell_at (i := 2) hxb rfl
          clear hxb
          go_wp2_with fail
          refine HN4.out.mono ?_
          intro e w3 hg3
          obtain ⟨A3, n3, c3, e3, rfl, b3, hok3⟩ := GivesP.one (fun c h => putP_ne c h) hg3
          have B3 := Lib.hid (next BA0.out b3)
          have OK3 := Lib.hid hok3
          clear hg3 b3 hok3 x0 x1 x2
          go_upto_if 99 with fail
          go_cut [] from 17 to 113 (fun wx => ∃ wy, wx = wy ∧ Below V2.heap.size V2 wy)
          case first =>
            by_cases he3 : e3 = 0
            · subst he3
              obtain ⟨b, hput, hbl, g1, g2, g3, ho3⟩ := OK3.out rfl
              have hpp : putP bE Bt.ok z.bt = .ok b := hput
              have hpok := put_ok hpp
              have hgot := batch_codecT.got (ok := Bt.ok) (fun x h => Bt.gd_of h) hpp
              have hb27 : b.length ≤ 262144 := by rw [hpok.2.2]; exact hpok.2.1
              have HGOT := Lib.hid hgot; have HB27 := Lib.hid (show n3 ≤ 262144 by omega); have HO3 := Lib.hid ho3; have HC3 := Lib.hid (show n3 ≤ c3 ∧ c3 ≤ maxLen ∧ (A3 = none → c3 = 0) from ⟨g1, g2, g3⟩)
              clear hput hpp hpok hgot hb27 hbl g1 g2 g3 ho3 OK3
              go_wp2_with (at_builtin; refine list_ex rfl (.const (.slice none 0 0)) (.tmp 101) _ _ rfl (.slice none 0 0) (.slice A3 n3 c3) rfl rfl (run_appB_at w3.heap.size (own_nilY w3 _) c3 (Rd.of_own1 HO3.out) ?s1 ?s2) ?_)
              case s1 => have := HB27.out; simp; omega
              case s2 => exact Nat.le_refl _
              intro v4 w4 h4 hg4 _
              have b4 : Below w3.heap.size w3 w4 := (Below.refl _ _).grown hg4 (Nat.le_refl _) (fun g hg => by cases hg)
              try rw [Nat.zero_add] at h4
              try rw [List.nil_append] at h4
              obtain ⟨A4, c4, rfl, g4, g5, g6⟩ := own_slice h4
              have B4 := Lib.hid (next B3.out b4)
              have N5 := getBatch_any YI A4 n3 c4 w4.heap.size b w4 (Rd.of_own1 h4) (Nat.le_refl _) g4 g5 g6
              have hgo : getBatch b = .ok z.bt := HGOT.out
              rw [hgo] at N5
              have HN5 := Lib.hid N5
              clear h4 hg4 b4 g4 g5 g6 N5 hgo
              go_wp2_with fail
              refine HN5.out.mono ?_
              rintro e w5 ⟨y, hpe, rfl, hbq, b5⟩
              have ba := (Below.refl w5.heap.size w5).alloc (Nat.le_refl _) (bO y)
              have b6 := next (next B4.out b5) ba
              have hxb := (b6.block (w.heap.size + 1) (by have := HS2.out; omega)).trans HX.out
              have x0 := cell_at (i := 0) hxb rfl
              have x1 := cell_at (i := 1) hxb rfl
              have x2 := cell_at (i := 2) hxb rfl
              clear hxb
              obtain ⟨W6, hW6⟩ : ∃ W, W = w5.alloc (bO y) := ⟨_, rfl⟩
              rw [← hW6] at ba b6
              have B6 := Lib.hid b6
              have hC := btC_few HFB.out
              have N6 := same_batch y z W6.heap.size w.heap.size W6 (hbq.on ba).lies (HZ.out.below (B6.out.mono HB2.out.size)) (Nat.le_refl _) (Nat.le_trans HB2.out.size B6.out.size) (btC_eq hpe hC) hC hpe
              have HN6 := Lib.hid N6
              clear hbq b5 ba N6 b6 hpe hC
              go_wp2_with fail
              try unfold bO at hW6
              try rw [← hW6]
              clear hW6
              refine HN6.out.mono ?_
              rintro e w7 ⟨rfl, b7⟩
              have B7 := Lib.hid (next B6.out b7)
              clear b7 x0 x1 x2
              go_wp2_with fail
              go_meet
              exact ⟨_, rfl, B7.out⟩
            · have e0 : (e3 == 0) = false := by simp; exact he3
              clear he3 OK3
              go_wp2_with fail
              go_meet
              exact ⟨_, rfl, B3.out⟩
          case rest =>
            -- bytes as a partition
            obtain ⟨wB, hwwB, hcwB⟩ := hcut
            rw [hwwB]
            have BB0 := Lib.hid hcwB
            clear hwwB hcwB B3 OK3
            obtain ⟨c4, hcv, hc4, hc5, hrd, hsz⟩ := conv_bytes wB s HSS.out
            have hbc := conv_below wB 5 s
            obtain ⟨W4, hW4⟩ : ∃ W, W = Lib.bytesWorld wB 5 s := ⟨_, rfl⟩
            rw [← hW4] at hcv hrd hsz hbc
            have hsl : s.data.toList.length = s.size := rfl
            have N7 := getPart_any (some ⟨wB.heap.size, 0, none⟩) s.size c4 (wB.heap.size + 1) s.data.toList W4 hrd (by omega) hc4 hc5 (fun h => by cases h)
            have HN7 := Lib.hid N7; have B4 := Lib.hid (next BB0.out hbc)
            clear hW4 hc4 hc5 hrd hsz hbc N7
            go_wp2_with fail
            clear hcv
            refine HN7.out.mono ?_
            intro e w5 hg5
            obtain ⟨⟨zk, zg, zL, zA, zc⟩, e5, rfl, b5, hok5, _⟩ := hg5.one
            dsimp only at hok5
            have B5 := Lib.hid (next B4.out b5)
            have OK5 := Lib.hid hok5
            clear hg5 b5 hok5
            go_upto_if 121 with fail
            go_cut [] from 21 to 134 (fun wx => ∃ wy, wx = wy ∧ Below V2.heap.size V2 wy)
            case first =>
              by_cases he5 : e5 = 0
              · subst he5
                obtain ⟨hgt, hrows⟩ := OK5.out rfl
                have hsame := part_codec.same (ok := Pa.ok) hgt
                have hEZ := (put_ok hsame.1).2.2
                have hlen : (pE ⟨zk, zg, ros zL⟩).length ≤ 3000 := by rw [← hEZ, hsl]; exact HS3.out
                have hfew : FewR zL := few_of_sizes hsame.2 (N := 3000) (by omega) hlen rfl
                have hzl2 : zL.length ≤ 900000 := by
                  have h4 := (pa_sizes hsame.2 (N := 3000) hlen).2.1
                  dsimp only at h4
                  rw [List.length_map] at h4
                  omega
                have ba := (Below.refl w5.heap.size w5).alloc (Nat.le_refl _) (.cells #[.string zk, .int .i64 zg, .slice zA zL.length zc] 24)
                have hzz := heap_alloc_new w5 (.cells #[.string zk, .int .i64 zg, .slice zA zL.length zc] 24)
                have hrow5 := hrows.on ba
                have B6 := Lib.hid (next B5.out ba)
                obtain ⟨U, hU⟩ : ∃ U, U = w5.alloc (.cells #[.string zk, .int .i64 zg, .slice zA zL.length zc] 24) := ⟨_, rfl⟩
                rw [← hU] at hrow5 B6
                have N8 := pack_part zk zg zA zL.length zc U.heap.size zL U hrow5.lies (Nat.le_refl _) (by omega) hfew
                have hput' : putPart ⟨zk, zg, ros zL⟩ = .ok s.data.toList := hsame.1
                rw [hput'] at N8
                have HN8 := Lib.hid N8
                clear hgt hrows hsame hEZ hlen hfew hzl2 ba hzz hrow5 N8 hput' OK5
                go_wp2_with fail
                rw [← hU]
                clear hU
                refine HN8.out.mono ?_
                rintro e w6 ⟨A6, n6, c6, rfl, _, _, _, _, ho6, b6⟩
                have hcv1 := cv_string (Rd.of_own1 ho6) c6
                rw [mk_eq _ s rfl] at hcv1
                have f1 : (s.toList != s.toList) = false := by simp
                have f2 : (s.toList == s.toList) = true := by simp
                have B7 := Lib.hid (next B6.out b6)
                clear ho6 b6
                go_wp2_with fail
                go_meet
                exact ⟨_, rfl, B7.out⟩
              · have e0 : (e5 == 0) = false := by simp; exact he5
                have B6 := Lib.hid (next B5.out ((Below.refl w5.heap.size w5).alloc (Nat.le_refl _) (.cells #[.string zk, .int .i64 zg, .slice zA zL.length zc] 24)))
                clear he5 OK5
                go_wp2_with fail
                go_meet
                exact ⟨_, rfl, B6.out⟩
            case rest =>
              -- bytes as a batch
              obtain ⟨wC, hwwC, hcwC⟩ := hcut
              rw [hwwC]
              have BC0 := Lib.hid hcwC
              clear hwwC hcwC B5 OK5 B4
              obtain ⟨c4, hcv, hc4, hc5, hrd, hsz⟩ := conv_bytes wC s HSS.out
              have hbc := conv_below wC 5 s
              obtain ⟨W4, hW4⟩ : ∃ W, W = Lib.bytesWorld wC 5 s := ⟨_, rfl⟩
              rw [← hW4] at hcv hrd hsz hbc
              have N9 := getBatch_any YI (some ⟨wC.heap.size, 0, none⟩) s.size c4 (wC.heap.size + 1) s.data.toList W4 hrd (by omega) hc4 hc5 (fun h => by cases h)
              have HN9 := Lib.hid N9; have B4 := Lib.hid (next BC0.out hbc)
              clear hW4 hc4 hc5 hrd hsz hbc N9
              go_wp2_with fail
              clear hcv
              refine HN9.out.mono ?_
              intro e w5 hg5
              obtain ⟨y, e5, rfl, b5, hok5, _⟩ := hg5.one
              have B5 := Lib.hid (next B4.out b5)
              have OK5 := Lib.hid hok5
              clear hg5 b5 hok5
              go_upto_if 142 with fail
              go_cut [] from 25 to 155 (fun wx => ∃ wy, wx = wy ∧ Below V2.heap.size V2 wy)
              case first =>
                by_cases he5 : e5 = 0
                · subst he5
                  obtain ⟨hgt, hbq⟩ := OK5.out rfl
                  have hsame := batch_codecT.same (ok := Bt.ok) hgt
                  have hEZ := (put_ok hsame.1).2.2
                  have hlen : (bE y.bt).length ≤ 3000 := by rw [← hEZ, hsl]; exact HS3.out
                  have hfew : BtF y := btF_of hsame.2 (n := 3000) (by omega) hlen
                  have ba := (Below.refl w5.heap.size w5).alloc (Nat.le_refl _) (bO y)
                  have hbq5 := hbq.on ba
                  have B6 := Lib.hid (next B5.out ba)
                  obtain ⟨U, hU⟩ : ∃ U, U = w5.alloc (bO y) := ⟨_, rfl⟩
                  rw [← hU] at hbq5 B6
                  have N8 := pack_batch y U.heap.size U hbq5.lies (Nat.le_refl _) hfew
                  have hput' : putBatch y.bt = .ok s.data.toList := hsame.1
                  rw [hput'] at N8
                  have HN8 := Lib.hid N8
                  clear hgt hbq hsame hEZ hlen hfew ba hbq5 N8 hput' OK5
                  go_wp2_with fail
                  try unfold bO at hU
                  rw [← hU]
                  clear hU
                  refine HN8.out.mono ?_
                  rintro e w6 ⟨A6, n6, c6, rfl, _, _, _, _, ho6, b6⟩
                  have hcv1 := cv_string (Rd.of_own1 ho6) c6
                  rw [mk_eq _ s rfl] at hcv1
                  have f1 : (s.toList != s.toList) = false := by simp
                  have f2 : (s.toList == s.toList) = true := by simp
                  have B7 := Lib.hid (next B6.out b6)
                  clear ho6 b6
                  go_wp2_with fail
                  go_meet
                  exact ⟨_, rfl, B7.out⟩
                · have e0 : (e5 == 0) = false := by simp; exact he5
                  have B6 := Lib.hid (next B5.out ((Below.refl w5.heap.size w5).alloc (Nat.le_refl _) (bO y)))
                  clear he5 OK5
                  go_wp2_with fail
                  go_meet
                  exact ⟨_, rfl, B6.out⟩
              case rest =>
                obtain ⟨wD, hwD, hcD⟩ := hcut
                rw [hwD]
                have BD0 := Lib.hid hcD
                clear hwD hcD B5 OK5 B4
                go_wp2_with fail
                refine (awake9_any _).mono ?_
                rintro e wz ⟨rfl, bz⟩
                have BZ9 := Lib.hid (next (next HB2.out BD0.out) bz)
                clear bz
                go_wp2
                go_ret
                exact ⟨rfl, BZ9.out⟩
      · have d1 : decide ((3000 : Int) < (s.size : Int)) = true := decide_eq_true (by omega)
        have d2 : decide (3000 < s.size) = true := decide_eq_true (by omega)
        clear hs3
        go_wp2_with fail
        refine (awake9_any _).mono ?_
        rintro e wz ⟨rfl, bz⟩
        have BZ9 := Lib.hid (next (next HB2.out B2.out) bz)
        clear bz
        go_wp2
        go_ret
        exact ⟨rfl, BZ9.out⟩
theorem back_lawZ (YI : InnerOk) (k : ByteArray) (g : Int) (A : Option Addr) (n c : Nat) (L : List RA) (z : BA) (s : ByteArray) (v : Int) (w : World) (hr : Lies w w.heap.size A n c L) (_ : c ≤ maxLen) (_ : A = none → c = 0) (_ : k.size ≤ maxLen) (_ : (Lit.int .i64 g).wf = true) (hz : LiesB w w.heap.size z) (_ : z.cM ≤ maxLen) (_ : ∀ y ∈ z.M, y.tb.size ≤ maxLen) (_ : ∀ y ∈ z.N, y.2.size ≤ maxLen) (hss : s.size ≤ maxLen) (hv : (Lit.int .i64 v).wf = true) :
    Calls Try.prog 3 #[.agg #[.string k, .int .i64 g, .slice A n c], bV z, .string s, .int .i64 v] w fun e w' => e = .returned (.bool true) ∧ Below w.heap.size w w' :=
  back_law YI k g A n c L z s v w hr hz hss hv
end Go.Proofs.Ythfanonjokpflaa
set_option linter.unusedVariables false
set_option linter.unusedSimpArgs false
namespace Go.Proofs.Ythfanonjokpflaa
open Go Go.RowKit

theorem Went.nest {α : Type} {p : Pz α} {l k : Bs} {i j j2 : Nat} {e f f2 : Int} {x : α} (H1 : Went bodyP l i e k j f) (H2 : Went p k 0 f x j2 f2) : Went (nestP p) l i e x j (if f2 = 0 ∧ j2 < k.length then 6 else f2) := by
  unfold nestP
  refine H1.bind ⟨fun _ => Nat.le_refl _, H1.len, fun hf => ?_, fun hf h => ?_, fun hf h => ?_⟩
  · have h2 := H2.stays hf
    rw [if_neg (fun h => hf (by rw [← h2]; exact h.1)), h2]
  · by_cases hc : f2 = 0 ∧ j2 < k.length
    · rw [if_pos hc] at h; cases h
    · rw [if_neg hc] at h
      have h3 := H2.ok hf h
      rw [List.drop_zero] at h3
      have h4 : k.drop j2 = [] := List.drop_eq_nil_of_le (by have h5 : ¬ j2 < k.length := fun h6 => hc ⟨h, h6⟩; omega)
      rw [h4] at h3
      simp only [h3]
      rfl
  · by_cases h0 : f2 = 0
    · have h5 : j2 < k.length := by
        refine Decidable.byContradiction fun h6 => h ?_
        rw [if_neg (fun h7 => h6 h7.2)]
        exact h0
      rw [if_pos ⟨h0, h5⟩]
      have h3 := H2.ok hf h0
      rw [List.drop_zero] at h3
      have h4 : k.drop j2 ≠ [] := fun h6 => by have := congrArg List.length h6; rw [List.length_drop, List.length_nil] at this; omega
      simp only [h3, if_neg h4]
    · rw [if_neg (fun h7 => h0 h7.1)]
      have h3 := H2.no hf h0
      rw [List.drop_zero] at h3
      simp only [h3]
end Go.Proofs.Ythfanonjokpflaa
set_option linter.unusedVariables false
set_option linter.unusedSimpArgs false
namespace Go.Proofs.Ythfanonjokpflaa
open Go Go.RowKit

set_option maxRecDepth 8000 in
set_option maxHeartbeats 2000000 in
theorem yinner : InnerOk := by
  intro q i n c e A l w h hi hs
  have hqw := h.lt
  have bz := (Below.refl w.heap.size w).alloc (Nat.le_refl _) (.cells #[.string ⟨#[]⟩, .int .i64 0, .slice none 0 0] 24)
  have hz := heap_alloc_new w (.cells #[.string ⟨#[]⟩, .int .i64 0, .slice none 0 0] 24)
  have h0 := h.below bz
  obtain ⟨V, hV⟩ : ∃ V, V = w.alloc (.cells #[.string ⟨#[]⟩, .int .i64 0, .slice none 0 0] 24) := ⟨_, rfl⟩
  rw [← hV] at bz hz h0
  have H0 := Lib.hid h0; have HZ0 := Lib.hid hz; have BZ := Lib.hid bz; have HQ := Lib.hid hqw; have HS := Lib.hid hs
  clear h bz hz h0 hqw hs
  go_enter Try.func81, Try.ntmps81
  go_wp2_with fail
  rw [← hV]
  clear hV
  refine (ybytes q i n c e A l _ H0.out hi (by have := HS.out; omega)).mono ?_
  rintro x w1 ⟨B, m, k, j, f, rfl, hm, hrd, hA, hf0, hj, h1, k1, hw1⟩
  have hlen : k.length = m := hrd.1
  have hmax : m ≤ maxLen := by have := HS.out; unfold maxLen; omega
  have hz1 := Kept.atQ k1 HZ0.out (by have := HQ.out; omega)
  have K1 := Lib.hid (KeptQ.on (Kept.of_below BZ.out _) k1)
  have hq1 := h1.lt
  have hs1 : w.heap.size < w1.heap.size := (Array.getElem?_eq_some_iff.1 hz1).1
  have ba := (Below.refl w1.heap.size w1).alloc (Nat.le_refl _) (.cells #[.slice B m m, .int .i64 0, .int .i64 f] 97)
  have hin := heap_alloc_new w1 (.cells #[.slice B m m, .int .i64 0, .int .i64 f] 97)
  obtain ⟨U, hU⟩ : ∃ U, U = w1.alloc (.cells #[.slice B m m, .int .i64 0, .int .i64 f] 97) := ⟨_, rfl⟩
  rw [← hU] at ba hin
  have hry : RY U w1.heap.size B m m k 0 f := ⟨hin, (hrd.below (ba.mono (Nat.le_of_lt hq1))).up (Nat.le_of_lt hq1), Nat.le_refl _, hmax, hA⟩
  have HIN := Lib.hid hry
  have H1 := Lib.hid (h1.below ba)
  have HZ1 := Lib.hid ((ba.block _ hs1).trans hz1)
  have KU := Lib.hid (K1.out.new ba)
  have HW1 := Lib.hid hw1; have HJ := Lib.hid hj; have HM := Lib.hid (show m ≤ 900000 by have := HS.out; omega); have HK := Lib.hid hlen
  have HS1 := Lib.hid hs1; have HQ1 := Lib.hid hq1; have HSU := Lib.hid (show w1.heap.size < U.heap.size from hry.lt)
  obtain ⟨_, _, _⟩ := h1.cells
  clear hrd hA hf0 hm hj h1 k1 hw1 hlen hmax hz1 hs1 hq1 ba hin hry hi
  go_wp2_with fail
  rw [← hU]
  clear hU
  refine (ypart w1.heap.size 0 m m f B k U HIN.out (Nat.zero_le _) HM.out).mono ?_
  rintro x w2 ⟨⟨zk, zg, zL, zA, zc⟩, j2, f2, rfl, hrows, hj2, h2, k2, hw2⟩
  dsimp only at hrows hw2
  have bp := (Below.refl w2.heap.size w2).alloc (Nat.le_refl _) (.cells #[.string zk, .int .i64 zg, .slice zA zL.length zc] 24)
  have hp2 := heap_alloc_new w2 (.cells #[.string zk, .int .i64 zg, .slice zA zL.length zc] 24)
  obtain ⟨P, hP⟩ : ∃ P, P = w2.alloc (.cells #[.string zk, .int .i64 zg, .slice zA zL.length zc] 24) := ⟨_, rfl⟩
  rw [← hP] at bp hp2
  have hr2 := (hrows.lower (w0 := w) KU.out.size).on bp
  have hq2 := (RY.other H1.out k2 HQ1.out).below bp
  have hz2 := (bp.block _ (Nat.lt_of_lt_of_le (Nat.lt_trans HS1.out HSU.out) k2.size)).trans (Kept.atQ k2 HZ1.out (by have := HS1.out; omega))
  have kp := (KU.out.own k2 (Nat.le_of_lt HS1.out)).new bp
  have hl2 : w1.heap.size < w2.heap.size := Nat.lt_of_lt_of_le HSU.out k2.size
  have H2 := Lib.hid (h2.below bp); have HR2 := Lib.hid hr2; have HQ2 := Lib.hid hq2; have HZ2 := Lib.hid hz2; have KP := Lib.hid kp; have HP2 := Lib.hid hp2
  have HW2 := Lib.hid hw2; have HJ2 := Lib.hid hj2; have HL2 := Lib.hid hl2
  clear hrows hj2 h2 k2 hw2 bp hp2 hr2 hq2 hz2 kp hl2
  go_wp2_with fail
  rw [← hP]
  clear hP
  refine (yend w1.heap.size j2 m m f2 B k P H2.out HJ2.out).mono ?_
  rintro x w3 ⟨rfl, h3, k3⟩
  obtain ⟨F, hF⟩ : ∃ F, (if f2 = 0 ∧ j2 < m then (6 : Int) else f2) = F := ⟨_, rfl⟩
  rw [hF] at h3
  have HW : Hid (Went (nestP partP) l i e ⟨zk, zg, ros zL⟩ j F) := by
    have h4 := HW1.out.nest HW2.out
    rw [HK.out, hF] at h4
    exact Lib.hid h4
  have hq3 := RY.other HQ2.out k3 HQ1.out
  have hz3 := Kept.atQ k3 HZ2.out (by have := HS1.out; omega)
  have hp3 := Kept.atQ k3 HP2.out (by have := HL2.out; omega)
  have hr3 := HR2.out.kept1 k3 H2.out.blk (by decide) (by decide)
  have kq3 := KP.out.own k3 (Nat.le_of_lt HS1.out)
  have c3 := h3.cells.2.2
  have y3 := hq3.thaw 2
  have hq4 := hq3.put2 F
  have k4 : Kept (fun k => k = q) w3 (w3.setCell ⟨q, 2, none⟩ (.int .i64 F)) := Kept.setCell (fun k => k = q) w3 ⟨q, 2, none⟩ (.int .i64 F) rfl
  have hz4 := Kept.atQ k4 hz3 (by have := HQ.out; omega)
  have hp4 := Kept.atQ k4 hp3 (by have := HL2.out; have := HQ1.out; omega)
  have hr4 := hr3.kept1 k4 hq3.blk (by decide) (by decide)
  have kq4 := kq3.on k4
  obtain ⟨_, _, c2⟩ := hq3.cells
  have HQ4 := Lib.hid hq4; have HZ4 := Lib.hid hz4; have HP4 := Lib.hid hp4; have HR4 := Lib.hid hr4; have KQ4 := Lib.hid kq4
  clear h3 k3 hF hq3 hz3 hp3 hr3 kq3 hq4 k4 hz4 hp4 hr4 kq4
  have k0 := cell_at (i := 0) HP4.out rfl
  have k1 := cell_at (i := 1) HP4.out rfl
  have k2 := cell_at (i := 2) HP4.out rfl
  have z0 := cell_at (i := 0) HZ4.out rfl
  have z1 := cell_at (i := 1) HZ4.out rfl
  have z2 := cell_at (i := 2) HZ4.out rfl
  have y0 := thawed_at (i := 0) HZ4.out
  have y1 := thawed_at (i := 1) HZ4.out
  have y2 := thawed_at (i := 2) HZ4.out
  obtain ⟨W4, hW4⟩ : ∃ W, W = w3.setCell ⟨q, 2, none⟩ (.int .i64 F) := ⟨_, rfl⟩
  have m9 := set3Q_block HZ4.out (.string zk) (.int .i64 zg) (.slice zA zL.length zc)
  have n9 := kept_set3Q (w := w3.setCell ⟨q, 2, none⟩ (.int .i64 F)) w.heap.size (.string zk) (.int .i64 zg) (.slice zA zL.length zc)
  have R9 := Lib.hid (RY.other HQ4.out n9 HQ.out)
  have K9 := Lib.hid (KQ4.out.own n9 (Nat.le_refl _))
  have RW9 := Lib.hid (HR4.out.kept1 n9 HZ4.out (by decide) (by decide))
  clear n9 hW4
  go_wp2
  generalize World.setCell (World.setCell (World.setCell (w3.setCell ⟨q, 2, none⟩ (.int .i64 F)) ⟨w.heap.size, 0, none⟩ (.string zk)) ⟨w.heap.size, 1, none⟩ (.int .i64 zg)) ⟨w.heap.size, 2, none⟩ (.slice zA zL.length zc) = w9 at m9 K9 R9 RW9 ⊢
  clear z0 z1 z2 y0 y1 y2 k0 k1 k2
  have q0 := cell_at (i := 0) m9 rfl
  have q1 := cell_at (i := 1) m9 rfl
  have q2 := cell_at (i := 2) m9 rfl
  refine bodyPost_ret (v := .agg #[.string zk, .int .i64 zg, .slice zA zL.length zc]) ?_ rfl ?_
  · simp [results, Try.results81, go_sem, q0, q1, q2]
  · exact ⟨⟨zk, zg, zL, zA, zc⟩, j, F, rfl, RW9.out, HJ.out, R9.out, K9.out, HW.out⟩
end Go.Proofs.Ythfanonjokpflaa
set_option linter.unusedVariables false
namespace Go.Proofs.Ythfanonjokpflaa
open Go Go.ChangeShapes Go.WideShapes Go.ChangeAt Go.RowKit

theorem trod_lt1 {H : Type} {enc : TypeId × Value → H} {P : Program} {w : World} {base : Nat} {sp : Nat → Bool} {held : Bool} {t : TypeId} {v : Value} {d : DataW H} {ps : List MemPlace} (h : DataW.Trod enc P w base sp held t v d ps) : ∀ p ∈ ps, p.block < w.heap.size := by
  obtain ⟨f, hf⟩ := h
  exact DataW.trod_lt f t _ _ hf
end Go.Proofs.Ythfanonjokpflaa
set_option linter.unusedVariables false
set_option linter.unusedSimpArgs false
namespace Go.Proofs.Ythfanonjokpflaa
open Go Go.ChangeShapes Go.WideShapes Go.ChangeAt Go.RowKit Go.Joins

theorem cellsRow : Try.prog.cellsOf 61 = 8 := by kernel_rfl
theorem cellsCol : Try.prog.cellsOf 90 = 5 := by kernel_rfl
theorem cellsCe : Try.prog.cellsOf 58 = 4 := by kernel_rfl
theorem cellsInt : Try.prog.cellsOf 3 = 1 := by kernel_rfl
theorem cellsBool : Try.prog.cellsOf 4 = 1 := by kernel_rfl
theorem cellsStr : Try.prog.cellsOf 9 = 1 := by kernel_rfl
theorem cellsSl : Try.prog.cellsOf 59 = 1 := by kernel_rfl
section
variable {H : Type} {enc : TypeId × Value → H} {W : World}
/-- A cell's four values. -/
theorem trod_ce {fuel : Nat} {x0 x1 x2 x3 : Value} {x : DataW H × List MemPlace} (h : DataW.trod enc Try.prog W 0 (fun _ => true) true fuel 58 [x0, x1, x2, x3] = some x) :
    ∃ c : Ce, x0 = .string c.s ∧ x1 = .bool c.d ∧ x2 = .int .i64 c.a ∧ x3 = .int .i64 c.e ∧ c.s.size ≤ maxLen ∧ (Lit.int .i64 c.a).wf = true ∧ (Lit.int .i64 c.e).wf = true := by
  obtain ⟨y0, y1, y2, y3, n, _, _, t0, t1, t2, t3⟩ := trod_struct4 Try.underlying58 h
  simp only [cellsInt, cellsBool, cellsStr] at t0 t1 t2 t3
  obtain ⟨s, e0, _, w0⟩ := DataW.trod_string Try.underlying9 t0
  obtain ⟨b, e1, _⟩ := DataW.trod_bool Try.underlying4 t1
  obtain ⟨a, e2, _, w2⟩ := DataW.trod_int Try.underlying3 t2
  obtain ⟨e, e3, _, w3⟩ := DataW.trod_int Try.underlying3 t3
  simp at e0 e1 e2 e3
  exact ⟨⟨s, b, a, e⟩, e0, e1, e2, e3, w0, w2, w3⟩
def ColOk (x : ByteArray × Ce) : Prop := x.1.size ≤ maxLen ∧ x.2.s.size ≤ maxLen ∧ (Lit.int .i64 x.2.a).wf = true ∧ (Lit.int .i64 x.2.e).wf = true
theorem trod_cols {fuel : Nat} {v : Value} {x : DataW H × List MemPlace} (h : DataW.trod enc Try.prog W 0 (fun _ => true) true fuel 59 [v] = some x) :
    ∃ A n c l, v = .slice A n c ∧ RdK W W.heap.size A n l ∧ n ≤ c ∧ c ≤ maxLen ∧ (A = none → c = 0) ∧ ∀ x ∈ l, ColOk x := by
  rcases Go.Deep.open_slice Try.underlying59 h with ⟨hcs, hx⟩ | ⟨a, len, cap, m, n, D, Pl, hcs, _, hl, hm, hmm, hx, hel⟩
  · simp at hcs
    subst hcs
    exact ⟨none, 0, 0, [], rfl, RdK.nil _ _ _, Nat.le_refl _, Nat.zero_le _, fun _ => rfl, fun x hx => by cases hx⟩
  · simp at hcs
    subst hcs
    simp only [if_true] at hmm
    have hmc : m = cap := hmm
    have hone : ∀ i, i < len → ∃ x : ByteArray × Ce, (∀ j u, (kcs x)[j]? = some u → W.cell? (a.add (i * 5 + j)) = some u) ∧ ColOk x := by
      intro i hi
      obtain ⟨cs', hc, ht⟩ := hel i (by omega)
      rw [cellsCol] at hc
      obtain ⟨_, hcl, hat⟩ := World.cells?_some hc
      match cs', hcl with
      | [x0, x1, x2, x3, x4], _ =>
        obtain ⟨y0, y1, n', _, _, t0, t1⟩ := trod_struct2 Try.underlying90 ht
        simp only [cellsCe, cellsStr] at t0 t1
        obtain ⟨s, e0, _, w0⟩ := DataW.trod_string Try.underlying9 t0
        simp at e0
        obtain ⟨c, e1, e2, e3, e4, w1, w2, w3⟩ := trod_ce (enc := enc) (W := W) t1
        refine ⟨(s, c), fun j u hu => ?_, w0, w1, w2, w3⟩
        have hj : j < 5 := by
          rcases Nat.lt_or_ge j 5 with h1 | h1
          · exact h1
          · rw [List.getElem?_eq_none (by simpa [kcs] using h1)] at hu; cases hu
        have := hat j hj
        rw [← Go.Deep.add_add, this, ← hu]
        unfold kcs
        rw [e0, e1, e2, e3, e4]
    let f : Nat → ByteArray × Ce := fun i => if h : i < len then (hone i h).choose else (⟨#[]⟩, noC)
    have hf' : ∀ i, i < len → (∀ j u, (kcs (f i))[j]? = some u → W.cell? (a.add (i * 5 + j)) = some u) ∧ ColOk (f i) := by
      intro i hi
      have := (hone i hi).choose_spec
      simp only [f, dif_pos hi]
      exact this
    refine ⟨some a, len, cap, (List.range len).map f, rfl, ⟨by simp, fun hn => ?_⟩, hl, hm, (fun h => by cases h), fun x hx => ?_⟩
    · have h0 := (hf' 0 hn).1 0 _ rfl
      have hs : a.spot = none := by simpa [Addr.add] using World.cell?_spot h0
      obtain ⟨g, o, sp⟩ := a
      simp only at hs
      subst hs
      refine ⟨g, o, rfl, World.block_lt_of_cell? W ⟨g, o, none⟩ (by simpa [Addr.add] using h0), fun j hj => ?_⟩
      have hj2 : j < len := by simpa using hj
      have q := (hf' j hj2).1
      have q0 := q 0 _ rfl
      have q1 := q 1 _ rfl
      have q2 := q 2 _ rfl
      have q3 := q 3 _ rfl
      have q4 := q 4 _ rfl
      simp only [Addr.add_lit, Nat.add_zero] at q0 q1 q2 q3 q4
      simp only [List.getElem_map, List.getElem_range]
      exact ⟨q0, by rw [Nat.add_assoc]; exact q1, by rw [Nat.add_assoc]; exact q2, by rw [Nat.add_assoc]; exact q3, by rw [Nat.add_assoc]; exact q4⟩
    · obtain ⟨i, hi, rfl⟩ := List.mem_map.1 hx
      exact (hf' i (List.mem_range.1 hi)).2
end
end Go.Proofs.Ythfanonjokpflaa
set_option linter.unusedVariables false
set_option linter.unusedSimpArgs false
namespace Go.Proofs.Ythfanonjokpflaa
open Go Go.ChangeShapes Go.WideShapes Go.ChangeAt Go.RowKit Go.Joins

theorem cellsPart : Try.prog.cellsOf 24 = 3 := by kernel_rfl
theorem cellsSlR : Try.prog.cellsOf 22 = 1 := by kernel_rfl
section
variable {H : Type} {enc : TypeId × Value → H} {W : World}
/-- A row's eight values. -/
theorem trod_row {fuel : Nat} {x0 x1 x2 x3 x4 x5 x6 x7 : Value} {x : DataW H × List MemPlace} (h : DataW.trod enc Try.prog W 0 (fun _ => true) true fuel 61 [x0, x1, x2, x3, x4, x5, x6, x7] = some x) :
    ∃ z : RA, racs z = [x0, x1, x2, x3, x4, x5, x6, x7] ∧ RaIn W W.heap.size z := by
  obtain ⟨ys, n', _, _, _, hyl, hfs⟩ := DataW.trod_struct Try.underlying61 h
  match ys, hyl with
  | [y0, y1, y2, y3, y4], _ =>
    have t0 := hfs 0 _ rfl
    have t1 := hfs 1 _ rfl
    have t2 := hfs 2 _ rfl
    have t3 := hfs 3 _ rfl
    have t4 := hfs 4 _ rfl
    obtain ⟨k, e0, _, w0⟩ := DataW.trod_string Try.underlying9 (x := y0) (by simpa [cellsStr] using t0)
    obtain ⟨c, e1, e2, e3, e4, w1, w2, w3⟩ := trod_ce (enc := enc) (W := W) (x := y1) (by simpa [cellsCe] using t1)
    obtain ⟨g, e5, _, w5⟩ := DataW.trod_int Try.underlying3 (x := y2) (by simpa [cellsInt] using t2)
    obtain ⟨hs, e6, _, w6⟩ := DataW.trod_int Try.underlying3 (x := y3) (by simpa [cellsInt] using t3)
    obtain ⟨A, n, cap, l, e7, hr, hn, hc, hA, hok⟩ := trod_cols (enc := enc) (W := W) (x := y4) (by simpa [cellsSl] using t4)
    simp at e0 e5 e6
    have el : l.length = n := hr.1
    subst el
    refine ⟨⟨⟨k, c, g, hs, l⟩, A, cap⟩, ?_, hr, hn⟩
    unfold racs
    rw [e0, e1, e2, e3, e4, e5, e6, e7]
/-- Rows in a slice. -/
theorem trod_rows {fuel : Nat} {v : Value} {x : DataW H × List MemPlace} (h : DataW.trod enc Try.prog W 0 (fun _ => true) true fuel 22 [v] = some x) :
    ∃ A n c L, v = .slice A n c ∧ Lies W W.heap.size A n c L ∧ c ≤ maxLen ∧ (A = none → c = 0) := by
  rcases Go.Deep.open_slice Try.underlying22 h with ⟨hcs, hx⟩ | ⟨a, len, cap, m, n, D, Pl, hcs, _, hl, hm, hmm, hx, hel⟩
  · simp at hcs
    subst hcs
    exact ⟨none, 0, 0, [], rfl, ⟨RdR.nil _ _ _, fun x hx => (by cases hx), Nat.le_refl _⟩, Nat.zero_le _, fun _ => rfl⟩
  · simp at hcs
    subst hcs
    simp only [if_true] at hmm
    have hmc : m = cap := hmm
    have hone : ∀ i, i < len → ∃ z : RA, (∀ j u, (racs z)[j]? = some u → W.cell? (a.add (i * 8 + j)) = some u) ∧ RaIn W W.heap.size z := by
      intro i hi
      obtain ⟨cs', hc, ht⟩ := hel i (by omega)
      rw [cellsRow] at hc
      obtain ⟨_, hcl, hat⟩ := World.cells?_some hc
      match cs', hcl with
      | [x0, x1, x2, x3, x4, x5, x6, x7], _ =>
        obtain ⟨z, hz, hin⟩ := trod_row (enc := enc) (W := W) ht
        refine ⟨z, fun j u hu => ?_, hin⟩
        have hj : j < 8 := by
          rcases Nat.lt_or_ge j 8 with h1 | h1
          · exact h1
          · rw [List.getElem?_eq_none (by simpa [racs] using h1)] at hu; cases hu
        have := hat j hj
        rw [← Go.Deep.add_add, this, ← hu, hz]
    let f : Nat → RA := fun i => if h : i < len then (hone i h).choose else zeroR
    have hf' : ∀ i, i < len → (∀ j u, (racs (f i))[j]? = some u → W.cell? (a.add (i * 8 + j)) = some u) ∧ RaIn W W.heap.size (f i) := by
      intro i hi
      have := (hone i hi).choose_spec
      simp only [f, dif_pos hi]
      exact this
    refine ⟨some a, len, cap, (List.range len).map f, rfl, ⟨⟨by simp, fun hn => ?_⟩, fun x hx => ?_, hl⟩, hm, fun h => by cases h⟩
    · have h0 := (hf' 0 hn).1 0 _ rfl
      have hs : a.spot = none := by simpa [Addr.add] using World.cell?_spot h0
      obtain ⟨g, o, sp⟩ := a
      simp only at hs
      subst hs
      refine ⟨g, o, rfl, World.block_lt_of_cell? W ⟨g, o, none⟩ (by simpa [Addr.add] using h0), fun j hj i u hu => ?_⟩
      have hj2 : j < len := by simpa using hj
      simp only [List.getElem_map, List.getElem_range] at hu
      have q := (hf' j hj2).1 i u hu
      simp only [Addr.add_lit] at q
      rw [Nat.add_assoc]
      exact q
    · obtain ⟨i, hi, rfl⟩ := List.mem_map.1 hx
      exact (hf' i (List.mem_range.1 hi)).2
set_option maxRecDepth 8000 in
theorem open_part {base : Nat} {v : Value} {d : DataW H} {p : List MemPlace} (hval : Value.okWide Try.prog W .any base 24 v) (h : DataW.Trod enc Try.prog W 0 (fun _ => true) true 24 v d p) :
    ∃ (k : ByteArray) (g : Int) (A : Option Addr) (n c : Nat) (L : List RA), v = .agg #[.string k, .int .i64 g, .slice A n c] ∧ Lies W W.heap.size A n c L ∧ c ≤ maxLen ∧ (A = none → c = 0) ∧ k.size ≤ maxLen ∧ (Lit.int .i64 g).wf = true := by
  obtain ⟨cs, rfl, hsz⟩ := okWide_struct Try.underlying24 hval
  rw [cellsPart] at hsz
  obtain ⟨l⟩ := cs
  match l, hsz with
  | [x0, x1, x2], _ =>
    obtain ⟨fuel, hf⟩ := h
    obtain ⟨ys, n', _, _, _, hyl, hfs⟩ := DataW.trod_struct Try.underlying24 hf
    match ys, hyl with
    | [y0, y1, y2], _ =>
      have t0 := hfs 0 _ rfl
      have t1 := hfs 1 _ rfl
      have t2 := hfs 2 _ rfl
      obtain ⟨k, e0, _, w0⟩ := DataW.trod_string Try.underlying9 (x := y0) (by simpa [cellsStr, Value.cells] using t0)
      obtain ⟨g, e1, _, w1⟩ := DataW.trod_int Try.underlying3 (x := y1) (by simpa [cellsInt, Value.cells] using t1)
      obtain ⟨A, n, c, L, e2, hl, hc, hA⟩ := trod_rows (enc := enc) (W := W) (x := y2) (by simpa [cellsSlR, Value.cells] using t2)
      simp at e0 e1
      subst e0; subst e1; subst e2
      exact ⟨k, g, A, n, c, L, rfl, hl, hc, hA, w0, w1⟩
end
end Go.Proofs.Ythfanonjokpflaa
set_option linter.unusedVariables false
set_option linter.unusedSimpArgs false
namespace Go.Proofs.Ythfanonjokpflaa
open Go Go.ChangeShapes Go.WideShapes Go.ChangeAt Go.RowKit Go.Joins

theorem cellsMut : Try.prog.cellsOf 49 = 4 := by kernel_rfl
theorem cellsNote : Try.prog.cellsOf 51 = 2 := by kernel_rfl
theorem cellsBatch : Try.prog.cellsOf 29 = 3 := by kernel_rfl
theorem cellsSlM : Try.prog.cellsOf 25 = 1 := by kernel_rfl
theorem cellsSlN : Try.prog.cellsOf 26 = 1 := by kernel_rfl
theorem cellsSlI : Try.prog.cellsOf 27 = 1 := by kernel_rfl
theorem cellsIntB : Try.prog.cellsOf 3 = 1 := by kernel_rfl
section
variable {H : Type} {enc : TypeId × Value → H} {W : World}
theorem trod_partB {fuel : Nat} {x0 x1 x2 : Value} {x : DataW H × List MemPlace} (h : DataW.trod enc Try.prog W 0 (fun _ => true) true fuel 24 [x0, x1, x2] = some x) :
    ∃ z : PA, pcs z = [x0, x1, x2] ∧ Lies W W.heap.size z.A z.L.length z.c z.L ∧ z.k.size ≤ maxLen := by
  obtain ⟨ys, n', _, _, _, hyl, hfs⟩ := DataW.trod_struct Try.underlying24 h
  match ys, hyl with
  | [y0, y1, y2], _ =>
    have t0 := hfs 0 _ rfl
    have t1 := hfs 1 _ rfl
    have t2 := hfs 2 _ rfl
    obtain ⟨k, e0, _, w0⟩ := DataW.trod_string Try.underlying9 (x := y0) (by simpa [cellsStr] using t0)
    obtain ⟨g, e1, _, w1⟩ := DataW.trod_int Try.underlying3 (x := y1) (by simpa [cellsInt] using t1)
    obtain ⟨A, n, c, L, e2, hl, hc, hA⟩ := trod_rows (enc := enc) (W := W) (x := y2) (by simpa [cellsSlR] using t2)
    simp at e0 e1
    have el : L.length = n := hl.len
    subst el
    refine ⟨⟨k, g, L, A, c⟩, ?_, hl, w0⟩
    unfold pcs
    rw [e0, e1, e2]
theorem trod_mutB {fuel : Nat} {x0 x1 x2 x3 : Value} {x : DataW H × List MemPlace} (h : DataW.trod enc Try.prog W 0 (fun _ => true) true fuel 49 [x0, x1, x2, x3] = some x) :
    ∃ z : MA, mcs z = [x0, x1, x2, x3] ∧ Lies W W.heap.size z.p.A z.p.L.length z.p.c z.p.L ∧ z.tb.size ≤ maxLen ∧ z.p.k.size ≤ maxLen := by
  obtain ⟨ys, n', _, _, _, hyl, hfs⟩ := DataW.trod_struct Try.underlying49 h
  match ys, hyl with
  | [y0, y1], _ =>
    have t0 := hfs 0 _ rfl
    have t1 := hfs 1 _ rfl
    obtain ⟨k, e0, _, w0⟩ := DataW.trod_string Try.underlying9 (x := y0) (by simpa [cellsStr] using t0)
    obtain ⟨p, e1, hl, w1⟩ := trod_partB (enc := enc) (W := W) (x := y1) (by simpa [cellsPart] using t1)
    simp at e0
    refine ⟨⟨k, p⟩, ?_, hl, w0, w1⟩
    unfold pcs at e1
    unfold mcs
    rw [e0]
    exact congrArg (Value.string k :: ·) e1
theorem trod_noteB {fuel : Nat} {x0 x1 : Value} {x : DataW H × List MemPlace} (h : DataW.trod enc Try.prog W 0 (fun _ => true) true fuel 51 [x0, x1] = some x) :
    ∃ z : NA, ncs z = [x0, x1] ∧ z.2.size ≤ maxLen := by
  obtain ⟨ys, n', _, _, _, hyl, hfs⟩ := DataW.trod_struct Try.underlying51 h
  match ys, hyl with
  | [y0, y1], _ =>
    have t0 := hfs 0 _ rfl
    have t1 := hfs 1 _ rfl
    obtain ⟨g, e0, _, w0⟩ := DataW.trod_int Try.underlying3 (x := y0) (by simpa [cellsInt] using t0)
    obtain ⟨k, e1, _, w1⟩ := DataW.trod_string Try.underlying9 (x := y1) (by simpa [cellsStr] using t1)
    simp at e0 e1
    refine ⟨(g, k), ?_, w1⟩
    unfold ncs
    rw [e0, e1]
theorem trod_muts {fuel : Nat} {v : Value} {x : DataW H × List MemPlace} (h : DataW.trod enc Try.prog W 0 (fun _ => true) true fuel 25 [v] = some x) :
    ∃ A n c L, v = .slice A n c ∧ LiesM W W.heap.size A n c L ∧ c ≤ maxLen ∧ (A = none → c = 0) ∧ ∀ y ∈ L, y.tb.size ≤ maxLen := by
  rcases Go.Deep.open_slice Try.underlying25 h with ⟨hcs, hx⟩ | ⟨a, len, cap, m, n, D, Pl, hcs, _, hl, hm, hmm, hx, hel⟩
  · simp at hcs
    subst hcs
    exact ⟨none, 0, 0, [], rfl, ⟨⟨rfl, fun h => absurd h (by omega)⟩, fun x hx => (by cases hx), Nat.le_refl _⟩, Nat.zero_le _, fun _ => rfl, fun x hx => by cases hx⟩
  · simp at hcs
    subst hcs
    simp only [if_true] at hmm
    have hmc : m = cap := hmm
    have hone : ∀ i, i < len → ∃ z : MA, (∀ j u, (mcs z)[j]? = some u → W.cell? (a.add (i * 4 + j)) = some u) ∧ (Lies W W.heap.size z.p.A z.p.L.length z.p.c z.p.L ∧ z.tb.size ≤ maxLen) := by
      intro i hi
      obtain ⟨cs', hc, ht⟩ := hel i (by omega)
      rw [cellsMut] at hc
      obtain ⟨_, hcl, hat⟩ := World.cells?_some hc
      match cs', hcl with
      | [x0, x1, x2, x3], _ =>
        obtain ⟨z, hz, hin, hs1, hs2⟩ := trod_mutB (enc := enc) (W := W) ht
        refine ⟨z, fun j u hu => ?_, hin, hs1⟩
        have hj : j < 4 := by
          rcases Nat.lt_or_ge j 4 with h1 | h1
          · exact h1
          · rw [List.getElem?_eq_none (by simpa [mcs] using h1)] at hu; cases hu
        have := hat j hj
        rw [← Go.Deep.add_add, this, ← hu, hz]
    let f : Nat → MA := fun i => if h : i < len then (hone i h).choose else ⟨⟨#[]⟩, ⟨⟨#[]⟩, 0, [], none, 0⟩⟩
    have hf' : ∀ i, i < len → (∀ j u, (mcs (f i))[j]? = some u → W.cell? (a.add (i * 4 + j)) = some u) ∧ (Lies W W.heap.size (f i).p.A (f i).p.L.length (f i).p.c (f i).p.L ∧ (f i).tb.size ≤ maxLen) := by
      intro i hi
      have := (hone i hi).choose_spec
      simp only [f, dif_pos hi]
      exact this
    refine ⟨some a, len, cap, (List.range len).map f, rfl, ⟨⟨by simp, fun hn => ?_⟩, fun x hx => ?_, hl⟩, hm, fun h => (by cases h), fun x hx => ?_⟩
    · have h0 := (hf' 0 hn).1 0 _ rfl
      have hs : a.spot = none := by simpa [Addr.add] using World.cell?_spot h0
      obtain ⟨g, o, sp⟩ := a
      simp only at hs
      subst hs
      refine ⟨g, o, rfl, World.block_lt_of_cell? W ⟨g, o, none⟩ (by simpa [Addr.add] using h0), fun j hj i u hu => ?_⟩
      have hj2 : j < len := by simpa using hj
      simp only [List.getElem_map, List.getElem_range] at hu
      have q := (hf' j hj2).1 i u hu
      simp only [Addr.add_lit] at q
      rw [Nat.add_assoc]
      exact q
    · obtain ⟨i, hi, rfl⟩ := List.mem_map.1 hx
      exact (hf' i (List.mem_range.1 hi)).2.1
    · obtain ⟨i, hi, rfl⟩ := List.mem_map.1 hx
      exact (hf' i (List.mem_range.1 hi)).2.2
theorem trod_notes {fuel : Nat} {v : Value} {x : DataW H × List MemPlace} (h : DataW.trod enc Try.prog W 0 (fun _ => true) true fuel 26 [v] = some x) :
    ∃ A n c L, v = .slice A n c ∧ RdN W W.heap.size A n L ∧ n ≤ c ∧ c ≤ maxLen ∧ (A = none → c = 0) ∧ ∀ y ∈ L, y.2.size ≤ maxLen := by
  rcases Go.Deep.open_slice Try.underlying26 h with ⟨hcs, hx⟩ | ⟨a, len, cap, m, n, D, Pl, hcs, _, hl, hm, hmm, hx, hel⟩
  · simp at hcs
    subst hcs
    exact ⟨none, 0, 0, [], rfl, ⟨rfl, fun h => absurd h (by omega)⟩, Nat.le_refl _, Nat.zero_le _, fun _ => rfl, fun x hx => by cases hx⟩
  · simp at hcs
    subst hcs
    simp only [if_true] at hmm
    have hmc : m = cap := hmm
    have hone : ∀ i, i < len → ∃ z : NA, (∀ j u, (ncs z)[j]? = some u → W.cell? (a.add (i * 2 + j)) = some u) ∧ z.2.size ≤ maxLen := by
      intro i hi
      obtain ⟨cs', hc, ht⟩ := hel i (by omega)
      rw [cellsNote] at hc
      obtain ⟨_, hcl, hat⟩ := World.cells?_some hc
      match cs', hcl with
      | [x0, x1], _ =>
        obtain ⟨z, hz, hs1⟩ := trod_noteB (enc := enc) (W := W) ht
        refine ⟨z, fun j u hu => ?_, hs1⟩
        have hj : j < 2 := by
          rcases Nat.lt_or_ge j 2 with h1 | h1
          · exact h1
          · rw [List.getElem?_eq_none (by simpa [ncs] using h1)] at hu; cases hu
        have := hat j hj
        rw [← Go.Deep.add_add, this, ← hu, hz]
    let f : Nat → NA := fun i => if h : i < len then (hone i h).choose else (0, ⟨#[]⟩)
    have hf' : ∀ i, i < len → (∀ j u, (ncs (f i))[j]? = some u → W.cell? (a.add (i * 2 + j)) = some u) ∧ (f i).2.size ≤ maxLen := by
      intro i hi
      have := (hone i hi).choose_spec
      simp only [f, dif_pos hi]
      exact this
    refine ⟨some a, len, cap, (List.range len).map f, rfl, ⟨by simp, fun hn => ?_⟩, hl, hm, fun h => (by cases h), fun x hx => ?_⟩
    · have h0 := (hf' 0 hn).1 0 _ rfl
      have hs : a.spot = none := by simpa [Addr.add] using World.cell?_spot h0
      obtain ⟨g, o, sp⟩ := a
      simp only at hs
      subst hs
      refine ⟨g, o, rfl, World.block_lt_of_cell? W ⟨g, o, none⟩ (by simpa [Addr.add] using h0), fun j hj i u hu => ?_⟩
      have hj2 : j < len := by simpa using hj
      simp only [List.getElem_map, List.getElem_range] at hu
      have q := (hf' j hj2).1 i u hu
      simp only [Addr.add_lit] at q
      rw [Nat.add_assoc]
      exact q
    · obtain ⟨i, hi, rfl⟩ := List.mem_map.1 hx
      exact (hf' i (List.mem_range.1 hi)).2
theorem trod_intsB {fuel : Nat} {v : Value} {x : DataW H × List MemPlace} (h : DataW.trod enc Try.prog W 0 (fun _ => true) true fuel 27 [v] = some x) :
    ∃ A n c l, v = .slice A n c ∧ RdZ W W.heap.size A n l ∧ n ≤ c ∧ c ≤ maxLen := by
  rcases open_ints Try.underlying27 Try.underlying3 cellsIntB h with ⟨hcs, hx⟩ | ⟨a, len, cap, zs, hcs, _, hl, hm, hz, hx, hcell, hwz⟩
  · simp at hcs
    subst hcs
    exact ⟨none, 0, 0, [], rfl, ⟨rfl, fun h => absurd h (by omega)⟩, Nat.le_refl _, Nat.zero_le _⟩
  · simp at hcs
    subst hcs
    simp only [if_true] at hz
    refine ⟨some a, len, cap, zs.take len, rfl, ⟨by simp; omega, fun hn => ?_⟩, hl, hm⟩
    have h0 := hcell 0 (by omega)
    have hs : a.spot = none := by simpa [Addr.add] using World.cell?_spot h0
    obtain ⟨g, o, sp⟩ := a
    simp only at hs
    subst hs
    refine ⟨g, o, rfl, World.block_lt_of_cell? W ⟨g, o, none⟩ (by simpa [Addr.add] using h0), fun j hj => ?_⟩
    have hj2 : j < zs.length := by simp at hj; omega
    have e : zs.getD j 0 = zs[j] := by simp [List.getD, hj2]
    have := hcell j hj2
    rw [e] at this
    simp only [Addr.add_lit] at this
    rw [this, List.getElem_take]
set_option maxRecDepth 8000 in
theorem open_batch {base : Nat} {v : Value} {d : DataW H} {p : List MemPlace} (hval : Value.okWide Try.prog W .any base 29 v) (h : DataW.Trod enc Try.prog W 0 (fun _ => true) true 29 v d p) :
    ∃ z : BA, v = bV z ∧ LiesB W W.heap.size z ∧ z.cM ≤ maxLen ∧ (∀ y ∈ z.M, y.tb.size ≤ maxLen) ∧ (∀ y ∈ z.N, y.2.size ≤ maxLen) := by
  obtain ⟨cs, rfl, hsz⟩ := okWide_struct Try.underlying29 hval
  rw [cellsBatch] at hsz
  obtain ⟨l⟩ := cs
  match l, hsz with
  | [x0, x1, x2], _ =>
    obtain ⟨fuel, hf⟩ := h
    obtain ⟨ys, n', _, _, _, hyl, hfs⟩ := DataW.trod_struct Try.underlying29 hf
    match ys, hyl with
    | [y0, y1, y2], _ =>
      have t0 := hfs 0 _ rfl
      have t1 := hfs 1 _ rfl
      have t2 := hfs 2 _ rfl
      obtain ⟨A, n, c, L, e0, hl, hc, hA, hs⟩ := trod_muts (enc := enc) (W := W) (x := y0) (by simpa [cellsSlM, Value.cells] using t0)
      obtain ⟨A1, n1, c1, N, e1, hr, hn1, _, _, hs1⟩ := trod_notes (enc := enc) (W := W) (x := y1) (by simpa [cellsSlN, Value.cells] using t1)
      obtain ⟨A2, n2, c2, D, e2, hr2, hn2, _⟩ := trod_intsB (enc := enc) (W := W) (x := y2) (by simpa [cellsSlI, Value.cells] using t2)
      subst e0; subst e1; subst e2
      have l0 : L.length = n := hl.rd.1
      have l1 : N.length = n1 := hr.1
      have l2 : D.length = n2 := hr2.1
      subst l0; subst l1; subst l2
      exact ⟨⟨A, c, L, A1, c1, N, A2, c2, D⟩, rfl, ⟨hl, hr, hr2, hn1, hn2⟩, hc, hs, hs1⟩
end
end Go.Proofs.Ythfanonjokpflaa
set_option linter.unusedVariables false
namespace Go.Proofs.Ythfanonjokpflaa.lawPackBack
open Go Go.ChangeShapes Go.WideShapes Go.ChangeAt Go.RowKit
open Go.ChangeMaps (open_string shut_string)

theorem own : ownKnob Try.prog.godebug = none := by kernel_rfl
theorem laidOut : laidOutB Try.prog = true := by kernel_rfl

set_option maxRecDepth 100000 in
theorem lifted (os : Os) (started : os.Started) (H : Type) (enc : TypeId × Value → H) :
    ReturnsInHanded {} Try.checked os 3 .any (Rows.packBackSpec.pre6 enc Try.prog Try.f3 Rows.packBackRow.domain false) (Rows.packBackSpec.post enc Try.prog Try.f3 false true false false) := by
  refine returnsInHanded_of_change (C := Try.checked) own started (by kernel_rfl) Try.func3
    (ChangeSpec.witness6 (enc := enc) (C := Try.checked) false ⟨#[], #[.agg #[.string ⟨#[]⟩, .int .i64 0, .slice none 0 0], .agg #[.slice none 0 0, .slice none 0 0, .slice none 0 0], .string ⟨#[]⟩, .int .i64 0], []⟩ 8 (by kernel_rfl) (by kernel_rfl) (by kernel_rfl) (by kernel_rfl)) ?_
  intro W base args ds gs before hval0 hW hcnd _
  have hval : ∀ (j : Nat) t v, Try.f3.params[j]? = some t → args[j]? = some v → Value.okWide Try.prog W .any base t v := hval0
  have hW' := hW
  obtain ⟨p, q, hA0, hV, rfl, hfz, hnd⟩ := hW
  have hA : DataW.TrodAll enc Try.prog W 0 (fun _ => true) true Try.f3.params.toList args.toList ds p := hA0
  rw [Try.params3] at hA hval
  obtain ⟨v0, vs0, d0, ds0, p0, q0, hargs, rfl, rfl, h0, r0⟩ := trodAll_cons hA
  obtain ⟨v1, vs1, d1, ds1, p1, q1, rfl, rfl, rfl, h1, r1⟩ := trodAll_cons r0
  obtain ⟨v2, vs2, d2, ds2, p2, q2, rfl, rfl, rfl, h2, r2⟩ := trodAll_cons r1
  obtain ⟨v3, vs3, d3, ds3, p3, q3, rfl, rfl, rfl, h3, r3⟩ := trodAll_cons r2
  obtain ⟨rfl, rfl, rfl⟩ := trodAll_nil r3
  obtain rfl : args = #[v0, v1, v2, v3] := by cases args; simp_all
  obtain ⟨rfl, rfl⟩ := trodVars_none hV
  have t0 := h0
  obtain ⟨k0, g0, A0, n0, c0, l0, rfl, wr0, wc0, we0, wk0, wg0⟩ := open_part (hval 0 24 v0 rfl rfl) h0
  have t1 := h1
  obtain ⟨z1, rfl, wr1, wc1, ws1, wt1⟩ := open_batch (hval 1 29 v1 rfl rfl) h1
  obtain ⟨a2, rfl, rfl, rfl, w2⟩ := open_string Try.underlying9 (hval 2 9 v2 rfl rfl) h2
  obtain ⟨a3, rfl, rfl, rfl, w3⟩ := open_int Try.underlying3 (hval 3 3 v3 rfl rfl) h3
  clear hA0 hval0
  refine (back_lawZ yinner k0 g0 A0 n0 c0 l0 z1 a2 a3 W wr0 wc0 we0 wk0 wg0 wr1 wc1 ws1 wt1 w2 w3).mono fun e W' ⟨he, bel⟩ => ?_
  subst he
  exact ⟨_, rfl, _, _, _, [], _, [], hW', trodAll_mk1 (shut_bool Try.underlying4 _), (trodAll_cons_mk (Below.trod laidOut (by kernel_rfl) (of_decide_eq_true (by kernel_rfl)) t0 bel (trod_lt1 t0)) (trodAll_cons_mk (Below.trod laidOut (by kernel_rfl) (of_decide_eq_true (by kernel_rfl)) t1 bel (trod_lt1 t1)) (trodAll_cons_mk (shut_string Try.underlying9 w2) (trodAll_cons_mk (shut_int Try.underlying3 w3) trodAll_mk0)))), rfl, bel.frame _, fun h => by cases h⟩

theorem over : Rows.packBackRow.holds Try.pinned (OpenSpec.ofChange Rows.packBackSpec) :=
  OpenClaim.holds_of_wide 3 Try.f3 rfl rfl rfl rfl rfl rfl rfl ⟨rfl, rfl, rfl, rfl, rfl⟩ rfl rfl rfl rfl rfl (by kernel_rfl) Try.func3 (by kernel_rfl)
    (of_decide_eq_true (by kernel_rfl)) (by unfold Func.isWrapper; first | (rw [if_pos (by decide +kernel)]; kernel_rfl) | (rw [if_neg (by decide +kernel)]; exact ⟨rfl, rfl⟩))
    (fun os started H enc _ => lifted os started H enc)

theorem proved : Rows.PackBackSaid := over
end Go.Proofs.Ythfanonjokpflaa.lawPackBack
