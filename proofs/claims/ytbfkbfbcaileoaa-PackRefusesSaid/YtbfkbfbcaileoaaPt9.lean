/-
  pack's lists that may be; CheckBatch, Batch.
-/
import Derived.Test.YtbfkbfbcaileoaaTkl
import Derived.Test.YtbfkbfbcaileoaaPt8
set_option linter.unusedVariables false
set_option linter.unusedSimpArgs false
namespace Go.Proofs.Ytbfkbfbcaileoaa
open Go Go.RowKit

theorem all_no {α : Type} {p : α → Bool} {L : List α} {t : Nat} (h : t < L.length) : p L[t] = false → L.all p = false := fun hp => by
  rw [List.all_eq_false]
  exact ⟨L[t], List.getElem_mem h, by rw [hp]; simp⟩
theorem all_yes {α : Type} {p : α → Bool} {L : List α} {t : Nat} (h : t < L.length) (ha : (L.take t).all p = true) : p L[t] = true → (L.take (t + 1)).all p = true := fun hp => by
  rw [List.take_succ_eq_append_getElem h, List.all_append, ha, Bool.true_and]
  simp [hp]
/-- What is joined, not too much of it. -/
def MuF (x : MA) : Prop := x.tb.size ≤ 1099511627776 ∧ x.p.L.length ≤ 1000000000 ∧ FewR x.p.L
set_option maxRecDepth 8000 in
set_option maxHeartbeats 600000 in
theorem list_muts (A : Option Addr) (n c B m : Nat) (L : List MA) (w : World) (hr : LiesM w B A n c L) (hB : B ≤ w.heap.size) (hx : ∀ x ∈ L, MuF x) (hn : n ≤ 1000000) (hm : m ≤ 1000000) :
    Calls Try.prog 36 #[.slice A n c, .int .i64 (m : Nat), .func (.func 37) #[] #[]] w fun e w' => e = .returned (.bool (decide (n ≤ m) && L.all (fun x : MA => mutB (mutOf x)))) ∧ Below w.heap.size w w' := by
  have hl := hr.rd.1
  by_cases h0 : n ≤ m
  · have d1 : decide ((m : Int) < (n : Int)) = false := by simp; omega
    have d2 : decide (m < n) = false := by simp; omega
    obtain ⟨r, hr0⟩ : ∃ r, L.all (fun x : MA => mutB (mutOf x)) = r := ⟨_, rfl⟩
    rw [decide_eq_true h0, Bool.true_and, hr0]
    have HR0 := Lib.hid hr0; have HR := Lib.hid hr; have HB := Lib.hid hB; have HX := Lib.hid hx; have HL := Lib.hid hl; have HNN := Lib.hid hn
    clear hr0 hr hB hx hl hn hm h0
    go_enter Try.func36, Try.ntmps36
    go_wp2_with fail
    go_loopw [15] (fun i wr => ∃ (t : Nat), t ≤ n ∧ i = .int .i64 t ∧ (L.take t).all (fun x : MA => mutB (mutOf x)) = true ∧ Below w.heap.size w wr) (fun i _ => n - (intOf i).toNat)
    case atStart => exact ⟨0, Nat.zero_le _, rfl, rfl, Below.refl _ _⟩
    case round =>
      obtain ⟨t, ht, rfl, hall, hb⟩ := hrel
      by_cases hlt : t < n
      · have i1 : (t : Int) < n := by omega
        have i0 : (0 : Int) ≤ t := by omega
        have i8 : n ≤ 1000000 := HNN.out
        have htl : t < L.length := by rw [HL.out]; exact hlt
        have hrd := HR.out.below (hb.mono HB.out)
        obtain ⟨g0, o0, rfl, hg0⟩ := hrd.rd.ex (by omega)
        have hcol := hrd.rd.part htl
        have hs := HX.out L[t] (List.getElem_mem htl)
        have hin := hrd.parts L[t] (List.getElem_mem htl)
        have hno := all_no (p := (fun x : MA => mutB (mutOf x))) htl
        have hyes := all_yes (p := (fun x : MA => mutB (mutOf x))) htl hall
        obtain ⟨x, hcx⟩ : ∃ y, L[t] = y := ⟨_, rfl⟩
        rw [hcx] at hcol hno hyes hin
        try rw [hcx] at hs
        obtain ⟨u, hu⟩ : ∃ u, mutB (x.tb, ⟨x.p.k, x.p.g, ros x.p.L⟩) = u := ⟨_, rfl⟩
        have hno : u = false → L.all (fun x : MA => mutB (mutOf x)) = false := fun e => hno (hu.trans e)
        have hyes : u = true → (L.take (t + 1)).all (fun x : MA => mutB (mutOf x)) = true := fun e => hyes (hu.trans e)
        obtain ⟨_, _, _, _⟩ := hcol
        have ba := (Below.refl wr.heap.size wr).alloc (Nat.le_refl _) (.cells #[.string x.tb, .string x.p.k, .int .i64 x.p.g, .slice x.p.A x.p.L.length x.p.c] 49)
        have hb2 := hb.trans (ba.mono hb.size)
        have HB2 := Lib.hid hb2; have S1 := Lib.hid hs; have HU : Hid (mutB (x.tb, ⟨x.p.k, x.p.g, ros x.p.L⟩) = u) := Lib.hid hu; have HNO := Lib.hid hno; have HYES := Lib.hid hyes
        have HIN := Lib.hid (Lies.below hin (ba.mono (by have := HB.out; have := hb.size; omega)))
        clear hrd hs hb hall hb2 hno hyes hu hcx hin ba
        go_wp2_with fail
        refine (mut_any x.tb x.p.k x.p.g x.p.A x.p.L.length x.p.c B x.p.L _ HIN.out (Nat.le_trans HB.out HB2.out.size) S1.out.1 S1.out.2.1 S1.out.2.2).mono ?_
        rintro e w2 ⟨rfl, b2⟩
        rw [HU.out]
        have B2 := Lib.hid (next HB2.out b2)
        clear b2
        cases u with
        | false =>
          have hrf : r = false := HR0.out.symm.trans (HNO.out rfl)
          subst hrf
          go_wp2
          go_ret
          exact ⟨rfl, B2.out⟩
        | true =>
          go_wp2
          go_roundw
          case rel => exact ⟨t + 1, by omega, by go_num, HYES.out (by simp), B2.out⟩
          case measure => simp [intOf]; omega
      · obtain rfl : t = n := by omega
        rw [List.take_of_length_le (by rw [HL.out]; exact Nat.le_refl _)] at hall
        have hrt : r = true := HR0.out.symm.trans hall
        subst hrt
        have HBB := Lib.hid hb
        clear hall hb
        go_wp2
        go_ret
        exact ⟨rfl, HBB.out⟩
  · have d1 : decide ((m : Int) < (n : Int)) = true := by simp; omega
    have d2 : decide (m < n) = true := by simp; omega
    rw [decide_eq_false h0, Bool.false_and]
    clear hr hB hx hl hn hm h0
    go_enter Try.func36, Try.ntmps36
    go_wp2
    go_ret
    exact ⟨rfl, Below.refl _ _⟩

set_option maxRecDepth 8000 in
set_option maxHeartbeats 600000 in
theorem list_notes (A : Option Addr) (n c B m : Nat) (L : List NA) (w : World) (hr : RdN w B A n L) (hB : B ≤ w.heap.size) (hx : ∀ x ∈ L, x.2.size ≤ maxLen) (hn : n ≤ 1000000) (hm : m ≤ 1000000) :
    Calls Try.prog 38 #[.slice A n c, .int .i64 (m : Nat), .func (.func 39) #[] #[]] w fun e w' => e = .returned (.bool (decide (n ≤ m) && L.all addB)) ∧ Below w.heap.size w w' := by
  have hl := hr.1
  by_cases h0 : n ≤ m
  · have d1 : decide ((m : Int) < (n : Int)) = false := by simp; omega
    have d2 : decide (m < n) = false := by simp; omega
    obtain ⟨r, hr0⟩ : ∃ r, L.all addB = r := ⟨_, rfl⟩
    rw [decide_eq_true h0, Bool.true_and, hr0]
    have HR0 := Lib.hid hr0; have HR := Lib.hid hr; have HB := Lib.hid hB; have HX := Lib.hid hx; have HL := Lib.hid hl; have HNN := Lib.hid hn
    clear hr0 hr hB hx hl hn hm h0
    go_enter Try.func38, Try.ntmps38
    go_wp2_with fail
    go_loopw [15] (fun i wr => ∃ (t : Nat), t ≤ n ∧ i = .int .i64 t ∧ (L.take t).all addB = true ∧ Below w.heap.size w wr) (fun i _ => n - (intOf i).toNat)
    case atStart => exact ⟨0, Nat.zero_le _, rfl, rfl, Below.refl _ _⟩
    case round =>
      obtain ⟨t, ht, rfl, hall, hb⟩ := hrel
      by_cases hlt : t < n
      · have i1 : (t : Int) < n := by omega
        have i0 : (0 : Int) ≤ t := by omega
        have i8 : n ≤ 1000000 := HNN.out
        have htl : t < L.length := by rw [HL.out]; exact hlt
        have hrd := HR.out.below (hb.mono HB.out)
        obtain ⟨g0, o0, rfl, hg0⟩ := hrd.ex (by omega)
        have hcol := hrd.part htl
        have hs := HX.out L[t] (List.getElem_mem htl)
        have hno := all_no (p := addB) htl
        have hyes := all_yes (p := addB) htl hall
        obtain ⟨x, hcx⟩ : ∃ y, L[t] = y := ⟨_, rfl⟩
        rw [hcx] at hcol hno hyes
        try rw [hcx] at hs
        obtain ⟨u, hu⟩ : ∃ u, addB (x.1, x.2) = u := ⟨_, rfl⟩
        have hno : u = false → L.all addB = false := fun e => hno (hu.trans e)
        have hyes : u = true → (L.take (t + 1)).all addB = true := fun e => hyes (hu.trans e)
        obtain ⟨_, _⟩ := hcol
        have ba := (Below.refl wr.heap.size wr).alloc (Nat.le_refl _) (.cells #[.int .i64 x.1, .string x.2] 51)
        have hb2 := hb.trans (ba.mono hb.size)
        have HB2 := Lib.hid hb2; have S1 := Lib.hid hs; have HU : Hid (addB (x.1, x.2) = u) := Lib.hid hu; have HNO := Lib.hid hno; have HYES := Lib.hid hyes
        clear hrd hs hb hall hb2 hno hyes hu hcx ba
        go_wp2_with fail
        refine (note_any x.1 x.2 _ S1.out).mono ?_
        rintro e w2 ⟨rfl, b2⟩
        rw [HU.out]
        have B2 := Lib.hid (next HB2.out b2)
        clear b2
        cases u with
        | false =>
          have hrf : r = false := HR0.out.symm.trans (HNO.out rfl)
          subst hrf
          go_wp2
          go_ret
          exact ⟨rfl, B2.out⟩
        | true =>
          go_wp2
          go_roundw
          case rel => exact ⟨t + 1, by omega, by go_num, HYES.out (by simp), B2.out⟩
          case measure => simp [intOf]; omega
      · obtain rfl : t = n := by omega
        rw [List.take_of_length_le (by rw [HL.out]; exact Nat.le_refl _)] at hall
        have hrt : r = true := HR0.out.symm.trans hall
        subst hrt
        have HBB := Lib.hid hb
        clear hall hb
        go_wp2
        go_ret
        exact ⟨rfl, HBB.out⟩
  · have d1 : decide ((m : Int) < (n : Int)) = true := by simp; omega
    have d2 : decide (m < n) = true := by simp; omega
    rw [decide_eq_false h0, Bool.false_and]
    clear hr hB hx hl hn hm h0
    go_enter Try.func38, Try.ntmps38
    go_wp2
    go_ret
    exact ⟨rfl, Below.refl _ _⟩

set_option maxRecDepth 8000 in
set_option maxHeartbeats 600000 in
theorem list_ints (A : Option Addr) (n c B m : Nat) (L : List Int) (w : World) (hr : RdZ w B A n L) (hB : B ≤ w.heap.size) (hx : ∀ x ∈ L, True) (hn : n ≤ 1000000) (hm : m ≤ 1000000) :
    Calls Try.prog 40 #[.slice A n c, .int .i64 (m : Nat), .func (.func 41) #[] #[]] w fun e w' => e = .returned (.bool (decide (n ≤ m) && L.all dropB)) ∧ Below w.heap.size w w' := by
  have hl := hr.1
  by_cases h0 : n ≤ m
  · have d1 : decide ((m : Int) < (n : Int)) = false := by simp; omega
    have d2 : decide (m < n) = false := by simp; omega
    obtain ⟨r, hr0⟩ : ∃ r, L.all dropB = r := ⟨_, rfl⟩
    rw [decide_eq_true h0, Bool.true_and, hr0]
    have HR0 := Lib.hid hr0; have HR := Lib.hid hr; have HB := Lib.hid hB; have HX := Lib.hid hx; have HL := Lib.hid hl; have HNN := Lib.hid hn
    clear hr0 hr hB hx hl hn hm h0
    go_enter Try.func40, Try.ntmps40
    go_wp2_with fail
    go_loopw [15] (fun i wr => ∃ (t : Nat), t ≤ n ∧ i = .int .i64 t ∧ (L.take t).all dropB = true ∧ Below w.heap.size w wr) (fun i _ => n - (intOf i).toNat)
    case atStart => exact ⟨0, Nat.zero_le _, rfl, rfl, Below.refl _ _⟩
    case round =>
      obtain ⟨t, ht, rfl, hall, hb⟩ := hrel
      by_cases hlt : t < n
      · have i1 : (t : Int) < n := by omega
        have i0 : (0 : Int) ≤ t := by omega
        have i8 : n ≤ 1000000 := HNN.out
        have htl : t < L.length := by rw [HL.out]; exact hlt
        have hrd := HR.out.below (hb.mono HB.out)
        obtain ⟨g0, o0, rfl, hg0, hc⟩ := hrd.2 (by omega)
        have hcol := hc t htl
        have hs := HX.out L[t] (List.getElem_mem htl)
        have hno := all_no (p := dropB) htl
        have hyes := all_yes (p := dropB) htl hall
        obtain ⟨x, hcx⟩ : ∃ y, L[t] = y := ⟨_, rfl⟩
        rw [hcx] at hcol hno hyes
        try rw [hcx] at hs
        obtain ⟨u, hu⟩ : ∃ u, dropB x = u := ⟨_, rfl⟩
        have hno : u = false → L.all dropB = false := fun e => hno (hu.trans e)
        have hyes : u = true → (L.take (t + 1)).all dropB = true := fun e => hyes (hu.trans e)
        have hb2 := hb
        have HB2 := Lib.hid hb2; have S1 := Lib.hid hs; have HU : Hid (dropB x = u) := Lib.hid hu; have HNO := Lib.hid hno; have HYES := Lib.hid hyes
        clear hrd hs hb hall hb2 hno hyes hu hcx hc
        go_wp2_with fail
        refine (id_any x _).mono ?_
        rintro e w2 ⟨rfl, b2⟩
        rw [HU.out]
        have B2 := Lib.hid (next HB2.out b2)
        clear b2
        cases u with
        | false =>
          have hrf : r = false := HR0.out.symm.trans (HNO.out rfl)
          subst hrf
          go_wp2
          go_ret
          exact ⟨rfl, B2.out⟩
        | true =>
          go_wp2
          go_roundw
          case rel => exact ⟨t + 1, by omega, by go_num, HYES.out (by simp), B2.out⟩
          case measure => simp [intOf]; omega
      · obtain rfl : t = n := by omega
        rw [List.take_of_length_le (by rw [HL.out]; exact Nat.le_refl _)] at hall
        have hrt : r = true := HR0.out.symm.trans hall
        subst hrt
        have HBB := Lib.hid hb
        clear hall hb
        go_wp2
        go_ret
        exact ⟨rfl, HBB.out⟩
  · have d1 : decide ((m : Int) < (n : Int)) = true := by simp; omega
    have d2 : decide (m < n) = true := by simp; omega
    rw [decide_eq_false h0, Bool.false_and]
    clear hr hB hx hl hn hm h0
    go_enter Try.func40, Try.ntmps40
    go_wp2
    go_ret
    exact ⟨rfl, Below.refl _ _⟩

theorem bt_ok (x : BA) : x.bt.ok = (decide (x.M.length ≤ 64) && x.M.all (fun x : MA => mutB (mutOf x)) && (decide (x.N.length ≤ 300) && x.N.all addB) && (decide (x.D.length ≤ 300) && x.D.all dropB)) := by
  unfold Bt.ok BA.bt muts
  dsimp only
  rw [List.length_map, List.all_map]
  simp only [Bool.and_assoc]
  rfl
/-- A batch, not too much of it. -/
structure BtF (x : BA) : Prop where
  muts : ∀ y ∈ x.M, MuF y
  notes : ∀ y ∈ x.N, y.2.size ≤ maxLen
  lm : x.M.length ≤ 1000000
  ln : x.N.length ≤ 1000000
  ld : x.D.length ≤ 1000000
abbrev bV (x : BA) : Value := .agg #[.slice x.AM x.M.length x.cM, .slice x.AN x.N.length x.cN, .slice x.AD x.D.length x.cD]
abbrev bO (x : BA) : Obj := .cells #[.slice x.AM x.M.length x.cM, .slice x.AN x.N.length x.cN, .slice x.AD x.D.length x.cD] 29
set_option maxRecDepth 8000 in
set_option maxHeartbeats 600000 in
theorem checkBatch_any (x : BA) (B : Nat) (w : World) (hr : LiesB w B x) (hB : B ≤ w.heap.size) (hf : BtF x) :
    Calls Try.prog 18 #[bV x] w fun e w' => e = .returned (.bool x.bt.ok) ∧ Below w.heap.size w w' := by
  have bz := (Below.refl w.heap.size w).alloc (Nat.le_refl _) (bO x)
  have hz := heap_alloc_new w (bO x)
  obtain ⟨V, hV⟩ : ∃ V, V = w.alloc (bO x) := ⟨_, rfl⟩
  rw [← hV] at bz hz
  have hc0 := cell_at (i := 0) hz rfl
  have N1 := list_muts x.AM x.M.length x.cM B 64 x.M V (hr.muts.below (bz.mono hB)) (Nat.le_trans hB bz.size) hf.muts hf.lm (by omega)
  obtain ⟨u1, hu1⟩ : ∃ u, (decide (x.M.length ≤ 64) && x.M.all (fun x : MA => mutB (mutOf x))) = u := ⟨_, rfl⟩
  obtain ⟨u2, hu2⟩ : ∃ u, (decide (x.N.length ≤ 300) && x.N.all addB) = u := ⟨_, rfl⟩
  obtain ⟨u3, hu3⟩ : ∃ u, (decide (x.D.length ≤ 300) && x.D.all dropB) = u := ⟨_, rfl⟩
  have hv : x.bt.ok = (u1 && u2 && u3) := by rw [bt_ok, hu1, hu2, hu3]
  rw [hu1] at N1
  have HZ := Lib.hid hz; have BZ := Lib.hid bz; have HR := Lib.hid hr; have HF := Lib.hid hf; have HB := Lib.hid hB; have HN1 := Lib.hid N1; have HV := Lib.hid hv; have U2 := Lib.hid hu2; have U3 := Lib.hid hu3
  obtain ⟨r, hrr⟩ : ∃ r, x.bt.ok = r := ⟨_, rfl⟩
  rw [hrr] at HV ⊢
  clear hz bz hv hu1 hu2 hu3 hr hf hB N1 hrr
  go_enter Try.func18, Try.ntmps18
  go_wp2_with fail
  try unfold bO at hV
  rw [← hV]
  clear hV
  refine (HN1.out).mono ?_
  rintro e w1 ⟨rfl, b1⟩
  have hz1 := (b1.block _ (Array.getElem?_eq_some_iff.1 HZ.out).1).trans HZ.out
  have B1 := Lib.hid (next BZ.out b1)
  have hc1 := cell_at (i := 1) hz1 rfl
  have HZ1 := Lib.hid hz1
  clear hz1 b1 hc0
  cases u1 with
  | false =>
    have hrf : r = false := HV.out
    subst hrf
    go_wp2
    go_ret
    exact ⟨rfl, B1.out⟩
  | true =>
    have N2 := list_notes x.AN x.N.length x.cN B 300 x.N w1 (HR.out.notes.below (B1.out.mono HB.out)) (Nat.le_trans HB.out B1.out.size) HF.out.notes HF.out.ln (by omega)
    rw [U2.out] at N2
    have HN2 := Lib.hid N2
    clear N2
    go_wp2_with fail
    refine (HN2.out).mono ?_
    rintro e w2 ⟨rfl, b2⟩
    have hz2 := (b2.block _ (Array.getElem?_eq_some_iff.1 HZ1.out).1).trans HZ1.out
    have B2 := Lib.hid (next B1.out b2)
    have hc2 := cell_at (i := 2) hz2 rfl
    clear hz2 b2 hc1
    cases u2 with
    | false =>
      have hrf : r = false := HV.out
      subst hrf
      go_wp2
      go_ret
      exact ⟨rfl, B2.out⟩
    | true =>
      have N3 := list_ints x.AD x.D.length x.cD B 300 x.D w2 (HR.out.drops.below (B2.out.mono HB.out)) (Nat.le_trans HB.out B2.out.size) (fun _ _ => trivial) HF.out.ld (by omega)
      rw [U3.out] at N3
      have HN3 := Lib.hid N3
      clear N3
      go_wp2_with fail
      refine (HN3.out).mono ?_
      rintro e w3 ⟨rfl, b3⟩
      have B3 := Lib.hid (next B2.out b3)
      have hrf : r = u3 := by rw [HV.out]; cases u3 <;> rfl
      subst hrf
      clear b3
      go_wp2
      go_ret
      exact ⟨rfl, B3.out⟩
end Go.Proofs.Ytbfkbfbcaileoaa
