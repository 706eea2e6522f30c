/-
  The developers' row: Gone, counts, Cell, Best.
-/
import Derived.Test.YtnoblhacgmeddaaRo1
import Derived.Test.YtnoblhacgmeddaaCe5
import Derived.Test.YtnoblhacgmeddaaRo4
set_option linter.unusedVariables false
set_option linter.unusedSimpArgs false
namespace Go.Proofs.Ytnoblhacgmeddaa
open Go Go.RowKit

theorem new_at {W : World} {r : Nat} {cs : Array Value} {t : TypeId} (h : W.heap[r]? = some (.cells cs t (0, 0))) (o : Obj) : (W.alloc o).heap[r]? = some (.cells cs t (0, 0)) :=
  (((Below.refl W.heap.size W).alloc (Nat.le_refl _) o).block r (Array.getElem?_eq_some_iff.1 h).1).trans h
/-- Does a cell count, where all is gone up to m? As the developers ask it. -/
def cntD (m : Int) (c : Ce) : Bool := !c.d && decide (m < c.a)
def bestD (m : Int) (c : Ce) : Ce := if cntD m c = true then c else noC
theorem cntD_eq {m : Int} (h : 0 ≤ m) (c : Ce) : cntD m c = cnt m c := by
  unfold cntD cnt
  congr 1
  rw [Bool.eq_iff_iff, Bool.and_eq_true, decide_eq_true_iff, decide_eq_true_iff]
  omega
theorem bestD_eq {m : Int} (h : 0 ≤ m) (c : Ce) : bestD m c = bestC m c := by unfold bestD bestC; rw [cntD_eq h]

theorem gone_any (k s : ByteArray) (d : Bool) (a e g h p : Int) (A : Option Addr) (n c : Nat) (w : World) :
    Calls Try.prog 12 #[.agg #[.string k, .string s, .bool d, .int .i64 a, .int .i64 e, .int .i64 g, .int .i64 h, .slice A n c], .int .i64 p] w fun x w' => x = .returned (.int .i64 (max g p)) ∧ Below w.heap.size w w' := by
  have bz := Lib.hid ((Below.refl w.heap.size w).alloc (Nat.le_refl _) (.cells #[.string k, .string s, .bool d, .int .i64 a, .int .i64 e, .int .i64 g, .int .i64 h, .slice A n c] 26))
  go_enter Try.func12, Try.ntmps12
  go_wp2
  go_ret
  exact ⟨rfl, bz.out⟩

theorem counts_any (s : ByteArray) (d : Bool) (a e m : Int) (w : World) :
    Calls Try.prog 40 #[.agg #[.string s, .bool d, .int .i64 a, .int .i64 e], .int .i64 m] w fun x w' => x = .returned (.bool (cntD m ⟨s, d, a, e⟩)) ∧ Below w.heap.size w w' := by
  obtain ⟨r, hr⟩ : ∃ r : Bool, cntD m ⟨s, d, a, e⟩ = r := ⟨_, rfl⟩
  rw [hr]
  have HR := Lib.hid hr
  clear hr
  have bz := Lib.hid ((Below.refl w.heap.size w).alloc (Nat.le_refl _) (.cells #[.string s, .bool d, .int .i64 a, .int .i64 e] 23))
  cases d
  · by_cases h1 : m < a
    · have hv : r = true := by rw [← HR.out]; simp [cntD, h1]
      subst hv
      go_enter Try.func40, Try.ntmps40
      go_wp2
      go_ret
      exact ⟨rfl, bz.out⟩
    · have hv : r = false := by rw [← HR.out]; simp [cntD, h1]
      subst hv
      go_enter Try.func40, Try.ntmps40
      go_wp2
      go_ret
      exact ⟨rfl, bz.out⟩
  · have hv : r = false := by rw [← HR.out]; simp [cntD]
    subst hv
    go_enter Try.func40, Try.ntmps40
    go_wp2
    go_ret
    exact ⟨rfl, bz.out⟩

set_option maxHeartbeats 2000000 in
/-- The cell of a name. -/
theorem cell_any (k s : ByteArray) (d : Bool) (a e g h : Int) (A : Option Addr) (n c B : Nat) (l : Cols) (nm : ByteArray) (w : World) (hr : RdK w B A n l) (hB : B ≤ w.heap.size) (hn : n ≤ 1000000) :
    Calls Try.prog 21 #[.agg #[.string k, .string s, .bool d, .int .i64 a, .int .i64 e, .int .i64 g, .int .i64 h, .slice A n c], .string nm] w fun x w' => x = .returned (getC l nm).v ∧ Below w.heap.size w w' := by
  have hl := hr.1
  obtain ⟨⟨vs, vd, va, ve⟩, hv⟩ : ∃ v, getC l nm = v := ⟨_, rfl⟩
  rw [hv]
  have bz := ((Below.refl w.heap.size w).alloc (Nat.le_refl _) (.cells #[.string k, .string s, .bool d, .int .i64 a, .int .i64 e, .int .i64 g, .int .i64 h, .slice A n c] 26)).alloc (by simp) (.cells #[.string ⟨#[]⟩, .bool false, .int .i64 0, .int .i64 0] 23)
  have ro := (RoAt.new w k s d a e g h A n c).below ((Below.refl (w.heap.size + 1) _).alloc (by simp) (.cells #[.string ⟨#[]⟩, .bool false, .int .i64 0, .int .i64 0] 23)) (by omega)
  have hz := heap_alloc_new (w.alloc (.cells #[.string k, .string s, .bool d, .int .i64 a, .int .i64 e, .int .i64 g, .int .i64 h, .slice A n c] 26)) (.cells #[.string ⟨#[]⟩, .bool false, .int .i64 0, .int .i64 0] 23)
  have hr2 := hr.below (bz.mono hB)
  simp only [World.size_alloc] at hz
  obtain ⟨V, hV⟩ : ∃ V, V = (w.alloc (.cells #[.string k, .string s, .bool d, .int .i64 a, .int .i64 e, .int .i64 g, .int .i64 h, .slice A n c] 26)).alloc (.cells #[.string ⟨#[]⟩, .bool false, .int .i64 0, .int .i64 0] 23) := ⟨_, rfl⟩
  have hVs : V.heap.size = w.heap.size + 2 := by rw [hV]; simp
  rw [← hV] at bz ro hz hr2
  obtain ⟨_, _, _, _, _, _, _, r7⟩ := ro
  have HV := Lib.hid hv; have HL := Lib.hid hl; have BZ := Lib.hid bz; have HR := Lib.hid hr2; have HZ := Lib.hid hz; have HVS := Lib.hid hVs
  clear hv hl bz hr2 hz hr hVs
  go_enter Try.func21, Try.ntmps21
  go_wp2_with fail
  rw [← hV]
  clear hV
  go_loopw [10] (fun i wr => ∃ t : Nat, t ≤ n ∧ i = .int .i64 t ∧ getC (l.drop t) nm = ⟨vs, vd, va, ve⟩ ∧ Below V.heap.size V wr) (fun i _ => n - (intOf i).toNat)
  case atStart => exact ⟨0, Nat.zero_le _, rfl, HV.out, Below.refl _ _⟩
  case round =>
    obtain ⟨t, ht, rfl, hz, hb⟩ := hrel
    have HZ2 := Lib.hid hz
    have HBW := Lib.hid hb
    have hs0 := hb.size
    have hpz := (hb.block (w.heap.size + 1) (by have := HVS.out; omega)).trans HZ.out
    have HPZ := Lib.hid hpz
    have BL := Lib.hid (BZ.out.trans (hb.mono BZ.out.size))
    clear hz hb hpz
    by_cases hlt : t < n
    · have i1 : (t : Int) < n := by omega
      have i0 : (0 : Int) ≤ t := by omega
      have htl : t < l.length := by rw [HL.out]; exact hlt
      obtain ⟨g0, o0, rfl, _, hc⟩ := (HR.out.below (HBW.out.mono (by have := HVS.out; omega))).2 (by omega)
      obtain ⟨e0, e1, e2, e3, e4⟩ := hc t htl
      have hd : l.drop t = l[t] :: l.drop (t + 1) := List.drop_eq_getElem_cons htl
      obtain ⟨⟨m, ⟨cs, cd, ca, ce⟩⟩, hx⟩ : ∃ x, l[t] = x := ⟨_, rfl⟩
      rw [hx] at e0 e1 e2 e3 e4 hd
      simp only at e0 e1 e2 e3 e4
      have HD := Lib.hid hd
      clear hd hx hc
      by_cases hm : m = nm
      · have hb : (m.toList == nm.toList) = true := eqB_true hm
        have hv : (⟨cs, cd, ca, ce⟩ : Ce) = ⟨vs, vd, va, ve⟩ := by rw [← HZ2.out, HD.out]; exact (if_pos hm).symm
        injection hv with h1 h2 h3 h4
        subst h1; subst h2; subst h3; subst h4
        have k0 := fun o => cell_at (i := 0) (new_at HPZ.out o) rfl
        have k1 := fun o => cell_at (i := 1) (new_at HPZ.out o) rfl
        have k2 := fun o => cell_at (i := 2) (new_at HPZ.out o) rfl
        have k3 := fun o => cell_at (i := 3) (new_at HPZ.out o) rfl
        have f0 := fun o => thawed_at (i := 0) (new_at HPZ.out o)
        have f1 := fun o => thawed_at (i := 1) (new_at HPZ.out o)
        have f2 := fun o => thawed_at (i := 2) (new_at HPZ.out o)
        have f3 := fun o => thawed_at (i := 3) (new_at HPZ.out o)
        clear hm
        go_wp2
        refine bodyPost_ret (v := .agg #[.string cs, .bool cd, .int .i64 ca, .int .i64 ce]) (by simp [results, Try.results21, go_sem, k0, k1, k2, k3]) rfl ⟨rfl, ?_⟩
        exact ((((BL.out.alloc BL.out.size _).setCell (by simp) _).setCell (by simp) _).setCell (by simp) _).setCell (by simp) _
      · have hb : (m.toList == nm.toList) = false := eqB_false hm
        have hz3 : getC (l.drop (t + 1)) nm = ⟨vs, vd, va, ve⟩ := by rw [← HZ2.out, HD.out]; exact (if_neg hm).symm
        have HZ3 := Lib.hid hz3
        clear hm hz3
        go_wp2
        go_roundw
        case rel => exact ⟨t + 1, by omega, by go_num, HZ3.out, HBW.out.alloc HBW.out.size _⟩
        case measure => simp [intOf]; omega
    · obtain rfl : t = n := by omega
      have hv : noC = ⟨vs, vd, va, ve⟩ := by
        rw [← HZ2.out, List.drop_of_length_le (by rw [HL.out]; exact Nat.le_refl _)]
        rfl
      injection hv with h1 h2 h3 h4
      subst h1; subst h2; subst h3; subst h4
      have z0 := cell_at (i := 0) HPZ.out rfl
      have z1 := cell_at (i := 1) HPZ.out rfl
      have z2 := cell_at (i := 2) HPZ.out rfl
      have z3 := cell_at (i := 3) HPZ.out rfl
      have y0 := thawed_at (i := 0) HPZ.out
      have y1 := thawed_at (i := 1) HPZ.out
      have y2 := thawed_at (i := 2) HPZ.out
      have y3 := thawed_at (i := 3) HPZ.out
      go_wp2
      refine bodyPost_ret (v := .agg #[.string ⟨#[]⟩, .bool false, .int .i64 0, .int .i64 0]) (by simp [results, Try.results21, go_sem, z0, z1, z2, z3]) rfl ⟨rfl, ?_⟩
      exact (((BL.out.setCell (by simp) _).setCell (by simp) _).setCell (by simp) _).setCell (by simp) _
set_option maxHeartbeats 4000000 in
theorem best_any (k s : ByteArray) (d : Bool) (a e g h p : Int) (A : Option Addr) (n c B : Nat) (l : Cols) (nm : ByteArray) (w : World) (hr : RdK w B A n l) (hB : B ≤ w.heap.size) (hn : n ≤ 1000000) :
    Calls Try.prog 16 #[.agg #[.string k, .string s, .bool d, .int .i64 a, .int .i64 e, .int .i64 g, .int .i64 h, .slice A n c], .int .i64 p, .string nm] w fun x w' => x = .returned (.tuple #[(bestD (max g p) (getC l nm)).v, .bool (cntD (max g p) (getC l nm))]) ∧ Below w.heap.size w w' := by
  obtain ⟨⟨vs, vd, va, ve⟩, hv⟩ : ∃ v, getC l nm = v := ⟨_, rfl⟩
  obtain ⟨mx, hmx⟩ : ∃ m, max g p = m := ⟨_, rfl⟩
  rw [hv, hmx]
  obtain ⟨⟨rs, rd, ra, re⟩, hbst⟩ : ∃ c, bestD mx ⟨vs, vd, va, ve⟩ = c := ⟨_, rfl⟩
  obtain ⟨bb, hbb⟩ : ∃ b, cntD mx ⟨vs, vd, va, ve⟩ = b := ⟨_, rfl⟩
  rw [hbst, hbb]
  have BST := Lib.hid hbst
  have BB := Lib.hid hbb
  clear hbst hbb
  have CJ := Lib.hid (congrArg Ce.v hv)
  unfold Ce.v at CJ
  have MX := Lib.hid hmx
  have bz := ((Below.refl w.heap.size w).alloc (Nat.le_refl _) (.cells #[.string k, .string s, .bool d, .int .i64 a, .int .i64 e, .int .i64 g, .int .i64 h, .slice A n c] 26)).alloc (by simp) (.cells #[.string ⟨#[]⟩, .bool false, .int .i64 0, .int .i64 0] 23)
  have ro := (RoAt.new w k s d a e g h A n c).below ((Below.refl (w.heap.size + 1) _).alloc (by simp) (.cells #[.string ⟨#[]⟩, .bool false, .int .i64 0, .int .i64 0] 23)) (by omega)
  have hz := heap_alloc_new (w.alloc (.cells #[.string k, .string s, .bool d, .int .i64 a, .int .i64 e, .int .i64 g, .int .i64 h, .slice A n c] 26)) (.cells #[.string ⟨#[]⟩, .bool false, .int .i64 0, .int .i64 0] 23)
  simp only [World.size_alloc] at hz
  have hr2 := hr.below (bz.mono hB)
  have BZ := Lib.hid bz; have RO_ := Lib.hid ro; have HZ := Lib.hid hz; have HR := Lib.hid hr2
  clear hv hmx bz ro hz hr2 hr
  obtain ⟨q0, q1, q2, q3, q4, q5, q6, q7⟩ := RO_.out
  go_enter Try.func16, Try.ntmps16
  go_wp2_with fail
  refine (cell_any k s d a e g h A n c B l nm _ HR.out (by simp; omega) hn).mono ?_
  rintro x w1 ⟨rfl, b1⟩
  unfold Ce.v
  rw [CJ.out]
  clear q0 q1 q2 q3 q4 q5 q6 q7
  have b1' := next BZ.out b1
  have hs1 : w.heap.size + 2 ≤ w1.heap.size := by have := b1.size; simpa using this
  have px := CeAt.new w1 vs vd va ve
  have pr := (RO_.out.below b1 (by simp; omega)).below ((Below.refl w1.heap.size w1).alloc (Nat.le_refl _) (.cells #[.string vs, .bool vd, .int .i64 va, .int .i64 ve] 23)) (by omega)
  have pz := ((b1.block (w.heap.size + 1) (by simp)).trans HZ.out)
  have pz2 := (((Below.refl w1.heap.size w1).alloc (Nat.le_refl _) (.cells #[.string vs, .bool vd, .int .i64 va, .int .i64 ve] 23)).block (w.heap.size + 1) (by omega)).trans pz
  have bv := b1'.alloc b1'.size (.cells #[.string vs, .bool vd, .int .i64 va, .int .i64 ve] 23)
  go_wp2_with fail
  obtain ⟨V, hV⟩ : ∃ V, V = w1.alloc (.cells #[.string vs, .bool vd, .int .i64 va, .int .i64 ve] 23) := ⟨_, rfl⟩
  rw [← hV] at px pr pz2 bv ⊢
  have hVs : V.heap.size = w1.heap.size + 1 := by rw [hV]; simp
  have hall := fun w' (hb : Below V.heap.size V w') => And.intro (pr.below hb (by omega)) (px.below hb (by omega))
  have HALL := Lib.hid hall; have PZ := Lib.hid pz2; have BV := Lib.hid bv; have HVS := Lib.hid hVs; have HS1 := Lib.hid hs1
  clear hall px pr pz pz2 bv hV b1 b1' hVs hs1
  cases bb
  · have hb2 : noC = ⟨rs, rd, ra, re⟩ := by rw [← BST.out]; unfold bestD; rw [BB.out]; rfl
    injection hb2 with k1 k2 k3 k4
    subst k1; subst k2; subst k3; subst k4
    refine wp_region_held_drew (S := fun w' => Below V.heap.size V w') (by kernel_rfl) ?_ (fun hHeld => ?_)
    · exact (Below.refl _ _).drew
    refine wpAnyH_take (i := 0) (v := ?_) rfl (by kernel_rfl) (by kernel_rfl) (by kernel_rfl) (fun _ _ _ h => h) (Or.inl ⟨by rfl, ?_⟩) (by assumption) ?_
    rotate_left
    · (intro wx hSw; (try dsimp only at hSw); obtain ⟨⟨_, _, _, _, _, _, _, _⟩, _, _, _, _⟩ := HALL.out _ hSw; go_simp; try with_reducible rfl)
    try simp only [Act.put, List.getElem_toArray, List.getElem_cons_succ, List.getElem_cons_zero, List.setIfInBounds_toArray, List.set_cons_zero, List.set_cons_succ]
    refine wpAnyH_take (i := 1) (v := ?_) rfl (by kernel_rfl) (by kernel_rfl) (by kernel_rfl) (fun _ _ _ h => h) (Or.inl ⟨by rfl, ?_⟩) (by assumption) ?_
    rotate_left
    · (intro wx hSw; (try dsimp only at hSw); obtain ⟨⟨_, _, _, _, _, _, _, _⟩, _, _, _, _⟩ := HALL.out _ hSw; go_simp; try with_reducible rfl)
    try simp only [Act.put, List.getElem_toArray, List.getElem_cons_succ, List.getElem_cons_zero, List.setIfInBounds_toArray, List.set_cons_zero, List.set_cons_succ]
    refine wpAnyH_take (i := 2) (v := ?_) rfl (by kernel_rfl) (by kernel_rfl) (by kernel_rfl) (fun _ _ _ h => h) (Or.inl ⟨by rfl, ?_⟩) (by assumption) ?_
    rotate_left
    · (intro wx hSw; (try dsimp only at hSw); go_simp; try with_reducible rfl)
    try simp only [Act.put, List.getElem_toArray, List.getElem_cons_succ, List.getElem_cons_zero, List.setIfInBounds_toArray, List.set_cons_zero, List.set_cons_succ]
    refine wpAnyH_ready (rs := [3]) (by kernel_rfl) (by simp) (AllReadyH.cons rfl (fun K hK => ?_) AllReadyH.nil)
    go_simp
    refine (gone_any _ _ _ _ _ _ _ _ _ _ _ _).mono ?_
    rintro x v1 ⟨rfl, b1⟩
    rw [MX.out]
    try go_wp2_with fail
    refine hK.out _ _ ?_ (fun hHeld => ?_)
    · exact next (by assumption) b1
    clear hK K
    try simp only [Act.put, List.getElem_toArray, List.getElem_cons_succ, List.getElem_cons_zero, List.setIfInBounds_toArray, List.set_cons_zero, List.set_cons_succ]
    refine wpAnyH_ready (rs := [4]) (by kernel_rfl) (by simp) (AllReadyH.cons rfl (fun K hK => ?_) AllReadyH.nil)
    go_simp
    refine (counts_any _ _ _ _ _ _).mono ?_
    rintro x v2 ⟨rfl, b2⟩
    rw [BB.out]
    try go_wp2_with fail
    refine hK.out _ _ ?_ (fun hHeld => ?_)
    · exact next (by assumption) b2
    clear hK K
    try simp only [Act.put, List.getElem_toArray, List.getElem_cons_succ, List.getElem_cons_zero, List.setIfInBounds_toArray, List.set_cons_zero, List.set_cons_succ]
    refine wpAnyH_take (i := 5) (v := ?_) rfl (by kernel_rfl) (by kernel_rfl) (by kernel_rfl) (fun _ _ _ h => h) (Or.inl ⟨by rfl, ?_⟩) (by assumption) ?_
    rotate_left
    · (intro wx hSw; (try dsimp only at hSw); go_simp; try with_reducible rfl)
    try simp only [Act.put, List.getElem_toArray, List.getElem_cons_succ, List.getElem_cons_zero, List.setIfInBounds_toArray, List.set_cons_zero, List.set_cons_succ]
    refine wpAnyH_done (by kernel_rfl) ?_ _
    have pz3 := (hHeld.block (w.heap.size + 1) (by have := HVS.out; have := HS1.out; omega)).trans PZ.out
    obtain ⟨⟨_, _, _, _, _, _, _, _⟩, _, _, _, _⟩ := HALL.out _ hHeld
    have z0 := cell_at (i := 0) pz3 rfl
    have z1 := cell_at (i := 1) pz3 rfl
    have z2 := cell_at (i := 2) pz3 rfl
    have z3 := cell_at (i := 3) pz3 rfl
    have y0 := thawed_at (i := 0) pz3
    have y1 := thawed_at (i := 1) pz3
    have y2 := thawed_at (i := 2) pz3
    have y3 := thawed_at (i := 3) pz3
    have BL := Lib.hid (next BV.out hHeld)
    clear pz3
    go_wp2
    refine bodyPost_ret (v := Value.tuple #[Value.agg #[.string ⟨#[]⟩, .bool false, .int .i64 0, .int .i64 0], Value.bool false]) ?_ rfl ?_
    · simp [results, Try.results16, go_sem, z0, z1, z2, z3]
    refine ⟨rfl, ?_⟩
    exact (((BL.out.setCell (by simp) _).setCell (by simp) _).setCell (by simp) _).setCell (by simp) _
  · have hb2 : (⟨vs, vd, va, ve⟩ : Ce) = ⟨rs, rd, ra, re⟩ := by rw [← BST.out]; unfold bestD; rw [BB.out]; rfl
    injection hb2 with k1 k2 k3 k4
    subst k1; subst k2; subst k3; subst k4
    refine wp_region_held_drew (S := fun w' => Below V.heap.size V w') (by kernel_rfl) ?_ (fun hHeld => ?_)
    · exact (Below.refl _ _).drew
    refine wpAnyH_take (i := 0) (v := ?_) rfl (by kernel_rfl) (by kernel_rfl) (by kernel_rfl) (fun _ _ _ h => h) (Or.inl ⟨by rfl, ?_⟩) (by assumption) ?_
    rotate_left
    · (intro wx hSw; (try dsimp only at hSw); obtain ⟨⟨_, _, _, _, _, _, _, _⟩, _, _, _, _⟩ := HALL.out _ hSw; go_simp; try with_reducible rfl)
    try simp only [Act.put, List.getElem_toArray, List.getElem_cons_succ, List.getElem_cons_zero, List.setIfInBounds_toArray, List.set_cons_zero, List.set_cons_succ]
    refine wpAnyH_take (i := 1) (v := ?_) rfl (by kernel_rfl) (by kernel_rfl) (by kernel_rfl) (fun _ _ _ h => h) (Or.inl ⟨by rfl, ?_⟩) (by assumption) ?_
    rotate_left
    · (intro wx hSw; (try dsimp only at hSw); obtain ⟨⟨_, _, _, _, _, _, _, _⟩, _, _, _, _⟩ := HALL.out _ hSw; go_simp; try with_reducible rfl)
    try simp only [Act.put, List.getElem_toArray, List.getElem_cons_succ, List.getElem_cons_zero, List.setIfInBounds_toArray, List.set_cons_zero, List.set_cons_succ]
    refine wpAnyH_take (i := 2) (v := ?_) rfl (by kernel_rfl) (by kernel_rfl) (by kernel_rfl) (fun _ _ _ h => h) (Or.inl ⟨by rfl, ?_⟩) (by assumption) ?_
    rotate_left
    · (intro wx hSw; (try dsimp only at hSw); go_simp; try with_reducible rfl)
    try simp only [Act.put, List.getElem_toArray, List.getElem_cons_succ, List.getElem_cons_zero, List.setIfInBounds_toArray, List.set_cons_zero, List.set_cons_succ]
    refine wpAnyH_ready (rs := [3]) (by kernel_rfl) (by simp) (AllReadyH.cons rfl (fun K hK => ?_) AllReadyH.nil)
    go_simp
    refine (gone_any _ _ _ _ _ _ _ _ _ _ _ _).mono ?_
    rintro x v1 ⟨rfl, b1⟩
    rw [MX.out]
    try go_wp2_with fail
    refine hK.out _ _ ?_ (fun hHeld => ?_)
    · exact next (by assumption) b1
    clear hK K
    try simp only [Act.put, List.getElem_toArray, List.getElem_cons_succ, List.getElem_cons_zero, List.setIfInBounds_toArray, List.set_cons_zero, List.set_cons_succ]
    refine wpAnyH_ready (rs := [4]) (by kernel_rfl) (by simp) (AllReadyH.cons rfl (fun K hK => ?_) AllReadyH.nil)
    go_simp
    refine (counts_any _ _ _ _ _ _).mono ?_
    rintro x v2 ⟨rfl, b2⟩
    rw [BB.out]
    try go_wp2_with fail
    refine hK.out _ _ ?_ (fun hHeld => ?_)
    · exact next (by assumption) b2
    clear hK K
    try simp only [Act.put, List.getElem_toArray, List.getElem_cons_succ, List.getElem_cons_zero, List.setIfInBounds_toArray, List.set_cons_zero, List.set_cons_succ]
    refine wpAnyH_take (i := 5) (v := ?_) rfl (by kernel_rfl) (by kernel_rfl) (by kernel_rfl) (fun _ _ _ h => h) (Or.inl ⟨by rfl, ?_⟩) (by assumption) ?_
    rotate_left
    · (intro wx hSw; (try dsimp only at hSw); go_simp; try with_reducible rfl)
    try simp only [Act.put, List.getElem_toArray, List.getElem_cons_succ, List.getElem_cons_zero, List.setIfInBounds_toArray, List.set_cons_zero, List.set_cons_succ]
    refine wpAnyH_done (by kernel_rfl) ?_ _
    have pz3 := (hHeld.block (w.heap.size + 1) (by have := HVS.out; have := HS1.out; omega)).trans PZ.out
    obtain ⟨⟨_, _, _, _, _, _, _, _⟩, _, _, _, _⟩ := HALL.out _ hHeld
    have z0 := cell_at (i := 0) pz3 rfl
    have z1 := cell_at (i := 1) pz3 rfl
    have z2 := cell_at (i := 2) pz3 rfl
    have z3 := cell_at (i := 3) pz3 rfl
    have y0 := thawed_at (i := 0) pz3
    have y1 := thawed_at (i := 1) pz3
    have y2 := thawed_at (i := 2) pz3
    have y3 := thawed_at (i := 3) pz3
    have BL := Lib.hid (next BV.out hHeld)
    clear pz3
    go_wp2
    refine bodyPost_ret (v := Value.tuple #[Value.agg #[.string vs, .bool vd, .int .i64 va, .int .i64 ve], Value.bool true]) ?_ rfl ?_
    · simp [results, Try.results16, go_sem, z0, z1, z2, z3]
    refine ⟨rfl, ?_⟩
    exact (((BL.out.setCell (by simp) _).setCell (by simp) _).setCell (by simp) _).setCell (by simp) _
end Go.Proofs.Ytnoblhacgmeddaa
