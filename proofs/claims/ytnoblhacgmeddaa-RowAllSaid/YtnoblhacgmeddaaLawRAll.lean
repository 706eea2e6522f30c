/-
  RowAll.
-/
import Derived.Test.YtnoblhacgmeddaaRoR
import Derived.Test.YtnoblhacgmeddaaRo9
import Derived.Test.YtnoblhacgmeddaaRoW
import Derived.Test.YtnoblhacgmeddaaOpnR
import Derived.Test.YtnoblhacgmeddaaRows
import Derived.WalkKit
import Derived.ProofKit
import Derived.OpenShut
import Derived.ShutString
import Derived.ChangeOld
import Derived.Below
set_option linter.unusedVariables false
set_option linter.unusedSimpArgs false
namespace Go.Proofs.Ytnoblhacgmeddaa
open Go Go.RowKit Go.Joins

theorem rbest_ro (R : Ro) (A : Option Addr) (c B : Nat) (p : Int) (nm : ByteArray) (w : World) (h : RoIn w B R A c) (hB : B ≤ w.heap.size) (hn : R.cols.length ≤ 1000) :
    Calls Try.prog 17 #[R.val A c, .int .i64 p, .string nm] w fun x w' => x = .returned (.tuple #[(bestC (max R.gone p) (getC R.cols nm)).v, .bool (cnt (max R.gone p) (getC R.cols nm))]) ∧ Below w.heap.size w w' :=
  rbest_any R.key R.live.s R.live.d R.live.a R.live.e R.gone R.shade p A R.cols.length c B R.cols nm w h.rd hB (by omega)
theorem rcell_ro (R : Ro) (A : Option Addr) (c B : Nat) (nm : ByteArray) (w : World) (h : RoIn w B R A c) (hB : B ≤ w.heap.size) (hn : R.cols.length ≤ 1000) :
    Calls Try.prog 22 #[R.val A c, .string nm] w fun x w' => x = .returned (getC R.cols nm).v ∧ Below w.heap.size w w' :=
  rcell_any R.key R.live.s R.live.d R.live.a R.live.e R.gone R.shade A R.cols.length c B R.cols nm w h.rd hB (by omega)
theorem rgone_ro (R : Ro) (A : Option Addr) (c : Nat) (p : Int) (w : World) :
    Calls Try.prog 13 #[R.val A c, .int .i64 p] w fun x w' => x = .returned (.int .i64 (max R.gone p)) ∧ Below w.heap.size w w' :=
  rgone_any R.key R.live.s R.live.d R.live.a R.live.e R.gone R.shade p A R.cols.length c w
theorem rseen_ro (R : Ro) (A : Option Addr) (c B : Nat) (p now : Int) (w : World) (h : RoIn w B R A c) (hB : B ≤ w.heap.size) (hn : R.cols.length ≤ 1000) (hr : Rise R.cols) (h0 : 0 ≤ R.gone) :
    Calls Try.prog 25 #[R.val A c, .int .i64 p, .int .i64 now] w fun x w' => ∃ v, x = .returned v ∧ Cur w w' v (seenD (max R.gone p) now R.cols) :=
  rseenrow_any R.key R.live.s R.live.d R.live.a R.live.e R.gone R.shade p now A R.cols.length c B R.cols w h.rd hB hn hr h0
theorem ris_ro (R : Ro) (A : Option Addr) (c B : Nat) (p now : Int) (st : Bool) (w : World) (h : RoIn w B R A c) (hB : B ≤ w.heap.size) (hn : R.cols.length ≤ 1000) (hr : Rise R.cols) (h0 : 0 ≤ R.gone) :
    Calls Try.prog 27 #[R.val A c, .int .i64 p, .int .i64 now, .bool st] w fun x w' => x = .returned (.bool (isD R.live R.gone R.shade p now R.cols st)) ∧ Below w.heap.size w w' :=
  risrow_any R.key R.live.s R.live.d R.live.a R.live.e R.gone R.shade p now st A R.cols.length c B R.cols w h.rd hB hn hr h0
theorem gone_of_ok {R : Ro} (h : R.ok = true) : 0 ≤ R.gone := by
  unfold Ro.ok stm at h
  simp only [Bool.and_eq_true, decide_eq_true_iff] at h
  exact h.2.2.1.1

set_option maxRecDepth 8000 in
set_option maxHeartbeats 16000000 in
theorem call_rall (a b : Ro) (Aa Ab : Option Addr) (ca cb : Nat) (part now : Int) (st : Bool) (name : ByteArray) (w : World) (ia : RoIn w w.heap.size a Aa ca) (ib : RoIn w w.heap.size b Ab cb) :
    Calls Try.prog 3 #[a.val Aa ca, b.val Ab cb, .int .i64 part, .int .i64 now, .bool st, .string name] w fun e w' => e = .returned (.bool true) ∧ Below w.heap.size w w' := by
  unfold Ro.val
  obtain ⟨fa, hfa⟩ : ∃ u, fewB a = u := ⟨_, rfl⟩
  obtain ⟨fb, hfb⟩ : ∃ u, fewB b = u := ⟨_, rfl⟩
  obtain ⟨ka, hka⟩ : ∃ u, a.ok = u := ⟨_, rfl⟩
  obtain ⟨kb, hkb⟩ : ∃ u, b.ok = u := ⟨_, rfl⟩
  obtain ⟨mx, hmx⟩ : ∃ u, max a.gone part = u := ⟨_, rfl⟩
  obtain ⟨sab, hsab⟩ : ∃ u, a.same b = u := ⟨_, rfl⟩
  have FA := Lib.hid hfa; have FB := Lib.hid hfb; have KA := Lib.hid hka; have KB := Lib.hid hkb; have MX := Lib.hid hmx; have SAB := Lib.hid hsab
  have bz := ((Below.refl w.heap.size w).alloc (Nat.le_refl _) (.cells #[.string a.key, .string a.live.s, .bool a.live.d, .int .i64 a.live.a, .int .i64 a.live.e, .int .i64 a.gone, .int .i64 a.shade, .slice Aa a.cols.length ca] 26)).alloc (by simp) (.cells #[.string b.key, .string b.live.s, .bool b.live.d, .int .i64 b.live.a, .int .i64 b.live.e, .int .i64 b.gone, .int .i64 b.shade, .slice Ab b.cols.length cb] 26)
  have za : RJ _ w.heap.size a.key a.live.s a.live.d a.live.a a.live.e a.gone a.shade Aa a.cols.length ca := new_at (heap_alloc_new w (.cells #[.string a.key, .string a.live.s, .bool a.live.d, .int .i64 a.live.a, .int .i64 a.live.e, .int .i64 a.gone, .int .i64 a.shade, .slice Aa a.cols.length ca] 26)) (.cells #[.string b.key, .string b.live.s, .bool b.live.d, .int .i64 b.live.a, .int .i64 b.live.e, .int .i64 b.gone, .int .i64 b.shade, .slice Ab b.cols.length cb] 26)
  have zb := heap_alloc_new (w.alloc (.cells #[.string a.key, .string a.live.s, .bool a.live.d, .int .i64 a.live.a, .int .i64 a.live.e, .int .i64 a.gone, .int .i64 a.shade, .slice Aa a.cols.length ca] 26)) (.cells #[.string b.key, .string b.live.s, .bool b.live.d, .int .i64 b.live.a, .int .i64 b.live.e, .int .i64 b.gone, .int .i64 b.shade, .slice Ab b.cols.length cb] 26)
  simp only [World.size_alloc] at zb
  obtain ⟨U, hU⟩ : ∃ U, U = (w.alloc (.cells #[.string a.key, .string a.live.s, .bool a.live.d, .int .i64 a.live.a, .int .i64 a.live.e, .int .i64 a.gone, .int .i64 a.shade, .slice Aa a.cols.length ca] 26)).alloc (.cells #[.string b.key, .string b.live.s, .bool b.live.d, .int .i64 b.live.a, .int .i64 b.live.e, .int .i64 b.gone, .int .i64 b.shade, .slice Ab b.cols.length cb] 26) := ⟨_, rfl⟩
  have hUs : U.heap.size = w.heap.size + 2 := by rw [hU]; simp
  rw [← hU] at bz za zb
  have zb : RJ U (w.heap.size + 1) b.key b.live.s b.live.d b.live.a b.live.e b.gone b.shade Ab b.cols.length cb := zb
  have hall : ∀ w', Below U.heap.size U w' → a.At w' w.heap.size Aa ca ∧ b.At w' (w.heap.size + 1) Ab cb ∧ RoIn w' w.heap.size a Aa ca ∧ RoIn w' w.heap.size b Ab cb := fun w' hb =>
    ⟨za.cells.below hb (by omega), zb.cells.below hb (by omega), (ia.below bz).below (hb.mono (by omega)), (ib.below bz).below (hb.mono (by omega))⟩
  have HALL := Lib.hid hall; have BZ := Lib.hid bz; have HUS := Lib.hid hUs
  have HB := Lib.hid (Below.refl U.heap.size U)
  clear hfa hfb hka hkb hmx hsab bz za zb hUs hall ia ib
  obtain ⟨⟨_, _, _, _, _, _, _, _⟩, ⟨_, _, _, _, _, _, _, _⟩, ia, ib⟩ := HALL.out _ HB.out
  have IA := Lib.hid ia; have IB := Lib.hid ib
  clear ia ib
  go_enter Try.func3, Try.ntmps3
  go_wp2_with fail
  rw [← hU]
  clear hU
  refine (fewrow_ro a Aa ca w.heap.size _ IA.out (by have := HB.out.size; have := HUS.out; omega)).mono ?_
  rintro x v1 ⟨rfl, b1⟩
  rw [FA.out]
  have hb1 := HB.out.trans (b1.mono HB.out.size)
  clear HB b1
  have HB := Lib.hid hb1
  clear hb1
  obtain ⟨⟨_, _, _, _, _, _, _, _⟩, ⟨_, _, _, _, _, _, _, _⟩, ia, ib⟩ := HALL.out _ HB.out
  have IA := Lib.hid ia; have IB := Lib.hid ib
  clear ia ib
  cases fa
  · go_wp2_with fail
    refine (awake_any _).mono ?_
    rintro x v9 ⟨rfl, b9⟩
    have h9 := Lib.hid (next BZ.out (HB.out.trans (b9.mono HB.out.size)))
    clear b9
    go_wp2
    go_ret
    exact ⟨rfl, h9.out⟩
  have Ga := Lib.hid (few_of FA.out)
  go_wp2_with fail
  refine (fewrow_ro b Ab cb w.heap.size _ IB.out (by have := HB.out.size; have := HUS.out; omega)).mono ?_
  rintro x v2 ⟨rfl, b2⟩
  rw [FB.out]
  have hb2 := HB.out.trans (b2.mono HB.out.size)
  clear HB b2
  have HB := Lib.hid hb2
  clear hb2
  obtain ⟨⟨_, _, _, _, _, _, _, _⟩, ⟨_, _, _, _, _, _, _, _⟩, ia, ib⟩ := HALL.out _ HB.out
  have IA := Lib.hid ia; have IB := Lib.hid ib
  clear ia ib
  cases fb
  · go_wp2_with fail
    refine (awake_any _).mono ?_
    rintro x v9 ⟨rfl, b9⟩
    have h9 := Lib.hid (next BZ.out (HB.out.trans (b9.mono HB.out.size)))
    clear b9
    go_wp2
    go_ret
    exact ⟨rfl, h9.out⟩
  have Gb := Lib.hid (few_of FB.out)
  by_cases h300 : 300 < name.size
  · have n1 : decide (300 < name.size) = true := decide_eq_true h300
    have n2 : decide ((300 : Int) < ((name.size : Nat) : Int)) = true := decide_eq_true (by omega)
    go_wp2_with fail
    refine (awake_any _).mono ?_
    rintro x v9 ⟨rfl, b9⟩
    have h9 := Lib.hid (next BZ.out (HB.out.trans (b9.mono HB.out.size)))
    clear b9
    go_wp2
    go_ret
    exact ⟨rfl, h9.out⟩
  have n1 : decide (300 < name.size) = false := decide_eq_false h300
  have n2 : decide ((300 : Int) < ((name.size : Nat) : Int)) = false := decide_eq_false (by omega)
  go_wp2_with fail
  refine wp_region_held_drew (S := fun w' => Below U.heap.size U w') (by kernel_rfl) ?_ (fun hHeld => ?_)
  · exact HB.out.drew
  refine wpAnyH_take (i := 0) (v := ?_) rfl (by kernel_rfl) (by kernel_rfl) (by kernel_rfl) (fun _ _ _ h => h) (Or.inl ⟨by rfl, ?_⟩) (by assumption) ?_
  rotate_left
  · (intro wx hSw; (try dsimp only at hSw); obtain ⟨⟨_, _, _, _, _, _, _, _⟩, ⟨_, _, _, _, _, _, _, _⟩, _⟩ := HALL.out _ hSw; go_simp; try with_reducible rfl)
  try simp only [Act.put, List.getElem_toArray, List.getElem_cons_succ, List.getElem_cons_zero, List.setIfInBounds_toArray, List.set_cons_zero, List.set_cons_succ]
  refine wpAnyH_take (i := 2) (v := ?_) rfl (by kernel_rfl) (by kernel_rfl) (by kernel_rfl) (fun _ _ _ h => h) (Or.inl ⟨by rfl, ?_⟩) (by assumption) ?_
  rotate_left
  · (intro wx hSw; (try dsimp only at hSw); obtain ⟨⟨_, _, _, _, _, _, _, _⟩, ⟨_, _, _, _, _, _, _, _⟩, _⟩ := HALL.out _ hSw; go_simp; try with_reducible rfl)
  try simp only [Act.put, List.getElem_toArray, List.getElem_cons_succ, List.getElem_cons_zero, List.setIfInBounds_toArray, List.set_cons_zero, List.set_cons_succ]
  refine wpAnyH_ready (rs := [1]) (by kernel_rfl) (by simp) (AllReadyH.cons rfl (fun K hK => ?_) AllReadyH.nil)
  go_simp
  obtain ⟨_, _, ja, jb⟩ := HALL.out _ hHeld
  refine (check_ro a Aa ca w.heap.size v2.drew ja (by have := hHeld.size; have := HUS.out; omega) (by have := Ga.out.len; omega) Ga.out.few (by have := Ga.out.live; unfold maxLen; omega)).mono ?_
  rintro x u1 ⟨rfl, b9⟩
  rw [KA.out]
  have BN := Lib.hid b9
  clear b9 ja jb
  try go_wp2_with fail
  refine hK.out _ _ ?_ (fun hHeld => ?_)
  · exact hHeld.trans (BN.out.mono hHeld.size)
  clear hK K
  try simp only [Act.put, List.getElem_toArray, List.getElem_cons_succ, List.getElem_cons_zero, List.setIfInBounds_toArray, List.set_cons_zero, List.set_cons_succ]
  refine wpAnyH_ready (rs := [3]) (by kernel_rfl) (by simp) (AllReadyH.cons rfl (fun K hK => ?_) AllReadyH.nil)
  go_simp
  obtain ⟨_, _, ja, jb⟩ := HALL.out _ hHeld
  refine (rcheck_ro a Aa ca w.heap.size u1 ja (by have := hHeld.size; have := HUS.out; omega) (by have := Ga.out.len; omega) Ga.out.few (by have := Ga.out.live; unfold maxLen; omega)).mono ?_
  rintro x u2 ⟨rfl, b9⟩
  rw [KA.out]
  have BN := Lib.hid b9
  clear b9 ja jb
  try go_wp2_with fail
  refine hK.out _ _ ?_ (fun hHeld => ?_)
  · exact hHeld.trans (BN.out.mono hHeld.size)
  clear hK K
  try simp only [Act.put, List.getElem_toArray, List.getElem_cons_succ, List.getElem_cons_zero, List.setIfInBounds_toArray, List.set_cons_zero, List.set_cons_succ]
  refine wpAnyH_take (i := 4) (v := ?_) rfl (by kernel_rfl) (by kernel_rfl) (by kernel_rfl) (fun _ _ _ h => h) (Or.inl ⟨by rfl, ?_⟩) (by assumption) ?_
  rotate_left
  · (intro wx hSw; (try dsimp only at hSw); go_simp; try with_reducible rfl)
  try simp only [Act.put, List.getElem_toArray, List.getElem_cons_succ, List.getElem_cons_zero, List.setIfInBounds_toArray, List.set_cons_zero, List.set_cons_succ]
  refine wpAnyH_take (i := 5) (v := ?_) rfl (by kernel_rfl) (by kernel_rfl) (by kernel_rfl) (fun _ _ _ h => h) (Or.inl ⟨by rfl, ?_⟩) (by assumption) ?_
  rotate_left
  · (intro wx hSw; (try dsimp only at hSw); go_simp; try with_reducible rfl)
  try simp only [Act.put, List.getElem_toArray, List.getElem_cons_succ, List.getElem_cons_zero, List.setIfInBounds_toArray, List.set_cons_zero, List.set_cons_succ]
  refine wpAnyH_take (i := 6) (v := ?_) rfl (by kernel_rfl) (by kernel_rfl) (by kernel_rfl) (fun _ _ _ h => h) (Or.inl ⟨by rfl, ?_⟩) (by assumption) ?_
  rotate_left
  · (intro wx hSw; (try dsimp only at hSw); obtain ⟨⟨_, _, _, _, _, _, _, _⟩, ⟨_, _, _, _, _, _, _, _⟩, _⟩ := HALL.out _ hSw; go_simp; try with_reducible rfl)
  try simp only [Act.put, List.getElem_toArray, List.getElem_cons_succ, List.getElem_cons_zero, List.setIfInBounds_toArray, List.set_cons_zero, List.set_cons_succ]
  refine wpAnyH_take (i := 8) (v := ?_) rfl (by kernel_rfl) (by kernel_rfl) (by kernel_rfl) (fun _ _ _ h => h) (Or.inl ⟨by rfl, ?_⟩) (by assumption) ?_
  rotate_left
  · (intro wx hSw; (try dsimp only at hSw); obtain ⟨⟨_, _, _, _, _, _, _, _⟩, ⟨_, _, _, _, _, _, _, _⟩, _⟩ := HALL.out _ hSw; go_simp; try with_reducible rfl)
  try simp only [Act.put, List.getElem_toArray, List.getElem_cons_succ, List.getElem_cons_zero, List.setIfInBounds_toArray, List.set_cons_zero, List.set_cons_succ]
  refine wpAnyH_ready (rs := [7]) (by kernel_rfl) (by simp) (AllReadyH.cons rfl (fun K hK => ?_) AllReadyH.nil)
  go_simp
  obtain ⟨_, _, ja, jb⟩ := HALL.out _ hHeld
  refine (check_ro b Ab cb w.heap.size u2 jb (by have := hHeld.size; have := HUS.out; omega) (by have := Gb.out.len; omega) Gb.out.few (by have := Gb.out.live; unfold maxLen; omega)).mono ?_
  rintro x u3 ⟨rfl, b9⟩
  rw [KB.out]
  have BN := Lib.hid b9
  clear b9 ja jb
  try go_wp2_with fail
  refine hK.out _ _ ?_ (fun hHeld => ?_)
  · exact hHeld.trans (BN.out.mono hHeld.size)
  clear hK K
  try simp only [Act.put, List.getElem_toArray, List.getElem_cons_succ, List.getElem_cons_zero, List.setIfInBounds_toArray, List.set_cons_zero, List.set_cons_succ]
  refine wpAnyH_ready (rs := [9]) (by kernel_rfl) (by simp) (AllReadyH.cons rfl (fun K hK => ?_) AllReadyH.nil)
  go_simp
  obtain ⟨_, _, ja, jb⟩ := HALL.out _ hHeld
  refine (rcheck_ro b Ab cb w.heap.size u3 jb (by have := hHeld.size; have := HUS.out; omega) (by have := Gb.out.len; omega) Gb.out.few (by have := Gb.out.live; unfold maxLen; omega)).mono ?_
  rintro x u4 ⟨rfl, b9⟩
  rw [KB.out]
  have BN := Lib.hid b9
  clear b9 ja jb
  try go_wp2_with fail
  refine hK.out _ _ ?_ (fun hHeld => ?_)
  · exact hHeld.trans (BN.out.mono hHeld.size)
  clear hK K
  try simp only [Act.put, List.getElem_toArray, List.getElem_cons_succ, List.getElem_cons_zero, List.setIfInBounds_toArray, List.set_cons_zero, List.set_cons_succ]
  refine wpAnyH_take (i := 10) (v := ?_) rfl (by kernel_rfl) (by kernel_rfl) (by kernel_rfl) (fun _ _ _ h => h) (Or.inl ⟨by rfl, ?_⟩) (by assumption) ?_
  rotate_left
  · (intro wx hSw; (try dsimp only at hSw); go_simp; try with_reducible rfl)
  try simp only [Act.put, List.getElem_toArray, List.getElem_cons_succ, List.getElem_cons_zero, List.setIfInBounds_toArray, List.set_cons_zero, List.set_cons_succ]
  refine wpAnyH_take (i := 11) (v := ?_) rfl (by kernel_rfl) (by kernel_rfl) (by kernel_rfl) (fun _ _ _ h => h) (Or.inl ⟨by rfl, ?_⟩) (by assumption) ?_
  rotate_left
  · (intro wx hSw; (try dsimp only at hSw); go_simp; try with_reducible rfl)
  try simp only [Act.put, List.getElem_toArray, List.getElem_cons_succ, List.getElem_cons_zero, List.setIfInBounds_toArray, List.set_cons_zero, List.set_cons_succ]
  refine wpAnyH_take (i := 12) (v := ?_) rfl (by kernel_rfl) (by kernel_rfl) (by kernel_rfl) (fun _ _ _ h => h) (Or.inl ⟨by rfl, ?_⟩) (by assumption) ?_
  rotate_left
  · (intro wx hSw; (try dsimp only at hSw); go_simp; try with_reducible rfl)
  try simp only [Act.put, List.getElem_toArray, List.getElem_cons_succ, List.getElem_cons_zero, List.setIfInBounds_toArray, List.set_cons_zero, List.set_cons_succ]
  refine wpAnyH_take (i := 13) (v := ?_) rfl (by kernel_rfl) (by kernel_rfl) (by kernel_rfl) (fun _ _ _ h => h) (Or.inl ⟨by rfl, ?_⟩) (by assumption) ?_
  rotate_left
  · (intro wx hSw; (try dsimp only at hSw); obtain ⟨⟨_, _, _, _, _, _, _, _⟩, ⟨_, _, _, _, _, _, _, _⟩, _⟩ := HALL.out _ hSw; go_simp; try with_reducible rfl)
  try simp only [Act.put, List.getElem_toArray, List.getElem_cons_succ, List.getElem_cons_zero, List.setIfInBounds_toArray, List.set_cons_zero, List.set_cons_succ]
  refine wpAnyH_take (i := 14) (v := ?_) rfl (by kernel_rfl) (by kernel_rfl) (by kernel_rfl) (fun _ _ _ h => h) (Or.inl ⟨by rfl, ?_⟩) (by assumption) ?_
  rotate_left
  · (intro wx hSw; (try dsimp only at hSw); go_simp; try with_reducible rfl)
  try simp only [Act.put, List.getElem_toArray, List.getElem_cons_succ, List.getElem_cons_zero, List.setIfInBounds_toArray, List.set_cons_zero, List.set_cons_succ]
  refine wpAnyH_take (i := 16) (v := ?_) rfl (by kernel_rfl) (by kernel_rfl) (by kernel_rfl) (fun _ _ _ h => h) (Or.inl ⟨by rfl, ?_⟩) (by assumption) ?_
  rotate_left
  · (intro wx hSw; (try dsimp only at hSw); obtain ⟨⟨_, _, _, _, _, _, _, _⟩, ⟨_, _, _, _, _, _, _, _⟩, _⟩ := HALL.out _ hSw; go_simp; try with_reducible rfl)
  try simp only [Act.put, List.getElem_toArray, List.getElem_cons_succ, List.getElem_cons_zero, List.setIfInBounds_toArray, List.set_cons_zero, List.set_cons_succ]
  refine wpAnyH_take (i := 17) (v := ?_) rfl (by kernel_rfl) (by kernel_rfl) (by kernel_rfl) (fun _ _ _ h => h) (Or.inl ⟨by rfl, ?_⟩) (by assumption) ?_
  rotate_left
  · (intro wx hSw; (try dsimp only at hSw); go_simp; try with_reducible rfl)
  try simp only [Act.put, List.getElem_toArray, List.getElem_cons_succ, List.getElem_cons_zero, List.setIfInBounds_toArray, List.set_cons_zero, List.set_cons_succ]
  refine wpAnyH_ready (rs := [15]) (by kernel_rfl) (by simp) (AllReadyH.cons rfl (fun K hK => ?_) AllReadyH.nil)
  go_simp
  refine (gone_ro a Aa ca part u4).mono ?_
  rintro x u5 ⟨rfl, b9⟩
  rw [MX.out]
  have BN := Lib.hid b9
  clear b9
  try go_wp2_with fail
  refine hK.out _ _ ?_ (fun hHeld => ?_)
  · exact hHeld.trans (BN.out.mono hHeld.size)
  clear hK K
  try simp only [Act.put, List.getElem_toArray, List.getElem_cons_succ, List.getElem_cons_zero, List.setIfInBounds_toArray, List.set_cons_zero, List.set_cons_succ]
  refine wpAnyH_ready (rs := [18]) (by kernel_rfl) (by simp) (AllReadyH.cons rfl (fun K hK => ?_) AllReadyH.nil)
  go_simp
  refine (rgone_ro a Aa ca part u5).mono ?_
  rintro x u6 ⟨rfl, b9⟩
  rw [MX.out]
  have BN := Lib.hid b9
  clear b9
  try go_wp2_with fail
  refine hK.out _ _ ?_ (fun hHeld => ?_)
  · exact hHeld.trans (BN.out.mono hHeld.size)
  clear hK K
  try simp only [Act.put, List.getElem_toArray, List.getElem_cons_succ, List.getElem_cons_zero, List.setIfInBounds_toArray, List.set_cons_zero, List.set_cons_succ]
  refine wpAnyH_take (i := 19) (v := ?_) rfl (by kernel_rfl) (by kernel_rfl) (by kernel_rfl) (fun _ _ _ h => h) (Or.inl ⟨by rfl, ?_⟩) (by assumption) ?_
  rotate_left
  · (intro wx hSw; (try dsimp only at hSw); go_simp; try with_reducible rfl)
  try simp only [Act.put, List.getElem_toArray, List.getElem_cons_succ, List.getElem_cons_zero, List.setIfInBounds_toArray, List.set_cons_zero, List.set_cons_succ]
  refine wpAnyH_take (i := 20) (v := ?_) rfl (by kernel_rfl) (by kernel_rfl) (by kernel_rfl) (fun _ _ _ h => h) (Or.inl ⟨by rfl, ?_⟩) (by assumption) ?_
  rotate_left
  · (intro wx hSw; (try dsimp only at hSw); go_simp; try with_reducible rfl)
  try simp only [Act.put, List.getElem_toArray, List.getElem_cons_succ, List.getElem_cons_zero, List.setIfInBounds_toArray, List.set_cons_zero, List.set_cons_succ]
  refine wpAnyH_take (i := 21) (v := ?_) rfl (by kernel_rfl) (by kernel_rfl) (by kernel_rfl) (fun _ _ _ h => h) (Or.inl ⟨by rfl, ?_⟩) (by assumption) ?_
  rotate_left
  · (intro wx hSw; (try dsimp only at hSw); go_simp; try with_reducible rfl)
  try simp only [Act.put, List.getElem_toArray, List.getElem_cons_succ, List.getElem_cons_zero, List.setIfInBounds_toArray, List.set_cons_zero, List.set_cons_succ]
  refine wpAnyH_take (i := 22) (v := ?_) rfl (by kernel_rfl) (by kernel_rfl) (by kernel_rfl) (fun _ _ _ h => h) (Or.inl ⟨by rfl, ?_⟩) (by assumption) ?_
  rotate_left
  · (intro wx hSw; (try dsimp only at hSw); obtain ⟨⟨_, _, _, _, _, _, _, _⟩, ⟨_, _, _, _, _, _, _, _⟩, _⟩ := HALL.out _ hSw; go_simp; try with_reducible rfl)
  try simp only [Act.put, List.getElem_toArray, List.getElem_cons_succ, List.getElem_cons_zero, List.setIfInBounds_toArray, List.set_cons_zero, List.set_cons_succ]
  refine wpAnyH_take (i := 23) (v := ?_) rfl (by kernel_rfl) (by kernel_rfl) (by kernel_rfl) (fun _ _ _ h => h) (Or.inl ⟨by rfl, ?_⟩) (by assumption) ?_
  rotate_left
  · (intro wx hSw; (try dsimp only at hSw); obtain ⟨⟨_, _, _, _, _, _, _, _⟩, ⟨_, _, _, _, _, _, _, _⟩, _⟩ := HALL.out _ hSw; go_simp; try with_reducible rfl)
  try simp only [Act.put, List.getElem_toArray, List.getElem_cons_succ, List.getElem_cons_zero, List.setIfInBounds_toArray, List.set_cons_zero, List.set_cons_succ]
  refine wpAnyH_take (i := 25) (v := ?_) rfl (by kernel_rfl) (by kernel_rfl) (by kernel_rfl) (fun _ _ _ h => h) (Or.inl ⟨by rfl, ?_⟩) (by assumption) ?_
  rotate_left
  · (intro wx hSw; (try dsimp only at hSw); obtain ⟨⟨_, _, _, _, _, _, _, _⟩, ⟨_, _, _, _, _, _, _, _⟩, _⟩ := HALL.out _ hSw; go_simp; try with_reducible rfl)
  try simp only [Act.put, List.getElem_toArray, List.getElem_cons_succ, List.getElem_cons_zero, List.setIfInBounds_toArray, List.set_cons_zero, List.set_cons_succ]
  refine wpAnyH_take (i := 26) (v := ?_) rfl (by kernel_rfl) (by kernel_rfl) (by kernel_rfl) (fun _ _ _ h => h) (Or.inl ⟨by rfl, ?_⟩) (by assumption) ?_
  rotate_left
  · (intro wx hSw; (try dsimp only at hSw); obtain ⟨⟨_, _, _, _, _, _, _, _⟩, ⟨_, _, _, _, _, _, _, _⟩, _⟩ := HALL.out _ hSw; go_simp; try with_reducible rfl)
  try simp only [Act.put, List.getElem_toArray, List.getElem_cons_succ, List.getElem_cons_zero, List.setIfInBounds_toArray, List.set_cons_zero, List.set_cons_succ]
  refine wpAnyH_ready (rs := [24]) (by kernel_rfl) (by simp) (AllReadyH.cons rfl (fun K hK => ?_) AllReadyH.nil)
  go_simp
  obtain ⟨_, _, ja, jb⟩ := HALL.out _ hHeld
  refine (same_ro a b Aa Ab ca cb w.heap.size w.heap.size u6 ja jb (by have := hHeld.size; have := HUS.out; omega) (by have := hHeld.size; have := HUS.out; omega) (by have := Ga.out.len; omega) (by have := Gb.out.len; omega)).mono ?_
  rintro x u7 ⟨rfl, b9⟩
  rw [SAB.out]
  have BN := Lib.hid b9
  clear b9 ja jb
  try go_wp2_with fail
  refine hK.out _ _ ?_ (fun hHeld => ?_)
  · exact hHeld.trans (BN.out.mono hHeld.size)
  clear hK K
  try simp only [Act.put, List.getElem_toArray, List.getElem_cons_succ, List.getElem_cons_zero, List.setIfInBounds_toArray, List.set_cons_zero, List.set_cons_succ]
  refine wpAnyH_ready (rs := [27]) (by kernel_rfl) (by simp) (AllReadyH.cons rfl (fun K hK => ?_) AllReadyH.nil)
  go_simp
  obtain ⟨_, _, ja, jb⟩ := HALL.out _ hHeld
  refine (rsame_ro a b Aa Ab ca cb w.heap.size w.heap.size u7 ja jb (by have := hHeld.size; have := HUS.out; omega) (by have := hHeld.size; have := HUS.out; omega) (by have := Ga.out.len; omega) (by have := Gb.out.len; omega)).mono ?_
  rintro x u8 ⟨rfl, b9⟩
  rw [SAB.out]
  have BN := Lib.hid b9
  clear b9 ja jb
  try go_wp2_with fail
  refine hK.out _ _ ?_ (fun hHeld => ?_)
  · exact hHeld.trans (BN.out.mono hHeld.size)
  clear hK K
  try simp only [Act.put, List.getElem_toArray, List.getElem_cons_succ, List.getElem_cons_zero, List.setIfInBounds_toArray, List.set_cons_zero, List.set_cons_succ]
  refine wpAnyH_take (i := 28) (v := ?_) rfl (by kernel_rfl) (by kernel_rfl) (by kernel_rfl) (fun _ _ _ h => h) (Or.inl ⟨by rfl, ?_⟩) (by assumption) ?_
  rotate_left
  · (intro wx hSw; (try dsimp only at hSw); go_simp; try with_reducible rfl)
  try simp only [Act.put, List.getElem_toArray, List.getElem_cons_succ, List.getElem_cons_zero, List.setIfInBounds_toArray, List.set_cons_zero, List.set_cons_succ]
  refine wpAnyH_take (i := 29) (v := ?_) rfl (by kernel_rfl) (by kernel_rfl) (by kernel_rfl) (fun _ _ _ h => h) (Or.inl ⟨by rfl, ?_⟩) (by assumption) ?_
  rotate_left
  · (intro wx hSw; (try dsimp only at hSw); go_simp; try with_reducible rfl)
  try simp only [Act.put, List.getElem_toArray, List.getElem_cons_succ, List.getElem_cons_zero, List.setIfInBounds_toArray, List.set_cons_zero, List.set_cons_succ]
  refine wpAnyH_done (by kernel_rfl) ?_ _
  clear n1 n2 HB
  have HB := Lib.hid hHeld
  clear hHeld
  obtain ⟨⟨_, _, _, _, _, _, _, _⟩, ⟨_, _, _, _, _, _, _, _⟩, ia, ib⟩ := HALL.out _ HB.out
  have IA := Lib.hid ia; have IB := Lib.hid ib
  clear ia ib
  go_wp2_with fail
  refine (rcheck_ro a Aa ca w.heap.size u8 IA.out (by have := HB.out.size; have := HUS.out; omega) (by have := Ga.out.len; omega) Ga.out.few (by have := Ga.out.live; unfold maxLen; omega)).mono ?_
  rintro x v3 ⟨rfl, b3⟩
  rw [KA.out]
  have hb3 := HB.out.trans (b3.mono HB.out.size)
  clear HB b3
  have HB := Lib.hid hb3
  clear hb3
  obtain ⟨⟨_, _, _, _, _, _, _, _⟩, ⟨_, _, _, _, _, _, _, _⟩, ia, ib⟩ := HALL.out _ HB.out
  have IA := Lib.hid ia; have IB := Lib.hid ib
  clear ia ib
  cases ka
  · go_wp2_with fail
    refine (awake_any _).mono ?_
    rintro x v9 ⟨rfl, b9⟩
    have h9 := Lib.hid (next BZ.out (HB.out.trans (b9.mono HB.out.size)))
    clear b9
    go_wp2
    go_ret
    exact ⟨rfl, h9.out⟩
  go_wp2_with fail
  refine (rcheck_ro b Ab cb w.heap.size v3 IB.out (by have := HB.out.size; have := HUS.out; omega) (by have := Gb.out.len; omega) Gb.out.few (by have := Gb.out.live; unfold maxLen; omega)).mono ?_
  rintro x v4 ⟨rfl, b4⟩
  rw [KB.out]
  have hb4 := HB.out.trans (b4.mono HB.out.size)
  clear HB b4
  have HB := Lib.hid hb4
  clear hb4
  obtain ⟨⟨_, _, _, _, _, _, _, _⟩, ⟨_, _, _, _, _, _, _, _⟩, ia, ib⟩ := HALL.out _ HB.out
  have IA := Lib.hid ia; have IB := Lib.hid ib
  clear ia ib
  cases kb
  · go_wp2_with fail
    refine (awake_any _).mono ?_
    rintro x v9 ⟨rfl, b9⟩
    have h9 := Lib.hid (next BZ.out (HB.out.trans (b9.mono HB.out.size)))
    clear b9
    go_wp2
    go_ret
    exact ⟨rfl, h9.out⟩
  have Ua := Lib.hid (up_of_ok KA.out); have Ub := Lib.hid (up_of_ok KB.out)
  have hg0 := gone_of_ok KA.out
  have hmx0 : 0 ≤ mx := by have := MX.out; omega
  obtain ⟨⟨xs, xd, xa, xe⟩, hbx⟩ : ∃ u, bestC mx (getC a.cols name) = u := ⟨_, rfl⟩
  obtain ⟨ok, hok⟩ : ∃ u, cnt mx (getC a.cols name) = u := ⟨_, rfl⟩
  have BX := Lib.hid (show (bestC mx (getC a.cols name)).v = .agg #[.string xs, .bool xd, .int .i64 xa, .int .i64 xe] by rw [hbx]; rfl)
  have BX' := Lib.hid (show (bestD mx (getC a.cols name)).v = .agg #[.string xs, .bool xd, .int .i64 xa, .int .i64 xe] by rw [bestD_eq hmx0]; exact BX.out)
  have CX := Lib.hid hok
  have CX' := Lib.hid (show cntD mx (getC a.cols name) = ok by rw [cntD_eq hmx0]; exact hok)
  have HG0 := Lib.hid hg0
  clear hbx hok hmx0 hg0 FA FB KA KB
  go_wp2_with fail
  refine (best_ro a Aa ca w.heap.size part name v4 IA.out (by have := HB.out.size; have := HUS.out; omega) (by have := Ga.out.len; omega)).mono ?_
  rintro x v5 ⟨rfl, b5⟩
  rw [MX.out, BX'.out, CX'.out]
  have hz5 := heap_alloc_new v5 (.cells #[.string xs, .bool xd, .int .i64 xa, .int .i64 xe] 23)
  have hb5 := (HB.out.trans (b5.mono HB.out.size)).alloc (HB.out.trans (b5.mono HB.out.size)).size (.cells #[.string xs, .bool xd, .int .i64 xa, .int .i64 xe] 23)
  obtain ⟨⟨_, _, _, _, _, _, _, _⟩, ⟨_, _, _, _, _, _, _, _⟩, _⟩ := HALL.out _ hb5
  obtain ⟨W5, hW5⟩ : ∃ W, W = v5.alloc (.cells #[.string xs, .bool xd, .int .i64 xa, .int .i64 xe] 23) := ⟨_, rfl⟩
  have hs5 : W5.heap.size = v5.heap.size + 1 := by rw [hW5]; simp
  rw [← hW5] at hz5
  have hb5' := hb5
  rw [← hW5] at hb5
  have Z5 := Lib.hid hz5; have HS5 := Lib.hid hs5
  clear HB b5 hz5 hs5 hb5'
  have HB := Lib.hid hb5
  clear hb5
  obtain ⟨⟨_, _, _, _, _, _, _, _⟩, ⟨_, _, _, _, _, _, _, _⟩, ia, ib⟩ := HALL.out _ HB.out
  have IA := Lib.hid ia
  clear ia ib IB
  go_wp2_with fail
  rw [← hW5]
  clear hW5
  refine (rbest_ro a Aa ca w.heap.size part name W5 IA.out (by have := HB.out.size; have := HUS.out; omega) (by have := Ga.out.len; omega)).mono ?_
  rintro x v6 ⟨rfl, b6⟩
  rw [MX.out, BX.out, CX.out]
  have hz6 := heap_alloc_new v6 (.cells #[.string xs, .bool xd, .int .i64 xa, .int .i64 xe] 23)
  have hz5' := new_at ((b6.block v5.heap.size (by have := HS5.out; omega)).trans Z5.out) (.cells #[.string xs, .bool xd, .int .i64 xa, .int .i64 xe] 23)
  have hb6 := (HB.out.trans (b6.mono HB.out.size)).alloc (HB.out.trans (b6.mono HB.out.size)).size (.cells #[.string xs, .bool xd, .int .i64 xa, .int .i64 xe] 23)
  have h56 : v5.heap.size < v6.heap.size := by have := b6.size; have := HS5.out; omega
  obtain ⟨W6, hW6⟩ : ∃ W, W = v6.alloc (.cells #[.string xs, .bool xd, .int .i64 xa, .int .i64 xe] 23) := ⟨_, rfl⟩
  have hs6 : W6.heap.size = v6.heap.size + 1 := by rw [hW6]; simp
  rw [← hW6] at hz6 hz5' hb6
  obtain ⟨X, hX⟩ : ∃ X, a.join b = X := ⟨_, rfl⟩
  have HX := Lib.hid hX
  have hxl : X.cols.length ≤ 40 := by have := len_join a b; rw [hX] at this; have := Ga.out.len; have := Gb.out.len; omega
  obtain ⟨⟨ys, yd, ya, ye⟩, hy⟩ : ∃ u, getC a.cols name = u := ⟨_, rfl⟩
  have GY := Lib.hid (show (getC a.cols name).v = .agg #[.string ys, .bool yd, .int .i64 ya, .int .i64 ye] by rw [hy]; rfl)
  obtain ⟨C, hC⟩ : ∃ C, seenD mx now a.cols = C := ⟨_, rfl⟩
  have hcl : C.length ≤ 20 := by rw [← hC]; exact Nat.le_trans (List.length_filter_le _ _) Ga.out.len
  obtain ⟨iz, hiz⟩ : ∃ u, isD a.live a.gone a.shade part now a.cols st = u := ⟨_, rfl⟩
  have HC := Lib.hid hC; have IZ := Lib.hid hiz
  have SX := Lib.hid ((rosame_iff X X).2 rfl)
  have SC := Lib.hid (same_self (⟨xs, xd, xa, xe⟩ : Ce)); have SY := Lib.hid (same_self (⟨ys, yd, ya, ye⟩ : Ce))
  have SK := Lib.hid (show decide (C = C) = true from decide_eq_true rfl)
  have hall6 : ∀ w', Below W6.heap.size W6 w' → a.At w' w.heap.size Aa ca ∧ b.At w' (w.heap.size + 1) Ab cb ∧ RoIn w' w.heap.size a Aa ca ∧ RoIn w' w.heap.size b Ab cb ∧ (w'.cell? ⟨v5.heap.size, 0, none⟩ = some (.string xs) ∧ w'.cell? ⟨v5.heap.size, 1, none⟩ = some (.bool xd) ∧ w'.cell? ⟨v5.heap.size, 2, none⟩ = some (.int .i64 xa) ∧ w'.cell? ⟨v5.heap.size, 3, none⟩ = some (.int .i64 xe)) ∧ w'.cell? ⟨v6.heap.size, 0, none⟩ = some (.string xs) ∧ w'.cell? ⟨v6.heap.size, 1, none⟩ = some (.bool xd) ∧ w'.cell? ⟨v6.heap.size, 2, none⟩ = some (.int .i64 xa) ∧ w'.cell? ⟨v6.heap.size, 3, none⟩ = some (.int .i64 xe) := fun w' hb => by
    obtain ⟨h1, h2, h3, h4⟩ := HALL.out w' (hb6.trans (hb.mono hb6.size))
    have q5 := (hb.block v5.heap.size (by omega)).trans hz5'
    have q6 := (hb.block v6.heap.size (by omega)).trans hz6
    exact ⟨h1, h2, h3, h4, ⟨cell_at q5 rfl, cell_at q5 rfl, cell_at q5 rfl, cell_at q5 rfl⟩, cell_at q6 rfl, cell_at q6 rfl, cell_at q6 rfl, cell_at q6 rfl⟩
  have HALL6 := Lib.hid hall6
  have LEN := Lib.hid (show a.cols.length ≤ 20 ∧ b.cols.length ≤ 20 ∧ X.cols.length ≤ 40 ∧ C.length ≤ 20 from ⟨Ga.out.len, Gb.out.len, hxl, hcl⟩)
  have HS6 := Lib.hid (show w.heap.size + 2 ≤ W6.heap.size by have := hb6.size; have := HUS.out; omega)
  have HB6 := Lib.hid (next BZ.out hb6)
  clear hz6 hz5' hb6 h56 hs6 hX hxl hy hC hcl hiz hall6 b6 HB BX BX' CX CX' Z5 HS5 IA
  go_wp2_with fail
  rw [← hW6]
  clear hW6
  refine wp_region_held_drew (S := fun w' => Below W6.heap.size W6 w') (by kernel_rfl) ?_ (fun hHeld => ?_)
  · exact (Below.refl _ _).drew
  refine wpAnyH_take (i := 0) (v := ?_) rfl (by kernel_rfl) (by kernel_rfl) (by kernel_rfl) (fun _ _ _ h => h) (Or.inl ⟨by rfl, ?_⟩) (by assumption) ?_
  rotate_left
  · (intro wx hSw; (try dsimp only at hSw); obtain ⟨⟨_, _, _, _, _, _, _, _⟩, ⟨_, _, _, _, _, _, _, _⟩, _, _, ⟨_, _, _, _⟩, _, _, _, _⟩ := HALL6.out _ hSw; go_simp; try with_reducible rfl)
  try simp only [Act.put, List.getElem_toArray, List.getElem_cons_succ, List.getElem_cons_zero, List.setIfInBounds_toArray, List.set_cons_zero, List.set_cons_succ]
  refine wpAnyH_take (i := 1) (v := ?_) rfl (by kernel_rfl) (by kernel_rfl) (by kernel_rfl) (fun _ _ _ h => h) (Or.inl ⟨by rfl, ?_⟩) (by assumption) ?_
  rotate_left
  · (intro wx hSw; (try dsimp only at hSw); obtain ⟨⟨_, _, _, _, _, _, _, _⟩, ⟨_, _, _, _, _, _, _, _⟩, _, _, ⟨_, _, _, _⟩, _, _, _, _⟩ := HALL6.out _ hSw; go_simp; try with_reducible rfl)
  try simp only [Act.put, List.getElem_toArray, List.getElem_cons_succ, List.getElem_cons_zero, List.setIfInBounds_toArray, List.set_cons_zero, List.set_cons_succ]
  refine wpAnyH_take (i := 3) (v := ?_) rfl (by kernel_rfl) (by kernel_rfl) (by kernel_rfl) (fun _ _ _ h => h) (Or.inl ⟨by rfl, ?_⟩) (by assumption) ?_
  rotate_left
  · (intro wx hSw; (try dsimp only at hSw); obtain ⟨⟨_, _, _, _, _, _, _, _⟩, ⟨_, _, _, _, _, _, _, _⟩, _, _, ⟨_, _, _, _⟩, _, _, _, _⟩ := HALL6.out _ hSw; go_simp; try with_reducible rfl)
  try simp only [Act.put, List.getElem_toArray, List.getElem_cons_succ, List.getElem_cons_zero, List.setIfInBounds_toArray, List.set_cons_zero, List.set_cons_succ]
  refine wpAnyH_take (i := 4) (v := ?_) rfl (by kernel_rfl) (by kernel_rfl) (by kernel_rfl) (fun _ _ _ h => h) (Or.inl ⟨by rfl, ?_⟩) (by assumption) ?_
  rotate_left
  · (intro wx hSw; (try dsimp only at hSw); obtain ⟨⟨_, _, _, _, _, _, _, _⟩, ⟨_, _, _, _, _, _, _, _⟩, _, _, ⟨_, _, _, _⟩, _, _, _, _⟩ := HALL6.out _ hSw; go_simp; try with_reducible rfl)
  try simp only [Act.put, List.getElem_toArray, List.getElem_cons_succ, List.getElem_cons_zero, List.setIfInBounds_toArray, List.set_cons_zero, List.set_cons_succ]
  refine wpAnyH_ready (rs := [2]) (by kernel_rfl) (by simp) (AllReadyH.cons rfl (fun K hK => ?_) AllReadyH.nil)
  go_simp
  obtain ⟨_, _, ja, jb, _⟩ := HALL6.out _ hHeld
  refine (join_ro a b X Aa Ab ca cb w.heap.size w.heap.size W6.drew ja jb (by have := hHeld.size; have := HS6.out; omega) (by have := hHeld.size; have := HS6.out; omega) (by have := LEN.out; omega) Ua.out Ub.out HX.out).mono ?_
  rintro x q1 ⟨A11, c11, rfl, h1⟩
  have H1 := Lib.hid h1
  have BN := Lib.hid h1.below
  clear h1 ja jb
  try go_wp2_with fail
  refine hK.out _ _ ?_ (fun hHeld => ?_)
  · exact hHeld.trans (BN.out.mono hHeld.size)
  clear hK K
  try simp only [Act.put, List.getElem_toArray, List.getElem_cons_succ, List.getElem_cons_zero, List.setIfInBounds_toArray, List.set_cons_zero, List.set_cons_succ]
  refine wpAnyH_ready (rs := [5]) (by kernel_rfl) (by simp) (AllReadyH.cons rfl (fun K hK => ?_) AllReadyH.nil)
  go_simp
  obtain ⟨_, _, ja, jb, _⟩ := HALL6.out _ hHeld
  refine (rjoin_ro a b X Aa Ab ca cb w.heap.size w.heap.size q1 ja jb (by have := hHeld.size; have := HS6.out; omega) (by have := hHeld.size; have := HS6.out; omega) (by have := LEN.out; omega) HX.out).mono ?_
  rintro x q2 ⟨A12, c12, rfl, h1⟩
  have H2 := Lib.hid h1
  have BN := Lib.hid h1.below
  clear h1 ja jb
  try go_wp2_with fail
  refine hK.out _ _ ?_ (fun hHeld => ?_)
  · exact hHeld.trans (BN.out.mono hHeld.size)
  clear hK K
  try simp only [Act.put, List.getElem_toArray, List.getElem_cons_succ, List.getElem_cons_zero, List.setIfInBounds_toArray, List.set_cons_zero, List.set_cons_succ]
  refine wpAnyH_ready (rs := [6]) (by kernel_rfl) (by simp) (AllReadyH.cons rfl (fun K hK => ?_) AllReadyH.nil)
  go_simp
  refine (rsame_ro X X A11 A12 c11 c12 q2.heap.size q2.heap.size q2 ((H1.out.on H2.out.below).roIn) H2.out.roIn (Nat.le_refl _) (Nat.le_refl _) (by have := LEN.out; omega) (by have := LEN.out; omega)).mono ?_
  rintro x q3 ⟨rfl, b9⟩
  rw [SX.out]
  have BN := Lib.hid b9
  clear b9
  try go_wp2_with fail
  refine hK.out _ _ ?_ (fun hHeld => ?_)
  · exact hHeld.trans (BN.out.mono hHeld.size)
  clear hK K
  try simp only [Act.put, List.getElem_toArray, List.getElem_cons_succ, List.getElem_cons_zero, List.setIfInBounds_toArray, List.set_cons_zero, List.set_cons_succ]
  refine wpAnyH_take (i := 7) (v := ?_) rfl (by kernel_rfl) (by kernel_rfl) (by kernel_rfl) (fun _ _ _ h => h) (Or.inl ⟨by rfl, ?_⟩) (by assumption) ?_
  rotate_left
  · (intro wx hSw; (try dsimp only at hSw); go_simp; try with_reducible rfl)
  try simp only [Act.put, List.getElem_toArray, List.getElem_cons_succ, List.getElem_cons_zero, List.setIfInBounds_toArray, List.set_cons_zero, List.set_cons_succ]
  refine wpAnyH_take (i := 8) (v := ?_) rfl (by kernel_rfl) (by kernel_rfl) (by kernel_rfl) (fun _ _ _ h => h) (Or.inl ⟨by rfl, ?_⟩) (by assumption) ?_
  rotate_left
  · (intro wx hSw; (try dsimp only at hSw); go_simp; try with_reducible rfl)
  try simp only [Act.put, List.getElem_toArray, List.getElem_cons_succ, List.getElem_cons_zero, List.setIfInBounds_toArray, List.set_cons_zero, List.set_cons_succ]
  refine wpAnyH_take (i := 9) (v := ?_) rfl (by kernel_rfl) (by kernel_rfl) (by kernel_rfl) (fun _ _ _ h => h) (Or.inl ⟨by rfl, ?_⟩) (by assumption) ?_
  rotate_left
  · (intro wx hSw; (try dsimp only at hSw); obtain ⟨⟨_, _, _, _, _, _, _, _⟩, ⟨_, _, _, _, _, _, _, _⟩, _, _, ⟨_, _, _, _⟩, _, _, _, _⟩ := HALL6.out _ hSw; go_simp; try with_reducible rfl)
  try simp only [Act.put, List.getElem_toArray, List.getElem_cons_succ, List.getElem_cons_zero, List.setIfInBounds_toArray, List.set_cons_zero, List.set_cons_succ]
  refine wpAnyH_take (i := 10) (v := ?_) rfl (by kernel_rfl) (by kernel_rfl) (by kernel_rfl) (fun _ _ _ h => h) (Or.inl ⟨by rfl, ?_⟩) (by assumption) ?_
  rotate_left
  · (intro wx hSw; (try dsimp only at hSw); obtain ⟨⟨_, _, _, _, _, _, _, _⟩, ⟨_, _, _, _, _, _, _, _⟩, _, _, ⟨_, _, _, _⟩, _, _, _, _⟩ := HALL6.out _ hSw; go_simp; try with_reducible rfl)
  try simp only [Act.put, List.getElem_toArray, List.getElem_cons_succ, List.getElem_cons_zero, List.setIfInBounds_toArray, List.set_cons_zero, List.set_cons_succ]
  refine wpAnyH_ready (rs := [11]) (by kernel_rfl) (by simp) (AllReadyH.cons rfl (fun K hK => ?_) AllReadyH.nil)
  go_simp
  refine (rsame_any _ _ _ _ _ _ _ _ _).mono ?_
  rintro x q4 ⟨rfl, b9⟩
  rw [SC.out]
  have BN := Lib.hid b9
  clear b9
  try go_wp2_with fail
  refine hK.out _ _ ?_ (fun hHeld => ?_)
  · exact hHeld.trans (BN.out.mono hHeld.size)
  clear hK K
  try simp only [Act.put, List.getElem_toArray, List.getElem_cons_succ, List.getElem_cons_zero, List.setIfInBounds_toArray, List.set_cons_zero, List.set_cons_succ]
  refine wpAnyH_take (i := 12) (v := ?_) rfl (by kernel_rfl) (by kernel_rfl) (by kernel_rfl) (fun _ _ _ h => h) (Or.inl ⟨by rfl, ?_⟩) (by assumption) ?_
  rotate_left
  · (intro wx hSw; (try dsimp only at hSw); go_simp; try with_reducible rfl)
  try simp only [Act.put, List.getElem_toArray, List.getElem_cons_succ, List.getElem_cons_zero, List.setIfInBounds_toArray, List.set_cons_zero, List.set_cons_succ]
  refine wpAnyH_take (i := 13) (v := ?_) rfl (by kernel_rfl) (by kernel_rfl) (by kernel_rfl) (fun _ _ _ h => h) (Or.inl ⟨by rfl, ?_⟩) (by assumption) ?_
  rotate_left
  · (intro wx hSw; (try dsimp only at hSw); go_simp; try with_reducible rfl)
  try simp only [Act.put, List.getElem_toArray, List.getElem_cons_succ, List.getElem_cons_zero, List.setIfInBounds_toArray, List.set_cons_zero, List.set_cons_succ]
  refine wpAnyH_take (i := 14) (v := ?_) rfl (by kernel_rfl) (by kernel_rfl) (by kernel_rfl) (fun _ _ _ h => h) (Or.inl ⟨by rfl, ?_⟩) (by assumption) ?_
  rotate_left
  · (intro wx hSw; (try dsimp only at hSw); go_simp; try with_reducible rfl)
  try simp only [Act.put, List.getElem_toArray, List.getElem_cons_succ, List.getElem_cons_zero, List.setIfInBounds_toArray, List.set_cons_zero, List.set_cons_succ]
  refine wpAnyH_take (i := 15) (v := ?_) rfl (by kernel_rfl) (by kernel_rfl) (by kernel_rfl) (fun _ _ _ h => h) (Or.inl ⟨by rfl, ?_⟩) (by assumption) ?_
  rotate_left
  · (intro wx hSw; (try dsimp only at hSw); go_simp; try with_reducible rfl)
  try simp only [Act.put, List.getElem_toArray, List.getElem_cons_succ, List.getElem_cons_zero, List.setIfInBounds_toArray, List.set_cons_zero, List.set_cons_succ]
  refine wpAnyH_take (i := 16) (v := ?_) rfl (by kernel_rfl) (by kernel_rfl) (by kernel_rfl) (fun _ _ _ h => h) (Or.inl ⟨by rfl, ?_⟩) (by assumption) ?_
  rotate_left
  · (intro wx hSw; (try dsimp only at hSw); go_simp; try with_reducible rfl)
  try simp only [Act.put, List.getElem_toArray, List.getElem_cons_succ, List.getElem_cons_zero, List.setIfInBounds_toArray, List.set_cons_zero, List.set_cons_succ]
  refine wpAnyH_take (i := 17) (v := ?_) rfl (by kernel_rfl) (by kernel_rfl) (by kernel_rfl) (fun _ _ _ h => h) (Or.inl ⟨by rfl, ?_⟩) (by assumption) ?_
  rotate_left
  · (intro wx hSw; (try dsimp only at hSw); go_simp; try with_reducible rfl)
  try simp only [Act.put, List.getElem_toArray, List.getElem_cons_succ, List.getElem_cons_zero, List.setIfInBounds_toArray, List.set_cons_zero, List.set_cons_succ]
  refine wpAnyH_take (i := 18) (v := ?_) rfl (by kernel_rfl) (by kernel_rfl) (by kernel_rfl) (fun _ _ _ h => h) (Or.inl ⟨by rfl, ?_⟩) (by assumption) ?_
  rotate_left
  · (intro wx hSw; (try dsimp only at hSw); go_simp; try with_reducible rfl)
  try simp only [Act.put, List.getElem_toArray, List.getElem_cons_succ, List.getElem_cons_zero, List.setIfInBounds_toArray, List.set_cons_zero, List.set_cons_succ]
  refine wpAnyH_take (i := 19) (v := ?_) rfl (by kernel_rfl) (by kernel_rfl) (by kernel_rfl) (fun _ _ _ h => h) (Or.inl ⟨by rfl, ?_⟩) (by assumption) ?_
  rotate_left
  · (intro wx hSw; (try dsimp only at hSw); go_simp; try with_reducible rfl)
  try simp only [Act.put, List.getElem_toArray, List.getElem_cons_succ, List.getElem_cons_zero, List.setIfInBounds_toArray, List.set_cons_zero, List.set_cons_succ]
  refine wpAnyH_take (i := 20) (v := ?_) rfl (by kernel_rfl) (by kernel_rfl) (by kernel_rfl) (fun _ _ _ h => h) (Or.inl ⟨by rfl, ?_⟩) (by assumption) ?_
  rotate_left
  · (intro wx hSw; (try dsimp only at hSw); obtain ⟨⟨_, _, _, _, _, _, _, _⟩, ⟨_, _, _, _, _, _, _, _⟩, _, _, ⟨_, _, _, _⟩, _, _, _, _⟩ := HALL6.out _ hSw; go_simp; try with_reducible rfl)
  try simp only [Act.put, List.getElem_toArray, List.getElem_cons_succ, List.getElem_cons_zero, List.setIfInBounds_toArray, List.set_cons_zero, List.set_cons_succ]
  refine wpAnyH_take (i := 21) (v := ?_) rfl (by kernel_rfl) (by kernel_rfl) (by kernel_rfl) (fun _ _ _ h => h) (Or.inl ⟨by rfl, ?_⟩) (by assumption) ?_
  rotate_left
  · (intro wx hSw; (try dsimp only at hSw); go_simp; try with_reducible rfl)
  try simp only [Act.put, List.getElem_toArray, List.getElem_cons_succ, List.getElem_cons_zero, List.setIfInBounds_toArray, List.set_cons_zero, List.set_cons_succ]
  refine wpAnyH_take (i := 23) (v := ?_) rfl (by kernel_rfl) (by kernel_rfl) (by kernel_rfl) (fun _ _ _ h => h) (Or.inl ⟨by rfl, ?_⟩) (by assumption) ?_
  rotate_left
  · (intro wx hSw; (try dsimp only at hSw); obtain ⟨⟨_, _, _, _, _, _, _, _⟩, ⟨_, _, _, _, _, _, _, _⟩, _, _, ⟨_, _, _, _⟩, _, _, _, _⟩ := HALL6.out _ hSw; go_simp; try with_reducible rfl)
  try simp only [Act.put, List.getElem_toArray, List.getElem_cons_succ, List.getElem_cons_zero, List.setIfInBounds_toArray, List.set_cons_zero, List.set_cons_succ]
  refine wpAnyH_take (i := 24) (v := ?_) rfl (by kernel_rfl) (by kernel_rfl) (by kernel_rfl) (fun _ _ _ h => h) (Or.inl ⟨by rfl, ?_⟩) (by assumption) ?_
  rotate_left
  · (intro wx hSw; (try dsimp only at hSw); go_simp; try with_reducible rfl)
  try simp only [Act.put, List.getElem_toArray, List.getElem_cons_succ, List.getElem_cons_zero, List.setIfInBounds_toArray, List.set_cons_zero, List.set_cons_succ]
  refine wpAnyH_ready (rs := [22]) (by kernel_rfl) (by simp) (AllReadyH.cons rfl (fun K hK => ?_) AllReadyH.nil)
  go_simp
  obtain ⟨_, _, ja, jb, _⟩ := HALL6.out _ hHeld
  refine (cell_ro a Aa ca w.heap.size name q4 ja (by have := hHeld.size; have := HS6.out; omega) (by have := LEN.out; omega)).mono ?_
  rintro x q5 ⟨rfl, b9⟩
  rw [GY.out]
  have BN := Lib.hid b9
  clear b9
  clear ja jb
  try go_wp2_with fail
  refine hK.out _ _ ?_ (fun hHeld => ?_)
  · exact hHeld.trans (BN.out.mono hHeld.size)
  clear hK K
  try simp only [Act.put, List.getElem_toArray, List.getElem_cons_succ, List.getElem_cons_zero, List.setIfInBounds_toArray, List.set_cons_zero, List.set_cons_succ]
  refine wpAnyH_ready (rs := [25]) (by kernel_rfl) (by simp) (AllReadyH.cons rfl (fun K hK => ?_) AllReadyH.nil)
  go_simp
  obtain ⟨_, _, ja, jb, _⟩ := HALL6.out _ hHeld
  refine (rcell_ro a Aa ca w.heap.size name q5 ja (by have := hHeld.size; have := HS6.out; omega) (by have := LEN.out; omega)).mono ?_
  rintro x q6 ⟨rfl, b9⟩
  rw [GY.out]
  have BN := Lib.hid b9
  clear b9
  clear ja jb
  try go_wp2_with fail
  refine hK.out _ _ ?_ (fun hHeld => ?_)
  · exact hHeld.trans (BN.out.mono hHeld.size)
  clear hK K
  try simp only [Act.put, List.getElem_toArray, List.getElem_cons_succ, List.getElem_cons_zero, List.setIfInBounds_toArray, List.set_cons_zero, List.set_cons_succ]
  refine wpAnyH_ready (rs := [26]) (by kernel_rfl) (by simp) (AllReadyH.cons rfl (fun K hK => ?_) AllReadyH.nil)
  go_simp
  refine (rsame_any _ _ _ _ _ _ _ _ _).mono ?_
  rintro x q7 ⟨rfl, b9⟩
  rw [SY.out]
  have BN := Lib.hid b9
  clear b9
  try go_wp2_with fail
  refine hK.out _ _ ?_ (fun hHeld => ?_)
  · exact hHeld.trans (BN.out.mono hHeld.size)
  clear hK K
  try simp only [Act.put, List.getElem_toArray, List.getElem_cons_succ, List.getElem_cons_zero, List.setIfInBounds_toArray, List.set_cons_zero, List.set_cons_succ]
  refine wpAnyH_take (i := 27) (v := ?_) rfl (by kernel_rfl) (by kernel_rfl) (by kernel_rfl) (fun _ _ _ h => h) (Or.inl ⟨by rfl, ?_⟩) (by assumption) ?_
  rotate_left
  · (intro wx hSw; (try dsimp only at hSw); go_simp; try with_reducible rfl)
  try simp only [Act.put, List.getElem_toArray, List.getElem_cons_succ, List.getElem_cons_zero, List.setIfInBounds_toArray, List.set_cons_zero, List.set_cons_succ]
  refine wpAnyH_take (i := 28) (v := ?_) rfl (by kernel_rfl) (by kernel_rfl) (by kernel_rfl) (fun _ _ _ h => h) (Or.inl ⟨by rfl, ?_⟩) (by assumption) ?_
  rotate_left
  · (intro wx hSw; (try dsimp only at hSw); go_simp; try with_reducible rfl)
  try simp only [Act.put, List.getElem_toArray, List.getElem_cons_succ, List.getElem_cons_zero, List.setIfInBounds_toArray, List.set_cons_zero, List.set_cons_succ]
  refine wpAnyH_take (i := 29) (v := ?_) rfl (by kernel_rfl) (by kernel_rfl) (by kernel_rfl) (fun _ _ _ h => h) (Or.inl ⟨by rfl, ?_⟩) (by assumption) ?_
  rotate_left
  · (intro wx hSw; (try dsimp only at hSw); obtain ⟨⟨_, _, _, _, _, _, _, _⟩, ⟨_, _, _, _, _, _, _, _⟩, _, _, ⟨_, _, _, _⟩, _, _, _, _⟩ := HALL6.out _ hSw; go_simp; try with_reducible rfl)
  try simp only [Act.put, List.getElem_toArray, List.getElem_cons_succ, List.getElem_cons_zero, List.setIfInBounds_toArray, List.set_cons_zero, List.set_cons_succ]
  refine wpAnyH_take (i := 30) (v := ?_) rfl (by kernel_rfl) (by kernel_rfl) (by kernel_rfl) (fun _ _ _ h => h) (Or.inl ⟨by rfl, ?_⟩) (by assumption) ?_
  rotate_left
  · (intro wx hSw; (try dsimp only at hSw); go_simp; try with_reducible rfl)
  try simp only [Act.put, List.getElem_toArray, List.getElem_cons_succ, List.getElem_cons_zero, List.setIfInBounds_toArray, List.set_cons_zero, List.set_cons_succ]
  refine wpAnyH_take (i := 31) (v := ?_) rfl (by kernel_rfl) (by kernel_rfl) (by kernel_rfl) (fun _ _ _ h => h) (Or.inl ⟨by rfl, ?_⟩) (by assumption) ?_
  rotate_left
  · (intro wx hSw; (try dsimp only at hSw); go_simp; try with_reducible rfl)
  try simp only [Act.put, List.getElem_toArray, List.getElem_cons_succ, List.getElem_cons_zero, List.setIfInBounds_toArray, List.set_cons_zero, List.set_cons_succ]
  refine wpAnyH_take (i := 33) (v := ?_) rfl (by kernel_rfl) (by kernel_rfl) (by kernel_rfl) (fun _ _ _ h => h) (Or.inl ⟨by rfl, ?_⟩) (by assumption) ?_
  rotate_left
  · (intro wx hSw; (try dsimp only at hSw); obtain ⟨⟨_, _, _, _, _, _, _, _⟩, ⟨_, _, _, _, _, _, _, _⟩, _, _, ⟨_, _, _, _⟩, _, _, _, _⟩ := HALL6.out _ hSw; go_simp; try with_reducible rfl)
  try simp only [Act.put, List.getElem_toArray, List.getElem_cons_succ, List.getElem_cons_zero, List.setIfInBounds_toArray, List.set_cons_zero, List.set_cons_succ]
  refine wpAnyH_take (i := 34) (v := ?_) rfl (by kernel_rfl) (by kernel_rfl) (by kernel_rfl) (fun _ _ _ h => h) (Or.inl ⟨by rfl, ?_⟩) (by assumption) ?_
  rotate_left
  · (intro wx hSw; (try dsimp only at hSw); go_simp; try with_reducible rfl)
  try simp only [Act.put, List.getElem_toArray, List.getElem_cons_succ, List.getElem_cons_zero, List.setIfInBounds_toArray, List.set_cons_zero, List.set_cons_succ]
  refine wpAnyH_take (i := 35) (v := ?_) rfl (by kernel_rfl) (by kernel_rfl) (by kernel_rfl) (fun _ _ _ h => h) (Or.inl ⟨by rfl, ?_⟩) (by assumption) ?_
  rotate_left
  · (intro wx hSw; (try dsimp only at hSw); go_simp; try with_reducible rfl)
  try simp only [Act.put, List.getElem_toArray, List.getElem_cons_succ, List.getElem_cons_zero, List.setIfInBounds_toArray, List.set_cons_zero, List.set_cons_succ]
  refine wpAnyH_ready (rs := [32]) (by kernel_rfl) (by simp) (AllReadyH.cons rfl (fun K hK => ?_) AllReadyH.nil)
  go_simp
  obtain ⟨_, _, ja, jb, _⟩ := HALL6.out _ hHeld
  refine (seen_ro a Aa ca w.heap.size part now q7 ja (by have := hHeld.size; have := HS6.out; omega) (by have := LEN.out; omega)).mono ?_
  rintro x q8 ⟨sv, rfl, h1⟩
  rw [MX.out, HC.out] at h1
  obtain ⟨A18, c18, rfl, _⟩ := h1.slice
  have H8 := Lib.hid h1
  have BN := Lib.hid h1.below
  clear h1 ja jb
  try go_wp2_with fail
  refine hK.out _ _ ?_ (fun hHeld => ?_)
  · exact hHeld.trans (BN.out.mono hHeld.size)
  clear hK K
  try simp only [Act.put, List.getElem_toArray, List.getElem_cons_succ, List.getElem_cons_zero, List.setIfInBounds_toArray, List.set_cons_zero, List.set_cons_succ]
  refine wpAnyH_ready (rs := [36]) (by kernel_rfl) (by simp) (AllReadyH.cons rfl (fun K hK => ?_) AllReadyH.nil)
  go_simp
  obtain ⟨_, _, ja, jb, _⟩ := HALL6.out _ hHeld
  refine (rseen_ro a Aa ca w.heap.size part now q8 ja (by have := hHeld.size; have := HS6.out; omega) (by have := LEN.out; omega) Ua.out.rise HG0.out).mono ?_
  rintro x q9 ⟨sv, rfl, h1⟩
  rw [MX.out, HC.out] at h1
  obtain ⟨A19, c19, rfl, _⟩ := h1.slice
  have H9 := Lib.hid h1
  have BN := Lib.hid h1.below
  clear h1 ja jb
  try go_wp2_with fail
  refine hK.out _ _ ?_ (fun hHeld => ?_)
  · exact hHeld.trans (BN.out.mono hHeld.size)
  clear hK K
  try simp only [Act.put, List.getElem_toArray, List.getElem_cons_succ, List.getElem_cons_zero, List.setIfInBounds_toArray, List.set_cons_zero, List.set_cons_succ]
  refine wpAnyH_ready (rs := [37]) (by kernel_rfl) (by simp) (AllReadyH.cons rfl (fun K hK => ?_) AllReadyH.nil)
  go_simp
  obtain ⟨A81, c81, e81, _, _, _, k81⟩ := (H8.out.on H9.out.below).slice
  injection e81 with e81 e82 e83
  subst e81; subst e83
  obtain ⟨A91, c91, e91, _, _, _, k91⟩ := H9.out.slice
  injection e91 with e91 e92 e93
  subst e91; subst e93
  refine (rsamecols_any _ _ _ _ _ _ q9.heap.size q9.heap.size C C q9 k81 k91 (Nat.le_refl _) (Nat.le_refl _) (by have := LEN.out; omega) (by have := LEN.out; omega)).mono ?_
  rintro x q10 ⟨rfl, b9⟩
  rw [decide_eq_true (rfl : C = C)]
  have BN := Lib.hid b9
  clear b9
  clear e82 e92 k81 k91
  try go_wp2_with fail
  refine hK.out _ _ ?_ (fun hHeld => ?_)
  · exact hHeld.trans (BN.out.mono hHeld.size)
  clear hK K
  try simp only [Act.put, List.getElem_toArray, List.getElem_cons_succ, List.getElem_cons_zero, List.setIfInBounds_toArray, List.set_cons_zero, List.set_cons_succ]
  refine wpAnyH_take (i := 38) (v := ?_) rfl (by kernel_rfl) (by kernel_rfl) (by kernel_rfl) (fun _ _ _ h => h) (Or.inl ⟨by rfl, ?_⟩) (by assumption) ?_
  rotate_left
  · (intro wx hSw; (try dsimp only at hSw); go_simp; try with_reducible rfl)
  try simp only [Act.put, List.getElem_toArray, List.getElem_cons_succ, List.getElem_cons_zero, List.setIfInBounds_toArray, List.set_cons_zero, List.set_cons_succ]
  refine wpAnyH_take (i := 39) (v := ?_) rfl (by kernel_rfl) (by kernel_rfl) (by kernel_rfl) (fun _ _ _ h => h) (Or.inl ⟨by rfl, ?_⟩) (by assumption) ?_
  rotate_left
  · (intro wx hSw; (try dsimp only at hSw); go_simp; try with_reducible rfl)
  try simp only [Act.put, List.getElem_toArray, List.getElem_cons_succ, List.getElem_cons_zero, List.setIfInBounds_toArray, List.set_cons_zero, List.set_cons_succ]
  refine wpAnyH_take (i := 40) (v := ?_) rfl (by kernel_rfl) (by kernel_rfl) (by kernel_rfl) (fun _ _ _ h => h) (Or.inl ⟨by rfl, ?_⟩) (by assumption) ?_
  rotate_left
  · (intro wx hSw; (try dsimp only at hSw); obtain ⟨⟨_, _, _, _, _, _, _, _⟩, ⟨_, _, _, _, _, _, _, _⟩, _, _, ⟨_, _, _, _⟩, _, _, _, _⟩ := HALL6.out _ hSw; go_simp; try with_reducible rfl)
  try simp only [Act.put, List.getElem_toArray, List.getElem_cons_succ, List.getElem_cons_zero, List.setIfInBounds_toArray, List.set_cons_zero, List.set_cons_succ]
  refine wpAnyH_take (i := 41) (v := ?_) rfl (by kernel_rfl) (by kernel_rfl) (by kernel_rfl) (fun _ _ _ h => h) (Or.inl ⟨by rfl, ?_⟩) (by assumption) ?_
  rotate_left
  · (intro wx hSw; (try dsimp only at hSw); go_simp; try with_reducible rfl)
  try simp only [Act.put, List.getElem_toArray, List.getElem_cons_succ, List.getElem_cons_zero, List.setIfInBounds_toArray, List.set_cons_zero, List.set_cons_succ]
  refine wpAnyH_take (i := 42) (v := ?_) rfl (by kernel_rfl) (by kernel_rfl) (by kernel_rfl) (fun _ _ _ h => h) (Or.inl ⟨by rfl, ?_⟩) (by assumption) ?_
  rotate_left
  · (intro wx hSw; (try dsimp only at hSw); go_simp; try with_reducible rfl)
  try simp only [Act.put, List.getElem_toArray, List.getElem_cons_succ, List.getElem_cons_zero, List.setIfInBounds_toArray, List.set_cons_zero, List.set_cons_succ]
  refine wpAnyH_take (i := 43) (v := ?_) rfl (by kernel_rfl) (by kernel_rfl) (by kernel_rfl) (fun _ _ _ h => h) (Or.inl ⟨by rfl, ?_⟩) (by assumption) ?_
  rotate_left
  · (intro wx hSw; (try dsimp only at hSw); go_simp; try with_reducible rfl)
  try simp only [Act.put, List.getElem_toArray, List.getElem_cons_succ, List.getElem_cons_zero, List.setIfInBounds_toArray, List.set_cons_zero, List.set_cons_succ]
  refine wpAnyH_take (i := 45) (v := ?_) rfl (by kernel_rfl) (by kernel_rfl) (by kernel_rfl) (fun _ _ _ h => h) (Or.inl ⟨by rfl, ?_⟩) (by assumption) ?_
  rotate_left
  · (intro wx hSw; (try dsimp only at hSw); obtain ⟨⟨_, _, _, _, _, _, _, _⟩, ⟨_, _, _, _, _, _, _, _⟩, _, _, ⟨_, _, _, _⟩, _, _, _, _⟩ := HALL6.out _ hSw; go_simp; try with_reducible rfl)
  try simp only [Act.put, List.getElem_toArray, List.getElem_cons_succ, List.getElem_cons_zero, List.setIfInBounds_toArray, List.set_cons_zero, List.set_cons_succ]
  refine wpAnyH_take (i := 46) (v := ?_) rfl (by kernel_rfl) (by kernel_rfl) (by kernel_rfl) (fun _ _ _ h => h) (Or.inl ⟨by rfl, ?_⟩) (by assumption) ?_
  rotate_left
  · (intro wx hSw; (try dsimp only at hSw); go_simp; try with_reducible rfl)
  try simp only [Act.put, List.getElem_toArray, List.getElem_cons_succ, List.getElem_cons_zero, List.setIfInBounds_toArray, List.set_cons_zero, List.set_cons_succ]
  refine wpAnyH_take (i := 47) (v := ?_) rfl (by kernel_rfl) (by kernel_rfl) (by kernel_rfl) (fun _ _ _ h => h) (Or.inl ⟨by rfl, ?_⟩) (by assumption) ?_
  rotate_left
  · (intro wx hSw; (try dsimp only at hSw); go_simp; try with_reducible rfl)
  try simp only [Act.put, List.getElem_toArray, List.getElem_cons_succ, List.getElem_cons_zero, List.setIfInBounds_toArray, List.set_cons_zero, List.set_cons_succ]
  refine wpAnyH_take (i := 48) (v := ?_) rfl (by kernel_rfl) (by kernel_rfl) (by kernel_rfl) (fun _ _ _ h => h) (Or.inl ⟨by rfl, ?_⟩) (by assumption) ?_
  rotate_left
  · (intro wx hSw; (try dsimp only at hSw); go_simp; try with_reducible rfl)
  try simp only [Act.put, List.getElem_toArray, List.getElem_cons_succ, List.getElem_cons_zero, List.setIfInBounds_toArray, List.set_cons_zero, List.set_cons_succ]
  refine wpAnyH_ready (rs := [44]) (by kernel_rfl) (by simp) (AllReadyH.cons rfl (fun K hK => ?_) AllReadyH.nil)
  go_simp
  obtain ⟨_, _, ja, jb, _⟩ := HALL6.out _ hHeld
  refine (is_ro a Aa ca w.heap.size part now st q10 ja (by have := hHeld.size; have := HS6.out; omega) (by have := LEN.out; omega)).mono ?_
  rintro x q11 ⟨rfl, b9⟩
  rw [IZ.out]
  have BN := Lib.hid b9
  clear b9
  clear ja jb
  try go_wp2_with fail
  refine hK.out _ _ ?_ (fun hHeld => ?_)
  · exact hHeld.trans (BN.out.mono hHeld.size)
  clear hK K
  try simp only [Act.put, List.getElem_toArray, List.getElem_cons_succ, List.getElem_cons_zero, List.setIfInBounds_toArray, List.set_cons_zero, List.set_cons_succ]
  refine wpAnyH_ready (rs := [49]) (by kernel_rfl) (by simp) (AllReadyH.cons rfl (fun K hK => ?_) AllReadyH.nil)
  go_simp
  obtain ⟨_, _, ja, jb, _⟩ := HALL6.out _ hHeld
  refine (ris_ro a Aa ca w.heap.size part now st q11 ja (by have := hHeld.size; have := HS6.out; omega) (by have := LEN.out; omega) Ua.out.rise HG0.out).mono ?_
  rintro x q12 ⟨rfl, b9⟩
  rw [IZ.out]
  have BN := Lib.hid b9
  clear b9
  clear ja jb
  try go_wp2_with fail
  refine hK.out _ _ ?_ (fun hHeld => ?_)
  · exact hHeld.trans (BN.out.mono hHeld.size)
  clear hK K
  try simp only [Act.put, List.getElem_toArray, List.getElem_cons_succ, List.getElem_cons_zero, List.setIfInBounds_toArray, List.set_cons_zero, List.set_cons_succ]
  refine wpAnyH_take (i := 50) (v := ?_) rfl (by kernel_rfl) (by kernel_rfl) (by kernel_rfl) (fun _ _ _ h => h) (Or.inl ⟨by rfl, ?_⟩) (by assumption) ?_
  rotate_left
  · (intro wx hSw; (try dsimp only at hSw); go_simp; try with_reducible rfl)
  try simp only [Act.put, List.getElem_toArray, List.getElem_cons_succ, List.getElem_cons_zero, List.setIfInBounds_toArray, List.set_cons_zero, List.set_cons_succ]
  refine wpAnyH_take (i := 51) (v := ?_) rfl (by kernel_rfl) (by kernel_rfl) (by kernel_rfl) (fun _ _ _ h => h) (Or.inl ⟨by rfl, ?_⟩) (by assumption) ?_
  rotate_left
  · (intro wx hSw; (try dsimp only at hSw); go_simp; try with_reducible rfl)
  try simp only [Act.put, List.getElem_toArray, List.getElem_cons_succ, List.getElem_cons_zero, List.setIfInBounds_toArray, List.set_cons_zero, List.set_cons_succ]
  refine wpAnyH_take (i := 52) (v := ?_) rfl (by kernel_rfl) (by kernel_rfl) (by kernel_rfl) (fun _ _ _ h => h) (Or.inl ⟨by rfl, ?_⟩) (by assumption) ?_
  rotate_left
  · (intro wx hSw; (try dsimp only at hSw); go_simp; try with_reducible rfl)
  try simp only [Act.put, List.getElem_toArray, List.getElem_cons_succ, List.getElem_cons_zero, List.setIfInBounds_toArray, List.set_cons_zero, List.set_cons_succ]
  refine wpAnyH_ready (rs := [53]) (by kernel_rfl) (by simp) (AllReadyH.cons rfl (fun K hK => ?_) AllReadyH.nil)
  go_simp
  refine (awake_any _).mono ?_
  rintro x q13 ⟨rfl, b9⟩
  have BN := Lib.hid b9
  clear b9
  try go_wp2_with fail
  refine hK.out _ _ ?_ (fun hHeld => ?_)
  · exact hHeld.trans (BN.out.mono hHeld.size)
  clear hK K
  try simp only [Act.put, List.getElem_toArray, List.getElem_cons_succ, List.getElem_cons_zero, List.setIfInBounds_toArray, List.set_cons_zero, List.set_cons_succ]
  refine wpAnyH_take (i := 54) (v := ?_) rfl (by kernel_rfl) (by kernel_rfl) (by kernel_rfl) (fun _ _ _ h => h) (Or.inl ⟨by rfl, ?_⟩) (by assumption) ?_
  rotate_left
  · (intro wx hSw; (try dsimp only at hSw); go_simp; try with_reducible rfl)
  try simp only [Act.put, List.getElem_toArray, List.getElem_cons_succ, List.getElem_cons_zero, List.setIfInBounds_toArray, List.set_cons_zero, List.set_cons_succ]
  refine wpAnyH_take (i := 55) (v := ?_) rfl (by kernel_rfl) (by kernel_rfl) (by kernel_rfl) (fun _ _ _ h => h) (Or.inl ⟨by rfl, ?_⟩) (by assumption) ?_
  rotate_left
  · (intro wx hSw; (try dsimp only at hSw); go_simp; try with_reducible rfl)
  try simp only [Act.put, List.getElem_toArray, List.getElem_cons_succ, List.getElem_cons_zero, List.setIfInBounds_toArray, List.set_cons_zero, List.set_cons_succ]
  refine wpAnyH_done (by kernel_rfl) ?_ _
  have h9 := Lib.hid (HB6.out.trans (hHeld.mono (by have := HS6.out; omega)))
  clear hHeld
  go_wp2
  go_ret
  exact ⟨rfl, h9.out⟩
end Go.Proofs.Ytnoblhacgmeddaa
/-
  RowAll, its arguments one by one.
-/
set_option linter.unusedVariables false
namespace Go.Proofs.Ytnoblhacgmeddaa
open Go Go.RowKit

theorem roIn_of' {w : World} {k : ByteArray} {ce : Ce} {g x : Int} {A : Option Addr} {n c : Nat} {l : Cols} (hr : RdK w w.heap.size A n l) (hn : n ≤ c) : RoIn w w.heap.size ⟨k, ce, g, x, l⟩ A c := by
  have e : l.length = n := hr.1
  subst e
  exact ⟨hr, hn⟩
theorem call_rallB (k0 : ByteArray) (ce0 : Ce) (g0 x0 : Int) (A0 : Option Addr) (n0 c0 : Nat) (l0 : Cols) (k1 : ByteArray) (ce1 : Ce) (g1 x1 : Int) (A1 : Option Addr) (n1 c1 : Nat) (l1 : Cols) (part now : Int) (st : Bool) (name : ByteArray) (w : World)
    (wr0 : RdK w w.heap.size A0 n0 l0) (wn0 : n0 ≤ c0) (wc0 : c0 ≤ maxLen) (we0 : A0 = none → c0 = 0) (wl0 : ∀ x ∈ l0, ColOk x) (wk0 : k0.size ≤ maxLen) (wv0 : ce0.s.size ≤ maxLen) (wa0 : (Lit.int .i64 ce0.a).wf = true) (wb0 : (Lit.int .i64 ce0.e).wf = true) (wg0 : (Lit.int .i64 g0).wf = true) (wx0 : (Lit.int .i64 x0).wf = true)
    (wr1 : RdK w w.heap.size A1 n1 l1) (wn1 : n1 ≤ c1) (wc1 : c1 ≤ maxLen) (we1 : A1 = none → c1 = 0) (wl1 : ∀ x ∈ l1, ColOk x) (wk1 : k1.size ≤ maxLen) (wv1 : ce1.s.size ≤ maxLen) (wa1 : (Lit.int .i64 ce1.a).wf = true) (wb1 : (Lit.int .i64 ce1.e).wf = true) (wg1 : (Lit.int .i64 g1).wf = true) (wx1 : (Lit.int .i64 x1).wf = true)
    (w2 : (Lit.int .i64 part).wf = true) (w3 : (Lit.int .i64 now).wf = true) (w5 : name.size ≤ maxLen) :
    Calls Try.prog 3 #[.agg #[.string k0, .string ce0.s, .bool ce0.d, .int .i64 ce0.a, .int .i64 ce0.e, .int .i64 g0, .int .i64 x0, .slice A0 n0 c0], .agg #[.string k1, .string ce1.s, .bool ce1.d, .int .i64 ce1.a, .int .i64 ce1.e, .int .i64 g1, .int .i64 x1, .slice A1 n1 c1], .int .i64 part, .int .i64 now, .bool st, .string name] w fun e w' => e = .returned (.bool true) ∧ Below w.heap.size w w' := by
  have e0 : l0.length = n0 := wr0.1
  have e1 : l1.length = n1 := wr1.1
  subst e0; subst e1
  exact call_rall ⟨k0, ce0, g0, x0, l0⟩ ⟨k1, ce1, g1, x1, l1⟩ A0 A1 c0 c1 part now st name w (roIn_of' wr0 wn0) (roIn_of' wr1 wn1)
end Go.Proofs.Ytnoblhacgmeddaa
/-
  RowAll: for every input the law returns true, and each argument reads as it read. No condition.
-/
set_option linter.unusedVariables false
namespace Go.Proofs.Ytnoblhacgmeddaa.lawRowAll
open Go Go.ChangeShapes Go.WideShapes Go.ChangeAt Go.RowKit
open Go.ChangeMaps (open_string shut_string)

theorem own : ownKnob Try.prog.godebug = none := by kernel_rfl
theorem laidOut : laidOutB Try.prog = true := by kernel_rfl

set_option maxRecDepth 100000 in
theorem lifted (os : Os) (started : os.Started) (H : Type) (enc : TypeId × Value → H) :
    ReturnsInHanded {} Try.checked os 3 .any (Rows.rowAllSpec.pre6 enc Try.prog Try.f3 Rows.rowAllRow.domain false) (Rows.rowAllSpec.post enc Try.prog Try.f3 false true false false) := by
  refine returnsInHanded_of_change (C := Try.checked) own started (by kernel_rfl) Try.func3
    (ChangeSpec.witness6 (enc := enc) (C := Try.checked) false ⟨#[], #[.agg #[.string ⟨#[]⟩, .string ⟨#[]⟩, .bool false, .int .i64 0, .int .i64 0, .int .i64 0, .int .i64 0, .slice none 0 0], .agg #[.string ⟨#[]⟩, .string ⟨#[]⟩, .bool false, .int .i64 0, .int .i64 0, .int .i64 0, .int .i64 0, .slice none 0 0], .int .i64 0, .int .i64 0, .bool false, .string ⟨#[]⟩], []⟩ 8 (by kernel_rfl) (by kernel_rfl) (by kernel_rfl) (by kernel_rfl)) ?_
  intro W base args ds gs before hval0 hW hcnd _
  have hval : ∀ (j : Nat) t v, Try.f3.params[j]? = some t → args[j]? = some v → Value.okWide Try.prog W .any base t v := hval0
  have hW' := hW
  obtain ⟨p, q, hA0, hV, rfl, hfz, hnd⟩ := hW
  have hA : DataW.TrodAll enc Try.prog W 0 (fun _ => true) true Try.f3.params.toList args.toList ds p := hA0
  rw [Try.params3] at hA hval
  obtain ⟨v0, vs0, d0, ds0, p0, q0, hargs, rfl, rfl, h0, r0⟩ := trodAll_cons hA
  obtain ⟨v1, vs1, d1, ds1, p1, q1, rfl, rfl, rfl, h1, r1⟩ := trodAll_cons r0
  obtain ⟨v2, vs2, d2, ds2, p2, q2, rfl, rfl, rfl, h2, r2⟩ := trodAll_cons r1
  obtain ⟨v3, vs3, d3, ds3, p3, q3, rfl, rfl, rfl, h3, r3⟩ := trodAll_cons r2
  obtain ⟨v4, vs4, d4, ds4, p4, q4, rfl, rfl, rfl, h4, r4⟩ := trodAll_cons r3
  obtain ⟨v5, vs5, d5, ds5, p5, q5, rfl, rfl, rfl, h5, r5⟩ := trodAll_cons r4
  obtain ⟨rfl, rfl, rfl⟩ := trodAll_nil r5
  obtain rfl : args = #[v0, v1, v2, v3, v4, v5] := by cases args; simp_all
  obtain ⟨rfl, rfl⟩ := trodVars_none hV
  have t0 := h0
  obtain ⟨k0, ce0, g0, x0, A0, n0, c0, l0, rfl, wr0, wn0, wc0, we0, wl0, wk0, wv0, wa0, wb0, wg0, wx0⟩ := open_ro (hval 0 26 v0 rfl rfl) h0
  have t1 := h1
  obtain ⟨k1, ce1, g1, x1, A1, n1, c1, l1, rfl, wr1, wn1, wc1, we1, wl1, wk1, wv1, wa1, wb1, wg1, wx1⟩ := open_ro (hval 1 26 v1 rfl rfl) h1
  obtain ⟨a2, rfl, rfl, rfl, w2⟩ := open_int Try.underlying3 (hval 2 3 v2 rfl rfl) h2
  obtain ⟨a3, rfl, rfl, rfl, w3⟩ := open_int Try.underlying3 (hval 3 3 v3 rfl rfl) h3
  obtain ⟨a4, rfl, rfl, rfl⟩ := open_bool Try.underlying4 (hval 4 4 v4 rfl rfl) h4
  obtain ⟨a5, rfl, rfl, rfl, w5⟩ := open_string Try.underlying9 (hval 5 9 v5 rfl rfl) h5
  clear hA0 hval0
  refine (call_rallB k0 ce0 g0 x0 A0 n0 c0 l0 k1 ce1 g1 x1 A1 n1 c1 l1 a2 a3 a4 a5 W wr0 wn0 wc0 we0 wl0 wk0 wv0 wa0 wb0 wg0 wx0 wr1 wn1 wc1 we1 wl1 wk1 wv1 wa1 wb1 wg1 wx1 w2 w3 w5).mono fun e W' ⟨he, bel⟩ => ?_
  subst he
  exact ⟨_, rfl, _, _, _, [], _, [], hW', trodAll_mk1 (shut_bool Try.underlying4 _), (trodAll_cons_mk (Below.trod laidOut (by kernel_rfl) (of_decide_eq_true (by kernel_rfl)) t0 bel (trod_lt1 t0)) (trodAll_cons_mk (Below.trod laidOut (by kernel_rfl) (of_decide_eq_true (by kernel_rfl)) t1 bel (trod_lt1 t1)) (trodAll_cons_mk (shut_int Try.underlying3 w2) (trodAll_cons_mk (shut_int Try.underlying3 w3) (trodAll_cons_mk (shut_bool Try.underlying4 _) (trodAll_cons_mk (shut_string Try.underlying9 w5) trodAll_mk0)))))), rfl, bel.frame _, fun h => by cases h⟩

theorem over : Rows.rowAllRow.holds Try.pinned (OpenSpec.ofChange Rows.rowAllSpec) :=
  OpenClaim.holds_of_wide 3 Try.f3 rfl rfl rfl rfl rfl rfl rfl ⟨rfl, rfl, rfl, rfl, rfl⟩ rfl rfl rfl rfl rfl (by kernel_rfl) Try.func3 (by kernel_rfl)
    (of_decide_eq_true (by kernel_rfl)) (by unfold Func.isWrapper; first | (rw [if_pos (by decide +kernel)]; kernel_rfl) | (rw [if_neg (by decide +kernel)]; exact ⟨rfl, rfl⟩))
    (fun os started H enc _ => lifted os started H enc)

theorem proved : Rows.RowAllSaid := over
end Go.Proofs.Ytnoblhacgmeddaa.lawRowAll
