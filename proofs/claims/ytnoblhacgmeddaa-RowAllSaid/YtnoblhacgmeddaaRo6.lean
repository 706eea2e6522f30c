/-
  The document's own Join of rows.
-/
import Derived.Test.YtnoblhacgmeddaaRo5
import Derived.Test.YtnoblhacgmeddaaRoJ
import Derived.Test.YtnoblhacgmeddaaRgz
set_option linter.unusedVariables false
set_option linter.unusedSimpArgs false
namespace Go.Proofs.Ytnoblhacgmeddaa
open Go Go.RowKit Go.Joins

theorem mrg_snoc (l k : Cols) (x : ByteArray × Ce) : mrg l (k ++ [x]) = putC (mrg l k) x.1 x.2 := by
  unfold mrg
  rw [List.foldl_append]
  rfl
set_option maxHeartbeats 4000000 in
theorem rjoinrow_any (k s k' s' : ByteArray) (d d' : Bool) (a e g h a' e' g' h' : Int) (A A' : Option Addr) (n c n' c' B B' : Nat) (l l' : Cols) (w : World) (hr : RdK w B A n l) (hr' : RdK w B' A' n' l') (hB : B ≤ w.heap.size) (hB' : B' ≤ w.heap.size) (hnc : n ≤ c) (hnc' : n' ≤ c') (hn : n + n' ≤ 1000) :
    Calls Try.prog 20 #[.agg #[.string k, .string s, .bool d, .int .i64 a, .int .i64 e, .int .i64 g, .int .i64 h, .slice A n c], .agg #[.string k', .string s', .bool d', .int .i64 a', .int .i64 e', .int .i64 g', .int .i64 h', .slice A' n' c']] w fun x w' => ∃ js jd ja je Aj cj, Ce.join ⟨s, d, a, e⟩ ⟨s', d', a', e'⟩ = ⟨js, jd, ja, je⟩ ∧ x = .returned (.agg #[.string k, .string js, .bool jd, .int .i64 ja, .int .i64 je, .int .i64 (max g g'), .int .i64 (max h h'), .slice Aj (mrg l l').length cj]) ∧ Cur w w' (.slice Aj (mrg l l').length cj) (mrg l l') := by
  obtain ⟨⟨js, jd, ja, je⟩, hj⟩ : ∃ c, Ce.join ⟨s, d, a, e⟩ ⟨s', d', a', e'⟩ = c := ⟨_, rfl⟩
  have J1 := Lib.hid (congrArg Ce.v hj)
  unfold Ce.v at J1
  have HJ := Lib.hid hj
  obtain ⟨mg, hmg⟩ : ∃ m, max g g' = m := ⟨_, rfl⟩
  obtain ⟨mh, hmh⟩ : ∃ m, max h h' = m := ⟨_, rfl⟩
  rw [hmg, hmh]
  obtain ⟨M, hM⟩ : ∃ M, mrg l l' = M := ⟨_, rfl⟩
  rw [hM]
  have HMM := Lib.hid hM
  clear hM
  have hl := hr.1
  have hl' := hr'.1
  have bz := (((Below.refl w.heap.size w).alloc (Nat.le_refl _) (.cells #[.string k, .string s, .bool d, .int .i64 a, .int .i64 e, .int .i64 g, .int .i64 h, .slice A n c] 26)).alloc (by simp) (.cells #[.string k', .string s', .bool d', .int .i64 a', .int .i64 e', .int .i64 g', .int .i64 h', .slice A' n' c'] 26)).alloc (by (simp <;> omega)) (.cells #[.string ⟨#[]⟩, .string ⟨#[]⟩, .bool false, .int .i64 0, .int .i64 0, .int .i64 0, .int .i64 0, .slice none 0 0] 26)
  have ro := (RoAt.new w k s d a e g h A n c).below (((Below.refl (w.heap.size + 1) _).alloc (by simp) (.cells #[.string k', .string s', .bool d', .int .i64 a', .int .i64 e', .int .i64 g', .int .i64 h', .slice A' n' c'] 26)).alloc (by (simp <;> omega)) (.cells #[.string ⟨#[]⟩, .string ⟨#[]⟩, .bool false, .int .i64 0, .int .i64 0, .int .i64 0, .int .i64 0, .slice none 0 0] 26)) (by omega)
  have ro' := (RoAt.new (w.alloc (.cells #[.string k, .string s, .bool d, .int .i64 a, .int .i64 e, .int .i64 g, .int .i64 h, .slice A n c] 26)) k' s' d' a' e' g' h' A' n' c').below ((Below.refl (w.heap.size + 2) _).alloc (by simp) (.cells #[.string ⟨#[]⟩, .string ⟨#[]⟩, .bool false, .int .i64 0, .int .i64 0, .int .i64 0, .int .i64 0, .slice none 0 0] 26)) (by simp)
  simp only [World.size_alloc] at ro'
  have hz := heap_alloc_new ((w.alloc (.cells #[.string k, .string s, .bool d, .int .i64 a, .int .i64 e, .int .i64 g, .int .i64 h, .slice A n c] 26)).alloc (.cells #[.string k', .string s', .bool d', .int .i64 a', .int .i64 e', .int .i64 g', .int .i64 h', .slice A' n' c'] 26)) (.cells #[.string ⟨#[]⟩, .string ⟨#[]⟩, .bool false, .int .i64 0, .int .i64 0, .int .i64 0, .int .i64 0, .slice none 0 0] 26)
  simp only [World.size_alloc] at hz
  obtain ⟨U, hU⟩ : ∃ U, U = ((w.alloc (.cells #[.string k, .string s, .bool d, .int .i64 a, .int .i64 e, .int .i64 g, .int .i64 h, .slice A n c] 26)).alloc (.cells #[.string k', .string s', .bool d', .int .i64 a', .int .i64 e', .int .i64 g', .int .i64 h', .slice A' n' c'] 26)).alloc (.cells #[.string ⟨#[]⟩, .string ⟨#[]⟩, .bool false, .int .i64 0, .int .i64 0, .int .i64 0, .int .i64 0, .slice none 0 0] 26) := ⟨_, rfl⟩
  have hUs : U.heap.size = w.heap.size + 3 := by rw [hU]; simp
  rw [← hU] at bz ro ro' hz
  have hall : ∀ w', Below U.heap.size U w' → (w'.cell? ⟨w.heap.size, 0, none⟩ = some (.string k) ∧ w'.cell? ⟨w.heap.size, 1, none⟩ = some (.string s) ∧ w'.cell? ⟨w.heap.size, 2, none⟩ = some (.bool d) ∧ w'.cell? ⟨w.heap.size, 3, none⟩ = some (.int .i64 a) ∧ w'.cell? ⟨w.heap.size, 4, none⟩ = some (.int .i64 e) ∧ w'.cell? ⟨w.heap.size, 5, none⟩ = some (.int .i64 g) ∧ w'.cell? ⟨w.heap.size, 6, none⟩ = some (.int .i64 h) ∧ w'.cell? ⟨w.heap.size, 7, none⟩ = some (.slice A n c)) ∧ (w'.cell? ⟨w.heap.size + 1, 0, none⟩ = some (.string k') ∧ w'.cell? ⟨w.heap.size + 1, 1, none⟩ = some (.string s') ∧ w'.cell? ⟨w.heap.size + 1, 2, none⟩ = some (.bool d') ∧ w'.cell? ⟨w.heap.size + 1, 3, none⟩ = some (.int .i64 a') ∧ w'.cell? ⟨w.heap.size + 1, 4, none⟩ = some (.int .i64 e') ∧ w'.cell? ⟨w.heap.size + 1, 5, none⟩ = some (.int .i64 g') ∧ w'.cell? ⟨w.heap.size + 1, 6, none⟩ = some (.int .i64 h') ∧ w'.cell? ⟨w.heap.size + 1, 7, none⟩ = some (.slice A' n' c')) ∧ RdK w' B A n l ∧ RdK w' B' A' n' l' := fun w' hb =>
    ⟨ro.below hb (by omega), ro'.below hb (by omega), (hr.below (bz.mono hB)).below (hb.mono (by omega)), (hr'.below (bz.mono hB')).below (hb.mono (by omega))⟩
  have HALL := Lib.hid hall; have BZ := Lib.hid bz; have HUS := Lib.hid hUs; have HZ := Lib.hid hz; have HB := Lib.hid hB; have HB' := Lib.hid hB'; have MG := Lib.hid hmg; have MH := Lib.hid hmh; have HL := Lib.hid hl; have HL' := Lib.hid hl'
  clear hj hmg hmh bz ro ro' hz hUs hall hr hr' hB hB' hl hl'
  have mg1 := MG.out
  have mh1 := MH.out
  go_enter Try.func20, Try.ntmps20
  go_upto_region 1 with fail
  rw [← hU]
  clear hU
  go_cut [5] from 7 to 27 (fun s5 wx => ∃ r A1 m1 c1, s5 = .pointer (some ⟨r, 0, none⟩) ∧ U.heap.size ≤ r ∧ RJ wx r k js jd ja je mg mh A1 m1 c1 ∧ Cur U wx (.slice A1 m1 c1) l)
  case first =>
    refine wp_region_held_drew (S := fun w' => Below U.heap.size U w') (by kernel_rfl) ?_ (fun hHeld => ?_)
    · exact (Below.refl _ _).drew
    refine wpAnyH_take (i := 0) (v := ?_) rfl (by kernel_rfl) (by kernel_rfl) (by kernel_rfl) (fun _ _ _ h => h) (Or.inl ⟨by rfl, ?_⟩) (by assumption) ?_
    rotate_left
    · (intro wx hSw; (try dsimp only at hSw); go_simp; try with_reducible rfl)
    try simp only [Act.put, List.getElem_toArray, List.getElem_cons_succ, List.getElem_cons_zero, List.setIfInBounds_toArray, List.set_cons_zero, List.set_cons_succ]
    refine wpAnyH_take (i := 1) (v := ?_) rfl (by kernel_rfl) (by kernel_rfl) (by kernel_rfl) (fun _ _ _ h => h) (Or.inl ⟨by rfl, ?_⟩) (by assumption) ?_
    rotate_left
    · (intro wx hSw; (try dsimp only at hSw); obtain ⟨⟨_, _, _, _, _, _, _, _⟩, ⟨_, _, _, _, _, _, _, _⟩, _⟩ := HALL.out _ hSw; go_simp; try with_reducible rfl)
    try simp only [Act.put, List.getElem_toArray, List.getElem_cons_succ, List.getElem_cons_zero, List.setIfInBounds_toArray, List.set_cons_zero, List.set_cons_succ]
    refine wpAnyH_take (i := 2) (v := ?_) rfl (by kernel_rfl) (by kernel_rfl) (by kernel_rfl) (fun _ _ _ h => h) (Or.inl ⟨by rfl, ?_⟩) (by assumption) ?_
    rotate_left
    · (intro wx hSw; (try dsimp only at hSw); go_simp; try with_reducible rfl)
    try simp only [Act.put, List.getElem_toArray, List.getElem_cons_succ, List.getElem_cons_zero, List.setIfInBounds_toArray, List.set_cons_zero, List.set_cons_succ]
    refine wpAnyH_take (i := 3) (v := ?_) rfl (by kernel_rfl) (by kernel_rfl) (by kernel_rfl) (fun _ _ _ h => h) (Or.inl ⟨by rfl, ?_⟩) (by assumption) ?_
    rotate_left
    · (intro wx hSw; (try dsimp only at hSw); obtain ⟨⟨_, _, _, _, _, _, _, _⟩, ⟨_, _, _, _, _, _, _, _⟩, _⟩ := HALL.out _ hSw; go_simp; try with_reducible rfl)
    try simp only [Act.put, List.getElem_toArray, List.getElem_cons_succ, List.getElem_cons_zero, List.setIfInBounds_toArray, List.set_cons_zero, List.set_cons_succ]
    refine wpAnyH_take (i := 4) (v := ?_) rfl (by kernel_rfl) (by kernel_rfl) (by kernel_rfl) (fun _ _ _ h => h) (Or.inl ⟨by rfl, ?_⟩) (by assumption) ?_
    rotate_left
    · (intro wx hSw; (try dsimp only at hSw); go_simp; try with_reducible rfl)
    try simp only [Act.put, List.getElem_toArray, List.getElem_cons_succ, List.getElem_cons_zero, List.setIfInBounds_toArray, List.set_cons_zero, List.set_cons_succ]
    refine wpAnyH_take (i := 5) (v := ?_) rfl (by kernel_rfl) (by kernel_rfl) (by kernel_rfl) (fun _ _ _ h => h) (Or.inl ⟨by rfl, ?_⟩) (by assumption) ?_
    rotate_left
    · (intro wx hSw; (try dsimp only at hSw); obtain ⟨⟨_, _, _, _, _, _, _, _⟩, ⟨_, _, _, _, _, _, _, _⟩, _⟩ := HALL.out _ hSw; go_simp; try with_reducible rfl)
    try simp only [Act.put, List.getElem_toArray, List.getElem_cons_succ, List.getElem_cons_zero, List.setIfInBounds_toArray, List.set_cons_zero, List.set_cons_succ]
    refine wpAnyH_take (i := 7) (v := ?_) rfl (by kernel_rfl) (by kernel_rfl) (by kernel_rfl) (fun _ _ _ h => h) (Or.inl ⟨by rfl, ?_⟩) (by assumption) ?_
    rotate_left
    · (intro wx hSw; (try dsimp only at hSw); go_simp; try with_reducible rfl)
    try simp only [Act.put, List.getElem_toArray, List.getElem_cons_succ, List.getElem_cons_zero, List.setIfInBounds_toArray, List.set_cons_zero, List.set_cons_succ]
    refine wpAnyH_take (i := 8) (v := ?_) rfl (by kernel_rfl) (by kernel_rfl) (by kernel_rfl) (fun _ _ _ h => h) (Or.inl ⟨by rfl, ?_⟩) (by assumption) ?_
    rotate_left
    · (intro wx hSw; (try dsimp only at hSw); obtain ⟨⟨_, _, _, _, _, _, _, _⟩, ⟨_, _, _, _, _, _, _, _⟩, _⟩ := HALL.out _ hSw; go_simp; try with_reducible rfl)
    try simp only [Act.put, List.getElem_toArray, List.getElem_cons_succ, List.getElem_cons_zero, List.setIfInBounds_toArray, List.set_cons_zero, List.set_cons_succ]
    refine wpAnyH_take (i := 9) (v := ?_) rfl (by kernel_rfl) (by kernel_rfl) (by kernel_rfl) (fun _ _ _ h => h) (Or.inl ⟨by rfl, ?_⟩) (by assumption) ?_
    rotate_left
    · (intro wx hSw; (try dsimp only at hSw); go_simp; try with_reducible rfl)
    try simp only [Act.put, List.getElem_toArray, List.getElem_cons_succ, List.getElem_cons_zero, List.setIfInBounds_toArray, List.set_cons_zero, List.set_cons_succ]
    refine wpAnyH_take (i := 10) (v := ?_) rfl (by kernel_rfl) (by kernel_rfl) (by kernel_rfl) (fun _ _ _ h => h) (Or.inl ⟨by rfl, ?_⟩) (by assumption) ?_
    rotate_left
    · (intro wx hSw; (try dsimp only at hSw); obtain ⟨⟨_, _, _, _, _, _, _, _⟩, ⟨_, _, _, _, _, _, _, _⟩, _⟩ := HALL.out _ hSw; go_simp; try with_reducible rfl)
    try simp only [Act.put, List.getElem_toArray, List.getElem_cons_succ, List.getElem_cons_zero, List.setIfInBounds_toArray, List.set_cons_zero, List.set_cons_succ]
    refine wpAnyH_take (i := 11) (v := ?_) rfl (by kernel_rfl) (by kernel_rfl) (by kernel_rfl) (fun _ _ _ h => h) (Or.inl ⟨by rfl, ?_⟩) (by assumption) ?_
    rotate_left
    · (intro wx hSw; (try dsimp only at hSw); go_simp; try with_reducible rfl)
    try simp only [Act.put, List.getElem_toArray, List.getElem_cons_succ, List.getElem_cons_zero, List.setIfInBounds_toArray, List.set_cons_zero, List.set_cons_succ]
    refine wpAnyH_take (i := 12) (v := ?_) rfl (by kernel_rfl) (by kernel_rfl) (by kernel_rfl) (fun _ _ _ h => h) (Or.inl ⟨by rfl, ?_⟩) (by assumption) ?_
    rotate_left
    · (intro wx hSw; (try dsimp only at hSw); go_simp; try with_reducible rfl)
    try simp only [Act.put, List.getElem_toArray, List.getElem_cons_succ, List.getElem_cons_zero, List.setIfInBounds_toArray, List.set_cons_zero, List.set_cons_succ]
    refine wpAnyH_take (i := 13) (v := ?_) rfl (by kernel_rfl) (by kernel_rfl) (by kernel_rfl) (fun _ _ _ h => h) (Or.inl ⟨by rfl, ?_⟩) (by assumption) ?_
    rotate_left
    · (intro wx hSw; (try dsimp only at hSw); obtain ⟨⟨_, _, _, _, _, _, _, _⟩, ⟨_, _, _, _, _, _, _, _⟩, _⟩ := HALL.out _ hSw; go_simp; try with_reducible rfl)
    try simp only [Act.put, List.getElem_toArray, List.getElem_cons_succ, List.getElem_cons_zero, List.setIfInBounds_toArray, List.set_cons_zero, List.set_cons_succ]
    refine wpAnyH_take (i := 14) (v := ?_) rfl (by kernel_rfl) (by kernel_rfl) (by kernel_rfl) (fun _ _ _ h => h) (Or.inl ⟨by rfl, ?_⟩) (by assumption) ?_
    rotate_left
    · (intro wx hSw; (try dsimp only at hSw); go_simp; try with_reducible rfl)
    try simp only [Act.put, List.getElem_toArray, List.getElem_cons_succ, List.getElem_cons_zero, List.setIfInBounds_toArray, List.set_cons_zero, List.set_cons_succ]
    refine wpAnyH_take (i := 15) (v := ?_) rfl (by kernel_rfl) (by kernel_rfl) (by kernel_rfl) (fun _ _ _ h => h) (Or.inl ⟨by rfl, ?_⟩) (by assumption) ?_
    rotate_left
    · (intro wx hSw; (try dsimp only at hSw); obtain ⟨⟨_, _, _, _, _, _, _, _⟩, ⟨_, _, _, _, _, _, _, _⟩, _⟩ := HALL.out _ hSw; go_simp; try with_reducible rfl)
    try simp only [Act.put, List.getElem_toArray, List.getElem_cons_succ, List.getElem_cons_zero, List.setIfInBounds_toArray, List.set_cons_zero, List.set_cons_succ]
    refine wpAnyH_take (i := 16) (v := ?_) rfl (by kernel_rfl) (by kernel_rfl) (by kernel_rfl) (fun _ _ _ h => h) (Or.inl ⟨by rfl, ?_⟩) (by assumption) ?_
    rotate_left
    · (intro wx hSw; (try dsimp only at hSw); go_simp; try with_reducible rfl)
    try simp only [Act.put, List.getElem_toArray, List.getElem_cons_succ, List.getElem_cons_zero, List.setIfInBounds_toArray, List.set_cons_zero, List.set_cons_succ]
    refine wpAnyH_take (i := 17) (v := ?_) rfl (by kernel_rfl) (by kernel_rfl) (by kernel_rfl) (fun _ _ _ h => h) (Or.inl ⟨by rfl, ?_⟩) (by assumption) ?_
    rotate_left
    · (intro wx hSw; (try dsimp only at hSw); go_simp; try with_reducible rfl)
    try simp only [Act.put, List.getElem_toArray, List.getElem_cons_succ, List.getElem_cons_zero, List.setIfInBounds_toArray, List.set_cons_zero, List.set_cons_succ]
    refine wpAnyH_take (i := 18) (v := ?_) rfl (by kernel_rfl) (by kernel_rfl) (by kernel_rfl) (fun _ _ _ h => h) (Or.inl ⟨by rfl, ?_⟩) (by assumption) ?_
    rotate_left
    · (intro wx hSw; (try dsimp only at hSw); obtain ⟨⟨_, _, _, _, _, _, _, _⟩, ⟨_, _, _, _, _, _, _, _⟩, _⟩ := HALL.out _ hSw; go_simp; try with_reducible rfl)
    try simp only [Act.put, List.getElem_toArray, List.getElem_cons_succ, List.getElem_cons_zero, List.setIfInBounds_toArray, List.set_cons_zero, List.set_cons_succ]
    refine wpAnyH_ready (rs := [6, 21]) (by kernel_rfl) (by simp) (AllReadyH.cons rfl (fun K hK => ?_) (AllReadyH.cons rfl (fun K hK => ?_) AllReadyH.nil))
    · go_simp
      refine (rjoin_any _ _ _ _ _ _ _ _ _).mono ?_
      rintro x v1 ⟨rfl, b1⟩
      unfold Ce.v
      rw [J1.out]
      have CB1 := Lib.hid (hHeld.trans (b1.mono hHeld.size))
      clear b1
      try go_wp2_with fail
      refine hK.out _ _ ?_ (fun hHeld => ?_)
      · exact CB1.out
      clear hK K
      try simp only [Act.put, List.getElem_toArray, List.getElem_cons_succ, List.getElem_cons_zero, List.setIfInBounds_toArray, List.set_cons_zero, List.set_cons_succ]
      refine wpAnyH_ready (rs := [19, 21]) (by kernel_rfl) (by simp) (AllReadyH.cons rfl (fun K hK => ?_) (AllReadyH.cons rfl (fun K hK => ?_) AllReadyH.nil))
      · refine step_ex rfl (.const (.slice none 0 0)) (.tmp 25) _ _ rfl (.slice none 0 0) (.slice A n c) (by simp [Act.eval]) (by simp [Act.eval]) (run_appK U.heap.size (own_nilK _ _) (HALL.out _ hHeld).2.2.1 ?s3 ?s4) ?_
        case s3 => omega
        case s4 => exact hHeld.size
        intro v3 w3 ho3 hg3
        obtain ⟨hg3, _⟩ := hg3
        obtain ⟨A3, m3, c3, rfl, hc3⟩ := (⟨own_nilK _ _, hHeld⟩ : Cur U _ (.slice none 0 0) []).appN ho3 hg3
        rw [List.nil_append] at hc3
        have C3 := Lib.hid hc3
        clear ho3 hg3 hc3
        refine hK.out _ _ ?_ (fun hHeld => ?_)
        · exact C3.out.below
        clear hK K
        try simp only [Act.put, List.getElem_toArray, List.getElem_cons_succ, List.getElem_cons_zero, List.setIfInBounds_toArray, List.set_cons_zero, List.set_cons_succ]
        refine wpAnyH_take (i := 20) (v := ?_) rfl (by kernel_rfl) (by kernel_rfl) (by kernel_rfl) (fun _ _ _ h => h) (Or.inl ⟨by rfl, ?_⟩) (by assumption) ?_
        rotate_left
        · (intro wx hSw; (try dsimp only at hSw); go_simp; try with_reducible rfl)
        try simp only [Act.put, List.getElem_toArray, List.getElem_cons_succ, List.getElem_cons_zero, List.setIfInBounds_toArray, List.set_cons_zero, List.set_cons_succ]
        refine wpAnyH_ready (rs := [21]) (by kernel_rfl) (by simp) (AllReadyH.cons rfl (fun K hK => ?_) AllReadyH.nil)
        go_simp
        have RZ := Lib.hid (heap_alloc_new (w3) (.cells #[.string ⟨#[]⟩, .string ⟨#[]⟩, .bool false, .int .i64 0, .int .i64 0, .int .i64 0, .int .i64 0, .slice none 0 0] 26))
        have CBa : Below U.heap.size U ((w3).alloc (.cells #[.string ⟨#[]⟩, .string ⟨#[]⟩, .bool false, .int .i64 0, .int .i64 0, .int .i64 0, .int .i64 0, .slice none 0 0] 26)) := hHeld.alloc hHeld.size _
        have C3 := Lib.hid (C3.out.on ((Below.refl w3.heap.size w3).alloc (Nat.le_refl _) (.cells #[.string ⟨#[]⟩, .string ⟨#[]⟩, .bool false, .int .i64 0, .int .i64 0, .int .i64 0, .int .i64 0, .slice none 0 0] 26)))
        have HRR := Lib.hid (show U.heap.size ≤ (w3).heap.size from hHeld.size)
        generalize (w3).alloc (.cells #[.string ⟨#[]⟩, .string ⟨#[]⟩, .bool false, .int .i64 0, .int .i64 0, .int .i64 0, .int .i64 0, .slice none 0 0] 26) = wa at *
        refine hK.out _ _ ?_ (fun hHeld => ?_)
        · exact CBa
        clear hK K
        try simp only [Act.put, List.getElem_toArray, List.getElem_cons_succ, List.getElem_cons_zero, List.setIfInBounds_toArray, List.set_cons_zero, List.set_cons_succ]
        refine wpAnyH_ready (rs := [22]) (by kernel_rfl) (by simp) (AllReadyH.cons rfl (fun K hK => ?_) AllReadyH.nil)
        obtain ⟨k0, k1, k2, k3, k4, k5, k6, k7⟩ := RJ.cells RZ.out
        have f0 := RJ.thawed RZ.out 0
        have f1 := RJ.thawed RZ.out 1
        have f2 := RJ.thawed RZ.out 2
        have f3 := RJ.thawed RZ.out 3
        have f4 := RJ.thawed RZ.out 4
        have f5 := RJ.thawed RZ.out 5
        have f6 := RJ.thawed RZ.out 6
        have f7 := RJ.thawed RZ.out 7
        go_simp
        refine hK.out _ _ ?_ (fun hHeld => ?_)
        · exact eight_below hHeld _ HRR.out _ _ _ _ _ _ _ _
        clear hK K
        try simp only [Act.put, List.getElem_toArray, List.getElem_cons_succ, List.getElem_cons_zero, List.setIfInBounds_toArray, List.set_cons_zero, List.set_cons_succ]
        refine wpAnyH_done (by kernel_rfl) ?_ _
        go_wp2_with fail
        go_meet
        exact ⟨_, A3, m3, c3, rfl, HRR.out, RJ.set RZ.out _ _ _ _ _ _ _ _ _ _, C3.out.eight RZ.out HRR.out _ _ _ _ _ _ _ _⟩
      · go_simp
        have RZ := Lib.hid (heap_alloc_new (v1) (.cells #[.string ⟨#[]⟩, .string ⟨#[]⟩, .bool false, .int .i64 0, .int .i64 0, .int .i64 0, .int .i64 0, .slice none 0 0] 26))
        have CBa : Below U.heap.size U ((v1).alloc (.cells #[.string ⟨#[]⟩, .string ⟨#[]⟩, .bool false, .int .i64 0, .int .i64 0, .int .i64 0, .int .i64 0, .slice none 0 0] 26)) := hHeld.alloc hHeld.size _
        have HRR := Lib.hid (show U.heap.size ≤ (v1).heap.size from hHeld.size)
        generalize (v1).alloc (.cells #[.string ⟨#[]⟩, .string ⟨#[]⟩, .bool false, .int .i64 0, .int .i64 0, .int .i64 0, .int .i64 0, .slice none 0 0] 26) = wa at *
        refine hK.out _ _ ?_ (fun hHeld => ?_)
        · exact CBa
        clear hK K
        try simp only [Act.put, List.getElem_toArray, List.getElem_cons_succ, List.getElem_cons_zero, List.setIfInBounds_toArray, List.set_cons_zero, List.set_cons_succ]
        refine wpAnyH_ready (rs := [19]) (by kernel_rfl) (by simp) (AllReadyH.cons rfl (fun K hK => ?_) AllReadyH.nil)
        refine step_ex rfl (.const (.slice none 0 0)) (.tmp 25) _ _ rfl (.slice none 0 0) (.slice A n c) (by simp [Act.eval]) (by simp [Act.eval]) (run_appK U.heap.size (own_nilK _ _) (HALL.out _ hHeld).2.2.1 ?s3 ?s4) ?_
        case s3 => omega
        case s4 => exact hHeld.size
        intro v3 w3 ho3 hg3
        obtain ⟨hg3, _⟩ := hg3
        obtain ⟨A3, m3, c3, rfl, hc3⟩ := (⟨own_nilK _ _, hHeld⟩ : Cur U _ (.slice none 0 0) []).appN ho3 hg3
        rw [List.nil_append] at hc3
        have C3 := Lib.hid hc3
        have RZ := Lib.hid ((hg3.block _ (Array.getElem?_eq_some_iff.1 RZ.out).1 (fun e => by cases e)).trans RZ.out)
        clear ho3 hg3 hc3
        refine hK.out _ _ ?_ (fun hHeld => ?_)
        · exact C3.out.below
        clear hK K
        try simp only [Act.put, List.getElem_toArray, List.getElem_cons_succ, List.getElem_cons_zero, List.setIfInBounds_toArray, List.set_cons_zero, List.set_cons_succ]
        refine wpAnyH_take (i := 20) (v := ?_) rfl (by kernel_rfl) (by kernel_rfl) (by kernel_rfl) (fun _ _ _ h => h) (Or.inl ⟨by rfl, ?_⟩) (by assumption) ?_
        rotate_left
        · (intro wx hSw; (try dsimp only at hSw); go_simp; try with_reducible rfl)
        try simp only [Act.put, List.getElem_toArray, List.getElem_cons_succ, List.getElem_cons_zero, List.setIfInBounds_toArray, List.set_cons_zero, List.set_cons_succ]
        refine wpAnyH_ready (rs := [22]) (by kernel_rfl) (by simp) (AllReadyH.cons rfl (fun K hK => ?_) AllReadyH.nil)
        obtain ⟨k0, k1, k2, k3, k4, k5, k6, k7⟩ := RJ.cells RZ.out
        have f0 := RJ.thawed RZ.out 0
        have f1 := RJ.thawed RZ.out 1
        have f2 := RJ.thawed RZ.out 2
        have f3 := RJ.thawed RZ.out 3
        have f4 := RJ.thawed RZ.out 4
        have f5 := RJ.thawed RZ.out 5
        have f6 := RJ.thawed RZ.out 6
        have f7 := RJ.thawed RZ.out 7
        go_simp
        refine hK.out _ _ ?_ (fun hHeld => ?_)
        · exact eight_below hHeld _ HRR.out _ _ _ _ _ _ _ _
        clear hK K
        try simp only [Act.put, List.getElem_toArray, List.getElem_cons_succ, List.getElem_cons_zero, List.setIfInBounds_toArray, List.set_cons_zero, List.set_cons_succ]
        refine wpAnyH_done (by kernel_rfl) ?_ _
        go_wp2_with fail
        go_meet
        exact ⟨_, A3, m3, c3, rfl, HRR.out, RJ.set RZ.out _ _ _ _ _ _ _ _ _ _, C3.out.eight RZ.out HRR.out _ _ _ _ _ _ _ _⟩
    · go_simp
      have HRR := Lib.hid (show U.heap.size ≤ (U.drew).heap.size from hHeld.size)
      have RZ : Hid (((U.alloc (.cells #[.string ⟨#[]⟩, .string ⟨#[]⟩, .bool false, .int .i64 0, .int .i64 0, .int .i64 0, .int .i64 0, .slice none 0 0] 26)).drew).heap[U.heap.size]? = some ((.cells #[.string ⟨#[]⟩, .string ⟨#[]⟩, .bool false, .int .i64 0, .int .i64 0, .int .i64 0, .int .i64 0, .slice none 0 0] 26))) := Lib.hid (heap_alloc_new U _)
      have CBa : Below U.heap.size U ((U.alloc (.cells #[.string ⟨#[]⟩, .string ⟨#[]⟩, .bool false, .int .i64 0, .int .i64 0, .int .i64 0, .int .i64 0, .slice none 0 0] 26)).drew) := ((Below.refl U.heap.size U).alloc (Nat.le_refl _) _).drew
      generalize (U.alloc (.cells #[.string ⟨#[]⟩, .string ⟨#[]⟩, .bool false, .int .i64 0, .int .i64 0, .int .i64 0, .int .i64 0, .slice none 0 0] 26)).drew = wa at *
      refine hK.out _ _ ?_ (fun hHeld => ?_)
      · exact CBa
      clear hK K
      try simp only [Act.put, List.getElem_toArray, List.getElem_cons_succ, List.getElem_cons_zero, List.setIfInBounds_toArray, List.set_cons_zero, List.set_cons_succ]
      refine wpAnyH_ready (rs := [6]) (by kernel_rfl) (by simp) (AllReadyH.cons rfl (fun K hK => ?_) AllReadyH.nil)
      go_simp
      refine (rjoin_any _ _ _ _ _ _ _ _ _).mono ?_
      rintro x v1 ⟨rfl, b1⟩
      unfold Ce.v
      rw [J1.out]
      have CB1 := Lib.hid (hHeld.trans (b1.mono hHeld.size))
      have RZ := Lib.hid ((b1.block _ (Array.getElem?_eq_some_iff.1 RZ.out).1).trans RZ.out)
      clear b1
      try go_wp2_with fail
      refine hK.out _ _ ?_ (fun hHeld => ?_)
      · exact CB1.out
      clear hK K
      try simp only [Act.put, List.getElem_toArray, List.getElem_cons_succ, List.getElem_cons_zero, List.setIfInBounds_toArray, List.set_cons_zero, List.set_cons_succ]
      refine wpAnyH_ready (rs := [19]) (by kernel_rfl) (by simp) (AllReadyH.cons rfl (fun K hK => ?_) AllReadyH.nil)
      refine step_ex rfl (.const (.slice none 0 0)) (.tmp 25) _ _ rfl (.slice none 0 0) (.slice A n c) (by simp [Act.eval]) (by simp [Act.eval]) (run_appK U.heap.size (own_nilK _ _) (HALL.out _ hHeld).2.2.1 ?s3 ?s4) ?_
      case s3 => omega
      case s4 => exact hHeld.size
      intro v3 w3 ho3 hg3
      obtain ⟨hg3, _⟩ := hg3
      obtain ⟨A3, m3, c3, rfl, hc3⟩ := (⟨own_nilK _ _, hHeld⟩ : Cur U _ (.slice none 0 0) []).appN ho3 hg3
      rw [List.nil_append] at hc3
      have C3 := Lib.hid hc3
      have RZ := Lib.hid ((hg3.block _ (Array.getElem?_eq_some_iff.1 RZ.out).1 (fun e => by cases e)).trans RZ.out)
      clear ho3 hg3 hc3
      refine hK.out _ _ ?_ (fun hHeld => ?_)
      · exact C3.out.below
      clear hK K
      try simp only [Act.put, List.getElem_toArray, List.getElem_cons_succ, List.getElem_cons_zero, List.setIfInBounds_toArray, List.set_cons_zero, List.set_cons_succ]
      refine wpAnyH_take (i := 20) (v := ?_) rfl (by kernel_rfl) (by kernel_rfl) (by kernel_rfl) (fun _ _ _ h => h) (Or.inl ⟨by rfl, ?_⟩) (by assumption) ?_
      rotate_left
      · (intro wx hSw; (try dsimp only at hSw); go_simp; try with_reducible rfl)
      try simp only [Act.put, List.getElem_toArray, List.getElem_cons_succ, List.getElem_cons_zero, List.setIfInBounds_toArray, List.set_cons_zero, List.set_cons_succ]
      refine wpAnyH_ready (rs := [22]) (by kernel_rfl) (by simp) (AllReadyH.cons rfl (fun K hK => ?_) AllReadyH.nil)
      obtain ⟨k0, k1, k2, k3, k4, k5, k6, k7⟩ := RJ.cells RZ.out
      have f0 := RJ.thawed RZ.out 0
      have f1 := RJ.thawed RZ.out 1
      have f2 := RJ.thawed RZ.out 2
      have f3 := RJ.thawed RZ.out 3
      have f4 := RJ.thawed RZ.out 4
      have f5 := RJ.thawed RZ.out 5
      have f6 := RJ.thawed RZ.out 6
      have f7 := RJ.thawed RZ.out 7
      go_simp
      refine hK.out _ _ ?_ (fun hHeld => ?_)
      · exact eight_below hHeld _ HRR.out _ _ _ _ _ _ _ _
      clear hK K
      try simp only [Act.put, List.getElem_toArray, List.getElem_cons_succ, List.getElem_cons_zero, List.setIfInBounds_toArray, List.set_cons_zero, List.set_cons_succ]
      refine wpAnyH_done (by kernel_rfl) ?_ _
      go_wp2_with fail
      go_meet
      exact ⟨_, A3, m3, c3, rfl, HRR.out, RJ.set RZ.out _ _ _ _ _ _ _ _ _ _, C3.out.eight RZ.out HRR.out _ _ _ _ _ _ _ _⟩
  case rest =>
    obtain ⟨r, A1, m1, c1, rfl, hrr, hrj, hc1⟩ := hcut
    obtain ⟨A1', c1', e1, _⟩ := hc1.slice
    injection e1 with e1 e2 e3
    subst e1; subst e2; subst e3
    have RJ1 := Lib.hid hrj; have C1 := Lib.hid hc1
    have HRR := Lib.hid hrr
    clear hrj hc1 J1
    go_wp2_with fail
    go_loopw [6] (fun i wr => ∃ (t : Nat) (A2 : Option Addr) (c2 : Nat) (C : Cols), t ≤ n' ∧ i = .int .i64 t ∧ mrg l (l'.take t) = C ∧ RJ wr r k js jd ja je mg mh A2 C.length c2 ∧ Cur U wr (.slice A2 C.length c2) C) (fun i _ => n' - (intOf i).toNat)
    case atStart => exact ⟨0, A1, c1, l, Nat.zero_le _, rfl, rfl, RJ1.out, C1.out⟩
    case round =>
      obtain ⟨t, A2, c2, C, ht, rfl, hmc, hrj, hcc⟩ := hrel
      have HMC := Lib.hid hmc; have HRJ := Lib.hid hrj; have HC := Lib.hid hcc
      have hCl : C.length ≤ 1000 := by
        have h1 := mrg_length (l'.take t) l
        rw [hmc, List.length_take, HL'.out, HL.out] at h1
        omega
      have HCL := Lib.hid hCl
      clear hmc hrj hcc hCl
      obtain ⟨_, ⟨_, _, _, _, _, _, _, _⟩, _⟩ := HALL.out _ HC.out.below
      by_cases hlt : t < n'
      · have i1 : (t : Int) < n' := by omega
        have i0 : (0 : Int) ≤ t := by omega
        have htl : t < l'.length := by rw [HL'.out]; exact hlt
        obtain ⟨g0, o0, rfl, hg0, hcols⟩ := (HALL.out _ (Below.refl _ _)).2.2.2.2 (by omega)
        have hct := hcols t htl
        have hk2 : ∀ w', Below U.heap.size U w' → w'.cell? ⟨g0, o0 + t * 5, none⟩ = some (.string l'[t].1) ∧ w'.cell? ⟨g0, o0 + t * 5 + 1, none⟩ = some (.string l'[t].2.s) ∧ w'.cell? ⟨g0, o0 + t * 5 + 2, none⟩ = some (.bool l'[t].2.d) ∧ w'.cell? ⟨g0, o0 + t * 5 + 3, none⟩ = some (.int .i64 l'[t].2.a) ∧ w'.cell? ⟨g0, o0 + t * 5 + 4, none⟩ = some (.int .i64 l'[t].2.e) := fun w' hb => by
          obtain ⟨d0, d1, d2, d3, d4⟩ := hct
          have hgu : g0 < U.heap.size := by have := HUS.out; have := HB'.out; omega
          exact ⟨(hb.cell (p := ⟨g0, _, none⟩) hgu).trans d0, (hb.cell (p := ⟨g0, _, none⟩) hgu).trans d1, (hb.cell (p := ⟨g0, _, none⟩) hgu).trans d2, (hb.cell (p := ⟨g0, _, none⟩) hgu).trans d3, (hb.cell (p := ⟨g0, _, none⟩) hgu).trans d4⟩
        have HK2 := Lib.hid hk2
        obtain ⟨D, hD⟩ : ∃ D, putC C l'[t].1 ⟨l'[t].2.s, l'[t].2.d, l'[t].2.a, l'[t].2.e⟩ = D := ⟨_, rfl⟩
        have HD := Lib.hid hD
        clear hcols hct hk2 hD
        go_wp2_with fail
        refine wp_region_z (S := fun w' => RJ w' r k js jd ja je mg mh A2 C.length c2 ∧ Below U.heap.size U w') 9 (by kernel_rfl) ?_ (fun hHeld => ?_)
        · exact ⟨HRJ.out, HC.out.below.drew⟩
        refine wpAnyZ_take (i := 0) (v := ?_) rfl (by kernel_rfl) (by kernel_rfl) (by kernel_rfl) (by kernel_rfl) (fun _ _ _ h => h) (Or.inl ⟨by rfl, ?_⟩) (by assumption) ?_
        rotate_left
        · (intro wx hSw; (try dsimp only at hSw); go_simp; try with_reducible rfl)
        try simp only [Act.put, List.getElem_toArray, List.getElem_cons_succ, List.getElem_cons_zero, List.setIfInBounds_toArray, List.set_cons_zero, List.set_cons_succ]
        refine wpAnyZ_take (i := 1) (v := ?_) rfl (by kernel_rfl) (by kernel_rfl) (by kernel_rfl) (by kernel_rfl) (fun _ _ _ h => h) (Or.inl ⟨by rfl, ?_⟩) (by assumption) ?_
        rotate_left
        · (intro wx hSw; (try dsimp only at hSw); obtain ⟨_, _, _, _, _, _, _, _⟩ := RJ.cells hSw.1; go_simp; try with_reducible rfl)
        try simp only [Act.put, List.getElem_toArray, List.getElem_cons_succ, List.getElem_cons_zero, List.setIfInBounds_toArray, List.set_cons_zero, List.set_cons_succ]
        refine wpAnyZ_take (i := 2) (v := ?_) rfl (by kernel_rfl) (by kernel_rfl) (by kernel_rfl) (by kernel_rfl) (fun _ _ _ h => h) (Or.inl ⟨by rfl, ?_⟩) (by assumption) ?_
        rotate_left
        · (intro wx hSw; (try dsimp only at hSw); go_simp; try with_reducible rfl)
        try simp only [Act.put, List.getElem_toArray, List.getElem_cons_succ, List.getElem_cons_zero, List.setIfInBounds_toArray, List.set_cons_zero, List.set_cons_succ]
        refine wpAnyZ_take (i := 3) (v := ?_) rfl (by kernel_rfl) (by kernel_rfl) (by kernel_rfl) (by kernel_rfl) (fun _ _ _ h => h) (Or.inl ⟨by rfl, ?_⟩) (by assumption) ?_
        rotate_left
        · (intro wx hSw; (try dsimp only at hSw); obtain ⟨_, ⟨_, _, _, _, _, _, _, _⟩, _⟩ := HALL.out _ hSw.2; go_simp; try with_reducible rfl)
        try simp only [Act.put, List.getElem_toArray, List.getElem_cons_succ, List.getElem_cons_zero, List.setIfInBounds_toArray, List.set_cons_zero, List.set_cons_succ]
        refine wpAnyZ_take (i := 4) (v := ?_) rfl (by kernel_rfl) (by kernel_rfl) (by kernel_rfl) (by kernel_rfl) (fun _ _ _ h => h) (Or.inl ⟨by rfl, ?_⟩) (by assumption) ?_
        rotate_left
        · (intro wx hSw; (try dsimp only at hSw); go_simp; try with_reducible rfl)
        try simp only [Act.put, List.getElem_toArray, List.getElem_cons_succ, List.getElem_cons_zero, List.setIfInBounds_toArray, List.set_cons_zero, List.set_cons_succ]
        refine wpAnyZ_take (i := 5) (v := ?_) rfl (by kernel_rfl) (by kernel_rfl) (by kernel_rfl) (by kernel_rfl) (fun _ _ _ h => h) (Or.inl ⟨by rfl, ?_⟩) (by assumption) ?_
        rotate_left
        · (intro wx hSw; (try dsimp only at hSw); go_simp; try with_reducible rfl)
        try simp only [Act.put, List.getElem_toArray, List.getElem_cons_succ, List.getElem_cons_zero, List.setIfInBounds_toArray, List.set_cons_zero, List.set_cons_succ]
        refine wpAnyZ_take (i := 6) (v := ?_) rfl (by kernel_rfl) (by kernel_rfl) (by kernel_rfl) (by kernel_rfl) (fun _ _ _ h => h) (Or.inl ⟨by rfl, ?_⟩) (by assumption) ?_
        rotate_left
        · (intro wx hSw; (try dsimp only at hSw); obtain ⟨_, _, _, _, _⟩ := HK2.out _ hSw.2; go_simp; try with_reducible rfl)
        try simp only [Act.put, List.getElem_toArray, List.getElem_cons_succ, List.getElem_cons_zero, List.setIfInBounds_toArray, List.set_cons_zero, List.set_cons_succ]
        refine wpAnyZ_one (i := 7) (by kernel_rfl) rfl (fun K hK => ?_)
        go_simp
        obtain ⟨A2', c2', e2, h2a, h2b, h2c, h2d⟩ := HC.out.slice
        injection e2 with e2 e3 e4
        subst e2; subst e4
        refine (rput_any A2 C.length c2 wr.heap.size C _ _ _ _ _ _ (h2d.below ((Below.refl wr.heap.size wr).drew)) (Nat.le_refl _) h2a h2c HCL.out).mono ?_
        rintro x v4 ⟨v, rfl, hcur⟩
        rw [HD.out] at hcur
        obtain ⟨A4, c4, rfl, _⟩ := hcur.slice
        have C4 := Lib.hid hcur
        clear hcur h2a h2b h2c h2d e3
        try go_wp2_with fail
        refine hK.out _ _ ?_ (fun hHeld => ?_)
        · exact ⟨(C4.out.below.block r (Array.getElem?_eq_some_iff.1 HRJ.out).1).trans HRJ.out, (HC.out.below.drew).trans (C4.out.below.mono HC.out.below.drew.size)⟩
        clear hK K
        try simp only [Act.put, List.getElem_toArray, List.getElem_cons_succ, List.getElem_cons_zero, List.setIfInBounds_toArray, List.set_cons_zero, List.set_cons_succ]
        have k7 := cell_at (i := 7) hHeld.1 rfl
        have f7 := thawed_at (i := 7) hHeld.1
        refine wpAnyZ_take (i := 8) (v := ?_) rfl (by kernel_rfl) (by kernel_rfl) (by kernel_rfl) (by kernel_rfl) (fun _ _ _ h => h) (Or.inl ⟨by rfl, ?_⟩) (by assumption) ?_
        rotate_left
        · (intro wx hSw; (try dsimp only at hSw); go_simp; try with_reducible rfl)
        try simp only [Act.put, List.getElem_toArray, List.getElem_cons_succ, List.getElem_cons_zero, List.setIfInBounds_toArray, List.set_cons_zero, List.set_cons_succ]
        refine wpAnyZ_last (by kernel_rfl) rfl (fun K hK => ?_)
        go_simp
        refine hK.out _ _ ?_
        clear hK K
        try simp only [Act.put, List.getElem_toArray, List.getElem_cons_succ, List.getElem_cons_zero, List.setIfInBounds_toArray, List.set_cons_zero, List.set_cons_succ]
        refine wpAnyZ_done (by kernel_rfl) ?_ _
        have hD2 : mrg l (l'.take (t + 1)) = D := by rw [List.take_succ_eq_append_getElem htl, mrg_snoc, HMC.out]; exact HD.out
        have hrj9 := RJ.set7 hHeld.1 A4 D.length c4
        have hc9 : Cur U (v4.setCell ⟨r, 7, none⟩ (.slice A4 D.length c4)) (.slice A4 D.length c4) D := by
          have h4 := C4.out.lower HC.out.below.drew
          refine ⟨own_kept h4.own fun g hg => Below.heap_setCell _ _ _ _ (own_ne h4.own hHeld.1 (by decide) g hg), h4.below.setCell (p := ⟨r, 7, none⟩) HRR.out _⟩
        generalize v4.setCell ⟨r, 7, none⟩ (.slice A4 D.length c4) = w9 at *
        have RJ9 := Lib.hid hrj9; have C9 := Lib.hid hc9; have HD2 := Lib.hid hD2
        clear hrj9 hc9 hD2 hHeld k7 f7
        go_wp2
        go_roundw
        case rel => exact ⟨t + 1, A4, c4, D, by omega, by go_num, HD2.out, RJ9.out, C9.out⟩
        case measure => simp [intOf]; omega
      · obtain rfl : t = n' := by omega
        have d0 : decide ((t : Int) < (t : Int)) = false := by simp
        have hfin : C = M := by
          have h1 := HMC.out
          rw [List.take_of_length_le (by rw [HL'.out]; exact Nat.le_refl _), HMM.out] at h1
          exact h1.symm
        have HFIN := Lib.hid hfin
        clear hfin
        obtain ⟨q0, q1, q2, q3, q4, q5, q6, q7⟩ := RJ.cells HRJ.out
        have hzz : RJ wr (w.heap.size + 1 + 1) ⟨#[]⟩ ⟨#[]⟩ false 0 0 0 0 none 0 0 := (HC.out.below.block (w.heap.size + 1 + 1) (by have := HUS.out; omega)).trans HZ.out
        have HZZ := Lib.hid hzz
        have hz1 := block_setCell (i := 0) hzz (.string k)
        have hz2 := block_setCell (i := 1) hz1 (.string js)
        have hz3 := block_setCell (i := 2) hz2 (.bool jd)
        have hz4 := block_setCell (i := 3) hz3 (.int .i64 ja)
        have hz5 := block_setCell (i := 4) hz4 (.int .i64 je)
        have hz6 := block_setCell (i := 5) hz5 (.int .i64 mg)
        have hz7 := block_setCell (i := 6) hz6 (.int .i64 mh)
        simp only [List.setIfInBounds_toArray, List.set_cons_zero, List.set_cons_succ] at hz1 hz2 hz3 hz4 hz5 hz6 hz7
        have x0 := cell_at (i := 0) hzz rfl
        have x1 := cell_at (i := 1) hz1 rfl
        have x2 := cell_at (i := 2) hz2 rfl
        have x3 := cell_at (i := 3) hz3 rfl
        have x4 := cell_at (i := 4) hz4 rfl
        have x5 := cell_at (i := 5) hz5 rfl
        have x6 := cell_at (i := 6) hz6 rfl
        have x7 := cell_at (i := 7) hz7 rfl
        have y0 := thawed_at (i := 0) hzz
        have y1 := thawed_at (i := 1) hz1
        have y2 := thawed_at (i := 2) hz2
        have y3 := thawed_at (i := 3) hz3
        have y4 := thawed_at (i := 4) hz4
        have y5 := thawed_at (i := 5) hz5
        have y6 := thawed_at (i := 6) hz6
        have y7 := thawed_at (i := 7) hz7
        clear hzz hz1 hz2 hz3 hz4 hz5 hz6 hz7
        go_wp2
        have hrz := RJ.set HZZ.out k js jd ja je mg mh A2 C.length c2
        have hcz := (HC.out.lower BZ.out).eight HZZ.out (by omega) (.string k) (.string js) (.bool jd) (.int .i64 ja) (.int .i64 je) (.int .i64 mg) (.int .i64 mh) (.slice A2 C.length c2)
        generalize ((((((((wr.setCell ⟨w.heap.size + 1 + 1, 0, none⟩ (.string k)).setCell ⟨w.heap.size + 1 + 1, 1, none⟩ (.string js)).setCell ⟨w.heap.size + 1 + 1, 2, none⟩ (.bool jd)).setCell ⟨w.heap.size + 1 + 1, 3, none⟩ (.int .i64 ja)).setCell ⟨w.heap.size + 1 + 1, 4, none⟩ (.int .i64 je)).setCell ⟨w.heap.size + 1 + 1, 5, none⟩ (.int .i64 mg)).setCell ⟨w.heap.size + 1 + 1, 6, none⟩ (.int .i64 mh)).setCell ⟨w.heap.size + 1 + 1, 7, none⟩ (.slice A2 C.length c2)) = w9 at hrz hcz ⊢
        clear x0 x1 x2 x3 x4 x5 x6 x7 y0 y1 y2 y3 y4 y5 y6 y7
        obtain ⟨z0, z1, z2, z3, z4, z5, z6, z7⟩ := RJ.cells hrz
        refine bodyPost_ret (v := .agg #[.string k, .string js, .bool jd, .int .i64 ja, .int .i64 je, .int .i64 mg, .int .i64 mh, .slice A2 C.length c2]) (by simp [results, Try.results20, go_sem, z0, z1, z2, z3, z4, z5, z6, z7]) rfl ⟨js, jd, ja, je, A2, c2, HJ.out, by rw [HFIN.out], by rw [HFIN.out] at hcz; exact hcz⟩
end Go.Proofs.Ytnoblhacgmeddaa
