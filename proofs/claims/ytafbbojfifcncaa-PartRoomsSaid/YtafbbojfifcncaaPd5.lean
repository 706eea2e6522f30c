/-
  The developers' Seen of a partition.
-/
import Derived.Test.YtafbbojfifcncaaPd3
import Derived.Test.YtafbbojfifcncaaRoJ
set_option linter.unusedVariables false
set_option linter.unusedSimpArgs false
namespace Go.Proofs.Ytafbbojfifcncaa
open Go Go.RowKit

theorem seen_rx (x : RA) (B : Nat) (p now : Int) (X : Cols) (hX : seenD (max x.ro.gone p) now x.ro.cols = X) (w : World) (h : RaIn w B x) (hB : B ≤ w.heap.size) (hn : x.ro.cols.length ≤ 1000) :
    Calls Try.prog 43 #[.agg #[.string x.ro.key, .string x.ro.live.s, .bool x.ro.live.d, .int .i64 x.ro.live.a, .int .i64 x.ro.live.e, .int .i64 x.ro.gone, .int .i64 x.ro.shade, .slice x.A x.ro.cols.length x.c], .int .i64 p, .int .i64 now] w fun e w' => ∃ A c, e = .returned (.slice A X.length c) ∧ Cur w w' (.slice A X.length c) X := by
  subst hX
  exact seen_ra x B p now w h hB hn
theorem take_ros (L : List RA) (t : Nat) : ros (L.take t) = (ros L).take t := List.map_take ..
/-- A partition's block and a row's. -/
def Two (w : World) (p : Nat) (k : ByteArray) (g : Int) (A : Option Addr) (n c : Nat) (q : Nat) (x : RA) : Prop := w.heap[p]? = some (.cells #[.string k, .int .i64 g, .slice A n c] 24) ∧ w.heap[q]? = some (.cells #[.string x.ro.key, .string x.ro.live.s, .bool x.ro.live.d, .int .i64 x.ro.live.a, .int .i64 x.ro.live.e, .int .i64 x.ro.gone, .int .i64 x.ro.shade, .slice x.A x.ro.cols.length x.c] 36)
theorem Two.on {w w' : World} {p q n c : Nat} {k : ByteArray} {g : Int} {A : Option Addr} {x : RA} (h : Two w p k g A n c q x) (hb : Below w.heap.size w w') : Two w' p k g A n c q x :=
  ⟨(hb.block p (Array.getElem?_eq_some_iff.1 h.1).1).trans h.1, (hb.block q (Array.getElem?_eq_some_iff.1 h.2).1).trans h.2⟩
theorem Two.grown {w w' : World} {p q n c : Nat} {k : ByteArray} {g : Int} {A : Option Addr} {x : RA} {b m : Nat} {v : Value} {xs : List Value} (h : Two w p k g A n c q x) (ho : w.ownsRow b 36 8 v m xs) (hg : w.grownBy w' v.ownBlock) (hq : v.ownBlock ≠ some q) : Two w' p k g A n c q x := by
  have hk := Kept.of_grown (F := fun k => v.ownBlock = some k) hg fun k hk => hk
  refine ⟨(hk.block p (Array.getElem?_eq_some_iff.1 h.1).1 fun hp => own_ne ho h.1 (by decide) p hp rfl).trans h.1, (hk.block q (Array.getElem?_eq_some_iff.1 h.2).1 hq).trans h.2⟩
set_option maxRecDepth 8000 in
set_option maxHeartbeats 8000000 in
theorem pseen_any (k : ByteArray) (g now : Int) (st : Bool) (A : Option Addr) (n c B : Nat) (L : List RA) (w : World) (h : Lies w B A n c L) (hB : B ≤ w.heap.size) (hn : n ≤ 1000) (hf : ∀ x ∈ L, x.ro.cols.length ≤ 1000) :
    Calls Try.prog 21 #[.agg #[.string k, .int .i64 g, .slice A n c], .int .i64 now, .bool st] w fun e w' => ∃ v M, e = .returned v ∧ ros M = seenR g now st (ros L) ∧ Own w w' v M := by
  have hl := h.len
  have bz := (Below.refl w.heap.size w).alloc (Nat.le_refl _) (.cells #[.string k, .int .i64 g, .slice A n c] 24)
  have hz0 := heap_alloc_new w (.cells #[.string k, .int .i64 g, .slice A n c] 24)
  obtain ⟨V, hV⟩ : ∃ V, V = w.alloc (.cells #[.string k, .int .i64 g, .slice A n c] 24) := ⟨_, rfl⟩
  have hVs : V.heap.size = w.heap.size + 1 := by rw [hV]; simp
  rw [← hV] at bz hz0
  have HL := Lib.hid hl; have HH := Lib.hid h; have HF := Lib.hid hf; have BZ := Lib.hid bz; have HZ0 := Lib.hid hz0; have HVS := Lib.hid hVs; have HN := Lib.hid hn
  obtain ⟨_, _, _⟩ := PtAt.of hz0
  clear hl h hf bz hz0 hVs
  go_enter Try.func21, Try.ntmps21
  go_wp2_with fail
  rw [← hV]
  clear hV
  go_wp2_with fail
  go_loopw [13, 7] (fun i v wr => ∃ (t : Nat) (M : List RA), t ≤ n ∧ i = .int .i64 t ∧ ros M = seenR g now st (ros (L.take t)) ∧ M.length ≤ t ∧ Own w wr v M ∧ wr.heap[w.heap.size]? = some (.cells #[.string k, .int .i64 g, .slice A n c] 24)) (fun i _ _ => n - (intOf i).toNat)
  case atStart => exact ⟨0, [], Nat.zero_le _, rfl, rfl, Nat.le_refl _, Own.nil BZ.out, HZ0.out⟩
  case round =>
    obtain ⟨t, M, ht, rfl, hm, hmt, ho, hz⟩ := hrel
    obtain ⟨A3, c3, rfl, _⟩ := ho.slice
    obtain ⟨m, hmm⟩ : ∃ m, M.length = m := ⟨_, rfl⟩
    rw [hmm] at ho hmt ⊢
    have HMR := Lib.hid hm; have HM := Lib.hid hmm; have HMT := Lib.hid hmt; have HO := Lib.hid ho; have HZ := Lib.hid hz
    have hvw : w.heap.size < wr.heap.size := (Array.getElem?_eq_some_iff.1 hz).1
    obtain ⟨_, _, _⟩ := PtAt.of hz
    clear hm hmm hmt ho hz
    by_cases hlt : t < n
    · have i1 : (t : Int) < n := by omega
      have i0 : (0 : Int) ≤ t := by omega
      have htl : t < L.length := by rw [HL.out]; exact hlt
      obtain ⟨g0, o0, rfl, hgb⟩ := HH.out.rd.ex (by omega)
      have hlies := HH.out.below (HO.out.below.mono hB)
      have hrow := hlies.rd.row htl
      have hin := hlies.held L[t] (List.getElem_mem htl)
      have hcl := HF.out L[t] (List.getElem_mem htl)
      have htk := ros_take htl
      obtain ⟨x, hx⟩ : ∃ x, L[t] = x := ⟨_, rfl⟩
      rw [hx] at hrow hin hcl htk
      have ha := (Below.refl wr.heap.size wr).alloc (Nat.le_refl _) (.cells #[.string x.ro.key, .string x.ro.live.s, .bool x.ro.live.d, .int .i64 x.ro.live.a, .int .i64 x.ro.live.e, .int .i64 x.ro.gone, .int .i64 x.ro.shade, .slice x.A x.ro.cols.length x.c] 36)
      have hin2 := hin.below (ha.mono (by have := HO.out.below.size; omega))
      have hbk := heap_alloc_new wr (.cells #[.string x.ro.key, .string x.ro.live.s, .bool x.ro.live.d, .int .i64 x.ro.live.a, .int .i64 x.ro.live.e, .int .i64 x.ro.gone, .int .i64 x.ro.shade, .slice x.A x.ro.cols.length x.c] 36)
      have hpt := (ha.block w.heap.size hvw).trans HZ.out
      have hou := HO.out.on ha
      obtain ⟨_, _, _, _, _, _, _, _⟩ := hrow
      obtain ⟨U, hU⟩ : ∃ U, U = wr.alloc (.cells #[.string x.ro.key, .string x.ro.live.s, .bool x.ro.live.d, .int .i64 x.ro.live.a, .int .i64 x.ro.live.e, .int .i64 x.ro.gone, .int .i64 x.ro.shade, .slice x.A x.ro.cols.length x.c] 36) := ⟨_, rfl⟩
      have hUs : U.heap.size = wr.heap.size + 1 := by rw [hU]; simp
      rw [← hU] at hin2 hbk hpt hou
      have hall : ∀ w', Below U.heap.size U w' → BlkAt w' wr.heap.size x ∧ PtAt w' w.heap.size k g (some ⟨g0, o0, none⟩) n c := fun w' hb =>
        ⟨BlkAt.of ((hb.block wr.heap.size (by omega)).trans hbk), PtAt.of ((hb.block w.heap.size (by omega)).trans hpt)⟩
      have hin3 : ∀ w', Below U.heap.size U w' → RaIn w' B x := fun w' hb => hin2.below (hb.mono (by have := HO.out.below.size; omega))
      have HTWO : Hid (Two U w.heap.size k g (some ⟨g0, o0, none⟩) n c wr.heap.size x) := Lib.hid ⟨hpt, hbk⟩
      have HOL := Lib.hid (own_block_lt HO.out.cur.own)
      have HIN := Lib.hid hin3; have HCL := Lib.hid hcl; have HTK := Lib.hid htk; have HOU := Lib.hid hou; have HALL := Lib.hid hall; have HPT := Lib.hid hpt
      have HUB := Lib.hid (show B ≤ U.heap.size by have := HO.out.below.size; omega)
      have HVB := Lib.hid (show w.heap.size ≤ U.heap.size by have := HO.out.below.size; omega)
      have HUL := Lib.hid (show w.heap.size < U.heap.size by omega)
      obtain ⟨⟨_, _, _, _, _, _, _, _⟩, _, _, _⟩ := hall U (Below.refl _ _)
      clear hlies hin hcl htk hx ha hin2 hbk hpt hou hUs hall hin3
      go_wp2_with fail
      rw [← hU]
      clear hU
      obtain ⟨u, hu⟩ : ∃ u, x.ro.isD g now st = u := ⟨_, rfl⟩
      have HU := Lib.hid hu
      clear hu
      go_wp2_with fail
      refine (is_ra x B g now st _ (HIN.out _ (Below.refl _ _)) HUB.out HCL.out).mono ?_
      rintro e w1 ⟨rfl, b1⟩
      rw [HU.out]
      have T1 : Hid (Two w1 w.heap.size k g (some ⟨g0, o0, none⟩) n c wr.heap.size x) := Lib.hid (HTWO.out.on b1)
      have B1 := Lib.hid b1; have HO1 := Lib.hid (HOU.out.on b1)
      clear b1
      cases u
      · have hz1 := (B1.out.block w.heap.size HUL.out).trans HPT.out
        have hs : ros M = seenR g now st (ros (L.take (t + 1))) := by rw [HTK.out, seenR_snoc, HU.out, HMR.out]; rfl
        have HS := Lib.hid hs; have HZ1 := Lib.hid hz1
        clear hs hz1
        go_wp2
        go_roundw
        case rel => exact ⟨t + 1, M, by omega, by go_num, HS.out, by rw [HM.out]; have := HMT.out; omega, by first | exact HM.out ▸ HO1.out | exact HO1.out, HZ1.out⟩
        case measure => simp [intOf]; omega
      · obtain ⟨X, hX⟩ : ∃ X, seenD (max x.ro.gone g) now x.ro.cols = X := ⟨_, rfl⟩
        have HX := Lib.hid hX
        clear hX
        go_wp2_with fail
        refine wp_region_held_drew (S := fun w' => Two w' w.heap.size k g (some ⟨g0, o0, none⟩) n c wr.heap.size x) (by kernel_rfl) ?_ (fun hHeld => ?_)
        · exact T1.out
        refine wpAnyH_take (i := 0) (v := ?_) rfl (by kernel_rfl) (by kernel_rfl) (by kernel_rfl) (fun _ _ _ h => h) (Or.inl ⟨by rfl, ?_⟩) (by assumption) ?_
        rotate_left
        · (intro wx hSw; (try dsimp only at hSw); go_simp; try with_reducible rfl)
        try simp only [Act.put, List.getElem_toArray, List.getElem_cons_succ, List.getElem_cons_zero, List.setIfInBounds_toArray, List.set_cons_zero, List.set_cons_succ]
        refine wpAnyH_take (i := 1) (v := ?_) rfl (by kernel_rfl) (by kernel_rfl) (by kernel_rfl) (fun _ _ _ h => h) (Or.inl ⟨by rfl, ?_⟩) (by assumption) ?_
        rotate_left
        · (intro wx hSw; (try dsimp only at hSw); go_simp; try with_reducible rfl)
        try simp only [Act.put, List.getElem_toArray, List.getElem_cons_succ, List.getElem_cons_zero, List.setIfInBounds_toArray, List.set_cons_zero, List.set_cons_succ]
        refine wpAnyH_take (i := 2) (v := ?_) rfl (by kernel_rfl) (by kernel_rfl) (by kernel_rfl) (fun _ _ _ h => h) (Or.inl ⟨by rfl, ?_⟩) (by assumption) ?_
        rotate_left
        · (intro wx hSw; (try dsimp only at hSw); obtain ⟨_, _, _⟩ := PtAt.of hSw.1; obtain ⟨_, _, _, _, _, _, _, _⟩ := BlkAt.of hSw.2; go_simp; try with_reducible rfl)
        try simp only [Act.put, List.getElem_toArray, List.getElem_cons_succ, List.getElem_cons_zero, List.setIfInBounds_toArray, List.set_cons_zero, List.set_cons_succ]
        refine wpAnyH_take (i := 3) (v := ?_) rfl (by kernel_rfl) (by kernel_rfl) (by kernel_rfl) (fun _ _ _ h => h) (Or.inl ⟨by rfl, ?_⟩) (by assumption) ?_
        rotate_left
        · (intro wx hSw; (try dsimp only at hSw); go_simp; try with_reducible rfl)
        try simp only [Act.put, List.getElem_toArray, List.getElem_cons_succ, List.getElem_cons_zero, List.setIfInBounds_toArray, List.set_cons_zero, List.set_cons_succ]
        refine wpAnyH_take (i := 4) (v := ?_) rfl (by kernel_rfl) (by kernel_rfl) (by kernel_rfl) (fun _ _ _ h => h) (Or.inl ⟨by rfl, ?_⟩) (by assumption) ?_
        rotate_left
        · (intro wx hSw; (try dsimp only at hSw); obtain ⟨_, _, _⟩ := PtAt.of hSw.1; obtain ⟨_, _, _, _, _, _, _, _⟩ := BlkAt.of hSw.2; go_simp; try with_reducible rfl)
        try simp only [Act.put, List.getElem_toArray, List.getElem_cons_succ, List.getElem_cons_zero, List.setIfInBounds_toArray, List.set_cons_zero, List.set_cons_succ]
        refine wpAnyH_take (i := 5) (v := ?_) rfl (by kernel_rfl) (by kernel_rfl) (by kernel_rfl) (fun _ _ _ h => h) (Or.inl ⟨by rfl, ?_⟩) (by assumption) ?_
        rotate_left
        · (intro wx hSw; (try dsimp only at hSw); obtain ⟨_, _, _⟩ := PtAt.of hSw.1; obtain ⟨_, _, _, _, _, _, _, _⟩ := BlkAt.of hSw.2; go_simp; try with_reducible rfl)
        try simp only [Act.put, List.getElem_toArray, List.getElem_cons_succ, List.getElem_cons_zero, List.setIfInBounds_toArray, List.set_cons_zero, List.set_cons_succ]
        refine wpAnyH_take (i := 6) (v := ?_) rfl (by kernel_rfl) (by kernel_rfl) (by kernel_rfl) (fun _ _ _ h => h) (Or.inl ⟨by rfl, ?_⟩) (by assumption) ?_
        rotate_left
        · (intro wx hSw; (try dsimp only at hSw); go_simp; try with_reducible rfl)
        try simp only [Act.put, List.getElem_toArray, List.getElem_cons_succ, List.getElem_cons_zero, List.setIfInBounds_toArray, List.set_cons_zero, List.set_cons_succ]
        refine wpAnyH_take (i := 7) (v := ?_) rfl (by kernel_rfl) (by kernel_rfl) (by kernel_rfl) (fun _ _ _ h => h) (Or.inl ⟨by rfl, ?_⟩) (by assumption) ?_
        rotate_left
        · (intro wx hSw; (try dsimp only at hSw); obtain ⟨_, _, _⟩ := PtAt.of hSw.1; obtain ⟨_, _, _, _, _, _, _, _⟩ := BlkAt.of hSw.2; go_simp; try with_reducible rfl)
        try simp only [Act.put, List.getElem_toArray, List.getElem_cons_succ, List.getElem_cons_zero, List.setIfInBounds_toArray, List.set_cons_zero, List.set_cons_succ]
        refine wpAnyH_take (i := 8) (v := ?_) rfl (by kernel_rfl) (by kernel_rfl) (by kernel_rfl) (fun _ _ _ h => h) (Or.inl ⟨by rfl, ?_⟩) (by assumption) ?_
        rotate_left
        · (intro wx hSw; (try dsimp only at hSw); go_simp; try with_reducible rfl)
        try simp only [Act.put, List.getElem_toArray, List.getElem_cons_succ, List.getElem_cons_zero, List.setIfInBounds_toArray, List.set_cons_zero, List.set_cons_succ]
        refine wpAnyH_ready (rs := [9]) (by kernel_rfl) (by simp) (AllReadyH.cons rfl (fun K hK => ?_) AllReadyH.nil)
        go_simp
        refine (seen_rx x B g now X HX.out _ ?hin ?hsz HCL.out).mono ?_
        case hin => exact HIN.out _ B1.out.drew
        case hsz => exact Nat.le_trans HUB.out B1.out.size
        rintro e v4 ⟨A4, c4, rfl, hc4⟩
        have hbv := next (w := w1) (w1 := w1.drew) ((Below.refl w1.heap.size w1).drew) hc4.below
        have C4 := Lib.hid (HO1.out.on hbv)
        have C5 := Lib.hid (C4.out.on ((Below.refl v4.heap.size v4).alloc (Nat.le_refl _) (.cells #[.string x.ro.key, .string x.ro.live.s, .bool x.ro.live.d, .int .i64 x.ro.live.a, .int .i64 x.ro.live.e, .int .i64 0, .int .i64 0, .slice A4 X.length c4] 36)))
        have RD := Lib.hid (RdR.laid v4 (⟨⟨x.ro.key, x.ro.live, 0, 0, X⟩, A4, c4⟩ : RA))
        have hsf : Safe w v4 (⟨⟨x.ro.key, x.ro.live, 0, 0, X⟩, A4, c4⟩ : RA) := Or.inr (own_base hc4.own HO1.out.below.size)
        have HSF := Lib.hid (hsf.on ((Below.refl v4.heap.size v4).alloc (Nat.le_refl _) (.cells #[.string x.ro.key, .string x.ro.live.s, .bool x.ro.live.d, .int .i64 x.ro.live.a, .int .i64 x.ro.live.e, .int .i64 0, .int .i64 0, .slice A4 X.length c4] 36)))
        have T4 := Lib.hid (T1.out.on hbv)
        have T5 := Lib.hid (T4.out.on ((Below.refl v4.heap.size v4).alloc (Nat.le_refl _) (.cells #[.string x.ro.key, .string x.ro.live.s, .bool x.ro.live.d, .int .i64 x.ro.live.a, .int .i64 x.ro.live.e, .int .i64 0, .int .i64 0, .slice A4 X.length c4] 36)))
        clear hbv hsf
        try go_wp2_with fail
        refine hK.out _ _ ?_ (fun hHeld => ?_)
        · exact T4.out
        clear hK K
        try simp only [Act.put, List.getElem_toArray, List.getElem_cons_succ, List.getElem_cons_zero, List.setIfInBounds_toArray, List.set_cons_zero, List.set_cons_succ]
        refine wpAnyH_take (i := 10) (v := ?_) rfl (by kernel_rfl) (by kernel_rfl) (by kernel_rfl) (fun _ _ _ h => h) (Or.inl ⟨by rfl, ?_⟩) (by assumption) ?_
        rotate_left
        · (intro wx hSw; (try dsimp only at hSw); go_simp; try with_reducible rfl)
        try simp only [Act.put, List.getElem_toArray, List.getElem_cons_succ, List.getElem_cons_zero, List.setIfInBounds_toArray, List.set_cons_zero, List.set_cons_succ]
        refine wpAnyH_ready (rs := [11]) (by kernel_rfl) (by simp) (AllReadyH.cons rfl (fun K hK => ?_) AllReadyH.nil)
        go_simp
        refine hK.out _ _ ?_ (fun hHeld => ?_)
        · exact T5.out
        clear hK K
        try simp only [Act.put, List.getElem_toArray, List.getElem_cons_succ, List.getElem_cons_zero, List.setIfInBounds_toArray, List.set_cons_zero, List.set_cons_succ]
        refine wpAnyH_ready (rs := [12]) (by kernel_rfl) (by simp) (AllReadyH.cons rfl (fun K hK => ?_) AllReadyH.nil)
        refine step_ex rfl (.tmp 23) (.tmp 34) _ _ rfl (.slice A3 m c3) (.slice (some ⟨v4.heap.size, 0, none⟩) 1 1) (by simp [Act.eval]) (by simp [Act.eval]) (run_appR w.heap.size (HM.out ▸ C5.out.cur.own) RD.out ?s3 ?s4) ?_
        case s3 => have := HMT.out; have := HN.out; omega
        case s4 => exact C5.out.below.size
        intro v6 w6 ho6 hg6
        obtain ⟨hg6, _⟩ := hg6
        obtain ⟨A6, m6, c6, rfl, hm6, hc6⟩ := C5.out.app (k := [(⟨⟨x.ro.key, x.ro.live, 0, 0, X⟩, A4, c4⟩ : RA)]) (fun y hy => by rw [List.mem_singleton.1 hy]; exact HSF.out) ho6 hg6
        have C6 := Lib.hid hc6
        have T6 := Lib.hid (T5.out.grown C5.out.cur.own hg6 (fun h => Nat.lt_irrefl _ (HOL.out _ h)))
        clear ho6 hg6 hc6 hm6
        refine hK.out _ _ ?_ (fun hHeld => ?_)
        · exact T6.out
        clear hK K
        try simp only [Act.put, List.getElem_toArray, List.getElem_cons_succ, List.getElem_cons_zero, List.setIfInBounds_toArray, List.set_cons_zero, List.set_cons_succ]
        refine wpAnyH_take (i := 13) (v := ?_) rfl (by kernel_rfl) (by kernel_rfl) (by kernel_rfl) (fun _ _ _ h => h) (Or.inl ⟨by rfl, ?_⟩) (by assumption) ?_
        rotate_left
        · (intro wx hSw; (try dsimp only at hSw); go_simp; try with_reducible rfl)
        try simp only [Act.put, List.getElem_toArray, List.getElem_cons_succ, List.getElem_cons_zero, List.setIfInBounds_toArray, List.set_cons_zero, List.set_cons_succ]
        refine wpAnyH_done (by kernel_rfl) ?_ _
        have hz1 := T6.out.1
        have hs : ros (M ++ [(⟨⟨x.ro.key, x.ro.live, 0, 0, X⟩, A4, c4⟩ : RA)]) = seenR g now st (ros (L.take (t + 1))) := by
          rw [HTK.out, seenR_snoc, HU.out, if_pos rfl, ← HMR.out, ← HX.out]
          simp [ros, Ro.seenD]
        have HS := Lib.hid hs; have HZ1 := Lib.hid hz1
        clear hs hz1
        go_wp2
        go_roundw
        case rel => exact ⟨t + 1, _, by omega, by go_num, HS.out, by rw [List.length_append, HM.out]; have := HMT.out; simp; omega, C6.out, HZ1.out⟩
        case measure => simp [intOf]; omega
    · obtain rfl : t = n := by omega
      have hs : ros M = seenR g now st (ros L) := by rw [HMR.out, List.take_of_length_le (by rw [HL.out]; exact Nat.le_refl _)]
      have HS := Lib.hid hs
      clear hs
      go_wp2
      go_ret
      first | exact ⟨_, M, rfl, HS.out, HM.out ▸ HO.out⟩ | exact ⟨_, M, rfl, HS.out, HO.out⟩ | exact ⟨_, rfl, M, HS.out, HO.out⟩
end Go.Proofs.Ytafbbojfifcncaa
