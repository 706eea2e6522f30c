/-
  The document's own put.
-/
import Derived.Test.YtafbbojfifcncaaTkl
import Derived.Test.YtafbbojfifcncaaRoK
import Derived.Test.YtafbbojfifcncaaRoB
import Derived.Test.YtafbbojfifcncaaRc4
import Derived.Test.YtafbbojfifcncaaCe5
import Derived.Test.YtafbbojfifcncaaRw7
import Derived.Deep.RegionLaw
import Derived.Deep.RegionHeld3
import Derived.Deep.DeepCutAuto
import Derived.Deep.CutBlock
set_option linter.unusedVariables false
set_option linter.unusedSimpArgs false
namespace Go.Proofs.Ytafbbojfifcncaa
open Go Go.RowKit

theorem Cur.lower {w V w9 : World} {v : Value} {C : Cols} (h : Cur V w9 v C) (hV : Below w.heap.size w V) : Cur w w9 v C := ⟨own_base h.own hV.size, next hV h.below⟩
set_option maxHeartbeats 4000000 in
theorem rput_any (A : Option Addr) (n c B : Nat) (l : Cols) (nm s : ByteArray) (d : Bool) (a e : Int) (w : World) (hr : RdK w B A n l) (hB : B ≤ w.heap.size) (hnc : n ≤ c) (hA : A = none → c = 0) (hn : n ≤ 1000) :
    Calls Try.prog 80 #[.slice A n c, .agg #[.string nm, .string s, .bool d, .int .i64 a, .int .i64 e]] w fun x w' => ∃ v, x = .returned v ∧ Cur w w' v (putC l nm ⟨s, d, a, e⟩) := by
  obtain ⟨P, hP⟩ : ∃ P, putC l nm ⟨s, d, a, e⟩ = P := ⟨_, rfl⟩
  rw [hP]
  have HP := Lib.hid hP
  clear hP
  have hl := hr.1
  have bz := (Below.refl w.heap.size w).alloc (Nat.le_refl _) (.cells #[.string nm, .string s, .bool d, .int .i64 a, .int .i64 e] 66)
  have hz := heap_alloc_new w (.cells #[.string nm, .string s, .bool d, .int .i64 a, .int .i64 e] 66)
  have hr2 := hr.below (bz.mono hB)
  obtain ⟨V, hV⟩ : ∃ V, V = w.alloc (.cells #[.string nm, .string s, .bool d, .int .i64 a, .int .i64 e] 66) := ⟨_, rfl⟩
  have hVs : V.heap.size = w.heap.size + 1 := by rw [hV]; simp
  rw [← hV] at bz hz hr2
  have BZ := Lib.hid bz; have HZ := Lib.hid hz; have HR := Lib.hid hr2; have HL := Lib.hid hl; have HVS := Lib.hid hVs
  obtain ⟨g0, o0, hA0, hgB, hcols⟩ : ∃ g0 o0, (0 < n → A = some ⟨g0, o0, none⟩) ∧ (0 < n → g0 < w.heap.size + 1) ∧ ∀ w', Below V.heap.size V w' → ∀ t (ht : t < n), w'.cell? ⟨g0, o0 + t * 5, none⟩ = some (.string (l[t]'(by rw [hl]; exact ht)).1) ∧ w'.cell? ⟨g0, o0 + t * 5 + 1, none⟩ = some (.string (l[t]'(by rw [hl]; exact ht)).2.s) ∧ w'.cell? ⟨g0, o0 + t * 5 + 2, none⟩ = some (.bool (l[t]'(by rw [hl]; exact ht)).2.d) ∧ w'.cell? ⟨g0, o0 + t * 5 + 3, none⟩ = some (.int .i64 (l[t]'(by rw [hl]; exact ht)).2.a) ∧ w'.cell? ⟨g0, o0 + t * 5 + 4, none⟩ = some (.int .i64 (l[t]'(by rw [hl]; exact ht)).2.e) := by
    by_cases h0 : 0 < n
    · obtain ⟨g, o, e, hg, hc⟩ := hr2.2 h0
      refine ⟨g, o, fun _ => e, fun _ => by omega, fun w' hb t ht => ?_⟩
      obtain ⟨c0, c1, c2, c3, c4⟩ := hc t (by rw [hl]; exact ht)
      have hgv : g < V.heap.size := by omega
      exact ⟨(hb.cell (p := ⟨g, _, none⟩) hgv).trans c0, (hb.cell (p := ⟨g, _, none⟩) hgv).trans c1, (hb.cell (p := ⟨g, _, none⟩) hgv).trans c2, (hb.cell (p := ⟨g, _, none⟩) hgv).trans c3, (hb.cell (p := ⟨g, _, none⟩) hgv).trans c4⟩
    · exact ⟨0, 0, fun h => absurd h h0, fun h => absurd h h0, fun w' hb t ht => absurd ht (by omega)⟩
  have hall : ∀ w', Below V.heap.size V w' → (w'.cell? ⟨w.heap.size, 0, none⟩ = some (.string nm) ∧ w'.cell? ⟨w.heap.size, 0 + 1, none⟩ = some (.string s) ∧ w'.cell? ⟨w.heap.size, 0 + 2, none⟩ = some (.bool d) ∧ w'.cell? ⟨w.heap.size, 0 + 3, none⟩ = some (.int .i64 a) ∧ w'.cell? ⟨w.heap.size, 0 + 4, none⟩ = some (.int .i64 e)) ∧ ∀ t (ht : t < n), w'.cell? ⟨g0, o0 + t * 5, none⟩ = some (.string (l[t]'(by rw [hl]; exact ht)).1) ∧ w'.cell? ⟨g0, o0 + t * 5 + 1, none⟩ = some (.string (l[t]'(by rw [hl]; exact ht)).2.s) ∧ w'.cell? ⟨g0, o0 + t * 5 + 2, none⟩ = some (.bool (l[t]'(by rw [hl]; exact ht)).2.d) ∧ w'.cell? ⟨g0, o0 + t * 5 + 3, none⟩ = some (.int .i64 (l[t]'(by rw [hl]; exact ht)).2.a) ∧ w'.cell? ⟨g0, o0 + t * 5 + 4, none⟩ = some (.int .i64 (l[t]'(by rw [hl]; exact ht)).2.e) := fun w' hb => by
    have hq := (hb.block w.heap.size (by omega)).trans hz
    exact ⟨⟨cell_at hq rfl, cell_at hq rfl, cell_at hq rfl, cell_at hq rfl, cell_at hq rfl⟩, hcols w' hb⟩
  have HALL := Lib.hid hall; have HA0 := Lib.hid hA0
  clear bz hz hr2 hr hVs hall hcols hA0
  go_enter Try.func80, Try.ntmps80
  go_upto_block 0 with fail
  rw [← hV]
  clear hV
  go_cut [5] from 7 to 22 (fun s5 wx => ∃ t : Nat, t ≤ n ∧ s5 = .int .i64 t ∧ (∀ j (hj : j < l.length), j < t → nlt l[j].1 nm) ∧ (∀ hk : t < l.length, ¬ nlt l[t].1 nm) ∧ Below V.heap.size V wx)
  case first =>
    go_wp2_with fail
    go_loopw [5] (fun i wr => ∃ t : Nat, t ≤ n ∧ i = .int .i64 t ∧ (∀ j (hj : j < l.length), j < t → nlt l[j].1 nm) ∧ Below V.heap.size V wr) (fun i _ => n - (intOf i).toNat)
    case atStart => exact ⟨0, Nat.zero_le _, rfl, fun j hj h => absurd h (by omega), Below.refl _ _⟩
    case round =>
      obtain ⟨t, ht, rfl, hup, hb⟩ := hrel
      have HUP := Lib.hid hup
      have HB := Lib.hid hb
      clear hup hb
      by_cases hlt : t < n
      · have htl : t < l.length := by rw [HL.out]; exact hlt
        obtain rfl : A = some ⟨g0, o0, none⟩ := HA0.out (by omega)
        have i1 : (t : Int) < n := by omega
        have i0 : (0 : Int) ≤ t := by omega
        by_cases hm : nlt l[t].1 nm
        · have hb1 : Op.bytesLess l[t].1.toList nm.toList = true := blB_true hm
          have hup2 : ∀ j (hj : j < l.length), j < t + 1 → nlt l[j].1 nm := by
            intro j hj h
            rcases Nat.lt_or_ge j t with h1 | h1
            · exact HUP.out j hj h1
            · obtain rfl : j = t := by omega
              exact hm
          have HUP2 := Lib.hid hup2
          clear hup2 hm
          go_wp2_with fail
          refine wp_region_held_drew (S := fun w' => Below V.heap.size V w') (by kernel_rfl) ?_ (fun hHeld => ?_)
          · exact HB.out.drew
          refine takesH [0, 1, 2, 3, 4, 5, 6, 7, 8, 9, 10, 11, 12, 13] ?_
          repeat
            refine takesH_one (v := ?_) ?_ ?_
            rotate_left
            · first | (refine Or.inr ⟨by rfl, ?_⟩; with_reducible rfl) | (refine Or.inl ⟨by rfl, ?_⟩; intro wx hSw; (try dsimp only at hSw); first | (go_simp; first | done | with_reducible rfl) | (obtain ⟨⟨_, _, _, _, _⟩, hk⟩ := HALL.out _ hSw; obtain ⟨_, _, _, _, _⟩ := hk t hlt; go_simp; first | done | with_reducible rfl))
            try simp only [Act.put, List.getElem_toArray, List.getElem_cons_succ, List.getElem_cons_zero, List.setIfInBounds_toArray, List.set_cons_zero, List.set_cons_succ]
          refine takesH_nil ?_
          refine wpAnyH_done (by kernel_rfl) ?_ _
          go_wp2
          go_roundw
          case rel => exact ⟨t + 1, by omega, by go_num, HUP2.out, hHeld⟩
          case measure => simp [intOf]; omega
        · have hb1 : Op.bytesLess l[t].1.toList nm.toList = false := blB_false hm
          have HM := Lib.hid hm
          clear hm
          go_wp2_with fail
          refine wp_region_held_drew (S := fun w' => Below V.heap.size V w') (by kernel_rfl) ?_ (fun hHeld => ?_)
          · exact HB.out.drew
          refine takesH [0, 1, 2, 3, 4, 5, 6, 7, 8, 9, 10, 11, 12, 13] ?_
          repeat
            refine takesH_one (v := ?_) ?_ ?_
            rotate_left
            · first | (refine Or.inr ⟨by rfl, ?_⟩; with_reducible rfl) | (refine Or.inl ⟨by rfl, ?_⟩; intro wx hSw; (try dsimp only at hSw); first | (go_simp; first | done | with_reducible rfl) | (obtain ⟨⟨_, _, _, _, _⟩, hk⟩ := HALL.out _ hSw; obtain ⟨_, _, _, _, _⟩ := hk t hlt; go_simp; first | done | with_reducible rfl))
            try simp only [Act.put, List.getElem_toArray, List.getElem_cons_succ, List.getElem_cons_zero, List.setIfInBounds_toArray, List.set_cons_zero, List.set_cons_succ]
          refine takesH_nil ?_
          refine wpAnyH_done (by kernel_rfl) ?_ _
          go_wp2
          go_meet
          exact ⟨t, by omega, rfl, HUP.out, fun _ => HM.out, hHeld⟩
      · have d0 : decide ((t : Int) < (n : Int)) = false := by simp; omega
        have d1 : decide (t < n) = false := decide_eq_false hlt
        have d2 : n ≤ t := by omega
        go_wp2_with fail
        refine wp_region_held_drew (S := fun w' => Below V.heap.size V w') (by kernel_rfl) ?_ (fun hHeld => ?_)
        · exact HB.out.drew
        refine takesH [0, 1, 2, 3, 4, 5, 6, 7, 8, 9, 10, 11, 12, 13] ?_
        repeat
          refine takesH_one (v := ?_) ?_ ?_
          rotate_left
          · first | (refine Or.inr ⟨by rfl, ?_⟩; with_reducible rfl) | (refine Or.inl ⟨by rfl, ?_⟩; intro wx hSw; (try dsimp only at hSw); first | (go_simp; first | done | with_reducible rfl))
          try simp only [Act.put, List.getElem_toArray, List.getElem_cons_succ, List.getElem_cons_zero, List.setIfInBounds_toArray, List.set_cons_zero, List.set_cons_succ]
        refine takesH_nil ?_
        refine wpAnyH_done (by kernel_rfl) ?_ _
        go_wp2
        go_meet
        exact ⟨t, by omega, rfl, HUP.out, fun h => absurd h (by rw [HL.out]; omega), hHeld⟩
  case rest =>
    obtain ⟨t, ht, rfl, hup, hnot, hb⟩ := hcut
    obtain ⟨hsl, hpre⟩ := slK_h HR.out hnc hA (t : Int) t rfl ht
    have hq := hpre.below (hb.mono (by have := HVS.out; omega))
    have HUP := Lib.hid hup; have HNOT := Lib.hid hnot; have HQ := Lib.hid hq; have HBC := Lib.hid hb
    clear hup hnot hq hb hpre
    go_wp2_with (at_builtin; refine list_ex rfl (.const (.slice none 0 0)) (.tmp 25) _ _ rfl (.slice none 0 0) (.slice A t c) rfl rfl (run_appK V.heap.size (own_nilK _ _) (show RdK _ B A t (l.take t) from HQ.out) ?s1 ?s2) ?_)
    case s1 => omega
    case s2 => exact HBC.out.size
    intro v3 w3 ho3 hg3 _
    obtain ⟨A3, m3, c3, rfl, hc3⟩ := (⟨own_nilK _ _, HBC.out⟩ : Cur V wc (.slice none 0 0) []).appN ho3 hg3
    rw [List.nil_append] at hc3
    have C3 := Lib.hid hc3
    clear ho3 hg3 hc3 hsl
    have hput := putC_at l nm ⟨s, d, a, e⟩ t (by rw [HL.out]; exact ht) HUP.out HNOT.out
    rw [HP.out] at hput
    have HPUT := Lib.hid hput
    clear hput
    have HT3 := Lib.hid (show (l.take t).length = t by rw [List.length_take, HL.out]; omega)
    by_cases hlt : t < n
    · have htl : t < l.length := by rw [HL.out]; exact hlt
      obtain rfl : A = some ⟨g0, o0, none⟩ := HA0.out (by omega)
      have i1 : (t : Int) < n := by omega
      have i0 : (0 : Int) ≤ t := by omega
      have hp2 := HPUT.out
      rw [dif_pos htl] at hp2
      by_cases he : l[t].1 = nm
      · have hb1 : (l[t].1.toList == nm.toList) = true := eqB_true he
        rw [if_pos he] at hp2
        have HP2 := Lib.hid hp2
        clear hp2 he
        go_wp2_with fail
        refine wp_region_held_drew (S := fun w' => Below V.heap.size V w') (by kernel_rfl) ?_ (fun hHeld => ?_)
        · exact C3.out.below.drew
        refine takesH [0, 1, 2, 3, 4, 5, 6, 7, 8, 9, 10, 11, 12, 13] ?_
        repeat
          refine takesH_one (v := ?_) ?_ ?_
          rotate_left
          · first | (refine Or.inr ⟨by rfl, ?_⟩; with_reducible rfl) | (refine Or.inl ⟨by rfl, ?_⟩; intro wx hSw; (try dsimp only at hSw); first | (go_simp; first | done | with_reducible rfl) | (obtain ⟨⟨_, _, _, _, _⟩, hk⟩ := HALL.out _ hSw; obtain ⟨_, _, _, _, _⟩ := hk t hlt; go_simp; first | done | with_reducible rfl))
          try simp only [Act.put, List.getElem_toArray, List.getElem_cons_succ, List.getElem_cons_zero, List.setIfInBounds_toArray, List.set_cons_zero, List.set_cons_succ]
        refine takesH_nil ?_
        refine wpAnyH_done (by kernel_rfl) ?_ _
        have HH := Lib.hid hHeld
        clear hHeld
        obtain ⟨⟨js, jd, ja, je⟩, hj⟩ : ∃ j, Ce.join ⟨l[t].2.s, l[t].2.d, l[t].2.a, l[t].2.e⟩ ⟨s, d, a, e⟩ = j := ⟨_, rfl⟩
        have J1 := Lib.hid (congrArg Ce.v hj)
        unfold Ce.v at J1
        have HJ := Lib.hid hj
        clear hj
        go_wp2_with fail
        refine wp_region_held_drew (S := fun w' => Below V.heap.size V w') (by kernel_rfl) ?_ (fun hHeld => ?_)
        · exact HH.out.drew
        refine takesH [0, 1, 2, 3, 4, 5, 6, 7, 8, 9] ?_
        repeat
          refine takesH_one (v := ?_) ?_ ?_
          rotate_left
          · first | (refine Or.inr ⟨by rfl, ?_⟩; with_reducible rfl) | (refine Or.inl ⟨by rfl, ?_⟩; intro wx hSw; (try dsimp only at hSw); first | (go_simp; first | done | with_reducible rfl) | (obtain ⟨⟨_, _, _, _, _⟩, hk⟩ := HALL.out _ hSw; obtain ⟨_, _, _, _, _⟩ := hk t hlt; go_simp; first | done | with_reducible rfl))
          try simp only [Act.put, List.getElem_toArray, List.getElem_cons_succ, List.getElem_cons_zero, List.setIfInBounds_toArray, List.set_cons_zero, List.set_cons_succ]
        refine takesH_nil ?_
        refine wpAnyH_ready (rs := [10]) (by kernel_rfl) (by simp) (AllReadyH.cons rfl (fun K hK => ?_) AllReadyH.nil)
        go_simp
        refine (rjoin_any _ _ _ _ _ _ _ _ _).mono ?_
        rintro x v4 ⟨rfl, b4⟩
        unfold Ce.v
        rw [J1.out]
        have C4 := Lib.hid (C3.out.on (next (w := w3) (w1 := w3.drew.drew) ((Below.refl w3.heap.size w3).drew.drew) b4))
        have C5 := Lib.hid (C4.out.on ((Below.refl v4.heap.size v4).alloc (Nat.le_refl _) (.cells #[.string nm, .string js, .bool jd, .int .i64 ja, .int .i64 je] 66)))
        have RD := Lib.hid (RdK.one v4 (nm, ⟨js, jd, ja, je⟩) v4.heap.size rfl)
        clear b4
        try go_wp2_with fail
        refine hK.out _ _ ?_ (fun hHeld => ?_)
        · exact C4.out.below
        clear hK K
        try simp only [Act.put, List.getElem_toArray, List.getElem_cons_succ, List.getElem_cons_zero, List.setIfInBounds_toArray, List.set_cons_zero, List.set_cons_succ]
        refine takesH [11] ?_
        repeat
          refine takesH_one (v := ?_) ?_ ?_
          rotate_left
          · first | (refine Or.inr ⟨by rfl, ?_⟩; with_reducible rfl) | (refine Or.inl ⟨by rfl, ?_⟩; intro wx hSw; (try dsimp only at hSw); first | (go_simp; first | done | with_reducible rfl))
          try simp only [Act.put, List.getElem_toArray, List.getElem_cons_succ, List.getElem_cons_zero, List.setIfInBounds_toArray, List.set_cons_zero, List.set_cons_succ]
        refine takesH_nil ?_
        refine wpAnyH_ready (rs := [12]) (by kernel_rfl) (by simp) (AllReadyH.cons rfl (fun K hK => ?_) AllReadyH.nil)
        go_simp
        refine hK.out _ _ ?_ (fun hHeld => ?_)
        · exact C5.out.below
        clear hK K
        try simp only [Act.put, List.getElem_toArray, List.getElem_cons_succ, List.getElem_cons_zero, List.setIfInBounds_toArray, List.set_cons_zero, List.set_cons_succ]
        refine wpAnyH_ready (rs := [13]) (by kernel_rfl) (by simp) (AllReadyH.cons rfl (fun K hK => ?_) AllReadyH.nil)
        refine step_ex rfl (.tmp 41) (.tmp 53) _ _ rfl (.slice A3 m3 c3) (.slice (some ⟨v4.heap.size, 0, none⟩) 1 1) (by simp [Act.eval]) (by simp [Act.eval]) (run_appK V.heap.size C5.out.own RD.out ?s3 ?s4) ?_
        case s3 => have := HT3.out; omega
        case s4 => exact C5.out.below.size
        intro v6 w6 ho6 hg6
        obtain ⟨hg6, _⟩ := hg6
        obtain ⟨A6, m6, c6, rfl, hc6⟩ := C5.out.appN ho6 hg6
        have C6 := Lib.hid hc6
        clear ho6 hg6 hc6
        refine hK.out _ _ ?_ (fun hHeld => ?_)
        · exact C6.out.below
        clear hK K
        try simp only [Act.put, List.getElem_toArray, List.getElem_cons_succ, List.getElem_cons_zero, List.setIfInBounds_toArray, List.set_cons_zero, List.set_cons_succ]
        refine takesH [14] ?_
        repeat
          refine takesH_one (v := ?_) ?_ ?_
          rotate_left
          · first | (refine Or.inr ⟨by rfl, ?_⟩; with_reducible rfl) | (refine Or.inl ⟨by rfl, ?_⟩; intro wx hSw; (try dsimp only at hSw); first | (go_simp; first | done | with_reducible rfl))
          try simp only [Act.put, List.getElem_toArray, List.getElem_cons_succ, List.getElem_cons_zero, List.setIfInBounds_toArray, List.set_cons_zero, List.set_cons_succ]
        refine takesH_nil ?_
        refine wpAnyH_done (by kernel_rfl) ?_ _
        have wt : IntKind.i64.wrap ((t : Int) + 1) = (t : Int) + 1 := by rw [IntKind.wrap_i64]; omega
        obtain ⟨A7, hsl7, hr7⟩ := slK_l HR.out hnc ((t : Int) + 1) (t + 1) (by omega) (by omega)
        have HR7 := Lib.hid (hr7.below (C6.out.below.mono (by have := HVS.out; omega)))
        clear hr7 hHeld
        go_wp2_with (at_builtin; refine list_ex rfl (.tmp 55) (.tmp 59) _ _ rfl (.slice A6 m6 c6) (.slice A7 (n - (t + 1)) (c - (t + 1))) rfl rfl (run_appK V.heap.size C6.out.own HR7.out ?s5 ?s6) ?_)
        case s5 => have := HT3.out; simp only [List.length_append, List.length_singleton]; omega
        case s6 => exact C6.out.below.size
        intro v8 w8 ho8 hg8 _
        have e7 : l.take t ++ (nm, ⟨js, jd, ja, je⟩) :: l.drop (t + 1) = l.take t ++ [(nm, ⟨js, jd, ja, je⟩)] ++ l.drop (t + 1) := by simp
        rw [e7] at ho8
        obtain ⟨A8, m8, c8, rfl, hc8⟩ := C6.out.appN ho8 hg8
        have C8 := Lib.hid hc8
        clear ho8 hg8 hc8
        go_wp2
        go_ret
        refine ⟨_, rfl, ?_⟩
        have h8 := C8.out.lower BZ.out
        rw [List.append_assoc] at h8
        have e8 : P = l.take t ++ ([(nm, ⟨js, jd, ja, je⟩)] ++ l.drop (t + 1)) := by rw [HP2.out, ← HJ.out]; rfl
        rw [e8]
        exact h8
      · have hb1 : (l[t].1.toList == nm.toList) = false := eqB_false he
        rw [if_neg he] at hp2
        have HP2 := Lib.hid hp2
        clear hp2 he
        go_wp2_with fail
        refine wp_region_held_drew (S := fun w' => Below V.heap.size V w') (by kernel_rfl) ?_ (fun hHeld => ?_)
        · exact C3.out.below.drew
        refine takesH [0, 1, 2, 3, 4, 5, 6, 7, 8, 9, 10, 11, 12, 13] ?_
        repeat
          refine takesH_one (v := ?_) ?_ ?_
          rotate_left
          · first | (refine Or.inr ⟨by rfl, ?_⟩; with_reducible rfl) | (refine Or.inl ⟨by rfl, ?_⟩; intro wx hSw; (try dsimp only at hSw); first | (go_simp; first | done | with_reducible rfl) | (obtain ⟨⟨_, _, _, _, _⟩, hk⟩ := HALL.out _ hSw; obtain ⟨_, _, _, _, _⟩ := hk t hlt; go_simp; first | done | with_reducible rfl))
          try simp only [Act.put, List.getElem_toArray, List.getElem_cons_succ, List.getElem_cons_zero, List.setIfInBounds_toArray, List.set_cons_zero, List.set_cons_succ]
        refine takesH_nil ?_
        refine wpAnyH_done (by kernel_rfl) ?_ _
        have HH := Lib.hid hHeld
        clear hHeld
        obtain ⟨A7, hsl7, hr7⟩ := slK_l HR.out hnc (t : Int) t rfl ht
        have R7 := Lib.hid hr7
        have C5 := Lib.hid (C3.out.on (((Below.refl w3.heap.size w3).drew.drew).alloc (Nat.le_refl _) (.cells #[.string nm, .string s, .bool d, .int .i64 a, .int .i64 e] 66)))
        have RD := Lib.hid (RdK.one w3.drew.drew (nm, ⟨s, d, a, e⟩) w3.drew.drew.heap.size rfl)
        clear hr7
        go_wp2_with fail
        refine wp_region_held_drew (S := fun w' => Below V.heap.size V w') (by kernel_rfl) ?_ (fun hHeld => ?_)
        · exact HH.out.drew
        refine takesH [0, 1, 4, 5, 6] ?_
        repeat
          refine takesH_one (v := ?_) ?_ ?_
          rotate_left
          · first | (refine Or.inr ⟨by rfl, ?_⟩; with_reducible rfl) | (refine Or.inl ⟨by rfl, ?_⟩; intro wx hSw; (try dsimp only at hSw); first | (go_simp; first | done | with_reducible rfl) | (obtain ⟨⟨_, _, _, _, _⟩, _⟩ := HALL.out _ hSw; go_simp; first | done | with_reducible rfl))
          try simp only [Act.put, List.getElem_toArray, List.getElem_cons_succ, List.getElem_cons_zero, List.setIfInBounds_toArray, List.set_cons_zero, List.set_cons_succ]
        refine takesH_nil ?_
        refine wpAnyH_ready (rs := [2]) (by kernel_rfl) (by simp) (AllReadyH.cons rfl (fun K hK => ?_) AllReadyH.nil)
        go_simp
        refine hK.out _ _ ?_ (fun hHeld => ?_)
        · exact C5.out.below
        clear hK K
        try simp only [Act.put, List.getElem_toArray, List.getElem_cons_succ, List.getElem_cons_zero, List.setIfInBounds_toArray, List.set_cons_zero, List.set_cons_succ]
        refine wpAnyH_ready (rs := [3]) (by kernel_rfl) (by simp) (AllReadyH.cons rfl (fun K hK => ?_) AllReadyH.nil)
        refine step_ex rfl (.tmp 61) (.tmp 63) _ _ rfl (.slice A3 m3 c3) (.slice (some ⟨w3.heap.size, 0, none⟩) 1 1) (by simp [Act.eval]) (by simp [Act.eval]) (run_appK V.heap.size C5.out.own RD.out ?s3 ?s4) ?_
        case s3 => have := HT3.out; omega
        case s4 => exact C5.out.below.size
        intro v6 w6 ho6 hg6
        obtain ⟨hg6, _⟩ := hg6
        obtain ⟨A6, m6, c6, rfl, hc6⟩ := C5.out.appN ho6 hg6
        have C6 := Lib.hid hc6
        have HR7 := Lib.hid (R7.out.below (C6.out.below.mono (by have := HVS.out; omega)))
        clear ho6 hg6 hc6
        refine hK.out _ _ ?_ (fun hHeld => ?_)
        · exact C6.out.below
        clear hK K
        try simp only [Act.put, List.getElem_toArray, List.getElem_cons_succ, List.getElem_cons_zero, List.setIfInBounds_toArray, List.set_cons_zero, List.set_cons_succ]
        refine wpAnyH_ready (rs := [7]) (by kernel_rfl) (by simp) (AllReadyH.cons rfl (fun K hK => ?_) AllReadyH.nil)
        refine step_ex rfl (.tmp 64) (.tmp 67) _ _ rfl (.slice A6 m6 c6) (.slice A7 (n - t) (c - t)) (by simp [Act.eval]) (by simp [Act.eval] <;> omega) (run_appK V.heap.size C6.out.own HR7.out ?s5 ?s6) ?_
        case s5 => have := HT3.out; simp only [List.length_append, List.length_singleton]; omega
        case s6 => exact C6.out.below.size
        intro v8 w8 ho8 hg8
        obtain ⟨hg8, _⟩ := hg8
        obtain ⟨A8, m8, c8, rfl, hc8⟩ := C6.out.appN ho8 hg8
        have C8 := Lib.hid hc8
        clear ho8 hg8 hc8
        refine hK.out _ _ ?_ (fun hHeld => ?_)
        · exact C8.out.below
        clear hK K
        try simp only [Act.put, List.getElem_toArray, List.getElem_cons_succ, List.getElem_cons_zero, List.setIfInBounds_toArray, List.set_cons_zero, List.set_cons_succ]
        refine takesH [8] ?_
        repeat
          refine takesH_one (v := ?_) ?_ ?_
          rotate_left
          · first | (refine Or.inr ⟨by rfl, ?_⟩; with_reducible rfl) | (refine Or.inl ⟨by rfl, ?_⟩; intro wx hSw; (try dsimp only at hSw); first | (go_simp; first | done | with_reducible rfl))
          try simp only [Act.put, List.getElem_toArray, List.getElem_cons_succ, List.getElem_cons_zero, List.setIfInBounds_toArray, List.set_cons_zero, List.set_cons_succ]
        refine takesH_nil ?_
        refine wpAnyH_done (by kernel_rfl) ?_ _
        clear hHeld hsl7
        go_wp2
        go_ret
        refine ⟨_, rfl, ?_⟩
        have h8 := C8.out.lower BZ.out
        rw [List.append_assoc] at h8
        rw [HP2.out]
        exact h8
    · have d0 : decide ((t : Int) < (n : Int)) = false := by simp; omega
      have d1 : decide (t < n) = false := decide_eq_false hlt
      have d2 : n ≤ t := by omega
      have hp2 := HPUT.out
      rw [dif_neg (by rw [HL.out]; exact hlt)] at hp2
      have HP2 := Lib.hid hp2
      clear hp2
      go_wp2_with fail
      refine wp_region_held_drew (S := fun w' => Below V.heap.size V w') (by kernel_rfl) ?_ (fun hHeld => ?_)
      · exact C3.out.below.drew
      refine takesH [0, 1, 2, 3, 4, 5, 6, 7, 8, 9, 10, 11, 12, 13] ?_
      repeat
        refine takesH_one (v := ?_) ?_ ?_
        rotate_left
        · first | (refine Or.inr ⟨by rfl, ?_⟩; with_reducible rfl) | (refine Or.inl ⟨by rfl, ?_⟩; intro wx hSw; (try dsimp only at hSw); first | (go_simp; first | done | with_reducible rfl))
        try simp only [Act.put, List.getElem_toArray, List.getElem_cons_succ, List.getElem_cons_zero, List.setIfInBounds_toArray, List.set_cons_zero, List.set_cons_succ]
      refine takesH_nil ?_
      refine wpAnyH_done (by kernel_rfl) ?_ _
      have HH := Lib.hid hHeld
      clear hHeld
      obtain ⟨A7, hsl7, hr7⟩ := slK_l HR.out hnc (t : Int) t rfl ht
      have R7 := Lib.hid hr7
      have C5 := Lib.hid (C3.out.on (((Below.refl w3.heap.size w3).drew.drew).alloc (Nat.le_refl _) (.cells #[.string nm, .string s, .bool d, .int .i64 a, .int .i64 e] 66)))
      have RD := Lib.hid (RdK.one w3.drew.drew (nm, ⟨s, d, a, e⟩) w3.drew.drew.heap.size rfl)
      clear hr7
      go_wp2_with fail
      refine wp_region_held_drew (S := fun w' => Below V.heap.size V w') (by kernel_rfl) ?_ (fun hHeld => ?_)
      · exact HH.out.drew
      refine takesH [0, 1, 4, 5, 6] ?_
      repeat
        refine takesH_one (v := ?_) ?_ ?_
        rotate_left
        · first | (refine Or.inr ⟨by rfl, ?_⟩; with_reducible rfl) | (refine Or.inl ⟨by rfl, ?_⟩; intro wx hSw; (try dsimp only at hSw); first | (go_simp; first | done | with_reducible rfl) | (obtain ⟨⟨_, _, _, _, _⟩, _⟩ := HALL.out _ hSw; go_simp; first | done | with_reducible rfl))
        try simp only [Act.put, List.getElem_toArray, List.getElem_cons_succ, List.getElem_cons_zero, List.setIfInBounds_toArray, List.set_cons_zero, List.set_cons_succ]
      refine takesH_nil ?_
      refine wpAnyH_ready (rs := [2]) (by kernel_rfl) (by simp) (AllReadyH.cons rfl (fun K hK => ?_) AllReadyH.nil)
      go_simp
      refine hK.out _ _ ?_ (fun hHeld => ?_)
      · exact C5.out.below
      clear hK K
      try simp only [Act.put, List.getElem_toArray, List.getElem_cons_succ, List.getElem_cons_zero, List.setIfInBounds_toArray, List.set_cons_zero, List.set_cons_succ]
      refine wpAnyH_ready (rs := [3]) (by kernel_rfl) (by simp) (AllReadyH.cons rfl (fun K hK => ?_) AllReadyH.nil)
      refine step_ex rfl (.tmp 61) (.tmp 63) _ _ rfl (.slice A3 m3 c3) (.slice (some ⟨w3.heap.size, 0, none⟩) 1 1) (by simp [Act.eval]) (by simp [Act.eval]) (run_appK V.heap.size C5.out.own RD.out ?s3 ?s4) ?_
      case s3 => have := HT3.out; omega
      case s4 => exact C5.out.below.size
      intro v6 w6 ho6 hg6
      obtain ⟨hg6, _⟩ := hg6
      obtain ⟨A6, m6, c6, rfl, hc6⟩ := C5.out.appN ho6 hg6
      have C6 := Lib.hid hc6
      have HR7 := Lib.hid (R7.out.below (C6.out.below.mono (by have := HVS.out; omega)))
      clear ho6 hg6 hc6
      refine hK.out _ _ ?_ (fun hHeld => ?_)
      · exact C6.out.below
      clear hK K
      try simp only [Act.put, List.getElem_toArray, List.getElem_cons_succ, List.getElem_cons_zero, List.setIfInBounds_toArray, List.set_cons_zero, List.set_cons_succ]
      refine wpAnyH_ready (rs := [7]) (by kernel_rfl) (by simp) (AllReadyH.cons rfl (fun K hK => ?_) AllReadyH.nil)
      refine step_ex rfl (.tmp 64) (.tmp 67) _ _ rfl (.slice A6 m6 c6) (.slice A7 (n - t) (c - t)) (by simp [Act.eval]) (by simp [Act.eval] <;> omega) (run_appK V.heap.size C6.out.own HR7.out ?s5 ?s6) ?_
      case s5 => have := HT3.out; simp only [List.length_append, List.length_singleton]; omega
      case s6 => exact C6.out.below.size
      intro v8 w8 ho8 hg8
      obtain ⟨hg8, _⟩ := hg8
      obtain ⟨A8, m8, c8, rfl, hc8⟩ := C6.out.appN ho8 hg8
      have C8 := Lib.hid hc8
      clear ho8 hg8 hc8
      refine hK.out _ _ ?_ (fun hHeld => ?_)
      · exact C8.out.below
      clear hK K
      try simp only [Act.put, List.getElem_toArray, List.getElem_cons_succ, List.getElem_cons_zero, List.setIfInBounds_toArray, List.set_cons_zero, List.set_cons_succ]
      refine takesH [8] ?_
      repeat
        refine takesH_one (v := ?_) ?_ ?_
        rotate_left
        · first | (refine Or.inr ⟨by rfl, ?_⟩; with_reducible rfl) | (refine Or.inl ⟨by rfl, ?_⟩; intro wx hSw; (try dsimp only at hSw); first | (go_simp; first | done | with_reducible rfl))
        try simp only [Act.put, List.getElem_toArray, List.getElem_cons_succ, List.getElem_cons_zero, List.setIfInBounds_toArray, List.set_cons_zero, List.set_cons_succ]
      refine takesH_nil ?_
      refine wpAnyH_done (by kernel_rfl) ?_ _
      clear hHeld hsl7
      go_wp2
      go_ret
      refine ⟨_, rfl, ?_⟩
      have h8 := C8.out.lower BZ.out
      have e9 : l.drop t = [] := List.drop_of_length_le (by rw [HL.out]; omega)
      rw [e9, List.append_nil] at h8
      rw [HP2.out]
      exact h8
end Go.Proofs.Ytafbbojfifcncaa
