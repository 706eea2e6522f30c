/-
  The developers' Seen, Is.
-/
import Derived.Test.YtafbbojfifcncaaTkl
import Derived.Test.YtafbbojfifcncaaRw1
import Derived.Test.YtafbbojfifcncaaRoK
import Derived.Test.YtafbbojfifcncaaCeN
set_option linter.unusedVariables false
set_option linter.unusedSimpArgs false
namespace Go.Proofs.Ytafbbojfifcncaa
open Go Go.RowKit

def seenD (m now : Int) (l : Cols) : Cols := l.filter fun x => cntD m x.2 && x.2.seen now
theorem grown_ownN {w0 w w' : World} {b : Nat} {v : Value} {n sz : Nat} {xs : List Value} {e : TypeId} (hb : Below b w0 w) (h0 : b ≤ w0.heap.size) (ho : w.ownsRow b e sz v n xs) (hg : w.grownBy w' v.ownBlock) : Below b w0 w' :=
  hb.grown hg (by have := hb.size; omega) fun g h => (ho.lt g h).1
theorem own_base {w : World} {b b' n size : Nat} {e : TypeId} {v : Value} {xs : List Value} (h : w.ownsRow b e size v n xs) (hb : b' ≤ b) : w.ownsRow b' e size v n xs := by
  refine ⟨h.1, ?_⟩
  rcases h.2 with ⟨rfl, rfl⟩ | ⟨g, cap, cur, rfl, h2, h3⟩
  · exact Or.inl ⟨rfl, rfl⟩
  · exact Or.inr ⟨g, cap, cur, rfl, by omega, h3⟩
theorem filter_one {α : Type} (p : α → Bool) (x : α) : [x].filter p = if p x = true then [x] else [] := by cases h : p x <;> simp [h]
/-- Columns of the call's own, behind all that was there in w0. -/
structure Cur (w0 w : World) (v : Value) (C : Cols) : Prop where
  own : w.ownsRow w0.heap.size 66 5 v C.length (kRow C)
  below : Below w0.heap.size w0 w
theorem Cur.on {w0 w w' : World} {v : Value} {C : Cols} (h : Cur w0 w v C) (hb : Below w.heap.size w w') : Cur w0 w' v C :=
  ⟨own_below h.own hb, next h.below hb⟩
theorem Cur.app {w0 w w' : World} {v v' : Value} {C k : Cols} {m : Nat} (h : Cur w0 w v C) (ho : w'.ownsRow w0.heap.size 66 5 v' (C.length + m) (kRow (C ++ k))) (hm : k.length = m) (hg : w.grownBy w' v.ownBlock) : Cur w0 w' v' (C ++ k) := by
  refine ⟨?_, grown_ownN h.below (Nat.le_refl _) h.own hg⟩
  rw [List.length_append, hm]
  exact ho
theorem Cur.slice {w0 w : World} {v : Value} {C : Cols} (h : Cur w0 w v C) : ∃ A c, v = .slice A C.length c ∧ C.length ≤ c ∧ c ≤ maxLen ∧ (A = none → c = 0) ∧ RdK w w.heap.size A C.length C := by
  obtain ⟨A, c, rfl, h1, h2, h3⟩ := own_slice h.own
  exact ⟨A, c, rfl, h1, h2, h3, RdK.of_own h.own⟩

set_option maxHeartbeats 4000000 in
theorem seenrow_any (k s : ByteArray) (d : Bool) (a e g h p now : Int) (A : Option Addr) (n c B : Nat) (l : Cols) (w : World) (hr : RdK w B A n l) (hB : B ≤ w.heap.size) (hn : n ≤ 1000) :
    Calls Try.prog 43 #[.agg #[.string k, .string s, .bool d, .int .i64 a, .int .i64 e, .int .i64 g, .int .i64 h, .slice A n c], .int .i64 p, .int .i64 now] w fun x w' => ∃ v, x = .returned v ∧ Cur w w' v (seenD (max g p) now l) := by
  have hl := hr.1
  obtain ⟨mx, hmx⟩ : ∃ m, max g p = m := ⟨_, rfl⟩
  rw [hmx]
  have MX := Lib.hid hmx
  have bz := (Below.refl w.heap.size w).alloc (Nat.le_refl _) (.cells #[.string k, .string s, .bool d, .int .i64 a, .int .i64 e, .int .i64 g, .int .i64 h, .slice A n c] 36)
  have ro := RoAt.new w k s d a e g h A n c
  have HL := Lib.hid hl; have BZ := Lib.hid bz; have RO_ := Lib.hid ro; have HR := Lib.hid (hr.below (bz.mono hB))
  clear hl bz hmx hr
  obtain ⟨q0, q1, q2, q3, q4, q5, q6, q7⟩ := RO_.out
  go_enter Try.func43, Try.ntmps43
  go_wp2_with fail
  refine (gone_any _ _ _ _ _ _ _ _ _ _ _ _).mono ?_
  rintro x V ⟨rfl, b1⟩
  rw [MX.out]
  clear q0 q1 q2 q3 q4 q5 q6 q7 ro
  have bv := next BZ.out b1
  have rv := RO_.out.below b1 (by simp)
  have hrv := HR.out.below (b1.mono (by simp; omega))
  have BV := Lib.hid bv; have RV_ := Lib.hid rv; have HRV := Lib.hid hrv
  clear bv rv hrv b1
  obtain ⟨q0, q1, q2, q3, q4, q5, q6, q7⟩ := RV_.out
  go_wp2_with fail
  go_loopw [17, 8] (fun i v wr => ∃ t : Nat, t ≤ n ∧ i = .int .i64 t ∧ Cur V wr v (seenD mx now (l.take t))) (fun i _ _ => n - (intOf i).toNat)
  case atStart => exact ⟨0, Nat.zero_le _, rfl, own_nilK _ _, Below.refl _ _⟩
  case round =>
    obtain ⟨t, ht, rfl, hcur⟩ := hrel
    obtain ⟨C, hC⟩ : ∃ C, seenD mx now (l.take t) = C := ⟨_, rfl⟩
    rw [hC] at hcur
    have hCl : C.length ≤ t := by
      rw [← hC]
      refine Nat.le_trans (List.length_filter_le _ _) ?_
      rw [List.length_take]
      omega
    obtain ⟨A1, c1, rfl, hcc, hcm, hcA, _⟩ := hcur.slice
    have HCU := Lib.hid hcur; have HC := Lib.hid hC; have HCL := Lib.hid hCl
    clear hcur hC hCl
    by_cases hlt : t < n
    · have i1 : (t : Int) < n := by omega
      have i0 : (0 : Int) ≤ t := by omega
      have htl : t < l.length := by rw [HL.out]; exact hlt
      obtain ⟨g0, o0, rfl, _, hc⟩ := (HRV.out.below (HCU.out.below.mono (by have := BV.out.size; omega))).2 (by omega)
      obtain ⟨e0, e1, e2, e3, e4⟩ := hc t htl
      have htk : seenD mx now (l.take (t + 1)) = C ++ (if cntD mx l[t].2 && l[t].2.seen now then [l[t]] else []) := by
        rw [List.take_succ_eq_append_getElem htl, ← HC.out]
        unfold seenD
        rw [List.filter_append]
        congr 1
        exact filter_one _ _
      obtain ⟨⟨m, ⟨cs, cd, ca, ce⟩⟩, hx⟩ : ∃ x, l[t] = x := ⟨_, rfl⟩
      rw [hx] at e0 e1 e2 e3 e4 htk
      simp only at e0 e1 e2 e3 e4 htk
      obtain ⟨u1, hu1⟩ : ∃ u, cntD mx ⟨cs, cd, ca, ce⟩ = u := ⟨_, rfl⟩
      obtain ⟨u2, hu2⟩ : ∃ u, Ce.seen ⟨cs, cd, ca, ce⟩ now = u := ⟨_, rfl⟩
      rw [hu1, hu2] at htk
      have U1 := Lib.hid hu1; have U2 := Lib.hid hu2; have HT := Lib.hid htk
      clear hx hc hu1 hu2 htk
      have ha := (Below.refl wr.heap.size wr).alloc (Nat.le_refl _) (.cells #[.string m, .string cs, .bool cd, .int .i64 ca, .int .i64 ce] 66)
      have hz := heap_alloc_new wr (.cells #[.string m, .string cs, .bool cd, .int .i64 ca, .int .i64 ce] 66)
      have hcu := HCU.out.on ha
      go_wp2_with fail
      obtain ⟨U, hU⟩ : ∃ U, U = wr.alloc (.cells #[.string m, .string cs, .bool cd, .int .i64 ca, .int .i64 ce] 66) := ⟨_, rfl⟩
      have hUs : U.heap.size = wr.heap.size + 1 := by rw [hU]; simp
      rw [← hU] at hz hcu ⊢
      have hall : ∀ w', Below U.heap.size U w' → w'.cell? ⟨wr.heap.size, 0, none⟩ = some (.string m) ∧ w'.cell? ⟨wr.heap.size, 0 + 1, none⟩ = some (.string cs) ∧ w'.cell? ⟨wr.heap.size, 0 + 2, none⟩ = some (.bool cd) ∧ w'.cell? ⟨wr.heap.size, 0 + 3, none⟩ = some (.int .i64 ca) ∧ w'.cell? ⟨wr.heap.size, 0 + 4, none⟩ = some (.int .i64 ce) := fun w' hb => by
        have hq := (hb.block wr.heap.size (by omega)).trans hz
        exact ⟨cell_at hq rfl, cell_at hq rfl, cell_at hq rfl, cell_at hq rfl, cell_at hq rfl⟩
      have HALL := Lib.hid hall; have HU := Lib.hid hcu
      clear hall hz hcu hU ha e0 e1 e2 e3 e4
      obtain ⟨_, _, _, _, _⟩ := HALL.out _ (Below.refl _ _)
      refine (counts_any _ _ _ _ _ _).mono ?_
      rintro x v1 ⟨rfl, b1⟩
      rw [U1.out]
      have B1 := Lib.hid b1
      clear b1
      obtain ⟨_, _, _, _, _⟩ := HALL.out _ B1.out
      cases u1
      · go_wp2
        go_roundw
        case rel => exact ⟨t + 1, by omega, by go_num, by rw [HT.out]; simpa using HU.out.on B1.out⟩
        case measure => simp [intOf]; omega
      · go_wp2_with fail
        refine (seen_any _ _ _ _ _ _).mono ?_
        rintro x v2 ⟨rfl, b2⟩
        rw [U2.out]
        have B2 := Lib.hid (next B1.out b2)
        clear b2
        obtain ⟨_, _, _, _, _⟩ := HALL.out _ B2.out
        cases u2
        · go_wp2
          go_roundw
          case rel => exact ⟨t + 1, by omega, by go_num, by rw [HT.out]; simpa using HU.out.on B2.out⟩
          case measure => simp [intOf]; omega
        · have hcv := HU.out.on B2.out
          have hcw := hcv.on ((Below.refl v2.heap.size v2).alloc (Nat.le_refl _) (.cells #[.string m, .string cs, .bool cd, .int .i64 ca, .int .i64 ce] 66))
          have hk1 := RdK.one v2 (m, ⟨cs, cd, ca, ce⟩) v2.heap.size rfl
          have HCW := Lib.hid hcw; have HK1 := Lib.hid hk1
          clear hcv hcw hk1
          go_wp2_with (at_builtin; refine list_ex rfl (.tmp 31) (.tmp 33) _ _ rfl (.slice A1 C.length c1) (.slice (some ⟨v2.heap.size, 0, none⟩) 1 1) rfl rfl (run_appK V.heap.size HCW.out.own HK1.out ?s1 ?s2) ?_)
          case s1 => have := HCL.out; omega
          case s2 => have := HCW.out.below.size; simpa using this
          intro v3 w3 ho3 hg3 hloc3
          have hc3 := HCW.out.app ho3 rfl hg3
          obtain ⟨A3, c3, rfl, _⟩ := own_slice ho3
          have HC3 := Lib.hid hc3
          clear hc3 ho3 hg3 hloc3
          go_wp2
          go_roundw
          case rel => exact ⟨t + 1, by omega, by go_num, by rw [HT.out]; simpa using HC3.out⟩
          case measure => simp [intOf]; omega
    · obtain rfl : t = n := by omega
      have hf : seenD mx now l = C := by rw [← HC.out, List.take_of_length_le (by rw [HL.out]; exact Nat.le_refl _)]
      have HF := Lib.hid hf
      clear hf
      go_wp2
      go_ret
      refine ⟨_, rfl, ?_⟩
      rw [HF.out]
      exact ⟨own_base HCU.out.own BV.out.size, next BV.out (HCU.out.below)⟩

def isD (c : Ce) (g h p now : Int) (l : Cols) (strict : Bool) : Bool := (c.seen now && decide (max (max g p) h < c.a)) || (!strict && decide (0 < (seenD (max g p) now l).length))
set_option maxHeartbeats 4000000 in
theorem isrow_any (k s : ByteArray) (d : Bool) (a e g h p now : Int) (st : Bool) (A : Option Addr) (n c B : Nat) (l : Cols) (w : World) (hr : RdK w B A n l) (hB : B ≤ w.heap.size) (hn : n ≤ 1000) :
    Calls Try.prog 42 #[.agg #[.string k, .string s, .bool d, .int .i64 a, .int .i64 e, .int .i64 g, .int .i64 h, .slice A n c], .int .i64 p, .int .i64 now, .bool st] w fun x w' => x = .returned (.bool (isD ⟨s, d, a, e⟩ g h p now l st)) ∧ Below w.heap.size w w' := by
  obtain ⟨r, hrr⟩ : ∃ r, isD ⟨s, d, a, e⟩ g h p now l st = r := ⟨_, rfl⟩
  rw [hrr]
  obtain ⟨mx, hmx⟩ : ∃ m, max g p = m := ⟨_, rfl⟩
  obtain ⟨u1, hu1⟩ : ∃ u, Ce.seen ⟨s, d, a, e⟩ now = u := ⟨_, rfl⟩
  obtain ⟨u2, d2⟩ : ∃ u, decide (max mx h < a) = u := ⟨_, rfl⟩
  obtain ⟨C, hC⟩ : ∃ C, seenD mx now l = C := ⟨_, rfl⟩
  unfold isD at hrr
  rw [hu1, hmx] at hrr
  simp only at hrr
  rw [d2, hC] at hrr
  have RR := Lib.hid hrr; have MX := Lib.hid hmx; have U1 := Lib.hid hu1; have HC := Lib.hid hC
  have bz := (Below.refl w.heap.size w).alloc (Nat.le_refl _) (.cells #[.string k, .string s, .bool d, .int .i64 a, .int .i64 e, .int .i64 g, .int .i64 h, .slice A n c] 36)
  have ro := RoAt.new w k s d a e g h A n c
  have BZ := Lib.hid bz; have RO_ := Lib.hid ro; have HR := Lib.hid (hr.below (bz.mono hB))
  clear bz hmx hr hrr hu1 hC ro
  obtain ⟨U, hU⟩ : ∃ U, U = w.alloc (.cells #[.string k, .string s, .bool d, .int .i64 a, .int .i64 e, .int .i64 g, .int .i64 h, .slice A n c] 36) := ⟨_, rfl⟩
  have hUs : U.heap.size = w.heap.size + 1 := by rw [hU]; simp
  rw [← hU] at BZ RO_ HR
  have hall : ∀ w', Below U.heap.size U w' → w'.cell? ⟨w.heap.size, 0, none⟩ = some (.string k) ∧ w'.cell? ⟨w.heap.size, 1, none⟩ = some (.string s) ∧ w'.cell? ⟨w.heap.size, 2, none⟩ = some (.bool d) ∧ w'.cell? ⟨w.heap.size, 3, none⟩ = some (.int .i64 a) ∧ w'.cell? ⟨w.heap.size, 4, none⟩ = some (.int .i64 e) ∧ w'.cell? ⟨w.heap.size, 5, none⟩ = some (.int .i64 g) ∧ w'.cell? ⟨w.heap.size, 6, none⟩ = some (.int .i64 h) ∧ w'.cell? ⟨w.heap.size, 7, none⟩ = some (.slice A n c) := fun w' hb => RO_.out.below hb (by omega)
  have HALL := Lib.hid hall; have HUS := Lib.hid hUs
  clear hall hUs
  go_enter Try.func42, Try.ntmps42
  go_wp2_with fail
  rw [← hU]
  clear hU
  cases u1
  · refine wp_region_held_drew (S := fun w' => Below U.heap.size U w') (by kernel_rfl) ?_ (fun hHeld => ?_)
    · exact (Below.refl _ _).drew
    refine takesH [0, 1, 2] ?_
    repeat
      refine takesH_one (v := ?_) ?_ ?_
      rotate_left
      · first | (refine Or.inr ⟨by rfl, ?_⟩; with_reducible rfl) | (refine Or.inl ⟨by rfl, ?_⟩; intro wx hSw; (try dsimp only at hSw); first | (go_simp; first | done | with_reducible rfl) | (obtain ⟨_, _, _, _, _, _, _, _⟩ := HALL.out _ hSw; go_simp; first | done | with_reducible rfl))
      try simp only [Act.put, List.getElem_toArray, List.getElem_cons_succ, List.getElem_cons_zero, List.setIfInBounds_toArray, List.set_cons_zero, List.set_cons_succ]
    refine takesH_nil ?_
    refine wpAnyH_ready (rs := [3]) (by kernel_rfl) (by simp) (AllReadyH.cons rfl (fun K hK => ?_) AllReadyH.nil)
    go_simp
    refine (seen_any _ _ _ _ _ _).mono ?_
    rintro x v1 ⟨rfl, b1⟩
    rw [U1.out]
    try go_wp2_with fail
    refine hK.out _ _ ?_ (fun hHeld => ?_)
    · exact next (by assumption) b1
    clear hK K
    try simp only [Act.put, List.getElem_toArray, List.getElem_cons_succ, List.getElem_cons_zero, List.setIfInBounds_toArray, List.set_cons_zero, List.set_cons_succ]
    refine takesH [4, 5, 6, 7, 8, 9, 10, 11, 12, 13, 14, 15] ?_
    repeat
      refine takesH_one (v := ?_) ?_ ?_
      rotate_left
      · first | (refine Or.inr ⟨by rfl, ?_⟩; with_reducible rfl) | (refine Or.inl ⟨by rfl, ?_⟩; intro wx hSw; (try dsimp only at hSw); first | (go_simp; first | done | with_reducible rfl))
      try simp only [Act.put, List.getElem_toArray, List.getElem_cons_succ, List.getElem_cons_zero, List.setIfInBounds_toArray, List.set_cons_zero, List.set_cons_succ]
    refine takesH_nil ?_
    refine wpAnyH_done (by kernel_rfl) ?_ _
    obtain ⟨_, _, _, _, _, _, _, _⟩ := HALL.out _ hHeld
    have BL := Lib.hid (next BZ.out hHeld)
    have HRL := Lib.hid (HR.out.below (hHeld.mono (by have := HUS.out; omega)))
    cases st
    · go_wp2_with fail
      refine (seenrow_any _ _ _ _ _ _ _ _ _ A n c B l _ HRL.out (by have := BL.out.size; omega) hn).mono ?_
      rintro x v5 ⟨v, rfl, hcur⟩
      rw [MX.out, HC.out] at hcur
      obtain ⟨A1, c1, rfl, _⟩ := hcur.slice
      have hv : decide (0 < C.length) = r := by rw [← RR.out]; rfl
      have hvi : decide ((0 : Int) < (C.length : Nat)) = r := by rw [← hv]; simp
      have b5 := Lib.hid hcur.below
      clear hcur
      go_wp2
      go_ret
      exact ⟨rfl, next BL.out b5.out⟩
    · have hv : r = false := by rw [← RR.out]; rfl
      subst hv
      go_wp2
      go_ret
      exact ⟨rfl, BL.out⟩
  · cases u2
    · refine wp_region_held_drew (S := fun w' => Below U.heap.size U w') (by kernel_rfl) ?_ (fun hHeld => ?_)
      · exact (Below.refl _ _).drew
      refine takesH [0, 1, 2] ?_
      repeat
        refine takesH_one (v := ?_) ?_ ?_
        rotate_left
        · first | (refine Or.inr ⟨by rfl, ?_⟩; with_reducible rfl) | (refine Or.inl ⟨by rfl, ?_⟩; intro wx hSw; (try dsimp only at hSw); first | (go_simp; first | done | with_reducible rfl) | (obtain ⟨_, _, _, _, _, _, _, _⟩ := HALL.out _ hSw; go_simp; first | done | with_reducible rfl))
        try simp only [Act.put, List.getElem_toArray, List.getElem_cons_succ, List.getElem_cons_zero, List.setIfInBounds_toArray, List.set_cons_zero, List.set_cons_succ]
      refine takesH_nil ?_
      refine wpAnyH_ready (rs := [3]) (by kernel_rfl) (by simp) (AllReadyH.cons rfl (fun K hK => ?_) AllReadyH.nil)
      go_simp
      refine (seen_any _ _ _ _ _ _).mono ?_
      rintro x v1 ⟨rfl, b1⟩
      rw [U1.out]
      try go_wp2_with fail
      refine hK.out _ _ ?_ (fun hHeld => ?_)
      · exact next (by assumption) b1
      clear hK K
      try simp only [Act.put, List.getElem_toArray, List.getElem_cons_succ, List.getElem_cons_zero, List.setIfInBounds_toArray, List.set_cons_zero, List.set_cons_succ]
      refine takesH [4, 5, 6, 7, 8, 9, 11, 12] ?_
      repeat
        refine takesH_one (v := ?_) ?_ ?_
        rotate_left
        · first | (refine Or.inr ⟨by rfl, ?_⟩; with_reducible rfl) | (refine Or.inl ⟨by rfl, ?_⟩; intro wx hSw; (try dsimp only at hSw); first | (go_simp; first | done | with_reducible rfl) | (obtain ⟨_, _, _, _, _, _, _, _⟩ := HALL.out _ hSw; go_simp; first | done | with_reducible rfl))
        try simp only [Act.put, List.getElem_toArray, List.getElem_cons_succ, List.getElem_cons_zero, List.setIfInBounds_toArray, List.set_cons_zero, List.set_cons_succ]
      refine takesH_nil ?_
      refine wpAnyH_ready (rs := [10]) (by kernel_rfl) (by simp) (AllReadyH.cons rfl (fun K hK => ?_) AllReadyH.nil)
      go_simp
      refine (gone_any _ _ _ _ _ _ _ _ _ _ _ _).mono ?_
      rintro x v2 ⟨rfl, b2⟩
      rw [MX.out]
      try go_wp2_with fail
      refine hK.out _ _ ?_ (fun hHeld => ?_)
      · exact next (by assumption) b2
      clear hK K
      try simp only [Act.put, List.getElem_toArray, List.getElem_cons_succ, List.getElem_cons_zero, List.setIfInBounds_toArray, List.set_cons_zero, List.set_cons_succ]
      refine takesH [13, 14, 15] ?_
      repeat
        refine takesH_one (v := ?_) ?_ ?_
        rotate_left
        · first | (refine Or.inr ⟨by rfl, ?_⟩; with_reducible rfl) | (refine Or.inl ⟨by rfl, ?_⟩; intro wx hSw; (try dsimp only at hSw); first | (go_simp; first | done | with_reducible rfl))
        try simp only [Act.put, List.getElem_toArray, List.getElem_cons_succ, List.getElem_cons_zero, List.setIfInBounds_toArray, List.set_cons_zero, List.set_cons_succ]
      refine takesH_nil ?_
      refine wpAnyH_done (by kernel_rfl) ?_ _
      obtain ⟨_, _, _, _, _, _, _, _⟩ := HALL.out _ hHeld
      have BL := Lib.hid (next BZ.out hHeld)
      have HRL := Lib.hid (HR.out.below (hHeld.mono (by have := HUS.out; omega)))
      cases st
      · go_wp2_with fail
        refine (seenrow_any _ _ _ _ _ _ _ _ _ A n c B l _ HRL.out (by have := BL.out.size; omega) hn).mono ?_
        rintro x v5 ⟨v, rfl, hcur⟩
        rw [MX.out, HC.out] at hcur
        obtain ⟨A1, c1, rfl, _⟩ := hcur.slice
        have hv : decide (0 < C.length) = r := by rw [← RR.out]; rfl
        have hvi : decide ((0 : Int) < (C.length : Nat)) = r := by rw [← hv]; simp
        have b5 := Lib.hid hcur.below
        clear hcur
        go_wp2
        go_ret
        exact ⟨rfl, next BL.out b5.out⟩
      · have hv : r = false := by rw [← RR.out]; rfl
        subst hv
        go_wp2
        go_ret
        exact ⟨rfl, BL.out⟩
    · have hv : r = true := by rw [← RR.out]; rfl
      subst hv
      refine wp_region_held_drew (S := fun w' => Below U.heap.size U w') (by kernel_rfl) ?_ (fun hHeld => ?_)
      · exact (Below.refl _ _).drew
      refine takesH [0, 1, 2] ?_
      repeat
        refine takesH_one (v := ?_) ?_ ?_
        rotate_left
        · first | (refine Or.inr ⟨by rfl, ?_⟩; with_reducible rfl) | (refine Or.inl ⟨by rfl, ?_⟩; intro wx hSw; (try dsimp only at hSw); first | (go_simp; first | done | with_reducible rfl) | (obtain ⟨_, _, _, _, _, _, _, _⟩ := HALL.out _ hSw; go_simp; first | done | with_reducible rfl))
        try simp only [Act.put, List.getElem_toArray, List.getElem_cons_succ, List.getElem_cons_zero, List.setIfInBounds_toArray, List.set_cons_zero, List.set_cons_succ]
      refine takesH_nil ?_
      refine wpAnyH_ready (rs := [3]) (by kernel_rfl) (by simp) (AllReadyH.cons rfl (fun K hK => ?_) AllReadyH.nil)
      go_simp
      refine (seen_any _ _ _ _ _ _).mono ?_
      rintro x v1 ⟨rfl, b1⟩
      rw [U1.out]
      try go_wp2_with fail
      refine hK.out _ _ ?_ (fun hHeld => ?_)
      · exact next (by assumption) b1
      clear hK K
      try simp only [Act.put, List.getElem_toArray, List.getElem_cons_succ, List.getElem_cons_zero, List.setIfInBounds_toArray, List.set_cons_zero, List.set_cons_succ]
      refine takesH [4, 5, 6, 7, 8, 9, 11, 12] ?_
      repeat
        refine takesH_one (v := ?_) ?_ ?_
        rotate_left
        · first | (refine Or.inr ⟨by rfl, ?_⟩; with_reducible rfl) | (refine Or.inl ⟨by rfl, ?_⟩; intro wx hSw; (try dsimp only at hSw); first | (go_simp; first | done | with_reducible rfl) | (obtain ⟨_, _, _, _, _, _, _, _⟩ := HALL.out _ hSw; go_simp; first | done | with_reducible rfl))
        try simp only [Act.put, List.getElem_toArray, List.getElem_cons_succ, List.getElem_cons_zero, List.setIfInBounds_toArray, List.set_cons_zero, List.set_cons_succ]
      refine takesH_nil ?_
      refine wpAnyH_ready (rs := [10]) (by kernel_rfl) (by simp) (AllReadyH.cons rfl (fun K hK => ?_) AllReadyH.nil)
      go_simp
      refine (gone_any _ _ _ _ _ _ _ _ _ _ _ _).mono ?_
      rintro x v2 ⟨rfl, b2⟩
      rw [MX.out]
      try go_wp2_with fail
      refine hK.out _ _ ?_ (fun hHeld => ?_)
      · exact next (by assumption) b2
      clear hK K
      try simp only [Act.put, List.getElem_toArray, List.getElem_cons_succ, List.getElem_cons_zero, List.setIfInBounds_toArray, List.set_cons_zero, List.set_cons_succ]
      refine takesH [13, 14, 15] ?_
      repeat
        refine takesH_one (v := ?_) ?_ ?_
        rotate_left
        · first | (refine Or.inr ⟨by rfl, ?_⟩; with_reducible rfl) | (refine Or.inl ⟨by rfl, ?_⟩; intro wx hSw; (try dsimp only at hSw); first | (go_simp; first | done | with_reducible rfl))
        try simp only [Act.put, List.getElem_toArray, List.getElem_cons_succ, List.getElem_cons_zero, List.setIfInBounds_toArray, List.set_cons_zero, List.set_cons_succ]
      refine takesH_nil ?_
      refine wpAnyH_done (by kernel_rfl) ?_ _
      have BL := Lib.hid (next BZ.out hHeld)
      go_wp2
      go_ret
      exact ⟨rfl, BL.out⟩
end Go.Proofs.Ytafbbojfifcncaa
