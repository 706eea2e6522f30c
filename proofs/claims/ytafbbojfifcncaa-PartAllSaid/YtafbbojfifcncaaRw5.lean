/-
  The developers' Check, Same of rows.
-/
import Derived.Test.YtafbbojfifcncaaRw4
import Derived.Test.YtafbbojfifcncaaCeS
import Derived.Test.YtafbbojfifcncaaRo2
import Derived.Test.YtafbbojfifcncaaCeZ
set_option linter.unusedVariables false
set_option linter.unusedSimpArgs false
namespace Go.Proofs.Ytafbbojfifcncaa
open Go Go.RowKit

set_option maxHeartbeats 4000000 in
theorem checkrow_any (k s : ByteArray) (d : Bool) (a e g h : Int) (A : Option Addr) (n c B : Nat) (l : Cols) (w : World) (hr : RdK w B A n l) (hB : B ≤ w.heap.size) (hn : n ≤ 1000000000000) (hf : Few l) (hs : s.size ≤ maxLen) :
    Calls Try.prog 47 #[.agg #[.string k, .string s, .bool d, .int .i64 a, .int .i64 e, .int .i64 g, .int .i64 h, .slice A n c]] w fun x w' => x = .returned (.bool (Ro.ok ⟨k, ⟨s, d, a, e⟩, g, h, l⟩)) ∧ Below w.heap.size w w' := by
  obtain ⟨r, hrr⟩ : ∃ r, Ro.ok ⟨k, ⟨s, d, a, e⟩, g, h, l⟩ = r := ⟨_, rfl⟩
  rw [hrr]
  unfold Ro.ok at hrr
  simp only at hrr
  obtain ⟨u1, hu1⟩ : ∃ u, decide (k.size ≤ 400) = u := ⟨_, rfl⟩
  have hu1i : decide (((k.size : Nat) : Int) ≤ 400) = u1 := by rw [← hu1]; simp; omega
  obtain ⟨u2, hu2⟩ : ∃ u, liveB ⟨s, d, a, e⟩ = u := ⟨_, rfl⟩
  obtain ⟨u3, hu3⟩ : ∃ u, stm g = u := ⟨_, rfl⟩
  obtain ⟨u4, hu4⟩ : ∃ u, stm h = u := ⟨_, rfl⟩
  obtain ⟨u5, hu5⟩ : ∃ u, (decide (l.length ≤ 8) && colsB l) = u := ⟨_, rfl⟩
  rw [hu1, hu2, hu3, hu4, hu5] at hrr
  have RR := Lib.hid hrr; have U2 := Lib.hid hu2; have U3 := Lib.hid hu3; have U4 := Lib.hid hu4; have U5 := Lib.hid hu5
  have bz := (Below.refl w.heap.size w).alloc (Nat.le_refl _) (.cells #[.string k, .string s, .bool d, .int .i64 a, .int .i64 e, .int .i64 g, .int .i64 h, .slice A n c] 36)
  have ro := RoAt.new w k s d a e g h A n c
  have BZ := Lib.hid bz; have RO_ := Lib.hid ro; have HR := Lib.hid (hr.below (bz.mono hB)); have HF := Lib.hid hf
  clear hrr hu2 hu3 hu4 hu5 bz ro hr hf
  obtain ⟨U, hU⟩ : ∃ U, U = w.alloc (.cells #[.string k, .string s, .bool d, .int .i64 a, .int .i64 e, .int .i64 g, .int .i64 h, .slice A n c] 36) := ⟨_, rfl⟩
  have hUs : U.heap.size = w.heap.size + 1 := by rw [hU]; simp
  rw [← hU] at BZ RO_ HR
  have hall : ∀ w', Below U.heap.size U w' → w'.cell? ⟨w.heap.size, 0, none⟩ = some (.string k) ∧ w'.cell? ⟨w.heap.size, 1, none⟩ = some (.string s) ∧ w'.cell? ⟨w.heap.size, 2, none⟩ = some (.bool d) ∧ w'.cell? ⟨w.heap.size, 3, none⟩ = some (.int .i64 a) ∧ w'.cell? ⟨w.heap.size, 4, none⟩ = some (.int .i64 e) ∧ w'.cell? ⟨w.heap.size, 5, none⟩ = some (.int .i64 g) ∧ w'.cell? ⟨w.heap.size, 6, none⟩ = some (.int .i64 h) ∧ w'.cell? ⟨w.heap.size, 7, none⟩ = some (.slice A n c) := fun w' hb => RO_.out.below hb (by omega)
  have HALL := Lib.hid hall; have HUS := Lib.hid hUs
  obtain ⟨_, _, _, _, _, _, _, _⟩ := hall U (Below.refl _ _)
  clear hall hUs
  go_enter Try.func47, Try.ntmps47
  cases u1
  · have hv : r = false := by rw [← RR.out]; rfl
    subst hv
    subst hU
    go_wp2
    go_ret
    exact ⟨rfl, BZ.out⟩
  · go_wp2_with fail
    rw [← hU]
    refine (live_any _ _ _ _ _ hs).mono ?_
    rintro x w1 ⟨rfl, b1⟩
    rw [U2.out]
    have B1 := Lib.hid b1
    obtain ⟨_, _, _, _, _, _, _, _⟩ := HALL.out _ b1
    clear b1
    cases u2
    · have hv : r = false := by rw [← RR.out]; rfl
      subst hv
      go_wp2
      go_ret
      exact ⟨rfl, next BZ.out B1.out⟩
    · go_wp2_with fail
      refine (rwstamp_any _ _).mono ?_
      rintro x w2 ⟨rfl, rfl⟩
      rw [U3.out]
      cases u3
      · have hv : r = false := by rw [← RR.out]; rfl
        subst hv
        go_wp2
        go_ret
        exact ⟨rfl, next BZ.out B1.out⟩
      · go_wp2_with fail
        refine (rwstamp_any _ _).mono ?_
        rintro x w2 ⟨rfl, rfl⟩
        rw [U4.out]
        cases u4
        · have hv : r = false := by rw [← RR.out]; rfl
          subst hv
          go_wp2
          go_ret
          exact ⟨rfl, next BZ.out B1.out⟩
        · have HR1 := Lib.hid (HR.out.below (B1.out.mono (by have := HUS.out; omega)))
          go_wp2_with fail
          refine (cols_any A n c B l _ HR1.out (by have := (next BZ.out B1.out).size; omega) hn HF.out).mono ?_
          rintro x w3 ⟨rfl, b3⟩
          rw [U5.out]
          have hv : u5 = r := by rw [← RR.out]; rfl
          subst hv
          have B3 := Lib.hid (next (next BZ.out B1.out) b3)
          clear b3
          go_wp2
          go_ret
          exact ⟨rfl, B3.out⟩

set_option maxHeartbeats 1000000 in
theorem samecol_any (m s m' s' : ByteArray) (d d' : Bool) (a e a' e' : Int) (w : World) :
    Calls Try.prog 53 #[.agg #[.string m, .string s, .bool d, .int .i64 a, .int .i64 e], .agg #[.string m', .string s', .bool d', .int .i64 a', .int .i64 e']] w fun x w' => x = .returned (.bool (decide (((m, ⟨s, d, a, e⟩) : ByteArray × Ce) = (m', ⟨s', d', a', e'⟩)))) ∧ Below w.heap.size w w' := by
  obtain ⟨r, hr⟩ : ∃ r, decide (((m, ⟨s, d, a, e⟩) : ByteArray × Ce) = (m', ⟨s', d', a', e'⟩)) = r := ⟨_, rfl⟩
  rw [hr]
  obtain ⟨u1, hu1⟩ : ∃ u, (m.toList == m'.toList) = u := ⟨_, rfl⟩
  obtain ⟨u2, hu2⟩ : ∃ u, Ce.same ⟨s, d, a, e⟩ ⟨s', d', a', e'⟩ = u := ⟨_, rfl⟩
  have hrr : (u1 && u2) = r := by
    rw [← hr, ← hu1, ← hu2, Bool.eq_iff_iff, Bool.and_eq_true, eqB_iff, same_iff, decide_eq_true_iff]
    exact ⟨fun h => by rw [h.1, h.2], fun h => by injection h with h1 h2; exact ⟨h1, h2⟩⟩
  have RR := Lib.hid hrr; have U2 := Lib.hid hu2
  clear hr hu2 hrr
  have bz := Lib.hid (((Below.refl w.heap.size w).alloc (Nat.le_refl _) (.cells #[.string m, .string s, .bool d, .int .i64 a, .int .i64 e] 66)).alloc (by simp) (.cells #[.string m', .string s', .bool d', .int .i64 a', .int .i64 e'] 66))
  go_enter Try.func53, Try.ntmps53
  cases u1
  · have hv : r = false := by rw [← RR.out]; rfl
    subst hv
    go_wp2
    go_ret
    exact ⟨rfl, bz.out⟩
  · have hv : u2 = r := by rw [← RR.out]; rfl
    subst hv
    go_wp2_with fail
    refine (same_any _ _ _ _ _ _ _ _ _).mono ?_
    rintro x w1 ⟨rfl, b1⟩
    rw [U2.out]
    have B1 := Lib.hid (next bz.out b1)
    clear b1
    go_wp2
    go_ret
    exact ⟨rfl, B1.out⟩

set_option maxHeartbeats 4000000 in
theorem equalfunc_any (A A' : Option Addr) (n n' c c' B B' : Nat) (l k : Cols) (w : World) (h : RdK w B A n l) (h' : RdK w B' A' n' k) (hB : B ≤ w.heap.size) (hB' : B' ≤ w.heap.size) (hn : n ≤ 1000000) (hn' : n' ≤ 1000000) :
    Calls Try.prog 52 #[.slice A n c, .slice A' n' c', .func (.func 53) #[] #[]] w fun e w' => e = .returned (.bool (decide (l = k))) ∧ Below w.heap.size w w' := by
  have hl := h.1
  have hl' := h'.1
  obtain ⟨v, hv⟩ : ∃ v : Bool, decide (l = k) = v := ⟨_, rfl⟩
  rw [hv]
  have HV := Lib.hid hv
  clear hv
  by_cases hne : n = n'
  · subst hne
    have HL := Lib.hid hl
    have HL' := Lib.hid hl'
    have HH := Lib.hid h; have HH' := Lib.hid h'
    clear hl hl' h h'
    go_enter Try.func52, Try.ntmps52
    go_wp2
    go_loopw [17] (fun i wr => ∃ t : Nat, t ≤ n ∧ i = .int .i64 t ∧ l.take t = k.take t ∧ Below w.heap.size w wr) (fun i _ => n - (intOf i).toNat)
    case atStart => exact ⟨0, Nat.zero_le _, rfl, rfl, Below.refl _ _⟩
    case round =>
      obtain ⟨t, ht, rfl, hz, hb⟩ := hrel
      have HZ := Lib.hid hz; have HB := Lib.hid hb
      clear hz hb
      by_cases hlt : t < n
      · have i1 : (t : Int) < n := by omega
        have i0 : (0 : Int) ≤ t := by omega
        have htl : t < l.length := by rw [HL.out]; exact hlt
        have htl' : t < k.length := by rw [HL'.out]; exact hlt
        obtain ⟨g, o, rfl, hgb, hc⟩ := (HH.out.below (HB.out.mono hB)).2 (by omega)
        obtain ⟨g', o', rfl, hgb', hc'⟩ := (HH'.out.below (HB.out.mono hB')).2 (by omega)
        obtain ⟨e0, e1, e2, e3, e4⟩ := hc t htl
        obtain ⟨q0, q1, q2, q3, q4⟩ := hc' t htl'
        have hgw' : g' < wr.heap.size := by have := HB.out.size; omega
        have htk : l.take (t + 1) = l.take t ++ [l[t]] := cols_take_succ htl
        have htk' : k.take (t + 1) = k.take t ++ [k[t]] := cols_take_succ htl'
        have hne : l[t] ≠ k[t] → v = false := fun hh => by
          rw [← HV.out, decide_eq_false_iff_not]
          rintro rfl
          exact hh rfl
        obtain ⟨⟨m, ⟨xs, xd, xa, xe⟩⟩, hx⟩ : ∃ x, l[t] = x := ⟨_, rfl⟩
        obtain ⟨⟨m', ⟨ys, yd, ya, ye⟩⟩, hy⟩ : ∃ y, k[t] = y := ⟨_, rfl⟩
        rw [hx] at e0 e1 e2 e3 e4 htk hne
        rw [hy] at q0 q1 q2 q3 q4 htk' hne
        simp only at e0 e1 e2 e3 e4 q0 q1 q2 q3 q4
        have ha := (Below.refl wr.heap.size wr).alloc (Nat.le_refl _) (.cells #[.string m, .string xs, .bool xd, .int .i64 xa, .int .i64 xe] 66)
        have r0 := (ha.cell (p := ⟨g', _, none⟩) hgw').trans q0
        have r1 := (ha.cell (p := ⟨g', _, none⟩) hgw').trans q1
        have r2 := (ha.cell (p := ⟨g', _, none⟩) hgw').trans q2
        have r3 := (ha.cell (p := ⟨g', _, none⟩) hgw').trans q3
        have r4 := (ha.cell (p := ⟨g', _, none⟩) hgw').trans q4
        have hbb := (HB.out.trans (ha.mono HB.out.size)).alloc (by have := HB.out.size; simp; omega) (.cells #[.string m', .string ys, .bool yd, .int .i64 ya, .int .i64 ye] 66)
        obtain ⟨u, hu⟩ : ∃ u, decide (((m, ⟨xs, xd, xa, xe⟩) : ByteArray × Ce) = (m', ⟨ys, yd, ya, ye⟩)) = u := ⟨_, rfl⟩
        have HBB := Lib.hid hbb; have HU := Lib.hid hu; have HTK := Lib.hid htk; have HTK' := Lib.hid htk'; have HNE := Lib.hid hne
        clear hbb ha hc hc' hx hy q0 q1 q2 q3 q4 htk htk' hne hu
        go_wp2_with fail
        refine (samecol_any _ _ _ _ _ _ _ _ _ _ _).mono ?_
        rintro x w1 ⟨rfl, b1⟩
        rw [HU.out]
        have B1 := Lib.hid (next HBB.out b1)
        clear b1
        cases u
        · have hv0 : v = false := HNE.out (of_decide_eq_false HU.out)
          subst hv0
          go_wp2
          go_ret
          exact ⟨rfl, B1.out⟩
        · go_wp2
          go_roundw
          case rel => exact ⟨t + 1, by omega, by go_num, by rw [HTK.out, HTK'.out, HZ.out, of_decide_eq_true HU.out], B1.out⟩
          case measure => simp [intOf]; omega
      · obtain rfl : t = n := by omega
        have hf : v = true := by
          rw [← HV.out, decide_eq_true_iff]
          have := HZ.out
          rwa [List.take_of_length_le (by rw [HL.out]; exact Nat.le_refl _), List.take_of_length_le (by rw [HL'.out]; exact Nat.le_refl _)] at this
        subst hf
        go_wp2
        go_ret
        exact ⟨rfl, HB.out⟩
  · have hf : v = false := by
      rw [← HV.out, decide_eq_false_iff_not]
      rintro rfl
      exact hne (hl.symm.trans hl')
    subst hf
    have hb : ((n : Int) != n') = true := by rw [bne_iff_ne]; omega
    go_enter Try.func52, Try.ntmps52
    go_wp2
    go_ret
    exact ⟨rfl, Below.refl _ _⟩

set_option maxHeartbeats 4000000 in
theorem samerow_any (k s k' s' : ByteArray) (d d' : Bool) (a e g h a' e' g' h' : Int) (A A' : Option Addr) (n c n' c' B B' : Nat) (l l' : Cols) (w : World) (hr : RdK w B A n l) (hr' : RdK w B' A' n' l') (hB : B ≤ w.heap.size) (hB' : B' ≤ w.heap.size) (hn : n ≤ 1000000) (hn' : n' ≤ 1000000) :
    Calls Try.prog 33 #[.agg #[.string k, .string s, .bool d, .int .i64 a, .int .i64 e, .int .i64 g, .int .i64 h, .slice A n c], .agg #[.string k', .string s', .bool d', .int .i64 a', .int .i64 e', .int .i64 g', .int .i64 h', .slice A' n' c']] w fun x w' => x = .returned (.bool (Ro.same ⟨k, ⟨s, d, a, e⟩, g, h, l⟩ ⟨k', ⟨s', d', a', e'⟩, g', h', l'⟩)) ∧ Below w.heap.size w w' := by
  obtain ⟨r, hrr⟩ : ∃ r, Ro.same ⟨k, ⟨s, d, a, e⟩, g, h, l⟩ ⟨k', ⟨s', d', a', e'⟩, g', h', l'⟩ = r := ⟨_, rfl⟩
  rw [hrr]
  have bz := ((Below.refl w.heap.size w).alloc (Nat.le_refl _) (.cells #[.string k, .string s, .bool d, .int .i64 a, .int .i64 e, .int .i64 g, .int .i64 h, .slice A n c] 36)).alloc (by simp) (.cells #[.string k', .string s', .bool d', .int .i64 a', .int .i64 e', .int .i64 g', .int .i64 h', .slice A' n' c'] 36)
  have ro := (RoAt.new w k s d a e g h A n c).below ((Below.refl (w.heap.size + 1) _).alloc (by simp) (.cells #[.string k', .string s', .bool d', .int .i64 a', .int .i64 e', .int .i64 g', .int .i64 h', .slice A' n' c'] 36)) (by omega)
  have ro' := RoAt.new (w.alloc (.cells #[.string k, .string s, .bool d, .int .i64 a, .int .i64 e, .int .i64 g, .int .i64 h, .slice A n c] 36)) k' s' d' a' e' g' h' A' n' c'
  simp only [World.size_alloc] at ro'
  have hall := fun w' (hb : Below ((w.alloc (.cells #[.string k, .string s, .bool d, .int .i64 a, .int .i64 e, .int .i64 g, .int .i64 h, .slice A n c] 36)).alloc (.cells #[.string k', .string s', .bool d', .int .i64 a', .int .i64 e', .int .i64 g', .int .i64 h', .slice A' n' c'] 36)).heap.size ((w.alloc (.cells #[.string k, .string s, .bool d, .int .i64 a, .int .i64 e, .int .i64 g, .int .i64 h, .slice A n c] 36)).alloc (.cells #[.string k', .string s', .bool d', .int .i64 a', .int .i64 e', .int .i64 g', .int .i64 h', .slice A' n' c'] 36)) w') =>
    And.intro (And.intro (ro.below hb (by simp; omega)) (ro'.below hb (by simp))) (And.intro ((hr.below (bz.mono hB)).below (hb.mono (by simp; omega))) ((hr'.below (bz.mono hB')).below (hb.mono (by simp; omega))))
  have HALL := Lib.hid hall; have BZ := Lib.hid bz; have HR := Lib.hid hrr
  clear hrr bz ro ro' hall hr hr'
  cases h1 : (k.toList == k'.toList)
  · have hv : r = false := by rw [← HR.out]; unfold Ro.same; simp only; rw [h1]; rfl
    subst hv
    go_enter Try.func33, Try.ntmps33
    go_wp2
    go_ret
    exact ⟨rfl, BZ.out⟩
  · obtain ⟨u, hu⟩ : ∃ u, Ce.same ⟨s, d, a, e⟩ ⟨s', d', a', e'⟩ = u := ⟨_, rfl⟩
    have HU := Lib.hid hu
    clear hu
    cases u
    · have hv : r = false := by rw [← HR.out]; unfold Ro.same; simp only; rw [h1, HU.out]; rfl
      subst hv
      go_enter Try.func33, Try.ntmps33
      go_wp2_with fail
      refine (same_any _ _ _ _ _ _ _ _ _).mono ?_
      rintro x w1 ⟨rfl, b1⟩
      rw [HU.out]
      go_wp2
      go_ret
      exact ⟨rfl, next BZ.out b1⟩
    · cases h3 : (g == g')
      · have hv : r = false := by rw [← HR.out]; unfold Ro.same; simp only; rw [h1, HU.out, h3]; rfl
        subst hv
        go_enter Try.func33, Try.ntmps33
        go_wp2_with fail
        refine (same_any _ _ _ _ _ _ _ _ _).mono ?_
        rintro x w1 ⟨rfl, b1⟩
        rw [HU.out]
        obtain ⟨⟨⟨_, _, _, _, _, _, _, _⟩, ⟨_, _, _, _, _, _, _, _⟩⟩, _⟩ := HALL.out _ b1
        go_wp2
        go_ret
        exact ⟨rfl, next BZ.out b1⟩
      · cases h4 : (h == h')
        · have hv : r = false := by rw [← HR.out]; unfold Ro.same; simp only; rw [h1, HU.out, h3, h4]; rfl
          subst hv
          go_enter Try.func33, Try.ntmps33
          go_wp2_with fail
          refine (same_any _ _ _ _ _ _ _ _ _).mono ?_
          rintro x w1 ⟨rfl, b1⟩
          rw [HU.out]
          obtain ⟨⟨⟨_, _, _, _, _, _, _, _⟩, ⟨_, _, _, _, _, _, _, _⟩⟩, _⟩ := HALL.out _ b1
          go_wp2
          go_ret
          exact ⟨rfl, next BZ.out b1⟩
        · have hv : decide (l = l') = r := by rw [← HR.out]; unfold Ro.same; simp only; rw [h1, HU.out, h3, h4]; simp
          have HV := Lib.hid hv
          clear hv
          go_enter Try.func33, Try.ntmps33
          go_wp2_with fail
          refine (same_any _ _ _ _ _ _ _ _ _).mono ?_
          rintro x w1 ⟨rfl, b1⟩
          rw [HU.out]
          obtain ⟨⟨⟨_, _, _, _, _, _, _, _⟩, ⟨_, _, _, _, _, _, _, _⟩⟩, hk1, hk2⟩ := HALL.out _ b1
          have HK1 := Lib.hid hk1; have HK2 := Lib.hid hk2
          clear hk1 hk2
          have hs1 := (next BZ.out b1).size
          go_wp2_with fail
          refine (equalfunc_any A A' n n' c c' B B' l l' _ HK1.out HK2.out (by omega) (by omega) hn hn').mono ?_
          rintro x w2 ⟨rfl, b2⟩
          rw [HV.out]
          go_wp2
          go_ret
          exact ⟨rfl, next (next BZ.out b1) b2⟩
end Go.Proofs.Ytafbbojfifcncaa
