/-
  The walk of OrderLists.
-/
import Derived.Test.YtkahcblonfbdaaaOaw
import Derived.Test.YtkahcblonfbdaaaOl
import Derived.Deep.RegionWith
import Derived.Deep.DeepCutAuto
import Derived.Sort.Walk0
set_option linter.unusedVariables false
namespace Go.Proofs.Ytkahcblonfbdaaa
open Go Go.RowKit

/-- Texts' order, as the walk spells it. -/
def blB (a b : ByteArray) : Bool := Op.bytesLess a.toList b.toList
theorem blB_iff (a b : ByteArray) : Op.bytesLess a.toList b.toList = true ↔ a.data.toList < b.data.toList := by
  rw [bytesLess_eq, Lib.toList_data, Lib.toList_data]
  simp
theorem blB_eq {a b : ByteArray} {p : Bool} (h : a.data.toList < b.data.toList ↔ p = true) : Op.bytesLess a.toList b.toList = p := by
  rw [Bool.eq_iff_iff, blB_iff, h]
theorem eqB_iff (a b : ByteArray) : (a.toList == b.toList) = true ↔ a = b := by
  rw [Lib.toList_data, Lib.toList_data, beq_iff_eq]
  exact ⟨fun h => ba_ext h, fun h => by rw [h]⟩
theorem eqB_true {a b : ByteArray} (h : a = b) : (a.toList == b.toList) = true := (eqB_iff a b).2 h
theorem eqB_false {a b : ByteArray} (h : a ≠ b) : (a.toList == b.toList) = false := by
  rw [Bool.eq_false_iff]
  exact fun e => h ((eqB_iff a b).1 e)
theorem neB_true {a b : ByteArray} (h : a ≠ b) : (a.toList != b.toList) = true := by
  unfold bne; rw [eqB_false h]; rfl

set_option maxHeartbeats 4000000 in
set_option maxRecDepth 100000 in
theorem lists_big (a b c d : ByteArray) (w : World) (ha : a.size ≤ 9223372036854775807) (hb : b.size ≤ 9223372036854775807) (hc : c.size ≤ 9223372036854775807) (hd : d.size ≤ 9223372036854775807) (h : 100 < a.size ∨ 100 < b.size ∨ 100 < c.size ∨ 100 < d.size) :
    Calls Try.prog 7 #[.string a, .string b, .string c, .string d] w fun e w' => e = .returned (.bool true) ∧ Below w.heap.size w w' := by
  by_cases h1 : (100 : Int) < a.size
  · go_enter Try.func7, Try.ntmps7
    go_wp2_with (go_at_call 8; refine (awake_any _).mono ?_; rintro e w' ⟨rfl, b1⟩)
    go_ret
    exact ⟨rfl, b1⟩
  by_cases h2 : (100 : Int) < b.size
  · go_enter Try.func7, Try.ntmps7
    go_wp2_with (go_at_call 8; refine (awake_any _).mono ?_; rintro e w' ⟨rfl, b1⟩)
    go_ret
    exact ⟨rfl, b1⟩
  by_cases h3 : (100 : Int) < c.size
  · go_enter Try.func7, Try.ntmps7
    go_wp2_with (go_at_call 8; refine (awake_any _).mono ?_; rintro e w' ⟨rfl, b1⟩)
    go_ret
    exact ⟨rfl, b1⟩
  have h4 : (100 : Int) < d.size := by omega
  go_enter Try.func7, Try.ntmps7
  go_wp2_with (go_at_call 8; refine (awake_any _).mono ?_; rintro e w' ⟨rfl, b1⟩)
  go_ret
  exact ⟨rfl, b1⟩

set_option maxHeartbeats 4000000 in
set_option maxRecDepth 100000 in
theorem lists_law (a b c d : ByteArray) (w : World) (ha : a.size ≤ maxLen) (hb : b.size ≤ maxLen) (hc : c.size ≤ maxLen) (hd : d.size ≤ maxLen) :
    Calls Try.prog 7 #[.string a, .string b, .string c, .string d] w fun e w' => e = .returned (.bool true) ∧ Below w.heap.size w w' := by
  unfold maxLen at ha hb hc hd
  by_cases hbig : 100 < a.size ∨ 100 < b.size ∨ 100 < c.size ∨ 100 < d.size
  · exact lists_big a b c d w ha hb hc hd hbig
  have d1 : decide ((100 : Int) < a.size) = false := by simp; omega
  have d2 : decide ((100 : Int) < b.size) = false := by simp; omega
  have d3 : decide ((100 : Int) < c.size) = false := by simp; omega
  have d4 : decide ((100 : Int) < d.size) = false := by simp; omega
  have sa : a.size ≤ 100 := by omega
  have sb : b.size ≤ 100 := by omega
  have sc : c.size ≤ 100 := by omega
  have sd : d.size ≤ 100 := by omega
  clear hbig ha hb hc hd
  obtain ⟨x, hx⟩ : ∃ x : ByteArray, x.data.toList = [] ++ txtL a.data.toList ++ txtL b.data.toList := ⟨⟨_⟩, rfl⟩
  obtain ⟨y, hy⟩ : ∃ y : ByteArray, y.data.toList = [] ++ txtL c.data.toList ++ txtL d.data.toList := ⟨⟨_⟩, rfl⟩
  have HX := Lib.hid hx
  have HY := Lib.hid hy
  clear hx hy
  have ta := txtL_length a.data.toList
  have tc := txtL_length c.data.toList
  have na := nulls_le a.data.toList
  have nc := nulls_le c.data.toList
  rw [← Lib.size_eq] at ta tc na nc
  obtain ⟨la, hla⟩ : ∃ n, (txtL a.data.toList).length = n := ⟨_, rfl⟩
  obtain ⟨lc, hlc⟩ : ∃ n, (txtL c.data.toList).length = n := ⟨_, rfl⟩
  have hla2 : la ≤ 300 := by omega
  have hlc2 : lc ≤ 300 := by omega
  have HLA := Lib.hid hla
  have HLC := Lib.hid hlc
  clear ta tc na nc hla hlc
  go_enter Try.func7, Try.ntmps7
  go_upto_region 3 with fail
  go_cut [9, 10] (fun s9 s10 wx => s9 = .string x ∧ s10 = .string y ∧ Below w.heap.size w wx)
  case first =>
    go_region_with (first
      | (go_at_call_of 11 (Value.string a)
         refine (text_any none 0 0 0 [] a _ (Rd.nil _ _) (Nat.zero_le _) (Nat.le_refl _) (by simp [maxLen]) (by omega) (by omega)).mono ?_
         rintro e w1 ⟨A1, n1, c1, rfl, hl1, hn1, hc1, hA1, hr1, b1⟩
         rw [List.nil_append, HLA.out] at hl1
         subst hl1)
      | (go_at_call_of 11 (Value.string b)
         refine (text_any A1 la c1 _ ([] ++ txtL a.data.toList) b _ hr1 (Nat.le_refl _) hn1 hc1 (by omega) (by omega)).mono ?_
         rintro e w2 ⟨A2, n2, c2, rfl, hl2, hn2, hc2, hA2, hr2, b2⟩
         have HL2 := Lib.hid hl2
         clear hl2
         have k2 := cv_as hr2 c2 x HX.out)
      | (go_at_call_of 11 (Value.string c)
         refine (text_any none 0 0 0 [] c _ (Rd.nil _ _) (Nat.zero_le _) (Nat.le_refl _) (by simp [maxLen]) (by omega) (by omega)).mono ?_
         rintro e w3 ⟨A3, n3, c3, rfl, hl3, hn3, hc3, hA3, hr3, b3⟩
         rw [List.nil_append, HLC.out] at hl3
         subst hl3
         have k3 := cv_as (hr2.below b3) c2 x HX.out)
      | (go_at_call_of 11 (Value.string d)
         refine (text_any A3 lc c3 _ ([] ++ txtL c.data.toList) d _ hr3 (Nat.le_refl _) hn3 hc3 (by omega) (by omega)).mono ?_
         rintro e w4 ⟨A4, n4, c4, rfl, hl4, hn4, hc4, hA4, hr4, b4⟩
         have HL4 := Lib.hid hl4
         clear hl4
         have k4 := cv_as ((hr2.below b3).below (b4.mono b3.size)) c2 x HX.out
         have k5 := cv_as hr4 c4 y HY.out))
    all_goals
      go_wp2_with fail
      go_meet
      exact ⟨rfl, rfl, ((Below.refl w.heap.size w).drew).trans (b1.trans ((b2.mono b1.size).trans ((b3.mono (Nat.le_trans b1.size b2.size)).trans (b4.mono (Nat.le_trans (Nat.le_trans b1.size b2.size) b3.size)))))⟩
  case rest =>
    obtain ⟨rfl, rfl, hb0⟩ := hcut
    have hx := HX.out
    have hy := HY.out
    rw [List.nil_append] at hx hy
    have sx : x.size ≤ 1000 := by
      rw [Lib.size_eq, hx, List.length_append, txtL_length, txtL_length]
      have h1 := nulls_le a.data.toList
      have h2 := nulls_le b.data.toList
      rw [← Lib.size_eq] at h1 h2 ⊢
      rw [← Lib.size_eq]
      omega
    have sy : y.size ≤ 1000 := by
      rw [Lib.size_eq, hy, List.length_append, txtL_length, txtL_length]
      have h1 := nulls_le c.data.toList
      have h2 := nulls_le d.data.toList
      rw [← Lib.size_eq] at h1 h2 ⊢
      rw [← Lib.size_eq]
      omega
    have hlt : (x.data.toList < y.data.toList) ↔ ((a.data.toList = c.data.toList ∧ b.data.toList < d.data.toList) ∨ a.data.toList < c.data.toList) := by
      rw [hx, hy, lt_txt, lt_txt0]
    have hpre : ∀ r : List UInt8, y.data.toList = x.data.toList ++ r → a = c ∧ b = d := by
      intro r h
      rw [hx, hy, List.append_assoc] at h
      obtain ⟨h1, h2⟩ := txt_inj _ _ _ _ h
      have h3 := txt_inj d.data.toList b.data.toList [] r (by rw [List.append_nil]; exact h2)
      exact ⟨(ba_ext h1).symm, (ba_ext h3.1).symm⟩
    by_cases hsame : a = c ∧ b = d
    · obtain ⟨rfl, rfl⟩ := hsame
      obtain rfl : x = y := ba_ext (by rw [hx, hy])
      have f1 : Op.bytesLess x.toList x.toList = false := blB_eq (p := false) (by simp)
      have f2 : Op.bytesLess a.toList a.toList = false := blB_eq (p := false) (by simp)
      have f3 : Op.bytesLess b.toList b.toList = false := blB_eq (p := false) (by simp)
      clear hlt hpre hx hy
      go_wp2_with (go_at_call 8; refine (awake_any _).mono ?_; rintro e w' ⟨rfl, b1⟩)
      go_ret
      exact ⟨rfl, hb0.trans (b1.mono hb0.size)⟩
    · have hxy : x ≠ y := by
        intro h
        exact hsame (hpre [] (by rw [h, List.append_nil]))
      have exy := eqB_false hxy
      obtain ⟨p, hp⟩ : ∃ p : Bool, Op.bytesLess a.toList c.toList = p := ⟨_, rfl⟩
      obtain ⟨q, hq⟩ : ∃ q : Bool, Op.bytesLess b.toList d.toList = q := ⟨_, rfl⟩
      have hp2 : (a.data.toList < c.data.toList) ↔ p = true := by rw [← hp, blB_iff]
      have hq2 : (b.data.toList < d.data.toList) ↔ q = true := by rw [← hq, blB_iff]
      have hsz : ¬ ((y.size : Int) < x.size) → ∃ z : ByteArray, (∀ wx : World, (Instr.slice 9 (.string y) none (some (.int .i64 (x.size : Int))) none).run Try.prog wx = .ok (.string z) wx) ∧ (z.toList != x.toList) = true := by
        intro h
        refine ⟨y.extract 0 x.size, fun wx => ?_, neB_true fun e => ?_⟩
        · rw [run_slice_string_h (P := Try.prog) (t := 9) (ht := Try.underlying9) (kh := .i64) (h := x.size) (h0 := by omega) (h2 := by omega)]
          rfl
        · have e2 : (y.extract 0 x.size).data.toList = x.data.toList := by rw [e]
          rw [Lib.extract_data, List.drop_zero, Nat.sub_zero] at e2
          exact hsame (hpre (y.data.toList.drop x.size) (by rw [← e2, List.take_append_drop]))
      by_cases hac : a = c
      · subst hac
        have eac : (a.toList == a.toList) = true := eqB_true rfl
        have ebd : (b.toList == d.toList) = false := eqB_false fun h => hsame ⟨rfl, h⟩
        have f2 : Op.bytesLess a.toList a.toList = false := blB_eq (p := false) (by simp)
        have f1 : Op.bytesLess x.toList y.toList = q := blB_eq (by
          rw [hlt]
          constructor
          · rintro (⟨_, h⟩ | h)
            · exact hq2.1 h
            · exact absurd h (lt_irr _)
          · exact fun h => Or.inl ⟨rfl, hq2.2 h⟩)
        clear hlt hpre hx hy hp2 hq2 hp
        have HS := Lib.hid hsame
        have HXY := Lib.hid hxy
        clear hsame hxy
        by_cases hl : (y.size : Int) < x.size
        · cases q
          all_goals
            go_wp2_with (go_at_call 8; refine (awake_any _).mono ?_; rintro e w' ⟨rfl, b1⟩)
            go_ret
            exact ⟨rfl, hb0.trans (b1.mono hb0.size)⟩
        · obtain ⟨z, hz1, hz2⟩ := hsz hl
          have hz3 : (z.toList == x.toList) = false := by simpa using hz2
          clear hsz
          cases q
          all_goals
            go_wp2_with (go_at_call 8; refine (awake_any _).mono ?_; rintro e w' ⟨rfl, b1⟩)
            go_ret
            exact ⟨rfl, hb0.trans (b1.mono hb0.size)⟩
      · have eac : (a.toList == c.toList) = false := eqB_false hac
        have f1 : Op.bytesLess x.toList y.toList = p := blB_eq (by
          rw [hlt, hp2]
          constructor
          · rintro (⟨h1, _⟩ | h)
            · exact absurd (ba_ext h1) hac
            · exact h
          · exact Or.inr)
        clear hlt hpre hx hy hp2 hq2 hq
        have HS := Lib.hid hsame
        have HXY := Lib.hid hxy
        have HAC := Lib.hid hac
        clear hsame hxy hac
        by_cases hl : (y.size : Int) < x.size
        · cases p
          all_goals
            go_wp2_with (go_at_call 8; refine (awake_any _).mono ?_; rintro e w' ⟨rfl, b1⟩)
            go_ret
            exact ⟨rfl, hb0.trans (b1.mono hb0.size)⟩
        · obtain ⟨z, hz1, hz2⟩ := hsz hl
          have hz3 : (z.toList == x.toList) = false := by simpa using hz2
          clear hsz
          cases p
          all_goals
            go_wp2_with (go_at_call 8; refine (awake_any _).mono ?_; rintro e w' ⟨rfl, b1⟩)
            go_ret
            exact ⟨rfl, hb0.trans (b1.mono hb0.size)⟩
end Go.Proofs.Ytkahcblonfbdaaa
