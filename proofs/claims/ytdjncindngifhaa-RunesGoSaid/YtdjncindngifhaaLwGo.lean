/-
  The walk of RunesGo.
-/
import Derived.Test.YtdjncindngifhaaLwParts
set_option linter.unusedVariables false
namespace Go.Proofs.Ytdjncindngifhaa
open Go Go.RowKit

/-- How far the law has come: k code points are done, bad tells whether one of them was not right. -/
def Gone (s : ByteArray) (pos f k : Nat) (bad : Bool) : Prop :=
  (∀ j : Nat, (cps s)[k + j]? = (cpsF s f pos)[j]?) ∧ k + (cpsF s f pos).length = (cps s).length ∧ bad = !((cps s).take k).all rightB ∧ s.size ≤ pos + f

theorem gone_start (s : ByteArray) : Gone s 0 s.size 0 false := ⟨fun j => by simp [cps], by simp [cps], by simp, by omega⟩

theorem gone_here {s : ByteArray} {pos f k : Nat} {bad : Bool} (h : Gone s pos f k bad) (hp : pos < s.size) :
    (cps s)[k]? = some ((Utf8.decode s pos).1, pos, (Utf8.decode s pos).2) ∧ k < (cps s).length ∧
    ∃ g, Gone s (pos + (Utf8.decode s pos).2) g (k + 1) (bad || !rightB ((Utf8.decode s pos).1, pos, (Utf8.decode s pos).2)) := by
  obtain ⟨h1, h2, h3, h4⟩ := h
  obtain ⟨g, e1, e2, e3⟩ := cpsF_step s f pos hp h4
  have h0 := h1 0
  rw [e2] at h0 h2
  simp only [Nat.add_zero, List.getElem?_cons_zero] at h0
  rw [List.length_cons] at h2
  refine ⟨h0, by omega, g, fun j => ?_, by omega, ?_, e3⟩
  · have := h1 (j + 1)
    rw [e2] at this
    rw [show k + 1 + j = k + (j + 1) from by omega, this]
    rfl
  · have hk : k < (cps s).length := by omega
    rw [List.take_succ_eq_append_getElem hk, List.all_append, h3]
    rw [List.getElem?_eq_getElem hk] at h0
    injection h0 with h0
    rw [h0]
    simp [Bool.not_and]

theorem gone_end {s : ByteArray} {pos f k : Nat} {bad : Bool} (h : Gone s pos f k bad) (hp : ¬ pos < s.size) : (cps s).length = k ∧ validB s = !bad := by
  obtain ⟨h1, h2, h3, h4⟩ := h
  rw [cpsF_end s f pos hp] at h2
  have hk : (cps s).length = k := by simpa using h2.symm
  refine ⟨hk, ?_⟩
  rw [h3, ← hk, List.take_length, Bool.not_not]
  rfl

theorem keep_iter {B it : Nat} {w w' : World} {s : ByteArray} {p : Nat} (h : w.heap[it]? = some (.stringIter s p)) (hb : Below w.heap.size w w') : w'.heap[it]? = some (.stringIter s p) := by
  have := (Array.getElem?_eq_some_iff.1 h).1
  rw [hb.block it this]
  exact h

theorem right3 (s s3 : ByteArray) (pos : Nat) (hs3 : s.extract pos (pos + 3) = s3) (hr : (Utf8.decode s pos).1 = 65533) (h : pos + 3 ≤ s.size) :
    rightB ((Utf8.decode s pos).1, pos, (Utf8.decode s pos).2) = (s3.toList == (ByteArray.mk #[239, 191, 189]).toList) := by
  unfold rightB
  rw [hr, ← right_width s pos hr, ← hs3, Lib.extract_toList, Lib.toList_data]
  have := Lib.hasPrefix_of_take (s.data.toList.drop pos) [239, 191, 189]
  rw [← this, decide_eq_true (show ([239, 191, 189] : List UInt8).length ≤ (s.data.toList.drop pos).length by rw [List.length_drop, ba_size_list]; simp; omega)]
  simp

set_option maxHeartbeats 8000000 in
set_option maxRecDepth 100000 in
theorem go_law (s : ByteArray) (w : World) (hs : s.size ≤ maxLen) :
    Calls Try.prog 4 #[.string s] w fun e w' => e = .returned (.bool true) ∧ Below w.heap.size w w' := by
  unfold maxLen at hs
  by_cases hbig : (1500 : Int) < s.size
  · go_enter Try.func4, Try.ntmps4
    go_wp2_with (go_at_call 9; refine (awake_any _).mono ?_; rintro e w' ⟨rfl, b1⟩)
    go_ret
    exact ⟨rfl, b1⟩
  have hlen := cps_length s
  go_enter Try.func4, Try.ntmps4
  go_wp2
  go_loopw [3, 4] (fun n b wr => ∃ (pos f k : Nat) (bad : Bool), n = .int .i64 k ∧ b = .bool bad ∧ wr.heap[w.heap.size]? = some (.stringIter s pos) ∧ Below w.heap.size w wr ∧ Gone s pos f k bad) (fun _ _ wr => s.size - wr.iterPos w.heap.size)
  case atStart => exact ⟨0, s.size, 0, false, rfl, rfl, World.iter_heap w s 0, (Below.refl _ _).alloc (Nat.le_refl _) _, gone_start s⟩
  case round =>
    obtain ⟨pos, f, k, bad, rfl, rfl, hit, hbw, hgn⟩ := hrel
    have hsz : w.heap.size < wr.heap.size := (Array.getElem?_eq_some_iff.1 hit).1
    have HI := Lib.hid hit
    by_cases hp : pos < s.size
    · have hnx : ∀ ty, (Instr.next (.pointer (some ⟨w.heap.size, 0, none⟩)) true ty).run Try.prog wr = _ := fun ty => Lib.run_next_any_at wr w.heap.size s pos ty hit hp
      have hwd := width_pos s pos hp
      obtain ⟨hh1, hh2, g, hh3⟩ := gone_here hgn hp
      have hi1 := Lib.iterAt_heap wr w.heap.size s pos (pos + (Utf8.decode s pos).2) hit
      have hbw1 := Lib.below_iterAt hbw (k := w.heap.size) (Nat.le_refl _) s (pos + (Utf8.decode s pos).2)
      have hsz1 : w.heap.size < (wr.iterAt w.heap.size s (pos + (Utf8.decode s pos).2)).heap.size := by rw [Lib.iterAt_size]; exact hsz
      have HI1 := Lib.hid hi1
      have hat : atL (cps s) (k : Nat) = some ((Utf8.decode s pos).1, pos, (Utf8.decode s pos).2) := by rw [atL_nat]; exact hh1
      have HAT := Lib.hid hat
      have hdl := decode_le s pos
      obtain ⟨sd, hsd⟩ : ∃ x : ByteArray, s.extract pos s.size = x := ⟨_, rfl⟩
      have hsds : sd.size ≤ 1500 := by rw [← hsd, ByteArray.size_extract]; omega
      have hsl : ∀ wx : World, (Instr.slice 9 (.string s) (some (.int .i64 (pos : Int))) none none).run Try.prog wx = .ok (.string sd) wx := by
        intro wx
        rw [run_slice_string_l (P := Try.prog) (t := 9) (ht := Try.underlying9) (kl := .i64) (l := (pos : Int)) (h0 := by omega) (h1 := by omega), ← hsd]
        rfl
      have e1 : (((Utf8.decode s pos).1 : Int) != (Utf8.decode s pos).1) = false := by rw [bne_eq_false_iff_eq]
      have e2 : ((pos : Int) != pos) = false := by rw [bne_eq_false_iff_eq]
      obtain ⟨cn, hcn⟩ : ∃ c : Nat, (cps sd).length = c := ⟨_, rfl⟩
      have hcn2 : cn ≤ 1500 := by have := cps_length sd; omega
      have HCN := Lib.hid hcn
      obtain ⟨rb, hrb⟩ : ∃ b : Bool, rightB ((Utf8.decode s pos).1, pos, (Utf8.decode s pos).2) = b := ⟨_, rfl⟩
      rw [hrb] at hh3
      have HR := Lib.hid hrb
      clear hit hi1 hat hsd hcn hrb hh1
      -- what region 11 comes to
      obtain ⟨bad', hbad'⟩ : ∃ b : Bool, (bad || !rb) = b := ⟨_, rfl⟩
      rw [hbad'] at hh3
      have HB := Lib.hid hbad'
      clear hbad'
      clear hgn
      cases bad with
      | true =>
        obtain rfl : bad' = true := by have := HB.out; simpa using this.symm
        by_cases htwo : (1 : Int) < (cn : Int)
        · obtain ⟨⟨r2, p2, wd2⟩, hc2⟩ : ∃ c, (cps sd)[1]? = some c := ⟨_, List.getElem?_eq_getElem (by rw [HCN.out]; omega)⟩
          have ha2 : atL (cps sd) 1 = some (r2, p2, wd2) := by rw [show (1 : Int) = ((1 : Nat) : Int) from rfl, atL_nat]; exact hc2
          have HA2 := Lib.hid ha2
          clear ha2 hc2
          go_wp2_with fail
          refine (at_as s k _ pos _ _ (by omega) HAT.out).mono ?_
          rintro e w1 ⟨rfl, b1⟩
          go_wp2_with fail
          refine (at_as sd 1 r2 p2 wd2 _ (by omega) HA2.out).mono ?_
          rintro e w2 ⟨rfl, b2⟩
          go_wp2_with fail
          refine (count_as sd cn _ (by omega) HCN.out).mono ?_
          rintro e w3 ⟨rfl, b3⟩
          have i3 := keep_iter (B := 0) (keep_iter (B := 0) (keep_iter (B := 0) HI1.out b1) b2) b3
          go_wp2
          go_roundw
          case rel => exact ⟨pos + (Utf8.decode s pos).2, g, k + 1, true, by go_num, rfl, i3, hbw1.trans ((b1.trans ((b2.trans (b3.mono b2.size)).mono b1.size)).mono (Nat.le_of_lt hsz1)), hh3⟩
          case measure =>
            simp only [World.iterPos, i3, HI.out]
            omega
        · have ha2 : atL (cps sd) 1 = none := by rw [show (1 : Int) = ((1 : Nat) : Int) from rfl, atL_nat]; exact List.getElem?_eq_none (by rw [HCN.out]; omega)
          have HA2 := Lib.hid ha2
          clear ha2
          go_wp2_with fail
          refine (at_as s k _ pos _ _ (by omega) HAT.out).mono ?_
          rintro e w1 ⟨rfl, b1⟩
          go_wp2_with fail
          refine (at_nil sd 1 _ (by omega) HA2.out).mono ?_
          rintro e w2 ⟨rfl, b2⟩
          go_wp2_with fail
          refine (count_as sd cn _ (by omega) HCN.out).mono ?_
          rintro e w3 ⟨rfl, b3⟩
          have i3 := keep_iter (B := 0) (keep_iter (B := 0) (keep_iter (B := 0) HI1.out b1) b2) b3
          go_wp2
          go_roundw
          case rel => exact ⟨pos + (Utf8.decode s pos).2, g, k + 1, true, by go_num, rfl, i3, hbw1.trans ((b1.trans ((b2.trans (b3.mono b2.size)).mono b1.size)).mono (Nat.le_of_lt hsz1)), hh3⟩
          case measure =>
            simp only [World.iterPos, i3, HI.out]
            omega
      | false =>
        have hrr : bad' = !rb := by have := HB.out; simpa using this.symm
        by_cases hr : (Utf8.decode s pos).1 = 65533
        · have hb1 : (((Utf8.decode s pos).1 : Int) == 65533) = true := by rw [hr]; rfl
          by_cases h3 : (s.size : Int) < (pos : Int) + 3
          · have hrb2 : rb = false := by
              rw [← HR.out]
              unfold rightB
              rw [hr, ← right_width s pos hr, hasPrefix3, decide_eq_false (show ¬ pos + 2 < s.size by omega)]
              rfl
            obtain rfl : bad' = true := by rw [hrr, hrb2]; rfl
            clear hrr hrb2 hr
            by_cases htwo : (1 : Int) < (cn : Int)
            · obtain ⟨⟨r2, p2, wd2⟩, hc2⟩ : ∃ c, (cps sd)[1]? = some c := ⟨_, List.getElem?_eq_getElem (by rw [HCN.out]; omega)⟩
              have ha2 : atL (cps sd) 1 = some (r2, p2, wd2) := by rw [show (1 : Int) = ((1 : Nat) : Int) from rfl, atL_nat]; exact hc2
              have HA2 := Lib.hid ha2
              clear ha2 hc2
              go_wp2_with fail
              refine (at_as s k _ pos _ _ (by omega) HAT.out).mono ?_
              rintro e w1 ⟨rfl, b1⟩
              go_wp2_with fail
              refine (at_as sd 1 r2 p2 wd2 _ (by omega) HA2.out).mono ?_
              rintro e w2 ⟨rfl, b2⟩
              go_wp2_with fail
              refine (count_as sd cn _ (by omega) HCN.out).mono ?_
              rintro e w3 ⟨rfl, b3⟩
              have i3 := keep_iter (B := 0) (keep_iter (B := 0) (keep_iter (B := 0) HI1.out b1) b2) b3
              go_wp2
              go_roundw
              case rel => exact ⟨pos + (Utf8.decode s pos).2, g, k + 1, true, by go_num, rfl, i3, hbw1.trans ((b1.trans ((b2.trans (b3.mono b2.size)).mono b1.size)).mono (Nat.le_of_lt hsz1)), hh3⟩
              case measure =>
                simp only [World.iterPos, i3, HI.out]
                omega
            · have ha2 : atL (cps sd) 1 = none := by rw [show (1 : Int) = ((1 : Nat) : Int) from rfl, atL_nat]; exact List.getElem?_eq_none (by rw [HCN.out]; omega)
              have HA2 := Lib.hid ha2
              clear ha2
              go_wp2_with fail
              refine (at_as s k _ pos _ _ (by omega) HAT.out).mono ?_
              rintro e w1 ⟨rfl, b1⟩
              go_wp2_with fail
              refine (at_nil sd 1 _ (by omega) HA2.out).mono ?_
              rintro e w2 ⟨rfl, b2⟩
              go_wp2_with fail
              refine (count_as sd cn _ (by omega) HCN.out).mono ?_
              rintro e w3 ⟨rfl, b3⟩
              have i3 := keep_iter (B := 0) (keep_iter (B := 0) (keep_iter (B := 0) HI1.out b1) b2) b3
              go_wp2
              go_roundw
              case rel => exact ⟨pos + (Utf8.decode s pos).2, g, k + 1, true, by go_num, rfl, i3, hbw1.trans ((b1.trans ((b2.trans (b3.mono b2.size)).mono b1.size)).mono (Nat.le_of_lt hsz1)), hh3⟩
              case measure =>
                simp only [World.iterPos, i3, HI.out]
                omega
          · have H3 := Lib.hid (decide_eq_false h3)
            obtain ⟨s3, hs3⟩ : ∃ x : ByteArray, s.extract pos (pos + 3) = x := ⟨_, rfl⟩
            have hsl3 : ∀ wx : World, (Instr.slice 9 (.string s) (some (.int .i64 (pos : Int))) (some (.int .i64 ((pos : Int) + 3))) none).run Try.prog wx = .ok (.string s3) wx := by
              intro wx
              rw [run_slice_string (P := Try.prog) wx 9 s .i64 .i64 pos ((pos : Int) + 3) Try.underlying9 (by omega) (by omega) (by omega), ← hs3]
              rfl
            have hq : rb = (s3.toList == (ByteArray.mk #[239, 191, 189]).toList) := by
              rw [← HR.out]
              exact right3 s s3 pos hs3 hr (by omega)
            have HS3 := Lib.hid hs3
            clear hs3
            obtain ⟨q, hq2⟩ : ∃ q : Bool, (s3.toList == (ByteArray.mk #[239, 191, 189]).toList) = q := ⟨_, rfl⟩
            rw [hq2] at hq
            have hq3 : (s3.toList == [239, 191, 189]) = q := by rw [← hq2]; simp only [Lib.toList_data]
            cases q with
            | true =>
              obtain rfl : bad' = false := by rw [hrr, hq]; rfl
              clear hrr hq hr
              by_cases htwo : (1 : Int) < (cn : Int)
              · obtain ⟨⟨r2, p2, wd2⟩, hc2⟩ : ∃ c, (cps sd)[1]? = some c := ⟨_, List.getElem?_eq_getElem (by rw [HCN.out]; omega)⟩
                have ha2 : atL (cps sd) 1 = some (r2, p2, wd2) := by rw [show (1 : Int) = ((1 : Nat) : Int) from rfl, atL_nat]; exact hc2
                have HA2 := Lib.hid ha2
                clear ha2 hc2
                go_wp2_with fail
                refine (at_as s k _ pos _ _ (by omega) HAT.out).mono ?_
                rintro e w1 ⟨rfl, b1⟩
                go_wp2_with fail
                refine (at_as sd 1 r2 p2 wd2 _ (by omega) HA2.out).mono ?_
                rintro e w2 ⟨rfl, b2⟩
                go_wp2_with fail
                refine (count_as sd cn _ (by omega) HCN.out).mono ?_
                rintro e w3 ⟨rfl, b3⟩
                have i3 := keep_iter (B := 0) (keep_iter (B := 0) (keep_iter (B := 0) HI1.out b1) b2) b3
                go_wp2
                go_roundw
                case rel => exact ⟨pos + (Utf8.decode s pos).2, g, k + 1, false, by go_num, by first | rfl | rw [H3.out], i3, hbw1.trans ((b1.trans ((b2.trans (b3.mono b2.size)).mono b1.size)).mono (Nat.le_of_lt hsz1)), hh3⟩
                case measure =>
                  simp only [World.iterPos, i3, HI.out]
                  omega
              · have ha2 : atL (cps sd) 1 = none := by rw [show (1 : Int) = ((1 : Nat) : Int) from rfl, atL_nat]; exact List.getElem?_eq_none (by rw [HCN.out]; omega)
                have HA2 := Lib.hid ha2
                clear ha2
                go_wp2_with fail
                refine (at_as s k _ pos _ _ (by omega) HAT.out).mono ?_
                rintro e w1 ⟨rfl, b1⟩
                go_wp2_with fail
                refine (at_nil sd 1 _ (by omega) HA2.out).mono ?_
                rintro e w2 ⟨rfl, b2⟩
                go_wp2_with fail
                refine (count_as sd cn _ (by omega) HCN.out).mono ?_
                rintro e w3 ⟨rfl, b3⟩
                have i3 := keep_iter (B := 0) (keep_iter (B := 0) (keep_iter (B := 0) HI1.out b1) b2) b3
                go_wp2
                go_roundw
                case rel => exact ⟨pos + (Utf8.decode s pos).2, g, k + 1, false, by go_num, by first | rfl | rw [H3.out], i3, hbw1.trans ((b1.trans ((b2.trans (b3.mono b2.size)).mono b1.size)).mono (Nat.le_of_lt hsz1)), hh3⟩
                case measure =>
                  simp only [World.iterPos, i3, HI.out]
                  omega
            | false =>
              obtain rfl : bad' = true := by rw [hrr, hq]; rfl
              clear hrr hq hr
              by_cases htwo : (1 : Int) < (cn : Int)
              · obtain ⟨⟨r2, p2, wd2⟩, hc2⟩ : ∃ c, (cps sd)[1]? = some c := ⟨_, List.getElem?_eq_getElem (by rw [HCN.out]; omega)⟩
                have ha2 : atL (cps sd) 1 = some (r2, p2, wd2) := by rw [show (1 : Int) = ((1 : Nat) : Int) from rfl, atL_nat]; exact hc2
                have HA2 := Lib.hid ha2
                clear ha2 hc2
                go_wp2_with fail
                refine (at_as s k _ pos _ _ (by omega) HAT.out).mono ?_
                rintro e w1 ⟨rfl, b1⟩
                go_wp2_with fail
                refine (at_as sd 1 r2 p2 wd2 _ (by omega) HA2.out).mono ?_
                rintro e w2 ⟨rfl, b2⟩
                go_wp2_with fail
                refine (count_as sd cn _ (by omega) HCN.out).mono ?_
                rintro e w3 ⟨rfl, b3⟩
                have i3 := keep_iter (B := 0) (keep_iter (B := 0) (keep_iter (B := 0) HI1.out b1) b2) b3
                go_wp2
                go_roundw
                case rel => exact ⟨pos + (Utf8.decode s pos).2, g, k + 1, true, by go_num, rfl, i3, hbw1.trans ((b1.trans ((b2.trans (b3.mono b2.size)).mono b1.size)).mono (Nat.le_of_lt hsz1)), hh3⟩
                case measure =>
                  simp only [World.iterPos, i3, HI.out]
                  omega
              · have ha2 : atL (cps sd) 1 = none := by rw [show (1 : Int) = ((1 : Nat) : Int) from rfl, atL_nat]; exact List.getElem?_eq_none (by rw [HCN.out]; omega)
                have HA2 := Lib.hid ha2
                clear ha2
                go_wp2_with fail
                refine (at_as s k _ pos _ _ (by omega) HAT.out).mono ?_
                rintro e w1 ⟨rfl, b1⟩
                go_wp2_with fail
                refine (at_nil sd 1 _ (by omega) HA2.out).mono ?_
                rintro e w2 ⟨rfl, b2⟩
                go_wp2_with fail
                refine (count_as sd cn _ (by omega) HCN.out).mono ?_
                rintro e w3 ⟨rfl, b3⟩
                have i3 := keep_iter (B := 0) (keep_iter (B := 0) (keep_iter (B := 0) HI1.out b1) b2) b3
                go_wp2
                go_roundw
                case rel => exact ⟨pos + (Utf8.decode s pos).2, g, k + 1, true, by go_num, rfl, i3, hbw1.trans ((b1.trans ((b2.trans (b3.mono b2.size)).mono b1.size)).mono (Nat.le_of_lt hsz1)), hh3⟩
                case measure =>
                  simp only [World.iterPos, i3, HI.out]
                  omega
        · have hb1 : (((Utf8.decode s pos).1 : Int) == 65533) = false := by simp; omega
          have hrb2 : rb = true := by
            rw [← HR.out]
            unfold rightB
            rw [beq_eq_false_iff_ne.2 (show (Utf8.decode s pos).1 ≠ 65533 from hr)]
            rfl
          obtain rfl : bad' = false := by rw [hrr, hrb2]; rfl
          clear hrr hrb2 hr
          by_cases htwo : (1 : Int) < (cn : Int)
          · obtain ⟨⟨r2, p2, wd2⟩, hc2⟩ : ∃ c, (cps sd)[1]? = some c := ⟨_, List.getElem?_eq_getElem (by rw [HCN.out]; omega)⟩
            have ha2 : atL (cps sd) 1 = some (r2, p2, wd2) := by rw [show (1 : Int) = ((1 : Nat) : Int) from rfl, atL_nat]; exact hc2
            have HA2 := Lib.hid ha2
            clear ha2 hc2
            go_wp2_with fail
            refine (at_as s k _ pos _ _ (by omega) HAT.out).mono ?_
            rintro e w1 ⟨rfl, b1⟩
            go_wp2_with fail
            refine (at_as sd 1 r2 p2 wd2 _ (by omega) HA2.out).mono ?_
            rintro e w2 ⟨rfl, b2⟩
            go_wp2_with fail
            refine (count_as sd cn _ (by omega) HCN.out).mono ?_
            rintro e w3 ⟨rfl, b3⟩
            have i3 := keep_iter (B := 0) (keep_iter (B := 0) (keep_iter (B := 0) HI1.out b1) b2) b3
            go_wp2
            go_roundw
            case rel => exact ⟨pos + (Utf8.decode s pos).2, g, k + 1, false, by go_num, rfl, i3, hbw1.trans ((b1.trans ((b2.trans (b3.mono b2.size)).mono b1.size)).mono (Nat.le_of_lt hsz1)), hh3⟩
            case measure =>
              simp only [World.iterPos, i3, HI.out]
              omega
          · have ha2 : atL (cps sd) 1 = none := by rw [show (1 : Int) = ((1 : Nat) : Int) from rfl, atL_nat]; exact List.getElem?_eq_none (by rw [HCN.out]; omega)
            have HA2 := Lib.hid ha2
            clear ha2
            go_wp2_with fail
            refine (at_as s k _ pos _ _ (by omega) HAT.out).mono ?_
            rintro e w1 ⟨rfl, b1⟩
            go_wp2_with fail
            refine (at_nil sd 1 _ (by omega) HA2.out).mono ?_
            rintro e w2 ⟨rfl, b2⟩
            go_wp2_with fail
            refine (count_as sd cn _ (by omega) HCN.out).mono ?_
            rintro e w3 ⟨rfl, b3⟩
            have i3 := keep_iter (B := 0) (keep_iter (B := 0) (keep_iter (B := 0) HI1.out b1) b2) b3
            go_wp2
            go_roundw
            case rel => exact ⟨pos + (Utf8.decode s pos).2, g, k + 1, false, by go_num, rfl, i3, hbw1.trans ((b1.trans ((b2.trans (b3.mono b2.size)).mono b1.size)).mono (Nat.le_of_lt hsz1)), hh3⟩
            case measure =>
              simp only [World.iterPos, i3, HI.out]
              omega
    · have hnx : ∀ ty, (Instr.next (.pointer (some ⟨w.heap.size, 0, none⟩)) true ty).run Try.prog wr = _ := fun ty => Lib.run_next_end_at wr w.heap.size s pos ty hit hp
      obtain ⟨hc, hv⟩ := gone_end hgn hp
      have hk : k ≤ 1500 := by omega
      have HC := Lib.hid hc
      have HV := Lib.hid hv
      have e1 : ((k : Int) == k) = true := by simp
      have e2 : ((!bad) != bad) = true := by cases bad <;> rfl
      clear hit hc hv
      go_wp2_with fail
      refine (count_as s k _ (by omega) HC.out).mono ?_
      rintro e w1 ⟨rfl, b1⟩
      go_wp2_with fail
      refine (valid_as s _ _ (by omega) HV.out).mono ?_
      rintro e w2 ⟨rfl, b2⟩
      go_wp2_with fail
      refine (awake_any _).mono ?_
      rintro e w3 ⟨rfl, b3⟩
      go_wp2
      go_ret
      exact ⟨rfl, hbw.trans ((b1.trans ((b2.trans (b3.mono b2.size)).mono b1.size)).mono (Nat.le_of_lt hsz))⟩
end Go.Proofs.Ytdjncindngifhaa
