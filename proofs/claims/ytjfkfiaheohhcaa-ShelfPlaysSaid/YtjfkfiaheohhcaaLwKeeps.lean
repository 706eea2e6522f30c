/-
  The walk of ShelfKeeps.
-/
import Derived.Test.YtjfkfiaheohhcaaMy
import Derived.Laws.IdiomStrings
import Derived.WalkSpells
import Derived.Deep.RegionHeld3
set_option linter.unusedVariables false
set_option linter.unusedSimpArgs false
namespace Go.Proofs.Ytjfkfiaheohhcaa
open Go Go.RowKit

theorem sl_strh (s : ByteArray) (b : Nat) (h2 : b ≤ s.size) (wx : World) :
    (Instr.slice 9 (.string s) none (some (.int .i64 (b : Nat))) none).run Try.prog wx = .ok (.string (s.extract 0 b)) wx := by
  rw [run_slice_string_h (P := Try.prog) (t := 9) (ht := Try.underlying9) (kh := .i64) (h := (b : Nat)) (h0 := by omega) (h2 := by omega), Int.toNat_natCast]
theorem ext_take (s : ByteArray) (b : Nat) : (s.extract 0 b).data.toList = s.data.toList.take b := by
  rw [Lib.extract_data]
  simp
theorem app_data (s t : ByteArray) : (s ++ t).data.toList = s.data.toList ++ t.data.toList := by
  rw [ByteArray.data_append, Array.toList_append]

set_option maxHeartbeats 4000000 in
theorem keeps_law (a b : ByteArray) (keep twice : Int) (w : World) (ha : a.size ≤ maxLen) (hb : b.size ≤ maxLen) (hk : (Lit.int .i64 keep).wf = true) (ht : (Lit.int .i64 twice).wf = true) :
    Calls Try.prog 4 #[.string a, .string b, .int .i64 keep, .int .i64 twice] w fun e w' => e = .returned (.bool true) ∧ Below w.heap.size w w' := by
  by_cases h1 : 1000 < a.size
  · have d1 : decide ((1000 : Int) < (a.size : Nat)) = true := by simp; omega
    go_enter Try.func4, Try.ntmps4
    go_wp2_with (go_at_call 9; refine (awake_any _).mono ?_; rintro e w1 ⟨rfl, b1⟩)
    go_ret
    exact ⟨rfl, b1⟩
  by_cases h2 : 1000 < b.size
  · have d1 : decide ((1000 : Int) < (a.size : Nat)) = false := by simp; omega
    have d2 : decide ((1000 : Int) < (b.size : Nat)) = true := by simp; omega
    go_enter Try.func4, Try.ntmps4
    go_wp2_with (go_at_call 9; refine (awake_any _).mono ?_; rintro e w1 ⟨rfl, b1⟩)
    go_ret
    exact ⟨rfl, b1⟩
  have d1 : decide ((1000 : Int) < (a.size : Nat)) = false := by simp; omega
  have d2 : decide ((1000 : Int) < (b.size : Nat)) = false := by simp; omega
  obtain ⟨kl, kh⟩ := bounds_i64 hk
  obtain ⟨tl, th⟩ := bounds_i64 ht
  obtain ⟨k, hkk⟩ : ∃ k, clip keep b.size = k := ⟨_, rfl⟩
  have hkb : k ≤ b.size := by rw [← hkk]; exact clip_le _ _
  have hmin : min (max keep 0) (b.size : Int) = (k : Nat) := by rw [← hkk]; unfold clip; omega
  obtain ⟨t, htt⟩ : ∃ t, b.extract 0 k = t := ⟨_, rfl⟩
  obtain ⟨u, hu⟩ : ∃ u, a ++ t = u := ⟨_, rfl⟩
  have hsl : ∀ wx : World, (Instr.slice 9 (.string b) none (some (.int .i64 (k : Nat))) none).run Try.prog wx = .ok (.string t) wx := fun wx => by rw [← htt]; exact sl_strh b k hkb wx
  have htd : t.data.toList = b.data.toList.take k := by rw [← htt]; exact ext_take b k
  have hts : t.size ≤ 1000 := by rw [Lib.size_eq, htd, List.length_take, ← Lib.size_eq]; omega
  have hadd : ∀ wx : World, (Op.stringOp .add a t).run Try.prog wx = .ok (.string u) wx := fun wx => by rw [← hu]; exact run_string_add_sum wx a t (by omega)
  have hud : u.data.toList = a.data.toList ++ b.data.toList.take k := by rw [← hu, app_data, htd]
  have hal : a.data.toList.length = a.size := (Lib.size_eq a).symm
  have hbl : b.data.toList.length = b.size := (Lib.size_eq b).symm
  obtain ⟨A, hA⟩ : ∃ A, a.data.toList = A := ⟨_, rfl⟩
  obtain ⟨B, hB⟩ : ∃ B, b.data.toList = B := ⟨_, rfl⟩
  rw [hA] at hal hud
  rw [hB] at hbl hud
  have e1 : Sh.new.app a = (⟨A, 0, [], ⟨#[]⟩⟩, 0) := by
    unfold Sh.app
    rw [if_neg (by simp [Sh.new]; omega), hA]
    rfl
  have e2 : (⟨A, 0, [], ⟨#[]⟩⟩ : Sh).sync = ⟨A, A.length, [], ⟨#[]⟩⟩ := rfl
  have e3 : (⟨A, A.length, [], ⟨#[]⟩⟩ : Sh).app b = (⟨A ++ B, A.length, [], ⟨#[]⟩⟩, 0) := by
    unfold Sh.app
    rw [if_neg (by simp only; omega), hB]
  have e4 : (⟨A ++ B, A.length, [], ⟨#[]⟩⟩ : Sh).put 5 a = (⟨A ++ B, A.length, [(5, a)], ⟨#[]⟩⟩, 0) := by
    unfold Sh.put
    rw [if_neg (by simp [hasF]), if_neg (by simp; omega)]
    rfl
  have e5 : (⟨A ++ B, A.length, [(5, a)], ⟨#[]⟩⟩ : Sh).crash keep = ⟨A ++ B.take k, A.length + k, [(5, a)], ⟨#[]⟩⟩ := by
    unfold Sh.crash Sh.cut
    simp only [List.length_append]
    rw [show A.length + B.length - A.length = b.size by omega, hkk, clip_of_nat _ _ (by omega), List.take_length_add_append]
  have e6 : (⟨A ++ B.take k, A.length + k, [(5, a)], ⟨#[]⟩⟩ : Sh).crash twice = ⟨A ++ B.take k, A.length + k, [(5, a)], ⟨#[]⟩⟩ := by
    unfold Sh.crash Sh.cut
    have hl : (A ++ B.take k).length = A.length + k := by rw [List.length_append, List.length_take]; omega
    simp only [hl]
    have h0 : clip twice (A.length + k - (A.length + k)) = 0 := by unfold clip; omega
    rw [h0, clip_of_nat _ _ (by omega), Nat.add_zero, List.take_of_length_le (by omega)]
  have e7 : (⟨A ++ B.take k, A.length + k, [(5, a)], ⟨#[]⟩⟩ : Sh).turn b = (⟨[], 0, [(5, a)], b⟩, 0) := by
    unfold Sh.turn
    rw [if_neg (by omega)]
  have e8 : (⟨[], 0, [(5, a)], b⟩ : Sh).crash 0 = ⟨[], 0, [(5, a)], b⟩ := rfl
  have hun : (A ++ B).length - A.length = b.size := by rw [List.length_append]; omega
  have hun5 : (A ++ B.take k).length - (A.length + k) = 0 := by rw [List.length_append, List.length_take]; omega
  have E1 := Lib.hid e1; have E2 := Lib.hid e2; have E3 := Lib.hid e3; have E4 := Lib.hid e4; have E5 := Lib.hid e5; have E6 := Lib.hid e6; have E7 := Lib.hid e7; have E8 := Lib.hid e8
  have HU := Lib.hid hud; have HUN := Lib.hid hun; have HUN5 := Lib.hid hun5
  clear e1 e2 e3 e4 e5 e6 e7 e8 hud hun hun5 htt hu htd hkk hA hB hal hbl hk ht
  go_enter Try.func4, Try.ntmps4
  go_wp2_with fail
  refine (new_my w _ (Below.refl _ _)).mono ?_
  rintro e w1 ⟨p, F, rfl, m1, _⟩
  go_wp2_with fail
  refine (append_my m1 a (by omega) _ _ E1.out).mono ?_
  rintro e w2 ⟨rfl, F2, m2, _⟩
  go_wp2_with fail
  refine (sync_my m2 _ E2.out).mono ?_
  rintro e w3 ⟨rfl, m3, _⟩
  go_wp2_with fail
  refine (append_my m3 b (by omega) _ _ E3.out).mono ?_
  rintro e w4 ⟨rfl, F4, m4, _⟩
  go_wp2_with fail
  refine (put_my m4 5 a (by decide) (by omega) _ _ E4.out).mono ?_
  rintro e w5 ⟨rfl, m5, _⟩
  go_wp2_with fail
  refine (unsynced_my m5 b.size HUN.out).mono ?_
  rintro e w6 ⟨rfl, b6⟩
  have m6 := m5.read b6
  go_wp2_with fail
  refine (crash_my m6 keep (by omega) _ E5.out).mono ?_
  rintro e w7 ⟨rfl, m7, _⟩
  go_wp2_with fail
  go_region_law (go_simp; first
    | (go_at_call 21; refine (log_my (by first | exact m7 | exact m7.drew) u HU.out).mono ?_; rintro e w8 ⟨rfl, rfl⟩)
    | (go_at_call 19; refine (unsynced_my (by first | exact m7 | exact m7.drew) 0 HUN5.out).mono ?_; rintro e w9 ⟨rfl, b9⟩))
  have m9 := m7.drew.read b9
  go_wp2_with fail
  refine (crash_my m9 twice (by omega) _ E6.out).mono ?_
  rintro e w10 ⟨rfl, m10, _⟩
  go_wp2_with fail
  refine (get_my m10 5 (by decide) a 0 rfl rfl).mono ?_
  rintro e w11 ⟨rfl, b11⟩
  have m11 := m10.read b11
  go_wp2_with fail
  go_region_held3 (fun w' => True) (trivial) (first
    | (go_at_call 21; refine (log_my (by first | exact m11 | exact m11.drew) u HU.out).mono ?_; rintro e w12 ⟨rfl, rfl⟩)
    | (go_at_call 22; refine (turn_my (by first | exact m11 | exact m11.drew) b (by omega) _ _ E7.out).mono ?_; rintro e w13 ⟨rfl, m13, _⟩))
  go_wp2_with fail
  refine (crash_my m13 0 (by omega) _ E8.out).mono ?_
  rintro e w14 ⟨rfl, m14, _⟩
  go_wp2_with fail
  refine (man_my m14 b rfl).mono ?_
  rintro e w15 ⟨rfl, rfl⟩
  go_wp2_with fail
  refine (log_my m14 ⟨#[]⟩ rfl).mono ?_
  rintro e w16 ⟨rfl, rfl⟩
  go_wp2_with fail
  refine (nums_my m14 1 rfl).mono ?_
  rintro e w17 ⟨A17, c17, rfl, _, b17⟩
  have m17 := m14.read b17
  go_wp2_with fail
  refine (awake_any _).mono ?_
  rintro e w18 ⟨rfl, b18⟩
  go_wp2
  go_ret
  exact ⟨rfl, m17.below.trans (b18.mono m17.below.size)⟩
end Go.Proofs.Ytjfkfiaheohhcaa
