/-
  Contracts of the document's own answers of layer 1: one, of several bytes.
-/
import Derived.Test.YtdbdlgmejddbhaaDoorRf1
set_option linter.unusedVariables false
namespace Go.Proofs.YtdbdlgmejddbhaaDoor
open Go Go.RowKit

/-- What one answers of n bytes that go on. -/
def moreV (n r p : Nat) : Value := if wrongR n r then .agg #[.int .i32 65533, .int .i64 (p : Nat), .int .i64 1, .bool false] else .agg #[.int .i32 (r : Nat), .int .i64 (p : Nat), .int .i64 (n + 1 : Nat), .bool true]
theorem moreV_bad {n r p : Nat} (h : wrongR n r = true) : Ending.returned (.agg #[.int .i32 65533, .int .i64 (p : Nat), .int .i64 1, .bool false]) = Ending.returned (moreV n r p) := by
  unfold moreV; rw [if_pos h]
theorem moreV_ok {n r p : Nat} (h : wrongR n r = false) : Ending.returned (.agg #[.int .i32 (r : Nat), .int .i64 (p : Nat), .int .i64 ((n : Int) + 1), .bool true]) = Ending.returned (moreV n r p) := by
  unfold moreV; rw [if_neg (by rw [h]; decide)]; rfl

set_option maxHeartbeats 6400000 in
set_option maxRecDepth 100000 in
theorem one_more1 (s : ByteArray) (p r0 : Nat) (w : World) (hs : s.size ≤ 1099511627776) (hp : p < s.size)
    (h1 : 194 ≤ s[p].toNat) (h2 : s[p].toNat < 224) (h3 : s[p].toNat % 32 = r0)
    (hc : contB s (p + 1) 1 = true) (hin : p + 1 < s.size) :
    Calls Tryd.prog 28 #[.string s, .int .i64 p] w fun e w' => e = .returned (moreV 1 (rr s p r0 1) p) ∧ Below w.heap.size w w' := by
  have HC := Lib.hid hc
  clear hc
  have hr31 : r0 ≤ 31 := by omega
  have f0 : ¬ (s[p].toNat : Int) < 128 := by omega
  have f1 : 194 ≤ (s[p].toNat : Int) := by omega
  have f2 : (s[p].toNat : Int) < 224 := by omega
  have hand : bits .and .i32 (s[p].toNat : Int) 31 = (r0 : Int) := by rw [and31 _ (by omega), h3]
  have H3 := Lib.hid h3
  clear h3
  go_enter Tryd.func28, Tryd.ntmps28
  go_wp2_with (go_at_call 47; refine (cont_any s (p + 1) 1 _ hs (by omega) (by omega)).mono ?_; rintro e w' ⟨rfl, rfl⟩; rw [HC.out])
  go_loop [8, 9] (fun r i => ∃ k : Nat, k ≤ 1 ∧ i = .int .i64 (k + 1 : Nat) ∧ r = .int .i32 (rr s p r0 k : Nat)) (fun _ i => 2 - (intOf i).toNat)
  case atStart => exact ⟨0, Nat.zero_le _, rfl, rfl⟩
  case round =>
    obtain ⟨k, hk, rfl, rfl⟩ := hrel
    by_cases hlt : k < 1
    · have hsm := rr_small s p r0 k hr31 (by omega)
      have hbt := bt_at s (p + (k + 1)) (by omega)
      have hor := or_step (rr s p r0 k) (bt s (p + (k + 1))) hsm (bt_lt s _)
      rw [hbt] at hor
      have HO := Lib.hid hor
      have HB := Lib.hid hbt
      clear hor hbt
      go_wp2
      go_round
      case rel => exact ⟨k + 1, by omega, by go_num, HO.out.trans (by rw [rr, HB.out])⟩
      case measure => simp [intOf]; omega
    · obtain rfl : k = 1 := by omega
      have hw : wrongR 1 (rr s p r0 1) = false := rfl
      have HW := Lib.hid hw
      clear hw
      have hsm : rr s p r0 1 ≤ 131071 := rr_small s p r0 1 hr31 (by omega)
      go_wp2
      refine bodyPost_ret (v := .agg #[.int .i32 (rr s p r0 1 : Nat), .int .i64 (p : Nat), .int .i64 2, .bool true]) (by simp [results, Tryd.results28, go_sem]) rfl ⟨by first | exact moreV_bad HW.out | exact moreV_ok HW.out, ((Below.refl _ _).alloc (Nat.le_refl _) _).alloc (by simp) _⟩

set_option maxHeartbeats 6400000 in
set_option maxRecDepth 100000 in
theorem one_more2 (s : ByteArray) (p r0 : Nat) (w : World) (hs : s.size ≤ 1099511627776) (hp : p < s.size)
    (h1 : 224 ≤ s[p].toNat) (h2 : s[p].toNat < 240) (h3 : s[p].toNat % 16 = r0)
    (hc : contB s (p + 1) 2 = true) (hin : p + 2 < s.size) :
    Calls Tryd.prog 28 #[.string s, .int .i64 p] w fun e w' => e = .returned (moreV 2 (rr s p r0 2) p) ∧ Below w.heap.size w w' := by
  have HC := Lib.hid hc
  clear hc
  have hr31 : r0 ≤ 31 := by omega
  have f0 : ¬ (s[p].toNat : Int) < 128 := by omega
  have f1 : 194 ≤ (s[p].toNat : Int) := by omega
  have f2 : ¬ (s[p].toNat : Int) < 224 := by omega
  have f3 : 224 ≤ (s[p].toNat : Int) := by omega
  have f4 : (s[p].toNat : Int) < 240 := by omega
  have hand : bits .and .i32 (s[p].toNat : Int) 15 = (r0 : Int) := by rw [and15 _ (by omega), h3]
  have H3 := Lib.hid h3
  clear h3
  go_enter Tryd.func28, Tryd.ntmps28
  go_wp2_with (go_at_call 47; refine (cont_any s (p + 1) 2 _ hs (by omega) (by omega)).mono ?_; rintro e w' ⟨rfl, rfl⟩; rw [HC.out])
  go_loop [8, 9] (fun r i => ∃ k : Nat, k ≤ 2 ∧ i = .int .i64 (k + 1 : Nat) ∧ r = .int .i32 (rr s p r0 k : Nat)) (fun _ i => 3 - (intOf i).toNat)
  case atStart => exact ⟨0, Nat.zero_le _, rfl, rfl⟩
  case round =>
    obtain ⟨k, hk, rfl, rfl⟩ := hrel
    by_cases hlt : k < 2
    · have hsm := rr_small s p r0 k hr31 (by omega)
      have hbt := bt_at s (p + (k + 1)) (by omega)
      have hor := or_step (rr s p r0 k) (bt s (p + (k + 1))) hsm (bt_lt s _)
      rw [hbt] at hor
      have HO := Lib.hid hor
      have HB := Lib.hid hbt
      clear hor hbt
      go_wp2
      go_round
      case rel => exact ⟨k + 1, by omega, by go_num, HO.out.trans (by rw [rr, HB.out])⟩
      case measure => simp [intOf]; omega
    · obtain rfl : k = 2 := by omega
      have hsm : rr s p r0 2 ≤ 131071 := rr_small s p r0 2 hr31 (by omega)
      by_cases c1 : ((rr s p r0 2 : Nat) : Int) < 2048
      · have hw : wrongR 2 (rr s p r0 2) = true := by unfold wrongR; rw [decide_eq_true (show rr s p r0 2 < 2048 by omega)]; simp
        have HW := Lib.hid hw
        clear hw
        go_wp2
        refine bodyPost_ret (v := .agg #[.int .i32 65533, .int .i64 (p : Nat), .int .i64 1, .bool false]) (by simp [results, Tryd.results28, go_sem]) rfl ⟨by first | exact moreV_bad HW.out | exact moreV_ok HW.out, ((Below.refl _ _).alloc (Nat.le_refl _) _).alloc (by simp) _⟩
      · by_cases c2 : (55296 : Int) ≤ (rr s p r0 2 : Nat)
        · by_cases c3 : ((rr s p r0 2 : Nat) : Int) < 57344
          · have hw : wrongR 2 (rr s p r0 2) = true := by unfold wrongR; rw [decide_eq_true (show 55296 ≤ rr s p r0 2 by omega), decide_eq_true (show rr s p r0 2 < 57344 by omega)]; simp
            have HW := Lib.hid hw
            clear hw
            go_wp2
            refine bodyPost_ret (v := .agg #[.int .i32 65533, .int .i64 (p : Nat), .int .i64 1, .bool false]) (by simp [results, Tryd.results28, go_sem]) rfl ⟨by first | exact moreV_bad HW.out | exact moreV_ok HW.out, ((Below.refl _ _).alloc (Nat.le_refl _) _).alloc (by simp) _⟩
          · have hw : wrongR 2 (rr s p r0 2) = false := by unfold wrongR; rw [decide_eq_false (show ¬ rr s p r0 2 < 2048 by omega), decide_eq_false (show ¬ rr s p r0 2 < 57344 by omega)]; simp
            have HW := Lib.hid hw
            clear hw
            go_wp2
            refine bodyPost_ret (v := .agg #[.int .i32 (rr s p r0 2 : Nat), .int .i64 (p : Nat), .int .i64 3, .bool true]) (by simp [results, Tryd.results28, go_sem]) rfl ⟨by first | exact moreV_bad HW.out | exact moreV_ok HW.out, ((Below.refl _ _).alloc (Nat.le_refl _) _).alloc (by simp) _⟩
        · have hw : wrongR 2 (rr s p r0 2) = false := by unfold wrongR; rw [decide_eq_false (show ¬ rr s p r0 2 < 2048 by omega), decide_eq_false (show ¬ 55296 ≤ rr s p r0 2 by omega)]; simp
          have HW := Lib.hid hw
          clear hw
          go_wp2
          refine bodyPost_ret (v := .agg #[.int .i32 (rr s p r0 2 : Nat), .int .i64 (p : Nat), .int .i64 3, .bool true]) (by simp [results, Tryd.results28, go_sem]) rfl ⟨by first | exact moreV_bad HW.out | exact moreV_ok HW.out, ((Below.refl _ _).alloc (Nat.le_refl _) _).alloc (by simp) _⟩

set_option maxHeartbeats 6400000 in
set_option maxRecDepth 100000 in
theorem one_more3 (s : ByteArray) (p r0 : Nat) (w : World) (hs : s.size ≤ 1099511627776) (hp : p < s.size)
    (h1 : 240 ≤ s[p].toNat) (h2 : s[p].toNat < 245) (h3 : s[p].toNat % 8 = r0)
    (hc : contB s (p + 1) 3 = true) (hin : p + 3 < s.size) :
    Calls Tryd.prog 28 #[.string s, .int .i64 p] w fun e w' => e = .returned (moreV 3 (rr s p r0 3) p) ∧ Below w.heap.size w w' := by
  have HC := Lib.hid hc
  clear hc
  have hr31 : r0 ≤ 31 := by omega
  have f0 : ¬ (s[p].toNat : Int) < 128 := by omega
  have f1 : 194 ≤ (s[p].toNat : Int) := by omega
  have f2 : ¬ (s[p].toNat : Int) < 224 := by omega
  have f3 : 224 ≤ (s[p].toNat : Int) := by omega
  have f4 : ¬ (s[p].toNat : Int) < 240 := by omega
  have f5 : 240 ≤ (s[p].toNat : Int) := by omega
  have f6 : (s[p].toNat : Int) < 245 := by omega
  have hand : bits .and .i32 (s[p].toNat : Int) 7 = (r0 : Int) := by rw [and7 _ (by omega), h3]
  have H3 := Lib.hid h3
  clear h3
  go_enter Tryd.func28, Tryd.ntmps28
  go_wp2_with (go_at_call 47; refine (cont_any s (p + 1) 3 _ hs (by omega) (by omega)).mono ?_; rintro e w' ⟨rfl, rfl⟩; rw [HC.out])
  go_loop [8, 9] (fun r i => ∃ k : Nat, k ≤ 3 ∧ i = .int .i64 (k + 1 : Nat) ∧ r = .int .i32 (rr s p r0 k : Nat)) (fun _ i => 4 - (intOf i).toNat)
  case atStart => exact ⟨0, Nat.zero_le _, rfl, rfl⟩
  case round =>
    obtain ⟨k, hk, rfl, rfl⟩ := hrel
    by_cases hlt : k < 3
    · have hsm := rr_small s p r0 k hr31 (by omega)
      have hbt := bt_at s (p + (k + 1)) (by omega)
      have hor := or_step (rr s p r0 k) (bt s (p + (k + 1))) hsm (bt_lt s _)
      rw [hbt] at hor
      have HO := Lib.hid hor
      have HB := Lib.hid hbt
      clear hor hbt
      go_wp2
      go_round
      case rel => exact ⟨k + 1, by omega, by go_num, HO.out.trans (by rw [rr, HB.out])⟩
      case measure => simp [intOf]; omega
    · obtain rfl : k = 3 := by omega
      have hsm : rr s p r0 3 ≤ 8388607 := by have := rr_small s p r0 2 hr31 (by omega); have := bt_lt s (p + 3); simp only [rr] at *; omega
      by_cases c1 : ((rr s p r0 3 : Nat) : Int) < 65536
      · have hw : wrongR 3 (rr s p r0 3) = true := by unfold wrongR; rw [decide_eq_true (show rr s p r0 3 < 65536 by omega)]; simp
        have HW := Lib.hid hw
        clear hw
        go_wp2
        refine bodyPost_ret (v := .agg #[.int .i32 65533, .int .i64 (p : Nat), .int .i64 1, .bool false]) (by simp [results, Tryd.results28, go_sem]) rfl ⟨by first | exact moreV_bad HW.out | exact moreV_ok HW.out, ((Below.refl _ _).alloc (Nat.le_refl _) _).alloc (by simp) _⟩
      · by_cases c2 : (1114111 : Int) < (rr s p r0 3 : Nat)
        · have hw : wrongR 3 (rr s p r0 3) = true := by unfold wrongR; rw [decide_eq_true (show 1114111 < rr s p r0 3 by omega)]; simp
          have HW := Lib.hid hw
          clear hw
          go_wp2
          refine bodyPost_ret (v := .agg #[.int .i32 65533, .int .i64 (p : Nat), .int .i64 1, .bool false]) (by simp [results, Tryd.results28, go_sem]) rfl ⟨by first | exact moreV_bad HW.out | exact moreV_ok HW.out, ((Below.refl _ _).alloc (Nat.le_refl _) _).alloc (by simp) _⟩
        · have hw : wrongR 3 (rr s p r0 3) = false := by unfold wrongR; rw [decide_eq_false (show ¬ rr s p r0 3 < 65536 by omega), decide_eq_false (show ¬ 1114111 < rr s p r0 3 by omega)]; simp
          have HW := Lib.hid hw
          clear hw
          go_wp2
          refine bodyPost_ret (v := .agg #[.int .i32 (rr s p r0 3 : Nat), .int .i64 (p : Nat), .int .i64 4, .bool true]) (by simp [results, Tryd.results28, go_sem]) rfl ⟨by first | exact moreV_bad HW.out | exact moreV_ok HW.out, ((Below.refl _ _).alloc (Nat.le_refl _) _).alloc (by simp) _⟩

end Go.Proofs.YtdbdlgmejddbhaaDoor
