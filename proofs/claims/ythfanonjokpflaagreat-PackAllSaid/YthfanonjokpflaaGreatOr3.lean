/-
  Contracts of package order, third part: GetNum.
-/
import Derived.Test.YthfanonjokpflaaGreatOr2
set_option linter.unusedVariables false
namespace Go.Proofs.YthfanonjokpflaaGreat
open Go Go.RowKit

def numV (x : Nat × Int × Int) : Value := .tuple #[.int .u64 (x.1 : Nat), .int .i64 x.2.1, .int .i64 x.2.2]

theorem gnum_out (l : List UInt8) (i : Int) (h : i < 0 ∨ (l.length : Int) < i) : gnum l i = (0, 0, 1) := by
  unfold gnum; rw [if_pos h]
theorem gnum_end (l : List UInt8) : gnum l (l.length : Nat) = (0, 0, 8) := by
  unfold gnum
  rw [if_neg (by omega), Int.toNat_natCast, List.drop_length]
theorem gnum_at (l : List UInt8) (i : Nat) (h : i < l.length) : gnum l (i : Nat) =
    if 8 < l[i].toNat ∨ (0 < l[i].toNat ∧ l[i + 1]? = some 0) then ((0, 0, 6) : Nat × Int × Int) else if l.length - (i + 1) < l[i].toNat then (0, 0, 8) else (vl ((l.drop (i + 1)).take l[i].toNat), ((i + 1 + l[i].toNat : Nat) : Int), 0) := by
  unfold gnum
  rw [if_neg (by omega), Int.toNat_natCast, List.drop_eq_getElem_cons h]
  simp only [List.head?_drop, List.length_drop]

set_option maxHeartbeats 1000000 in
theorem getNum_out (A : Option Addr) (n c B : Nat) (l : List UInt8) (i : Int) (w : World) (h : Rd w B A n l) (hi : i < 0 ∨ (n : Int) < i) :
    Calls Tryz.prog 114 #[.slice A n c, .int .i64 i] w fun e w' => e = .returned (numV (gnum l i)) ∧ w = w' := by
  rw [gnum_out l i (by rw [h.1]; exact hi)]
  have hd : (decide (0 ≤ i) && decide (i ≤ n)) = false := by
    rcases hi with h1 | h1
    · rw [show decide (0 ≤ i) = false from by simp; omega]; rfl
    · rw [show decide (i ≤ (n : Int)) = false from by simp; omega, Bool.and_false]
  have HD := Lib.hid hd
  clear hd
  go_enter Tryz.func114, Tryz.ntmps114
  go_wp2_with fail
  refine (within_any A n c i _).mono ?_
  rintro e w1 ⟨rfl, rfl⟩
  rw [HD.out]
  go_wp2
  go_ret3
  exact ⟨rfl, rfl⟩

set_option maxHeartbeats 1000000 in
theorem getNum_end (A : Option Addr) (n c B : Nat) (l : List UInt8) (w : World) (h : Rd w B A n l) (hn : n ≤ 140737488355328) :
    Calls Tryz.prog 114 #[.slice A n c, .int .i64 (n : Nat)] w fun e w' => e = .returned (numV (gnum l (n : Nat))) ∧ w = w' := by
  have hg := gnum_end l
  rw [h.1] at hg
  rw [hg]
  clear hg
  have hd : (decide (0 ≤ (n : Int)) && decide ((n : Int) ≤ n)) = true := by simp
  have HD := Lib.hid hd
  clear hd
  have hb : ((n : Int) == n) = true := by simp
  go_enter Tryz.func114, Tryz.ntmps114
  go_wp2_with fail
  refine (within_any A n c _ _).mono ?_
  rintro e w1 ⟨rfl, rfl⟩
  rw [HD.out]
  go_wp2
  go_ret3
  exact ⟨rfl, rfl⟩

set_option maxHeartbeats 4000000 in
theorem getNum_in (A : Option Addr) (n c B : Nat) (l : List UInt8) (i : Nat) (w : World) (h : Rd w B A n l) (hi : i < n) (hn : n ≤ c) (hc : c ≤ maxLen) (hs : n ≤ 70368744177664) :
    Calls Tryz.prog 114 #[.slice A n c, .int .i64 (i : Nat)] w fun e w' => e = .returned (numV (gnum l (i : Nat))) ∧ w = w' := by
  unfold maxLen at hc
  have hl := h.1
  have hil : i < l.length := by omega
  have hg := gnum_at l i hil
  obtain ⟨g, o, rfl, _, hcell⟩ := h.at2 hi
  have hc0 := hcell i hil
  obtain ⟨b, hbe⟩ : ∃ b : Nat, l[i].toNat = b := ⟨_, rfl⟩
  have hb255 : b < 256 := by rw [← hbe]; exact l[i].toNat_lt
  rw [hbe] at hg hc0
  have hd : (decide (0 ≤ (i : Int)) && decide ((i : Int) ≤ n)) = true := by simp; omega
  have HD := Lib.hid hd
  have HL := Lib.hid hl
  have HBE := Lib.hid hbe
  have HC := Lib.hid hcell
  clear hd hl hbe hcell
  have hin : ((i : Int) == n) = false := by simp; omega
  have w1 : IntKind.i64.wrap ((i : Int) + 1) = (i : Int) + 1 := IntWalk.i64_in _ (by omega)
  by_cases h8 : 8 < b
  · rw [if_pos (Or.inl h8)] at hg
    rw [hg]
    clear hg
    have t1 : decide ((8 : Int) < b) = true := by simp; omega
    go_enter Tryz.func114, Tryz.ntmps114
    go_wp2_with fail
    refine (within_any _ n c _ _).mono ?_
    rintro e w1 ⟨rfl, rfl⟩
    rw [HD.out]
    go_wp2
    go_ret3
    exact ⟨rfl, rfl⟩
  have t1 : decide ((8 : Int) < b) = false := by simp; omega
  by_cases h0 : b = 0
  · subst h0
    rw [if_neg (by omega), if_neg (by omega)] at hg
    rw [hg]
    clear hg
    have t2 : decide ((0 : Int) < ((0 : Nat) : Int)) = false := by simp
    have hr : Rd w B (if i + 1 = i + 1 then some ⟨g, o, none⟩ else (some (⟨g, o, none⟩ : Addr)).map (·.add (i + 1))) (i + 1 - (i + 1)) ((l.take (i + 1)).drop (i + 1)) := h.cut (Nat.le_refl _) (by omega) (Nat.le_refl _)
    rw [if_pos rfl, Nat.sub_self, show (l.take (i + 1)).drop (i + 1) = [] from List.drop_of_length_le (by rw [List.length_take]; omega)] at hr
    go_enter Tryz.func114, Tryz.ntmps114
    go_wp2_with fail
    refine (within_any _ n c _ _).mono ?_
    rintro e w1 ⟨rfl, rfl⟩
    rw [HD.out]
    go_wp2_with fail
    refine (get_any _ 0 _ B [] _ hr (by omega)).mono ?_
    rintro e w1 ⟨rfl, rfl⟩
    go_wp2
    go_ret3
    refine ⟨?_, rfl⟩
    simp [numV, vl, vlF]
  have t2 : decide ((0 : Int) < b) = true := by simp; omega
  by_cases hlast : i + 1 = n
  · rw [if_neg (by
      rintro (h1 | ⟨_, h1⟩)
      · omega
      · rw [List.getElem?_eq_none (by have := HL.out; omega)] at h1; cases h1), if_pos (by have := HL.out; omega)] at hg
    rw [hg]
    clear hg
    have t3 : decide ((i : Int) + 1 < n) = false := by simp; omega
    have t4 : decide ((n : Int) - ((i : Int) + 1) < b) = true := by simp; omega
    have w2 : IntKind.i64.wrap ((n : Int) - ((i : Int) + 1)) = (n : Int) - ((i : Int) + 1) := IntWalk.i64_in _ (by omega)
    have h5 : i + 1 ≤ n := by omega
    have HLA := Lib.hid hlast
    clear hlast
    go_enter Tryz.func114, Tryz.ntmps114
    go_wp2_with fail
    refine (within_any _ n c _ _).mono ?_
    rintro e w1 ⟨rfl, rfl⟩
    rw [HD.out]
    go_wp2
    go_ret3
    exact ⟨rfl, rfl⟩
  have hi2 : i + 1 < l.length := by have := HL.out; omega
  have hc1 := HC.out (i + 1) hi2
  have t3 : decide ((i : Int) + 1 < n) = true := by simp; omega
  by_cases hz : l[i + 1] = 0
  · rw [if_pos (Or.inr ⟨by omega, by rw [List.getElem?_eq_getElem hi2, hz]⟩)] at hg
    rw [hg]
    clear hg
    rw [hz] at hc1
    go_enter Tryz.func114, Tryz.ntmps114
    go_wp2_with fail
    refine (within_any _ n c _ _).mono ?_
    rintro e w1 ⟨rfl, rfl⟩
    rw [HD.out]
    go_wp2
    go_ret3
    exact ⟨rfl, rfl⟩
  have hz2 : ((l[i + 1].toNat : Int) == 0) = false := by
    rw [beq_eq_false_iff_ne]
    intro h1
    exact hz (UInt8.toNat_inj.1 (by rw [show l[i + 1].toNat = 0 from by omega]; rfl))
  have hif : ¬ (8 < b ∨ (0 < b ∧ l[i + 1]? = some 0)) := by
    rintro (h1 | ⟨_, h1⟩)
    · omega
    · rw [List.getElem?_eq_getElem hi2] at h1
      exact hz (Option.some.inj h1)
  rw [if_neg hif] at hg
  clear hif
  have w2 : IntKind.i64.wrap ((n : Int) - ((i : Int) + 1)) = (n : Int) - ((i : Int) + 1) := IntWalk.i64_in _ (by omega)
  by_cases hsh : n - (i + 1) < b
  · rw [if_pos (by rw [HL.out]; exact hsh)] at hg
    rw [hg]
    clear hg
    have HZ := Lib.hid hz
    clear hz
    have t4 : decide ((n : Int) - ((i : Int) + 1) < b) = true := by simp; omega
    go_enter Tryz.func114, Tryz.ntmps114
    go_wp2_with fail
    refine (within_any _ n c _ _).mono ?_
    rintro e w1 ⟨rfl, rfl⟩
    rw [HD.out]
    go_wp2
    go_ret3
    exact ⟨rfl, rfl⟩
  · rw [if_neg (by rw [HL.out]; exact hsh)] at hg
    rw [hg]
    clear hg
    have HZ := Lib.hid hz
    clear hz
    have t4 : decide ((n : Int) - ((i : Int) + 1) < b) = false := by simp; omega
    have hr : Rd w B (if i + 1 + b = i + 1 then some ⟨g, o, none⟩ else (some (⟨g, o, none⟩ : Addr)).map (·.add (i + 1))) (i + 1 + b - (i + 1)) ((l.take (i + 1 + b)).drop (i + 1)) := h.cut (by omega) (by omega) (Nat.le_refl _)
    rw [if_neg (by omega), Nat.add_sub_cancel_left, List.drop_take, Nat.add_sub_cancel_left, Option.map_some, Addr.add_lit] at hr
    go_enter Tryz.func114, Tryz.ntmps114
    go_wp2_with fail
    refine (within_any _ n c _ _).mono ?_
    rintro e w1 ⟨rfl, rfl⟩
    rw [HD.out]
    go_wp2_with fail
    refine (get_any _ b _ B _ _ hr (by omega)).mono ?_
    rintro e w1 ⟨rfl, rfl⟩
    go_wp2
    go_ret3
    refine ⟨?_, rfl⟩
    simp [numV]
/-- GetNum, at any place of any bytes. -/
theorem getNum_any (A : Option Addr) (n c B : Nat) (l : List UInt8) (i : Int) (w : World) (h : Rd w B A n l) (hn : n ≤ c) (hc : c ≤ maxLen) (hs : n ≤ 70368744177664) :
    Calls Tryz.prog 114 #[.slice A n c, .int .i64 i] w fun e w' => e = .returned (numV (gnum l i)) ∧ w = w' := by
  by_cases ho : i < 0 ∨ (n : Int) < i
  · exact getNum_out A n c B l i w h ho
  · obtain ⟨k, rfl⟩ : ∃ k : Nat, i = (k : Nat) := ⟨i.toNat, by omega⟩
    by_cases hk : k = n
    · subst hk
      exact getNum_end A k c B l w h (by omega)
    · exact getNum_in A n c B l k w h (by omega) hn hc hs
end Go.Proofs.YthfanonjokpflaaGreat
