/-
  The walk of ShelfTurns.
-/
import Derived.Test.YtjfkfiaheohhcaaMy
import Derived.Laws.IdiomStrings
import Derived.WalkSpells
import Derived.WalkArith
set_option linter.unusedVariables false
set_option linter.unusedSimpArgs false
namespace Go.Proofs.Ytjfkfiaheohhcaa
open Go Go.RowKit

theorem wfI {x : Int} (h1 : -9223372036854775808 ≤ x) (h2 : x ≤ 9223372036854775807) : (Lit.int .i64 x).wf = true := by
  exact WalkArith.wf_i64 ⟨h1, h2⟩

set_option maxRecDepth 100000 in
set_option maxHeartbeats 4000000 in
theorem turns_law (a b : ByteArray) (n : Int) (w : World) (ha : a.size ≤ maxLen) (hb : b.size ≤ maxLen) (hn : (Lit.int .i64 n).wf = true) :
    Calls Try.prog 6 #[.string a, .string b, .int .i64 n] w fun e w' => e = .returned (.bool true) ∧ Below w.heap.size w w' := by
  by_cases h1 : 500 < a.size
  · have d1 : decide ((500 : Int) < (a.size : Nat)) = true := by simp; omega
    go_enter Try.func6, Try.ntmps6
    go_wp2_with (go_at_call 9; refine (awake_any _).mono ?_; rintro e w1 ⟨rfl, b1⟩)
    go_ret
    exact ⟨rfl, b1⟩
  by_cases h2 : 500 < b.size
  · have d1 : decide ((500 : Int) < (a.size : Nat)) = false := by simp; omega
    have d2 : decide ((500 : Int) < (b.size : Nat)) = true := by simp; omega
    go_enter Try.func6, Try.ntmps6
    go_wp2_with (go_at_call 9; refine (awake_any _).mono ?_; rintro e w1 ⟨rfl, b1⟩)
    go_ret
    exact ⟨rfl, b1⟩
  have d1 : decide ((500 : Int) < (a.size : Nat)) = false := by simp; omega
  have d2 : decide ((500 : Int) < (b.size : Nat)) = false := by simp; omega
  obtain ⟨nl, nh⟩ := bounds_i64 hn
  obtain ⟨x, hx⟩ : ∃ x : Nat, n % 100 = x := ⟨(n % 100).toNat, by omega⟩
  have hx100 : x < 100 := by omega
  obtain ⟨A, hA⟩ : ∃ A, a.data.toList = A := ⟨_, rfl⟩
  have hal : A.length = a.size := by rw [← hA]; exact (Lib.size_eq a).symm
  -- the great text
  obtain ⟨N, hN⟩ : ∃ N : Nat, N = 262145 := ⟨_, rfl⟩
  obtain ⟨big, hbig⟩ : ∃ big : ByteArray, (⟨(List.replicate N 0).toArray⟩ : ByteArray) = big := ⟨_, rfl⟩
  have hbs : big.size = N := by rw [← hbig, Lib.size_eq]; simp
  obtain ⟨CS, hCS⟩ : ∃ CS, madeCells (Value.int .u8 0).cells (N * 1) = CS := ⟨_, rfl⟩
  have hmk : ∀ wx : World, (Instr.makeSlice 48 (.int .i64 262145) (.int .i64 262145)).run Try.prog wx = .ok (.slice (some ⟨wx.heap.size, 0, none⟩) N N) (wx.alloc (.cells CS 5)) := fun wx => by
    have h := run_makeB wx N (by omega)
    have e : ((N : Nat) : Int) = 262145 := by omega
    rw [e, hCS] at h
    exact h
  have hcv : ∀ wx : World, (convert 48 9 (.slice (some ⟨wx.heap.size, 0, none⟩) N N)).run Try.prog (wx.alloc (.cells CS 5)) = .ok (.string big) (wx.alloc (.cells CS 5)) := fun wx => by
    rw [← hbig, ← hCS]
    exact cv_string (made_rd wx N) N
  have e1 : Sh.new.app a = (⟨A, 0, [], ⟨#[]⟩⟩, 0) := by
    unfold Sh.app
    rw [if_neg (by simp [Sh.new]; omega), hA]
    rfl
  have e2 : (⟨A, 0, [], ⟨#[]⟩⟩ : Sh).put (1 + (x : Nat)) b = (⟨A, 0, [(1 + (x : Nat), b)], ⟨#[]⟩⟩, 0) := by
    unfold Sh.put
    rw [if_neg (by simp [hasF]; omega), if_neg (by simp; omega)]
    rfl
  have e3 : (⟨A, 0, [(1 + (x : Nat), b)], ⟨#[]⟩⟩ : Sh).put (1 + (x : Nat)) a = (⟨A, 0, [(1 + (x : Nat), b)], ⟨#[]⟩⟩, 1) := by
    unfold Sh.put
    rw [if_pos (by simp [hasF])]
  have e4 : (⟨A, 0, [(1 + (x : Nat), b)], ⟨#[]⟩⟩ : Sh).put 0 a = (⟨A, 0, [(1 + (x : Nat), b)], ⟨#[]⟩⟩, 1) := by
    unfold Sh.put
    rw [if_pos (by simp)]
  have e5 : (⟨A, 0, [(1 + (x : Nat), b)], ⟨#[]⟩⟩ : Sh).turn b = (⟨[], 0, [(1 + (x : Nat), b)], b⟩, 0) := by
    unfold Sh.turn
    rw [if_neg (by omega)]
  have e6 : getF [((1 : Int) + (x : Nat), b)] (1 + (x : Nat)) = b := by simp [getF]
  have e6' : (if hasF [((1 : Int) + (x : Nat), b)] (1 + (x : Nat)) = true then (0 : Int) else 9) = 0 := by simp [hasF]
  have hno : hasF [((1 : Int) + (x : Nat), b)] (1 + (x : Nat) + 1) = false := by simp [hasF]; omega
  have e7' : (if hasF [((1 : Int) + (x : Nat), b)] (1 + (x : Nat) + 1) = true then (0 : Int) else 9) = 9 := by rw [hno]; rfl
  have e8 : (⟨[], 0, [(1 + (x : Nat), b)], b⟩ : Sh).drop (1 + (x : Nat)) = ⟨[], 0, [], b⟩ := by simp [Sh.drop, delF]
  have e8' : hasF [((1 : Int) + (x : Nat), b)] (1 + (x : Nat)) = true := by simp [hasF]
  have e10 : Sh.new.turn big = (Sh.new, 2) := by
    unfold Sh.turn
    rw [if_pos (by omega)]
  have hw1 := wfI (x := 1 + (x : Nat)) (by omega) (by omega)
  have hw2 := wfI (x := 1 + (x : Nat) + 1) (by omega) (by omega)
  have E1 := Lib.hid e1; have E2 := Lib.hid e2; have E3 := Lib.hid e3; have E4 := Lib.hid e4; have E5 := Lib.hid e5; have E6 := Lib.hid e6; have E6' := Lib.hid e6'; have E7' := Lib.hid e7'; have E7 := Lib.hid hno
  have E8 := Lib.hid e8; have E8' := Lib.hid e8'; have E10 := Lib.hid e10; have HX := Lib.hid hx; have HW1 := Lib.hid hw1; have HW2 := Lib.hid hw2; have HA := Lib.hid hA; have HBS := Lib.hid hbs; have HN := Lib.hid hN
  clear hCS e1 e2 e3 e4 e5 e6 e6' hno e7' e8 e8' e10 hx hw1 hw2 hA hbs hN hbig hn
  go_enter Try.func6, Try.ntmps6
  go_wp2_with fail
  refine (new_my w _ (Below.refl _ _)).mono ?_
  rintro e w1 ⟨p, F, rfl, m1, _⟩
  go_wp2_with fail
  refine (place_any n 100 _ (by omega) (by omega) ⟨nl, nh⟩).mono ?_
  rintro e w2 ⟨rfl, rfl⟩
  rw [HX.out]
  go_wp2_with fail
  refine (append_my m1 a (by omega) _ _ E1.out).mono ?_
  rintro e w3 ⟨rfl, F3, m3, _⟩
  go_wp2_with fail
  refine (put_my m3 _ b HW1.out (by omega) _ _ E2.out).mono ?_
  rintro e w4 ⟨rfl, m4, _⟩
  go_wp2_with fail
  refine (put_my m4 _ a HW1.out (by omega) _ _ E3.out).mono ?_
  rintro e w5 ⟨rfl, m5, _⟩
  go_wp2_with fail
  refine (put_my m5 0 a (by decide) (by omega) _ _ E4.out).mono ?_
  rintro e w6 ⟨rfl, m6, _⟩
  go_wp2_with fail
  refine (copy_my m6).mono ?_
  rintro e w7 ⟨q, G, rfl, m7, t7, off7, _⟩
  go_wp2_with fail
  refine (turn_my m7 b (by omega) _ _ E5.out).mono ?_
  rintro e w8 ⟨rfl, m8, st8⟩
  have t8 := t7.beside m7 st8 off7
  go_wp2_with fail
  refine (log_my t8 a HA.out).mono ?_
  rintro e w9 ⟨rfl, rfl⟩
  go_wp2_with fail
  refine (man_my t8 ⟨#[]⟩ rfl).mono ?_
  rintro e w9 ⟨rfl, rfl⟩
  go_wp2_with fail
  refine (log_my m8 ⟨#[]⟩ rfl).mono ?_
  rintro e w9 ⟨rfl, rfl⟩
  go_wp2_with fail
  refine (man_my m8 b rfl).mono ?_
  rintro e w9 ⟨rfl, rfl⟩
  go_wp2_with fail
  refine (unsynced_my m8 0 rfl).mono ?_
  rintro e w9 ⟨rfl, b9⟩
  have m9 := m8.read b9
  have t9 := t8.read b9
  go_wp2_with fail
  refine (get_my m9 _ HW1.out b 0 E6.out E6'.out).mono ?_
  rintro e w10 ⟨rfl, b10⟩
  have m10 := m9.read b10
  have t10 := t9.read b10
  go_wp2_with fail
  refine (get_my m10 _ HW2.out ⟨#[]⟩ 9 (getF_none E7.out) E7'.out).mono ?_
  rintro e w11 ⟨rfl, b11⟩
  have m11 := m10.read b11
  have t11 := t10.read b11
  go_wp2_with fail
  refine (drop_my m11 _ HW1.out _ true E8.out E8'.out).mono ?_
  rintro e w12 ⟨rfl, m12, st12⟩
  have t12 := t11.beside m11 st12 off7
  go_wp2_with fail
  refine (drop_my m12 _ HW1.out ⟨[], 0, [], b⟩ false rfl rfl).mono ?_
  rintro e w13 ⟨rfl, m13, st13⟩
  have t13 := t12.beside m12 st13 off7
  go_wp2_with fail
  refine (nums_my t13 1 rfl).mono ?_
  rintro e w14 ⟨A14, c14, rfl, _, b14⟩
  have m14 := m13.read b14
  go_wp2_with fail
  refine (wipe_my m14).mono ?_
  rintro e w15 ⟨rfl, F15, m15, _⟩
  go_wp2_with fail
  refine (man_my m15 ⟨#[]⟩ rfl).mono ?_
  rintro e w16 ⟨rfl, rfl⟩
  go_wp2_with fail
  refine (nums_my m15 0 rfl).mono ?_
  rintro e w17 ⟨A17, c17, rfl, _, b17⟩
  have m17 := m15.read b17
  have hz17 := (Below.refl w17.heap.size w17).alloc (Nat.le_refl _) (.cells CS 5)
  have m18 := m17.read hz17
  have HM := Lib.hid m18
  clear hz17 m18
  go_wp2_with fail
  refine (turn_my HM.out big (by have := HBS.out; have := HN.out; omega) _ _ E10.out).mono ?_
  rintro e w19 ⟨rfl, m19, _⟩
  go_wp2_with fail
  refine (awake_any _).mono ?_
  rintro e w20 ⟨rfl, b20⟩
  go_wp2
  go_ret
  exact ⟨rfl, m19.below.trans (b20.mono m19.below.size)⟩
end Go.Proofs.Ytjfkfiaheohhcaa
