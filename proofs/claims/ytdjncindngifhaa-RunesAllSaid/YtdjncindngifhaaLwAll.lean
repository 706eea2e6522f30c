/-
  The walk of RunesAll.
-/
import Derived.Test.YtdjncindngifhaaRf7
set_option linter.unusedVariables false
namespace Go.Proofs.Ytdjncindngifhaa
open Go Go.RowKit

theorem valid_as' (s : ByteArray) (b : Bool) (w : World) (hs : s.size ≤ 1099511627776) (h : validB s = b) :
    Calls Try.prog 14 #[.string s] w fun e w' => e = .returned (.bool b) ∧ Below w.heap.size w w' := by
  have := valid_any s w hs
  rw [h] at this
  exact this
theorem rvalid_as (s : ByteArray) (b : Bool) (w : World) (hs : s.size ≤ 1099511627776) (h : validB s = b) :
    Calls Try.prog 15 #[.string s] w fun e w' => e = .returned (.bool b) ∧ Below w.heap.size w w' := by
  have := rvalid_any s w hs
  rw [h] at this
  exact this
theorem name_as' (s : ByteArray) (b : Bool) (w : World) (hs : s.size ≤ 1099511627776) (h : nameB s = b) :
    Calls Try.prog 22 #[.string s] w fun e w' => e = .returned (.bool b) ∧ Below w.heap.size w w' := by
  have := name_any s w hs
  rw [h] at this
  exact this
theorem rname_as (s : ByteArray) (b : Bool) (w : World) (hs : s.size ≤ 1099511627776) (h : nameB s = b) :
    Calls Try.prog 23 #[.string s] w fun e w' => e = .returned (.bool b) ∧ Below w.heap.size w w' := by
  have := rname_any s w hs
  rw [h] at this
  exact this
theorem count_as' (s : ByteArray) (n : Nat) (w : World) (hs : s.size ≤ 1099511627776) (h : (cps s).length = n) :
    Calls Try.prog 16 #[.string s] w fun e w' => e = .returned (.int .i64 (n : Nat)) ∧ Below w.heap.size w w' := by
  have := count_any s w hs
  rw [h] at this
  exact this
theorem rcount_as (s : ByteArray) (n : Nat) (w : World) (hs : s.size ≤ 1099511627776) (h : (cps s).length = n) :
    Calls Try.prog 17 #[.string s] w fun e w' => e = .returned (.int .i64 (n : Nat)) ∧ Below w.heap.size w w' := by
  have := rcount_any s w hs
  rw [h] at this
  exact this
theorem at_as' (s : ByteArray) (n : Int) (r p wd : Nat) (w : World) (hs : s.size ≤ 1099511627776) (h : atL (cps s) n = some (r, p, wd)) :
    Calls Try.prog 10 #[.string s, .int .i64 n] w fun e w' => e = .returned (.tuple #[.int .i32 (r : Nat), .int .i64 (p : Nat), .bool true]) ∧ Below w.heap.size w w' := by
  have := at_any s n w hs
  rw [h] at this
  exact this
theorem rat_as (s : ByteArray) (n : Int) (r p wd : Nat) (w : World) (hs : s.size ≤ 1099511627776) (h : atL (cps s) n = some (r, p, wd)) :
    Calls Try.prog 11 #[.string s, .int .i64 n] w fun e w' => e = .returned (.tuple #[.int .i32 (r : Nat), .int .i64 (p : Nat), .bool true]) ∧ Below w.heap.size w w' := by
  have := rat_any s n w hs
  rw [h] at this
  exact this
theorem at_nil' (s : ByteArray) (n : Int) (w : World) (hs : s.size ≤ 1099511627776) (h : atL (cps s) n = none) :
    Calls Try.prog 10 #[.string s, .int .i64 n] w fun e w' => e = .returned (.tuple #[.int .i32 0, .int .i64 0, .bool false]) ∧ Below w.heap.size w w' := by
  have := at_any s n w hs
  rw [h] at this
  exact this
theorem rat_nil (s : ByteArray) (n : Int) (w : World) (hs : s.size ≤ 1099511627776) (h : atL (cps s) n = none) :
    Calls Try.prog 11 #[.string s, .int .i64 n] w fun e w' => e = .returned (.tuple #[.int .i32 0, .int .i64 0, .bool false]) ∧ Below w.heap.size w w' := by
  have := rat_any s n w hs
  rw [h] at this
  exact this
theorem runquote_as (s t : ByteArray) (n : Int) (m : Nat) (w : World) (hs : s.size ≤ 1099511627776) (h : unquoteO s.data.toList n = some (t.data.toList, m)) :
    Calls Try.prog 13 #[.string s, .int .i64 n] w fun e w' => e = .returned (.tuple #[.string t, .int .i64 (m : Nat), .bool true]) ∧ Below w.heap.size w w' := by
  have := runquote_any s n w hs
  rw [h] at this
  exact this
theorem runquote_nil (s : ByteArray) (n : Int) (w : World) (hs : s.size ≤ 1099511627776) (h : unquoteO s.data.toList n = none) :
    Calls Try.prog 13 #[.string s, .int .i64 n] w fun e w' => e = .returned (.tuple #[.string ⟨#[]⟩, .int .i64 0, .bool false]) ∧ Below w.heap.size w w' := by
  have := runquote_any s n w hs
  rw [h] at this
  exact this
theorem rfold_as (s q : ByteArray) (w : World) (hs : s.size ≤ 1099511627776) (h : q.data.toList = foldL s.data.toList) :
    Calls Try.prog 19 #[.string s] w fun e w' => e = .returned (.string q) ∧ Below w.heap.size w w' := by
  have := rfold_any s w hs
  rw [mk_eq _ q h] at this
  exact this
theorem rquote_as (s q : ByteArray) (w : World) (hs : s.size ≤ 1099511627776) (h : q.data.toList = quoteL s.data.toList) :
    Calls Try.prog 21 #[.string s] w fun e w' => e = .returned (.string q) ∧ Below w.heap.size w w' := by
  have := rquote_any s w hs
  rw [mk_eq _ q h] at this
  exact this

set_option maxHeartbeats 8000000 in
set_option maxRecDepth 100000 in
theorem all_law (s : ByteArray) (n fr : Int) (w : World) (hs : s.size ≤ maxLen) (hn : (Lit.int .i64 n).wf = true) (hfr : (Lit.int .i64 fr).wf = true) :
    Calls Try.prog 3 #[.string s, .int .i64 n, .int .i64 fr] w fun e w' => e = .returned (.bool true) ∧ Below w.heap.size w w' := by
  clear hn hfr
  unfold maxLen at hs
  by_cases hbig : (1500 : Int) < s.size
  · go_enter Try.func3, Try.ntmps3
    go_wp2_with (go_at_call 9; refine (awake_any _).mono ?_; rintro e w' ⟨rfl, b1⟩)
    go_ret
    exact ⟨rfl, b1⟩
  obtain ⟨vb, hv⟩ : ∃ b, validB s = b := ⟨_, rfl⟩
  obtain ⟨nb, hn⟩ : ∃ b, nameB s = b := ⟨_, rfl⟩
  obtain ⟨cn, hc⟩ : ∃ b, (cps s).length = b := ⟨_, rfl⟩
  obtain ⟨fb, hf⟩ := mkb (foldL s.data.toList)
  obtain ⟨qb, hq⟩ := mkb (quoteL s.data.toList)
  have hcl : cn ≤ 1500 := by have := cps_length s; omega
  have HV := Lib.hid hv
  have HN := Lib.hid hn
  have HC := Lib.hid hc
  have HF := Lib.hid hf
  have HQ := Lib.hid hq
  clear hv hn hc hf hq
  have e1 : (vb == vb) = true := by cases vb <;> rfl
  have e2 : (nb == nb) = true := by cases nb <;> rfl
  have e3 : ((cn : Int) == cn) = true := by simp
  have e4 : (fb.toList == fb.toList) = true := by simp
  have e5 : (qb.toList == qb.toList) = true := by simp
  cases hat : atL (cps s) n with
  | some c =>
    obtain ⟨r, p, wd⟩ := c
    have HAT := Lib.hid hat
    clear hat
    have e6 : ((r : Int) == r) = true := by simp
    have e7 : ((p : Int) == p) = true := by simp
    cases hun : unquoteO s.data.toList fr with
    | some um =>
      obtain ⟨u, m⟩ := um
      obtain ⟨t, ht⟩ := mkb u
      rw [← ht] at hun
      have HUN := Lib.hid hun
      clear hun ht
      have e8 : ((m : Int) == m) = true := by simp
      have e9 : (t.toList == t.toList) = true := by simp
      go_enter Try.func3, Try.ntmps3
      go_wp2_with fail
      refine (at_as' s n r p wd _ (by omega) HAT.out).mono ?_
      rintro e w1 ⟨rfl, b1⟩
      go_wp2_with fail
      refine (rat_as s n r p wd _ (by omega) HAT.out).mono ?_
      rintro e w2 ⟨rfl, b2⟩
      have b2 := b1.trans (b2.mono b1.size)
      go_wp2_with fail
      refine (unquote_as s t fr m _ (by omega) HUN.out).mono ?_
      rintro e w3 ⟨rfl, b3⟩
      have b3 := b2.trans (b3.mono b2.size)
      go_wp2_with fail
      refine (runquote_as s t fr m _ (by omega) HUN.out).mono ?_
      rintro e w4 ⟨rfl, b4⟩
      have b4 := b3.trans (b4.mono b3.size)
      go_wp2_with fail
      refine (valid_as' s vb _ (by omega) HV.out).mono ?_
      rintro e w5 ⟨rfl, b5⟩
      have b5 := b4.trans (b5.mono b4.size)
      go_wp2_with fail
      refine (rvalid_as s vb _ (by omega) HV.out).mono ?_
      rintro e w6 ⟨rfl, b6⟩
      have b6 := b5.trans (b6.mono b5.size)
      go_wp2_with fail
      refine (count_as' s cn _ (by omega) HC.out).mono ?_
      rintro e w7 ⟨rfl, b7⟩
      have b7 := b6.trans (b7.mono b6.size)
      go_wp2_with fail
      refine (rcount_as s cn _ (by omega) HC.out).mono ?_
      rintro e w8 ⟨rfl, b8⟩
      have b8 := b7.trans (b8.mono b7.size)
      go_wp2_with fail
      refine (fold_as s fb _ (by omega) HF.out).mono ?_
      rintro e w9 ⟨rfl, b9⟩
      have b9 := b8.trans (b9.mono b8.size)
      go_wp2_with fail
      refine (rfold_as s fb _ (by omega) HF.out).mono ?_
      rintro e w10 ⟨rfl, b10⟩
      have b10 := b9.trans (b10.mono b9.size)
      go_wp2_with fail
      refine (quote_as s qb _ (by omega) HQ.out).mono ?_
      rintro e w11 ⟨rfl, b11⟩
      have b11 := b10.trans (b11.mono b10.size)
      go_wp2_with fail
      refine (rquote_as s qb _ (by omega) HQ.out).mono ?_
      rintro e w12 ⟨rfl, b12⟩
      have b12 := b11.trans (b12.mono b11.size)
      go_wp2_with fail
      refine (name_as' s nb _ (by omega) HN.out).mono ?_
      rintro e w13 ⟨rfl, b13⟩
      have b13 := b12.trans (b13.mono b12.size)
      go_wp2_with fail
      refine (rname_as s nb _ (by omega) HN.out).mono ?_
      rintro e w14 ⟨rfl, b14⟩
      have b14 := b13.trans (b14.mono b13.size)
      go_wp2_with fail
      refine (awake_any _).mono ?_
      rintro e w15 ⟨rfl, b15⟩
      have b15 := b14.trans (b15.mono b14.size)
      go_wp2
      go_ret
      exact ⟨rfl, b15⟩
    | none =>
      have HUN := Lib.hid hun
      clear hun
      go_enter Try.func3, Try.ntmps3
      go_wp2_with fail
      refine (at_as' s n r p wd _ (by omega) HAT.out).mono ?_
      rintro e w1 ⟨rfl, b1⟩
      go_wp2_with fail
      refine (rat_as s n r p wd _ (by omega) HAT.out).mono ?_
      rintro e w2 ⟨rfl, b2⟩
      have b2 := b1.trans (b2.mono b1.size)
      go_wp2_with fail
      refine (unquote_nil s fr _ (by omega) HUN.out).mono ?_
      rintro e w3 ⟨rfl, b3⟩
      have b3 := b2.trans (b3.mono b2.size)
      go_wp2_with fail
      refine (runquote_nil s fr _ (by omega) HUN.out).mono ?_
      rintro e w4 ⟨rfl, b4⟩
      have b4 := b3.trans (b4.mono b3.size)
      go_wp2_with fail
      refine (valid_as' s vb _ (by omega) HV.out).mono ?_
      rintro e w5 ⟨rfl, b5⟩
      have b5 := b4.trans (b5.mono b4.size)
      go_wp2_with fail
      refine (rvalid_as s vb _ (by omega) HV.out).mono ?_
      rintro e w6 ⟨rfl, b6⟩
      have b6 := b5.trans (b6.mono b5.size)
      go_wp2_with fail
      refine (count_as' s cn _ (by omega) HC.out).mono ?_
      rintro e w7 ⟨rfl, b7⟩
      have b7 := b6.trans (b7.mono b6.size)
      go_wp2_with fail
      refine (rcount_as s cn _ (by omega) HC.out).mono ?_
      rintro e w8 ⟨rfl, b8⟩
      have b8 := b7.trans (b8.mono b7.size)
      go_wp2_with fail
      refine (fold_as s fb _ (by omega) HF.out).mono ?_
      rintro e w9 ⟨rfl, b9⟩
      have b9 := b8.trans (b9.mono b8.size)
      go_wp2_with fail
      refine (rfold_as s fb _ (by omega) HF.out).mono ?_
      rintro e w10 ⟨rfl, b10⟩
      have b10 := b9.trans (b10.mono b9.size)
      go_wp2_with fail
      refine (quote_as s qb _ (by omega) HQ.out).mono ?_
      rintro e w11 ⟨rfl, b11⟩
      have b11 := b10.trans (b11.mono b10.size)
      go_wp2_with fail
      refine (rquote_as s qb _ (by omega) HQ.out).mono ?_
      rintro e w12 ⟨rfl, b12⟩
      have b12 := b11.trans (b12.mono b11.size)
      go_wp2_with fail
      refine (name_as' s nb _ (by omega) HN.out).mono ?_
      rintro e w13 ⟨rfl, b13⟩
      have b13 := b12.trans (b13.mono b12.size)
      go_wp2_with fail
      refine (rname_as s nb _ (by omega) HN.out).mono ?_
      rintro e w14 ⟨rfl, b14⟩
      have b14 := b13.trans (b14.mono b13.size)
      go_wp2_with fail
      refine (awake_any _).mono ?_
      rintro e w15 ⟨rfl, b15⟩
      have b15 := b14.trans (b15.mono b14.size)
      go_wp2
      go_ret
      exact ⟨rfl, b15⟩
  | none =>
    have HAT := Lib.hid hat
    clear hat
    cases hun : unquoteO s.data.toList fr with
    | some um =>
      obtain ⟨u, m⟩ := um
      obtain ⟨t, ht⟩ := mkb u
      rw [← ht] at hun
      have HUN := Lib.hid hun
      clear hun ht
      have e8 : ((m : Int) == m) = true := by simp
      have e9 : (t.toList == t.toList) = true := by simp
      go_enter Try.func3, Try.ntmps3
      go_wp2_with fail
      refine (at_nil' s n _ (by omega) HAT.out).mono ?_
      rintro e w1 ⟨rfl, b1⟩
      go_wp2_with fail
      refine (rat_nil s n _ (by omega) HAT.out).mono ?_
      rintro e w2 ⟨rfl, b2⟩
      have b2 := b1.trans (b2.mono b1.size)
      go_wp2_with fail
      refine (unquote_as s t fr m _ (by omega) HUN.out).mono ?_
      rintro e w3 ⟨rfl, b3⟩
      have b3 := b2.trans (b3.mono b2.size)
      go_wp2_with fail
      refine (runquote_as s t fr m _ (by omega) HUN.out).mono ?_
      rintro e w4 ⟨rfl, b4⟩
      have b4 := b3.trans (b4.mono b3.size)
      go_wp2_with fail
      refine (valid_as' s vb _ (by omega) HV.out).mono ?_
      rintro e w5 ⟨rfl, b5⟩
      have b5 := b4.trans (b5.mono b4.size)
      go_wp2_with fail
      refine (rvalid_as s vb _ (by omega) HV.out).mono ?_
      rintro e w6 ⟨rfl, b6⟩
      have b6 := b5.trans (b6.mono b5.size)
      go_wp2_with fail
      refine (count_as' s cn _ (by omega) HC.out).mono ?_
      rintro e w7 ⟨rfl, b7⟩
      have b7 := b6.trans (b7.mono b6.size)
      go_wp2_with fail
      refine (rcount_as s cn _ (by omega) HC.out).mono ?_
      rintro e w8 ⟨rfl, b8⟩
      have b8 := b7.trans (b8.mono b7.size)
      go_wp2_with fail
      refine (fold_as s fb _ (by omega) HF.out).mono ?_
      rintro e w9 ⟨rfl, b9⟩
      have b9 := b8.trans (b9.mono b8.size)
      go_wp2_with fail
      refine (rfold_as s fb _ (by omega) HF.out).mono ?_
      rintro e w10 ⟨rfl, b10⟩
      have b10 := b9.trans (b10.mono b9.size)
      go_wp2_with fail
      refine (quote_as s qb _ (by omega) HQ.out).mono ?_
      rintro e w11 ⟨rfl, b11⟩
      have b11 := b10.trans (b11.mono b10.size)
      go_wp2_with fail
      refine (rquote_as s qb _ (by omega) HQ.out).mono ?_
      rintro e w12 ⟨rfl, b12⟩
      have b12 := b11.trans (b12.mono b11.size)
      go_wp2_with fail
      refine (name_as' s nb _ (by omega) HN.out).mono ?_
      rintro e w13 ⟨rfl, b13⟩
      have b13 := b12.trans (b13.mono b12.size)
      go_wp2_with fail
      refine (rname_as s nb _ (by omega) HN.out).mono ?_
      rintro e w14 ⟨rfl, b14⟩
      have b14 := b13.trans (b14.mono b13.size)
      go_wp2_with fail
      refine (awake_any _).mono ?_
      rintro e w15 ⟨rfl, b15⟩
      have b15 := b14.trans (b15.mono b14.size)
      go_wp2
      go_ret
      exact ⟨rfl, b15⟩
    | none =>
      have HUN := Lib.hid hun
      clear hun
      go_enter Try.func3, Try.ntmps3
      go_wp2_with fail
      refine (at_nil' s n _ (by omega) HAT.out).mono ?_
      rintro e w1 ⟨rfl, b1⟩
      go_wp2_with fail
      refine (rat_nil s n _ (by omega) HAT.out).mono ?_
      rintro e w2 ⟨rfl, b2⟩
      have b2 := b1.trans (b2.mono b1.size)
      go_wp2_with fail
      refine (unquote_nil s fr _ (by omega) HUN.out).mono ?_
      rintro e w3 ⟨rfl, b3⟩
      have b3 := b2.trans (b3.mono b2.size)
      go_wp2_with fail
      refine (runquote_nil s fr _ (by omega) HUN.out).mono ?_
      rintro e w4 ⟨rfl, b4⟩
      have b4 := b3.trans (b4.mono b3.size)
      go_wp2_with fail
      refine (valid_as' s vb _ (by omega) HV.out).mono ?_
      rintro e w5 ⟨rfl, b5⟩
      have b5 := b4.trans (b5.mono b4.size)
      go_wp2_with fail
      refine (rvalid_as s vb _ (by omega) HV.out).mono ?_
      rintro e w6 ⟨rfl, b6⟩
      have b6 := b5.trans (b6.mono b5.size)
      go_wp2_with fail
      refine (count_as' s cn _ (by omega) HC.out).mono ?_
      rintro e w7 ⟨rfl, b7⟩
      have b7 := b6.trans (b7.mono b6.size)
      go_wp2_with fail
      refine (rcount_as s cn _ (by omega) HC.out).mono ?_
      rintro e w8 ⟨rfl, b8⟩
      have b8 := b7.trans (b8.mono b7.size)
      go_wp2_with fail
      refine (fold_as s fb _ (by omega) HF.out).mono ?_
      rintro e w9 ⟨rfl, b9⟩
      have b9 := b8.trans (b9.mono b8.size)
      go_wp2_with fail
      refine (rfold_as s fb _ (by omega) HF.out).mono ?_
      rintro e w10 ⟨rfl, b10⟩
      have b10 := b9.trans (b10.mono b9.size)
      go_wp2_with fail
      refine (quote_as s qb _ (by omega) HQ.out).mono ?_
      rintro e w11 ⟨rfl, b11⟩
      have b11 := b10.trans (b11.mono b10.size)
      go_wp2_with fail
      refine (rquote_as s qb _ (by omega) HQ.out).mono ?_
      rintro e w12 ⟨rfl, b12⟩
      have b12 := b11.trans (b12.mono b11.size)
      go_wp2_with fail
      refine (name_as' s nb _ (by omega) HN.out).mono ?_
      rintro e w13 ⟨rfl, b13⟩
      have b13 := b12.trans (b13.mono b12.size)
      go_wp2_with fail
      refine (rname_as s nb _ (by omega) HN.out).mono ?_
      rintro e w14 ⟨rfl, b14⟩
      have b14 := b13.trans (b14.mono b13.size)
      go_wp2_with fail
      refine (awake_any _).mono ?_
      rintro e w15 ⟨rfl, b15⟩
      have b15 := b14.trans (b15.mono b14.size)
      go_wp2
      go_ret
      exact ⟨rfl, b15⟩
end Go.Proofs.Ytdjncindngifhaa
