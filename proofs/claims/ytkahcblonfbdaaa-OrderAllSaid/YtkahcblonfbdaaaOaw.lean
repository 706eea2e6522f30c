/-
  The example of layer 2: awake; the contracts in the forms that the laws ask.
-/
import Derived.Test.YtkahcblonfbdaaaOr4
import Derived.Test.YtkahcblonfbdaaaPlc
set_option linter.unusedVariables false
namespace Go.Proofs.Ytkahcblonfbdaaa
open Go Go.RowKit

theorem num_at (A : Option Addr) (n c v B : Nat) (x : Int) (l : List UInt8) (w : World) (hx : x = (v : Nat)) (h : Rd w B A n l) (hB : B ≤ w.heap.size) (hn : n ≤ c) (hc : c ≤ maxLen) (hsz : n ≤ 35184372088832) (hv : v < 18446744073709551616) :
    Calls Try.prog 9 #[.slice A n c, .int .u64 x] w (GivesB w (l ++ numL v)) := by
  rw [hx]
  exact num_any A n c v B l w h hB hn hc hsz hv
theorem cv_as {w : World} {B n : Nat} {A : Option Addr} {l : List UInt8} (h : Rd w B A n l) (c : Nat) (q : ByteArray) (hq : q.data.toList = l) :
    (convert 22 9 (.slice A n c)).run Try.prog w = .ok (.string q) w := by
  rw [cv_string h c, mk_eq l q hq]

theorem getNum_as (A : Option Addr) (n c B : Nat) (l : List UInt8) (i : Int) (x : Nat) (k e' : Int) (w : World) (hg : gnum l i = (x, k, e')) (h : Rd w B A n l) (hn : n ≤ c) (hc : c ≤ maxLen) (hs : n ≤ 70368744177664) :
    Calls Try.prog 15 #[.slice A n c, .int .i64 i] w fun e w' => e = .returned (.tuple #[.int .u64 (x : Nat), .int .i64 k, .int .i64 e']) ∧ w = w' := by
  have := getNum_any A n c B l i w h hn hc hs
  rw [hg] at this
  exact this
theorem getText_as (A : Option Addr) (n c B : Nat) (l : List UInt8) (i : Int) (q : ByteArray) (t : List UInt8) (k e' : Int) (w : World) (hg : gtxt l i = (t, k, e')) (hq : q.data.toList = t) (h : Rd w B A n l) (hB : B ≤ w.heap.size) (hn : n ≤ c) (hc : c ≤ maxLen) (hs : n ≤ 35184372088832) (hA : A = none → c = 0) :
    Calls Try.prog 17 #[.slice A n c, .int .i64 i] w fun e w' => e = .returned (.tuple #[.string q, .int .i64 k, .int .i64 e']) ∧ Below w.heap.size w w' := by
  refine (getText_any A n c B l i w h hB hn hc hs hA).mono ?_
  rintro e w' ⟨s, he, hs, hb⟩
  rw [hg] at he hs
  exact ⟨by rw [he, ba_ext (hs.trans hq.symm)], hb⟩

set_option maxHeartbeats 1600000 in
set_option maxRecDepth 100000 in
theorem awake_any (w : World) :
    Calls Try.prog 8 #[] w fun e w' => e = .returned (.bool true) ∧ Below w.heap.size w w' := by
  have h300 : ([] : List UInt8) ++ numL 300 = [2, 1, 44] := by decide
  have ha : ([] : List UInt8) ++ txtL [97] = [97, 0, 1] := by decide
  have hi : intL 0 = [128, 0, 0, 0, 0, 0, 0, 0] := by decide
  have H3 := Lib.hid h300
  have HA := Lib.hid ha
  have HI := Lib.hid hi
  clear h300 ha hi
  go_enter Try.func8, Try.ntmps8
  go_wp2_with fail
  refine (num_at none 0 0 300 0 300 [] _ rfl (Rd.nil _ _) (Nat.zero_le _) (Nat.le_refl _) (by simp [maxLen]) (by omega) (by omega)).mono ?_
  rintro e w1 ⟨A, n, c, rfl, hl, hn, hc, hA, hr, b1⟩
  have HLL := Lib.hid hl
  clear hl
  have hcv := cv_as hr c ⟨#[2, 1, 44]⟩ (by rw [H3.out])
  go_wp2_with fail
  refine (text_any none 0 0 0 [] ⟨#[97]⟩ _ (Rd.nil _ _) (Nat.zero_le _) (Nat.le_refl _) (by simp [maxLen]) (by omega) (by decide)).mono ?_
  rintro e w2 ⟨A2, n2, c2, rfl, hl2, hn2, hc2, hA2, hr2, b2⟩
  have HL2 := Lib.hid hl2
  clear hl2
  have hcv2 := cv_as hr2 c2 ⟨#[97, 0, 1]⟩ HA.out.symm
  go_wp2_with fail
  refine (int_any 0 _ (by omega) (by omega)).mono ?_
  rintro e w3 ⟨s, rfl, hs, b3⟩
  rw [HI.out] at hs
  have hse : s = ⟨#[128, 0, 0, 0, 0, 0, 0, 0]⟩ := ba_ext hs
  subst hse
  clear hs
  go_wp2
  go_ret
  exact ⟨rfl, b1.trans ((b2.mono b1.size).trans (b3.mono (Nat.le_trans b1.size b2.size)))⟩
end Go.Proofs.Ytkahcblonfbdaaa
