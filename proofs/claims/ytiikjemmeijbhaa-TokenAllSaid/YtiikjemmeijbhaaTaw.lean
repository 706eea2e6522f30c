/-
  The example of layer 3: awake; the contracts in the forms that the laws ask.
-/
import Derived.Test.YtiikjemmeijbhaaTk2
import Derived.Test.YtiikjemmeijbhaaStr
set_option linter.unusedVariables false
set_option linter.unusedSimpArgs false
namespace Go.Proofs.Ytiikjemmeijbhaa
open Go Go.RowKit

theorem bytes_as (t : Int) (q : ByteArray) (w : World) (h : q.data.toList = be (tcut t) 4) :
    Calls Try.prog 14 #[.int .i64 t] w fun e w' => e = .returned (.string q) ∧ Below w.heap.size w w' := by
  refine (bytes_any t w).mono ?_
  rintro e w' ⟨s, he, hs, hb⟩
  exact ⟨by rw [he, ba_ext (hs.trans h.symm)], hb⟩
theorem of_as (s : ByteArray) (v : Nat) (w : World) (hs : s.size ≤ maxLen) (h : tgo 1 s.data.toList = v) :
    Calls Try.prog 10 #[.string s] w fun e w' => e = .returned (.int .i64 (v : Nat)) ∧ Below w.heap.size w w' := by
  rw [← h]
  exact of_any s w hs
theorem more_as (t : Int) (s : ByteArray) (v : Nat) (w : World) (hs : s.size ≤ maxLen) (h : tgo (tcut t) s.data.toList = v) :
    Calls Try.prog 12 #[.int .i64 t, .string s] w fun e w' => e = .returned (.int .i64 (v : Nat)) ∧ Below w.heap.size w w' := by
  rw [← h]
  exact more_any t s w hs

theorem of_int (s : ByteArray) (v : Int) (w : World) (hs : s.size ≤ maxLen) (h : v = (tgo 1 s.data.toList : Nat)) :
    Calls Try.prog 10 #[.string s] w fun e w' => e = .returned (.int .i64 v) ∧ Below w.heap.size w w' := by
  rw [h]
  exact of_any s w hs
theorem more_int (t : Int) (s : ByteArray) (v : Int) (w : World) (hs : s.size ≤ maxLen) (h : v = (tgo (tcut t) s.data.toList : Nat)) :
    Calls Try.prog 12 #[.int .i64 t, .string s] w fun e w' => e = .returned (.int .i64 v) ∧ Below w.heap.size w w' := by
  rw [h]
  exact more_any t s w hs
theorem number_int (s : ByteArray) (v : Int) (n : Nat) (b : Bool) (w : World) (hs : s.size ≤ maxLen) (h : tnum s.data.toList = (n, b)) (hv : v = (n : Nat)) :
    Calls Try.prog 8 #[.string s] w fun e w' => e = .returned (.tuple #[.int .i64 v, .bool b]) ∧ w = w' := by
  rw [hv]
  exact number_as s n b w hs h

theorem cv_as {w : World} {B n : Nat} {A : Option Addr} {l : List UInt8} (h : Rd w B A n l) (c : Nat) (q : ByteArray) (hq : q.data.toList = l) :
    (convert 30 9 (.slice A n c)).run Try.prog w = .ok (.string q) w := by
  rw [cv_string h c, mk_eq l q hq]

set_option maxHeartbeats 800000 in
theorem awake_any (w : World) :
    Calls Try.prog 7 #[] w fun e w' => e = .returned (.bool true) ∧ Below w.heap.size w w' := by
  go_enter Try.func7, Try.ntmps7
  go_wp2_with fail
  refine (of_as ⟨#[]⟩ 1 _ (by decide) rfl).mono ?_
  rintro e w1 ⟨rfl, b1⟩
  go_wp2_with fail
  refine (of_as ⟨#[97]⟩ 355 _ (by decide) rfl).mono ?_
  rintro e w2 ⟨rfl, b2⟩
  go_wp2
  go_ret
  exact ⟨rfl, b1.trans (b2.mono b1.size)⟩
end Go.Proofs.Ytiikjemmeijbhaa
