/-
  The contracts of package token in the forms that the laws ask.
-/
import Derived.Test.YtcihgnkmikhboaaTkB
import Derived.Test.YtcihgnkmikhboaaStr
set_option linter.unusedVariables false
set_option linter.unusedSimpArgs false
namespace Go.Proofs.Ytcihgnkmikhboaa
open Go Go.RowKit

theorem bytes_as (t : Int) (q : ByteArray) (w : World) (h : q.data.toList = be (tcut t) 4) :
    Calls Try.prog 29 #[.int .i64 t] w fun e w' => e = .returned (.string q) ∧ Below w.heap.size w w' := by
  refine (bytes_any t w).mono ?_
  rintro e w' ⟨s, he, hs, hb⟩
  exact ⟨by rw [he, ba_ext (hs.trans h.symm)], hb⟩
theorem of_as (s : ByteArray) (v : Nat) (w : World) (hs : s.size ≤ maxLen) (h : tgo 1 s.data.toList = v) :
    Calls Try.prog 30 #[.string s] w fun e w' => e = .returned (.int .i64 (v : Nat)) ∧ Below w.heap.size w w' := by
  rw [← h]
  exact of_any s w hs
theorem more_as (t : Int) (s : ByteArray) (v : Nat) (w : World) (hs : s.size ≤ maxLen) (h : tgo (tcut t) s.data.toList = v) :
    Calls Try.prog 34 #[.int .i64 t, .string s] w fun e w' => e = .returned (.int .i64 (v : Nat)) ∧ Below w.heap.size w w' := by
  rw [← h]
  exact more_any t s w hs

theorem of_int (s : ByteArray) (v : Int) (w : World) (hs : s.size ≤ maxLen) (h : v = (tgo 1 s.data.toList : Nat)) :
    Calls Try.prog 30 #[.string s] w fun e w' => e = .returned (.int .i64 v) ∧ Below w.heap.size w w' := by
  rw [h]
  exact of_any s w hs
theorem more_int (t : Int) (s : ByteArray) (v : Int) (w : World) (hs : s.size ≤ maxLen) (h : v = (tgo (tcut t) s.data.toList : Nat)) :
    Calls Try.prog 34 #[.int .i64 t, .string s] w fun e w' => e = .returned (.int .i64 v) ∧ Below w.heap.size w w' := by
  rw [h]
  exact more_any t s w hs
theorem cv_as {w : World} {B n : Nat} {A : Option Addr} {l : List UInt8} (h : Rd w B A n l) (c : Nat) (q : ByteArray) (hq : q.data.toList = l) :
    (convert 22 9 (.slice A n c)).run Try.prog w = .ok (.string q) w := by
  rw [cv_string h c, mk_eq l q hq]
end Go.Proofs.Ytcihgnkmikhboaa
