/-
  The document's own writing of numbers, texts, cells (chapter 9).
-/
import Derived.Test.YthfanonjokpflaaGreatKf
import Derived.Test.YthfanonjokpflaaGreatRr1
import Derived.Test.YthfanonjokpflaaGreatCeA
set_option linter.unusedVariables false
set_option linter.unusedSimpArgs false
namespace Go.Proofs.YthfanonjokpflaaGreat
open Go Go.RowKit

/-- Bytes as a text. -/
def bs (l : Bs) : ByteArray := ⟨l.toArray⟩
theorem bs_data (l : Bs) : (bs l).data.toList = l := rfl
theorem bs_size (l : Bs) : (bs l).size = l.length := rfl
theorem bs_of {q : ByteArray} {l : Bs} (h : q.data.toList = l) : q = bs l := ba_ext (by rw [h, bs_data])
theorem bs_add (a b : Bs) : bs a ++ bs b = bs (a ++ b) := bs_of (by rw [ByteArray.data_append, Array.toList_append, bs_data, bs_data])
theorem add_bs {a b c : Bs} (hc : a ++ b = c) (h : c.length ≤ 1000000000000) (wx : World) : (Op.stringOp .add (bs a) (bs b)).run Tryz.prog wx = .ok (.string (bs c)) wx := by
  subst hc
  rw [List.length_append] at h
  rw [run_string_add_sum wx _ _ (by rw [bs_size, bs_size]; omega), bs_add]
theorem add_bs' {a c : Bs} {q : ByteArray} (hc : a ++ q.data.toList = c) (h : c.length ≤ 1000000000000) (wx : World) : (Op.stringOp .add (bs a) q).run Tryz.prog wx = .ok (.string (bs c)) wx := by
  rw [bs_of (q := q) rfl]
  exact add_bs hc h wx
theorem rnum9 (n : Nat) (w : World) (hn : n ≤ 1000000000000000) : Calls Tryz.prog 33 #[.int .i64 n] w fun e w' => e = .returned (.string (bs (numL n))) ∧ Below w.heap.size w w' := by
  have hw : IntKind.u64.wrap (n : Int) = (n : Int) := by rw [IntKind.wrap_u64]; omega
  go_enter Tryz.func33, Tryz.ntmps33
  go_wp2_with fail
  refine (rnum_any n _ (by omega)).mono ?_
  rintro e w1 ⟨q, rfl, hq, b1⟩
  obtain rfl := bs_of hq
  go_wp2
  go_ret
  exact ⟨rfl, b1⟩
theorem rnum9i (v : Int) (w : World) (h : Stm v) : Calls Tryz.prog 33 #[.int .i64 v] w fun e w' => e = .returned (.string (bs (numL v.toNat))) ∧ Below w.heap.size w w' := by
  obtain ⟨n, rfl⟩ : ∃ n : Nat, v = n := ⟨v.toNat, by have := h.1; omega⟩
  exact rnum9 n w (by have := h.2; omega)
theorem rtext9 (s : ByteArray) (w : World) (hs : s.size ≤ 1000000000) : Calls Tryz.prog 34 #[.string s] w fun e w' => e = .returned (.string (bs (tE s))) ∧ Below w.heap.size w w' := by
  have hadd := fun wx => add_bs' (a := numL s.size) (q := s) (c := tE s) rfl (by unfold tE; rw [List.length_append]; have := numL_le (v := s.size) (by omega); have e : s.data.toList.length = s.size := rfl; omega) wx
  go_enter Tryz.func34, Tryz.ntmps34
  go_wp2_with fail
  refine (rnum9 s.size _ (by omega)).mono ?_
  rintro e w1 ⟨rfl, b1⟩
  go_wp2
  go_ret
  exact ⟨rfl, b1⟩
end Go.Proofs.YthfanonjokpflaaGreat
