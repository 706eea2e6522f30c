/-
  Numbers that are taken one by one (L): Next; a cell by numbers.
-/
import Derived.Test.YthfanonjokpflaaCeA
import Derived.Test.YthfanonjokpflaaKq
import Derived.Lib.SmallJoins
set_option linter.unusedVariables false
set_option linter.unusedSimpArgs false
namespace Go.Proofs.Ythfanonjokpflaa
open Go Go.RowKit

/-- The numbers left, at block q. -/
def LAt (w : World) (q : Nat) (A : Option Addr) (n c : Nat) : Prop := w.heap[q]? = some (.cells #[.slice A n c] 81 (0, 0))
theorem RdZ.cut {w : World} {B n c : Nat} {A : Option Addr} {l : List Int} (h : RdZ w B A n l) {k : Nat} (hk : k ≤ n) (hn : n ≤ c) : RdZ w B (if c = k then A else A.map (·.add k)) (n - k) (l.drop k) := by
  refine ⟨by rw [List.length_drop, h.1], fun h0 => ?_⟩
  obtain ⟨g, o, rfl, hb, hc⟩ := h.2 (by omega)
  rw [if_neg (by omega)]
  refine ⟨g, o + k, by rw [Option.map_some, Addr.add_lit], hb, fun j hj => ?_⟩
  rw [List.length_drop] at hj
  rw [Nat.add_assoc, hc (k + j) (by omega), List.getElem_drop]
theorem infoZ : (Try.prog.info? 3).map (fun i => (i.zero, i.size, i.bytes)) = some (some (.int .i64 0), 1, 8) := by kernel_rfl
theorem elemZ : Try.prog.elem 27 = 3 := by kernel_rfl
theorem slZ_l {w : World} {B n : Nat} {A : Option Addr} {l : List Int} (h : RdZ w B A n l) {c : Nat} (hn : n ≤ c) (x : Int) (lo : Nat) (ex : x = (lo : Nat)) (h1 : lo ≤ n) :
    ∃ A', (∀ wx : World, (Instr.slice 27 (.slice A n c) (some (.int .i64 x)) none none).run Try.prog wx = .ok (.slice A' (n - lo) (c - lo)) wx) ∧ RdZ w B A' (n - lo) (l.drop lo) := by
  refine ⟨if c = lo then A else A.map (·.add lo), fun wx => ?_, h.cut h1 hn⟩
  obtain ⟨i, hi', hz0, hz1, hz2⟩ := info_parts infoZ
  subst ex
  rw [run_slice_l (P := Try.prog) (t := 27) (ht := by rw [elemZ]; exact Try.underlying27) (h0 := by omega) (h1 := by omega), elemZ]
  simp [sizeOf, typeInfo, hi', hz1, sliced, Result.andThen]

set_option maxHeartbeats 2000000 in
theorem next_num (q n c B : Nat) (A : Option Addr) (x k : Int) (l : List Int) (w : World) (h : LAt w q A n c) (hr : RdZ w B A n (x :: l)) (hnc : n ≤ c) (hc : c ≤ maxLen) (hk1 : 1 ≤ k) (hk2 : k ≤ 4611686018427387904) (hx : -9223372036854775808 ≤ x ∧ x ≤ 9223372036854775807) :
    Calls Try.prog 64 #[.pointer (some ⟨q, 0, none⟩), .int .i64 k] w fun e w' => e = .returned (.int .i64 (x % k)) ∧ ∃ A', w' = w.setCell ⟨q, 0, none⟩ (.slice A' (n - 1) (c - 1)) ∧ RdZ w B A' (n - 1) l := by
  have hn : 0 < n := by have := hr.1; simp at this; omega
  obtain ⟨A', hsl, hr'⟩ := slZ_l hr hnc 1 1 rfl hn
  rw [List.drop_one, List.tail_cons] at hr'
  obtain ⟨g, o, rfl, _, hcl⟩ := hr.2 hn
  have c0 := hcl 0 (by simp)
  rw [Nat.add_zero, List.getElem_cons_zero] at c0
  have b0 : w.cell? ⟨q, 0, none⟩ = some (.slice (some ⟨g, o, none⟩) n c) := cell_at h rfl
  have f0 : w.frozen? ⟨q, 0, none⟩ = false := thawed_at h
  have n0 : ((n : Int) == 0) = false := by simp; omega
  have n1 : (0 : Int) < n := by omega
  have HR := Lib.hid hr'
  have HX := Lib.hid hx
  clear hr hr' hcl h hx
  go_enter Try.func64, Try.ntmps64
  go_wp2_with fail
  refine (place_any x k _ hk1 hk2 HX.out).mono ?_
  rintro e w1 ⟨rfl, rfl⟩
  go_wp2
  go_ret
  exact ⟨rfl, A', rfl, HR.out⟩
end Go.Proofs.Ythfanonjokpflaa
