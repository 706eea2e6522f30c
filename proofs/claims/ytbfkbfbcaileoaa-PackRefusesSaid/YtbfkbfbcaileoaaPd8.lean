/-
  The developers' Check of a partition, whole.
-/
import Derived.Test.YtbfkbfbcaileoaaPd1
import Derived.Test.YtbfkbfbcaileoaaPd3
set_option linter.unusedVariables false
set_option linter.unusedSimpArgs false
namespace Go.Proofs.Ytbfkbfbcaileoaa
open Go Go.RowKit

set_option maxRecDepth 8000 in
set_option maxHeartbeats 4000000 in
theorem pcheck_any (k : ByteArray) (g : Int) (A : Option Addr) (n c B : Nat) (L : List RA) (w : World) (h : Lies w B A n c L) (hB : B ≤ w.heap.size) (hn : n ≤ 1000000000) (hf : FewR L) :
    Calls Try.prog 23 #[.agg #[.string k, .int .i64 g, .slice A n c]] w fun x w' => x = .returned (.bool (Pa.ok ⟨k, g, ros L⟩)) ∧ Below w.heap.size w w' := by
  obtain ⟨r, hrr⟩ : ∃ r, Pa.ok ⟨k, g, ros L⟩ = r := ⟨_, rfl⟩
  rw [hrr]
  unfold Pa.ok at hrr
  simp only at hrr
  rw [List.length_map, h.len] at hrr
  obtain ⟨u1, hu1⟩ : ∃ u, decide (k.size ≤ 100) = u := ⟨_, rfl⟩
  have hu1i : decide (((k.size : Nat) : Int) ≤ 100) = u1 := by rw [← hu1]; simp; omega
  obtain ⟨u2, hu2⟩ : ∃ u, stm g = u := ⟨_, rfl⟩
  obtain ⟨u3, hu3⟩ : ∃ u, (decide (n ≤ 100) && rowsB (ros L)) = u := ⟨_, rfl⟩
  rw [hu1, hu2, hu3] at hrr
  have RR := Lib.hid hrr; have U2 := Lib.hid hu2; have U3 := Lib.hid hu3
  have bz := (Below.refl w.heap.size w).alloc (Nat.le_refl _) (.cells #[.string k, .int .i64 g, .slice A n c] 24)
  have hz := heap_alloc_new w (.cells #[.string k, .int .i64 g, .slice A n c] 24)
  have HL := Lib.hid (h.below (bz.mono hB)); have HF := Lib.hid hf; have BZ := Lib.hid bz
  obtain ⟨_, _, _⟩ := PtAt.of hz
  clear hrr hu2 hu3 bz hz h hf
  go_enter Try.func23, Try.ntmps23
  cases u1
  · have hv : r = false := by rw [← RR.out]; rfl
    subst hv
    go_wp2
    go_ret
    exact ⟨rfl, BZ.out⟩
  · go_wp2_with fail
    refine (pstamp_any g _).mono ?_
    rintro e w1 ⟨rfl, rfl⟩
    rw [U2.out]
    cases u2
    · have hv : r = false := by rw [← RR.out]; rfl
      subst hv
      go_wp2
      go_ret
      exact ⟨rfl, BZ.out⟩
    · go_wp2_with fail
      refine (rows_any A n c B L _ HL.out (by simp; omega) hn HF.out).mono ?_
      rintro e w2 ⟨rfl, b2⟩
      rw [U3.out]
      have hv : u3 = r := by rw [← RR.out]; rfl
      subst hv
      go_wp2
      go_ret
      exact ⟨rfl, next BZ.out b2⟩
end Go.Proofs.Ytbfkbfbcaileoaa
