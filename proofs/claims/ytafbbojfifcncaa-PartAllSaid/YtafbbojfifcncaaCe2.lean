/-
  Cmp of cells.
-/
import Derived.Test.YtafbbojfifcncaaCeA
import Derived.Test.YtafbbojfifcncaaCe1
set_option linter.unusedVariables false
set_option linter.unusedSimpArgs false
namespace Go.Proofs.Ytafbbojfifcncaa
open Go Go.RowKit

set_option maxHeartbeats 2000000 in
theorem cmp_any (s t : ByteArray) (d f : Bool) (a b e g : Int) (w : World) :
    Calls Try.prog 78 #[.agg #[.string s, .bool d, .int .i64 a, .int .i64 e], .agg #[.string t, .bool f, .int .i64 b, .int .i64 g]] w fun x w' => x = .returned (.int .i64 (Ce.cmp ⟨s, d, a, e⟩ ⟨t, f, b, g⟩)) ∧ Below w.heap.size w w' := by
  have hr : Ce.cmp ⟨s, d, a, e⟩ ⟨t, f, b, g⟩ = orI [icmp a b, bcmp d f, tcmp s t, bcmp (e == 0) (g == 0), icmp e g] := by
    simp only [Ce.cmp, orI, show ∀ x, lexI x 0 = x from fun x => by unfold lexI; split <;> omega]
  rw [hr]
  have rd := RdZ.lit ((w.alloc (.cells #[.string s, .bool d, .int .i64 a, .int .i64 e] 33)).alloc (.cells #[.string t, .bool f, .int .i64 b, .int .i64 g] 33)).drew [icmp a b, bcmp d f, tcmp s t, bcmp (e == 0) (g == 0), icmp e g] (w.heap.size + 2) (by simp)
  have RDL := Lib.hid rd
  clear hr rd
  have p1 := (CeAt.new w s d a e).alloc (by simp) (.cells #[.string t, .bool f, .int .i64 b, .int .i64 g] 33)
  have p2 := CeAt.new (w.alloc (.cells #[.string s, .bool d, .int .i64 a, .int .i64 e] 33)) t f b g
  obtain ⟨c0, c1, c2, c3⟩ := p1
  obtain ⟨k0, k1, k2, k3⟩ := p2
  have bz := ((Below.refl w.heap.size w).alloc (Nat.le_refl _) (.cells #[.string s, .bool d, .int .i64 a, .int .i64 e] 33)).alloc (by simp) (.cells #[.string t, .bool f, .int .i64 b, .int .i64 g] 33)
  have BZ := Lib.hid bz
  simp only [World.size_alloc] at c0 c1 c2 c3 k0 k1 k2 k3
  clear bz
  obtain ⟨W2, hW2⟩ : ∃ W2, (w.alloc (.cells #[.string s, .bool d, .int .i64 a, .int .i64 e] 33)).alloc (.cells #[.string t, .bool f, .int .i64 b, .int .i64 g] 33) = W2 := ⟨_, rfl⟩
  have ka : ∀ (i q : Nat) (o : Obj) (v : Value), q < w.heap.size + 2 → W2.cell? ⟨q, i, none⟩ = some v → (W2.drew.alloc o).cell? ⟨q, i, none⟩ = some v := fun i q o v hq h =>
    (World.cell?_alloc_lt W2.drew o ⟨q, i, none⟩ (by rw [← hW2]; show q < ((w.alloc (.cells #[.string s, .bool d, .int .i64 a, .int .i64 e] 33)).alloc (.cells #[.string t, .bool f, .int .i64 b, .int .i64 g] 33)).heap.size; simp; omega)).trans h
  rw [hW2] at c0 c1 c2 c3 k0 k1 k2 k3
  have ka0 := fun o => ka 0 w.heap.size o _ (by omega) c0
  have ka1 := fun o => ka 1 w.heap.size o _ (by omega) c1
  have ka2 := fun o => ka 2 w.heap.size o _ (by omega) c2
  have ka3 := fun o => ka 3 w.heap.size o _ (by omega) c3
  have kb0 := fun o => ka 0 (w.heap.size + 1) o _ (by omega) k0
  have kb1 := fun o => ka 1 (w.heap.size + 1) o _ (by omega) k1
  have kb2 := fun o => ka 2 (w.heap.size + 1) o _ (by omega) k2
  have kb3 := fun o => ka 3 (w.heap.size + 1) o _ (by omega) k3
  subst hW2
  go_enter Try.func78, Try.ntmps78
  go_wp2_with fail
  go_region_held3 (fun w' => (w'.cell? ⟨w.heap.size, 0, none⟩ = some (.string s) ∧ w'.cell? ⟨w.heap.size, 1, none⟩ = some (.bool d) ∧ w'.cell? ⟨w.heap.size, 2, none⟩ = some (.int .i64 a) ∧ w'.cell? ⟨w.heap.size, 3, none⟩ = some (.int .i64 e)) ∧ (w'.cell? ⟨w.heap.size + 1, 0, none⟩ = some (.string t) ∧ w'.cell? ⟨w.heap.size + 1, 1, none⟩ = some (.bool f) ∧ w'.cell? ⟨w.heap.size + 1, 2, none⟩ = some (.int .i64 b) ∧ w'.cell? ⟨w.heap.size + 1, 3, none⟩ = some (.int .i64 g))) (refine ⟨⟨?_, ?_, ?_, ?_⟩, ?_, ?_, ?_, ?_⟩ <;> first | assumption | exact ka0 _ | exact ka1 _ | exact ka2 _ | exact ka3 _ | exact kb0 _ | exact kb1 _ | exact kb2 _ | exact kb3 _) (first
    | (go_at_call 89; refine (cmpi_any _ _ _).mono ?_; rintro e w1 ⟨rfl, rfl⟩)
    | (go_at_call 91; refine (cmps_any _ _ _).mono ?_; rintro e w1 ⟨rfl, rfl⟩)
    | (go_at_call 90; refine (above_any _ _ _).mono ?_; rintro e w1 ⟨rfl, rfl⟩)
    | (go_at_call 88; refine (or_any _ _ _ (w.heap.size + 3) _ _ RDL.out (by simp) (by simp)).mono ?_; rintro e w1 ⟨rfl, b1⟩
       have q0 := (b1.cell (p := ⟨w.heap.size, 0, none⟩) (by simp; omega)).trans (ka0 _)
       have q1 := (b1.cell (p := ⟨w.heap.size, 1, none⟩) (by simp; omega)).trans (ka1 _)
       have q2 := (b1.cell (p := ⟨w.heap.size, 2, none⟩) (by simp; omega)).trans (ka2 _)
       have q3 := (b1.cell (p := ⟨w.heap.size, 3, none⟩) (by simp; omega)).trans (ka3 _)
       have q4 := (b1.cell (p := ⟨w.heap.size + 1, 0, none⟩) (by simp)).trans (kb0 _)
       have q5 := (b1.cell (p := ⟨w.heap.size + 1, 1, none⟩) (by simp)).trans (kb1 _)
       have q6 := (b1.cell (p := ⟨w.heap.size + 1, 2, none⟩) (by simp)).trans (kb2 _)
       have q7 := (b1.cell (p := ⟨w.heap.size + 1, 3, none⟩) (by simp)).trans (kb3 _)))
  go_wp2
  go_ret
  exact ⟨rfl, ((BZ.out.drew).alloc (by simp; omega) _).trans (b1.mono (by simp; omega))⟩

end Go.Proofs.Ytafbbojfifcncaa
