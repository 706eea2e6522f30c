/-
  The developers' notes alone, all of it made behind W0.
-/
import Derived.Test.YtfldlkdnjkaidaaNd6
set_option linter.unusedVariables false
namespace Go.Proofs.Ytfldlkdnjkaidaa
open Go Go.RowKit

structure OneN (W0 w : World) (F : Nat → Prop) (p : Nat) (S : Fl) : Prop where
  s : NoIs w F p S
  sin : In F w
  sab : ∀ k, F k → W0.heap.size ≤ k
  below : Below W0.heap.size W0 w
section
variable {W0 w w' : World} {F F' : Nat → Prop} {p : Nat} {S S' : Fl}
theorem OneN.turn (h : OneN W0 w F p S) (hs : NoIs w' F' p S') (st : Step F w F' w') : OneN W0 w' F' p S' :=
  ⟨hs, st.in_ h.sin, st.above h.sab h.below.size, h.below.trans (st.below h.sab h.below.size)⟩
theorem OneN.read (h : OneN W0 w F p S) (hb : Below w.heap.size w w') : OneN W0 w' F p S :=
  ⟨h.s.kept (F := fun _ => False) (Kept.of_below hb _) (fun _ hf => hf.elim) h.sin, h.sin.up hb.size, h.sab, h.below.trans (hb.mono h.below.size)⟩
theorem OneN.store (h : OneN W0 w F p S) {q i : Nat} (hn : ¬ F q) (hq : W0.heap.size ≤ q) (v : Value) : OneN W0 (w.setCell ⟨q, i, none⟩ v) F p S := by
  have hk : Kept (fun k => k = q) w (w.setCell ⟨q, i, none⟩ v) := Kept.setCell (fun k => k = q) w ⟨q, i, none⟩ v rfl
  have st : Step (fun k => k = q) w (fun k => k = q) (w.setCell ⟨q, i, none⟩ v) := ⟨hk, fun k hk => Or.inl hk⟩
  exact ⟨h.s.kept hk (fun k hk hf => hn (by subst hk; exact hf)) h.sin, h.sin.up hk.size, h.sab, h.below.trans (st.below (fun k hk => by subst hk; exact hq) h.below.size)⟩
theorem OneN.drew (h : OneN W0 w F p S) : OneN W0 w.drew F p S := h.read (Below.refl _ _).drew
end
/-- No number in a slice. -/
theorem RdI.none (w : World) (B : Nat) : RdI w B none 0 [] := ⟨rfl, fun h => absurd h (by omega)⟩
/-- A note's box and, behind it, a row of it alone. -/
theorem two_boxes (w : World) (n : Int) (s : ByteArray) : ∃ U, U = (w.alloc (.cells #[.int .i64 n, .string s] 30)).alloc (.cells #[.int .i64 n, .string s] 30) ∧
    U.heap[w.heap.size]? = some (.cells #[.int .i64 n, .string s] 30 (0, 0)) ∧ RdT U U.heap.size (some ⟨w.heap.size + 1, 0, none⟩) 1 [(n, s)] ∧ Below w.heap.size w U := by
  have b1 := (Below.refl w.heap.size w).alloc (Nat.le_refl _) (.cells #[.int .i64 n, .string s] 30)
  have hr := one_rdT (w.alloc (.cells #[.int .i64 n, .string s] 30)) n s
  have e : (w.alloc (.cells #[.int .i64 n, .string s] 30)).heap.size = w.heap.size + 1 := by simp
  rw [e] at hr
  have b2 := b1.alloc (by rw [e]; omega) (.cells #[.int .i64 n, .string s] 30)
  have hx := (((Below.refl _ (w.alloc (.cells #[.int .i64 n, .string s] 30))).alloc (Nat.le_refl _) (.cells #[.int .i64 n, .string s] 30)).block w.heap.size (by rw [e]; omega)).trans (heap_alloc_new w (.cells #[.int .i64 n, .string s] 30))
  exact ⟨_, rfl, hx, hr.up (by simp), b2⟩
/-- A row of one note alone. -/
theorem one_box (w : World) (n : Int) (s : ByteArray) : ∃ U, U = w.alloc (.cells #[.int .i64 n, .string s] 30) ∧
    U.heap[w.heap.size]? = some (.cells #[.int .i64 n, .string s] 30 (0, 0)) ∧ RdT U U.heap.size (some ⟨w.heap.size, 0, none⟩) 1 [(n, s)] ∧ Below w.heap.size w U :=
  ⟨_, rfl, heap_alloc_new w _, (one_rdT w n s).up (by simp), (Below.refl w.heap.size w).alloc (Nat.le_refl _) _⟩
end Go.Proofs.Ytfldlkdnjkaidaa
