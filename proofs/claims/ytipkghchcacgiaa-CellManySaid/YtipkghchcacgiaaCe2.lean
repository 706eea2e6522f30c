/-
  Cmp, Join, Seen, Same, Check of cells.
-/
import Derived.Test.YtipkghchcacgiaaCe1
import Derived.Deep.RegionHeld3
import Derived.Laws.StructEq
import Derived.Laws.NewBlocks
import Derived.Laws.Alloc2
set_option linter.unusedVariables false
set_option linter.unusedSimpArgs false
namespace Go.Proofs.Ytipkghchcacgiaa
open Go Go.RowKit

/-- The cell at block q. -/
def CeAt (w : World) (q : Nat) (s : ByteArray) (d : Bool) (a e : Int) : Prop := w.cell? ⟨q, 0, none⟩ = some (.string s) ∧ w.cell? ⟨q, 1, none⟩ = some (.bool d) ∧ w.cell? ⟨q, 2, none⟩ = some (.int .i64 a) ∧ w.cell? ⟨q, 3, none⟩ = some (.int .i64 e)
theorem CeAt.new (w : World) (s : ByteArray) (d : Bool) (a e : Int) : CeAt (w.alloc (.cells #[.string s, .bool d, .int .i64 a, .int .i64 e] 23)) w.heap.size s d a e := by
  unfold CeAt
  simp
theorem CeAt.below {w w' : World} {q : Nat} {s : ByteArray} {d : Bool} {a e : Int} {B : Nat} (h : CeAt w q s d a e) (hb : Below B w w') (hq : q < B) : CeAt w' q s d a e :=
  ⟨(hb.cell (p := ⟨q, 0, none⟩) hq).trans h.1, (hb.cell (p := ⟨q, 1, none⟩) hq).trans h.2.1, (hb.cell (p := ⟨q, 2, none⟩) hq).trans h.2.2.1, (hb.cell (p := ⟨q, 3, none⟩) hq).trans h.2.2.2⟩
theorem CeAt.alloc {w : World} {q : Nat} {s : ByteArray} {d : Bool} {a e : Int} (h : CeAt w q s d a e) (hq : q < w.heap.size) (o : Obj) : CeAt (w.alloc o) q s d a e :=
  h.below ((Below.refl w.heap.size w).alloc (Nat.le_refl _) o) hq

theorem RdZ.lit (w : World) (l : List Int) (g : Nat) (hg : g = w.heap.size) : RdZ (w.alloc (.cells (l.map (.int .i64)).toArray 3)) (g + 1) (some ⟨g, 0, none⟩) l.length l := by
  subst hg
  refine ⟨rfl, fun _ => ⟨_, 0, rfl, by omega, fun j hj => ?_⟩⟩
  simp [hj]
set_option maxHeartbeats 2000000 in
theorem cmp_any (s t : ByteArray) (d f : Bool) (a b e g : Int) (w : World) :
    Calls Try.prog 15 #[.agg #[.string s, .bool d, .int .i64 a, .int .i64 e], .agg #[.string t, .bool f, .int .i64 b, .int .i64 g]] w fun x w' => x = .returned (.int .i64 (Ce.cmp ⟨s, d, a, e⟩ ⟨t, f, b, g⟩)) ∧ Below w.heap.size w w' := by
  have hr : Ce.cmp ⟨s, d, a, e⟩ ⟨t, f, b, g⟩ = orI [icmp a b, bcmp d f, tcmp s t, bcmp (e == 0) (g == 0), icmp e g] := by
    simp only [Ce.cmp, orI, show ∀ x, lexI x 0 = x from fun x => by unfold lexI; split <;> omega]
  rw [hr]
  have rd := RdZ.lit ((w.alloc (.cells #[.string s, .bool d, .int .i64 a, .int .i64 e] 23)).alloc (.cells #[.string t, .bool f, .int .i64 b, .int .i64 g] 23)).drew [icmp a b, bcmp d f, tcmp s t, bcmp (e == 0) (g == 0), icmp e g] (w.heap.size + 2) (by simp)
  have RDL := Lib.hid rd
  clear hr rd
  have p1 := (CeAt.new w s d a e).alloc (by simp) (.cells #[.string t, .bool f, .int .i64 b, .int .i64 g] 23)
  have p2 := CeAt.new (w.alloc (.cells #[.string s, .bool d, .int .i64 a, .int .i64 e] 23)) t f b g
  obtain ⟨c0, c1, c2, c3⟩ := p1
  obtain ⟨k0, k1, k2, k3⟩ := p2
  have bz := ((Below.refl w.heap.size w).alloc (Nat.le_refl _) (.cells #[.string s, .bool d, .int .i64 a, .int .i64 e] 23)).alloc (by simp) (.cells #[.string t, .bool f, .int .i64 b, .int .i64 g] 23)
  have BZ := Lib.hid bz
  simp only [World.size_alloc] at c0 c1 c2 c3 k0 k1 k2 k3
  clear bz
  obtain ⟨W2, hW2⟩ : ∃ W2, (w.alloc (.cells #[.string s, .bool d, .int .i64 a, .int .i64 e] 23)).alloc (.cells #[.string t, .bool f, .int .i64 b, .int .i64 g] 23) = W2 := ⟨_, rfl⟩
  have ka : ∀ (i q : Nat) (o : Obj) (v : Value), q < w.heap.size + 2 → W2.cell? ⟨q, i, none⟩ = some v → (W2.drew.alloc o).cell? ⟨q, i, none⟩ = some v := fun i q o v hq h =>
    (World.cell?_alloc_lt W2.drew o ⟨q, i, none⟩ (by rw [← hW2]; show q < ((w.alloc (.cells #[.string s, .bool d, .int .i64 a, .int .i64 e] 23)).alloc (.cells #[.string t, .bool f, .int .i64 b, .int .i64 g] 23)).heap.size; simp; omega)).trans h
  rw [hW2] at c0 c1 c2 c3 k0 k1 k2 k3
  have ka0 := fun o => ka 0 w.heap.size o _ (by omega) c0
  have ka1 := fun o => ka 1 w.heap.size o _ (by omega) c1
  have ka2 := fun o => ka 2 w.heap.size o _ (by omega) c2
  have ka3 := fun o => ka 3 w.heap.size o _ (by omega) c3
  have kb0 := fun o => ka 0 (w.heap.size + 1) o _ (by omega) k0
  have kb1 := fun o => ka 1 (w.heap.size + 1) o _ (by omega) k1
  have kb2 := fun o => ka 2 (w.heap.size + 1) o _ (by omega) k2
  have kb3 := fun o => ka 3 (w.heap.size + 1) o _ (by omega) k3
  subst hW2
  go_enter Try.func15, Try.ntmps15
  go_wp2_with fail
  go_region_held3 (fun w' => (w'.cell? ⟨w.heap.size, 0, none⟩ = some (.string s) ∧ w'.cell? ⟨w.heap.size, 1, none⟩ = some (.bool d) ∧ w'.cell? ⟨w.heap.size, 2, none⟩ = some (.int .i64 a) ∧ w'.cell? ⟨w.heap.size, 3, none⟩ = some (.int .i64 e)) ∧ (w'.cell? ⟨w.heap.size + 1, 0, none⟩ = some (.string t) ∧ w'.cell? ⟨w.heap.size + 1, 1, none⟩ = some (.bool f) ∧ w'.cell? ⟨w.heap.size + 1, 2, none⟩ = some (.int .i64 b) ∧ w'.cell? ⟨w.heap.size + 1, 3, none⟩ = some (.int .i64 g))) (refine ⟨⟨?_, ?_, ?_, ?_⟩, ?_, ?_, ?_, ?_⟩ <;> first | assumption | exact ka0 _ | exact ka1 _ | exact ka2 _ | exact ka3 _ | exact kb0 _ | exact kb1 _ | exact kb2 _ | exact kb3 _) (first
    | (go_at_call 24; refine (cmpi_any _ _ _).mono ?_; rintro e w1 ⟨rfl, rfl⟩)
    | (go_at_call 26; refine (cmps_any _ _ _).mono ?_; rintro e w1 ⟨rfl, rfl⟩)
    | (go_at_call 25; refine (above_any _ _ _).mono ?_; rintro e w1 ⟨rfl, rfl⟩)
    | (go_at_call 23; refine (or_any _ _ _ (w.heap.size + 3) _ _ RDL.out (by simp) (by simp)).mono ?_; rintro e w1 ⟨rfl, b1⟩
       have q0 := (b1.cell (p := ⟨w.heap.size, 0, none⟩) (by simp; omega)).trans (ka0 _)
       have q1 := (b1.cell (p := ⟨w.heap.size, 1, none⟩) (by simp; omega)).trans (ka1 _)
       have q2 := (b1.cell (p := ⟨w.heap.size, 2, none⟩) (by simp; omega)).trans (ka2 _)
       have q3 := (b1.cell (p := ⟨w.heap.size, 3, none⟩) (by simp; omega)).trans (ka3 _)
       have q4 := (b1.cell (p := ⟨w.heap.size + 1, 0, none⟩) (by simp)).trans (kb0 _)
       have q5 := (b1.cell (p := ⟨w.heap.size + 1, 1, none⟩) (by simp)).trans (kb1 _)
       have q6 := (b1.cell (p := ⟨w.heap.size + 1, 2, none⟩) (by simp)).trans (kb2 _)
       have q7 := (b1.cell (p := ⟨w.heap.size + 1, 3, none⟩) (by simp)).trans (kb3 _)))
  go_wp2
  go_ret
  exact ⟨rfl, ((BZ.out.drew).alloc (by simp; omega) _).trans (b1.mono (by simp; omega))⟩
end Go.Proofs.Ytipkghchcacgiaa
