/-
  Contracts of cells in the form that the laws ask: what comes out is named.
-/
import Derived.Test.YtipkghchcacgiaaCe4
set_option linter.unusedVariables false
set_option linter.unusedSimpArgs false
namespace Go.Proofs.Ytipkghchcacgiaa
open Go Go.RowKit

theorem next {w w1 w2 : World} (h : Below w.heap.size w w1) (b : Below w1.heap.size w1 w2) : Below w.heap.size w w2 := h.trans (b.mono h.size)
theorem join_as (s t js : ByteArray) (d f jd : Bool) (a b e g ja je : Int) (w : World) (h : Ce.join ⟨s, d, a, e⟩ ⟨t, f, b, g⟩ = ⟨js, jd, ja, je⟩) :
    Calls Try.prog 11 #[.agg #[.string s, .bool d, .int .i64 a, .int .i64 e], .agg #[.string t, .bool f, .int .i64 b, .int .i64 g]] w fun x w' => x = .returned (.agg #[.string js, .bool jd, .int .i64 ja, .int .i64 je]) ∧ Below w.heap.size w w' := by
  have := join_any s t d f a b e g w
  rw [h] at this
  exact this
theorem cmp_as (s t : ByteArray) (d f : Bool) (a b e g r : Int) (w : World) (h : Ce.cmp ⟨s, d, a, e⟩ ⟨t, f, b, g⟩ = r) :
    Calls Try.prog 15 #[.agg #[.string s, .bool d, .int .i64 a, .int .i64 e], .agg #[.string t, .bool f, .int .i64 b, .int .i64 g]] w fun x w' => x = .returned (.int .i64 r) ∧ Below w.heap.size w w' := by
  have := cmp_any s t d f a b e g w
  rw [h] at this
  exact this
theorem same_as (s t : ByteArray) (d f : Bool) (a b e g : Int) (r : Bool) (w : World) (h : Ce.same ⟨s, d, a, e⟩ ⟨t, f, b, g⟩ = r) :
    Calls Try.prog 19 #[.agg #[.string s, .bool d, .int .i64 a, .int .i64 e], .agg #[.string t, .bool f, .int .i64 b, .int .i64 g]] w fun x w' => x = .returned (.bool r) ∧ Below w.heap.size w w' := by
  have := same_any s t d f a b e g w
  rw [h] at this
  exact this
theorem seen_as (s : ByteArray) (d : Bool) (a e n : Int) (r : Bool) (w : World) (h : Ce.seen ⟨s, d, a, e⟩ n = r) :
    Calls Try.prog 17 #[.agg #[.string s, .bool d, .int .i64 a, .int .i64 e], .int .i64 n] w fun x w' => x = .returned (.bool r) ∧ Below w.heap.size w w' := by
  have := seen_any s d a e n w
  rw [h] at this
  exact this
theorem check_as (s : ByteArray) (d : Bool) (a e : Int) (r : Bool) (w : World) (hs : s.size ≤ maxLen) (h : Ce.ok ⟨s, d, a, e⟩ = r) :
    Calls Try.prog 13 #[.agg #[.string s, .bool d, .int .i64 a, .int .i64 e]] w fun x w' => x = .returned (.bool r) ∧ Below w.heap.size w w' := by
  have := check_any s d a e w hs
  rw [h] at this
  exact this
theorem few_as (A : Option Addr) (n c B : Nat) (l : List Ce) (r : Bool) (w : World) (h : RdC w B A n l) (hB : B ≤ w.heap.size) (hn : n ≤ 1000000000000) (hr : few l = r) :
    Calls Try.prog 8 #[.slice A n c] w fun e w' => e = .returned (.bool r) ∧ Below w.heap.size w w' := by
  have := few_any A n c B l w h hB hn
  rw [hr] at this
  exact this
theorem cmp_three (x y : Ce) : x.cmp y = -1 ∨ x.cmp y = 0 ∨ x.cmp y = 1 := by
  have h1 := cmp_tot.low x y
  have h2 := cmp_tot.low y x
  have h3 := cmp_tot.anti x y
  omega
/-- Three cells, one behind the other. -/
def Three (w : World) (g : Nat) (s1 s2 s3 : ByteArray) (d1 d2 d3 : Bool) (a1 e1 a2 e2 a3 e3 : Int) : Prop :=
  (w.cell? ⟨g, 0, none⟩ = some (.string s1) ∧ w.cell? ⟨g, 1, none⟩ = some (.bool d1) ∧ w.cell? ⟨g, 2, none⟩ = some (.int .i64 a1) ∧ w.cell? ⟨g, 3, none⟩ = some (.int .i64 e1)) ∧ (w.cell? ⟨g + 1, 0, none⟩ = some (.string s2) ∧ w.cell? ⟨g + 1, 1, none⟩ = some (.bool d2) ∧ w.cell? ⟨g + 1, 2, none⟩ = some (.int .i64 a2) ∧ w.cell? ⟨g + 1, 3, none⟩ = some (.int .i64 e2)) ∧ (w.cell? ⟨g + 1 + 1, 0, none⟩ = some (.string s3) ∧ w.cell? ⟨g + 1 + 1, 1, none⟩ = some (.bool d3) ∧ w.cell? ⟨g + 1 + 1, 2, none⟩ = some (.int .i64 a3) ∧ w.cell? ⟨g + 1 + 1, 3, none⟩ = some (.int .i64 e3))
theorem three (w : World) (s1 s2 s3 : ByteArray) (d1 d2 d3 : Bool) (a1 e1 a2 e2 a3 e3 : Int) : ∀ w', Below (w.heap.size + 3) (((w.alloc (.cells #[.string s1, .bool d1, .int .i64 a1, .int .i64 e1] 23)).alloc (.cells #[.string s2, .bool d2, .int .i64 a2, .int .i64 e2] 23)).alloc (.cells #[.string s3, .bool d3, .int .i64 a3, .int .i64 e3] 23)) w' →
    Three w' w.heap.size s1 s2 s3 d1 d2 d3 a1 e1 a2 e2 a3 e3 := by
  intro w' hb
  have p1 := (((CeAt.new w s1 d1 a1 e1).alloc (by simp) (.cells #[.string s2, .bool d2, .int .i64 a2, .int .i64 e2] 23)).alloc (by simp; omega) (.cells #[.string s3, .bool d3, .int .i64 a3, .int .i64 e3] 23)).below hb (by omega)
  have p2 := ((CeAt.new (w.alloc (.cells #[.string s1, .bool d1, .int .i64 a1, .int .i64 e1] 23)) s2 d2 a2 e2).alloc (by simp) (.cells #[.string s3, .bool d3, .int .i64 a3, .int .i64 e3] 23)).below hb (by simp)
  have p3 := (CeAt.new ((w.alloc (.cells #[.string s1, .bool d1, .int .i64 a1, .int .i64 e1] 23)).alloc (.cells #[.string s2, .bool d2, .int .i64 a2, .int .i64 e2] 23)) s3 d3 a3 e3).below hb (by simp)
  simp only [World.size_alloc] at p1 p2 p3
  exact ⟨p1, p2, p3⟩
end Go.Proofs.Ytipkghchcacgiaa
