/-
  A row's block as a whole; eight stores into it; own rows of another type lie apart. GENERAL for what holds rows.
-/
import Derived.Test.YtafbbojfifcncaaRw2
import Derived.Lib.SmallJoins
set_option linter.unusedVariables false
set_option linter.unusedSimpArgs false
namespace Go.Proofs.Ytafbbojfifcncaa
open Go Go.RowKit Go.Joins

/-- A row's block, the columns as they are. -/
def RJ (w : World) (r : Nat) (k s : ByteArray) (d : Bool) (a e g h : Int) (A : Option Addr) (n c : Nat) : Prop := w.heap[r]? = some (.cells #[.string k, .string s, .bool d, .int .i64 a, .int .i64 e, .int .i64 g, .int .i64 h, .slice A n c] 36 (0, 0))
theorem RJ.cells {w : World} {r : Nat} {k s : ByteArray} {d : Bool} {a e g h : Int} {A : Option Addr} {n c : Nat} (hr : RJ w r k s d a e g h A n c) : RoAt w r k s d a e g h A n c :=
  ⟨cell_at hr rfl, cell_at hr rfl, cell_at hr rfl, cell_at hr rfl, cell_at hr rfl, cell_at hr rfl, cell_at hr rfl, cell_at hr rfl⟩
theorem RJ.set {w : World} {r : Nat} {k s : ByteArray} {d : Bool} {a e g h : Int} {A : Option Addr} {n c : Nat} (hr : RJ w r k s d a e g h A n c) (k' s' : ByteArray) (d' : Bool) (a' e' g' h' : Int) (A' : Option Addr) (n' c' : Nat) :
    RJ ((((((((w.setCell ⟨r, 0, none⟩ (.string k')).setCell ⟨r, 1, none⟩ (.string s')).setCell ⟨r, 2, none⟩ (.bool d')).setCell ⟨r, 3, none⟩ (.int .i64 a')).setCell ⟨r, 4, none⟩ (.int .i64 e')).setCell ⟨r, 5, none⟩ (.int .i64 g')).setCell ⟨r, 6, none⟩ (.int .i64 h')).setCell ⟨r, 7, none⟩ (.slice A' n' c')) r k' s' d' a' e' g' h' A' n' c' := by
  have m := block_setCell (i := 7) (block_setCell (i := 6) (block_setCell (i := 5) (block_setCell (i := 4) (block_setCell (i := 3) (block_setCell (i := 2) (block_setCell (i := 1) (block_setCell (i := 0) hr (.string k')) (.string s')) (.bool d')) (.int .i64 a')) (.int .i64 e')) (.int .i64 g')) (.int .i64 h')) (.slice A' n' c')
  simp only [List.setIfInBounds_toArray, List.set_cons_zero, List.set_cons_succ] at m
  exact m
theorem RJ.set7 {w : World} {r : Nat} {k s : ByteArray} {d : Bool} {a e g h : Int} {A : Option Addr} {n c : Nat} (hr : RJ w r k s d a e g h A n c) (A' : Option Addr) (n' c' : Nat) :
    RJ (w.setCell ⟨r, 7, none⟩ (.slice A' n' c')) r k s d a e g h A' n' c' := by
  have m := block_setCell (i := 7) hr (.slice A' n' c')
  simp only [List.setIfInBounds_toArray, List.set_cons_zero, List.set_cons_succ] at m
  exact m
theorem RJ.thawed {w : World} {r : Nat} {k s : ByteArray} {d : Bool} {a e g h : Int} {A : Option Addr} {n c : Nat} (hr : RJ w r k s d a e g h A n c) (i : Nat) : w.frozen? ⟨r, i, none⟩ = false := thawed_at (i := i) hr
/-- Eight stores into one block. -/
theorem eight_heap (w : World) (r : Nat) (v0 v1 v2 v3 v4 v5 v6 v7 : Value) (j : Nat) (hj : j ≠ r) :
    ((((((((w.setCell ⟨r, 0, none⟩ v0).setCell ⟨r, 1, none⟩ v1).setCell ⟨r, 2, none⟩ v2).setCell ⟨r, 3, none⟩ v3).setCell ⟨r, 4, none⟩ v4).setCell ⟨r, 5, none⟩ v5).setCell ⟨r, 6, none⟩ v6).setCell ⟨r, 7, none⟩ v7).heap[j]? = w.heap[j]? := by
  iterate 8 rw [Below.heap_setCell _ _ _ _ hj]
theorem eight_below {B : Nat} {w0 w : World} (h : Below B w0 w) (r : Nat) (hr : B ≤ r) (v0 v1 v2 v3 v4 v5 v6 v7 : Value) :
    Below B w0 ((((((((w.setCell ⟨r, 0, none⟩ v0).setCell ⟨r, 1, none⟩ v1).setCell ⟨r, 2, none⟩ v2).setCell ⟨r, 3, none⟩ v3).setCell ⟨r, 4, none⟩ v4).setCell ⟨r, 5, none⟩ v5).setCell ⟨r, 6, none⟩ v6).setCell ⟨r, 7, none⟩ v7) :=
  (((((((h.setCell (p := ⟨r, 0, none⟩) hr v0).setCell (p := ⟨r, 1, none⟩) hr v1).setCell (p := ⟨r, 2, none⟩) hr v2).setCell (p := ⟨r, 3, none⟩) hr v3).setCell (p := ⟨r, 4, none⟩) hr v4).setCell (p := ⟨r, 5, none⟩) hr v5).setCell (p := ⟨r, 6, none⟩) hr v6).setCell (p := ⟨r, 7, none⟩) hr v7

theorem own_ne {w : World} {b n size : Nat} {e e' : TypeId} {v : Value} {xs : List Value} {r : Nat} {cs : Array Value} (h : w.ownsRow b e size v n xs) (hr : w.heap[r]? = some (.cells cs e' (0, 0))) (he : e ≠ e') : ∀ g, v.ownBlock = some g → g ≠ r := fun g hg hgr => by
  subst hgr
  obtain ⟨cs', h1⟩ := own_tag h g hg
  rw [h1] at hr
  injection hr with hr
  injection hr with _ h2
  exact he h2
theorem Cur.eight {w0 w : World} {v : Value} {C : Cols} (hc : Cur w0 w v C) {r : Nat} {k s : ByteArray} {d : Bool} {a e g h : Int} {A : Option Addr} {n c : Nat} (hr : RJ w r k s d a e g h A n c) (hb : w0.heap.size ≤ r) (v0 v1 v2 v3 v4 v5 v6 v7 : Value) :
    Cur w0 ((((((((w.setCell ⟨r, 0, none⟩ v0).setCell ⟨r, 1, none⟩ v1).setCell ⟨r, 2, none⟩ v2).setCell ⟨r, 3, none⟩ v3).setCell ⟨r, 4, none⟩ v4).setCell ⟨r, 5, none⟩ v5).setCell ⟨r, 6, none⟩ v6).setCell ⟨r, 7, none⟩ v7) v C :=
  ⟨own_kept hc.own fun g hg => eight_heap _ _ _ _ _ _ _ _ _ _ g (own_ne hc.own hr (by decide) g hg), eight_below hc.below r hb _ _ _ _ _ _ _ _⟩
end Go.Proofs.Ytafbbojfifcncaa
