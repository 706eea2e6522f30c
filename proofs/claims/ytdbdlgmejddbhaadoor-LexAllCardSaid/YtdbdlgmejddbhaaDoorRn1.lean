/-
  Contracts of package runes that only read: Count, right, Valid, At.
-/
import Derived.Test.YtdbdlgmejddbhaaDoorRnN
import Derived.Test.YtdbdlgmejddbhaaDoorProg
import Derived.WalkKit
import Derived.BigCall
import Derived.Lib.Hide
set_option linter.unusedVariables false
namespace Go.Proofs.YtdbdlgmejddbhaaDoor
open Go Go.RowKit

set_option maxHeartbeats 400000 in
set_option maxRecDepth 100000 in
theorem valid_any (s : ByteArray) (w : World) (hs : s.size ≤ 1099511627776) :
    Calls Tryd.prog 41 #[.string s] w fun e w' => e = .returned (.bool (validB s)) ∧ Below w.heap.size w w' := by
  go_enter Tryd.func41, Tryd.ntmps41
  go_wp2
  go_loopw [] (fun wr => ∃ (pos f : Nat), wr = w.iter s pos ∧ (cpsF s f pos).all rightB = validB s ∧ s.size ≤ pos + f) (fun wr => s.size - wr.iterPos w.heap.size)
  case atStart => exact ⟨0, s.size, rfl, rfl, by omega⟩
  case round =>
    obtain ⟨pos, f, rfl, hc, hf⟩ := hrel
    have HC := Lib.hid hc
    clear hc
    by_cases hp : pos < s.size
    · have hnx : ∀ ty, (Instr.next (.pointer (some ⟨w.heap.size, 0, none⟩)) true ty).run Tryd.prog (w.iter s pos) = _ := fun ty => run_next_any w s pos ty hp
      obtain ⟨g, hg1, hg2, hg3⟩ := cpsF_step s f pos hp hf
      have H1 := Lib.hid hg1
      have H2 := Lib.hid hg2
      clear hg1 hg2
      have hwd := width_pos s pos hp
      by_cases hr : rightAt s pos ((Utf8.decode s pos).1 : Nat) = true
      · go_wp2_with (go_at_call 57; refine (right_any _ _ _ _ (by omega) hs).mono ?_; rintro e w' ⟨rfl, rfl⟩)
        go_roundw
        case rel => exact ⟨_, g, rfl, by rw [← HC.out, H2.out, List.all_cons, ← rightAt_cp, hr, Bool.true_and], hg3⟩
        case measure => simp; omega
      · have hr' : rightAt s pos ((Utf8.decode s pos).1 : Nat) = false := by simpa using hr
        clear hr
        go_wp2_with (go_at_call 57; refine (right_any _ _ _ _ (by omega) hs).mono ?_; rintro e w' ⟨rfl, rfl⟩)
        go_ret
        exact ⟨ret_bool (by rw [← HC.out, H2.out, List.all_cons, ← rightAt_cp, hr', Bool.false_and]), (Below.refl _ _).alloc (Nat.le_refl _) _⟩
    · have hnx : ∀ ty, (Instr.next (.pointer (some ⟨w.heap.size, 0, none⟩)) true ty).run Tryd.prog (w.iter s pos) = _ := fun ty => run_next_end w s pos ty hp
      go_wp2
      go_ret
      exact ⟨ret_bool (by rw [← HC.out, cpsF_end _ _ _ hp, List.all_nil]), (Below.refl _ _).alloc (Nat.le_refl _) _⟩

/-- The code point with the number n: as 'At' answers. -/
def atL (l : List (Nat × Nat × Nat)) (n : Int) : Option (Nat × Nat × Nat) := if n < 0 then none else l[n.toNat]?
def atV (x : Option (Nat × Nat × Nat)) : Value := match x with
  | some c => .tuple #[.int .i32 (c.1 : Nat), .int .i64 (c.2.1 : Nat), .bool true]
  | none => .tuple #[.int .i32 0, .int .i64 0, .bool false]

end Go.Proofs.YtdbdlgmejddbhaaDoor
