/-
  Join of cells.
-/
import Derived.Test.YtafbbojfifcncaaCe2
import Derived.Test.YtafbbojfifcncaaKq
import Derived.Laws.IdiomStrings
import Derived.Laws.IdiomRangeMap
set_option linter.unusedVariables false
set_option linter.unusedSimpArgs false
namespace Go.Proofs.Ytafbbojfifcncaa
open Go Go.RowKit

set_option maxHeartbeats 2000000 in
theorem join_any (s t : ByteArray) (d f : Bool) (a b e g : Int) (w : World) :
    Calls Try.prog 55 #[.agg #[.string s, .bool d, .int .i64 a, .int .i64 e], .agg #[.string t, .bool f, .int .i64 b, .int .i64 g]] w fun x w' => x = .returned (Ce.join ⟨s, d, a, e⟩ ⟨t, f, b, g⟩).v ∧ Below w.heap.size w w' := by
  obtain ⟨r, hr⟩ : ∃ r, Ce.cmp ⟨s, d, a, e⟩ ⟨t, f, b, g⟩ = r := ⟨_, rfl⟩
  have hj : (Ce.join ⟨s, d, a, e⟩ ⟨t, f, b, g⟩) = if r < 0 then ⟨t, f, b, g⟩ else ⟨s, d, a, e⟩ := by unfold Ce.join; rw [hr]
  rw [hj]
  have HR := Lib.hid hr
  clear hj hr
  have p1 := ((CeAt.new w s d a e).alloc (by simp) (.cells #[.string t, .bool f, .int .i64 b, .int .i64 g] 33)).alloc (by simp; omega) (.cells #[.string ⟨#[]⟩, .bool false, .int .i64 0, .int .i64 0] 33)
  have p2 := (CeAt.new (w.alloc (.cells #[.string s, .bool d, .int .i64 a, .int .i64 e] 33)) t f b g).alloc (by simp) (.cells #[.string ⟨#[]⟩, .bool false, .int .i64 0, .int .i64 0] 33)
  have p3 := CeAt.new ((w.alloc (.cells #[.string s, .bool d, .int .i64 a, .int .i64 e] 33)).alloc (.cells #[.string t, .bool f, .int .i64 b, .int .i64 g] 33)) ⟨#[]⟩ false 0 0
  have hZ := heap_alloc_new ((w.alloc (.cells #[.string s, .bool d, .int .i64 a, .int .i64 e] 33)).alloc (.cells #[.string t, .bool f, .int .i64 b, .int .i64 g] 33)) (.cells #[.string ⟨#[]⟩, .bool false, .int .i64 0, .int .i64 0] 33)
  simp only [World.size_alloc] at p1 p2 p3 hZ
  have P1 := Lib.hid p1; have P2 := Lib.hid p2; have P3 := Lib.hid p3
  clear p1 p2 p3
  have BZ := Lib.hid ((((Below.refl w.heap.size w).alloc (Nat.le_refl _) (.cells #[.string s, .bool d, .int .i64 a, .int .i64 e] 33)).alloc (by simp) (.cells #[.string t, .bool f, .int .i64 b, .int .i64 g] 33)).alloc (by simp; omega) (.cells #[.string ⟨#[]⟩, .bool false, .int .i64 0, .int .i64 0] 33))
  by_cases h : r < 0
  · rw [if_pos h]
    go_enter Try.func55, Try.ntmps55
    go_wp2_with fail
    refine (cmp_any _ _ _ _ _ _ _ _ _).mono ?_
    rintro e w1 ⟨rfl, b1⟩
    rw [HR.out]
    obtain ⟨q0, q1, q2, q3⟩ := P2.out.below b1 (by simp)
    have kz := (b1.block (w.heap.size + 1 + 1) (by simp)).trans hZ
    obtain ⟨z0, z1, z2, z3⟩ := P3.out.below b1 (by simp)
    have y0 := thawed_at (i := 0) kz
    have y1 := thawed_at (i := 1) kz
    have y2 := thawed_at (i := 2) kz
    have y3 := thawed_at (i := 3) kz
    go_wp2
    refine bodyPost_ret (v := .agg #[.string t, .bool f, .int .i64 b, .int .i64 g]) (by simp [results, Try.results55, go_sem, z0, z1, z2, z3]) rfl ⟨rfl, ?_⟩
    exact ((((BZ.out.trans (b1.mono (by simp; omega))).setCell (by simp; omega) _).setCell (by simp; omega) _).setCell (by simp; omega) _).setCell (by simp; omega) _
  · rw [if_neg h]
    go_enter Try.func55, Try.ntmps55
    go_wp2_with fail
    refine (cmp_any _ _ _ _ _ _ _ _ _).mono ?_
    rintro e w1 ⟨rfl, b1⟩
    rw [HR.out]
    obtain ⟨q0, q1, q2, q3⟩ := P1.out.below b1 (by simp; omega)
    have kz := (b1.block (w.heap.size + 1 + 1) (by simp)).trans hZ
    obtain ⟨z0, z1, z2, z3⟩ := P3.out.below b1 (by simp)
    have y0 := thawed_at (i := 0) kz
    have y1 := thawed_at (i := 1) kz
    have y2 := thawed_at (i := 2) kz
    have y3 := thawed_at (i := 3) kz
    go_wp2
    refine bodyPost_ret (v := .agg #[.string s, .bool d, .int .i64 a, .int .i64 e]) (by simp [results, Try.results55, go_sem, z0, z1, z2, z3]) rfl ⟨rfl, ?_⟩
    exact ((((BZ.out.trans (b1.mono (by simp; omega))).setCell (by simp; omega) _).setCell (by simp; omega) _).setCell (by simp; omega) _).setCell (by simp; omega) _

end Go.Proofs.Ytafbbojfifcncaa
