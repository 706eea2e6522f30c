/-
  Slices of bytes: append as an operation of whatever region, onto what is the call's own or full; make. GENERAL.
-/
import Derived.Test.YtdbdlgmejddbhaaDoorSl
import Derived.Test.YtdbdlgmejddbhaaDoorApp
import Derived.Test.YtdbdlgmejddbhaaDoorPlc
import Derived.Lib.AppendStr
import Derived.Laws.OwnMore
import Derived.Laws.MakeOwn
set_option linter.unusedVariables false
namespace Go.Proofs.YtdbdlgmejddbhaaDoor
open Go Go.RowKit

theorem run_appStr {w : World} (base : Nat) {v : Value} {n : Nat} {l : List UInt8} (hown : w.ownsRow base 5 1 v n (Lib.byteCells l)) (s : ByteArray)
    (hsz : n + s.size ≤ 140737488355328) (hbase : base ≤ w.heap.size) (ty : TypeId) :
    ∃ v' w', (Builtin.append_ #[64, 9] ty #[v, .string s]).run Tryd.prog w = .ok v' w' ∧ (w'.ownsRow base 5 1 v' (n + s.size) (Lib.byteCells (l ++ s.data.toList)) ∧ w.grownBy w' v.ownBlock) := by
  obtain ⟨i, hi, hz0, hz1, hz2⟩ := info_parts infoB
  obtain ⟨v', w', h1, h2, h3, _⟩ := Lib.run_append_own_string (P := Tryd.prog) w base 64 9 ty 5 i Tryd.underlying64 Tryd.underlying9 hi hz0 hz1 hz2 v n (Lib.byteCells l) hown s (by unfold maxLen; omega) hsz hbase
  exact ⟨v', w', h1, by rw [Lib.byteCells_append]; exact h2, h3⟩

theorem run_appOwn {w : World} (base : Nat) {v : Value} {n : Nat} {l : List UInt8} (hown : w.ownsRow base 5 1 v n (Lib.byteCells l)) {B m : Nat} (c : Nat) {A : Option Addr} {k : List UInt8} (hr : Rd w B A m k)
    (hsz : n + m ≤ 140737488355328) (hbase : base ≤ w.heap.size) (ty : TypeId) :
    ∃ v' w', (Builtin.append_ #[64, 64] ty #[v, .slice A m c]).run Tryd.prog w = .ok v' w' ∧ (w'.ownsRow base 5 1 v' (n + m) (Lib.byteCells (l ++ k)) ∧ w.grownBy w' v.ownBlock) := run_app base hown hr hsz hbase

theorem run_appFull {w : World} {A : Option Addr} {n : Nat} {l : List UInt8} {B0 : Nat} (hr0 : Rd w B0 A n l) {B m : Nat} (c : Nat) {ad : Addr} {k : List UInt8} (hr : Rd w B (some ad) m k) (hm : 0 < m)
    (hsz : n + m ≤ 140737488355328) (ty : TypeId) :
    ∃ v' w', (Builtin.append_ #[64, 64] ty #[.slice A n n, .slice (some ad) m c]).run Tryd.prog w = .ok v' w' ∧ (w'.ownsRow w.heap.size 5 1 v' (n + m) (Lib.byteCells (l ++ k)) ∧ w.grownBy w' none) := by
  obtain ⟨i, hi, hz0, hz1, hz2⟩ := info_parts infoB
  cases A with
  | none =>
    have h0 : n = 0 := by
      rcases Nat.eq_zero_or_pos n with h1 | h1
      · exact h1
      · obtain ⟨ad, e, _⟩ := hr0.2 h1; cases e
    subst h0
    obtain rfl : l = [] := List.eq_nil_of_length_eq_zero hr0.1
    exact run_app (ty := ty) (c := c) w.heap.size (World.ownsRow_nil w _ _ _) hr hsz (Nat.le_refl _)
  | some b =>
    obtain ⟨v', w', h1, h2, h3⟩ := run_append_arg_grows (P := Tryd.prog) w 64 ty 5 i (.int .u8 0) 1 1 Tryd.underlying64 hi hz0 hz1 hz2 rfl (by decide) b n n (Lib.byteCells l)
      (by rw [Lib.byteCells_length, hr0.1]; omega) (hr0.cells rfl) ad m c (Lib.byteCells k) (by rw [Lib.byteCells_length, hr.1]; omega) (hr.cells rfl) (by omega) (by unfold maxLen; omega) (by omega)
    exact ⟨v', w', h1, by rw [Lib.byteCells_append]; exact h2, h3⟩

/-! ### make -/
theorem made_zero (n : Nat) : (madeCells (Value.int .u8 0).cells (n * 1)).toList = Lib.byteCells (List.replicate n 0) := by
  have e : (Value.int .u8 0).cells = #[Value.int .u8 0] := rfl
  unfold madeCells Lib.byteCells
  rw [e, Nat.mul_one, List.map_replicate, Array.toList_map]
  refine List.eq_replicate_iff.2 ⟨by simp, fun b hb => ?_⟩
  obtain ⟨j, _, rfl⟩ := List.mem_map.1 hb
  simp [Nat.mod_one]
theorem run_makeB (w : World) (n : Nat) (hn : n ≤ 70368744177664) :
    (Instr.makeSlice 64 (.int .i64 (n : Nat)) (.int .i64 (n : Nat))).run Tryd.prog w = .ok (.slice (some ⟨w.heap.size, 0, none⟩) n n) (w.alloc (.cells (madeCells (Value.int .u8 0).cells (n * 1)) 5)) := by
  obtain ⟨i, hi, hz0, hz1, hz2⟩ := info_parts infoB
  have h := run_make (P := Tryd.prog) w 64 5 i (.int .u8 0) Tryd.underlying64 hi hz0 .i64 .i64 (n : Int) (n : Int) (by omega) (by omega) (by rw [hz2]; omega) (by omega)
  rw [hz1, Int.toNat_natCast] at h
  exact h
theorem made_rd (w : World) (n : Nat) : Rd (w.alloc (.cells (madeCells (Value.int .u8 0).cells (n * 1)) 5)) (w.heap.size + 1) (some ⟨w.heap.size, 0, none⟩) n (List.replicate n 0) := by
  have := Rd.laid (w := w.alloc (.cells (madeCells (Value.int .u8 0).cells (n * 1)) 5)) (g := w.heap.size) (l := List.replicate n 0) (heap_alloc_new w _) (made_zero n)
  simpa using this
theorem made_own (w : World) (n : Nat) (hn : n ≤ 70368744177664) : (w.alloc (.cells (madeCells (Value.int .u8 0).cells (n * 1)) 5)).ownsRow w.heap.size 5 1 (.slice (some ⟨w.heap.size, 0, none⟩) n n) n (Lib.byteCells (List.replicate n 0)) := by
  refine ⟨by rw [Lib.byteCells_length, List.length_replicate]; omega, Or.inr ⟨w.heap.size, n, _, rfl, Nat.le_refl _, heap_alloc_new w _, Nat.le_refl _, by unfold maxLen; omega, size_madeCells _ _, ?_⟩⟩
  rw [List.take_of_length_le (by rw [Array.length_toList, size_madeCells]; exact Nat.le_refl _)]
  exact made_zero n

/-! ### a slice of a slice -/
theorem sizeB : Tryd.prog.elem 64 = 5 := by kernel_rfl
theorem sl_lh {w : World} {B n : Nat} {A : Option Addr} {l : List UInt8} (h : Rd w B A n l) {c : Nat} (hn : n ≤ c) (x y : Int) (lo hi : Nat) (ex : x = (lo : Nat)) (ey : y = (hi : Nat)) (h1 : lo ≤ hi) (h2 : hi ≤ n) :
    ∃ A', (∀ wx : World, (Instr.slice 64 (.slice A n c) (some (.int .i64 x)) (some (.int .i64 y)) none).run Tryd.prog wx = .ok (.slice A' (hi - lo) (c - lo)) wx) ∧ Rd w B A' (hi - lo) ((l.take hi).drop lo) := by
  refine ⟨if c = lo then A else A.map (·.add lo), fun wx => ?_, h.cut h1 h2 (by omega)⟩
  obtain ⟨i, hi', hz0, hz1, hz2⟩ := info_parts infoB
  subst ex
  subst ey
  rw [run_slice_lh (P := Tryd.prog) (t := 64) (ht := by rw [sizeB]; exact Tryd.underlying64) (h0 := by omega) (h1 := by omega) (h2 := by omega), sizeB]
  simp [sizeOf, typeInfo, hi', hz1, sliced, Result.andThen]
theorem sl_l {w : World} {B n : Nat} {A : Option Addr} {l : List UInt8} (h : Rd w B A n l) {c : Nat} (hn : n ≤ c) (x : Int) (lo : Nat) (ex : x = (lo : Nat)) (h1 : lo ≤ n) :
    ∃ A', (∀ wx : World, (Instr.slice 64 (.slice A n c) (some (.int .i64 x)) none none).run Tryd.prog wx = .ok (.slice A' (n - lo) (c - lo)) wx) ∧ Rd w B A' (n - lo) (l.drop lo) := by
  have hl := h.1
  refine ⟨if c = lo then A else A.map (·.add lo), fun wx => ?_, by have := h.cut h1 (Nat.le_refl n) hn; rw [List.take_of_length_le (by omega)] at this; exact this⟩
  obtain ⟨i, hi', hz0, hz1, hz2⟩ := info_parts infoB
  subst ex
  rw [run_slice_l (P := Tryd.prog) (t := 64) (ht := by rw [sizeB]; exact Tryd.underlying64) (h0 := by omega) (h1 := by omega), sizeB]
  simp [sizeOf, typeInfo, hi', hz1, sliced, Result.andThen]
theorem sl_h {w : World} {B n : Nat} {A : Option Addr} {l : List UInt8} (h : Rd w B A n l) {c : Nat} (hn : n ≤ c) (hA : A = none → c = 0) (y : Int) (hi : Nat) (ey : y = (hi : Nat)) (h2 : hi ≤ n) :
    (∀ wx : World, (Instr.slice 64 (.slice A n c) none (some (.int .i64 y)) none).run Tryd.prog wx = .ok (.slice A hi c) wx) ∧ Rd w B A hi (l.take hi) := by
  refine ⟨fun wx => ?_, h.pre h2⟩
  obtain ⟨i, hi', hz0, hz1, hz2⟩ := info_parts infoB
  subst ey
  rw [run_slice_h (P := Tryd.prog) (t := 64) (ht := by rw [sizeB]; exact Tryd.underlying64) (h0 := by omega) (h2 := by omega), sizeB]
  cases A with
  | none => simp [sizeOf, typeInfo, hi', hz1, sliced, Result.andThen]
  | some a =>
    have e : a.add 0 = a := by unfold Addr.add; rw [if_pos rfl]
    simp [sizeOf, typeInfo, hi', hz1, sliced, Result.andThen, e]
end Go.Proofs.YtdbdlgmejddbhaaDoor
