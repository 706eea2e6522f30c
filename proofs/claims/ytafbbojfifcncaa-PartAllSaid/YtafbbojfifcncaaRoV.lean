/-
  The developers' calls, a row as one thing.
-/
import Derived.Test.YtafbbojfifcncaaRw8
import Derived.Test.YtafbbojfifcncaaRw2
set_option linter.unusedVariables false
set_option linter.unusedSimpArgs false
namespace Go.Proofs.Ytafbbojfifcncaa
open Go Go.RowKit

/-- A row's value, its columns at A. -/
def Ro.val (R : Ro) (A : Option Addr) (c : Nat) : Value := .agg #[.string R.key, .string R.live.s, .bool R.live.d, .int .i64 R.live.a, .int .i64 R.live.e, .int .i64 R.gone, .int .i64 R.shade, .slice A R.cols.length c]
/-- Its columns can be read there. -/
structure RoIn (w : World) (B : Nat) (R : Ro) (A : Option Addr) (c : Nat) : Prop where
  rd : RdK w B A R.cols.length R.cols
  cap : R.cols.length ≤ c
theorem RoIn.below {w w' : World} {B : Nat} {R : Ro} {A : Option Addr} {c : Nat} (h : RoIn w B R A c) (hb : Below B w w') : RoIn w' B R A c := ⟨h.rd.below hb, h.cap⟩
theorem RoIn.up {w : World} {B B' : Nat} {R : Ro} {A : Option Addr} {c : Nat} (h : RoIn w B R A c) (hB : B ≤ B') : RoIn w B' R A c :=
  ⟨⟨h.rd.1, fun hn => by
    obtain ⟨g, o, e, hg, hc⟩ := h.rd.2 hn
    exact ⟨g, o, e, by omega, hc⟩⟩, h.cap⟩
/-- A row's cells at block q. -/
def Ro.At (R : Ro) (w : World) (q : Nat) (A : Option Addr) (c : Nat) : Prop := RoAt w q R.key R.live.s R.live.d R.live.a R.live.e R.gone R.shade A R.cols.length c
theorem Cur.roIn {w0 w : World} {R : Ro} {A : Option Addr} {c : Nat} (h : Cur w0 w (.slice A R.cols.length c) R.cols) : RoIn w w.heap.size R A c := by
  obtain ⟨A', c', e, h1, _, _, h4⟩ := h.slice
  injection e with e1 e2 e3
  subst e1; subst e3
  exact ⟨h4, h1⟩

theorem check_ro (R : Ro) (A : Option Addr) (c B : Nat) (w : World) (h : RoIn w B R A c) (hB : B ≤ w.heap.size) (hn : R.cols.length ≤ 1000) (hf : Few R.cols) (hs : R.live.s.size ≤ maxLen) :
    Calls Try.prog 47 #[R.val A c] w fun x w' => x = .returned (.bool R.ok) ∧ Below w.heap.size w w' :=
  checkrow_any R.key R.live.s R.live.d R.live.a R.live.e R.gone R.shade A R.cols.length c B R.cols w h.rd hB (by omega) hf hs
theorem same_ro (R R' : Ro) (A A' : Option Addr) (c c' B B' : Nat) (w : World) (h : RoIn w B R A c) (h' : RoIn w B' R' A' c') (hB : B ≤ w.heap.size) (hB' : B' ≤ w.heap.size) (hn : R.cols.length ≤ 1000) (hn' : R'.cols.length ≤ 1000) :
    Calls Try.prog 33 #[R.val A c, R'.val A' c'] w fun x w' => x = .returned (.bool (R.same R')) ∧ Below w.heap.size w w' :=
  samerow_any R.key R.live.s R'.key R'.live.s R.live.d R'.live.d R.live.a R.live.e R.gone R.shade R'.live.a R'.live.e R'.gone R'.shade A A' R.cols.length c R'.cols.length c' B B' R.cols R'.cols w h.rd h'.rd hB hB' (by omega) (by omega)
theorem join_ro (R R' X : Ro) (A A' : Option Addr) (c c' B B' : Nat) (w : World) (h : RoIn w B R A c) (h' : RoIn w B' R' A' c') (hB : B ≤ w.heap.size) (hB' : B' ≤ w.heap.size) (hn : R.cols.length + R'.cols.length ≤ 1000) (hu : R.Up) (hu' : R'.Up) (hX : R.join R' = X) :
    Calls Try.prog 37 #[R.val A c, R'.val A' c'] w fun x w' => ∃ Aj cj, x = .returned (X.val Aj cj) ∧ Cur w w' (.slice Aj X.cols.length cj) X.cols := by
  subst hX
  refine (joinrow_any R.key R.live.s R'.key R'.live.s R.live.d R'.live.d R.live.a R.live.e R.gone R.shade R'.live.a R'.live.e R'.gone R'.shade A A' R.cols.length c R'.cols.length c' B B' R.cols R'.cols w h.rd h'.rd hB hB' h.cap h'.cap hn hu.rise hu.full hu'.rise hu'.full).mono ?_
  rintro x w' ⟨js, jd, ja, je, Aj, cj, hj, rfl, hc⟩
  refine ⟨Aj, cj, ?_, hc⟩
  have hj' : R.live.join R'.live = ⟨js, jd, ja, je⟩ := hj
  unfold Ro.val Ro.join
  simp only
  rw [hj']
theorem gone_ro (R : Ro) (A : Option Addr) (c : Nat) (p : Int) (w : World) :
    Calls Try.prog 64 #[R.val A c, .int .i64 p] w fun x w' => x = .returned (.int .i64 (max R.gone p)) ∧ Below w.heap.size w w' :=
  gone_any R.key R.live.s R.live.d R.live.a R.live.e R.gone R.shade p A R.cols.length c w
theorem seen_ro (R : Ro) (A : Option Addr) (c B : Nat) (p now : Int) (w : World) (h : RoIn w B R A c) (hB : B ≤ w.heap.size) (hn : R.cols.length ≤ 1000) :
    Calls Try.prog 43 #[R.val A c, .int .i64 p, .int .i64 now] w fun x w' => ∃ v, x = .returned v ∧ Cur w w' v (seenD (max R.gone p) now R.cols) :=
  seenrow_any R.key R.live.s R.live.d R.live.a R.live.e R.gone R.shade p now A R.cols.length c B R.cols w h.rd hB (by omega)
theorem is_ro (R : Ro) (A : Option Addr) (c B : Nat) (p now : Int) (st : Bool) (w : World) (h : RoIn w B R A c) (hB : B ≤ w.heap.size) (hn : R.cols.length ≤ 1000) :
    Calls Try.prog 42 #[R.val A c, .int .i64 p, .int .i64 now, .bool st] w fun x w' => x = .returned (.bool (isD R.live R.gone R.shade p now R.cols st)) ∧ Below w.heap.size w w' :=
  isrow_any R.key R.live.s R.live.d R.live.a R.live.e R.gone R.shade p now st A R.cols.length c B R.cols w h.rd hB (by omega)
end Go.Proofs.Ytafbbojfifcncaa
