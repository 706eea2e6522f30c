/-
  The developers' calls, a row as one thing.
-/
import Derived.Test.YthfanonjokpflaaGreatTkl
import Derived.Test.YthfanonjokpflaaGreatRw7
import Derived.Test.YthfanonjokpflaaGreatRw5
import Derived.Test.YthfanonjokpflaaGreatRw2
set_option linter.unusedVariables false
set_option linter.unusedSimpArgs false
namespace Go.Proofs.YthfanonjokpflaaGreat
open Go Go.RowKit

/-- A row's value, its columns at A. -/
def Ro.val (R : Ro) (A : Option Addr) (c : Nat) : Value := .agg #[.string R.key, .string R.live.s, .bool R.live.d, .int .i64 R.live.a, .int .i64 R.live.e, .int .i64 R.gone, .int .i64 R.shade, .slice A R.cols.length c]
/-- Its columns can be read there. -/
structure RoIn (w : World) (B : Nat) (R : Ro) (A : Option Addr) (c : Nat) : Prop where
  rd : RdK w B A R.cols.length R.cols
  cap : R.cols.length ≤ c
theorem RoIn.below {w w' : World} {B : Nat} {R : Ro} {A : Option Addr} {c : Nat} (h : RoIn w B R A c) (hb : Below B w w') : RoIn w' B R A c := ⟨h.rd.below hb, h.cap⟩
theorem RoIn.up {w : World} {B B' : Nat} {R : Ro} {A : Option Addr} {c : Nat} (h : RoIn w B R A c) (hB : B ≤ B') : RoIn w B' R A c :=
  ⟨⟨h.rd.1, fun hn => by
    obtain ⟨g, o, e, hg, hc⟩ := h.rd.2 hn
    exact ⟨g, o, e, by omega, hc⟩⟩, h.cap⟩
/-- A row's cells at block q. -/
def Ro.At (R : Ro) (w : World) (q : Nat) (A : Option Addr) (c : Nat) : Prop := RoAt w q R.key R.live.s R.live.d R.live.a R.live.e R.gone R.shade A R.cols.length c

theorem check_ro (R : Ro) (A : Option Addr) (c B : Nat) (w : World) (h : RoIn w B R A c) (hB : B ≤ w.heap.size) (hn : R.cols.length ≤ 1000000) (hf : Few R.cols) (hs : R.live.s.size ≤ maxLen) :
    Calls Tryz.prog 87 #[R.val A c] w fun x w' => x = .returned (.bool R.ok) ∧ Below w.heap.size w w' :=
  checkrow_any R.key R.live.s R.live.d R.live.a R.live.e R.gone R.shade A R.cols.length c B R.cols w h.rd hB (by omega) hf hs
end Go.Proofs.YthfanonjokpflaaGreat
