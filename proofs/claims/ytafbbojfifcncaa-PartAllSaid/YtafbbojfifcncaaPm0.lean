/-
  The developers' calls, a row as one thing (RA); a row's key compared.
-/
import Derived.Test.YtafbbojfifcncaaPo
import Derived.Test.YtafbbojfifcncaaPa
set_option linter.unusedVariables false
set_option linter.unusedSimpArgs false
namespace Go.Proofs.Ytafbbojfifcncaa
open Go Go.RowKit

theorem join_ra (x y : RA) (B B' : Nat) (w : World) (h : RaIn w B x) (h' : RaIn w B' y) (hB : B ≤ w.heap.size) (hB' : B' ≤ w.heap.size) (hn : x.ro.cols.length + y.ro.cols.length ≤ 1000) (hu : x.ro.Up) (hu' : y.ro.Up) :
    Calls Try.prog 37 #[.agg #[.string x.ro.key, .string x.ro.live.s, .bool x.ro.live.d, .int .i64 x.ro.live.a, .int .i64 x.ro.live.e, .int .i64 x.ro.gone, .int .i64 x.ro.shade, .slice x.A x.ro.cols.length x.c], .agg #[.string y.ro.key, .string y.ro.live.s, .bool y.ro.live.d, .int .i64 y.ro.live.a, .int .i64 y.ro.live.e, .int .i64 y.ro.gone, .int .i64 y.ro.shade, .slice y.A y.ro.cols.length y.c]] w fun e w' => ∃ z : RA, e = .returned z.v ∧ z.ro = x.ro.join y.ro ∧ Cur w w' (.slice z.A z.ro.cols.length z.c) z.ro.cols := by
  refine (join_ro x.ro y.ro _ x.A y.A x.c y.c B B' w h h' hB hB' hn hu hu' rfl).mono ?_
  rintro e w' ⟨Aj, cj, rfl, hc⟩
  exact ⟨⟨x.ro.join y.ro, Aj, cj⟩, rfl, rfl, hc⟩
theorem same_ra (x y : RA) (B B' : Nat) (w : World) (h : RaIn w B x) (h' : RaIn w B' y) (hB : B ≤ w.heap.size) (hB' : B' ≤ w.heap.size) (hn : x.ro.cols.length ≤ 1000) (hn' : y.ro.cols.length ≤ 1000) :
    Calls Try.prog 33 #[.agg #[.string x.ro.key, .string x.ro.live.s, .bool x.ro.live.d, .int .i64 x.ro.live.a, .int .i64 x.ro.live.e, .int .i64 x.ro.gone, .int .i64 x.ro.shade, .slice x.A x.ro.cols.length x.c], .agg #[.string y.ro.key, .string y.ro.live.s, .bool y.ro.live.d, .int .i64 y.ro.live.a, .int .i64 y.ro.live.e, .int .i64 y.ro.gone, .int .i64 y.ro.shade, .slice y.A y.ro.cols.length y.c]] w fun e w' => e = .returned (.bool (x.ro.same y.ro)) ∧ Below w.heap.size w w' :=
  same_ro x.ro y.ro x.A y.A x.c y.c B B' w h h' hB hB' hn hn'
theorem seen_ra (x : RA) (B : Nat) (p now : Int) (w : World) (h : RaIn w B x) (hB : B ≤ w.heap.size) (hn : x.ro.cols.length ≤ 1000) :
    Calls Try.prog 43 #[.agg #[.string x.ro.key, .string x.ro.live.s, .bool x.ro.live.d, .int .i64 x.ro.live.a, .int .i64 x.ro.live.e, .int .i64 x.ro.gone, .int .i64 x.ro.shade, .slice x.A x.ro.cols.length x.c], .int .i64 p, .int .i64 now] w fun e w' => ∃ A c, e = .returned (.slice A (seenD (max x.ro.gone p) now x.ro.cols).length c) ∧ Cur w w' (.slice A (seenD (max x.ro.gone p) now x.ro.cols).length c) (seenD (max x.ro.gone p) now x.ro.cols) := by
  refine (seen_ro x.ro x.A x.c B p now w h hB hn).mono ?_
  rintro e w' ⟨v, rfl, hc⟩
  obtain ⟨A, c, rfl, _⟩ := hc.slice
  exact ⟨A, c, rfl, hc⟩
theorem is_ra (x : RA) (B : Nat) (p now : Int) (st : Bool) (w : World) (h : RaIn w B x) (hB : B ≤ w.heap.size) (hn : x.ro.cols.length ≤ 1000) :
    Calls Try.prog 42 #[.agg #[.string x.ro.key, .string x.ro.live.s, .bool x.ro.live.d, .int .i64 x.ro.live.a, .int .i64 x.ro.live.e, .int .i64 x.ro.gone, .int .i64 x.ro.shade, .slice x.A x.ro.cols.length x.c], .int .i64 p, .int .i64 now, .bool st] w fun e w' => e = .returned (.bool (x.ro.isD p now st)) ∧ Below w.heap.size w w' :=
  is_ro x.ro x.A x.c B p now st w h hB hn
theorem bykey_ra (x y : RA) (w : World) :
    Calls Try.prog 36 #[.agg #[.string x.ro.key, .string x.ro.live.s, .bool x.ro.live.d, .int .i64 x.ro.live.a, .int .i64 x.ro.live.e, .int .i64 x.ro.gone, .int .i64 x.ro.shade, .slice x.A x.ro.cols.length x.c], .agg #[.string y.ro.key, .string y.ro.live.s, .bool y.ro.live.d, .int .i64 y.ro.live.a, .int .i64 y.ro.live.e, .int .i64 y.ro.gone, .int .i64 y.ro.shade, .slice y.A y.ro.cols.length y.c]] w fun e w' => e = .returned (.int .i64 (tcmp x.ro.key y.ro.key)) ∧ Below w.heap.size w w' := by
  have bz := Lib.hid (((Below.refl w.heap.size w).alloc (Nat.le_refl _) (.cells #[.string x.ro.key, .string x.ro.live.s, .bool x.ro.live.d, .int .i64 x.ro.live.a, .int .i64 x.ro.live.e, .int .i64 x.ro.gone, .int .i64 x.ro.shade, .slice x.A x.ro.cols.length x.c] 36)).alloc (by simp) (.cells #[.string y.ro.key, .string y.ro.live.s, .bool y.ro.live.d, .int .i64 y.ro.live.a, .int .i64 y.ro.live.e, .int .i64 y.ro.gone, .int .i64 y.ro.shade, .slice y.A y.ro.cols.length y.c] 36))
  go_enter Try.func36, Try.ntmps36
  go_wp2_with fail
  refine (strcmp_any _ _ _).mono ?_
  rintro e w' ⟨rfl, rfl⟩
  go_wp2
  go_ret
  exact ⟨rfl, bz.out⟩
def tot (L : List RA) : Nat := (L.map fun x => x.ro.cols.length).sum
theorem tot_cons (x : RA) (L : List RA) : tot (x :: L) = x.ro.cols.length + tot L := by simp [tot]
theorem tot_app (L k : List RA) : tot (L ++ k) = tot L + tot k := by simp [tot]
theorem tot_nil : tot [] = 0 := rfl
theorem tot_mem {L : List RA} {x : RA} (h : x ∈ L) : x.ro.cols.length ≤ tot L := by
  induction L with
  | nil => cases h
  | cons y L ih =>
    rw [tot_cons]
    rcases List.mem_cons.1 h with rfl | h1
    · omega
    · have := ih h1; omega
end Go.Proofs.Ytafbbojfifcncaa
