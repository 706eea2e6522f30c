/-
  The developers' byName, joinCols.
-/
import Derived.Test.YtafbbojfifcncaaRw2
import Derived.Test.YtafbbojfifcncaaCe3
import Derived.Lib.Bytealg
import Derived.Deep.RegionWith
set_option linter.unusedVariables false
set_option linter.unusedSimpArgs false
namespace Go.Proofs.Ytafbbojfifcncaa
open Go Go.RowKit

theorem compareBytes_eq : ∀ (a b : List UInt8), Lib.compareBytes a b = if a < b then -1 else if b < a then 1 else 0
  | [], [] => by rw [if_neg (List.lt_irrefl _), if_neg (List.lt_irrefl _)]; rfl
  | [], _ :: _ => by rw [if_pos (by exact List.nil_lt_cons _ _)]; rfl
  | _ :: _, [] => by rw [if_neg (by exact fun h => by cases h), if_pos (by exact List.nil_lt_cons _ _)]; rfl
  | x :: a, y :: b => by
    have ih := compareBytes_eq a b
    unfold Lib.compareBytes
    by_cases h1 : x < y
    · rw [if_pos h1, if_pos (List.cons_lt_cons_iff.2 (.inl h1))]
    · rw [if_neg h1]
      by_cases h2 : y < x
      · rw [if_pos h2, if_neg (fun h => (List.cons_lt_cons_iff.1 h).elim h1 (fun h3 => h1 (by have := h3.1; subst this; exact absurd h2 h1))), if_pos (List.cons_lt_cons_iff.2 (.inl h2))]
      · rw [if_neg h2, ih]
        have e : x = y := by
          have h3 := UInt8.not_lt.1 h1
          have h4 := UInt8.not_lt.1 h2
          exact UInt8.le_antisymm h4 h3
        subst e
        simp only [List.cons_lt_cons_iff, UInt8.lt_irrefl, false_or, true_and]
theorem compareBytes_t (a b : ByteArray) : Lib.compareBytes a.data.toList b.data.toList = tcmp a b := compareBytes_eq _ _

set_option maxRecDepth 8000 in
theorem cmpstr_any (a b : ByteArray) (w : World) :
    Calls Try.prog 77 #[.string a, .string b] w fun e w' => e = .returned (.int .i64 (tcmp a b)) ∧ w = w' := by
  go_enter Try.func77, Try.ntmps77
  go_wp2
  rw [run_callFunc_extern Try.func87 (by kernel_rfl) (by kernel_rfl) (by kernel_rfl) (e := Extern.BytealgCompare.compare) (by kernel_rfl), Lib.run_compareString, compareBytes_t]
  simp only [Result.andThen]
  rw [Oper.upon_value]
  go_wp2
  go_ret
  exact ⟨rfl, rfl⟩
set_option maxRecDepth 8000 in
theorem strcmp_any (a b : ByteArray) (w : World) :
    Calls Try.prog 54 #[.string a, .string b] w fun e w' => e = .returned (.int .i64 (tcmp a b)) ∧ w = w' := by
  go_enter Try.func54, Try.ntmps54
  go_wp2_with fail
  refine (cmpstr_any _ _ _).mono ?_
  rintro e w' ⟨rfl, rfl⟩
  go_wp2
  go_ret
  exact ⟨rfl, rfl⟩

theorem byname_any (m s m' s' : ByteArray) (d d' : Bool) (a e a' e' : Int) (w : World) :
    Calls Try.prog 57 #[.agg #[.string m, .string s, .bool d, .int .i64 a, .int .i64 e], .agg #[.string m', .string s', .bool d', .int .i64 a', .int .i64 e']] w fun x w' => x = .returned (.int .i64 (tcmp m m')) ∧ Below w.heap.size w w' := by
  have bz := Lib.hid (((Below.refl w.heap.size w).alloc (Nat.le_refl _) (.cells #[.string m, .string s, .bool d, .int .i64 a, .int .i64 e] 66)).alloc (by simp) (.cells #[.string m', .string s', .bool d', .int .i64 a', .int .i64 e'] 66))
  go_enter Try.func57, Try.ntmps57
  go_wp2_with fail
  refine (strcmp_any _ _ _).mono ?_
  rintro x w' ⟨rfl, rfl⟩
  go_wp2
  go_ret
  exact ⟨rfl, bz.out⟩

set_option maxHeartbeats 4000000 in
theorem joincols_any (m s m' s' : ByteArray) (d d' : Bool) (a e a' e' : Int) (w : World) :
    Calls Try.prog 58 #[.agg #[.string m, .string s, .bool d, .int .i64 a, .int .i64 e], .agg #[.string m', .string s', .bool d', .int .i64 a', .int .i64 e']] w fun x w' => ∃ js jd ja je, Ce.join ⟨s, d, a, e⟩ ⟨s', d', a', e'⟩ = ⟨js, jd, ja, je⟩ ∧ x = .returned (.agg #[.string m, .string js, .bool jd, .int .i64 ja, .int .i64 je]) ∧ Below w.heap.size w w' := by
  obtain ⟨⟨js, jd, ja, je⟩, hj⟩ : ∃ c, Ce.join ⟨s, d, a, e⟩ ⟨s', d', a', e'⟩ = c := ⟨_, rfl⟩
  have J1 := Lib.hid (congrArg Ce.v hj)
  unfold Ce.v at J1
  have HJ := Lib.hid hj
  have bz := ((((Below.refl w.heap.size w).alloc (Nat.le_refl _) (.cells #[.string m, .string s, .bool d, .int .i64 a, .int .i64 e] 66)).alloc (by simp) (.cells #[.string m', .string s', .bool d', .int .i64 a', .int .i64 e'] 66))).alloc (by simp; omega) (.cells #[.string ⟨#[]⟩, .string ⟨#[]⟩, .bool false, .int .i64 0, .int .i64 0] 66)
  have z0 := heap_alloc_new w (.cells #[.string m, .string s, .bool d, .int .i64 a, .int .i64 e] 66)
  have z1 := new_at z0 (.cells #[.string m', .string s', .bool d', .int .i64 a', .int .i64 e'] 66)
  have z2 := new_at z1 (.cells #[.string ⟨#[]⟩, .string ⟨#[]⟩, .bool false, .int .i64 0, .int .i64 0] 66)
  have y1 := heap_alloc_new (w.alloc (.cells #[.string m, .string s, .bool d, .int .i64 a, .int .i64 e] 66)) (.cells #[.string m', .string s', .bool d', .int .i64 a', .int .i64 e'] 66)
  simp only [World.size_alloc] at y1
  have y2 := new_at y1 (.cells #[.string ⟨#[]⟩, .string ⟨#[]⟩, .bool false, .int .i64 0, .int .i64 0] 66)
  have x2 := heap_alloc_new ((w.alloc (.cells #[.string m, .string s, .bool d, .int .i64 a, .int .i64 e] 66)).alloc (.cells #[.string m', .string s', .bool d', .int .i64 a', .int .i64 e'] 66)) (.cells #[.string ⟨#[]⟩, .string ⟨#[]⟩, .bool false, .int .i64 0, .int .i64 0] 66)
  simp only [World.size_alloc] at x2
  obtain ⟨V, hV⟩ : ∃ V, V = ((w.alloc (.cells #[.string m, .string s, .bool d, .int .i64 a, .int .i64 e] 66)).alloc (.cells #[.string m', .string s', .bool d', .int .i64 a', .int .i64 e'] 66)).alloc (.cells #[.string ⟨#[]⟩, .string ⟨#[]⟩, .bool false, .int .i64 0, .int .i64 0] 66) := ⟨_, rfl⟩
  have hVs : V.heap.size = w.heap.size + 3 := by rw [hV]; simp
  rw [← hV] at bz z2 y2 x2
  have p0 := cell_at (i := 0) z2 rfl
  have p1 := cell_at (i := 1) z2 rfl
  have p2 := cell_at (i := 2) z2 rfl
  have p3 := cell_at (i := 3) z2 rfl
  have p4 := cell_at (i := 4) z2 rfl
  have q1 := cell_at (i := 1) y2 rfl
  have q2 := cell_at (i := 2) y2 rfl
  have q3 := cell_at (i := 3) y2 rfl
  have q4 := cell_at (i := 4) y2 rfl
  have Z2 := Lib.hid z2; have X2 := Lib.hid x2; have HVS := Lib.hid hVs; have BZ := Lib.hid bz
  have HLE := Lib.hid (show w.heap.size ≤ w.heap.size + 1 + 1 by omega)
  clear hj z0 z1 z2 y1 y2 x2 hVs bz
  go_enter Try.func58, Try.ntmps58
  go_wp2_with fail
  rw [← hV]
  clear hV
  go_region_with (first
    | (go_at_call 55; refine (join_any _ _ _ _ _ _ _ _ _).mono ?_; rintro x w2 ⟨rfl, b2⟩; unfold Ce.v; rw [J1.out]
       have b2' := next (w := V) (by first | exact (Below.refl _ _).drew | exact below_draws _ _ _ | exact Below.refl _ _) b2
       have m0 := cell_at (i := 0) ((b2'.block w.heap.size (by have := HVS.out; omega)).trans Z2.out) rfl
       have T2 := (b2'.block (w.heap.size + 1 + 1) (by have := HVS.out; omega)).trans X2.out
       have k0 := cell_at (i := 0) T2 rfl
       have k1 := cell_at (i := 1) T2 rfl
       have k2 := cell_at (i := 2) T2 rfl
       have k3 := cell_at (i := 3) T2 rfl
       have k4 := cell_at (i := 4) T2 rfl
       have f0 := thawed_at (i := 0) T2
       have f1 := thawed_at (i := 1) T2
       have f2 := thawed_at (i := 2) T2
       have f3 := thawed_at (i := 3) T2
       have f4 := thawed_at (i := 4) T2
       have BL := Lib.hid (next BZ.out b2')
       clear T2))
  all_goals go_wp2
  all_goals refine bodyPost_ret (v := .agg #[.string m, .string js, .bool jd, .int .i64 ja, .int .i64 je]) ?_ rfl ⟨js, jd, ja, je, HJ.out, rfl, ?_⟩
  all_goals first
    | (simp [results, Try.results58, go_sem, k0, k1, k2, k3, k4]; done)
    | exact ((((BL.out.setCell HLE.out _).setCell HLE.out _).setCell HLE.out _).setCell HLE.out _).setCell HLE.out _
    | exact True.intro
end Go.Proofs.Ytafbbojfifcncaa
