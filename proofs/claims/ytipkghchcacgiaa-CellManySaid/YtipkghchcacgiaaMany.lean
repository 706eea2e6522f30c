/-
  Plain: of many cells the join is the greatest, in whatever order. Own rows of cells.
-/
import Derived.Test.YtipkghchcacgiaaNx3
set_option linter.unusedVariables false
set_option linter.unusedSimpArgs false
namespace Go.Proofs.Ytipkghchcacgiaa
open Go Go.RowKit Go.Joins

def zeroC : Ce := ⟨⟨#[]⟩, false, 0, 0⟩
/-- x is above the first i of C, taken in the order f, and one of them. -/
def UpTo (C : List Ce) (f : Nat → Nat) (i : Nat) (x : Ce) : Prop := (∀ k, k < i → ∀ h : f k < C.length, (C[f k]).cmp x ≤ 0) ∧ zeroC.cmp x ≤ 0 ∧ (x = zeroC ∨ x ∈ C)
theorem UpTo.zero (C : List Ce) (f : Nat → Nat) : UpTo C f 0 zeroC := ⟨fun k hk => absurd hk (by omega), by rw [cmp_self]; decide, Or.inl rfl⟩
theorem UpTo.step {C : List Ce} {f : Nat → Nat} {i : Nat} {x y : Ce} (h : UpTo C f i x) (hi : f i < C.length) (hy : y = x.join C[f i]) : UpTo C f (i + 1) y := by
  obtain ⟨h1, h2, h3⟩ := h
  obtain ⟨j1, j2⟩ := join_le x C[f i]
  rw [← hy] at j1 j2
  refine ⟨fun k hk hf => ?_, cmp_tot.trans _ _ _ h2 j1, ?_⟩
  · rcases Nat.lt_or_ge k i with h4 | h4
    · exact cmp_tot.trans _ _ _ (h1 k h4 hf) j1
    · obtain rfl : k = i := by omega
      exact j2
  · rw [hy]
    rcases join_or x C[f i] with e | e <;> rw [e]
    · exact h3
    · exact Or.inr (List.getElem_mem hi)
theorem UpTo.le {C : List Ce} {f : Nat → Nat} {x y : Ce} (hx : x = zeroC ∨ x ∈ C) (h : UpTo C f C.length y) (hf : ∀ k, k < C.length → ∃ j, j < C.length ∧ f j = k) : x.cmp y ≤ 0 := by
  rcases hx with rfl | hx
  · exact h.2.1
  · obtain ⟨k, hk, rfl⟩ := List.getElem_of_mem hx
    obtain ⟨j, hj, e⟩ := hf k hk
    subst e
    exact h.1 j hj hk
theorem rot_onto (n c : Nat) : ∀ k, k < n → ∃ j, j < n ∧ (j + c) % n = k := fun k hk => by
  refine ⟨(k + (n - c % n)) % n, Nat.mod_lt _ (by omega), ?_⟩
  have h1 : c % n < n := Nat.mod_lt _ (by omega)
  rw [Nat.add_mod, Nat.mod_mod, ← Nat.add_mod, Nat.add_assoc]
  have h2 : n - c % n + c = n + n * (c / n) := by have := Nat.div_add_mod c n; omega
  rw [h2, ← Nat.add_assoc, Nat.add_mul_mod_self_left, Nat.add_mod_right, Nat.mod_eq_of_lt hk]
theorem UpTo.same {C : List Ce} {c : Nat} {x y : Ce} (hx : UpTo C (fun k => k) C.length x) (hy : UpTo C (fun k => (k + c) % C.length) C.length y) : x = y :=
  cmp_anti _ _ (UpTo.le hx.2.2 hy (rot_onto _ c)) (UpTo.le hy.2.2 hx fun k hk => ⟨k, hk, rfl⟩)

/-! ### own rows of cells -/
theorem cs_length (l : List Ce) : (l.flatMap Ce.cs).length = l.length * 4 := by
  induction l with
  | nil => rfl
  | cons c l ih => rw [List.flatMap_cons, List.length_append, ih, List.length_cons]; simp [Ce.cs]; omega
theorem cs_one (l : List Ce) : ∀ u ∈ l.flatMap Ce.cs, u.oneCell' = true := by
  intro u hu
  obtain ⟨c, _, hc⟩ := List.mem_flatMap.1 hu
  unfold Ce.cs at hc
  simp only [List.mem_cons, List.not_mem_nil, or_false] at hc
  rcases hc with rfl | rfl | rfl | rfl <;> rfl
theorem infoC : (Try.prog.info? 23).map (fun i => (i.zero, i.size, i.bytes)) = some (some (.agg #[.string ⟨#[]⟩, .bool false, .int .i64 0, .int .i64 0]), 4, 40) := by kernel_rfl
/-- append(own, a cell). -/
theorem run_appC {w : World} (base : Nat) {v : Value} {n : Nat} {l : List Ce} (hown : w.ownsRow base 23 4 v n (l.flatMap Ce.cs)) {ad : Addr} {x : Ce}
    (hc : ∀ j u, x.cs[j]? = some u → w.cell? (ad.add j) = some u) (hsz : n ≤ 1000000) (hbase : base ≤ w.heap.size) (ty : TypeId) :
    ∃ v' w', (Builtin.append_ #[39, 39] ty #[v, .slice (some ad) 1 1]).run Try.prog w = .ok v' w' ∧ (w'.ownsRow base 23 4 v' (n + 1) ((l ++ [x]).flatMap Ce.cs) ∧ (w.grownBy w' v.ownBlock ∧ (v'.ownBlock = v.ownBlock ∨ v'.ownBlock = some w.heap.size))) := by
  obtain ⟨i, hi, hz0, hz1, hz2⟩ := info_parts infoC
  obtain ⟨v', w', h1, h2, h3, _, h5⟩ := run_append_own_at (P := Try.prog) w base 39 ty 23 i (.agg #[.string ⟨#[]⟩, .bool false, .int .i64 0, .int .i64 0]) 4 40 Try.underlying39 hi hz0 hz1 hz2 rfl (by decide) v n (l.flatMap Ce.cs) hown ad 1 1 x.cs
    (by simp [Ce.cs]) hc (by have := cs_one [x]; simpa using this) (by unfold maxLen; omega) (by omega) hbase
  exact ⟨v', w', h1, by rw [List.flatMap_append, show [x].flatMap Ce.cs = x.cs by simp]; exact h2, h3, h5⟩
theorem RdC.of_own {w : World} {base n c : Nat} {A : Option Addr} {l : List Ce} (h : w.ownsRow base 23 4 (.slice A n c) n (l.flatMap Ce.cs)) : RdC w w.heap.size A n l := by
  have hl : l.length = n := by have := h.1; rw [cs_length] at this; omega
  rcases h.2 with ⟨e, rfl⟩ | ⟨g, cap, cur, e, hb, hh, hn, hm, hs, ht⟩
  · exact ⟨hl, fun h => absurd h (by omega)⟩
  · injection e with e1 e2 e3
    subst e1
    have key : ∀ j i (hj : j < l.length) (hi : i < 4) (u : Value), (l[j].cs)[i]? = some u → w.cell? ⟨g, 0 + (j * 4 + i), none⟩ = some u := fun j i hj hi u hu => by
      have := h.cells (g := g) rfl (j * 4 + i) u ((cs_at l j i hj hi).trans hu)
      rw [Addr.add_lit] at this
      exact this
    refine ⟨hl, fun hn => ⟨g, 0, rfl, (Array.getElem?_eq_some_iff.1 hh).1, fun j hj => ⟨key j 0 hj (by omega) _ rfl, key j 1 hj (by omega) _ rfl, key j 2 hj (by omega) _ rfl, key j 3 hj (by omega) _ rfl⟩⟩⟩
def lenV : Value → Nat
  | .slice _ n _ => n
  | _ => 0
end Go.Proofs.Ytipkghchcacgiaa
