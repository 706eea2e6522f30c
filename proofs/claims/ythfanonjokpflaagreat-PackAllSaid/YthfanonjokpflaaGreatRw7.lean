/-
  The developers' Merge of columns.
-/
import Derived.Test.YthfanonjokpflaaGreatTkl
import Derived.Test.YthfanonjokpflaaGreatRw2
import Derived.Test.YthfanonjokpflaaGreatCeA
import Derived.Test.YthfanonjokpflaaGreatCeZ
import Derived.Test.YthfanonjokpflaaGreatKq
import Derived.Lib.SmallJoins
import Derived.Test.YthfanonjokpflaaGreatRo
import Derived.Test.YthfanonjokpflaaGreatRoB
import Derived.Deep.DeepCutAuto
import Derived.Deep.CutBlock
import Derived.Lib.Bytealg
import Derived.Deep.RegionWith
import Derived.Laws.IdiomStrings
import Derived.Laws.IdiomRangeMap
set_option linter.unusedVariables false
set_option linter.unusedSimpArgs false
namespace Go.Proofs.YthfanonjokpflaaGreat
open Go Go.RowKit

theorem kRow_put (L : Cols) (y x : ByteArray × Ce) :
    (((((kRow (L ++ [y])).set (L.length * 5) (.string x.1)).set (L.length * 5 + 1) (.string x.2.s)).set (L.length * 5 + 2) (.bool x.2.d)).set (L.length * 5 + 3) (.int .i64 x.2.a)).set (L.length * 5 + 4) (.int .i64 x.2.e) = kRow (L ++ [x]) := by
  have hl := kRow_length L
  rw [kRow_append, kRow_append]
  have e : ∀ (k : List Value) (i : Nat) (v : Value), (kRow L ++ k).set (L.length * 5 + i) v = kRow L ++ k.set i v := fun k i v => by
    rw [List.set_append_right _ _ (by omega)]
    congr 1
    rw [show L.length * 5 + i - (kRow L).length = i by omega]
  have e0 := e (kRow [y]) 0
  rw [Nat.add_zero] at e0
  rw [e0, e, e, e, e]
  simp [kRow, kcs]
theorem Cur.put {w0 w : World} {g m cap u : Nat} {L M : Cols} {y : ByteArray × Ce} (h : Cur w0 w (.slice (some ⟨g, 0, none⟩) m cap) M) (hM : M = L ++ [y]) (hu : L.length = u) (m' : ByteArray) (s' : ByteArray) (d' : Bool) (a' e' : Int) :
    Cur w0 (((((w.setCell ⟨g, u * 5, none⟩ (.string m')).setCell ⟨g, u * 5 + 1, none⟩ (.string s')).setCell ⟨g, u * 5 + 2, none⟩ (.bool d')).setCell ⟨g, u * 5 + 3, none⟩ (.int .i64 a')).setCell ⟨g, u * 5 + 4, none⟩ (.int .i64 e')) (.slice (some ⟨g, 0, none⟩) m cap) (L ++ [(m', ⟨s', d', a', e'⟩)]) := by
  subst hM
  have hm : m = (L ++ [y]).length := by
    obtain ⟨A, c, e, _⟩ := own_slice h.own
    injection e
  subst hm
  subst hu
  have h0 := h.own
  have h1 := (h0.stored (L.length * 5) (.string m')).1
  have h2 := (h1.stored (L.length * 5 + 1) (.string s')).1
  have h3 := (h2.stored (L.length * 5 + 2) (.bool d')).1
  have h4 := (h3.stored (L.length * 5 + 3) (.int .i64 a')).1
  have h5 := (h4.stored (L.length * 5 + 4) (.int .i64 e')).1
  rw [show _ = _ from kRow_put L y (m', ⟨s', d', a', e'⟩)] at h5
  have hg := (h0.lt g rfl).1
  refine ⟨?_, ((((h.below.setCell hg _).setCell hg _).setCell hg _).setCell hg _).setCell hg _⟩
  have e : (L ++ [(m', (⟨s', d', a', e'⟩ : Ce))]).length = (L ++ [y]).length := by simp
  rw [e]
  exact h5
theorem Cur.appN {w0 w w' : World} {v v' : Value} {C k : Cols} {N : Nat} (h : Cur w0 w v C) (ho : w'.ownsRow w0.heap.size 99 5 v' N (kRow (C ++ k))) (hg : w.grownBy w' v.ownBlock) : ∃ A m c, v' = .slice A m c ∧ Cur w0 w' (.slice A m c) (C ++ k) := by
  have hN : N = (C ++ k).length := by have := ho.1; rw [kRow_length] at this; omega
  subst hN
  obtain ⟨A, c, rfl, _⟩ := own_slice ho
  exact ⟨A, _, c, rfl, ho, grown_ownN h.below (Nat.le_refl _) h.own hg⟩
theorem Cur.last {w0 w : World} {A : Option Addr} {m c : Nat} {L M : Cols} {y : ByteArray × Ce} (h : Cur w0 w (.slice A m c) M) (hM : M = L ++ [y]) : ∃ g, A = some ⟨g, 0, none⟩ ∧ w0.heap.size ≤ g ∧ g < w.heap.size ∧ (w.cell? ⟨g, (L.length * 5), none⟩ = some (.string y.1) ∧ w.cell? ⟨g, (L.length * 5) + 1, none⟩ = some (.string y.2.s) ∧ w.cell? ⟨g, (L.length * 5) + 2, none⟩ = some (.bool y.2.d) ∧ w.cell? ⟨g, (L.length * 5) + 3, none⟩ = some (.int .i64 y.2.a) ∧ w.cell? ⟨g, (L.length * 5) + 4, none⟩ = some (.int .i64 y.2.e)) ∧ ∀ i, w.frozen? ⟨g, i, none⟩ = false := by
  subst hM
  have hown := h.own
  rcases h.own.2 with ⟨_, e⟩ | ⟨g, cap, cur, e, hb, hh, hn, hm, hs, ht⟩
  · simp at e
  · injection e with e1 e2 e3
    subst e1; subst e2; subst e3
    have hl : L.length < (L ++ [y]).length := by simp
    have hy : (L ++ [y])[L.length]'hl = y := by simp
    have key : ∀ i (hi : i < 5) u, (kcs y)[i]? = some u → w.cell? ⟨g, L.length * 5 + i, none⟩ = some u := fun i hi u hu => by
      have := hown.cells (g := g) rfl (L.length * 5 + i) u (by rw [kRow_at _ _ _ hl hi, hy]; exact hu)
      rw [Addr.add_lit, Nat.zero_add] at this
      exact this
    exact ⟨g, rfl, hb, (Array.getElem?_eq_some_iff.1 hh).1, ⟨key 0 (by omega) _ rfl, key 1 (by omega) _ rfl, key 2 (by omega) _ rfl, key 3 (by omega) _ rfl, key 4 (by omega) _ rfl⟩, fun i => hown.frozenAt i⟩

end Go.Proofs.YthfanonjokpflaaGreat
