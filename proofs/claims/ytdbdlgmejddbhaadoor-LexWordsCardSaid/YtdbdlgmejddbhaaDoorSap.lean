/-
  Texts in a slice. GENERAL.
-/
import Derived.Test.YtdbdlgmejddbhaaDoorSab
set_option linter.unusedVariables false
namespace Go.Proofs.YtdbdlgmejddbhaaDoor
open Go Go.RowKit

/-! ### texts in a slice -/
def RdS (w : World) (B : Nat) (A : Option Addr) (n : Nat) (l : List ByteArray) : Prop :=
  l.length = n ∧ (0 < n → ∃ ad, A = some ad ∧ ad.block < B ∧ ∀ j (hj : j < l.length), w.cell? (ad.add j) = some (.string l[j]))
def strRow (l : List ByteArray) : List Value := l.map Value.string
section
variable {w w' : World} {B B' n : Nat} {A : Option Addr} {l : List ByteArray}
theorem RdS.keep (h : RdS w B A n l) (hk : ∀ p : Addr, p.block < B → w'.cell? p = w.cell? p) : RdS w' B A n l :=
  ⟨h.1, fun hn => by
    obtain ⟨ad, e, hb, hc⟩ := h.2 hn
    exact ⟨ad, e, hb, fun j hj => (hk _ (by rw [addr_block]; exact hb)).trans (hc j hj)⟩⟩
theorem RdS.below (h : RdS w B A n l) (hb : Below B w w') : RdS w' B A n l := h.keep fun _ hp => hb.cell hp
theorem RdS.up (h : RdS w B A n l) (hB : B ≤ B') : RdS w B' A n l :=
  ⟨h.1, fun hn => by
    obtain ⟨ad, e, hb, hc⟩ := h.2 hn
    exact ⟨ad, e, by omega, hc⟩⟩
theorem RdS.on (h : RdS w B A n l) (hb : Below B w w') (hB : B ≤ B') : RdS w' B' A n l := (h.below hb).up hB
theorem RdS.at2 (h : RdS w B A n l) {j : Nat} (hj : j < n) : ∃ g o, A = some ⟨g, o, none⟩ ∧ g < B ∧ ∀ i (hi : i < l.length), w.cell? ⟨g, o + i, none⟩ = some (.string l[i]) := by
  obtain ⟨ad, rfl, hb, hc⟩ := h.2 (by omega)
  have h0 := hc 0 (by have := h.1; omega)
  have hs : ad.spot = none := by simpa [Addr.add] using World.cell?_spot h0
  obtain ⟨g, o, sp⟩ := ad
  simp only at hs
  subst hs
  exact ⟨g, o, rfl, hb, fun i hi => by rw [← Addr.add_lit]; exact hc i hi⟩
theorem RdS.cut (h : RdS w B A n l) {k m mx : Nat} (hk : k ≤ m) (hm : m ≤ n) (hx : m ≤ mx) :
    RdS w B (if mx = k then A else A.map (·.add k)) (m - k) ((l.take m).drop k) := by
  refine ⟨by rw [List.length_drop, List.length_take, h.1]; omega, fun hn => ?_⟩
  obtain ⟨ad, rfl, hb, hc⟩ := h.2 (by omega)
  rw [if_neg (by omega)]
  refine ⟨ad.add k, rfl, by rw [addr_block]; exact hb, fun j hj => ?_⟩
  rw [addr_add]
  have hj2 : k + j < l.length := by rw [List.length_drop, List.length_take] at hj; omega
  rw [hc (k + j) hj2]
  simp
theorem RdS.pre (h : RdS w B A n l) {m : Nat} (hm : m ≤ n) : RdS w B A m (l.take m) := by
  refine ⟨by rw [List.length_take, h.1]; omega, fun h0 => ?_⟩
  obtain ⟨ad, e, hb, hc⟩ := h.2 (by omega)
  refine ⟨ad, e, hb, fun j hj => ?_⟩
  have hj2 : j < l.length := by rw [List.length_take] at hj; omega
  rw [hc j hj2]
  simp
theorem RdS.of_own {base : Nat} {v : Value} {n : Nat} (h : w.ownsRow base 9 1 v n (strRow l)) :
    ∃ A c, v = .slice A n c ∧ n ≤ c ∧ c ≤ maxLen ∧ (A = none → c = 0) ∧ RdS w w.heap.size A n l := by
  have hl : l.length = n := by have := h.1; unfold strRow at this; rw [List.length_map] at this; omega
  rcases h.2 with ⟨rfl, rfl⟩ | ⟨g, cap, cur, rfl, hb, hh, hn, hm, hs, ht⟩
  · exact ⟨none, 0, rfl, Nat.le_refl _, Nat.zero_le _, fun _ => rfl, hl, fun h => absurd h (by omega)⟩
  · refine ⟨some ⟨g, 0, none⟩, cap, rfl, hn, hm, fun h => (by cases h), hl, fun hn => ⟨_, rfl, (Array.getElem?_eq_some_iff.1 hh).1, fun j hj => ?_⟩⟩
    refine h.cells (g := g) rfl j _ ?_
    unfold strRow
    rw [List.getElem?_map, List.getElem?_eq_getElem hj]
    rfl
end
theorem infoS : (Tryd.prog.info? 9).map (fun i => (i.zero, i.size, i.bytes)) = some (some (.string ⟨#[]⟩), 1, 16) := by kernel_rfl
theorem run_appText {w : World} (base : Nat) {v : Value} {n : Nat} {l : List ByteArray} (hown : w.ownsRow base 9 1 v n (strRow l)) (s : ByteArray) {ad : Addr} (hc : w.cell? ad = some (.string s))
    (hsz : n ≤ 1000000000000) (hbase : base ≤ w.heap.size) (ty : TypeId) :
    ∃ v' w', (Builtin.append_ #[39, 39] ty #[v, .slice (some ad) 1 1]).run Tryd.prog w = .ok v' w' ∧ (w'.ownsRow base 9 1 v' (n + 1) (strRow (l ++ [s])) ∧ w.grownBy w' v.ownBlock) := by
  obtain ⟨i, hi, hz0, hz1, hz2⟩ := info_parts infoS
  obtain ⟨v', w', h1, h2, h3, _⟩ := run_append_own (P := Tryd.prog) w base 39 ty 9 i (.string ⟨#[]⟩) 1 16 Tryd.underlying39 hi hz0 hz1 hz2 rfl (by decide) v n (strRow l) hown ad 1 1 [.string s] rfl
    (fun j u hj => by
      rcases j with _ | j
      · have e : ad.add 0 = ad := by unfold Addr.add; rw [if_pos rfl]
        rw [e, hc]
        exact hj
      · simp at hj)
    (fun u hu => by simp at hu; subst hu; rfl) (by unfold maxLen; omega) (by omega) hbase
  exact ⟨v', w', h1, by unfold strRow; rw [List.map_append]; exact h2, h3⟩

end Go.Proofs.YtdbdlgmejddbhaaDoor
