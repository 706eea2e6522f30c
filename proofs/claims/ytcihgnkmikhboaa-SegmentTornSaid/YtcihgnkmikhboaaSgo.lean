/-
  Put hands back a row of its own; rows of whole numbers. GENERAL in its second half.
-/
import Derived.Test.YtcihgnkmikhboaaSga
import Derived.Test.YtcihgnkmikhboaaOpnS
import Derived.Test.YtcihgnkmikhboaaLwSgSizes
import Derived.Test.YtcihgnkmikhboaaLwSgMore
import Derived.Test.YtcihgnkmikhboaaRs4
set_option linter.unusedVariables false
set_option linter.unusedSimpArgs false
namespace Go.Proofs.Ytcihgnkmikhboaa
open Go Go.RowKit

set_option maxHeartbeats 2000000 in
theorem put_own (A : Option Addr) (n c B : Nat) (l : List UInt8) (s : ByteArray) (w : World) (h : Rd w B A n l) (hB : B ≤ w.heap.size) (hn : n ≤ c) (hc : c ≤ maxLen) (hsz : n ≤ 17592186044416) (hs : s.size ≤ 1099511627776) :
    Calls Try.prog 11 #[.slice A n c, .string s] w fun e w' => ∃ v m, e = .returned v ∧ w'.ownsRow w.heap.size 5 1 v m (Lib.byteCells (l ++ put n s.data.toList)) ∧ Below w.heap.size w w' := by
  have hput := put_length_le n s.data.toList
  rw [← Lib.size_eq] at hput
  have hput6 := frm_length_ge n true s.data.toList
  change 6 ≤ (put n s.data.toList).length at hput6
  obtain ⟨P, hP⟩ : ∃ P, put n s.data.toList = P := ⟨_, rfl⟩
  rw [hP] at hput hput6
  have HP := Lib.hid hP
  clear hP
  unfold maxLen at hc
  go_enter Try.func11, Try.ntmps11
  go_wp2_with fail
  go_region_law (first
    | (refine step_ex rfl (.tmp 10) (.tmp 15) _ _ rfl (.slice A n n) (.slice (some ad1) n1 c1) (by simp [Act.eval, Act.put]) (by simp [Act.eval, Act.put]) (run_appFull (h.drew.below (b1.mono hB)) c1 hr1 (by omega) ?s1) ?_
       case s1 => omega
       intro v1 w3 ho3 hg3)
    | (go_simp; go_at_call 18; refine (lay_int _ n s _ ?hx hs).mono ?_; (case hx => rw [Int.tmod_eq_emod_of_nonneg (by omega)]; omega); rintro e w1 ⟨A1, n1, c1, rfl, hl1, hn1, hc1, hA1, hr1, b1⟩; rw [HP.out] at hl1; obtain ⟨ad1, rfl, _⟩ := hr1.2 (by omega)))
  have b2 : Below w.heap.size w w1 := (Below.drew (Below.refl _ _)).trans b1
  have b3 := b2.grown hg3 b2.size (fun g hg => by cases hg)
  go_wp2
  go_ret
  exact ⟨_, n + n1, rfl, own_down ho3 b2.size, b3⟩

def intRow (l : List Nat) : List Value := l.map fun n => Value.int .i64 (n : Nat)
def RdI (w : World) (B : Nat) (A : Option Addr) (n : Nat) (l : List Nat) : Prop :=
  l.length = n ∧ (0 < n → ∃ g o, A = some ⟨g, o, none⟩ ∧ g < B ∧ ∀ j (hj : j < l.length), w.cell? ⟨g, o + j, none⟩ = some (.int .i64 (l[j] : Nat)))
theorem RdI.on {w w' : World} {B B' n : Nat} {A : Option Addr} {l : List Nat} (h : RdI w B A n l) (hb : Below B w w') (hB : B ≤ B') : RdI w' B' A n l :=
  ⟨h.1, fun hn => by
    obtain ⟨g, o, e, hg, hc⟩ := h.2 hn
    exact ⟨g, o, e, by omega, fun j hj => (hb.cell (p := ⟨g, o + j, none⟩) hg).trans (hc j hj)⟩⟩
theorem RdI.of_own {w : World} {base n : Nat} {v : Value} {l : List Nat} (h : w.ownsRow base 3 1 v n (intRow l)) :
    ∃ A c, v = .slice A n c ∧ n ≤ c ∧ c ≤ maxLen ∧ RdI w w.heap.size A n l := by
  have hl : l.length = n := by have := h.1; unfold intRow at this; rw [List.length_map] at this; omega
  rcases h.2 with ⟨rfl, rfl⟩ | ⟨g, cap, cur, rfl, hb, hh, hn, hm, hs, ht⟩
  · exact ⟨none, 0, rfl, Nat.le_refl _, Nat.zero_le _, hl, fun h => absurd h (by omega)⟩
  · refine ⟨some ⟨g, 0, none⟩, cap, rfl, hn, hm, hl, fun hn => ⟨g, 0, rfl, (Array.getElem?_eq_some_iff.1 hh).1, fun j hj => ?_⟩⟩
    have := h.cells (g := g) rfl j (.int .i64 (l[j] : Nat)) (by unfold intRow; rw [List.getElem?_map, List.getElem?_eq_getElem hj]; rfl)
    rw [Addr.add_lit] at this
    exact this
theorem infoI : (Try.prog.info? 3).map (fun i => (i.zero, i.size, i.bytes)) = some (some (.int .i64 0), 1, 8) := by kernel_rfl
theorem run_appInt {w : World} (base : Nat) {v : Value} {n : Nat} {l : List Nat} (hown : w.ownsRow base 3 1 v n (intRow l)) (s : Nat) {ad : Addr} (hc : w.cell? ad = some (.int .i64 (s : Nat)))
    (hsz : n ≤ 1000000000000) (hbase : base ≤ w.heap.size) (ty : TypeId) :
    ∃ v' w', (Builtin.append_ #[32, 32] ty #[v, .slice (some ad) 1 1]).run Try.prog w = .ok v' w' ∧ (w'.ownsRow base 3 1 v' (n + 1) (intRow (l ++ [s])) ∧ w.grownBy w' v.ownBlock) := by
  obtain ⟨i, hi, hz0, hz1, hz2⟩ := info_parts infoI
  obtain ⟨v', w', h1, h2, h3, _⟩ := run_append_own (P := Try.prog) w base 32 ty 3 i (.int .i64 0) 1 8 Try.underlying32 hi hz0 hz1 hz2 rfl (by decide) v n (intRow l) hown ad 1 1 [.int .i64 (s : Nat)] rfl
    (fun j u hj => by
      rcases j with _ | j
      · have e : ad.add 0 = ad := by unfold Addr.add; rw [if_pos rfl]
        rw [e, hc]
        exact hj
      · simp at hj)
    (fun u hu => by simp at hu; subst hu; rfl) (by unfold maxLen; omega) (by omega) hbase
  exact ⟨v', w', h1, by unfold intRow; rw [List.map_append]; exact h2, h3⟩

/-- Where each record ends. -/
def ends (T : List ByteArray) (k : Nat) : List Nat := (List.range k).map fun j => (puts 0 (lists (T.take (j + 1)))).length
theorem ends_length (T : List ByteArray) (k : Nat) : (ends T k).length = k := by unfold ends; rw [List.length_map, List.length_range]
theorem ends_succ (T : List ByteArray) (k : Nat) : ends T (k + 1) = ends T k ++ [(puts 0 (lists (T.take (k + 1)))).length] := by
  unfold ends
  rw [List.range_succ, List.map_append]
  rfl
theorem ends_get (T : List ByteArray) (k j : Nat) (h : j < (ends T k).length) : (ends T k)[j] = (puts 0 (lists (T.take (j + 1)))).length := by
  simp [ends]
end Go.Proofs.Ytcihgnkmikhboaa
