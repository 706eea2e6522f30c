/-
  The example of layer 1, and the small helpers of its laws: awake, Place.
-/
import Derived.Test.YtdjncindngifhaaRn4
set_option linter.unusedVariables false
namespace Go.Proofs.Ytdjncindngifhaa
open Go Go.RowKit

set_option maxHeartbeats 1600000 in
set_option maxRecDepth 100000 in
theorem awake_any (w : World) :
    Calls Try.prog 9 #[] w fun e w' => e = .returned (.bool true) ∧ Below w.heap.size w w' := by
  have hu : unquoteV (unquoteO [120, 39, 105, 116, 39, 39, 115, 39] 1) = .tuple #[.string ⟨#[105, 116, 39, 115]⟩, .int .i64 8, .bool true] := rfl
  have hq : (quoteL [105, 116, 39, 115]).toArray = #[39, 105, 116, 39, 39, 115, 39] := rfl
  have hn : nameB ⟨#[95, 97, 49]⟩ = true := by decide
  go_enter Try.func9, Try.ntmps9
  go_wp2_with fail
  refine (unquote_any _ _ _ (by decide)).mono ?_
  rintro e w1 ⟨rfl, b1⟩
  rw [hu]
  go_wp2_with fail
  refine (quote_any _ _ (by decide)).mono ?_
  rintro e w2 ⟨rfl, b2⟩
  rw [hq]
  go_wp2_with fail
  refine (name_any _ _ (by decide)).mono ?_
  rintro e w3 ⟨rfl, b3⟩
  rw [hn]
  go_wp2
  go_ret
  exact ⟨rfl, b1.trans ((b2.mono b1.size).trans (b3.mono (Nat.le_trans b1.size b2.size)))⟩

theorem mk_eq (l : List UInt8) (q : ByteArray) (h : q.data.toList = l) : (⟨l.toArray⟩ : ByteArray) = q := by
  rw [← h]
theorem ba_ext {a b : ByteArray} (h : a.data.toList = b.data.toList) : a = b := by
  rw [← mk_eq _ b rfl, ← mk_eq _ a rfl, h]
theorem quote_as (s q : ByteArray) (w : World) (hs : s.size ≤ 1099511627776) (hq : q.data.toList = quoteL s.data.toList) :
    Calls Try.prog 20 #[.string s] w fun e w' => e = .returned (.string q) ∧ Below w.heap.size w w' :=
  (quote_any s w hs).mono fun e w' ⟨he, hb⟩ => ⟨by rw [he, mk_eq _ q hq], hb⟩
/-- Quote, its answer under a name of its own. -/
theorem quote_ex (s : ByteArray) (w : World) (hs : s.size ≤ 1099511627776) :
    Calls Try.prog 20 #[.string s] w fun e w' => ∃ q : ByteArray, e = .returned (.string q) ∧ q.data.toList = quoteL s.data.toList ∧ Below w.heap.size w w' :=
  (quote_any s w hs).mono fun e w' ⟨he, hb⟩ => ⟨_, he, rfl, hb⟩
theorem fold_as (s q : ByteArray) (w : World) (hs : s.size ≤ 1099511627776) (hq : q.data.toList = foldL s.data.toList) :
    Calls Try.prog 18 #[.string s] w fun e w' => e = .returned (.string q) ∧ Below w.heap.size w w' :=
  (fold_any s w hs).mono fun e w' ⟨he, hb⟩ => ⟨by rw [he, mk_eq _ q hq], hb⟩
theorem unquote_as (s t : ByteArray) (n : Int) (m : Nat) (w : World) (hs : s.size ≤ 1099511627776) (h : unquoteO s.data.toList n = some (t.data.toList, m)) :
    Calls Try.prog 12 #[.string s, .int .i64 n] w fun e w' => e = .returned (.tuple #[.string t, .int .i64 (m : Nat), .bool true]) ∧ Below w.heap.size w w' :=
  (unquote_any s n w hs).mono fun e w' ⟨he, hb⟩ => ⟨by rw [he, h]; rfl, hb⟩
theorem unquote_nil (s : ByteArray) (n : Int) (w : World) (hs : s.size ≤ 1099511627776) (h : unquoteO s.data.toList n = none) :
    Calls Try.prog 12 #[.string s, .int .i64 n] w fun e w' => e = .returned (.tuple #[.string ⟨#[]⟩, .int .i64 0, .bool false]) ∧ Below w.heap.size w w' :=
  (unquote_any s n w hs).mono fun e w' ⟨he, hb⟩ => ⟨by rw [he, h]; rfl, hb⟩

set_option maxHeartbeats 800000 in
/-- Place: the number as one from 0 to n - 1. -/
theorem place_any (v n : Int) (w : World) (hn : 1 ≤ n) (hn2 : n ≤ 4611686018427387904) (hv : -9223372036854775808 ≤ v ∧ v ≤ 9223372036854775807) :
    Calls Try.prog 24 #[.int .i64 v, .int .i64 n] w fun e w' => e = .returned (.int .i64 (v % n)) ∧ w = w' := by
  obtain ⟨hv1, hv2⟩ := hv
  have hb : (n == 0) = false := by simp; omega
  by_cases h0 : 0 ≤ v
  · have h1 := Int.emod_nonneg v (show n ≠ 0 by omega)
    go_enter Try.func24, Try.ntmps24
    go_wp2
    go_ret
    exact ⟨rfl, rfl⟩
  · have hm : v.tmod n = -((-v) % n) := by
      obtain ⟨u, rfl⟩ : ∃ u, v = -u := ⟨-v, by omega⟩
      rw [Int.neg_tmod, Int.tmod_eq_emod_of_nonneg (by omega), Int.neg_neg]
    have h1 := Int.emod_nonneg (-v) (show n ≠ 0 by omega)
    have h2 := Int.emod_lt_of_pos (-v) (show 0 < n by omega)
    have h3 := Int.emod_nonneg v (show n ≠ 0 by omega)
    have h4 := Int.emod_lt_of_pos v (show 0 < n by omega)
    obtain ⟨r, hr⟩ : ∃ r, v.tmod n = r := ⟨_, rfl⟩
    have hdm := Int.mul_ediv_add_emod v n
    have hdm2 := Int.mul_ediv_add_emod (-v) n
    have hsum : v % n = (if r < 0 then r + n else r) := by
      rw [← hr, hm]
      have e : v % n = (-(-v)) % n := by rw [Int.neg_neg]
      rw [e]
      by_cases hz : (-v) % n = 0
      · rw [hz]
        have : n ∣ -v := Int.dvd_of_emod_eq_zero hz
        rw [Int.emod_eq_zero_of_dvd (Int.dvd_neg.2 this)]
        simp
      · rw [if_pos (by omega)]
        have h5 := Int.neg_emod (a := -v) (b := n)
        rw [h5]
        split
        · rename_i hd
          exact absurd (Int.emod_eq_zero_of_dvd hd) hz
        · rw [Int.natAbs_of_nonneg (by omega)]
          omega
    rw [hm] at hr
    have HS := Lib.hid hsum
    have HM := Lib.hid hm
    have hr2 : -n < r ∧ r ≤ 0 := by omega
    obtain ⟨hr3, hr4⟩ := hr2
    have hr' : v.tmod n = r := by rw [hm, hr]
    clear hdm hdm2 hsum hm h1 h2 h3 h4
    clear hr
    go_enter Try.func24, Try.ntmps24
    go_wp2
    · go_ret
      exact ⟨by rw [HS.out, if_pos (by assumption)]; rfl, rfl⟩
    · go_ret
      exact ⟨by rw [HS.out, if_neg (by omega)]; rfl, rfl⟩
end Go.Proofs.Ytdjncindngifhaa
