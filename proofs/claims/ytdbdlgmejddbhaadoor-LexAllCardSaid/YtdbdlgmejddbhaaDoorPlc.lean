/-
  Place, the small helper of the laws. Texts by their lists.
-/
import Derived.Test.YtdbdlgmejddbhaaDoorProg
import Derived.WalkKit
import Derived.BigCall
import Derived.Lib.Hide
import Derived.Lib.Strings
import Derived.OpenShut
set_option linter.unusedVariables false
namespace Go.Proofs.YtdbdlgmejddbhaaDoor
open Go Go.RowKit

theorem mk_eq (l : List UInt8) (q : ByteArray) (h : q.data.toList = l) : (⟨l.toArray⟩ : ByteArray) = q := by
  rw [← h]
theorem ba_ext {a b : ByteArray} (h : a.data.toList = b.data.toList) : a = b := by
  rw [← mk_eq _ b rfl, ← mk_eq _ a rfl, h]

set_option maxHeartbeats 800000 in
/-- Place: the number as one from 0 to n - 1. -/
theorem place_any (v n : Int) (w : World) (hn : 1 ≤ n) (hn2 : n ≤ 4611686018427387904) (hv : -9223372036854775808 ≤ v ∧ v ≤ 9223372036854775807) :
    Calls Tryd.prog 11 #[.int .i64 v, .int .i64 n] w fun e w' => e = .returned (.int .i64 (v % n)) ∧ w = w' := by
  obtain ⟨hv1, hv2⟩ := hv
  have hb : (n == 0) = false := by simp; omega
  by_cases h0 : 0 ≤ v
  · have h1 := Int.emod_nonneg v (show n ≠ 0 by omega)
    go_enter Tryd.func11, Tryd.ntmps11
    go_wp2
    go_ret
    exact ⟨rfl, rfl⟩
  · have hm : v.tmod n = -((-v) % n) := by
      obtain ⟨u, rfl⟩ : ∃ u, v = -u := ⟨-v, by omega⟩
      rw [Int.neg_tmod, Int.tmod_eq_emod_of_nonneg (by omega), Int.neg_neg]
    have h1 := Int.emod_nonneg (-v) (show n ≠ 0 by omega)
    have h2 := Int.emod_lt_of_pos (-v) (show 0 < n by omega)
    have h3 := Int.emod_nonneg v (show n ≠ 0 by omega)
    have h4 := Int.emod_lt_of_pos v (show 0 < n by omega)
    obtain ⟨r, hr⟩ : ∃ r, v.tmod n = r := ⟨_, rfl⟩
    have hdm := Int.mul_ediv_add_emod v n
    have hdm2 := Int.mul_ediv_add_emod (-v) n
    have hsum : v % n = (if r < 0 then r + n else r) := by
      rw [← hr, hm]
      have e : v % n = (-(-v)) % n := by rw [Int.neg_neg]
      rw [e]
      by_cases hz : (-v) % n = 0
      · rw [hz]
        have : n ∣ -v := Int.dvd_of_emod_eq_zero hz
        rw [Int.emod_eq_zero_of_dvd (Int.dvd_neg.2 this)]
        simp
      · rw [if_pos (by omega)]
        have h5 := Int.neg_emod (a := -v) (b := n)
        rw [h5]
        split
        · rename_i hd
          exact absurd (Int.emod_eq_zero_of_dvd hd) hz
        · rw [Int.natAbs_of_nonneg (by omega)]
          omega
    rw [hm] at hr
    have HS := Lib.hid hsum
    have HM := Lib.hid hm
    have hr2 : -n < r ∧ r ≤ 0 := by omega
    obtain ⟨hr3, hr4⟩ := hr2
    have hr' : v.tmod n = r := by rw [hm, hr]
    clear hdm hdm2 hsum hm h1 h2 h3 h4
    clear hr
    go_enter Tryd.func11, Tryd.ntmps11
    go_wp2
    · go_ret
      exact ⟨by rw [HS.out, if_pos (by assumption)]; rfl, rfl⟩
    · go_ret
      exact ⟨by rw [HS.out, if_neg (by omega)]; rfl, rfl⟩
end Go.Proofs.YtdbdlgmejddbhaaDoor
