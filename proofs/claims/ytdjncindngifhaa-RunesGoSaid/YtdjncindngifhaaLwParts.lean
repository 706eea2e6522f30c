/-
  The walk of RunesParts.
-/
import Derived.Test.YtdjncindngifhaaAwk
import Derived.Test.YtdjncindngifhaaTx
import Derived.WalkSpells
set_option linter.unusedVariables false
namespace Go.Proofs.Ytdjncindngifhaa
open Go Go.RowKit

theorem valid_as (s : ByteArray) (b : Bool) (w : World) (hs : s.size ≤ 1099511627776) (h : validB s = b) :
    Calls Try.prog 14 #[.string s] w fun e w' => e = .returned (.bool b) ∧ Below w.heap.size w w' := by
  rw [← h]
  exact valid_any s w hs
theorem count_as (s : ByteArray) (n : Nat) (w : World) (hs : s.size ≤ 1099511627776) (h : (cps s).length = n) :
    Calls Try.prog 16 #[.string s] w fun e w' => e = .returned (.int .i64 (n : Nat)) ∧ Below w.heap.size w w' := by
  rw [← h]
  exact count_any s w hs
theorem at_as (s : ByteArray) (n : Int) (r p : Nat) (wd : Nat) (w : World) (hs : s.size ≤ 1099511627776) (h : atL (cps s) n = some (r, p, wd)) :
    Calls Try.prog 10 #[.string s, .int .i64 n] w fun e w' => e = .returned (.tuple #[.int .i32 (r : Nat), .int .i64 (p : Nat), .bool true]) ∧ Below w.heap.size w w' := by
  have := at_any s n w hs
  rw [h] at this
  exact this
theorem at_nil (s : ByteArray) (n : Int) (w : World) (hs : s.size ≤ 1099511627776) (h : atL (cps s) n = none) :
    Calls Try.prog 10 #[.string s, .int .i64 n] w fun e w' => e = .returned (.tuple #[.int .i32 0, .int .i64 0, .bool false]) ∧ Below w.heap.size w w' := by
  have := at_any s n w hs
  rw [h] at this
  exact this

theorem atL_nat (l : List (Nat × Nat × Nat)) (k : Nat) : atL l (k : Nat) = l[k]? := by
  unfold atL
  rw [if_neg (by omega), Int.toNat_natCast]

theorem cpsF_le (s : ByteArray) : ∀ f p c, c ∈ cpsF s f p → c.1 ≤ 2147483647 ∧ c.2.1 < s.size
  | 0, p, c, h => by simp [cpsF] at h
  | f + 1, p, c, h => by
    unfold cpsF at h
    by_cases hp : p < s.size
    · rw [if_pos hp] at h
      rcases List.mem_cons.1 h with h | h
      · rw [h]; exact ⟨decode_le s p, hp⟩
      · exact cpsF_le s f _ c h
    · rw [if_neg hp] at h; cases h

set_option maxHeartbeats 4000000 in
set_option maxRecDepth 100000 in
theorem parts_awake (s t : ByteArray) (v : Int) (w : World) (hs : s.size ≤ 9223372036854775807) (ht : t.size ≤ 9223372036854775807) (h : 500 < s.size ∨ 500 < t.size ∨ validB s = false ∨ validB t = false) :
    Calls Try.prog 7 #[.string s, .string t, .int .i64 v] w fun e w' => e = .returned (.bool true) ∧ Below w.heap.size w w' := by
  by_cases h1 : (500 : Int) < s.size
  · go_enter Try.func7, Try.ntmps7
    go_wp2_with (go_at_call 9; refine (awake_any _).mono ?_; rintro e w' ⟨rfl, b1⟩)
    go_ret
    exact ⟨rfl, b1⟩
  by_cases h2 : (500 : Int) < t.size
  · go_enter Try.func7, Try.ntmps7
    go_wp2_with (go_at_call 9; refine (awake_any _).mono ?_; rintro e w' ⟨rfl, b1⟩)
    go_ret
    exact ⟨rfl, b1⟩
  by_cases h3 : validB s = false
  · have H3 := Lib.hid h3
    clear h3 h
    go_enter Try.func7, Try.ntmps7
    go_wp2_with fail
    refine (valid_as s false _ (by omega) H3.out).mono ?_
    rintro e w1 ⟨rfl, b1⟩
    go_wp2_with fail
    refine (awake_any _).mono ?_
    rintro e w2 ⟨rfl, b2⟩
    go_wp2
    go_ret
    exact ⟨rfl, b1.trans (b2.mono b1.size)⟩
  · have h4 : validB t = false := by
      rcases h with h | h | h | h
      · omega
      · omega
      · exact absurd h h3
      · exact h
    have h5 : validB s = true := by simpa using h3
    have H4 := Lib.hid h4
    have H5 := Lib.hid h5
    clear h3 h h4 h5
    go_enter Try.func7, Try.ntmps7
    go_wp2_with fail
    refine (valid_as s true _ (by omega) H5.out).mono ?_
    rintro e w1 ⟨rfl, b1⟩
    go_wp2_with fail
    refine (valid_as t false _ (by omega) H4.out).mono ?_
    rintro e w2 ⟨rfl, b2⟩
    go_wp2_with fail
    refine (awake_any _).mono ?_
    rintro e w3 ⟨rfl, b3⟩
    go_wp2
    go_ret
    exact ⟨rfl, b1.trans ((b2.trans (b3.mono b2.size)).mono b1.size)⟩

set_option maxHeartbeats 4000000 in
set_option maxRecDepth 100000 in
theorem parts_run (s t st : ByteArray) (n m k : Nat) (v : Int) (w : World) (hs : s.size ≤ 500) (ht : t.size ≤ 500) (hst : st.size ≤ 1000)
    (hadd : ∀ wx : World, (Op.stringOp .add s t).run Try.prog wx = .ok (.string st) wx)
    (hvs : Hid (validB s = true)) (hvt : Hid (validB t = true)) (hvst : Hid (validB st = true)) (hn : Hid ((cps s).length = n)) (hm : Hid ((cps t).length = m)) (hnm : Hid ((cps st).length = n + m))
    (hn5 : n ≤ 500) (hm5 : m ≤ 500) (hv : -9223372036854775808 ≤ v ∧ v ≤ 9223372036854775807) (hk : Hid (v % ((n : Int) + m + 1) = k)) (hk2 : k ≤ n + m)
    (hcase : (k < n ∧ ∃ r p wd, r ≤ 2147483647 ∧ p ≤ 1000 ∧ atL (cps st) (k : Nat) = some (r, p, wd) ∧ atL (cps s) (k : Nat) = some (r, p, wd)) ∨
      (n ≤ k ∧ atL (cps s) (k : Nat) = none ∧ ((∃ r p wd, r ≤ 2147483647 ∧ p ≤ 1000 ∧ atL (cps st) (k : Nat) = some (r, s.size + p, wd) ∧ atL (cps t) ((k : Int) - n) = some (r, p, wd)) ∨ (atL (cps st) (k : Nat) = none ∧ atL (cps t) ((k : Int) - n) = none)))) :
    Calls Try.prog 7 #[.string s, .string t, .int .i64 v] w fun e w' => e = .returned (.bool true) ∧ Below w.heap.size w w' := by
  have h1 : ¬ (500 : Int) < s.size := by omega
  have h2 : ¬ (500 : Int) < t.size := by omega
  have e1 : (((n + m : Nat) : Int) == (n : Int) + m) = true := by simp
  have e1b : ((n : Int) + m == (n : Int) + m) = true := by simp
  rcases hcase with ⟨hkn, r, p, wd, hr, hp, ha1, ha2⟩ | ⟨hkn, ha2, ⟨r, p, wd, hr, hp, ha1, ha3⟩ | ⟨ha1, ha3⟩⟩
  · have A1 := Lib.hid ha1
    have A2 := Lib.hid ha2
    clear ha1 ha2
    have e2 : ((r : Int) == r) = true := by simp
    have e3 : ((p : Int) == p) = true := by simp
    go_enter Try.func7, Try.ntmps7
    go_wp2_with fail
    refine (valid_as s true _ (by omega) hvs.out).mono ?_
    rintro e w1 ⟨rfl, b1⟩
    go_wp2_with fail
    refine (valid_as t true _ (by omega) hvt.out).mono ?_
    rintro e w2 ⟨rfl, b2⟩
    go_wp2_with fail
    refine (count_as s n _ (by omega) hn.out).mono ?_
    rintro e w3 ⟨rfl, b3⟩
    go_wp2_with fail
    refine (count_as t m _ (by omega) hm.out).mono ?_
    rintro e w4 ⟨rfl, b4⟩
    go_wp2_with fail
    refine (place_any v _ _ (by omega) (by omega) hv).mono ?_
    rintro e w5 ⟨rfl, rfl⟩
    rw [hk.out]
    go_wp2_with fail
    refine (at_as st k r p wd _ (by omega) A1.out).mono ?_
    rintro e w5 ⟨rfl, b5⟩
    go_wp2_with fail
    refine (at_as s k r p wd _ (by omega) A2.out).mono ?_
    rintro e w6 ⟨rfl, b6⟩
    go_wp2_with fail
    refine (count_as st (n + m) _ (by omega) hnm.out).mono ?_
    rintro e w7 ⟨rfl, b7⟩
    go_wp2_with fail
    refine (valid_as st true _ (by omega) hvst.out).mono ?_
    rintro e w8 ⟨rfl, b8⟩
    go_wp2_with fail
    refine (awake_any _).mono ?_
    rintro e w9 ⟨rfl, b9⟩
    go_wp2
    go_ret
    exact ⟨rfl, b1.trans ((b2.trans ((b3.trans ((b4.trans ((b5.trans ((b6.trans ((b7.trans ((b8.trans (b9.mono b8.size)).mono b7.size)).mono b6.size)).mono b5.size)).mono b4.size)).mono b3.size)).mono b2.size)).mono b1.size)⟩
  · have A1 := Lib.hid ha1
    have A2 := Lib.hid ha2
    have A3 := Lib.hid ha3
    clear ha1 ha2 ha3
    have e2 : ((r : Int) == r) = true := by simp
    have e3 : (((s.size + p : Nat) : Int) == (p : Int) + s.size) = true := by simp; omega
    have e4 : ((s.size : Int) + p == (p : Int) + s.size) = true := by simp; omega
    go_enter Try.func7, Try.ntmps7
    go_wp2_with fail
    refine (valid_as s true _ (by omega) hvs.out).mono ?_
    rintro e w1 ⟨rfl, b1⟩
    go_wp2_with fail
    refine (valid_as t true _ (by omega) hvt.out).mono ?_
    rintro e w2 ⟨rfl, b2⟩
    go_wp2_with fail
    refine (count_as s n _ (by omega) hn.out).mono ?_
    rintro e w3 ⟨rfl, b3⟩
    go_wp2_with fail
    refine (count_as t m _ (by omega) hm.out).mono ?_
    rintro e w4 ⟨rfl, b4⟩
    go_wp2_with fail
    refine (place_any v _ _ (by omega) (by omega) hv).mono ?_
    rintro e w5 ⟨rfl, rfl⟩
    rw [hk.out]
    go_wp2_with fail
    refine (at_as st k r (s.size + p) wd _ (by omega) A1.out).mono ?_
    rintro e w5 ⟨rfl, b5⟩
    go_wp2_with fail
    refine (at_nil s k _ (by omega) A2.out).mono ?_
    rintro e w6 ⟨rfl, b6⟩
    go_wp2_with fail
    refine (at_as t _ r p wd _ (by omega) A3.out).mono ?_
    rintro e w0 ⟨rfl, b0⟩
    go_wp2_with fail
    refine (count_as st (n + m) _ (by omega) hnm.out).mono ?_
    rintro e w7 ⟨rfl, b7⟩
    go_wp2_with fail
    refine (valid_as st true _ (by omega) hvst.out).mono ?_
    rintro e w8 ⟨rfl, b8⟩
    go_wp2_with fail
    refine (awake_any _).mono ?_
    rintro e w9 ⟨rfl, b9⟩
    go_wp2
    go_ret
    exact ⟨rfl, b1.trans ((b2.trans ((b3.trans ((b4.trans ((b5.trans ((b6.trans ((b0.trans ((b7.trans ((b8.trans (b9.mono b8.size)).mono b7.size)).mono b0.size)).mono b6.size)).mono b5.size)).mono b4.size)).mono b3.size)).mono b2.size)).mono b1.size)⟩
  · have A1 := Lib.hid ha1
    have A2 := Lib.hid ha2
    have A3 := Lib.hid ha3
    clear ha1 ha2 ha3
    go_enter Try.func7, Try.ntmps7
    go_wp2_with fail
    refine (valid_as s true _ (by omega) hvs.out).mono ?_
    rintro e w1 ⟨rfl, b1⟩
    go_wp2_with fail
    refine (valid_as t true _ (by omega) hvt.out).mono ?_
    rintro e w2 ⟨rfl, b2⟩
    go_wp2_with fail
    refine (count_as s n _ (by omega) hn.out).mono ?_
    rintro e w3 ⟨rfl, b3⟩
    go_wp2_with fail
    refine (count_as t m _ (by omega) hm.out).mono ?_
    rintro e w4 ⟨rfl, b4⟩
    go_wp2_with fail
    refine (place_any v _ _ (by omega) (by omega) hv).mono ?_
    rintro e w5 ⟨rfl, rfl⟩
    rw [hk.out]
    go_wp2_with fail
    refine (at_nil st k _ (by omega) A1.out).mono ?_
    rintro e w5 ⟨rfl, b5⟩
    go_wp2_with fail
    refine (at_nil s k _ (by omega) A2.out).mono ?_
    rintro e w6 ⟨rfl, b6⟩
    go_wp2_with fail
    refine (at_nil t _ _ (by omega) A3.out).mono ?_
    rintro e w0 ⟨rfl, b0⟩
    go_wp2_with fail
    refine (count_as st (n + m) _ (by omega) hnm.out).mono ?_
    rintro e w7 ⟨rfl, b7⟩
    go_wp2_with fail
    refine (valid_as st true _ (by omega) hvst.out).mono ?_
    rintro e w8 ⟨rfl, b8⟩
    go_wp2_with fail
    refine (awake_any _).mono ?_
    rintro e w9 ⟨rfl, b9⟩
    go_wp2
    go_ret
    exact ⟨rfl, b1.trans ((b2.trans ((b3.trans ((b4.trans ((b5.trans ((b6.trans ((b0.trans ((b7.trans ((b8.trans (b9.mono b8.size)).mono b7.size)).mono b0.size)).mono b6.size)).mono b5.size)).mono b4.size)).mono b3.size)).mono b2.size)).mono b1.size)⟩

theorem parts_law (s t : ByteArray) (v : Int) (w : World) (hs : s.size ≤ maxLen) (ht : t.size ≤ maxLen) (ha : (Lit.int .i64 v).wf = true) :
    Calls Try.prog 7 #[.string s, .string t, .int .i64 v] w fun e w' => e = .returned (.bool true) ∧ Below w.heap.size w w' := by
  have hv : -9223372036854775808 ≤ v ∧ v ≤ 9223372036854775807 := by
    simp only [Lit.wf, Bool.and_eq_true, decide_eq_true_eq] at ha
    exact ⟨ha.1, ha.2⟩
  unfold maxLen at hs ht
  by_cases h : 500 < s.size ∨ 500 < t.size ∨ validB s = false ∨ validB t = false
  · exact parts_awake s t v w hs ht h
  have h1 : ¬ 500 < s.size := fun x => h (.inl x)
  have h2 : ¬ 500 < t.size := fun x => h (.inr (.inl x))
  have h3 : validB s = true := by
    cases hh : validB s with
    | true => rfl
    | false => exact absurd (.inr (.inr (.inl hh))) h
  have h4 : validB t = true := by
    cases hh : validB t with
    | true => rfl
    | false => exact absurd (.inr (.inr (.inr hh))) h
  have hcs := cps_append s t h3
  have hn := cps_length s
  have hm := cps_length t
  have hk0 := Int.emod_nonneg v (show ((cps s).length : Int) + (cps t).length + 1 ≠ 0 by omega)
  have hk1 := Int.emod_lt_of_pos v (show (0 : Int) < ((cps s).length : Int) + (cps t).length + 1 by omega)
  obtain ⟨k, hk⟩ := Int.eq_ofNat_of_zero_le hk0
  rw [hk] at hk1
  refine parts_run s t (s ++ t) _ _ k v w (by omega) (by omega) (by rw [ByteArray.size_append]; omega) (fun wx => run_string_add_sum wx s t (by omega))
    (Lib.hid h3) (Lib.hid h4) (Lib.hid (by rw [validB_append s t h3, h4])) (Lib.hid rfl) (Lib.hid rfl) (Lib.hid (by rw [hcs, List.length_append, List.length_map])) (by omega) (by omega) hv (Lib.hid hk) (by omega) ?_
  rcases Nat.lt_or_ge k (cps s).length with hlt | hge
  · left
    refine ⟨hlt, ?_⟩
    have hg : (cps s)[k]? = some (cps s)[k] := List.getElem?_eq_getElem hlt
    have hb := cpsF_le s _ _ _ (List.getElem_mem hlt)
    obtain ⟨⟨r, p, wd⟩, hc⟩ : ∃ c, (cps s)[k] = c := ⟨_, rfl⟩
    rw [hc] at hg hb
    refine ⟨r, p, wd, hb.1, by have := hb.2; simp only at this; omega, ?_, by rw [atL_nat, hg]⟩
    rw [atL_nat, hcs, List.getElem?_append_left hlt, hg]
  · right
    refine ⟨hge, by rw [atL_nat]; exact List.getElem?_eq_none hge, ?_⟩
    have e : ((k : Int) - (cps s).length) = ((k - (cps s).length : Nat) : Int) := by omega
    rw [e, atL_nat, atL_nat, hcs, List.getElem?_append_right hge, List.getElem?_map]
    rcases Nat.lt_or_ge (k - (cps s).length) (cps t).length with hlt | hge2
    · left
      have hg : (cps t)[k - (cps s).length]? = some (cps t)[k - (cps s).length] := List.getElem?_eq_getElem hlt
      have hb := cpsF_le t _ _ _ (List.getElem_mem hlt)
      obtain ⟨⟨r, p, wd⟩, hc⟩ : ∃ c, (cps t)[k - (cps s).length] = c := ⟨_, rfl⟩
      rw [hc] at hg hb
      refine ⟨r, p, wd, hb.1, by have := hb.2; simp only at this; omega, by rw [hg]; rfl, hg⟩
    · right
      rw [List.getElem?_eq_none hge2]
      exact ⟨rfl, rfl⟩
end Go.Proofs.Ytdjncindngifhaa
