/-
  The walk of RunesDoubled.
-/
import Derived.Test.YtdjncindngifhaaAwk
import Derived.Deep.RegionHeld3
import Derived.Deep.DrawnRows
import Derived.WalkSpells
set_option linter.unusedVariables false
namespace Go.Proofs.Ytdjncindngifhaa
open Go Go.RowKit
attribute [local go_sem ↓] Go.wp_at_zero Go.wp_at_succ

/-- Quote, its answer under a name of its own. -/
theorem quote_ex (s : ByteArray) (w : World) (hs : s.size ≤ 1099511627776) :
    Calls Try.prog 20 #[.string s] w fun e w' => ∃ q : ByteArray, e = .returned (.string q) ∧ q.data.toList = quoteL s.data.toList ∧ Below w.heap.size w w' :=
  (quote_any s w hs).mono fun e w' ⟨he, hb⟩ => ⟨_, he, rfl, hb⟩

theorem mk_eq (l : List UInt8) (q : ByteArray) (h : q.data.toList = l) : (⟨l.toArray⟩ : ByteArray) = q := by
  rw [← h]
theorem quote_as (s q : ByteArray) (w : World) (hs : s.size ≤ 1099511627776) (hq : q.data.toList = quoteL s.data.toList) :
    Calls Try.prog 20 #[.string s] w fun e w' => e = .returned (.string q) ∧ Below w.heap.size w w' :=
  (quote_any s w hs).mono fun e w' ⟨he, hb⟩ => ⟨by rw [he, mk_eq _ q hq], hb⟩

def cnt39 (l : List UInt8) : Nat := l.countP (fun c => c == 39)
theorem dbl_cnt (l : List UInt8) : (dbl l).length = l.length + cnt39 l := by
  induction l with
  | nil => rfl
  | cons a l ih =>
    unfold dbl cnt39 at ih ⊢
    rw [List.flatMap_cons, List.length_append, ih, List.length_cons, List.countP_cons]
    by_cases h : a = 39
    · rw [if_pos h, h]; simp; omega
    · rw [if_neg h]; simp [h]; omega
theorem quoteL_length (l : List UInt8) : (quoteL l).length = l.length + cnt39 l + 2 := by
  unfold quoteL
  rw [List.length_cons, List.length_append, dbl_cnt]
  rfl
theorem cnt39_le (l : List UInt8) : cnt39 l ≤ l.length := List.countP_le_length
theorem cnt39_take (s : ByteArray) (k : Nat) (h : k < s.size) : cnt39 (s.data.toList.take (k + 1)) = cnt39 (s.data.toList.take k) + if (s[k].toNat : Int) = 39 then 1 else 0 := by
  have hl : s.data.toList.length = s.size := by rw [Lib.size_eq]
  unfold cnt39
  rw [List.take_succ_eq_append_getElem (by omega), List.countP_append]
  congr 1
  have e : s.data.toList[k] = s[k] := rfl
  rw [List.countP_singleton, e]
  by_cases h2 : s[k] = 39
  · rw [h2]; rfl
  · have h3 : ¬ (s[k].toNat : Int) = 39 := fun h => h2 (UInt8.toNat_inj.1 (by rw [show s[k].toNat = 39 from by omega]; rfl))
    rw [if_neg h3]
    simp [h2]

set_option maxHeartbeats 4000000 in
set_option maxRecDepth 100000 in
theorem doubled_law (s : ByteArray) (w : World) (hs : s.size ≤ maxLen) :
    Calls Try.prog 8 #[.string s] w fun e w' => e = .returned (.bool true) ∧ Below w.heap.size w w' := by
  unfold maxLen at hs
  by_cases hbig : 500 < s.size
  · go_enter Try.func8, Try.ntmps8
    go_wp2_with (go_at_call 9; refine (awake_any _).mono ?_; rintro e w' ⟨rfl, b1⟩)
    go_ret
    exact ⟨rfl, b1⟩
  · have hbd : decide ((500 : Int) < s.size) = false := by simp; omega
    go_enter Try.func8, Try.ntmps8
    go_wp2_with fail
    refine (quote_ex s w (by omega)).mono ?_
    rintro e w1 ⟨q, rfl, hq, b1⟩
    have HQ := Lib.hid hq
    clear hq
    go_wp2
    go_loop [4, 5] (fun n i => ∃ k : Nat, k ≤ s.size ∧ i = .int .i64 k ∧ n = .int .i64 (cnt39 (s.data.toList.take k) : Nat)) (fun _ i => s.size - (intOf i).toNat)
    case atStart => exact ⟨0, Nat.zero_le _, rfl, rfl⟩
    case round =>
      obtain ⟨k, hk, rfl, rfl⟩ := hrel
      have hcl := cnt39_le (s.data.toList.take k)
      have hcl2 : (s.data.toList.take k).length ≤ k := List.length_take_le _ _
      by_cases hlt : k < s.size
      · have hst := cnt39_take s k hlt
        have HS := Lib.hid hst
        clear hst
        by_cases h39 : (s[k].toNat : Int) = 39
        · have hb : ((s[k].toNat : Int) == 39) = true := by simpa using h39
          have H39 := Lib.hid h39
          clear h39
          go_wp2
          go_round
          case rel => exact ⟨k + 1, by omega, by go_num, by rw [HS.out, if_pos H39.out]; go_num⟩
          case measure => simp [intOf]; omega
        · have hb : ((s[k].toNat : Int) == 39) = false := by simpa using h39
          have H39 := Lib.hid h39
          clear h39
          go_wp2
          go_round
          case rel => exact ⟨k + 1, by omega, by go_num, by rw [HS.out, if_neg H39.out]; go_num⟩
          case measure => simp [intOf]; omega
      · obtain rfl : k = s.size := by omega
        obtain ⟨c, hc⟩ : ∃ c : Nat, cnt39 (List.take s.size s.data.toList) = c := ⟨_, rfl⟩
        rw [hc]
        rw [hc] at hcl
        have HC := Lib.hid hc
        clear hc hcl2
        have hqs : q.size = s.size + c + 2 := by
          rw [Lib.size_eq, HQ.out, quoteL_length, ← Lib.size_eq, ← HC.out, List.take_of_length_le (by rw [Lib.size_eq]; exact Nat.le_refl _)]
        have hc5 : c ≤ 500 := by have := cnt39_le (s.data.toList.take s.size); have h2 : (s.data.toList.take s.size).length ≤ s.size := List.length_take_le _ _; rw [HC.out] at this; omega
        have e1 : IntKind.i64.wrap ((s.size : Int) + c) = s.size + c := IntWalk.i64_in _ (by omega)
        have e2 : IntKind.i64.wrap ((s.size : Int) + c + 2) = s.size + c + 2 := IntWalk.i64_in _ (by omega)
        have e3 : ((q.size : Int) == s.size + c + 2) = true := by rw [hqs]; simp
        have e4 : IntKind.i64.wrap ((q.size : Int) - 1) = q.size - 1 := IntWalk.i64_in _ (by omega)
        have HQS := Lib.hid hqs
        have q1 : (0 : Int) < q.size := by omega
        have q2 : (0 : Int) ≤ (q.size : Int) - 1 := by omega
        have q3 : (q.size : Int) - 1 < q.size := by omega
        have hql : q.data.toList.length = q.size := by rw [Lib.size_eq]
        have hqe : q.data.toList = 39 :: (dbl s.data.toList ++ [39]) := HQ.out
        have hq0 : 0 < q.size := by omega
        have hqm : ((q.size : Int) - 1).toNat < q.size := by omega
        have e5 : ((q[0]'hq0).toNat : Int) = 39 := by
          have : q[0]'hq0 = q.data.toList[0]'(by omega) := rfl
          rw [this]; simp [hqe]
        have e6 : ((q[((q.size : Int) - 1).toNat]'hqm).toNat : Int) = 39 := by
          have h1 : q[((q.size : Int) - 1).toNat]'hqm = q.data.toList[((q.size : Int) - 1).toNat]'(by omega) := rfl
          have h2 : ((q.size : Int) - 1).toNat = (dbl s.data.toList).length + 1 := by
            rw [← hql, hqe, List.length_cons, List.length_append]; simp
          rw [h1]
          simp only [hqe, h2, List.getElem_cons_succ]
          rw [List.getElem_append_right (Nat.le_refl _)]
          simp
        have hqm2 : q.size - 1 < q.size := by omega
        have e6b : ((q[q.size - 1]'hqm2).toNat : Int) = 39 := by
          rw [← e6]
          congr 3
          omega
        obtain ⟨qa, hqa⟩ : ∃ x : ByteArray, x.data.toList = q.data.toList.take (q.size - 1) := ⟨⟨(q.data.toList.take (q.size - 1)).toArray⟩, rfl⟩
        obtain ⟨qb, hqb⟩ : ∃ x : ByteArray, x.data.toList = q.data.toList.drop 1 := ⟨⟨(q.data.toList.drop 1).toArray⟩, rfl⟩
        obtain ⟨ss, hss⟩ : ∃ x : ByteArray, s ++ s = x := ⟨_, rfl⟩
        obtain ⟨q3, hq3⟩ : ∃ x : ByteArray, qa ++ qb = x := ⟨_, rfl⟩
        have hssd : ss.data.toList = s.data.toList ++ s.data.toList := by rw [← hss]; simp
        have hq3d : q3.data.toList = quoteL ss.data.toList := by
          rw [← hq3, hssd]
          simp only [ByteArray.data_append, Array.toList_append, hqa, hqb]
          rw [hqe]
          have h2 : q.size - 1 = (dbl s.data.toList).length + 1 := by rw [← hql, hqe, List.length_cons, List.length_append]; simp
          rw [h2]
          simp [quoteL, dbl_append]
        have hsl1 : ∀ wx : World, (Instr.slice 9 (.string q) none (some (.int .i64 ((q.size : Int) - 1))) none).run Try.prog wx = .ok (.string qa) wx := by
          intro wx
          rw [run_slice_string_h (P := Try.prog) (t := 9) (ht := Try.underlying9) (kh := .i64) (h := (q.size : Int) - 1) (h0 := by omega) (h2 := by omega)]
          rw [Lib.extract_eq, mk_eq _ qa (by rw [hqa]; simp)]
        have hsl2 : ∀ wx : World, (Instr.slice 9 (.string q) (some (.int .i64 1)) none none).run Try.prog wx = .ok (.string qb) wx := by
          intro wx
          rw [run_slice_string_l (P := Try.prog) (t := 9) (ht := Try.underlying9) (kl := .i64) (l := 1) (h0 := by omega) (h1 := by omega)]
          rw [Lib.extract_eq, mk_eq _ qb (by rw [hqb]; show _ = List.take (q.size - 1) (List.drop 1 q.data.toList); rw [List.take_of_length_le]; rw [List.length_drop]; omega)]
        have hss5 : ss.size ≤ 1000 := by rw [Lib.size_eq, hssd, List.length_append, ← Lib.size_eq]; omega
        have hqas : qa.size ≤ 10000 := by rw [Lib.size_eq, hqa, List.length_take]; omega
        have hqbs : qb.size ≤ 10000 := by rw [Lib.size_eq, hqb, List.length_drop]; omega
        have hadd1 : ∀ wx : World, (Op.stringOp .add s s).run Try.prog wx = .ok (.string ss) wx := by
          intro wx; rw [run_string_add_sum wx s s (by omega), hss]
        have hadd2 : ∀ wx : World, (Op.stringOp .add qa qb).run Try.prog wx = .ok (.string q3) wx := by
          intro wx; rw [run_string_add_sum wx qa qb (by omega), hq3]
        have hno1 : ¬ (9223372036854775807 < s.size + s.size) := by omega
        have hno2 : ¬ (9223372036854775807 < qa.size + qb.size) := by omega
        have e7 : (q3.toList == q3.toList) = true := by simp
        have HQE := Lib.hid hqe
        have HA := Lib.hid hqa
        have HB := Lib.hid hqb
        have H3 := Lib.hid hq3d
        have HS := Lib.hid hssd
        have HL := Lib.hid hql
        clear hqs hqe hqa hqb hq3d hssd hql
        go_wp2_with fail
        go_region_held3 (fun w' => True) (trivial) (first | (go_at_call 9; refine (awake_any _).mono ?_; rintro e w3 ⟨rfl, b3⟩) | (go_at_call 20; refine (quote_as ss q3 _ (by omega) H3.out).mono ?_; rintro e w2 ⟨rfl, b2⟩))
        go_wp2
        go_ret
        refine ⟨rfl, ?_⟩
        exact b1.drew.trans ((b2.mono b1.size).trans (b3.mono (Nat.le_trans b1.size b2.size)))
end Go.Proofs.Ytdjncindngifhaa
