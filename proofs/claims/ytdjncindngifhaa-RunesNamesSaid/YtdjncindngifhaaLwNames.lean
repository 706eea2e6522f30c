/-
  The walk of RunesNames.
-/
import Derived.Test.YtdjncindngifhaaAwk
import Derived.Test.YtdjncindngifhaaTx
import Derived.WalkSpells
set_option linter.unusedVariables false
namespace Go.Proofs.Ytdjncindngifhaa
open Go Go.RowKit

theorem name_as (s : ByteArray) (b : Bool) (w : World) (hs : s.size ≤ 1099511627776) (h : nameB s = b) :
    Calls Try.prog 22 #[.string s] w fun e w' => e = .returned (.bool b) ∧ Below w.heap.size w w' := by
  rw [← h]
  exact name_any s w hs

theorem more_cases (s : ByteArray) (k : Int) (h0 : 0 ≤ k) (h1 : k < 4) (hs : 1 ≤ s.size) : ∃ m : ByteArray, 1 ≤ m.size ∧ m.size ≤ 2 ∧
    (∀ wx : World, (Instr.index 33 (.agg #[.string ⟨#[97]⟩, .string ⟨#[95]⟩, .string ⟨#[55]⟩, .string ⟨#[195, 169]⟩]) (.int .i64 k)).run Try.prog wx = .ok (.string m) wx) ∧
    ((cps m).map (shift s.size)).all nameCp = true := by
  have hk : k = 0 ∨ k = 1 ∨ k = 2 ∨ k = 3 := by omega
  have hz : (s.size == 0) = false := beq_eq_false_iff_ne.2 (by omega)
  rcases hk with rfl | rfl | rfl | rfl
  · exact ⟨⟨#[97]⟩, by decide, by decide, fun _ => by kernel_rfl, by rw [show cps ⟨#[97]⟩ = [(97, 0, 1)] from by decide]; simp [shift, nameCp, letterB]⟩
  · exact ⟨⟨#[95]⟩, by decide, by decide, fun _ => by kernel_rfl, by rw [show cps ⟨#[95]⟩ = [(95, 0, 1)] from by decide]; simp [shift, nameCp, letterB]⟩
  · exact ⟨⟨#[55]⟩, by decide, by decide, fun _ => by kernel_rfl, by rw [show cps ⟨#[55]⟩ = [(55, 0, 1)] from by decide]; simp only [List.map_cons, List.map_nil, List.all_cons, List.all_nil, shift, nameCp, letterB, digitB, Nat.add_zero, hz]; rfl⟩
  · exact ⟨⟨#[195, 169]⟩, by decide, by decide, fun _ => by kernel_rfl, by rw [show cps ⟨#[195, 169]⟩ = [(233, 0, 2)] from by decide]; simp [shift, nameCp, letterB, rightB]⟩

theorem bad_cases (s : ByteArray) (k : Int) (h0 : 0 ≤ k) (h1 : k < 5) : ∃ m : ByteArray, m.size = 1 ∧
    (∀ wx : World, (Instr.index 34 (.agg #[.string ⟨#[32]⟩, .string ⟨#[45]⟩, .string ⟨#[255]⟩, .string ⟨#[65]⟩, .string ⟨#[39]⟩]) (.int .i64 k)).run Try.prog wx = .ok (.string m) wx) ∧
    nameB (s ++ m) = false := by
  have hk : k = 0 ∨ k = 1 ∨ k = 2 ∨ k = 3 ∨ k = 4 := by omega
  rcases hk with rfl | rfl | rfl | rfl | rfl
  · exact ⟨⟨#[32]⟩, by decide, fun _ => by kernel_rfl, name_bad s 32 (by simp)⟩
  · exact ⟨⟨#[45]⟩, by decide, fun _ => by kernel_rfl, name_bad s 45 (by simp)⟩
  · exact ⟨⟨#[255]⟩, by decide, fun _ => by kernel_rfl, name_bad s 255 (by simp)⟩
  · exact ⟨⟨#[65]⟩, by decide, fun _ => by kernel_rfl, name_bad s 65 (by simp)⟩
  · exact ⟨⟨#[39]⟩, by decide, fun _ => by kernel_rfl, name_bad s 39 (by simp)⟩

set_option maxHeartbeats 4000000 in
set_option maxRecDepth 100000 in
theorem names_big (s : ByteArray) (v : Int) (w : World) (hb : (300 : Int) < s.size) :
    Calls Try.prog 6 #[.string s, .int .i64 v] w fun e w' => e = .returned (.bool true) ∧ Below w.heap.size w w' := by
  go_enter Try.func6, Try.ntmps6
  go_wp2_with (go_at_call 9; refine (awake_any _).mono ?_; rintro e w' ⟨rfl, b1⟩)
  go_ret
  exact ⟨rfl, b1⟩

set_option maxHeartbeats 4000000 in
set_option maxRecDepth 100000 in
theorem names_no (s f m b sb ss : ByteArray) (v k4 k5 : Int) (w : World) (hs : ¬ (300 : Int) < s.size) (hv : -9223372036854775808 ≤ v ∧ v ≤ 9223372036854775807) (hk4 : Hid (v % 4 = k4)) (hk5 : Hid (v % 5 = k5))
    (hi4 : ∀ wx : World, (Instr.index 33 (.agg #[.string ⟨#[97]⟩, .string ⟨#[95]⟩, .string ⟨#[55]⟩, .string ⟨#[195, 169]⟩]) (.int .i64 k4)).run Try.prog wx = .ok (.string m) wx)
    (hi5 : ∀ wx : World, (Instr.index 34 (.agg #[.string ⟨#[32]⟩, .string ⟨#[45]⟩, .string ⟨#[255]⟩, .string ⟨#[65]⟩, .string ⟨#[39]⟩]) (.int .i64 k5)).run Try.prog wx = .ok (.string b) wx)
    (hm : m.size ≤ 2) (hno : Hid (nameB s = false))
    (ha2 : ∀ wx : World, (Op.stringOp .add s b).run Try.prog wx = .ok (.string sb) wx) (hsb : Hid (nameB sb = false)) (hsbs : sb.size ≤ 2000)
    (ha3 : ∀ wx : World, (Op.stringOp .add ⟨#[55]⟩ s).run Try.prog wx = .ok (.string ss) wx) (hss : Hid (nameB ss = false)) (hsss : ss.size ≤ 2000)
    (hf : Hid (f.data.toList = foldL s.data.toList)) (hff : Hid (f.data.toList = foldL f.data.toList)) (hfs : Hid (f.size = s.size)) (hfs2 : f.size ≤ 2000) :
    Calls Try.prog 6 #[.string s, .int .i64 v] w fun e w' => e = .returned (.bool true) ∧ Below w.heap.size w w' := by
  have e1 : (f.toList == f.toList) = true := by simp
  have e2 : ((f.size : Int) == s.size) = true := by rw [hfs.out]; simp
  by_cases hfit : (s.size : Int) + m.size ≤ 100
  all_goals
    go_enter Try.func6, Try.ntmps6
    go_wp2_with fail
    refine (name_as s false _ (by omega) hno.out).mono ?_
    rintro e w1 ⟨rfl, b1⟩
    go_wp2_with fail
    refine (place_any v 4 _ (by omega) (by omega) hv).mono ?_
    rintro e w2 ⟨rfl, rfl⟩
    rw [hk4.out]
    go_wp2_with fail
    refine (place_any v 5 _ (by omega) (by omega) hv).mono ?_
    rintro e w2 ⟨rfl, rfl⟩
    rw [hk5.out]
    go_wp2_with fail
    refine (name_as sb false _ (by omega) hsb.out).mono ?_
    rintro e w2 ⟨rfl, b2⟩
    go_wp2_with fail
    refine (name_as ss false _ (by omega) hss.out).mono ?_
    rintro e w3 ⟨rfl, b3⟩
    go_wp2_with fail
    refine (fold_as s f _ (by omega) hf.out).mono ?_
    rintro e w4 ⟨rfl, b4⟩
    go_wp2_with fail
    refine (fold_as f f _ (by omega) hff.out).mono ?_
    rintro e w5 ⟨rfl, b5⟩
    go_wp2_with fail
    refine (fold_as s f _ (by omega) hf.out).mono ?_
    rintro e w6 ⟨rfl, b6⟩
    go_wp2_with fail
    refine (fold_as s f _ (by omega) hf.out).mono ?_
    rintro e w7 ⟨rfl, b7⟩
    go_wp2_with fail
    refine (awake_any _).mono ?_
    rintro e w8 ⟨rfl, b8⟩
    go_wp2
    go_ret
    exact ⟨rfl, b1.trans ((b2.trans ((b3.trans ((b4.trans ((b5.trans ((b6.trans ((b7.trans (b8.mono b7.size)).mono b6.size)).mono b5.size)).mono b4.size)).mono b3.size)).mono b2.size)).mono b1.size)⟩

set_option maxHeartbeats 4000000 in
set_option maxRecDepth 100000 in
theorem names_yes (s f m b sm sb ss : ByteArray) (v k4 k5 : Int) (w : World) (hs : ¬ (300 : Int) < s.size) (hv : -9223372036854775808 ≤ v ∧ v ≤ 9223372036854775807) (hk4 : Hid (v % 4 = k4)) (hk5 : Hid (v % 5 = k5))
    (hi4 : ∀ wx : World, (Instr.index 33 (.agg #[.string ⟨#[97]⟩, .string ⟨#[95]⟩, .string ⟨#[55]⟩, .string ⟨#[195, 169]⟩]) (.int .i64 k4)).run Try.prog wx = .ok (.string m) wx)
    (hi5 : ∀ wx : World, (Instr.index 34 (.agg #[.string ⟨#[32]⟩, .string ⟨#[45]⟩, .string ⟨#[255]⟩, .string ⟨#[65]⟩, .string ⟨#[39]⟩]) (.int .i64 k5)).run Try.prog wx = .ok (.string b) wx)
    (hm : m.size ≤ 2) (hno : Hid (nameB s = true))
    (ha1 : ∀ wx : World, (Op.stringOp .add s m).run Try.prog wx = .ok (.string sm) wx) (hsm : Hid (nameB sm = decide (s.size + m.size ≤ 100))) (hsms : sm.size ≤ 2000)
    (ha2 : ∀ wx : World, (Op.stringOp .add s b).run Try.prog wx = .ok (.string sb) wx) (hsb : Hid (nameB sb = false)) (hsbs : sb.size ≤ 2000)
    (ha3 : ∀ wx : World, (Op.stringOp .add ⟨#[55]⟩ s).run Try.prog wx = .ok (.string ss) wx) (hss : Hid (nameB ss = false)) (hsss : ss.size ≤ 2000)
    (hf : Hid (s.data.toList = foldL s.data.toList)) :
    Calls Try.prog 6 #[.string s, .int .i64 v] w fun e w' => e = .returned (.bool true) ∧ Below w.heap.size w w' := by
  have e1 : (s.toList == s.toList) = true := by simp
  have e2 : ((s.size : Int) == s.size) = true := by simp
  obtain ⟨fit, hfit⟩ : ∃ b : Bool, decide ((s.size : Int) + m.size ≤ 100) = b := ⟨_, rfl⟩
  have hsm2 : nameB sm = fit := by
    rw [hsm.out, ← hfit]
    congr 1
    exact propext ⟨fun h => by omega, fun h => by omega⟩
  have HSM := Lib.hid hsm2
  clear hsm2
  have e3 : (fit == fit) = true := by simp
  cases fit with
  | true =>
    have hfit' : (s.size : Int) + m.size ≤ 100 := of_decide_eq_true hfit
    clear hfit
    go_enter Try.func6, Try.ntmps6
    go_wp2_with fail
    refine (name_as s true _ (by omega) hno.out).mono ?_
    rintro e w1 ⟨rfl, b1⟩
    go_wp2_with fail
    refine (place_any v 4 _ (by omega) (by omega) hv).mono ?_
    rintro e w2 ⟨rfl, rfl⟩
    rw [hk4.out]
    go_wp2_with fail
    refine (place_any v 5 _ (by omega) (by omega) hv).mono ?_
    rintro e w2 ⟨rfl, rfl⟩
    rw [hk5.out]
    go_wp2_with fail
    refine (name_as sm true _ (by omega) HSM.out).mono ?_
    rintro e w0 ⟨rfl, b0⟩
    go_wp2_with fail
    refine (name_as sb false _ (by omega) hsb.out).mono ?_
    rintro e w2 ⟨rfl, b2⟩
    go_wp2_with fail
    refine (name_as ss false _ (by omega) hss.out).mono ?_
    rintro e w3 ⟨rfl, b3⟩
    go_wp2_with fail
    refine (fold_as s s _ (by omega) hf.out).mono ?_
    rintro e w4 ⟨rfl, b4⟩
    go_wp2_with fail
    refine (fold_as s s _ (by omega) hf.out).mono ?_
    rintro e w5 ⟨rfl, b5⟩
    go_wp2_with fail
    refine (fold_as s s _ (by omega) hf.out).mono ?_
    rintro e w6 ⟨rfl, b6⟩
    go_wp2_with fail
    refine (fold_as s s _ (by omega) hf.out).mono ?_
    rintro e w7 ⟨rfl, b7⟩
    go_wp2_with fail
    refine (fold_as s s _ (by omega) hf.out).mono ?_
    rintro e w9 ⟨rfl, b9⟩
    go_wp2_with fail
    refine (awake_any _).mono ?_
    rintro e w8 ⟨rfl, b8⟩
    go_wp2
    go_ret
    exact ⟨rfl, b1.trans ((b0.trans ((b2.trans ((b3.trans ((b4.trans ((b5.trans ((b6.trans ((b7.trans ((b9.trans (b8.mono b9.size)).mono b7.size)).mono b6.size)).mono b5.size)).mono b4.size)).mono b3.size)).mono b2.size)).mono b0.size)).mono b1.size)⟩
  | false =>
    have hfit' : ¬ (s.size : Int) + m.size ≤ 100 := of_decide_eq_false hfit
    have HF := Lib.hid hfit
    clear hfit
    go_enter Try.func6, Try.ntmps6
    go_wp2_with fail
    refine (name_as s true _ (by omega) hno.out).mono ?_
    rintro e w1 ⟨rfl, b1⟩
    go_wp2_with fail
    refine (place_any v 4 _ (by omega) (by omega) hv).mono ?_
    rintro e w2 ⟨rfl, rfl⟩
    rw [hk4.out]
    go_wp2_with fail
    refine (place_any v 5 _ (by omega) (by omega) hv).mono ?_
    rintro e w2 ⟨rfl, rfl⟩
    rw [hk5.out]
    go_wp2_with fail
    refine (name_as sm false _ (by omega) HSM.out).mono ?_
    rintro e w0 ⟨rfl, b0⟩
    go_wp2_with fail
    refine (name_as sb false _ (by omega) hsb.out).mono ?_
    rintro e w2 ⟨rfl, b2⟩
    go_wp2_with fail
    refine (name_as ss false _ (by omega) hss.out).mono ?_
    rintro e w3 ⟨rfl, b3⟩
    go_wp2_with fail
    refine (fold_as s s _ (by omega) hf.out).mono ?_
    rintro e w4 ⟨rfl, b4⟩
    go_wp2_with fail
    refine (fold_as s s _ (by omega) hf.out).mono ?_
    rintro e w5 ⟨rfl, b5⟩
    go_wp2_with fail
    refine (fold_as s s _ (by omega) hf.out).mono ?_
    rintro e w6 ⟨rfl, b6⟩
    go_wp2_with fail
    refine (fold_as s s _ (by omega) hf.out).mono ?_
    rintro e w7 ⟨rfl, b7⟩
    go_wp2_with fail
    refine (fold_as s s _ (by omega) hf.out).mono ?_
    rintro e w9 ⟨rfl, b9⟩
    go_wp2_with fail
    refine (awake_any _).mono ?_
    rintro e w8 ⟨rfl, b8⟩
    go_wp2
    go_ret
    exact ⟨ret_bool (by rw [HF.out]; rfl), b1.trans ((b0.trans ((b2.trans ((b3.trans ((b4.trans ((b5.trans ((b6.trans ((b7.trans ((b9.trans (b8.mono b9.size)).mono b7.size)).mono b6.size)).mono b5.size)).mono b4.size)).mono b3.size)).mono b2.size)).mono b0.size)).mono b1.size)⟩

theorem names_law (s : ByteArray) (v : Int) (w : World) (hs : s.size ≤ maxLen) (ha : (Lit.int .i64 v).wf = true) :
    Calls Try.prog 6 #[.string s, .int .i64 v] w fun e w' => e = .returned (.bool true) ∧ Below w.heap.size w w' := by
  have hv : -9223372036854775808 ≤ v ∧ v ≤ 9223372036854775807 := by
    simp only [Lit.wf, Bool.and_eq_true, decide_eq_true_eq] at ha
    exact ⟨ha.1, ha.2⟩
  by_cases hb : (300 : Int) < s.size
  · exact names_big s v w hb
  obtain ⟨b, hbs, hi5, hnb⟩ := bad_cases s (v % 5) (Int.emod_nonneg _ (by omega)) (Int.emod_lt_of_pos _ (by omega))
  have ha2 : ∀ wx : World, (Op.stringOp .add s b).run Try.prog wx = .ok (.string (s ++ b)) wx := fun wx => run_string_add_sum wx s b (by omega)
  have ha3 : ∀ wx : World, (Op.stringOp .add ⟨#[55]⟩ s).run Try.prog wx = .ok (.string (⟨#[55]⟩ ++ s)) wx := fun wx => run_string_add_sum wx ⟨#[55]⟩ s (by rw [show (⟨#[55]⟩ : ByteArray).size = 1 from rfl]; omega)
  have hsbs : (s ++ b).size ≤ 2000 := by rw [ByteArray.size_append]; omega
  have hsss : (⟨#[55]⟩ ++ s : ByteArray).size ≤ 2000 := by rw [ByteArray.size_append, show (⟨#[55]⟩ : ByteArray).size = 1 from rfl]; omega
  by_cases hn : nameB s = true
  · have hsz := name_size s hn
    obtain ⟨m, hm1, hm2, hi4, hmc⟩ := more_cases s (v % 4) (Int.emod_nonneg _ (by omega)) (Int.emod_lt_of_pos _ (by omega)) hsz.1
    have ha1 : ∀ wx : World, (Op.stringOp .add s m).run Try.prog wx = .ok (.string (s ++ m)) wx := fun wx => run_string_add_sum wx s m (by omega)
    exact names_yes s s m b (s ++ m) (s ++ b) (⟨#[55]⟩ ++ s) v _ _ w hb hv (Lib.hid rfl) (Lib.hid rfl) hi4 hi5 hm2 (Lib.hid hn) ha1 (Lib.hid (name_more s m hn hmc)) (by rw [ByteArray.size_append]; omega)
      ha2 (Lib.hid hnb) hsbs ha3 (Lib.hid (name_seven s)) hsss (Lib.hid (fold_name s hn).symm)
  · have hn2 : nameB s = false := by simpa using hn
    obtain ⟨m, hm2, hi4⟩ : ∃ m : ByteArray, m.size ≤ 2 ∧ (∀ wx : World, (Instr.index 33 (.agg #[.string ⟨#[97]⟩, .string ⟨#[95]⟩, .string ⟨#[55]⟩, .string ⟨#[195, 169]⟩]) (.int .i64 (v % 4))).run Try.prog wx = .ok (.string m) wx) := by
      obtain ⟨m, _, h2, h3, _⟩ := more_cases ⟨#[97]⟩ (v % 4) (Int.emod_nonneg _ (by omega)) (Int.emod_lt_of_pos _ (by omega)) (by decide)
      exact ⟨m, h2, h3⟩
    have hfl : (foldL s.data.toList).length = s.size := by rw [foldL_length, ba_size_list]
    exact names_no s ⟨(foldL s.data.toList).toArray⟩ m b (s ++ b) (⟨#[55]⟩ ++ s) v _ _ w hb hv (Lib.hid rfl) (Lib.hid rfl) hi4 hi5 hm2 (Lib.hid hn2)
      ha2 (Lib.hid hnb) hsbs ha3 (Lib.hid (name_seven s)) hsss (Lib.hid rfl) (Lib.hid (foldL_idem _).symm) (Lib.hid (by rw [← hfl]; rfl)) (by rw [show (⟨(foldL s.data.toList).toArray⟩ : ByteArray).size = (foldL s.data.toList).length from rfl, hfl]; omega)
end Go.Proofs.Ytdjncindngifhaa
