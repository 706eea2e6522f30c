/-
  The walk of RunesQuotes.
-/
import Derived.Test.YtdjncindngifhaaAwk
import Derived.WalkSpells
set_option linter.unusedVariables false
namespace Go.Proofs.Ytdjncindngifhaa
open Go Go.RowKit

theorem dbl_cons39 (l : List UInt8) : dbl (39 :: l) = 39 :: 39 :: dbl l := by simp [dbl]
theorem dbl_cons (c : UInt8) (l : List UInt8) (h : c ≠ 39) : dbl (c :: l) = c :: dbl l := by simp [dbl, h]

/-- What is quoted is unquoted. -/
theorem unq_dbl (t : List UInt8) (ht : ∀ d r, t = d :: r → d ≠ 39) : ∀ l : List UInt8, unq (dbl l ++ 39 :: t) = some (l, (dbl l).length + 1)
  | [] => by rw [show dbl [] = [] from rfl, List.nil_append, unq_end t ht]; rfl
  | c :: l => by
    by_cases h : c = 39
    · rw [h, dbl_cons39, List.cons_append, List.cons_append, unq_two, unq_dbl t ht l]
      simp
    · rw [dbl_cons c l h, List.cons_append, unq_other c _ h, unq_dbl t ht l]
      simp

/-- Cut it is shorter, or none. -/
theorem unq_cut : ∀ (l : List UInt8) (j n : Nat) (u : List UInt8), unq ((dbl l).take j) = some (u, n) → u.length < l.length
  | [], j, n, u => by rw [show dbl [] = [] from rfl, List.take_nil]; intro h; cases h
  | c :: l, 0, n, u => by rw [List.take_zero]; intro h; cases h
  | c :: l, j + 1, n, u => by
    by_cases h : c = 39
    · rw [h, dbl_cons39, List.take_succ_cons]
      cases j with
      | zero =>
        rw [List.take_zero, unq_end _ (fun d r e => by cases e)]
        intro e
        injection e with e
        injection e with e1 e2
        rw [← e1]
        simp
      | succ j =>
        rw [List.take_succ_cons, unq_two]
        intro e
        obtain ⟨⟨u', n'⟩, h1, h2⟩ := Option.map_eq_some_iff.1 e
        have := unq_cut l j n' u' h1
        injection h2 with h3 h4
        rw [← h3]
        simp
        omega
    · rw [dbl_cons c l h, List.take_succ_cons, unq_other c _ h]
      intro e
      obtain ⟨⟨u', n'⟩, h1, h2⟩ := Option.map_eq_some_iff.1 e
      have := unq_cut l j n' u' h1
      injection h2 with h3 h4
      rw [← h3]
      simp
      omega

theorem unquoteO_quote (hd l : List UInt8) : unquoteO (hd ++ quoteL l ++ [120]) (hd.length : Nat) = some (l, hd.length + (quoteL l).length) := by
  unfold unquoteO
  rw [if_neg (by omega), Int.toNat_natCast]
  have e1 : (hd ++ quoteL l ++ [120])[hd.length]? = some 39 := by
    rw [List.append_assoc, List.getElem?_append_right (Nat.le_refl _), Nat.sub_self]
    rfl
  have e2 : (hd ++ quoteL l ++ [120]).drop (hd.length + 1) = dbl l ++ 39 :: [120] := by
    rw [List.append_assoc, ← List.drop_drop, List.drop_left]
    simp [quoteL]
  rw [if_pos e1, e2, unq_dbl [120] (fun d r e => by injection e with e1 e2; rw [← e1]; decide)]
  simp [quoteL]
  omega

theorem unquoteO_cut (l : List UInt8) (k : Nat) (hk : k < (quoteL l).length) (u : List UInt8) (m : Nat) (h : unquoteO ((quoteL l).take k) 0 = some (u, m)) : u.length < l.length := by
  unfold unquoteO at h
  rw [if_neg (by omega)] at h
  cases k with
  | zero => simp at h
  | succ j =>
    simp only [quoteL, List.take_succ_cons, Int.toNat_zero, List.getElem?_cons_zero, if_true, Nat.zero_add, List.drop_succ_cons, List.drop_zero] at h
    obtain ⟨⟨u', n'⟩, h1, h2⟩ := Option.map_eq_some_iff.1 h
    rw [List.take_append_of_le_length (by simp [quoteL] at hk; omega)] at h1
    have := unq_cut l j n' u' h1
    injection h2 with h3 h4
    rw [← h3]
    exact this

set_option maxHeartbeats 4000000 in
set_option maxRecDepth 100000 in
theorem quotes_law (s hd : ByteArray) (at' : Int) (w : World) (hs : s.size ≤ maxLen) (hh : hd.size ≤ maxLen) (ha : (Lit.int .i64 at').wf = true) :
    Calls Try.prog 5 #[.string s, .string hd, .int .i64 at'] w fun e w' => e = .returned (.bool true) ∧ Below w.heap.size w w' := by
  unfold maxLen at hs hh
  have hav : -9223372036854775808 ≤ at' ∧ at' ≤ 9223372036854775807 := by
    simp only [Lit.wf, Bool.and_eq_true, decide_eq_true_eq] at ha
    exact ⟨ha.1, ha.2⟩
  clear ha
  by_cases hbig : 500 < s.size ∨ 100 < hd.size
  · by_cases hb1 : (500 : Int) < s.size
    · go_enter Try.func5, Try.ntmps5
      go_wp2_with (go_at_call 9; refine (awake_any _).mono ?_; rintro e w' ⟨rfl, b1⟩)
      go_ret
      exact ⟨rfl, b1⟩
    · have hb2 : (100 : Int) < hd.size := by omega
      go_enter Try.func5, Try.ntmps5
      go_wp2_with (go_at_call 9; refine (awake_any _).mono ?_; rintro e w' ⟨rfl, b1⟩)
      go_ret
      exact ⟨rfl, b1⟩
  have hb1 : ¬ (500 : Int) < s.size := by omega
  have hb2 : ¬ (100 : Int) < hd.size := by omega
  clear hbig
  obtain ⟨q, hq⟩ : ∃ q : ByteArray, q.data.toList = quoteL s.data.toList := ⟨⟨(quoteL s.data.toList).toArray⟩, rfl⟩
  have hql : q.size ≤ 1002 ∧ 2 ≤ q.size := by
    rw [Lib.size_eq, hq]
    have := dbl_length s.data.toList
    rw [← Lib.size_eq] at this
    simp [quoteL]
    omega
  obtain ⟨hq1, hq2⟩ := hql
  obtain ⟨x, hx⟩ : ∃ x : ByteArray, hd ++ q = x := ⟨_, rfl⟩
  have hxs : x.size = hd.size + q.size := by rw [← hx, ByteArray.size_append]
  obtain ⟨y, hy⟩ : ∃ y : ByteArray, x ++ ⟨#[120]⟩ = y := ⟨_, rfl⟩
  have hys : y.size = x.size + 1 := by rw [← hy, ByteArray.size_append]; rfl
  have hyd : y.data.toList = hd.data.toList ++ quoteL s.data.toList ++ [120] := by rw [← hy, ← hx]; simp [hq]
  have hu : unquoteO y.data.toList (hd.size : Nat) = some (s.data.toList, hd.size + q.size) := by
    rw [hyd, Lib.size_eq hd, Lib.size_eq q, hq]
    exact unquoteO_quote _ _
  have hadd1 : ∀ wx : World, (Op.stringOp .add hd q).run Try.prog wx = .ok (.string x) wx := by
    intro wx; rw [run_string_add_sum wx hd q (by omega), hx]
  have hadd2 : ∀ wx : World, (Op.stringOp .add x ⟨#[120]⟩).run Try.prog wx = .ok (.string y) wx := by
    intro wx; rw [run_string_add_sum wx x ⟨#[120]⟩ (by rw [show (⟨#[120]⟩ : ByteArray).size = 1 from rfl]; omega), hy]
  have hys2 : y.size ≤ 2000 := by omega
  have e1 : (s.toList == s.toList) = true := by simp
  have e2 : (((hd.size + q.size : Nat) : Int) != (hd.size : Int) + q.size) = false := by rw [bne_eq_false_iff_eq]; omega
  have e2b : ((hd.size : Int) + q.size != (hd.size : Int) + q.size) = false := by rw [bne_eq_false_iff_eq]
  obtain ⟨k, hk⟩ : ∃ k : Int, at' % (q.size : Int) = k := ⟨_, rfl⟩
  have hk0 : 0 ≤ k := by rw [← hk]; exact Int.emod_nonneg _ (by omega)
  have hk1 : k < q.size := by rw [← hk]; exact Int.emod_lt_of_pos _ (by omega)
  obtain ⟨qk, hqk⟩ : ∃ x : ByteArray, x.data.toList = (quoteL s.data.toList).take k.toNat := ⟨⟨((quoteL s.data.toList).take k.toNat).toArray⟩, rfl⟩
  have hqks : qk.size ≤ 2000 := by rw [Lib.size_eq, hqk, List.length_take, ← hq, ← Lib.size_eq]; omega
  have hsl : ∀ wx : World, (Instr.slice 9 (.string q) none (some (.int .i64 k)) none).run Try.prog wx = .ok (.string qk) wx := by
    intro wx
    rw [run_slice_string_h (P := Try.prog) (t := 9) (ht := Try.underlying9) (kh := .i64) (h := k) (h0 := by omega) (h2 := by omega)]
    rw [Lib.extract_eq, mk_eq _ qk (by rw [hqk, hq]; simp)]
  have hcut : ∀ u m, unquoteO qk.data.toList 0 = some (u, m) → u.length < s.data.toList.length := by
    intro u m h
    rw [hqk] at h
    refine unquoteO_cut s.data.toList k.toNat ?_ u m h
    rw [← hq, ← Lib.size_eq]
    omega
  have HK := Lib.hid hk
  have HQ := Lib.hid hq
  have HU := Lib.hid hu
  have HC := Lib.hid hcut
  clear hk hq hu hcut hx hxs hy hys hyd hqk
  cases hun : unquoteO qk.data.toList 0 with
  | none =>
    have HN := Lib.hid hun
    clear hun
    go_enter Try.func5, Try.ntmps5
    go_wp2_with fail
    refine (quote_as s q w (by omega) HQ.out).mono ?_
    rintro e w1 ⟨rfl, b1⟩
    go_wp2_with fail
    refine (unquote_as y s _ _ _ (by omega) HU.out).mono ?_
    rintro e w2 ⟨rfl, b2⟩
    go_wp2_with fail
    refine (place_any at' _ _ (by omega) (by omega) hav).mono ?_
    rintro e w3 ⟨rfl, rfl⟩
    rw [HK.out]
    go_wp2_with fail
    refine (unquote_nil qk 0 _ (by omega) HN.out).mono ?_
    rintro e w3 ⟨rfl, b3⟩
    go_wp2_with fail
    refine (awake_any _).mono ?_
    rintro e w4 ⟨rfl, b4⟩
    go_wp2
    go_ret
    exact ⟨rfl, b1.trans ((b2.trans ((b3.trans (b4.mono b3.size)).mono b2.size)).mono b1.size)⟩
  | some um =>
    obtain ⟨u, m⟩ := um
    have HN := Lib.hid hun
    have hlt := HC.out u m hun
    clear hun
    obtain ⟨ub, hub⟩ : ∃ x : ByteArray, x.data.toList = u := ⟨⟨u.toArray⟩, rfl⟩
    have hlt2 : (ub.size : Int) < s.size := by rw [Lib.size_eq ub, hub, Lib.size_eq s]; omega
    have hn2 : unquoteO qk.data.toList 0 = some (ub.data.toList, m) := by rw [hub]; exact HN.out
    have HN2 := Lib.hid hn2
    clear hn2 hub hlt HN
    go_enter Try.func5, Try.ntmps5
    go_wp2_with fail
    refine (quote_as s q w (by omega) HQ.out).mono ?_
    rintro e w1 ⟨rfl, b1⟩
    go_wp2_with fail
    refine (unquote_as y s _ _ _ (by omega) HU.out).mono ?_
    rintro e w2 ⟨rfl, b2⟩
    go_wp2_with fail
    refine (place_any at' _ _ (by omega) (by omega) hav).mono ?_
    rintro e w3 ⟨rfl, rfl⟩
    rw [HK.out]
    go_wp2_with fail
    refine (unquote_as qk ub 0 _ _ (by omega) HN2.out).mono ?_
    rintro e w3 ⟨rfl, b3⟩
    go_wp2_with fail
    refine (awake_any _).mono ?_
    rintro e w4 ⟨rfl, b4⟩
    go_wp2
    go_ret
    exact ⟨rfl, b1.trans ((b2.trans ((b3.trans (b4.mono b3.size)).mono b2.size)).mono b1.size)⟩
end Go.Proofs.Ytdjncindngifhaa
