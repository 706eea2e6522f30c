/-
  Contracts of package order, fourth part: GetText.
-/
import Derived.Test.YtkahcblonfbdaaaOr3
set_option linter.unusedVariables false
namespace Go.Proofs.Ytkahcblonfbdaaa
open Go Go.RowKit

/-- A call that hands back a text, a place, an error's number. -/
def GivesT (w : World) (x : List UInt8 × Int × Int) (e : Ending) (w' : World) : Prop :=
  ∃ s : ByteArray, e = .returned (.tuple #[.string s, .int .i64 x.2.1, .int .i64 x.2.2]) ∧ s.data.toList = x.1 ∧ Below w.heap.size w w'
theorem GivesT.none {w w' : World} {k : Int} (hb : Below w.heap.size w w') : GivesT w ([], 0, k) (.returned (.tuple #[.string ⟨#[]⟩, .int .i64 0, .int .i64 k])) w' := ⟨_, rfl, rfl, hb⟩

theorem gtxt_out (l : List UInt8) (i : Int) (h : i < 0 ∨ (l.length : Int) < i) : gtxt l i = ([], 0, 1) := by
  unfold gtxt; rw [if_pos h]
theorem gtxt_err (l : List UInt8) (i : Nat) (k : Int) (h : i ≤ l.length) (he : unesc (l.drop i) = .error k) : gtxt l (i : Nat) = ([], 0, k) := by
  unfold gtxt; rw [if_neg (by omega), Int.toNat_natCast, he]
theorem gtxt_ok (l : List UInt8) (i : Nat) (x : List UInt8 × Nat) (h : i ≤ l.length) (he : unesc (l.drop i) = .ok x) : gtxt l (i : Nat) = (x.1, ((i + x.2 : Nat) : Int), 0) := by
  unfold gtxt; rw [if_neg (by omega), Int.toNat_natCast, he]

set_option maxHeartbeats 1000000 in
theorem getText_out (A : Option Addr) (n c B : Nat) (l : List UInt8) (i : Int) (w : World) (h : Rd w B A n l) (hi : i < 0 ∨ (n : Int) < i) :
    Calls Try.prog 17 #[.slice A n c, .int .i64 i] w (GivesT w (gtxt l i)) := by
  rw [gtxt_out l i (by rw [h.1]; exact hi)]
  have hd : (decide (0 ≤ i) && decide (i ≤ n)) = false := by
    rcases hi with h1 | h1
    · rw [show decide (0 ≤ i) = false from by simp; omega]; rfl
    · rw [show decide (i ≤ (n : Int)) = false from by simp; omega, Bool.and_false]
  have HD := Lib.hid hd
  clear hd
  go_enter Try.func17, Try.ntmps17
  go_wp2_with fail
  refine (within_any A n c i _).mono ?_
  rintro e w1 ⟨rfl, rfl⟩
  rw [HD.out]
  go_wp2
  go_ret3
  exact GivesT.none (Below.refl _ _)

/-- How far a reading has come: what is collected, and that the rest decides. -/
def Come (l : List UInt8) (i f : Nat) (acc : List UInt8) : Prop := unesc (l.drop i) = (unesc (l.drop f)).map (fun x => (acc ++ x.1, (f - i) + x.2))
theorem Come.start (l : List UInt8) (i : Nat) : Come l i i [] := by
  unfold Come
  cases unesc (l.drop i) <;> simp [Except.map]
theorem Come.none {l : List UInt8} {i f : Nat} {acc : List UInt8} (h : Come l i f acc) (hp : ∀ c ∈ l.drop f, c ≠ 0) : unesc (l.drop i) = .error 8 := by
  rw [h, unesc_short _ hp]; rfl
theorem Come.last {l : List UInt8} {i f : Nat} {acc p : List UInt8} (h : Come l i f acc) (hp : ∀ c ∈ p, c ≠ 0) (e : l.drop f = p ++ [0]) : unesc (l.drop i) = .error 8 := by
  rw [h, e, unesc_run p _ hp]; rfl
theorem Come.end_ {l : List UInt8} {i f : Nat} {acc p r : List UInt8} (h : Come l i f acc) (hp : ∀ c ∈ p, c ≠ 0) (e : l.drop f = p ++ 0 :: 1 :: r) : unesc (l.drop i) = .ok (acc ++ p, (f - i) + (p.length + 2)) := by
  rw [h, e, unesc_run p _ hp, unesc_end]
  simp [Except.map]
theorem Come.bad {l : List UInt8} {i f : Nat} {acc p r : List UInt8} {d : UInt8} (h : Come l i f acc) (hp : ∀ c ∈ p, c ≠ 0) (e : l.drop f = p ++ 0 :: d :: r) (h1 : d ≠ 1) (h2 : d ≠ 255) : unesc (l.drop i) = .error 6 := by
  rw [h, e, unesc_run p _ hp, unesc_bad d r h1 h2]; rfl
theorem Come.on {l : List UInt8} {i f : Nat} {acc p r : List UInt8} (h : Come l i f acc) (hi : i ≤ f) (hp : ∀ c ∈ p, c ≠ 0) (e : l.drop f = p ++ 0 :: 255 :: r) : Come l i (f + p.length + 2) (acc ++ (p ++ [0])) := by
  unfold Come
  have er : l.drop (f + p.length + 2) = r := by
    rw [Nat.add_assoc, ← List.drop_drop, e, ← List.drop_drop, List.drop_left]; rfl
  rw [h, e, unesc_run p _ hp, unesc_null, er]
  cases unesc r with
  | error k => rfl
  | ok x => simp [Except.map]; omega

set_option maxHeartbeats 4000000 in
theorem getText_in (A : Option Addr) (n c B : Nat) (l : List UInt8) (i : Nat) (w : World) (h : Rd w B A n l) (hB : B ≤ w.heap.size) (hi : i ≤ n) (hn : n ≤ c) (hc : c ≤ maxLen) (hs : n ≤ 35184372088832) (hA : A = none → c = 0) :
    Calls Try.prog 17 #[.slice A n c, .int .i64 (i : Nat)] w (GivesT w (gtxt l (i : Nat))) := by
  unfold maxLen at hc
  have hl := h.1
  have hd : (decide (0 ≤ (i : Int)) && decide ((i : Int) ≤ n)) = true := by simp; omega
  have HD := Lib.hid hd
  have HL := Lib.hid hl
  have HA := Lib.hid hA
  clear hd hl hA
  go_enter Try.func17, Try.ntmps17
  go_wp2_with fail
  refine (within_any A n c _ _).mono ?_
  rintro e w1 ⟨rfl, rfl⟩
  rw [HD.out]
  go_wp2
  go_loopw [7, 8] (fun v f wr => ∃ (k m : Nat) (acc : List UInt8), f = .int .i64 k ∧ i ≤ k ∧ k ≤ n ∧ wr.ownsRow w.heap.size 5 1 v m (Lib.byteCells acc) ∧ m ≤ k ∧ Come l i k acc ∧ Below w.heap.size w wr) (fun _ f _ => n - (intOf f).toNat)
  case atStart => exact ⟨i, 0, [], rfl, Nat.le_refl _, hi, World.ownsRow_nil _ _ _ _, Nat.zero_le _, Come.start l i, Below.refl _ _⟩
  case round =>
    obtain ⟨k, m, acc, rfl, hik, hkn, ho, hm, hcm, hb⟩ := hrel
    have HC := Lib.hid hcm
    clear hcm
    have hz := hb.size
    have hr := (h.up hB).below hb
    have hr2 := hr.cut hkn (Nat.le_refl n) hn
    rw [List.take_of_length_le (by rw [HL.out]; exact Nat.le_refl _)] at hr2
    obtain ⟨A1, hA1⟩ : ∃ A1, (if c = k then A else A.map (·.add k)) = A1 := ⟨_, rfl⟩
    rw [hA1] at hr2
    have hsl : ∀ wx : World, (Instr.slice 22 (.slice A n c) (some (.int .i64 (k : Int))) none none).run Try.prog wx = .ok (.slice A1 (n - k) (c - k)) wx := by
      intro wx
      rw [run_slice_l (P := Try.prog) wx 22 A n c Try.underlying22 .i64 k (by omega) (by omega), ← hA1]
      rw [show Try.prog.elem 22 = 5 from by kernel_rfl, Try.sizeOf5]
      simp [sliced, Result.andThen]
    have hA1n : A1 = none → c - k = 0 := by
      intro e
      rw [e] at hA1
      by_cases hck : c = k
      · omega
      · rw [if_neg hck] at hA1
        cases A with
        | none => have := HA.out rfl; omega
        | some ad => cases hA1
    have HA1 := Lib.hid hA1n
    clear hA1 hA1n
    go_wp2_with fail
    refine (ix_any A1 (n - k) (c - k) (l.drop k) _ 0 _ hr2 HA1.out).mono ?_
    rintro e w1 ⟨rfl, rfl⟩
    clear hsl
    rcases ixB_cases 0 (l.drop k) with ⟨h1, h2⟩ | ⟨p, r, h1, h2, h3⟩
    · have hg := gtxt_err l i 8 (by rw [HL.out]; exact hi) (HC.out.none h2)
      rw [h1]
      have HG := Lib.hid hg
      have HP := Lib.hid h2
      clear h1 h2 hg
      go_wp2
      go_ret3
      rw [HG.out]
      exact GivesT.none hb
    · rw [h3]
      obtain ⟨q, hq⟩ : ∃ q, p.length = q := ⟨_, rfl⟩
      rw [hq]
      have hlen : n - k = q + 1 + r.length := by
        have := congrArg List.length h1
        rw [List.length_drop, List.length_append, List.length_cons, HL.out, hq] at this
        omega
      have hq0 : decide ((q : Int) < 0) = false := by simp
      cases r with
      | nil =>
        have hg := gtxt_err l i 8 (by rw [HL.out]; exact hi) (HC.out.last h2 h1)
        have hmk : ((k : Int) + q + 1 == n) = true := by rw [List.length_nil] at hlen; simp; omega
        have hq1 : q ≤ n := by omega
        have HG := Lib.hid hg
        have HP := Lib.hid h2
        have H1 := Lib.hid h1
        have HLE := Lib.hid hlen
        clear h1 h2 hg h3 hq hlen
        go_wp2
        go_ret3
        rw [HG.out]
        exact GivesT.none hb
      | cons d r =>
        rw [List.length_cons] at hlen
        have hmk : ((k : Int) + q + 1 == n) = false := by simp; omega
        have hkq : k + q + 1 < n := by omega
        obtain ⟨g, o, rfl, hgb, hcell⟩ := hr.at2 (j := k) (by omega)
        have hdl : k + q + 1 < l.length := by rw [HL.out]; exact hkq
        have hld : l[k + q + 1] = d := by
          have e1 : (l.drop k)[q + 1]? = some d := by rw [h1, List.getElem?_append_right (by omega), hq, Nat.add_sub_cancel_left]; rfl
          rw [List.getElem?_drop, ← Nat.add_assoc, List.getElem?_eq_getElem hdl] at e1
          exact Option.some.inj e1
        have hcd := hcell (k + q + 1) hdl
        rw [hld] at hcd
        have hpc : Rd wr w.heap.size (some ⟨g, o + k, none⟩) (q + 1) (p ++ [0]) := by
          have := hr.cut (k := k) (m := k + q + 1) (mx := k + q + 1) (by omega) (by omega) (Nat.le_refl _)
          rw [if_neg (by omega), Option.map_some, Addr.add_lit, show k + q + 1 - k = q + 1 from by omega, List.drop_take, h1, show k + q + 1 - k = p.length + 1 from by omega, List.take_append, List.take_of_length_le (by omega), Nat.add_sub_cancel_left] at this
          exact this
        have hp0 : Rd wr w.heap.size (some ⟨g, o + k, none⟩) q p := by
          have := hpc.cut (k := 0) (m := q) (mx := q + 1) (by omega) (by omega) (by omega)
          rw [if_neg (by omega), Option.map_some, Nat.sub_zero, List.drop_zero, List.take_append_of_le_length (by omega), List.take_of_length_le (by omega)] at this
          exact this
        have hd255 := d.toNat_lt
        have HP := Lib.hid h2
        have H1 := Lib.hid h1
        have HLE := Lib.hid hlen
        have HLD := Lib.hid hld
        have HQ := Lib.hid hq
        have HCE := Lib.hid hcell
        clear h1 h2 h3 hq hlen hld hcell
        by_cases hd1 : d = 1
        · have hg := gtxt_ok l i _ (by rw [HL.out]; exact hi) (HC.out.end_ HP.out (by rw [H1.out, hd1]))
          rw [HQ.out] at hg
          have hb1 : ((d.toNat : Int) == 1) = true := by rw [hd1]; rfl
          have HG := Lib.hid hg
          have HD1 := Lib.hid hd1
          clear hg hd1
          go_wp2_with (at_builtin; refine wpList_app rfl (.tmp 46) _ rfl w.heap.size _ m acc rfl ho w.heap.size (some ⟨g, o + k, none⟩) q _ p rfl hp0 ?c2 hz ?_)
          case c2 => omega
          intro v1 w1 ho1 hg1
          obtain ⟨A2, c2, rfl, _, _, _, hr3⟩ := Rd.of_own ho1
          have hcv := cv_string hr3 c2
          go_wp2
          go_ret3
          rw [HG.out]
          exact ⟨⟨(acc ++ p).toArray⟩, by dsimp only; rw [show ((i + (k - i + (q + 2)) : Nat) : Int) = (k : Int) + q + 1 + 1 from by omega]; rfl, rfl, hb.grown hg1 hz fun g hg => (ho.lt g hg).1⟩
        have hb1 : ((d.toNat : Int) == 1) = false := by
          rw [beq_eq_false_iff_ne]
          intro h1
          exact hd1 (UInt8.toNat_inj.1 (by rw [show d.toNat = 1 from by omega]; rfl))
        by_cases hd2 : d = 255
        · have hon := HC.out.on hik HP.out (by rw [H1.out, hd2])
          rw [HQ.out] at hon
          have hb2 : ((d.toNat : Int) == 255) = true := by rw [hd2]; rfl
          have HO := Lib.hid hon
          have HD1 := Lib.hid hd1
          have HD2 := Lib.hid hd2
          clear hon hd1 hd2
          go_wp2_with (at_builtin; refine wpList_app rfl (.tmp 55) _ rfl w.heap.size _ m acc rfl ho w.heap.size (some ⟨g, o + k, none⟩) _ _ (p ++ [0]) rfl (by first | exact hpc | (rw [show k + q + 1 - k = q + 1 from by omega]; exact hpc)) ?c2 hz ?_)
          case c2 => omega
          intro v1 w1 ho1 hg1
          go_wp2
          go_roundw
          case rel => exact ⟨k + q + 2, _, _, by go_num, by omega, by omega, ho1, by omega, HO.out, hb.grown hg1 hz fun g hg => (ho.lt g hg).1⟩
          case measure => simp [intOf]; omega
        · have hb2 : ((d.toNat : Int) == 255) = false := by
            rw [beq_eq_false_iff_ne]
            intro h1
            exact hd2 (UInt8.toNat_inj.1 (by rw [show d.toNat = 255 from by omega]; rfl))
          have hg := gtxt_err l i 6 (by rw [HL.out]; exact hi) (HC.out.bad HP.out H1.out hd1 hd2)
          have HG := Lib.hid hg
          have HD1 := Lib.hid hd1
          have HD2 := Lib.hid hd2
          clear hg hd1 hd2
          go_wp2
          go_ret3
          rw [HG.out]
          exact GivesT.none hb
/-- GetText, at any place of any bytes. -/
theorem getText_any (A : Option Addr) (n c B : Nat) (l : List UInt8) (i : Int) (w : World) (h : Rd w B A n l) (hB : B ≤ w.heap.size) (hn : n ≤ c) (hc : c ≤ maxLen) (hs : n ≤ 35184372088832) (hA : A = none → c = 0) :
    Calls Try.prog 17 #[.slice A n c, .int .i64 i] w (GivesT w (gtxt l i)) := by
  by_cases ho : i < 0 ∨ (n : Int) < i
  · exact getText_out A n c B l i w h ho
  · obtain ⟨k, rfl⟩ : ∃ k : Nat, i = (k : Nat) := ⟨i.toNat, by omega⟩
    exact getText_in A n c B l k w h hB (by omega) hn hc hs hA
end Go.Proofs.Ytkahcblonfbdaaa
