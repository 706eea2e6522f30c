/-
  The walk of SegmentTorn.
-/
import Derived.Test.YtcihgnkmikhboaaSgo
import Derived.Laws.Bits64b
import Derived.Deep.RegionHeld3
import Derived.Deep.DrawnRows
import Derived.WalkSpells
import Derived.Deep.CutBlock
import Derived.Deep.DeepCutAuto
set_option linter.unusedVariables false
set_option linter.unusedSimpArgs false
namespace Go.Proofs.Ytcihgnkmikhboaa
open Go Go.RowKit
attribute [local go_sem ↓] Go.wp_at_zero Go.wp_at_succ

theorem lists_take (T : List ByteArray) (n : Nat) : (lists T).take n = lists (T.take n) := by
  unfold lists
  rw [List.map_take]
theorem keepB {W0 W w' : World} (b : Below W.heap.size W w') (h : Below W0.heap.size W0 W) : Below W0.heap.size W0 w' := h.trans (b.mono h.size)
theorem same_of {W0 W : World} {A A' : Option Addr} {n n' c c' : Nat} {l : List ByteArray} (h : RdS W0 W0.heap.size A n l) (h' : RdS W0 W0.heap.size A' n' l) (hb : Below W0.heap.size W0 W) (hn : n ≤ 1000000000000) (hn' : n' ≤ 1000000000000) :
    Calls Try.prog 13 #[.slice A n c, .slice A' n' c'] W fun e w' => e = .returned (.bool true) ∧ Below W.heap.size W w' := by
  have := same_any A A' n n' c c' _ _ l l W (h.below hb) (h'.below hb) hb.size hb.size hn hn'
  rw [decide_eq_true (rfl : l = l)] at this
  exact this
theorem torn_ans {T : List ByteArray} {n k : Nat} (hk : (puts 0 (lists (T.take n))).length ≤ k) (hn : n < T.length → k < (puts 0 (lists (T.take (n + 1)))).length) : Ans ((puts 0 (lists T)).take k) (lists (T.take n)) := by
  have := Ans.torn (lists T) n k (by rw [lists_take]; exact hk) (by rw [lists_take, lists_length]; exact hn)
  rw [lists_take] at this
  exact this
theorem turned_pre {T : List ByteArray} {n i : Nat} {y : UInt8} (hi : (puts 0 (lists (T.take n))).length ≤ i) : puts 0 (lists (T.take n)) <+: (puts 0 (lists T)).set i y := by
  have e : puts 0 (lists T) = puts 0 (lists (T.take n)) ++ puts (0 + (puts 0 (lists (T.take n))).length) ((lists T).drop n) := by
    rw [← puts_append, ← lists_take, List.take_append_drop]
  rw [e, List.set_append, if_neg (by omega)]
  exact List.prefix_append _ _
theorem puts_pos {T : List ByteArray} (h : 0 < T.length) : 6 ≤ (puts 0 (lists T)).length := by
  match T, h with
  | t :: T, _ =>
    show 6 ≤ (puts 0 (t.data.toList :: lists T)).length
    rw [puts, List.length_append]
    have := frm_length_ge 0 true t.data.toList
    unfold put
    omega
theorem bits_xor_u8_nat (a b : UInt8) : bits BinOp.xor IntKind.u8 (a.toNat : Int) (b.toNat : Int) = ((a ^^^ b).toNat : Nat) := by
  have ha := a.toNat_lt
  have hb := b.toNat_lt
  have hx : a.toNat ^^^ b.toNat < 2 ^ 8 := Nat.xor_lt_two_pow (by omega) (by omega)
  have h1 : (BitVec.ofInt 8 (a.toNat : Int)).toNat = a.toNat := by
    rw [BitVec.ofInt_natCast, BitVec.toNat_ofNat]; exact Nat.mod_eq_of_lt (by omega)
  have h2 : (BitVec.ofInt 8 (b.toNat : Int)).toNat = b.toNat := by
    rw [BitVec.ofInt_natCast, BitVec.toNat_ofNat]; exact Nat.mod_eq_of_lt (by omega)
  show IntKind.u8.wrap ((BitVec.ofInt 8 (a.toNat : Int) ^^^ BitVec.ofInt 8 (b.toNat : Int)).toNat : Int) = _
  have hw : ∀ n : Int, IntKind.u8.wrap n = n % 256 := fun n => by simp [IntKind.wrap, IntKind.bits, IntKind.signed]
  rw [BitVec.toNat_xor, h1, h2, UInt8.toNat_xor, hw]
  omega

set_option maxHeartbeats 1000000 in
set_option maxRecDepth 100000 in
theorem torn_long (A : Option Addr) (n c : Nat) (cut pl by' : Int) (w : World) (hc : c ≤ maxLen) (hn : n ≤ c) (h : 12 < n) :
    Calls Try.prog 4 #[.slice A n c, .int .i64 cut, .int .i64 pl, .int .u8 by'] w fun e w' => e = .returned (.bool true) ∧ Below w.heap.size w w' := by
  unfold maxLen at hc
  have d1 : decide ((12 : Int) < n) = true := by simp; omega
  go_enter Try.func4, Try.ntmps4
  go_wp2_with (go_at_call 8; refine (awake_any _).mono ?_; rintro e w' ⟨rfl, b1⟩)
  go_ret
  exact ⟨rfl, b1⟩

set_option maxHeartbeats 8000000 in
set_option maxRecDepth 100000 in
theorem torn_law (A : Option Addr) (n c : Nat) (T : List ByteArray) (cut pl by' : Int) (w : World) (hr : RdS w w.heap.size A n T) (hn : n ≤ c) (hc : c ≤ maxLen) (hA : A = none → c = 0) (hT : ∀ t ∈ T, t.size ≤ maxLen) (hw : (Lit.int .i64 cut).wf = true) (hp : (Lit.int .i64 pl).wf = true) (hb : (Lit.int .u8 by').wf = true) :
    Calls Try.prog 4 #[.slice A n c, .int .i64 cut, .int .i64 pl, .int .u8 by'] w fun e w' => e = .returned (.bool true) ∧ Below w.heap.size w w' := by
  by_cases hbig : 12 < n
  · exact torn_long A n c cut pl by' w hc hn hbig
  have hw2 := bounds_i64 hw
  have hp2 := bounds_i64 hp
  have hby := bounds_u8 hb
  obtain ⟨y, rfl⟩ : ∃ y : UInt8, by' = (y.toNat : Nat) := ⟨UInt8.ofNat by'.toNat, by rw [UInt8.toNat_ofNat']; omega⟩
  have hn12 : n ≤ 12 := by omega
  have d1 : decide ((12 : Int) < n) = false := by simp; omega
  have hTl := hr.1
  have HTL := Lib.hid hTl
  have HT := Lib.hid hT
  have HN := Lib.hid hn
  have HAA := Lib.hid hA
  unfold maxLen at hc
  clear hbig hw hp hb hT hTl hby
  go_enter Try.func4, Try.ntmps4
  go_wp2
  go_loopw [9, 10, 11] (fun v9 v10 v11 wr => ∃ (k m : Nat), v11 = .int .i64 k ∧ k ≤ n ∧ m ≤ 3000 * k ∧ wr.ownsRow w.heap.size 5 1 v9 m (Lib.byteCells (puts 0 (lists (T.take k)))) ∧ wr.ownsRow w.heap.size 3 1 v10 k (intRow (ends T k)) ∧ Below w.heap.size w wr) (fun _ _ v11 _ => n - (intOf v11).toNat)
  case atStart => exact ⟨0, 0, rfl, Nat.zero_le _, by omega, World.ownsRow_nil _ _ _ _, World.ownsRow_nil _ _ _ _, Below.refl _ _⟩
  case round =>
    obtain ⟨k, m, rfl, hk, hm, hob, hoe, hb⟩ := hrel
    have hz := hb.size
    by_cases hlt : k < n
    · obtain ⟨g, o, rfl, hg, hcell⟩ := (hr.below hb).at2 hlt
      have hkl : k < T.length := by rw [HTL.out]; exact hlt
      have hck := hcell k hkl
      have htk := HT.out T[k] (List.getElem_mem hkl)
      unfold maxLen at htk
      by_cases h400 : 400 < T[k].size
      · have d3 : decide ((400 : Int) < T[k].size) = true := by simp; omega
        clear hcell
        go_wp2_with (go_at_call 8; refine (awake_any _).mono ?_; rintro e w' ⟨rfl, b1⟩)
        go_ret
        exact ⟨rfl, hb.trans (b1.mono hz)⟩
      · have d3 : decide ((400 : Int) < T[k].size) = false := by simp; omega
        have hst := puts_take_step T k hkl
        obtain ⟨A1, c1, rfl, hmc, hcm, hA1, hrb⟩ := Rd.of_own hob
        have hml := hrb.1
        rw [hml] at hst
        have hpl := put_length_le m T[k].data.toList
        rw [← Lib.size_eq] at hpl
        have HST := Lib.hid hst
        have HPL := Lib.hid hpl
        clear hcell hst hpl hml
        go_wp2_with fail
        refine (put_own A1 m c1 _ _ T[k] _ hrb (Nat.le_refl _) hmc hcm (by omega) (by omega)).mono ?_
        rintro e w1 ⟨v2, m2, rfl, ho2, b2⟩
        rw [← HST.out] at ho2
        have hb1 := hb.trans (b2.mono hz)
        have ho2 := own_down ho2 hz
        have hoe1 := own_below hoe b2
        have hm2 : m2 ≤ 3000 * (k + 1) := by
          have h1 := HPL.out
          have h2 := ho2.1
          rw [Lib.byteCells_length, HST.out, List.length_append, hrb.1] at h2
          omega
        have hm2e : m2 = (puts 0 (lists (T.take (k + 1)))).length := by
          have h2 := ho2.1
          rw [Lib.byteCells_length] at h2
          omega
        have HM2 := Lib.hid hm2e
        obtain ⟨A2, c2, rfl, hmc2, hcm2, hA2, hr2⟩ := Rd.of_own ho2
        have hcell2 : (w1.alloc (.cells #[.int .i64 (m2 : Nat)] 3)).cell? ⟨w1.heap.size, 0, none⟩ = some (.int .i64 (m2 : Nat)) := cell_of_one (heap_alloc_new w1 _)
        have HC2 := Lib.hid hcell2
        have hz1 := hb1.size
        clear hm2e hcell2 hr2 hrb hob hoe
        go_wp2_with (at_builtin; refine list_ex rfl (.tmp 44) (.tmp 47) _ _ rfl _ _ rfl rfl (run_appInt w.heap.size (hoe1.alloc _) m2 HC2.out ?s1 ?s2) ?_)
        case s1 => omega
        case s2 => simp; omega
        intro v6 w3 ho6 hg6
        have hb3 := grown_own (hb1.alloc hz1 (.cells #[.int .i64 (m2 : Nat)] 3)) (hoe1.alloc _) hg6
        have ho2b := (ho2.alloc (.cells #[.int .i64 (m2 : Nat)] 3)).kept hg6 (own_apart ho2 hoe1 (by decide))
        rw [HM2.out, ← ends_succ] at ho6
        go_wp2
        go_roundw
        case rel => exact ⟨k + 1, m2, by go_num, by omega, hm2, ho2b, ho6, hb3⟩
        case measure => simp [intOf]; omega
    · obtain rfl : k = n := by omega
      rw [List.take_of_length_le (by rw [HTL.out]; exact Nat.le_refl _)] at hob
      obtain ⟨A1, c1, rfl, hmc, hcm, hA1, hrb⟩ := Rd.of_own hob
      obtain ⟨A2, c2, rfl, hec, hecm, hre⟩ := RdI.of_own hoe
      have hml := hrb.1
      obtain ⟨S, hS⟩ : ∃ S, puts 0 (lists T) = S := ⟨_, rfl⟩
      rw [hS] at hrb hml
      obtain ⟨x, hx⟩ : ∃ x : Nat, cut % ((m : Int) + 1) = x := ⟨(cut % ((m : Int) + 1)).toNat, by have := Int.emod_nonneg cut (show (m : Int) + 1 ≠ 0 by omega); omega⟩
      have hxm : x ≤ m := by have := Int.emod_lt_of_pos cut (show (0 : Int) < (m : Int) + 1 by omega); omega
      obtain ⟨hs1, hr1⟩ := sl_h hrb hmc hA1 (x : Nat) x rfl hxm
      have HX := Lib.hid hx
      have HS := Lib.hid hS
      have HML := Lib.hid hml
      have HRB := Lib.hid hrb
      have HRE := Lib.hid hre
      clear hx hS hml hrb hre hob hoe
      go_wp2_with fail
      refine (place_any cut ((m : Int) + 1) _ (by omega) (by omega) hw2).mono ?_
      rintro e w1 ⟨rfl, rfl⟩
      rw [HX.out]
      go_wp2_with fail
      refine (scan_any A1 x c1 _ (S.take x) _ hr1 (Nat.le_refl _) (by omega) hcm (by omega)).mono ?_
      rintro e w2 ⟨A3, n3, c3, M, rfl, b2, hr3, hn3, hc3, hA3, hans⟩
      obtain ⟨gd, hgd⟩ : ∃ gd, (puts 0 (lists M)).length = gd := ⟨_, rfl⟩
      rw [hgd]
      have hb2 := hb.trans (b2.mono hz)
      have HGD := Lib.hid hgd
      have HANS := Lib.hid hans
      have HR3 := Lib.hid hr3
      clear hgd hans hr1 hr3
      have HRE2 := Lib.hid (HRE.out.on b2 b2.size)
      have HRB2 := Lib.hid (HRB.out.on b2 b2.size)
      clear hb
      go_upto_block 2 with fail
      go_cut [15, 16] from 61 to 78 (fun s15 s16 wx => (∃ j e : Nat, s15 = .int .i64 j ∧ s16 = .int .i64 e ∧ j ≤ k ∧ e = (puts 0 (lists (T.take j))).length ∧ e ≤ x ∧ (j < T.length → x < (puts 0 (lists (T.take (j + 1)))).length)) ∧ wx = w2)
      case first =>
        go_wp2_with fail
        go_loop [15, 16] (fun v15 v16 => ∃ j e : Nat, v15 = .int .i64 j ∧ v16 = .int .i64 e ∧ j ≤ k ∧ e = (puts 0 (lists (T.take j))).length ∧ e ≤ x) (fun v15 _ => k - (intOf v15).toNat)
        case atStart => exact ⟨0, 0, rfl, rfl, Nat.zero_le _, rfl, Nat.zero_le _⟩
        case round =>
          obtain ⟨j, e, rfl, rfl, hj, he, hex⟩ := hrel
          have HE := Lib.hid he
          clear he
          by_cases hlt : j < k
          · obtain ⟨g, o, rfl, hg, hcell⟩ := HRE2.out.2 (by omega)
            have hjl : j < (ends T k).length := by rw [ends_length]; exact hlt
            have hcj := hcell j hjl
            rw [ends_get] at hcj
            obtain ⟨e1, he1⟩ : ∃ e1, (puts 0 (lists (T.take (j + 1)))).length = e1 := ⟨_, rfl⟩
            rw [he1] at hcj
            have HE1 := Lib.hid he1
            clear hcell he1
            by_cases hgo : e1 ≤ x
            · have d5 : decide ((e1 : Int) ≤ (x : Nat)) = true := by simp; omega
              go_wp2
              go_round
              case rel => exact ⟨j + 1, e1, by go_num, rfl, by omega, HE1.out.symm, hgo⟩
              case measure => simp [intOf]; omega
            · have d5 : decide ((e1 : Int) ≤ (x : Nat)) = false := by simp; omega
              go_wp2
              go_meet
              exact ⟨⟨j, e, rfl, rfl, hj, HE.out, hex, fun _ => by rw [HE1.out]; omega⟩, rfl⟩
          · have d5 : decide ((j : Int) < (k : Nat)) = false := by simp; omega
            go_wp2
            go_meet
            exact ⟨⟨j, e, rfl, rfl, hj, HE.out, hex, fun h => by rw [HTL.out] at h; omega⟩, rfl⟩
      case rest =>
        obtain ⟨⟨j, e, rfl, rfl, hj, he, hex, hjx⟩, rfl⟩ := hcut
        have hans2 := torn_ans (T := T) (n := j) (k := x) (by omega) hjx
        rw [HS.out] at hans2
        obtain rfl : M = T.take j := lists_inj (HANS.out.unique hans2)
        have hge : gd = e := by rw [← HGD.out, he]
        subst hge
        obtain ⟨hs4, hr4⟩ := sl_hS (hr.below hb2) HN.out HAA.out (j : Nat) j rfl hj
        have HR4 := Lib.hid hr4
        have hj12 : j ≤ 1000000000000 := by omega
        have hn3l : n3 ≤ 1000000000000 := by
          have h1 := HR3.out.1
          rw [List.length_take] at h1
          omega
        have hzz := hb2.size
        have hm0 : (k = 0 ∧ m = 0) ∨ (0 < k ∧ 6 ≤ m) := by
          by_cases h0 : k = 0
          · refine Or.inl ⟨h0, ?_⟩
            rw [← HML.out, ← HS.out, List.eq_nil_of_length_eq_zero (HTL.out.trans h0)]
            rfl
          · refine Or.inr ⟨by omega, ?_⟩
            rw [← HML.out, ← HS.out]
            exact puts_pos (by rw [HTL.out]; omega)
        have hyb := y.toNat_lt
        clear hr4 hans2 he hjx
        go_wp2_with fail
        refine (same_any A3 A n3 j c3 c _ _ (T.take j) (T.take j) _ HR3.out HR4.out (Nat.le_refl _) hzz hn3l hj12).mono ?_
        rintro e2 w3 ⟨rfl, b3⟩
        rw [decide_eq_true (rfl : T.take j = T.take j)]
        have hb3 := hb2.trans (b3.mono hb2.size)
        have hq0 : ((gd : Int) != (gd : Nat)) = false := by simp
        rcases hm0 with ⟨hk0, hm0⟩ | ⟨hk0, hm0⟩
        · have q1 : ((m : Int) == 0) = true := by rw [beq_iff_eq]; omega
          have q2 : ((k : Int) == 0) = true := by rw [beq_iff_eq]; omega
          clear hk0 hm0
          go_wp2_with (go_at_call 8; refine (awake_any _).mono ?_; rintro e w' ⟨rfl, b4⟩)
          go_ret
          exact ⟨rfl, hb3.trans (b4.mono hb3.size)⟩
        have q1 : ((m : Int) == 0) = false := by rw [beq_eq_false_iff_ne]; omega
        have q2 : ((k : Int) == 0) = false := by rw [beq_eq_false_iff_ne]; omega
        by_cases hy0 : y.toNat = 0
        · have q3 : ((y.toNat : Int) == 0) = true := by rw [beq_iff_eq]; omega
          clear hy0
          go_wp2_with (go_at_call 8; refine (awake_any _).mono ?_; rintro e w' ⟨rfl, b4⟩)
          go_ret
          exact ⟨rfl, hb3.trans (b4.mono hb3.size)⟩
        have q3 : ((y.toNat : Int) == 0) = false := by rw [beq_eq_false_iff_ne]; omega
        obtain ⟨i, hi⟩ : ∃ i : Nat, pl % (m : Int) = i := ⟨(pl % (m : Int)).toNat, by have := Int.emod_nonneg pl (show (m : Int) ≠ 0 by omega); omega⟩
        have him : i < m := by have := Int.emod_lt_of_pos pl (show (0 : Int) < (m : Int) by omega); omega
        have HI := Lib.hid hi
        clear hi hy0
        have HRB3 := Lib.hid (HRB2.out.on b3 b3.size)
        have HRE3 := Lib.hid (HRE2.out.on b3 b3.size)
        go_wp2_with fail
        refine (place_any pl (m : Nat) _ (by omega) (by omega) hp2).mono ?_
        rintro e w4 ⟨rfl, rfl⟩
        rw [HI.out]
        have hm140 : 0 + m ≤ 140737488355328 := by omega
        go_wp2_with (at_builtin; refine list_ex rfl (.const (.slice none 0 0)) (.tmp 111) _ _ rfl (.slice none 0 0) (.slice A1 m c1) rfl rfl (run_appOwn w3.heap.size (own_nil _ _) c1 HRB3.out hm140 (Nat.le_refl _)) ?_)
        intro v5 w5 ho5 hg5
        have b5 : Below w3.heap.size w3 w5 := (Below.refl _ _).grown hg5 (Nat.le_refl _) (fun g hg => by cases hg)
        try simp only [Nat.zero_add, List.nil_append] at ho5
        obtain ⟨g5, cap5, rfl, hbg5, hgl5⟩ := ho5.form (by omega)
        have hiS : i < S.length := by rw [HML.out]; exact him
        obtain ⟨d, hd⟩ : ∃ d, S[i] = d := ⟨_, rfl⟩
        have hci : w5.cell? ⟨g5, i, none⟩ = some (.int .u8 (d.toNat : Nat)) := by
          have h1 := ho5.cells (g := g5) rfl i (.int .u8 (d.toNat : Nat)) (by rw [byteCells_get, List.getElem?_eq_getElem hiS, hd]; rfl)
          rw [Addr.add_lit, Nat.zero_add] at h1
          exact h1
        have hfi := ho5.frozenAt i
        obtain ⟨z, hz6⟩ : ∃ z, d ^^^ y = z := ⟨_, rfl⟩
        have hxor : bits BinOp.xor IntKind.u8 (d.toNat : Int) (y.toNat : Int) = (z.toNat : Nat) := by rw [bits_xor_u8_nat, hz6]
        have hbd := d.toNat_lt
        have hbz := z.toNat_lt
        have ho6 := (ho5.stored i (.int .u8 (z.toNat : Nat))).1
        have hset : (Lib.byteCells S).set i (.int .u8 (z.toNat : Nat)) = Lib.byteCells (S.set i z) := by
          unfold Lib.byteCells
          rw [List.map_set]
        rw [hset] at ho6
        have b6 : Below w3.heap.size w3 (w5.setCell ⟨g5, i, none⟩ (.int .u8 (z.toNat : Nat))) := b5.setCell hbg5 _
        obtain ⟨A6, c6, hv6, hmc6, hcm6, hA6, hr6⟩ := Rd.of_own ho6
        injection hv6 with e1 e2 e3
        subst e1
        subst e3
        have HR6 := Lib.hid hr6
        have hz5 := b5.size
        have i0 : (0 : Int) ≤ (i : Nat) := by omega
        have i1 : (i : Int) < (m : Nat) := by omega
        clear hset ho5 ho6 hr6 hz6 hd hiS hg5
        go_wp2_with fail
        refine (scan_any (some ⟨g5, 0, none⟩) m cap5 _ (S.set i z) _ HR6.out (Nat.le_refl _) hmc6 hcm6 (by omega)).mono ?_
        rintro e w7 ⟨A7, n7, c7, M, rfl, b7, hr7, hn7c, hc7, hA7, hans⟩
        obtain ⟨gd2, hgd2⟩ : ∃ gd2, (puts 0 (lists M)).length = gd2 := ⟨_, rfl⟩
        rw [hgd2]
        have hz6 := b6.size
        have b67 := b6.trans (b7.mono hz6)
        have hb7 := hb3.trans (b67.mono hb3.size)
        have HR7 := Lib.hid hr7
        have HANS7 := Lib.hid hans
        have HGD2 := Lib.hid hgd2
        have HRE7 := Lib.hid (HRE3.out.on b67 b67.size)
        have HC7 := Lib.hid (HR6.out.on b7 b7.size)
        clear hr7 hans hgd2 hci hfi hxor
        go_upto_block 4 with fail
        go_cut [15, 16] from 127 to 144 (fun s15 s16 wx => (∃ j e : Nat, s15 = .int .i64 j ∧ s16 = .int .i64 e ∧ j ≤ k ∧ e = (puts 0 (lists (T.take j))).length ∧ e ≤ i) ∧ wx = w7)
        case first =>
          go_wp2_with fail
          go_loop [15, 16] (fun v15 v16 => ∃ j e : Nat, v15 = .int .i64 j ∧ v16 = .int .i64 e ∧ j ≤ k ∧ e = (puts 0 (lists (T.take j))).length ∧ e ≤ i) (fun v15 _ => k - (intOf v15).toNat)
          case atStart => exact ⟨0, 0, rfl, rfl, Nat.zero_le _, rfl, Nat.zero_le _⟩
          case round =>
            obtain ⟨j, e, rfl, rfl, hj, he, hex⟩ := hrel
            have HE := Lib.hid he
            clear he
            by_cases hlt : j < k
            · obtain ⟨g, o, rfl, hg, hcell⟩ := HRE7.out.2 (by omega)
              have hjl : j < (ends T k).length := by rw [ends_length]; exact hlt
              have hcj := hcell j hjl
              rw [ends_get] at hcj
              obtain ⟨e1, he1⟩ : ∃ e1, (puts 0 (lists (T.take (j + 1)))).length = e1 := ⟨_, rfl⟩
              rw [he1] at hcj
              have HE1 := Lib.hid he1
              clear hcell he1
              by_cases hgo : e1 ≤ i
              · have d5 : decide ((e1 : Int) ≤ (i : Nat)) = true := by simp; omega
                go_wp2
                go_round
                case rel => exact ⟨j + 1, e1, by go_num, rfl, by omega, HE1.out.symm, hgo⟩
                case measure => simp [intOf]; omega
              · have d5 : decide ((e1 : Int) ≤ (i : Nat)) = false := by simp; omega
                go_wp2
                go_meet
                exact ⟨⟨j, e, rfl, rfl, hj, HE.out, hex⟩, rfl⟩
            · have d5 : decide ((j : Int) < (k : Nat)) = false := by simp; omega
              go_wp2
              go_meet
              exact ⟨⟨j, e, rfl, rfl, hj, HE.out, hex⟩, rfl⟩
        case rest =>
          obtain ⟨⟨j2, e2, rfl, rfl, hj2, he2, hex2⟩, rfl⟩ := hcut
          have hpre := turned_pre (T := T) (n := j2) (i := i) (y := z) (by omega)
          rw [HS.out] at hpre
          have hfr := HANS7.out.front hpre
          obtain ⟨M3, hM3⟩ := hfr
          have hjT : (lists (T.take j2)).length = j2 := by rw [lists_length, List.length_take, HTL.out]; omega
          have htk : M.take j2 = T.take j2 := by
            apply lists_inj
            rw [← lists_take, ← hM3, List.take_left' hjT]
          have hle2 : e2 ≤ gd2 := by
            rw [he2, ← HGD2.out, ← hM3, puts_append, List.length_append]
            omega
          have hMl := HR7.out.1
          have hjn : j2 ≤ n7 := by
            have h1 := congrArg List.length hM3
            rw [List.length_append, hjT, lists_length, hMl] at h1
            omega
          have hn7 : n7 ≤ 1000000 := by
            have h1 := puts_count (lists M) 0
            have h2 := HANS7.out.1.length_le
            rw [List.length_set, HML.out] at h2
            rw [lists_length] at h1
            omega
          obtain ⟨sq, hsq⟩ : ∃ x : ByteArray, x.data.toList = S.set i z := ⟨⟨(S.set i z).toArray⟩, rfl⟩
          have hsqz : sq.size ≤ 1000000 := by rw [Lib.size_eq, hsq, List.length_set, HML.out]; omega
          have hcvq := cv_as HC7.out cap5 sq hsq
          have HSQ := Lib.hid hsq
          have HTK := Lib.hid htk
          clear hsq htk hpre hM3 hjT hMl he2
          go_wp2_with fail
          refine (rscan_any sq _ hsqz).mono ?_
          rintro e9 w9 ⟨A9, n9, c9, M9, rfl, b9, hr9, hn9, hc9, hA9, hans9⟩
          rw [HSQ.out] at hans9
          obtain rfl : M9 = M := lists_inj (hans9.unique HANS7.out)
          rw [HGD2.out]
          have hb9 := hb7.trans (b9.mono hb7.size)
          have hr79 := HR7.out.on b9 b9.size
          obtain ⟨hs7, hr7t⟩ := sl_hS hr79 hn7c hA7 (j2 : Nat) j2 rfl hjn
          have hrl9 := hr.on hb9 hb9.size
          obtain ⟨hsl9, hrl9t⟩ := sl_hS hrl9 HN.out HAA.out (j2 : Nat) j2 rfl hj2
          rw [HTK.out] at hr7t
          have hj2m : j2 ≤ 1000000000000 := by omega
          have hn7m : n7 ≤ 1000000000000 := by omega
          have hn9m : n9 ≤ 1000000000000 := by
            have h1 := hr9.1
            have h2 := hr79.1
            omega
          have v1 : decide ((j2 : Int) ≤ (n7 : Nat)) = true := by simp; omega
          have v2 : decide ((e2 : Int) ≤ (gd2 : Nat)) = true := by simp; omega
          have HA1 := Lib.hid hr7t
          have HA2 := Lib.hid hrl9t
          have HA3 := Lib.hid hr79
          have HA4 := Lib.hid hr9
          have z0 : Below w9.heap.size w9 w9.drew := (Below.refl _ _).drew
          clear hr7t hrl9t hr79 hr9 hrl9 hans9 hcvq
          go_wp2_with fail
          go_region_held3 (fun w' => Below w9.heap.size w9 w') (assumption) (first
            | (go_at_call_of 13 (Value.slice A j2 c)
               refine Calls.mono (same_of HA1.out HA2.out ?_ hj2m hj2m) ?_
               assumption
               rintro e w10 ⟨rfl, b10⟩
               have x1 := keepB (W0 := w9) b10 (by assumption))
            | (go_at_call_of 13 (Value.slice A9 n9 c9)
               refine Calls.mono (same_of HA3.out HA4.out ?_ hn7m hn9m) ?_
               assumption
               rintro e w11 ⟨rfl, b11⟩
               have x2 := keepB (W0 := w9) b11 (by assumption))
            | (go_at_call 8
               refine Calls.mono (awake_any _) ?_
               rintro e w12 ⟨rfl, b12⟩
               have x3 := keepB (W0 := w9) b12 (by assumption)))
          have hbf := hb9.trans (x3.mono hb9.size)
          go_wp2
          go_ret
          exact ⟨rfl, hbf⟩
end Go.Proofs.Ytcihgnkmikhboaa
