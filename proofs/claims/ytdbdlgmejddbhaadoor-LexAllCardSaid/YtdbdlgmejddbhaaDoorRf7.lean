/-
  Contracts of the document's own answers of layer 1: Quote, Unquote.
-/
import Derived.Test.YtdbdlgmejddbhaaDoorRf6
set_option linter.unusedVariables false
namespace Go.Proofs.YtdbdlgmejddbhaaDoor
open Go Go.RowKit

theorem mkb (l : List UInt8) : ∃ b : ByteArray, b.data.toList = l := ⟨⟨l.toArray⟩, rfl⟩
theorem add_run (a b c : ByteArray) (h : c.data.toList = a.data.toList ++ b.data.toList) (hs : a.size + b.size ≤ 9223372036854775807) (wx : World) : (Op.stringOp .add a b).run Tryd.prog wx = .ok (.string c) wx := by
  rw [run_string_add_sum wx a b hs]
  congr 2
  apply ba_ext
  rw [h]
  simp
theorem one_run (s c : ByteArray) (k : Nat) (h : k < s.size) (hc : c.data.toList = [s[k]]) (wx : World) : (Instr.slice 9 (.string s) (some (.int .i64 (k : Int))) (some (.int .i64 ((k : Int) + 1))) none).run Tryd.prog wx = .ok (.string c) wx := by
  rw [run_slice_string (P := Tryd.prog) wx 9 s .i64 .i64 k ((k : Int) + 1) Tryd.underlying9 (by omega) (by omega) (by omega)]
  congr 2
  apply ba_ext
  have hl := ba_size_list s
  rw [hc, Lib.extract_data]
  simp only [Int.toNat_natCast]
  rw [show ((k : Int) + 1).toNat - k = 1 from by omega, List.drop_eq_getElem_cons (by omega)]
  rfl
theorem byte_eq39 (c : UInt8) : ((c.toNat : Int) == 39) = decide (c = 39) := by
  rw [Bool.eq_iff_iff]
  simp only [beq_iff_eq, decide_eq_true_eq]
  constructor
  · intro h
    apply UInt8.toNat_inj.1
    rw [show c.toNat = 39 from by omega]
    rfl
  · intro h; rw [h]; rfl
theorem byte_ne39 (c : UInt8) : ((c.toNat : Int) != 39) = !decide (c = 39) := by
  rw [← byte_eq39]; rfl
theorem take_one (s : ByteArray) (k : Nat) (h : k < s.size) : s.data.toList.take (k + 1) = s.data.toList.take k ++ [s[k]] := by
  have hl := ba_size_list s
  rw [List.take_succ_eq_append_getElem (by omega)]
  rfl
theorem drop_one (s : ByteArray) (k : Nat) (h : k < s.size) : s.data.toList.drop k = s[k] :: s.data.toList.drop (k + 1) := by
  have hl := ba_size_list s
  rw [List.drop_eq_getElem_cons (by omega)]
  rfl

set_option maxHeartbeats 1600000 in
set_option maxRecDepth 100000 in
theorem runquote_no (s : ByteArray) (n : Int) (w : World) (hs : s.size ≤ 1099511627776) (hn : n < 0 ∨ (s.size : Int) ≤ n) :
    Calls Tryd.prog 51 #[.string s, .int .i64 n] w fun e w' => e = .returned (unquoteV none) ∧ Below w.heap.size w w' := by
  rcases hn with hn | hn
  · go_enter Tryd.func51, Tryd.ntmps51
    go_wp2
    exact bodyPost_ret (v := .tuple #[.string ⟨#[]⟩, .int .i64 0, .bool false]) (by simp [results, Tryd.results51, go_sem]) rfl ⟨rfl, Below.refl _ _⟩
  · have hn0 : ¬ n < 0 := by omega
    go_enter Tryd.func51, Tryd.ntmps51
    go_wp2
    exact bodyPost_ret (v := .tuple #[.string ⟨#[]⟩, .int .i64 0, .bool false]) (by simp [results, Tryd.results51, go_sem]) rfl ⟨rfl, Below.refl _ _⟩

set_option maxHeartbeats 1600000 in
set_option maxRecDepth 100000 in
theorem runquote_other (s : ByteArray) (n : Nat) (w : World) (hs : s.size ≤ 1099511627776) (hn : n < s.size) (hq : ((s[n].toNat : Int) != 39) = true) :
    Calls Tryd.prog 51 #[.string s, .int .i64 n] w fun e w' => e = .returned (unquoteV none) ∧ Below w.heap.size w w' := by
  have hn2 : ¬ (s.size : Int) ≤ n := by omega
  go_enter Tryd.func51, Tryd.ntmps51
  go_wp2
  exact bodyPost_ret (v := .tuple #[.string ⟨#[]⟩, .int .i64 0, .bool false]) (by simp [results, Tryd.results51, go_sem]) rfl ⟨rfl, Below.refl _ _⟩

set_option maxHeartbeats 4000000 in
set_option maxRecDepth 100000 in
theorem runquote_yes (s : ByteArray) (n : Nat) (w : World) (hs : s.size ≤ 1099511627776) (hn : n < s.size) (hq : ((s[n].toNat : Int) != 39) = false) :
    Calls Tryd.prog 51 #[.string s, .int .i64 n] w fun e w' => e = .returned (unquoteV ((unq (s.data.toList.drop (n + 1))).map (fun x => (x.1, n + 1 + x.2)))) ∧ Below w.heap.size w w' := by
  have hl := ba_size_list s
  have HL := Lib.hid hl
  clear hl
  have hn2 : ¬ (s.size : Int) ≤ n := by omega
  go_enter Tryd.func51, Tryd.ntmps51
  go_wp2
  go_loop [7, 8] (fun t i => ∃ (k : Nat) (tb : ByteArray), n + 1 + k ≤ s.size ∧ i = .int .i64 ((n + 1 + k : Nat) : Int) ∧ t = .string tb ∧ At (s.data.toList.drop (n + 1)) tb.data.toList k ∧ tb.size ≤ k) (fun _ i => s.size - (intOf i).toNat)
  case atStart => exact ⟨0, ⟨#[]⟩, by omega, by simp, rfl, At.start _, by exact Nat.le_refl _⟩
  case round =>
    obtain ⟨k, tb, hk, rfl, rfl, hat, hts⟩ := hrel
    obtain ⟨m, hm⟩ : ∃ m, n + 1 + k = m := ⟨_, rfl⟩
    rw [hm] at hk ⊢
    have hd : (s.data.toList.drop (n + 1)).drop k = s.data.toList.drop m := by rw [List.drop_drop, hm]
    have hd1 : (s.data.toList.drop (n + 1)).drop (k + 1) = s.data.toList.drop (m + 1) := by rw [List.drop_drop]; congr 1; omega
    have hd2 : (s.data.toList.drop (n + 1)).drop (k + 2) = s.data.toList.drop (m + 2) := by rw [List.drop_drop]; congr 1; omega
    have HM := Lib.hid hm
    have hkm : k ≤ m := by omega
    clear hm
    by_cases hlt : m < s.size
    · have hdo := drop_one s m hlt
      by_cases h39 : s[m] = 39
      · have hb : ((s[m].toNat : Int) != 39) = false := by rw [byte_ne39, decide_eq_true h39]; rfl
        rw [h39] at hdo
        by_cases hend : (s.size : Int) ≤ (m : Int) + 1
        · have hres := hat.fin (by rw [hd, hd1, hdo]) (by
            intro d r hdr
            rw [hd1, List.drop_eq_nil_of_le (by have := HL.out; omega)] at hdr
            cases hdr)
          have HR := Lib.hid hres
          clear hd hd1 hd2 hdo h39 hat hres
          go_wp2
          refine bodyPost_ret (v := .tuple #[.string tb, .int .i64 ((m : Int) + 1), .bool true]) (by simp [results, Tryd.results51, go_sem]) rfl ⟨?_, Below.refl _ _⟩
          rw [HR.out]
          simp only [Option.map_some, unquoteV]
          have := HM.out
          rw [show ((n + 1 + (k + 1) : Nat) : Int) = (m : Int) + 1 from by omega]
        · have hm1 : m + 1 < s.size := by omega
          have hdo1 := drop_one s (m + 1) hm1
          by_cases h2 : s[m + 1] = 39
          · have hb2 : ((s[m + 1].toNat : Int) != 39) = false := by rw [byte_ne39, decide_eq_true h2]; rfl
            rw [h2] at hdo1
            obtain ⟨t2, ht2⟩ := mkb (tb.data.toList ++ [39])
            have hadd2 := add_run tb ⟨#[39]⟩ t2 (by rw [ht2]) (by rw [show (⟨#[39]⟩ : ByteArray).size = 1 from rfl]; omega)
            have ht2s : t2.size = tb.size + 1 := by rw [Lib.size_eq, ht2, List.length_append, ba_size_list]; rfl
            have hnx := hat.two (by rw [hd, hd2, hdo, hdo1])
            rw [← ht2] at hnx
            have HT := Lib.hid ht2s
            clear hd hd1 hd2 hdo hdo1 h39 h2 hat ht2 ht2s
            go_wp2
            go_round
            case rel => exact ⟨k + 2, t2, by have := HM.out; omega, by rw [show n + 1 + (k + 2) = m + 2 from by have := HM.out; omega]; congr 1, rfl, hnx, by rw [HT.out]; omega⟩
            case measure => simp [intOf]; omega
          · have hb2 : ((s[m + 1].toNat : Int) != 39) = true := by rw [byte_ne39, decide_eq_false h2]; rfl
            have hres := hat.fin (by rw [hd, hd1, hdo]) (by
              intro d r hdr
              rw [hd1, hdo1] at hdr
              injection hdr with e1 e2
              rw [← e1]
              exact h2)
            have HR := Lib.hid hres
            clear hd hd1 hd2 hdo hdo1 h39 h2 hat hres
            go_wp2
            refine bodyPost_ret (v := .tuple #[.string tb, .int .i64 ((m : Int) + 1), .bool true]) (by simp [results, Tryd.results51, go_sem]) rfl ⟨?_, Below.refl _ _⟩
            rw [HR.out]
            simp only [Option.map_some, unquoteV]
            have := HM.out
            rw [show ((n + 1 + (k + 1) : Nat) : Int) = (m : Int) + 1 from by omega]
      · have hb : ((s[m].toNat : Int) != 39) = true := by rw [byte_ne39, decide_eq_false h39]; rfl
        obtain ⟨c1, hc1⟩ := mkb [s[m]]
        obtain ⟨t2, ht2⟩ := mkb (tb.data.toList ++ [s[m]])
        have hc1s : c1.size = 1 := by rw [Lib.size_eq, hc1]; rfl
        have ht2s : t2.size = tb.size + 1 := by rw [Lib.size_eq, ht2, List.length_append, ba_size_list]; rfl
        have hsl := one_run s c1 m hlt hc1
        have hadd := add_run tb c1 t2 (by rw [ht2, hc1]) (by omega)
        have hnx := hat.plain (a := [s[m]]) (by intro c hc; rw [List.mem_singleton.1 hc]; exact h39) (by rw [hd, List.length_singleton, hd1, hdo]; rfl)
        rw [← ht2] at hnx
        have HT := Lib.hid ht2s
        clear hd hd1 hd2 hdo h39 hat ht2 ht2s hc1 hc1s
        go_wp2
        go_round
        case rel => exact ⟨k + 1, t2, by have := HM.out; omega, by rw [show n + 1 + (k + 1) = m + 1 from by have := HM.out; omega]; rfl, rfl, hnx, by rw [HT.out]; omega⟩
        case measure => simp [intOf]; omega
    · have hres := hat.none (by rw [hd]; exact List.drop_eq_nil_of_le (by have := HL.out; omega))
      have HR := Lib.hid hres
      clear hd hd1 hd2 hat hres
      go_wp2
      refine bodyPost_ret (v := .tuple #[.string ⟨#[]⟩, .int .i64 0, .bool false]) (by simp [results, Tryd.results51, go_sem]) rfl ⟨?_, Below.refl _ _⟩
      rw [HR.out]
      rfl

theorem runquote_any (s : ByteArray) (n : Int) (w : World) (hs : s.size ≤ 1099511627776) :
    Calls Tryd.prog 51 #[.string s, .int .i64 n] w fun e w' => e = .returned (unquoteV (unquoteO s.data.toList n)) ∧ Below w.heap.size w w' := by
  have hl : s.data.toList.length = s.size := by rw [Lib.size_eq]
  by_cases hn : n < 0 ∨ (s.size : Int) ≤ n
  · have e : unquoteO s.data.toList n = none := by
      unfold unquoteO
      rcases hn with hn | hn
      · rw [if_pos hn]
      · rw [if_neg (by omega), List.getElem?_eq_none (by omega), if_neg (by simp)]
    rw [e]
    exact runquote_no s n w hs hn
  · obtain ⟨m, rfl⟩ := Int.eq_ofNat_of_zero_le (show 0 ≤ n by omega)
    have hm : m < s.size := by omega
    have hg : s.data.toList[m]? = some s[m] := by
      rw [List.getElem?_eq_getElem (by omega)]
      rfl
    by_cases hq : s[m] = 39
    · have e : unquoteO s.data.toList (m : Nat) = (unq (s.data.toList.drop (m + 1))).map (fun x => (x.1, m + 1 + x.2)) := by
        unfold unquoteO
        rw [if_neg (by omega), Int.toNat_natCast, hg, if_pos (by rw [hq])]
      rw [e]
      exact runquote_yes s m w hs hm (by rw [byte_ne39, decide_eq_true hq]; rfl)
    · have e : unquoteO s.data.toList (m : Nat) = none := by
        unfold unquoteO
        rw [if_neg (by omega), Int.toNat_natCast, hg, if_neg (by simpa using hq)]
      rw [e]
      exact runquote_other s m w hs hm (by rw [byte_ne39, decide_eq_false hq]; rfl)
end Go.Proofs.YtdbdlgmejddbhaaDoor
