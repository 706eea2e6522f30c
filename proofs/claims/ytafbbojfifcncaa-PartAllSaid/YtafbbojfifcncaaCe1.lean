/-
  cmp.Compare, cmp.Or, above: how a cell's parts compare.
-/
import Derived.Test.YtafbbojfifcncaaCeZ
set_option linter.unusedVariables false
set_option linter.unusedSimpArgs false
namespace Go.Proofs.Ytafbbojfifcncaa
open Go Go.RowKit

theorem nan_int (x : Int) (w : World) :
    Calls Try.prog 96 #[.int .i64 x] w fun e w' => e = .returned (.bool false) ∧ w = w' := by
  go_enter Try.func96, Try.ntmps96
  go_wp2
  go_ret
  exact ⟨by simp, rfl⟩
theorem nan_str (x : ByteArray) (w : World) :
    Calls Try.prog 97 #[.string x] w fun e w' => e = .returned (.bool false) ∧ w = w' := by
  have hb : (!(x.toList == x.toList)) = false := by rw [eqB_true rfl]; rfl
  have hb2 : (x.toList != x.toList) = false := hb
  go_enter Try.func97, Try.ntmps97
  go_wp2
  go_ret
  exact ⟨by simp, rfl⟩

set_option maxHeartbeats 1000000 in
theorem cmpi_any (x y : Int) (w : World) :
    Calls Try.prog 89 #[.int .i64 x, .int .i64 y] w fun e w' => e = .returned (.int .i64 (icmp x y)) ∧ w = w' := by
  obtain ⟨r, hr⟩ : ∃ r, icmp x y = r := ⟨_, rfl⟩
  rw [hr]
  have HR := Lib.hid hr
  clear hr
  by_cases h1 : x < y
  · go_enter Try.func89, Try.ntmps89
    go_wp2_with (first | (go_at_call 96; refine (nan_int _ _).mono ?_; rintro e w1 ⟨rfl, rfl⟩))
    go_ret
    exact ⟨by show Ending.returned (.int .i64 (-1)) = _; rw [show r = -1 from by rw [← HR.out]; unfold icmp; omega], rfl⟩
  · by_cases h2 : y < x
    · go_enter Try.func89, Try.ntmps89
      go_wp2_with (first | (go_at_call 96; refine (nan_int _ _).mono ?_; rintro e w1 ⟨rfl, rfl⟩))
      go_ret
      exact ⟨by show Ending.returned (.int .i64 (1)) = _; rw [show r = 1 from by rw [← HR.out]; unfold icmp; omega], rfl⟩
    · go_enter Try.func89, Try.ntmps89
      go_wp2_with (first | (go_at_call 96; refine (nan_int _ _).mono ?_; rintro e w1 ⟨rfl, rfl⟩))
      go_ret
      exact ⟨by show Ending.returned (.int .i64 (0)) = _; rw [show r = 0 from by rw [← HR.out]; unfold icmp; omega], rfl⟩

set_option maxHeartbeats 1000000 in
theorem cmps_any (x y : ByteArray) (w : World) :
    Calls Try.prog 91 #[.string x, .string y] w fun e w' => e = .returned (.int .i64 (tcmp x y)) ∧ w = w' := by
  obtain ⟨r, hr⟩ : ∃ r, tcmp x y = r := ⟨_, rfl⟩
  rw [hr]
  have HR := Lib.hid hr
  clear hr
  by_cases h1 : x.data.toList < y.data.toList
  · have f1 : Op.bytesLess x.toList y.toList = true := (blB_iff _ _).2 h1
    have hv : r = -1 := by rw [← HR.out]; unfold tcmp; rw [if_pos h1]
    subst hv
    clear h1
    go_enter Try.func91, Try.ntmps91
    go_wp2_with (first | (go_at_call 97; refine (nan_str _ _).mono ?_; rintro e w1 ⟨rfl, rfl⟩))
    go_ret
    exact ⟨rfl, rfl⟩
  · have f1 : Op.bytesLess x.toList y.toList = false := by rw [Bool.eq_false_iff]; exact fun h => h1 ((blB_iff _ _).1 h)
    by_cases h2 : y.data.toList < x.data.toList
    · have f2 : (x.toList == y.toList) = false := eqB_false fun h => by subst h; exact h1 h2
      have f3 : (!Op.bytesLess x.toList y.toList && !(x.toList == y.toList)) = true := by rw [f1, f2]; rfl
      have hv : r = 1 := by rw [← HR.out]; unfold tcmp; rw [if_neg h1, if_pos h2]
      subst hv
      clear h1 h2
      go_enter Try.func91, Try.ntmps91
      go_wp2_with (first | (go_at_call 97; refine (nan_str _ _).mono ?_; rintro e w1 ⟨rfl, rfl⟩))
      go_ret
      exact ⟨rfl, rfl⟩
    · have e1 := ba_ext (lt_or h1 h2)
      have f2 : (x.toList == y.toList) = true := eqB_true e1
      have f3 : (!Op.bytesLess x.toList y.toList && !(x.toList == y.toList)) = false := by rw [f1, f2]; rfl
      have hv : r = 0 := by rw [← HR.out]; unfold tcmp; rw [if_neg h1, if_neg h2]
      subst hv
      clear h1 h2 e1
      go_enter Try.func91, Try.ntmps91
      go_wp2_with (first | (go_at_call 97; refine (nan_str _ _).mono ?_; rintro e w1 ⟨rfl, rfl⟩))
      go_ret
      exact ⟨rfl, rfl⟩

theorem above_any (x y : Bool) (w : World) :
    Calls Try.prog 90 #[.bool x, .bool y] w fun e w' => e = .returned (.int .i64 (bcmp x y)) ∧ w = w' := by
  cases x <;> cases y
  all_goals
    go_enter Try.func90, Try.ntmps90
    go_wp2
    go_ret
    exact ⟨rfl, rfl⟩

set_option maxHeartbeats 1000000 in
theorem or_any (A : Option Addr) (n c B : Nat) (l : List Int) (w : World) (h : RdZ w B A n l) (hB : B ≤ w.heap.size) (hn : n ≤ 1000000000000) :
    Calls Try.prog 88 #[.slice A n c] w fun e w' => e = .returned (.int .i64 (orI l)) ∧ Below w.heap.size w w' := by
  have hl := h.1
  obtain ⟨v, hv⟩ : ∃ v : Int, orI l = v := ⟨_, rfl⟩
  rw [hv]
  have HV := Lib.hid hv
  have HL := Lib.hid hl
  clear hv hl
  go_enter Try.func88, Try.ntmps88
  go_wp2
  go_loopw [8] (fun i wr => ∃ k : Nat, k ≤ n ∧ i = .int .i64 k ∧ orI (l.drop k) = v ∧ Below w.heap.size w wr) (fun i _ => n - (intOf i).toNat)
  case atStart => exact ⟨0, Nat.zero_le _, rfl, HV.out, Below.refl _ _⟩
  case round =>
    obtain ⟨k, hk, rfl, hz, hb⟩ := hrel
    have HZ := Lib.hid hz
    clear hz
    by_cases hlt : k < n
    · have g1 := h.below (hb.mono hB)
      have i1 : (k : Int) < n := by omega
      have i0 : (0 : Int) ≤ k := by omega
      have hkl : k < l.length := by rw [HL.out]; exact hlt
      have hd : l.drop k = l[k] :: l.drop (k + 1) := List.drop_eq_getElem_cons hkl
      obtain ⟨g, o, rfl, _, hc⟩ := g1.2 (by omega)
      have hck := hc k hkl
      obtain ⟨x, hx⟩ : ∃ x, l[k] = x := ⟨_, rfl⟩
      rw [hx] at hck hd
      have HD := Lib.hid hd
      clear hd hc hx g1 h
      by_cases h0 : x = 0
      · subst h0
        have hz2 : orI (l.drop (k + 1)) = v := by rw [← HZ.out, HD.out]; rfl
        have HZ2 := Lib.hid hz2
        clear hz2
        go_wp2
        go_roundw
        case rel => exact ⟨k + 1, by omega, by go_num, HZ2.out, hb.trans ⟨rfl, rfl, rfl, Nat.le_refl _, fun _ _ => rfl⟩⟩
        case measure => simp [intOf]; omega
      · have hv : v = x := by rw [← HZ.out, HD.out]; show lexI x _ = x; unfold lexI; rw [if_neg h0]
        subst hv
        have hne : (v != 0) = true := by rw [bne_iff_ne]; exact h0
        go_wp2
        go_ret
        exact ⟨rfl, hb.trans ⟨rfl, rfl, rfl, Nat.le_refl _, fun _ _ => rfl⟩⟩
    · obtain rfl : k = n := by omega
      have hf : v = 0 := by
        rw [← HZ.out, List.drop_of_length_le (by rw [HL.out]; exact Nat.le_refl _)]
        rfl
      subst hf
      go_wp2
      go_ret
      exact ⟨rfl, hb⟩
end Go.Proofs.Ytafbbojfifcncaa
