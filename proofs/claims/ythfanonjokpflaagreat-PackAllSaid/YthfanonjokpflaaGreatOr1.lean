/-
  Contracts of package order, first part: full, put, Num, Int, get, GetInt, within.
-/
import Derived.Test.YthfanonjokpflaaGreatOb
import Derived.Test.YthfanonjokpflaaGreatOsl
import Derived.LoopTactic
import Derived.Outline
import Derived.WalkSpells
set_option linter.unusedVariables false
namespace Go.Proofs.YthfanonjokpflaaGreat
open Go Go.RowKit

set_option maxHeartbeats 400000 in
theorem full_any (A : Option Addr) (n c : Nat) (w : World) (hn : n ≤ c) (hc : c ≤ maxLen) :
    Calls Tryz.prog 113 #[.slice A n c] w fun e w' => e = .returned (.slice A n n) ∧ w = w' := by
  unfold maxLen at hc
  go_enter Tryz.func113, Tryz.ntmps113
  go_wp2
  go_ret
  exact ⟨by simp, rfl⟩

theorem be_snoc (l : List UInt8) (v m : Nat) (r : List UInt8) (h : l ++ be v (m + 1) = r) : (l ++ [UInt8.ofNat (v / 256 ^ m)]) ++ be v m = r := by
  rw [← h, be, List.append_assoc]
  rfl

theorem shr_byte (v m : Nat) : (v : Int) / 2 ^ (8 * m) % 256 = ((UInt8.ofNat (v / 256 ^ m)).toNat : Nat) := by
  have e : (2 : Int) ^ (8 * m) = ((256 ^ m : Nat) : Int) := by rw [Int.pow_mul]; simp
  rw [e, UInt8.toNat_ofNat']
  simp

set_option maxHeartbeats 1000000 in
theorem put_any (s : Value) (k n v : Nat) (l : List UInt8) (B : Nat) (w : World) (hown : w.ownsRow B 5 1 s k (Lib.byteCells l)) (hB : B ≤ w.heap.size) (hv : v < 18446744073709551616) (hn : n ≤ 8) (hk : k ≤ 70368744177664) :
    Calls Tryz.prog 112 #[s, .int .u64 (v : Nat), .int .i64 (n : Nat)] w fun e w' => ∃ s', e = .returned s' ∧ w'.ownsRow B 5 1 s' (k + n) (Lib.byteCells (l ++ be v n)) ∧ Below B w w' := by
  go_enter Tryz.func112, Tryz.ntmps112
  go_wp2
  go_loopw [0, 2] (fun s i wr => ∃ (m : Nat) (r : List UInt8), i = .int .i64 m ∧ m ≤ n ∧ wr.ownsRow B 5 1 s (k + (n - m)) (Lib.byteCells r) ∧ r ++ be v m = l ++ be v n ∧ Below B w wr) (fun _ i _ => (intOf i).toNat)
  case atStart => exact ⟨n, l, rfl, Nat.le_refl _, by rw [Nat.sub_self]; exact hown, rfl, Below.refl _ _⟩
  case round =>
    obtain ⟨m, r, rfl, hm, ho, hr, hb⟩ := hrel
    by_cases h0 : 0 < m
    · obtain ⟨m, rfl⟩ : ∃ q, m = q + 1 := ⟨m - 1, by omega⟩
      have hr2 := be_snoc r v m _ hr
      have HR := Lib.hid hr2
      clear hr hr2
      have hz := hb.size
      go_wp2_with (at_builtin; refine wpList_app rfl _ _ rfl B _ (k + (n - (m + 1))) r rfl (ho.alloc _) (wr.heap.size + 1) (some ⟨wr.heap.size, 0, none⟩) 1 1 [UInt8.ofNat (v / 256 ^ m)] rfl ?c1 ?c2 ?c3 ?_)
      case c1 => exact Rd.one _ _ _ (shr_byte v m)
      case c2 => omega
      case c3 => simp; omega
      intro s' w1 ho1 hg1
      have hb1 := (hb.alloc (by omega) (.cells #[.int .u8 ((v : Int) / 2 ^ (8 * m) % 256)] 5)).grown hg1 (by simp; omega) (fun g hg => (ho.lt g hg).1)
      go_wp2
      go_roundw
      case rel => exact ⟨m, _, rfl, by omega, by rw [show k + (n - m) = k + (n - (m + 1)) + 1 from by omega]; exact ho1, HR.out, hb1⟩
      case measure => simp [intOf]
    · obtain rfl : m = 0 := by omega
      have HR := Lib.hid hr
      clear hr
      go_wp2
      go_ret
      refine ⟨_, rfl, ?_, hb⟩
      rw [← HR.out, be, List.append_nil]
      simpa using ho
set_option maxHeartbeats 1000000 in
theorem num_any (A : Option Addr) (n c v B : Nat) (l : List UInt8) (w : World) (h : Rd w B A n l) (hB : B ≤ w.heap.size) (hn : n ≤ c) (hc : c ≤ maxLen) (hsz : n ≤ 35184372088832) (hv : v < 18446744073709551616) :
    Calls Tryz.prog 88 #[.slice A n c, .int .u64 (v : Nat)] w (GivesB w (l ++ numL v)) := by
  obtain ⟨g1, g2, g3⟩ := nb_facts v hv
  have e1 : (((Lib.bitLen v : Nat) : Int) + 7) / 8 = (nb v : Nat) := by unfold nb; omega
  have hbl := (bitLen_facts v hv).1
  obtain ⟨bl, hbe⟩ : ∃ bl, Lib.bitLen v = bl := ⟨_, rfl⟩
  rw [hbe] at e1 hbl
  obtain ⟨k, hk⟩ : ∃ k, nb v = k := ⟨_, rfl⟩
  rw [hk] at e1 g1
  have HK := Lib.hid hk
  have HBE := Lib.hid hbe
  have HE := Lib.hid e1
  clear g2 g3 hk hbe e1
  go_enter Tryz.func88, Tryz.ntmps88
  go_wp2_with fail
  refine (len64_any (v : Nat) _ (by omega) (by omega)).mono ?_
  rintro e w1 ⟨rfl, rfl⟩
  rw [Int.toNat_natCast, HBE.out]
  go_wp2_with fail
  rw [HE.out]
  refine (full_any A n c _ hn hc).mono ?_
  rintro e w1 ⟨rfl, rfl⟩
  go_wp2_with (at_builtin; refine wpList_appFull rfl _ _ rfl A n l (B + 0) rfl (h.alloc hB _) (w.heap.size + 1) ⟨w.heap.size, 0, none⟩ 1 1 [UInt8.ofNat k] rfl ?c1 (by omega) ?c2 ?_)
  case c1 => exact Rd.one _ _ _ (by rw [UInt8.toNat_ofNat']; omega)
  case c2 => omega
  intro s1 w1 ho1 hg1
  have hb1 : Below w.heap.size w w1 := ((Below.refl _ _).alloc (Nat.le_refl _) (.cells #[.int .u8 (k : Int)] 5)).grown hg1 (by simp) (fun g hg => by cases hg)
  have hz := hb1.size
  have ho1 := own_down ho1 (b' := w.heap.size) (by simp)
  go_wp2_with fail
  refine (put_any s1 (n + 1) k v (l ++ [UInt8.ofNat k]) w.heap.size _ ho1 hz hv g1 (by omega)).mono ?_
  rintro e w2 ⟨s2, rfl, ho2, hb2⟩
  go_wp2
  go_ret
  refine GivesB.of_own (base := w.heap.size) (n := n + 1 + k) ?_ (hb1.trans hb2)
  rw [numL, HK.out]
  rw [List.append_assoc] at ho2
  exact ho2

theorem within_any (A : Option Addr) (n c : Nat) (i : Int) (w : World) :
    Calls Tryz.prog 120 #[.slice A n c, .int .i64 i] w fun e w' => e = .returned (.bool (decide (0 ≤ i) && decide (i ≤ n))) ∧ w = w' := by
  by_cases h0 : 0 ≤ i
  · go_enter Tryz.func120, Tryz.ntmps120
    go_wp2
    go_ret
    exact ⟨by simp [h0], rfl⟩
  · have hb : decide (0 ≤ i) = false := by simp; omega
    go_enter Tryz.func120, Tryz.ntmps120
    go_wp2
    go_ret
    exact ⟨by simp, rfl⟩

theorem or_byte (a b : Nat) (hb : b < 256) : a * 256 ||| b = a * 256 + b := by
  rw [Nat.mul_comm, show (256 : Nat) = 2 ^ 8 from rfl, Nat.two_pow_add_eq_or_of_lt (by omega)]
end Go.Proofs.YthfanonjokpflaaGreat
