/-
  Contracts of the document's own answers of layer 1: cont, one.
-/
import Derived.Test.YtdbdlgmejddbhaaDoorRnN
import Derived.Test.YtdbdlgmejddbhaaDoorPlc
import Derived.WalkSpells
set_option linter.unusedVariables false
namespace Go.Proofs.YtdbdlgmejddbhaaDoor
open Go Go.RowKit

def goB (s : ByteArray) (i : Nat) : Bool := decide (i < s.size) && decide (128 ≤ bt s i) && decide (bt s i < 192)
theorem goB_iff (s : ByteArray) (i : Nat) : goB s i = true ↔ goesOn s i := by
  unfold goB goesOn
  simp [and_assoc]
def contB (s : ByteArray) (a n : Nat) : Bool := (List.range n).all fun j => goB s (a + j)

theorem and192_all : ∀ x : Fin 256, (bits BinOp.and IntKind.u8 (x.val : Int) 192 != 128) = !(decide (128 ≤ x.val) && decide (x.val < 192)) := by decide +kernel
theorem and192 (x : Nat) (h : x < 256) : (bits BinOp.and IntKind.u8 (x : Int) 192 != 128) = !(decide (128 ≤ x) && decide (x < 192)) := and192_all ⟨x, h⟩
theorem and31_all : ∀ x : Fin 256, bits BinOp.and IntKind.i32 (x.val : Int) 31 = ((x.val % 32 : Nat) : Int) := by decide +kernel
theorem and15_all : ∀ x : Fin 256, bits BinOp.and IntKind.i32 (x.val : Int) 15 = ((x.val % 16 : Nat) : Int) := by decide +kernel
theorem and7_all : ∀ x : Fin 256, bits BinOp.and IntKind.i32 (x.val : Int) 7 = ((x.val % 8 : Nat) : Int) := by decide +kernel
theorem and31 (x : Nat) (h : x < 256) : bits BinOp.and IntKind.i32 (x : Int) 31 = ((x % 32 : Nat) : Int) := and31_all ⟨x, h⟩
theorem and15 (x : Nat) (h : x < 256) : bits BinOp.and IntKind.i32 (x : Int) 15 = ((x % 16 : Nat) : Int) := and15_all ⟨x, h⟩
theorem and7 (x : Nat) (h : x < 256) : bits BinOp.and IntKind.i32 (x : Int) 7 = ((x % 8 : Nat) : Int) := and7_all ⟨x, h⟩
theorem and63_all : ∀ x : Fin 256, bits BinOp.and IntKind.u8 (x.val : Int) 63 = ((x.val % 64 : Nat) : Int) := by decide +kernel

set_option maxHeartbeats 1600000 in
set_option maxRecDepth 100000 in
theorem cont_any (s : ByteArray) (a n : Nat) (w : World) (hs : s.size ≤ 1099511627776) (ha : a ≤ s.size) (hn : n ≤ 3) :
    Calls Tryd.prog 47 #[.string s, .int .i64 a, .int .i64 n] w fun e w' => e = .returned (.bool (contB s a n)) ∧ w = w' := by
  by_cases hb : (s.size : Int) < (a : Int) + n
  · have hc : contB s a n = false := by
      unfold contB
      rw [List.all_eq_false]
      refine ⟨s.size - a, by rw [List.mem_range]; omega, ?_⟩
      unfold goB
      rw [show a + (s.size - a) = s.size from by omega]
      simp
    have HC := Lib.hid hc
    clear hc
    go_enter Tryd.func47, Tryd.ntmps47
    go_wp2
    go_ret
    exact ⟨ret_bool HC.out.symm, rfl⟩
  · go_enter Tryd.func47, Tryd.ntmps47
    go_wp2
    go_loop [7] (fun i => ∃ k : Nat, k ≤ n ∧ i = .int .i64 ((a : Int) + k) ∧ (List.range k).all (fun j => goB s (a + j)) = true) (fun i => (a + n) - (intOf i).toNat)
    case atStart => exact ⟨0, Nat.zero_le _, by simp, by simp⟩
    case round =>
      obtain ⟨k, hk, rfl, hall⟩ := hrel
      have HA := Lib.hid hall
      clear hall
      by_cases hlt : (a : Int) + k < (a : Int) + n
      · have hin : (a : Int) + k < s.size := by omega
        have hin2 : a + k < s.size := by omega
        have hin0 : (0 : Int) ≤ (a : Int) + k := by omega
        have hbt : bt s (a + k) = s[a + k].toNat := bt_at s (a + k) hin2
        have h256 := bt_lt s (a + k)
        have hand := and192 (s[a + k].toNat) (by omega)
        by_cases hg : goB s (a + k) = true
        · have hf : (bits BinOp.and IntKind.u8 (s[a + k].toNat : Int) 192 != 128) = false := by
            rw [hand, ← hbt]
            unfold goB at hg
            simp only [Bool.and_eq_true, decide_eq_true_eq] at hg
            rw [decide_eq_true hg.1.2, decide_eq_true hg.2]
            rfl
          have HG := Lib.hid hg
          clear hand hg hbt
          go_wp2
          go_round
          case rel => exact ⟨k + 1, by omega, by congr 1, by rw [List.range_succ, List.all_append, HA.out]; simp [HG.out]⟩
          case measure => simp [intOf]; omega
        · have hf : (bits BinOp.and IntKind.u8 (s[a + k].toNat : Int) 192 != 128) = true := by
            rw [hand, ← hbt]
            unfold goB at hg
            rw [decide_eq_true hin2, Bool.true_and] at hg
            rw [Bool.eq_false_iff.2 hg]
            rfl
          have hc : contB s a n = false := by
            unfold contB
            rw [List.all_eq_false]
            exact ⟨k, by rw [List.mem_range]; omega, hg⟩
          have HC := Lib.hid hc
          clear hand hg hbt hc
          go_wp2
          go_ret
          exact ⟨ret_bool HC.out.symm, rfl⟩
      · obtain rfl : k = n := by omega
        go_wp2
        go_ret
        exact ⟨ret_bool HA.out.symm, rfl⟩

def oneV (c : Nat × Nat) (p : Nat) : Value := .agg #[.int .i32 (c.1 : Nat), .int .i64 (p : Nat), .int .i64 (c.2 : Nat), .bool (rightB (c.1, p, c.2))]

set_option maxHeartbeats 3200000 in
set_option maxRecDepth 100000 in
theorem one_low (s : ByteArray) (p : Nat) (w : World) (hs : s.size ≤ 1099511627776) (hp : p < s.size) (h : s[p].toNat < 128) :
    Calls Tryd.prog 28 #[.string s, .int .i64 p] w fun e w' => e = .returned (.agg #[.int .i32 (s[p].toNat : Nat), .int .i64 (p : Nat), .int .i64 1, .bool true]) ∧ Below w.heap.size w w' := by
  go_enter Tryd.func28, Tryd.ntmps28
  go_wp2
  exact bodyPost_ret (v := .agg #[.int .i32 (s[p].toNat : Nat), .int .i64 (p : Nat), .int .i64 1, .bool true]) (by simp [results, Tryd.results28, go_sem]) rfl ⟨rfl, ((Below.refl _ _).alloc (Nat.le_refl _) _).alloc (by simp) _⟩

theorem or_step (x b : Nat) (hx : x ≤ 131071) (hb : b < 256) : Value.int .i32 (bits .or .i32 ((x : Int) * 64) (wrap32 (bits .and .u8 (b : Int) 63))) = Value.int .i32 ((x * 64 + b % 64 : Nat) : Int) := by
  have h1 : bits BinOp.and IntKind.u8 (b : Int) 63 = ((b % 64 : Nat) : Int) := and63_all ⟨b, hb⟩
  have h2 : wrap32 ((b % 64 : Nat) : Int) = ((b % 64 : Nat) : Int) := by unfold wrap32; omega
  rw [h1, h2, i32_or6 (x := (x : Int) * 64) (y := ((b % 64 : Nat) : Int)) (by omega) (by omega) (by omega) (by omega) (by omega)]
  congr 1

/-- What the bytes behind the first one make of r0. -/
def rr (s : ByteArray) (p r0 : Nat) : Nat → Nat
  | 0 => r0
  | k + 1 => rr s p r0 k * 64 + bt s (p + (k + 1)) % 64
theorem rr_small (s : ByteArray) (p r0 k : Nat) (h : r0 ≤ 31) (hk : k ≤ 2) : rr s p r0 k ≤ 131071 := by
  have : k = 0 ∨ k = 1 ∨ k = 2 := by omega
  rcases this with rfl | rfl | rfl <;> simp only [rr] <;> omega

/-- Whether so many bytes made a code point too small, or none. -/
def wrongR (n r : Nat) : Bool := (n == 2 && (decide (r < 2048) || (decide (55296 ≤ r) && decide (r < 57344)))) || (n == 3 && (decide (r < 65536) || decide (1114111 < r)))

set_option maxHeartbeats 1600000 in
set_option maxRecDepth 100000 in
theorem one_bad1 (s : ByteArray) (p : Nat) (w : World) (hs : s.size ≤ 1099511627776) (hp : p < s.size) (h1 : 128 ≤ s[p].toNat) (h2 : s[p].toNat < 194) :
    Calls Tryd.prog 28 #[.string s, .int .i64 p] w fun e w' => e = .returned (.agg #[.int .i32 65533, .int .i64 (p : Nat), .int .i64 1, .bool false]) ∧ Below w.heap.size w w' := by
  have f0 : ¬ (s[p].toNat : Int) < 128 := by omega
  have f1 : ¬ 194 ≤ (s[p].toNat : Int) := by omega
  have f2 : ¬ 224 ≤ (s[p].toNat : Int) := by omega
  have f3 : ¬ 240 ≤ (s[p].toNat : Int) := by omega
  go_enter Tryd.func28, Tryd.ntmps28
  go_wp2
  exact bodyPost_ret (v := .agg #[.int .i32 65533, .int .i64 (p : Nat), .int .i64 1, .bool false]) (by simp [results, Tryd.results28, go_sem]) rfl ⟨rfl, ((Below.refl _ _).alloc (Nat.le_refl _) _).alloc (by simp) _⟩

set_option maxHeartbeats 1600000 in
set_option maxRecDepth 100000 in
theorem one_bad2 (s : ByteArray) (p : Nat) (w : World) (hs : s.size ≤ 1099511627776) (hp : p < s.size) (h1 : 245 ≤ s[p].toNat) :
    Calls Tryd.prog 28 #[.string s, .int .i64 p] w fun e w' => e = .returned (.agg #[.int .i32 65533, .int .i64 (p : Nat), .int .i64 1, .bool false]) ∧ Below w.heap.size w w' := by
  have hlt : s[p].toNat < 256 := s[p].toNat_lt
  have f0 : ¬ (s[p].toNat : Int) < 128 := by omega
  have f1 : 194 ≤ (s[p].toNat : Int) := by omega
  have f2 : ¬ (s[p].toNat : Int) < 224 := by omega
  have f3 : 224 ≤ (s[p].toNat : Int) := by omega
  have f4 : ¬ (s[p].toNat : Int) < 240 := by omega
  have f5 : 240 ≤ (s[p].toNat : Int) := by omega
  have f6 : ¬ (s[p].toNat : Int) < 245 := by omega
  go_enter Tryd.func28, Tryd.ntmps28
  go_wp2
  exact bodyPost_ret (v := .agg #[.int .i32 65533, .int .i64 (p : Nat), .int .i64 1, .bool false]) (by simp [results, Tryd.results28, go_sem]) rfl ⟨rfl, ((Below.refl _ _).alloc (Nat.le_refl _) _).alloc (by simp) _⟩

set_option maxHeartbeats 1600000 in
set_option maxRecDepth 100000 in
theorem one_cut1 (s : ByteArray) (p : Nat) (w : World) (hs : s.size ≤ 1099511627776) (hp : p < s.size) (h1 : 194 ≤ s[p].toNat) (h2 : s[p].toNat < 224) (hc : contB s (p + 1) 1 = false) :
    Calls Tryd.prog 28 #[.string s, .int .i64 p] w fun e w' => e = .returned (.agg #[.int .i32 65533, .int .i64 (p : Nat), .int .i64 1, .bool false]) ∧ Below w.heap.size w w' := by
  have HC := Lib.hid hc
  clear hc
  have f0 : ¬ (s[p].toNat : Int) < 128 := by omega
  have f1 : 194 ≤ (s[p].toNat : Int) := by omega
  have f2 : (s[p].toNat : Int) < 224 := by omega
  go_enter Tryd.func28, Tryd.ntmps28
  go_wp2_with (go_at_call 47; refine (cont_any s (p + 1) 1 _ hs (by omega) (by omega)).mono ?_; rintro e w' ⟨rfl, rfl⟩; rw [HC.out])
  exact bodyPost_ret (v := .agg #[.int .i32 65533, .int .i64 (p : Nat), .int .i64 1, .bool false]) (by simp [results, Tryd.results28, go_sem]) rfl ⟨rfl, ((Below.refl _ _).alloc (Nat.le_refl _) _).alloc (by simp) _⟩

set_option maxHeartbeats 1600000 in
set_option maxRecDepth 100000 in
theorem one_cut2 (s : ByteArray) (p : Nat) (w : World) (hs : s.size ≤ 1099511627776) (hp : p < s.size) (h1 : 224 ≤ s[p].toNat) (h2 : s[p].toNat < 240) (hc : contB s (p + 1) 2 = false) :
    Calls Tryd.prog 28 #[.string s, .int .i64 p] w fun e w' => e = .returned (.agg #[.int .i32 65533, .int .i64 (p : Nat), .int .i64 1, .bool false]) ∧ Below w.heap.size w w' := by
  have HC := Lib.hid hc
  clear hc
  have f0 : ¬ (s[p].toNat : Int) < 128 := by omega
  have f1 : 194 ≤ (s[p].toNat : Int) := by omega
  have f2 : ¬ (s[p].toNat : Int) < 224 := by omega
  have f3 : 224 ≤ (s[p].toNat : Int) := by omega
  have f4 : (s[p].toNat : Int) < 240 := by omega
  go_enter Tryd.func28, Tryd.ntmps28
  go_wp2_with (go_at_call 47; refine (cont_any s (p + 1) 2 _ hs (by omega) (by omega)).mono ?_; rintro e w' ⟨rfl, rfl⟩; rw [HC.out])
  exact bodyPost_ret (v := .agg #[.int .i32 65533, .int .i64 (p : Nat), .int .i64 1, .bool false]) (by simp [results, Tryd.results28, go_sem]) rfl ⟨rfl, ((Below.refl _ _).alloc (Nat.le_refl _) _).alloc (by simp) _⟩

set_option maxHeartbeats 1600000 in
set_option maxRecDepth 100000 in
theorem one_cut3 (s : ByteArray) (p : Nat) (w : World) (hs : s.size ≤ 1099511627776) (hp : p < s.size) (h1 : 240 ≤ s[p].toNat) (h2 : s[p].toNat < 245) (hc : contB s (p + 1) 3 = false) :
    Calls Tryd.prog 28 #[.string s, .int .i64 p] w fun e w' => e = .returned (.agg #[.int .i32 65533, .int .i64 (p : Nat), .int .i64 1, .bool false]) ∧ Below w.heap.size w w' := by
  have HC := Lib.hid hc
  clear hc
  have f0 : ¬ (s[p].toNat : Int) < 128 := by omega
  have f1 : 194 ≤ (s[p].toNat : Int) := by omega
  have f2 : ¬ (s[p].toNat : Int) < 224 := by omega
  have f3 : 224 ≤ (s[p].toNat : Int) := by omega
  have f4 : ¬ (s[p].toNat : Int) < 240 := by omega
  have f5 : 240 ≤ (s[p].toNat : Int) := by omega
  have f6 : (s[p].toNat : Int) < 245 := by omega
  go_enter Tryd.func28, Tryd.ntmps28
  go_wp2_with (go_at_call 47; refine (cont_any s (p + 1) 3 _ hs (by omega) (by omega)).mono ?_; rintro e w' ⟨rfl, rfl⟩; rw [HC.out])
  exact bodyPost_ret (v := .agg #[.int .i32 65533, .int .i64 (p : Nat), .int .i64 1, .bool false]) (by simp [results, Tryd.results28, go_sem]) rfl ⟨rfl, ((Below.refl _ _).alloc (Nat.le_refl _) _).alloc (by simp) _⟩

end Go.Proofs.YtdbdlgmejddbhaaDoor
