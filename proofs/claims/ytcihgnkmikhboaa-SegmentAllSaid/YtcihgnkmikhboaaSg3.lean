/-
  Contracts of package segment, third part: noughts, fits, read.
-/
import Derived.Test.YtcihgnkmikhboaaSg2
set_option linter.unusedVariables false
set_option linter.unusedSimpArgs false
namespace Go.Proofs.Ytcihgnkmikhboaa
open Go Go.RowKit

theorem all_zero (l : List UInt8) : (l.all (· == 0)) = true ↔ l = List.replicate l.length 0 := by
  rw [List.all_eq_true, List.eq_replicate_iff]
  constructor
  · intro h
    exact ⟨rfl, fun b hb => by simpa using h b hb⟩
  · rintro ⟨_, h⟩ b hb
    simp [h b hb]

set_option maxHeartbeats 1000000 in
theorem noughts_any (A : Option Addr) (n c B : Nat) (l : List UInt8) (w : World) (h : Rd w B A n l) (hn : n ≤ 1099511627776) :
    Calls Try.prog 16 #[.slice A n c] w fun e w' => e = .returned (.bool (l.all (· == 0))) ∧ w = w' := by
  have hl := h.1
  have HL := Lib.hid hl
  clear hl
  go_enter Try.func16, Try.ntmps16
  go_wp2
  go_loop [7] (fun i => ∃ k : Nat, k ≤ n ∧ i = .int .i64 k ∧ (l.take k).all (· == 0) = true) (fun i => n - (intOf i).toNat)
  case atStart => exact ⟨0, Nat.zero_le _, rfl, rfl⟩
  case round =>
    obtain ⟨k, hk, rfl, hz⟩ := hrel
    have HZ := Lib.hid hz
    clear hz
    by_cases hlt : k < n
    · obtain ⟨g, o, rfl, hgB, hc⟩ := h.at2 hlt
      have hkl : k < l.length := by rw [HL.out]; exact hlt
      have hck := hc k hkl
      have hbk := l[k].toNat_lt
      by_cases h0 : l[k] = 0
      · have hb : ((l[k].toNat : Int) != 0) = false := by rw [h0]; rfl
        have hz2 : (l.take (k + 1)).all (· == 0) = true := by
          rw [List.take_succ_eq_append_getElem hkl, List.all_append, HZ.out, h0]; rfl
        have HZ2 := Lib.hid hz2
        have HC := Lib.hid hc
        clear hz2 h0 hc
        go_wp2
        go_round
        case rel => exact ⟨k + 1, by omega, by go_num, HZ2.out⟩
        case measure => simp [intOf]; omega
      · have hb : ((l[k].toNat : Int) != 0) = true := by
          rw [bne_iff_ne]
          intro e
          exact h0 (UInt8.toNat_inj.1 (by rw [show l[k].toNat = 0 from by omega]; rfl))
        have hf : l.all (· == 0) = false := by
          rw [Bool.eq_false_iff]
          intro e
          rw [List.all_eq_true] at e
          exact h0 (by simpa using e l[k] (List.getElem_mem hkl))
        have HF := Lib.hid hf
        have HC := Lib.hid hc
        clear hf h0 hc
        go_wp2
        go_ret
        exact ⟨by rw [HF.out]; rfl, rfl⟩
    · obtain rfl : k = n := by omega
      go_wp2
      go_ret
      refine ⟨?_, rfl⟩
      have := HZ.out
      rw [List.take_of_length_le (by rw [HL.out]; exact Nat.le_refl _)] at this
      rw [this]
      rfl

/-- What fits says. -/
def fitB (k : UInt8) (s : ByteArray) (to : Nat) : Bool := if k = 2 ∨ k = 3 then to == 128 else if k = 4 then s.size != 0 else true

theorem u8_eq (k : UInt8) (m : Nat) (hm : m < 256) : (((k.toNat : Nat) : Int) == ((m : Nat) : Int)) = decide (k = UInt8.ofNat m) := by
  have h := k.toNat_lt
  by_cases hk : k = UInt8.ofNat m
  · rw [hk, decide_eq_true rfl, UInt8.toNat_ofNat', beq_iff_eq]
    omega
  · rw [decide_eq_false hk, beq_eq_false_iff_ne]
    intro e
    exact hk (UInt8.toNat_inj.1 (by rw [UInt8.toNat_ofNat']; omega))

set_option maxHeartbeats 1000000 in
theorem fits_any (k : UInt8) (s : ByteArray) (to : Nat) (w : World) :
    Calls Try.prog 25 #[.int .u8 (k.toNat : Nat), .string s, .int .i64 (to : Nat)] w fun e w' => e = .returned (.bool (fitB k s to)) ∧ w = w' := by
  have e2 := u8_eq k 2 (by omega)
  have e3 := u8_eq k 3 (by omega)
  have e4 := u8_eq k 4 (by omega)
  have es : (s.toList != []) = (s.size != 0) := by
    rw [Lib.toList_data, Lib.size_eq]
    cases s.data.toList <;> rfl
  have et : (((to : Nat) : Int) == 128) = (to == 128) := by
    rw [Bool.eq_iff_iff, beq_iff_eq, beq_iff_eq]
    omega
  by_cases h2 : k = 2
  · subst h2
    go_enter Try.func25, Try.ntmps25
    go_wp2
    go_ret
    exact ⟨by simp [fitB, et], rfl⟩
  by_cases h3 : k = 3
  · subst h3
    go_enter Try.func25, Try.ntmps25
    go_wp2
    go_ret
    exact ⟨by simp [fitB, et], rfl⟩
  by_cases h4 : k = 4
  · subst h4
    by_cases h0 : s.size = 0
    · obtain rfl : s = ⟨#[]⟩ := by
        apply ba_ext
        exact List.eq_nil_of_length_eq_zero (by rw [← Lib.size_eq]; exact h0)
      clear es
      go_enter Try.func25, Try.ntmps25
      go_wp2
      go_ret
      exact ⟨rfl, rfl⟩
    · have es2 : (s.size != 0) = true := by simpa using h0
      rw [es2] at es
      have hs : s.toList ≠ [] := by simpa using es
      go_enter Try.func25, Try.ntmps25
      go_wp2
      go_ret
      exact ⟨by simp [fitB, es2, hs], rfl⟩
  · have d2 : decide (k = UInt8.ofNat 2) = false := by simpa using h2
    have d3 : decide (k = UInt8.ofNat 3) = false := by simpa using h3
    have d4 : decide (k = UInt8.ofNat 4) = false := by simpa using h4
    rw [d2] at e2
    rw [d3] at e3
    rw [d4] at e4
    have hv : fitB k s to = true := by unfold fitB; rw [if_neg (by rintro (h | h); exact h2 h; exact h3 h), if_neg h4]
    rw [hv]
    clear hv es et h2 h3 h4 d2 d3 d4
    go_enter Try.func25, Try.ntmps25
    go_wp2
    go_ret
    exact ⟨rfl, rfl⟩
end Go.Proofs.Ytcihgnkmikhboaa
