/-
  Contracts of the document's own answers, chapter 2, third part: GetNum, GetText.
-/
import Derived.Test.YtkahcblonfbdaaaRr2
set_option linter.unusedVariables false
namespace Go.Proofs.Ytkahcblonfbdaaa
open Go Go.RowKit

theorem numV_end (l : List UInt8) (i b : Nat) : numV (vl ((l.drop (i + 1)).take b), ((i + 1 + b : Nat) : Int), 0) = .tuple #[.int .u64 ((vl ((l.drop (i + 1)).take b) : Nat) : Int), .int .i64 ((i : Int) + 1 + b), .int .i64 0] := by
  unfold numV
  dsimp only
  rw [show ((i + 1 + b : Nat) : Int) = (i : Int) + 1 + b from by omega]

set_option maxHeartbeats 4000000 in
theorem rgetNum_any (s : ByteArray) (i : Int) (w : World) (hs : s.size ≤ 70368744177664) :
    Calls Try.prog 16 #[.string s, .int .i64 i] w fun e w' => e = .returned (numV (gnum s.data.toList i)) ∧ w = w' := by
  have hl : s.data.toList.length = s.size := (Lib.size_eq s).symm
  by_cases hneg : i < 0
  · rw [gnum_out _ i (Or.inl hneg)]
    clear hl
    go_enter Try.func16, Try.ntmps16
    go_wp2
    go_ret3
    exact ⟨rfl, rfl⟩
  have t0 : decide (i < 0) = false := by simp; omega
  by_cases hbig : (s.size : Int) < i
  · rw [gnum_out _ i (Or.inr (by rw [hl]; exact hbig))]
    clear hl
    go_enter Try.func16, Try.ntmps16
    go_wp2
    go_ret3
    exact ⟨rfl, rfl⟩
  obtain ⟨i, rfl⟩ : ∃ k : Nat, i = (k : Nat) := ⟨i.toNat, by omega⟩
  have t1 : decide ((s.size : Int) < i) = false := by simp; omega
  by_cases hend : i = s.size
  · have hg := gnum_end s.data.toList
    rw [hl, ← hend] at hg
    rw [hg]
    have t2 : ((i : Int) == s.size) = true := by simp; omega
    have HE := Lib.hid hend
    clear hl hg hend
    go_enter Try.func16, Try.ntmps16
    go_wp2
    go_ret3
    exact ⟨rfl, rfl⟩
  have t2 : ((i : Int) == s.size) = false := by simp; omega
  have hi : i < s.size := by omega
  have hil : i < s.data.toList.length := by omega
  have hg := gnum_at s.data.toList i hil
  have ei : s.data.toList[i] = s[i] := rfl
  rw [ei] at hg
  obtain ⟨b, hbe⟩ : ∃ b : Nat, s[i].toNat = b := ⟨_, rfl⟩
  have hb255 : b < 256 := by rw [← hbe]; exact s[i].toNat_lt
  rw [hbe] at hg
  have hbk : s[i].toNat < 256 := s[i].toNat_lt
  by_cases h8 : 8 < b
  · rw [if_pos (Or.inl h8)] at hg
    rw [hg]
    have t3 : decide ((8 : Int) < s[i].toNat) = true := by rw [hbe]; simp; omega
    have HBE := Lib.hid hbe
    clear hg hl ei hbe hend
    go_enter Try.func16, Try.ntmps16
    go_wp2
    go_ret3
    exact ⟨rfl, rfl⟩
  have t3 : decide ((8 : Int) < s[i].toNat) = false := by rw [hbe]; simp; omega
  by_cases h6 : 0 < b ∧ s.data.toList[i + 1]? = some 0
  · obtain ⟨h60, h61⟩ := h6
    rw [if_pos (Or.inr ⟨h60, h61⟩)] at hg
    rw [hg]
    obtain ⟨hil2, h62⟩ := List.getElem?_eq_some_iff.1 h61
    have hi2 : i + 1 < s.size := by omega
    have h63 : s[i + 1] = 0 := h62
    have t4 : decide ((0 : Int) < s[i].toNat) = true := by rw [hbe]; simp; omega
    have hp : 0 < s[i].toNat := by omega
    have t5 : decide ((i : Int) + 1 < s.size) = true := by simp; omega
    have t6 : ((s[i + 1].toNat : Int) == 0) = true := by rw [h63]; rfl
    have HBE := Lib.hid hbe
    have H63 := Lib.hid h63
    clear hg hl ei hbe hend h61 h62 h63
    go_enter Try.func16, Try.ntmps16
    go_wp2
    go_ret3
    exact ⟨rfl, rfl⟩
  rw [if_neg (by rintro (h | h); exact h8 h; exact h6 h)] at hg
  have hbk8 : s[i].toNat ≤ 8 := by omega
  by_cases h0 : b = 0
  · rw [if_neg (by omega)] at hg
    rw [hg]
    have t4 : decide ((0 : Int) < s[i].toNat) = false := by rw [hbe, h0]; rfl
    have hbk0 : (s[i].toNat : Int) ≤ 0 := by omega
    have hbk1 : ¬ 0 < s[i].toNat := by omega
    have t7 : decide ((s.size : Int) - i - 1 < s[i].toNat) = false := by simp; omega
    have t8 : decide ((1 : Int) ≤ s[i].toNat) = false := by simp; omega
    have hfit : i + 1 + s[i].toNat ≤ s.size := by omega
    have HBE := Lib.hid hbe
    have HL := Lib.hid hl
    have H0 := Lib.hid h0
    clear hg hl ei hbe hend h6 h0
    go_enter Try.func16, Try.ntmps16
    go_wp2
    go_loop [8, 9] (fun v j => ∃ k : Nat, j = .int .i64 ((k + 1 : Nat) : Int) ∧ k ≤ s[i].toNat ∧ v = .int .u64 (vl ((s.data.toList.drop (i + 1)).take k) : Nat)) (fun _ j => s[i].toNat + 1 - (intOf j).toNat)
    case atStart => exact ⟨0, rfl, Nat.zero_le _, rfl⟩
    case round =>
      obtain ⟨k, rfl, hk, rfl⟩ := hrel
      · obtain rfl : k = s[i].toNat := by omega
        go_wp2
        go_ret3
        refine ⟨?_, rfl⟩
        rw [← HBE.out]
        rfl
  have t4 : decide ((0 : Int) < s[i].toNat) = true := by simp; omega
  have hp : 0 < s[i].toNat := by omega
  by_cases hlast : i + 1 = s.size
  · rw [if_pos (by omega)] at hg
    rw [hg]
    have t5 : decide ((i : Int) + 1 < s.size) = false := by simp; omega
    have t7 : decide ((s.size : Int) - i - 1 < s[i].toNat) = true := by simp; omega
    have HBE := Lib.hid hbe
    have HLA := Lib.hid hlast
    clear hg hl ei hbe hend h6 hlast
    go_enter Try.func16, Try.ntmps16
    go_wp2
    go_ret3
    exact ⟨rfl, rfl⟩
  have hi2 : i + 1 < s.size := by omega
  have t5 : decide ((i : Int) + 1 < s.size) = true := by simp; omega
  have t6 : ((s[i + 1].toNat : Int) == 0) = false := by
    rw [beq_eq_false_iff_ne]
    intro h1
    refine h6 ⟨by omega, ?_⟩
    rw [List.getElem?_eq_getElem (by omega)]
    exact congrArg some (UInt8.toNat_inj.1 (show s[i + 1].toNat = 0 by omega))
  by_cases hsh : s.size - (i + 1) < b
  · rw [if_pos (by omega)] at hg
    rw [hg]
    have t7 : decide ((s.size : Int) - i - 1 < s[i].toNat) = true := by simp; omega
    have HBE := Lib.hid hbe
    clear hg hl ei hbe hend h6
    go_enter Try.func16, Try.ntmps16
    go_wp2
    go_ret3
    exact ⟨rfl, rfl⟩
  rw [if_neg (by omega)] at hg
  rw [hg]
  have t7 : decide ((s.size : Int) - i - 1 < s[i].toNat) = false := by simp; omega
  have hfit : i + 1 + s[i].toNat ≤ s.size := by omega
  have HBE := Lib.hid hbe
  have HL := Lib.hid hl
  clear hg hl ei hbe hend h6 hsh
  go_enter Try.func16, Try.ntmps16
  go_wp2
  go_loop [8, 9] (fun v j => ∃ k : Nat, j = .int .i64 ((k + 1 : Nat) : Int) ∧ k ≤ s[i].toNat ∧ v = .int .u64 (vl ((s.data.toList.drop (i + 1)).take k) : Nat)) (fun _ j => s[i].toNat + 1 - (intOf j).toNat)
  case atStart => exact ⟨0, rfl, Nat.zero_le _, rfl⟩
  case round =>
    obtain ⟨k, rfl, hk, rfl⟩ := hrel
    by_cases hlt : k < s[i].toNat
    · have hks : i + (k + 1) < s.size := by omega
      have hst : vl ((s.data.toList.drop (i + 1)).take (k + 1)) = vl ((s.data.toList.drop (i + 1)).take k) * 256 + s[i + (k + 1)].toNat := by
        have hkl : k < (s.data.toList.drop (i + 1)).length := by rw [List.length_drop, HL.out]; omega
        rw [List.take_succ_eq_append_getElem hkl, vl_snoc, List.getElem_drop]
        show _ + s[i + 1 + k].toNat = _
        simp only [show i + 1 + k = i + (k + 1) from by omega]
      have hv := vl_small (s.data.toList.drop (i + 1)) k (by omega)
      have hbk2 := s[i + (k + 1)].toNat_lt
      have HST := Lib.hid hst
      clear hst
      go_wp2
      go_round
      case rel => exact ⟨k + 1, by go_num, by omega, by rw [HST.out]; go_num⟩
      case measure => simp [intOf]; omega
    · obtain rfl : k = s[i].toNat := by omega
      go_wp2
      go_ret3
      refine ⟨?_, rfl⟩
      rw [← HBE.out]
      rfl
end Go.Proofs.Ytkahcblonfbdaaa
