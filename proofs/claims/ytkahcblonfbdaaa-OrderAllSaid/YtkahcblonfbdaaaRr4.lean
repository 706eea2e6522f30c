/-
  Contracts of the document's own answers, chapter 2, fourth part: GetText.
-/
import Derived.Test.YtkahcblonfbdaaaRr3
set_option linter.unusedVariables false
namespace Go.Proofs.Ytkahcblonfbdaaa
open Go Go.RowKit

theorem Come.one {l : List UInt8} {i f : Nat} {acc r : List UInt8} {c : UInt8} (h : Come l i f acc) (hi : i ≤ f) (hc : c ≠ 0) (e : l.drop f = c :: r) : Come l i (f + 1) (acc ++ [c]) := by
  unfold Come
  have er : l.drop (f + 1) = r := by rw [← List.drop_drop, e]; rfl
  rw [h, e, unesc_one c r hc, er]
  cases unesc r with
  | error k => rfl
  | ok x => simp [Except.map]; omega
theorem drop_at (s : ByteArray) (k : Nat) (h : k < s.size) : s.data.toList.drop k = s[k] :: s.data.toList.drop (k + 1) := by
  rw [List.drop_eq_getElem_cons (by rw [← Lib.size_eq]; exact h)]
  rfl
theorem u8_beq {a : UInt8} (n : Nat) (hn : n < 256) (h : a ≠ UInt8.ofNat n) : ((a.toNat : Int) == n) = false := by
  rw [beq_eq_false_iff_ne]
  intro e
  refine h (UInt8.toNat_inj.1 ?_)
  rw [UInt8.toNat_ofNat']
  omega

set_option maxHeartbeats 4000000 in
theorem rgetText_any (s : ByteArray) (i : Int) (w : World) (hs : s.size ≤ 70368744177664) :
    Calls Try.prog 18 #[.string s, .int .i64 i] w fun e w' => (∃ q : ByteArray, e = .returned (.tuple #[.string q, .int .i64 (gtxt s.data.toList i).2.1, .int .i64 (gtxt s.data.toList i).2.2]) ∧ q.data.toList = (gtxt s.data.toList i).1) ∧ w = w' := by
  have hl : s.data.toList.length = s.size := (Lib.size_eq s).symm
  by_cases hneg : i < 0
  · rw [gtxt_out _ i (Or.inl hneg)]
    clear hl
    go_enter Try.func18, Try.ntmps18
    go_wp2
    go_ret3
    exact ⟨⟨_, rfl, rfl⟩, rfl⟩
  have t0 : decide (i < 0) = false := by simp; omega
  by_cases hbig : (s.size : Int) < i
  · rw [gtxt_out _ i (Or.inr (by rw [hl]; exact hbig))]
    clear hl
    go_enter Try.func18, Try.ntmps18
    go_wp2
    go_ret3
    exact ⟨⟨_, rfl, rfl⟩, rfl⟩
  obtain ⟨i, rfl⟩ : ∃ k : Nat, i = (k : Nat) := ⟨i.toNat, by omega⟩
  have t1 : decide ((s.size : Int) < i) = false := by simp; omega
  have hi : i ≤ s.size := by omega
  have hil : i ≤ s.data.toList.length := by omega
  have HL := Lib.hid hl
  clear hl
  go_enter Try.func18, Try.ntmps18
  go_wp2
  go_loop [7, 8] (fun t f => ∃ (k : Nat) (q : ByteArray), f = .int .i64 k ∧ i ≤ k ∧ k ≤ s.size ∧ t = .string q ∧ q.size ≤ k ∧ Come s.data.toList i k q.data.toList) (fun _ f => s.size - (intOf f).toNat)
  case atStart => exact ⟨i, ⟨#[]⟩, rfl, Nat.le_refl _, hi, rfl, Nat.zero_le _, Come.start _ _⟩
  case round =>
    obtain ⟨k, q, rfl, hik, hk, rfl, hqs, hcm⟩ := hrel
    by_cases hlt : k < s.size
    · have hdr := drop_at s k hlt
      by_cases h0 : s[k] = 0
      · have t2 : ((s[k].toNat : Int) == 0) = true := by rw [h0]; rfl
        have t2b : ((s[k].toNat : Int) != 0) = false := by rw [h0]; rfl
        by_cases hlast : k + 1 = s.size
        · have hg := gtxt_err s.data.toList i 8 hil (hcm.last (p := []) (fun c h => by cases h) (by rw [hdr, h0, List.drop_of_length_le (by have := HL.out; omega)]; rfl))
          have t3 : decide ((s.size : Int) ≤ (k : Int) + 1) = true := by simp; omega
          have hle : s.size ≤ k + 1 := by omega
          have HG := Lib.hid hg
          have HC := Lib.hid hcm
          have H0 := Lib.hid h0
          have HLA := Lib.hid hlast
          clear hg hcm h0 hdr hlast
          go_wp2
          go_ret3
          rw [HG.out]
          exact ⟨⟨_, rfl, rfl⟩, rfl⟩
        have hk1 : k + 1 < s.size := by omega
        have t3 : decide ((s.size : Int) ≤ (k : Int) + 1) = false := by simp; omega
        rw [drop_at s (k + 1) hk1, h0] at hdr
        by_cases h1 : s[k + 1] = 1
        · have hg := gtxt_ok s.data.toList i _ hil (hcm.end_ (p := []) (fun c h => by cases h) (by rw [hdr, h1]; rfl))
          have t4 : ((s[k + 1].toNat : Int) == 1) = true := by rw [h1]; rfl
          have HG := Lib.hid hg
          have HC := Lib.hid hcm
          have H0 := Lib.hid h0
          have H1 := Lib.hid h1
          clear hg hcm h0 hdr h1
          go_wp2
          go_ret3
          rw [HG.out]
          refine ⟨⟨q, ?_, by simp⟩, rfl⟩
          dsimp only
          rw [show ((i + (k - i + (([] : List UInt8).length + 2)) : Nat) : Int) = (k : Int) + 1 + 1 from by simp; omega]
          rfl
        have t4 : ((s[k + 1].toNat : Int) == 1) = false := u8_beq 1 (by omega) h1
        by_cases h2 : s[k + 1] = 255
        · have hon := hcm.on (p := []) hik (fun c h => by cases h) (by rw [hdr, h2]; rfl)
          have t5 : ((s[k + 1].toNat : Int) == 255) = true := by rw [h2]; rfl
          have t5b : ((s[k + 1].toNat : Int) != 255) = false := by rw [h2]; rfl
          obtain ⟨q2, hq2⟩ : ∃ x : ByteArray, q ++ ⟨#[0]⟩ = x := ⟨_, rfl⟩
          have hq2s : q2.size = q.size + 1 := by rw [← hq2, ByteArray.size_append]; rfl
          have hq2z : q2.size ≤ k + 2 := by omega
          have hadd2 : ∀ wx : World, (Op.stringOp .add q ⟨#[0]⟩).run Try.prog wx = .ok (.string q2) wx := by
            intro wx; rw [run_string_add_sum wx q ⟨#[0]⟩ (by rw [show (⟨#[0]⟩ : ByteArray).size = 1 from rfl]; omega), hq2]
          have hcm2 : Come s.data.toList i (k + 2) q2.data.toList := by
            rw [← hq2]
            simpa using hon
          have HC := Lib.hid hcm2
          have H0 := Lib.hid h0
          have H1 := Lib.hid h1
          have H2 := Lib.hid h2
          clear hcm h0 hdr h1 h2 hon hcm2 hq2 hq2s
          go_wp2
          go_round
          case rel => exact ⟨k + 2, q2, by go_num, by omega, by omega, rfl, hq2z, HC.out⟩
          case measure => simp [intOf]; omega
        · have hg := gtxt_err s.data.toList i 6 hil (hcm.bad (p := []) (fun c h => by cases h) hdr h1 h2)
          have t5 : ((s[k + 1].toNat : Int) == 255) = false := u8_beq 255 (by omega) h2
          have t5b : ((s[k + 1].toNat : Int) != 255) = true := by unfold bne; rw [t5]; rfl
          have HG := Lib.hid hg
          have HC := Lib.hid hcm
          have H0 := Lib.hid h0
          have H1 := Lib.hid h1
          have H2 := Lib.hid h2
          clear hg hcm h0 hdr h1 h2
          go_wp2
          go_ret3
          rw [HG.out]
          exact ⟨⟨_, rfl, rfl⟩, rfl⟩
      · have t2 : ((s[k].toNat : Int) == 0) = false := u8_beq 0 (by omega) h0
        have t2b : ((s[k].toNat : Int) != 0) = true := by unfold bne; rw [t2]; rfl
        have h1 := take_one s k hlt
        have hpz : (s.extract k (k + 1)).size = 1 := by rw [Lib.size_eq, h1]; rfl
        obtain ⟨p, hp⟩ : ∃ p, s.extract k (k + 1) = p := ⟨_, rfl⟩
        rw [hp] at h1 hpz
        have hsl : ∀ wx : World, (Instr.slice 9 (.string s) (some (.int .i64 (k : Int))) (some (.int .i64 ((k : Int) + 1))) none).run Try.prog wx = .ok (.string p) wx := by
          intro wx
          rw [run_slice_string (P := Try.prog) wx 9 s .i64 .i64 k ((k : Int) + 1) Try.underlying9 (by omega) (by omega) (by omega), ← hp]
          rfl
        obtain ⟨q1, hq1⟩ : ∃ x : ByteArray, q ++ p = x := ⟨_, rfl⟩
        have hq1s : q1.size = q.size + 1 := by rw [← hq1, ByteArray.size_append, hpz]
        have hq1z : q1.size ≤ k + 1 := by omega
        have hadd1 : ∀ wx : World, (Op.stringOp .add q p).run Try.prog wx = .ok (.string q1) wx := by
          intro wx; rw [run_string_add_sum wx q p (by omega), hq1]
        have hcm2 : Come s.data.toList i (k + 1) q1.data.toList := by
          have e : q1.data.toList = q.data.toList ++ [s[k]] := by rw [← hq1, ← h1]; simp
          rw [e]
          exact hcm.one hik h0 hdr
        have HC := Lib.hid hcm2
        have H0 := Lib.hid h0
        clear hcm h0 hdr hcm2 hq1 hq1s h1 hpz hp
        go_wp2
        go_round
        case rel => exact ⟨k + 1, q1, by go_num, by omega, by omega, rfl, hq1z, HC.out⟩
        case measure => simp [intOf]; omega
    · obtain rfl : k = s.size := by omega
      have hg := gtxt_err s.data.toList i 8 hil (hcm.none (by rw [List.drop_of_length_le (by have := HL.out; omega)]; intro c h; cases h))
      have HG := Lib.hid hg
      have HC := Lib.hid hcm
      clear hg hcm
      go_wp2
      go_ret3
      rw [HG.out]
      exact ⟨⟨_, rfl, rfl⟩, rfl⟩
end Go.Proofs.Ytkahcblonfbdaaa
