/-
  Contracts of the document's own answers, chapter 4, first part: left, gap, zeros, kind, piece.
-/
import Derived.Test.YtcihgnkmikhboaaLwSgSizes
import Derived.Test.YtcihgnkmikhboaaTrB
import Derived.Deep.RegionHeld3
import Derived.Deep.DrawnRows
set_option linter.unusedVariables false
set_option linter.unusedSimpArgs false
namespace Go.Proofs.Ytcihgnkmikhboaa
open Go Go.RowKit

theorem rleft_any (n : Nat) (w : World) (hn : n ≤ 4611686018427387904) :
    Calls Try.prog 21 #[.int .i64 (n : Nat)] w fun e w' => e = .returned (.int .i64 (left n : Nat)) ∧ w = w' := by
  have e : (128 : Int) - (n : Int) % 128 = (left n : Nat) := by unfold left; omega
  have hm : 0 ≤ (n : Int) % 128 ∧ (n : Int) % 128 ≤ 127 := by omega
  have E := Lib.hid e
  clear e
  go_enter Try.func21, Try.ntmps21
  go_wp2
  go_ret
  refine ⟨?_, rfl⟩
  show Ending.returned (Value.int .i64 ((128 : Int) - (n : Int) % 128)) = _
  rw [E.out]
theorem rleft_int (x : Int) (n : Nat) (v : Nat) (w : World) (hn : n ≤ 4611686018427387904) (hx : x = (n : Nat)) (hv : left n = v) :
    Calls Try.prog 21 #[.int .i64 x] w fun e w' => e = .returned (.int .i64 (v : Nat)) ∧ w = w' := by
  rw [hx, ← hv]
  exact rleft_any n w hn

theorem rgap_int (x : Int) (n : Nat) (v : Nat) (w : World) (hn : n ≤ 4611686018427387904) (hx : x = (n : Nat)) (hv : gap n = v) :
    Calls Try.prog 20 #[.int .i64 x] w fun e w' => e = .returned (.int .i64 (v : Nat)) ∧ w = w' := by
  obtain ⟨l, hl⟩ : ∃ l, left n = l := ⟨_, rfl⟩
  have HX := Lib.hid hx
  have HL := Lib.hid hl
  unfold gap at hv
  rw [hl] at hv
  clear hx hl
  by_cases h : l < 7
  · rw [if_pos h] at hv
    subst hv
    go_enter Try.func20, Try.ntmps20
    go_wp2_with (go_at_call 21; refine (rleft_int x n l _ hn HX.out HL.out).mono ?_; rintro e w' ⟨rfl, rfl⟩)
    go_ret
    exact ⟨rfl, rfl⟩
  · rw [if_neg h] at hv
    subst hv
    go_enter Try.func20, Try.ntmps20
    go_wp2_with (go_at_call 21; refine (rleft_int x n l _ hn HX.out HL.out).mono ?_; rintro e w' ⟨rfl, rfl⟩)
    go_ret
    exact ⟨rfl, rfl⟩

theorem rzeros_as (n : Nat) (z : ByteArray) (w : World) (hn : n ≤ 70368744177664) (hz : z.data.toList = List.replicate n 0) :
    Calls Try.prog 19 #[.int .i64 (n : Nat)] w fun e w' => e = .returned (.string z) ∧ Below w.heap.size w w' := by
  obtain ⟨cs, hmk, hrk, hcv, hcv2⟩ := zeros_text w n z hz hn
  have HRK := Lib.hid hrk
  clear hrk
  go_enter Try.func19, Try.ntmps19
  go_wp2
  go_ret
  exact ⟨rfl, (Below.refl _ _).alloc (Nat.le_refl _) _⟩

theorem rkind_as (o e : Bool) (K : Int) (w : World) (hK : K = ((pk o e).toNat : Nat)) :
    Calls Try.prog 23 #[.bool o, .bool e] w fun x w' => x = .returned (.int .i64 K) ∧ w = w' := by
  subst hK
  cases o <;> cases e
  all_goals
    go_enter Try.func23, Try.ntmps23
    go_wp2
    go_ret
    exact ⟨rfl, rfl⟩

theorem rof_int (s : ByteArray) (v : Int) (w : World) (hs : s.size ≤ maxLen) (h : v = (tgo 1 s.data.toList : Nat)) :
    Calls Try.prog 28 #[.string s] w fun e w' => e = .returned (.int .i64 v) ∧ w = w' := by
  rw [h]
  exact rof_any s w hs
theorem rbytes_as (t : Int) (q : ByteArray) (w : World) (h : q.data.toList = be (tcut t) 4) :
    Calls Try.prog 27 #[.int .i64 t] w fun e w' => e = .returned (.string q) ∧ Below w.heap.size w w' := by
  refine (rbytes_any t w).mono ?_
  rintro e w' ⟨s, he, hs, hb⟩
  exact ⟨by rw [he, ba_ext (hs.trans h.symm)], hb⟩

set_option maxHeartbeats 1000000 in
theorem rpiece_as (k : UInt8) (K : Int) (s q : ByteArray) (w : World) (hK : K = (k.toNat : Nat)) (hs : s.size ≤ 255) (hq : q.data.toList = pc k s.data.toList) :
    Calls Try.prog 22 #[.int .i64 K, .string s] w fun e w' => e = .returned (.string q) ∧ Below w.heap.size w w' := by
  have hk := k.toNat_lt
  obtain ⟨two, htwo⟩ : ∃ x : ByteArray, x.data.toList = hdr k s.data.toList := ⟨⟨(hdr k s.data.toList).toArray⟩, rfl⟩
  have hz2 : two.size = 2 := by rw [Lib.size_eq, htwo]; rfl
  have hKr : 0 ≤ K ∧ K ≤ 255 := by omega
  have hcv := cv_as (Rd.two w K (s.size : Nat) k (UInt8.ofNat s.size) hK (by rw [UInt8.toNat_ofNat']; omega)) 2 two (by rw [htwo, hdr, Lib.size_eq])
  obtain ⟨al, hal⟩ : ∃ x : ByteArray, two ++ s = x := ⟨_, rfl⟩
  have hadd : ∀ wx : World, (Op.stringOp .add two s).run Try.prog wx = .ok (.string al) wx := by
    intro wx; rw [run_string_add_sum wx two s (by omega), hal]
  have hall : al.data.toList = hdr k s.data.toList ++ s.data.toList := by rw [← hal, ← htwo]; simp
  have halz : al.size ≤ maxLen := by rw [← hal, ByteArray.size_append]; unfold maxLen; omega
  obtain ⟨b, hb⟩ : ∃ x : ByteArray, x.data.toList = be (tgo 1 al.data.toList) 4 := ⟨⟨(be (tgo 1 al.data.toList) 4).toArray⟩, rfl⟩
  have hb4 : b.size = 4 := by rw [Lib.size_eq, hb, be_length]
  obtain ⟨r, hr⟩ : ∃ x : ByteArray, two ++ b = x := ⟨_, rfl⟩
  have hadd2 : ∀ wx : World, (Op.stringOp .add two b).run Try.prog wx = .ok (.string r) wx := by
    intro wx; rw [run_string_add_sum wx two b (by omega), hr]
  have hrr : r.data.toList = mrk k s.data.toList := by rw [← hr, mrk, ← hall, ← hb, ← htwo]; simp
  have hr6 : r.size = 6 := by rw [Lib.size_eq, hrr, mrk_length]
  have hadd3 : ∀ wx : World, (Op.stringOp .add r s).run Try.prog wx = .ok (.string q) wx := by
    intro wx
    rw [run_string_add_sum wx r s (by omega)]
    have : r ++ s = q := by apply ba_ext; rw [hq, pc, ← hrr]; simp
    rw [this]
  obtain ⟨T, hT⟩ : ∃ T : Int, T = (tgo 1 al.data.toList : Nat) := ⟨_, rfl⟩
  have hTc : b.data.toList = be (tcut T) 4 := by rw [hT, tcut_of _ (tgo_lt _ _ (by omega)), hb]
  have hsz : 0 ≤ (s.size : Int) ∧ (s.size : Int) ≤ 255 := by omega
  have H2 := Lib.hid hall
  have H3 := Lib.hid halz
  have H4 := Lib.hid hT
  have H5 := Lib.hid hTc
  clear htwo hz2 hal hall halz hb hb4 hr hrr hr6 hT hTc hK hq
  go_enter Try.func22, Try.ntmps22
  go_wp2_with fail
  refine (rof_int al T _ H3.out H4.out).mono ?_
  rintro e w1 ⟨rfl, rfl⟩
  go_wp2_with fail
  refine (rbytes_as T b _ H5.out).mono ?_
  rintro e w2 ⟨rfl, b2⟩
  go_wp2
  go_ret
  exact ⟨rfl, ((Below.refl _ _).alloc (Nat.le_refl _) _).trans (b2.mono (by simp))⟩
end Go.Proofs.Ytcihgnkmikhboaa
