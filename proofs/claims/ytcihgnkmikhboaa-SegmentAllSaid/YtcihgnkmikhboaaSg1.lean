/-
  Contracts of package segment, first part: kind, mark.
-/
import Derived.Test.YtcihgnkmikhboaaSg
import Derived.Test.YtcihgnkmikhboaaSap
import Derived.Test.YtcihgnkmikhboaaTas
set_option linter.unusedVariables false
set_option linter.unusedSimpArgs false
namespace Go.Proofs.Ytcihgnkmikhboaa
open Go Go.RowKit

theorem kind_any (o e : Bool) (w : World) :
    Calls Try.prog 24 #[.bool o, .bool e] w fun x w' => x = .returned (.int .u8 ((pk o e).toNat : Nat)) ∧ w = w' := by
  cases o <;> cases e
  all_goals
    go_enter Try.func24, Try.ntmps24
    go_wp2
    go_ret
    exact ⟨rfl, rfl⟩

set_option maxHeartbeats 1000000 in
theorem mark_any (k : UInt8) (s : ByteArray) (w : World) (hs : s.size ≤ 1048576) :
    Calls Try.prog 26 #[.int .u8 (k.toNat : Nat), .string s] w (GivesS w (mrk k s.data.toList)) := by
  have hk := k.toNat_lt
  obtain ⟨two, htwo⟩ : ∃ x : ByteArray, x.data.toList = hdr k s.data.toList := ⟨⟨(hdr k s.data.toList).toArray⟩, rfl⟩
  have hz2 : two.size = 2 := by rw [Lib.size_eq, htwo]; rfl
  have hcv := cv_as (Rd.two w (k.toNat : Nat) ((s.size : Int) % 256) k (UInt8.ofNat s.size) rfl (by rw [UInt8.toNat_ofNat']; omega)) 2 two (by rw [htwo, hdr, Lib.size_eq])
  obtain ⟨al, hal⟩ : ∃ x : ByteArray, two ++ s = x := ⟨_, rfl⟩
  have hadd : ∀ wx : World, (Op.stringOp .add two s).run Try.prog wx = .ok (.string al) wx := by
    intro wx; rw [run_string_add_sum wx two s (by omega), hal]
  have hall : al.data.toList = hdr k s.data.toList ++ s.data.toList := by rw [← hal, ← htwo]; simp
  have halz : al.size ≤ maxLen := by rw [← hal, ByteArray.size_append]; unfold maxLen; omega
  obtain ⟨q, hq⟩ : ∃ x : ByteArray, x.data.toList = be (tgo 1 al.data.toList) 4 := ⟨⟨(be (tgo 1 al.data.toList) 4).toArray⟩, rfl⟩
  have hq4 : q.size = 4 := by rw [Lib.size_eq, hq, be_length]
  obtain ⟨r, hr⟩ : ∃ x : ByteArray, two ++ q = x := ⟨_, rfl⟩
  have hadd2 : ∀ wx : World, (Op.stringOp .add two q).run Try.prog wx = .ok (.string r) wx := by
    intro wx; rw [run_string_add_sum wx two q (by omega), hr]
  have hrr : r.data.toList = mrk k s.data.toList := by rw [← hr, mrk, ← hall, ← hq, ← htwo]; simp
  obtain ⟨T, hT⟩ : ∃ T : Int, T = (tgo 1 al.data.toList : Nat) := ⟨_, rfl⟩
  have hTc : q.data.toList = be (tcut T) 4 := by rw [hT, tcut_of _ (tgo_lt _ _ (by omega)), hq]
  have H1 := Lib.hid htwo
  have H2 := Lib.hid hall
  have H3 := Lib.hid halz
  have H4 := Lib.hid hT
  have H5 := Lib.hid hTc
  have H6 := Lib.hid hrr
  clear htwo hz2 hal hall halz hq hq4 hr hT hTc hrr
  go_enter Try.func26, Try.ntmps26
  go_wp2_with fail
  refine (of_int al T _ H3.out H4.out).mono ?_
  rintro e w1 ⟨rfl, b1⟩
  go_wp2_with fail
  refine (bytes_as T q _ H5.out).mono ?_
  rintro e w2 ⟨rfl, b2⟩
  go_wp2
  go_ret
  exact ⟨r, rfl, H6.out, (((Below.refl _ _).alloc (Nat.le_refl _) _).trans (b1.mono (by simp))).trans (b2.mono (by have := b1.size; simp at this; omega))⟩
end Go.Proofs.Ytcihgnkmikhboaa
