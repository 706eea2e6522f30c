/-
  Contracts of package runes that make texts: Quote, Unquote.
-/
import Derived.Test.YtdjncindngifhaaRn2
import Derived.Test.YtdjncindngifhaaBld
set_option linter.unusedVariables false
namespace Go.Proofs.Ytdjncindngifhaa
open Go Go.RowKit

def dbl (l : List UInt8) : List UInt8 := l.flatMap fun c => if c = 39 then [39, 39] else [c]
def quoteL (l : List UInt8) : List UInt8 := 39 :: (dbl l ++ [39])

/-- A code point below 128 is one byte; else no byte of it is that number. -/
theorem low_width (s : ByteArray) (p a : Nat) (ha : a < 128) : ((Utf8.decode s p).1 = a → (Utf8.decode s p).2 = 1 ∧ bt s p = a) ∧
    ((Utf8.decode s p).1 ≠ a → ∀ j, j < (Utf8.decode s p).2 → bt s (p + j) ≠ a) := by
  have hc := decode_cases s p
  unfold goesOn at hc
  rcases hc with ⟨h0, e⟩ | ⟨h0, h1, h2, e⟩ | ⟨h0, h1, h2, h3, c, hc, h4, h5, e⟩ | ⟨h0, h1, h2, h3, h4, c, hc, h5, h6, e⟩ | ⟨h0, e, h1, h2, h3⟩
  all_goals rw [e]; dsimp only
  all_goals refine ⟨fun hx => ⟨by omega, by omega⟩, fun hx j hj => ?_⟩
  all_goals
    have hj : j = 0 ∨ j = 1 ∨ j = 2 ∨ j = 3 := by omega
    rcases hj with rfl | rfl | rfl | rfl
    all_goals first | omega | (rw [Nat.add_zero]; omega)

theorem dbl_append (a b : List UInt8) : dbl (a ++ b) = dbl a ++ dbl b := by simp [dbl]
theorem dbl_plain (l : List UInt8) (h : ∀ c ∈ l, c ≠ 39) : dbl l = l := by
  induction l with
  | nil => rfl
  | cons a l ih =>
    have h1 := h a (by simp)
    have h2 := ih (fun c hc => h c (by simp [hc]))
    unfold dbl at h2 ⊢
    rw [List.flatMap_cons, h2, if_neg h1]
    rfl
theorem dbl_length (l : List UInt8) : (dbl l).length ≤ 2 * l.length := by
  induction l with
  | nil => simp [dbl]
  | cons a l ih =>
    unfold dbl at ih ⊢
    rw [List.flatMap_cons, List.length_append, List.length_cons]
    split
    · rw [List.length_cons, List.length_cons, List.length_nil]; omega
    · rw [List.length_cons, List.length_nil]; omega

/-- The bytes of the code point at p. -/
def piece (s : ByteArray) (p : Nat) : List UInt8 := (s.data.toList.drop p).take (Utf8.decode s p).2
theorem take_piece (s : ByteArray) (p : Nat) : s.data.toList.take (p + (Utf8.decode s p).2) = s.data.toList.take p ++ piece s p := by
  unfold piece
  rw [List.take_add]
theorem piece_mem (s : ByteArray) (p : Nat) (hp : p < s.size) (c : UInt8) (hc : c ∈ piece s p) : ∃ j, j < (Utf8.decode s p).2 ∧ bt s (p + j) = c.toNat := by
  unfold piece at hc
  obtain ⟨j, hj, e⟩ := List.mem_iff_getElem.1 hc
  simp only [List.length_take, List.length_drop] at hj
  have hl : s.data.toList.length = s.size := by rw [Lib.size_eq]
  refine ⟨j, by omega, ?_⟩
  rw [bt_at s (p + j) (by omega), ← e]
  simp
theorem piece_low (s : ByteArray) (p a : Nat) (hp : p < s.size) (ha : a < 128) (hr : (Utf8.decode s p).1 = a) : piece s p = [UInt8.ofNat a] := by
  have hw := (low_width s p a ha).1 hr
  have hl : s.data.toList.length = s.size := by rw [Lib.size_eq]
  have hb := bt_at s p hp
  unfold piece
  rw [hw.1, List.drop_eq_getElem_cons (by omega)]
  simp only [List.take_succ_cons, List.take_zero, List.cons.injEq, and_true]
  apply UInt8.toNat_inj.1
  rw [← hb, hw.2]
  simp
  omega
theorem piece_other (s : ByteArray) (p a : Nat) (hp : p < s.size) (ha : a < 128) (hr : (Utf8.decode s p).1 ≠ a) : ∀ c ∈ piece s p, c ≠ UInt8.ofNat a := by
  intro c hc e
  obtain ⟨j, hj, hb⟩ := piece_mem s p hp c hc
  refine (low_width s p a ha).2 hr j hj ?_
  rw [hb, e]
  simp
  omega

theorem dbl_step_quote (s : ByteArray) (p : Nat) (hp : p < s.size) (hr : (Utf8.decode s p).1 = 39) : dbl (s.data.toList.take (p + 1)) = dbl (s.data.toList.take p) ++ [39, 39] := by
  have hw := (low_width s p 39 (by omega)).1 hr
  have := take_piece s p
  rw [hw.1, piece_low s p 39 hp (by omega) hr] at this
  rw [this, dbl_append]
  rfl
theorem dbl_step_other (s : ByteArray) (p : Nat) (hp : p < s.size) (hr : (Utf8.decode s p).1 ≠ 39) : dbl (s.data.toList.take (p + (Utf8.decode s p).2)) = dbl (s.data.toList.take p) ++ piece s p := by
  rw [take_piece s p, dbl_append, dbl_plain (piece s p) (piece_other s p 39 hp (by omega) hr)]

theorem ret_str {a b : List UInt8} (h : a = b) : Ending.returned (.string ⟨a.toArray⟩) = .returned (.string ⟨b.toArray⟩) := by rw [h]

set_option maxHeartbeats 1600000 in
set_option maxRecDepth 100000 in
theorem quote_any (s : ByteArray) (w : World) (hs : s.size ≤ 1099511627776) :
    Calls Try.prog 20 #[.string s] w fun e w' => e = .returned (.string ⟨(quoteL s.data.toList).toArray⟩) ∧ Below w.heap.size w w' := by
  have hl : s.data.toList.length = s.size := by rw [Lib.size_eq]
  have HL := Lib.hid hl
  clear hl
  go_enter Try.func20, Try.ntmps20
  go_wp2_with fail
  refine (writeByte_bld w.heap.size w.heap.size [] 39 _ (Bld.fresh w) (by simp) (by simp)).mono ?_
  rintro e w1 ⟨rfl, h1, hb1, hk1⟩
  have hsz1 : w.heap.size < w1.heap.size := by have := hb1.size; simp at this; omega
  have hb1 : Below w.heap.size w w1 := ((Below.refl _ _).alloc (Nat.le_refl _) _).trans hb1
  go_wp2
  go_loopw [4] (fun d wr => ∃ (pos dn : Nat) (acc : List UInt8), d = .int .i64 dn ∧ dn ≤ pos ∧ pos ≤ s.size ∧ Bld w.heap.size w.heap.size acc wr ∧ wr.heap[w1.heap.size]? = some (.stringIter s pos) ∧ Below w.heap.size w wr ∧ acc ++ (s.data.toList.drop dn).take (pos - dn) = 39 :: dbl (s.data.toList.take pos)) (fun _ wr => s.size - wr.iterPos w1.heap.size)
  case atStart =>
    exact ⟨0, 0, [39], rfl, Nat.le_refl _, Nat.zero_le _, h1.alloc _, World.iter_heap w1 s 0, hb1.alloc (by omega) _, by simp [dbl]⟩
  case round =>
    obtain ⟨pos, dn, acc, rfl, hd, hps, hI, hit, hbw, hacc⟩ := hrel
    have hsz : w1.heap.size < wr.heap.size := (Array.getElem?_eq_some_iff.1 hit).1
    have haccl : acc.length ≤ 2 * s.size + 1 := by
      have := congrArg List.length hacc
      rw [List.length_append, List.length_cons] at this
      have h2 := dbl_length (s.data.toList.take pos)
      rw [List.length_take] at h2
      have := HL.out
      omega
    have HA := Lib.hid hacc
    have HI := Lib.hid hit
    clear hacc
    by_cases hp : pos < s.size
    · have hnx : ∀ ty, (Instr.next (.pointer (some ⟨w1.heap.size, 0, none⟩)) true ty).run Try.prog wr = _ := fun ty => Lib.run_next_any_at wr w1.heap.size s pos ty hit hp
      have hwd := width_pos s pos hp
      have hin := decode_in s pos hp
      have hI2 := hI.iterAt hit (pos + (Utf8.decode s pos).2)
      have hit2 := Lib.iterAt_heap wr w1.heap.size s pos (pos + (Utf8.decode s pos).2) hit
      have hbw2 := Lib.below_iterAt hbw (k := w1.heap.size) (by omega) s (pos + (Utf8.decode s pos).2)
      have hsz2 : w.heap.size ≤ (wr.iterAt w1.heap.size s (pos + (Utf8.decode s pos).2)).heap.size := by rw [Lib.iterAt_size]; omega
      have HI2 := Lib.hid hit2
      clear hit hit2
      by_cases hr : (Utf8.decode s pos).1 = 39
      · have hst := dbl_step_quote s pos hp hr
        have hpc := piece_low s pos 39 hp (by omega) hr
        have hw := ((low_width s pos 39 (by omega)).1 hr).1
        have hb : (((Utf8.decode s pos).1 : Int) == 39) = true := by rw [hr]; rfl
        have HS := Lib.hid hst
        have HP := Lib.hid hpc
        have HW := Lib.hid hw
        have HR := Lib.hid hr
        clear hst hpc hw hr
        have hd1 : dn ≤ pos + 1 := by omega
        have hp1 : pos + 1 ≤ s.size := by omega
        have hex : (s.extract dn (pos + 1)).data.toList = (s.data.toList.drop dn).take (pos + 1 - dn) := Lib.extract_data s dn (pos + 1)
        have hexs : (s.extract dn (pos + 1)).size ≤ s.size := by rw [ByteArray.size_extract]; omega
        have HE := Lib.hid hex
        clear hex
        have hsl : ∀ wx : World, (Instr.slice 9 (.string s) (some (.int .i64 (dn : Int))) (some (.int .i64 ((pos : Int) + 1))) none).run Try.prog wx = .ok (.string (s.extract dn (pos + 1))) wx := by
          intro wx
          rw [run_slice_string (P := Try.prog) wx 9 s .i64 .i64 dn ((pos : Int) + 1) Try.underlying9 (by omega) (by omega) (by omega)]
          rfl
        go_wp2_with fail
        refine (writeString_bld w.heap.size w.heap.size acc (s.extract dn (pos + 1)) _ hI2 (by omega) hsz2).mono ?_
        rintro e w2 ⟨rfl, h2, b2, k2⟩
        have hit3 := k2.iter HI2.out (by omega)
        go_wp2
        go_roundw
        case rel =>
          refine ⟨pos + 1, pos, _, rfl, by omega, by omega, h2, by rw [HW.out] at hit3; exact hit3, hbw2.trans b2, ?_⟩
          try rw [HE.out]
          rw [HS.out, show pos + 1 - pos = 1 from by omega, show pos + 1 - dn = (pos - dn) + 1 from by omega, List.take_add]
          have h1 := HP.out
          unfold piece at h1
          rw [HW.out] at h1
          rw [List.drop_drop, show dn + (pos - dn) = pos from by omega, h1, ← List.append_assoc, HA.out]
          simp
        case measure =>
          simp only [World.iterPos, hit3, HI.out]
          omega
      · have hst := dbl_step_other s pos hp hr
        have hb : (((Utf8.decode s pos).1 : Int) == 39) = false := by simp; omega
        have HS := Lib.hid hst
        clear hst
        go_wp2
        go_roundw
        case rel =>
          refine ⟨pos + (Utf8.decode s pos).2, dn, acc, rfl, by omega, by omega, hI2, HI2.out, hbw2, ?_⟩
          rw [HS.out, show pos + (Utf8.decode s pos).2 - dn = (pos - dn) + (Utf8.decode s pos).2 from by omega, List.take_add, ← List.append_assoc, HA.out]
          rw [List.drop_drop, show dn + (pos - dn) = pos from by omega]
          rfl
        case measure =>
          simp only [World.iterPos, HI2.out, HI.out]
          omega
    · have hnx : ∀ ty, (Instr.next (.pointer (some ⟨w1.heap.size, 0, none⟩)) true ty).run Try.prog wr = _ := fun ty => Lib.run_next_end_at wr w1.heap.size s pos ty hit hp
      have hpe : s.size = pos := by omega
      have HPE := Lib.hid hpe
      have hds : dn ≤ s.size := by omega
      clear hpe hit
      have hex : (s.extract dn s.size).data.toList = s.data.toList.drop dn := by rw [Lib.extract_data, take_drop_all]
      have hexs : (s.extract dn s.size).size ≤ s.size := by rw [ByteArray.size_extract]; omega
      have HE := Lib.hid hex
      clear hex
      go_wp2_with fail
      refine (writeString_bld w.heap.size w.heap.size acc (s.extract dn s.size) _ hI (by omega) (by omega)).mono ?_
      rintro e w2 ⟨rfl, h2, b2, k2⟩
      have hz2 := b2.size
      go_wp2_with fail
      refine (writeByte_bld w.heap.size w.heap.size _ 39 _ h2 (by rw [List.length_append, HE.out, List.length_drop]; have := HL.out; omega) (by omega)).mono ?_
      rintro e w3 ⟨rfl, h3, b3, k3⟩
      have hz3 := b3.size
      go_wp2_with fail
      refine (string_bld w.heap.size w.heap.size _ _ h3 (by omega)).mono ?_
      rintro e w4 ⟨rfl, h4, b4, k4⟩
      go_wp2
      go_ret
      refine ⟨ret_str ?_, ((hbw.trans b2).trans b3).trans b4⟩
      have h1 := HA.out
      rw [List.take_of_length_le (l := s.data.toList.drop dn) (by rw [List.length_drop]; have := HL.out; have := HPE.out; omega), List.take_of_length_le (l := s.data.toList) (by have := HL.out; have := HPE.out; omega)] at h1
      rw [take_drop_all, ← List.append_assoc, h1]
      rfl
end Go.Proofs.Ytdjncindngifhaa
