/-
  As many notes as may be (plain, for NoteRooms).
-/
import Derived.Test.YtfldlkdnjkaidaaNc
set_option linter.unusedVariables false
set_option linter.unusedSimpArgs false
namespace Go.Proofs.Ytfldlkdnjkaidaa
open Go

/-- The first k notes, each with the body b. -/
def roomS (b : ByteArray) (k : Nat) : Fl := (List.range k).map fun j => (((j + 1 : Nat) : Int), b)
theorem roomS_length (b : ByteArray) (k : Nat) : (roomS b k).length = k := by unfold roomS; rw [List.length_map, List.length_range]
theorem roomS_succ (b : ByteArray) (k : Nat) : roomS b (k + 1) = roomS b k ++ [(((k + 1 : Nat) : Int), b)] := by
  unfold roomS
  rw [List.range_succ, List.map_append]
  rfl
theorem roomS_mem {b : ByteArray} {k : Nat} {x : Int × ByteArray} (h : x ∈ roomS b k) : 1 ≤ x.1 ∧ x.1 ≤ (k : Int) := by
  unfold roomS at h
  obtain ⟨j, hj, rfl⟩ := List.mem_map.1 h
  have := List.mem_range.1 hj
  dsimp only
  omega
theorem roomS_has {b : ByteArray} {k : Nat} {m : Int} (h : (k : Int) < m) : hasF (roomS b k) m = false := by
  unfold hasF
  rw [List.any_eq_false]
  intro x hx
  have := roomS_mem hx
  simp
  omega
theorem roomS_idx (b : ByteArray) (k : Nat) : idxF (roomS b k) ((k + 1 : Nat) : Int) = k := by
  refine idxF_eq (by rw [roomS_length]; exact Nat.le_refl _) (fun j hj => ?_) (fun h => absurd h (by rw [roomS_length]; omega))
  have := roomS_mem (List.getElem_mem (by rw [roomS_length]; exact hj) : (roomS b k)[j]'(by rw [roomS_length]; exact hj) ∈ roomS b k)
  omega
theorem room_put (b : ByteArray) (k : Nat) : putN (roomS b k) ((k + 1 : Nat) : Int) b = roomS b (k + 1) := by
  unfold putN
  rw [if_neg (by rw [roomS_has (by omega)]; simp)]
  unfold insF
  rw [roomS_idx, List.take_of_length_le (by rw [roomS_length]; exact Nat.le_refl _), List.drop_of_length_le (by rw [roomS_length]; exact Nat.le_refl _), roomS_succ]
/-- One more, as long as there is room. -/
theorem room_add {b : ByteArray} (hb : b.size ≤ 4096) (k : Nat) (hk : k ≤ 1000) : addN (roomS b (min k 300)) ((k + 1 : Nat) : Int) b = (roomS b (min (k + 1) 300), decide (k + 1 ≤ 300)) := by
  unfold addN
  by_cases h : k < 300
  · have e1 : min k 300 = k := Nat.min_eq_left (by omega)
    have e2 : min (k + 1) 300 = k + 1 := Nat.min_eq_left (by omega)
    rw [e1, e2, if_neg (by
      unfold BadN
      rintro (h1 | h1 | h1 | h1)
      · omega
      · omega
      · omega
      · rw [roomS_length] at h1; omega), room_put, decide_eq_true (by omega)]
  · have e1 : min k 300 = 300 := Nat.min_eq_right (by omega)
    have e2 : min (k + 1) 300 = 300 := Nat.min_eq_right (by omega)
    rw [e1, e2, if_pos (by
      unfold BadN
      exact Or.inr (Or.inr (Or.inr ⟨roomS_has (by omega), by rw [roomS_length]; exact Nat.le_refl _⟩))), decide_eq_false (by omega)]
theorem room_fits {b : ByteArray} (hb : b.size ≤ 4096) (k : Nat) (hk : k ≤ 1000) : fitN (dropsN (roomS b (min k 300)) []) [(((k + 1 : Nat) : Int), b)] = decide (k + 1 ≤ 300) := by
  unfold dropsN fitN
  simp only [List.foldl_nil]
  rw [room_add hb k hk]
  unfold fitN
  rw [Bool.and_true]
/-- All numbers from 1 to 300. -/
def Low (S : Fl) : Prop := ∀ x ∈ S, x.1 ≤ 300
theorem Low.room (b : ByteArray) {k : Nat} (h : k ≤ 300) : Low (roomS b k) := fun x hx => by have := (roomS_mem hx).2; omega
theorem Low.del {S : Fl} (h : Low S) (n : Int) : Low (delF S n) := fun x hx => h x (mem_delF hx)
theorem Low.fits {S : Fl} (h : Low S) {b : ByteArray} (hb : b.size ≤ 4096) : fitN (dropsN S []) [(1000, b)] = decide (S.length < 300) := by
  have hh : hasF S 1000 = false := by
    unfold hasF
    rw [List.any_eq_false]
    intro x hx
    have := h x hx
    simp
    omega
  unfold dropsN fitN
  simp only [List.foldl_nil]
  unfold addN
  by_cases hl : S.length < 300
  · rw [if_neg (by
      unfold BadN
      rintro (h1 | h1 | h1 | h1)
      · omega
      · omega
      · omega
      · omega), decide_eq_true hl]
    unfold fitN
    rfl
  · rw [if_pos (by unfold BadN; exact Or.inr (Or.inr (Or.inr ⟨hh, by omega⟩))), decide_eq_false hl]
    unfold fitN
    rfl
end Go.Proofs.Ytfldlkdnjkaidaa
