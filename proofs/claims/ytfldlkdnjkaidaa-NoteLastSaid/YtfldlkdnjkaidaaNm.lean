/-
  Notes by numbers: a map of texts that reads as them (plain).
-/
import Derived.Test.YtfldlkdnjkaidaaNa
set_option linter.unusedVariables false
set_option linter.unusedSimpArgs false
namespace Go.Proofs.Ytfldlkdnjkaidaa
open Go Go.RowKit Go.Maps

theorem hasF_del (fs : Fl) (n : Int) : hasF (delF fs n) n = false := by
  unfold hasF delF
  rw [List.any_eq_false]
  intro x hx
  have := (List.mem_filter.1 hx).2
  simpa using this
theorem insF_del {fs : Fl} (hu : Up fs) {n : Int} (h : hasF fs n = true) (b : ByteArray) : insF (delF fs n) n b = setF fs n b := by
  obtain ⟨hi, he⟩ := (hasF_iff hu n).1 h
  have hd := delF_at hu hi he
  have hle := idxF_le fs n
  have hix : idxF (delF fs n) n = idxF fs n := by
    refine idxF_eq (by rw [hd, List.length_append, List.length_take, List.length_drop]; omega) (fun j hj => ?_) (fun hl => ?_)
    · have hb := idxF_lt (fs := fs) (n := n) hj
      have e : (delF fs n)[j]'(by rw [hd, List.length_append, List.length_take]; omega) = fs[j]'(by omega) := by
        have h1 : (delF fs n)[j]? = fs[j]? := by rw [hd, List.getElem?_append_left (by rw [List.length_take]; omega), List.getElem?_take_of_lt hj]
        rw [List.getElem?_eq_getElem (by rw [hd, List.length_append, List.length_take]; omega), List.getElem?_eq_getElem (by omega)] at h1
        injection h1
      rw [e]
      exact hb
    · have hl2 : idxF fs n + 1 < fs.length := by rw [hd, List.length_append, List.length_take, List.length_drop] at hl; omega
      have e : (delF fs n)[idxF fs n]'hl = fs[idxF fs n + 1]'hl2 := by
        have h1 : (delF fs n)[idxF fs n]? = fs[idxF fs n + 1]? := by
          rw [hd, List.getElem?_append_right (by rw [List.length_take]; omega), List.length_take, List.getElem?_drop]
          congr 1
          omega
        rw [List.getElem?_eq_getElem hl, List.getElem?_eq_getElem hl2] at h1
        injection h1
      rw [e]
      unfold Up at hu
      have h3 := (List.pairwise_iff_getElem.1 hu) (idxF fs n) (idxF fs n + 1) hi hl2 (by omega)
      omega
  unfold insF setF
  rw [hix, hd, List.take_append_of_le_length (by rw [List.length_take]; omega), List.take_take, Nat.min_self, List.drop_append, List.drop_of_length_le (by rw [List.length_take]; omega), List.length_take, Nat.min_eq_left (by omega), Nat.sub_self, List.drop_zero, List.nil_append, List.set_eq_take_append_cons_drop, if_pos hi]
end Go.Proofs.Ytfldlkdnjkaidaa
