/-
  Contracts of package runes that only read: right, letter, Name.
-/
import Derived.Test.YtdbdlgmejddbhaaDoorPl
import Derived.Test.YtdbdlgmejddbhaaDoorProg
import Derived.WalkKit
import Derived.BigCall
import Derived.Lib.Hide
set_option linter.unusedVariables false
namespace Go.Proofs.YtdbdlgmejddbhaaDoor
open Go Go.RowKit

theorem ret_bool {a b : Bool} (h : a = b) : Ending.returned (.bool a) = .returned (.bool b) := by rw [h]
theorem ret_int {k : IntKind} {a b : Int} (h : a = b) : Ending.returned (.int k a) = .returned (.int k b) := by rw [h]

set_option maxHeartbeats 400000 in
theorem slPrefix_any (s p : ByteArray) (w : World) :
    Calls Tryd.prog 21 #[.string s, .string p] w fun e w' => e = .returned (.bool (Lib.hasPrefix s.data.toList p.data.toList)) ∧ w = w' := by
  rw [← Lib.hasPrefix_of_take, ← Lib.size_eq, ← Lib.size_eq]
  go_enter Tryd.func21, Tryd.ntmps21
  go_wp2
  · rename_i h
    go_ret
    refine ⟨?_, rfl⟩
    show Ending.returned (Value.bool ((s.extract 0 p.size).toList == p.toList)) = _
    rw [Lib.extract_toList, Lib.toList_data]
    simp [h]
  · rename_i h
    go_ret
    refine ⟨?_, rfl⟩
    show Ending.returned (Value.bool false) = _
    simp [h]

theorem prefix_any (s p : ByteArray) (w : World) :
    Calls Tryd.prog 14 #[.string s, .string p] w fun e w' => e = .returned (.bool (Lib.hasPrefix s.data.toList p.data.toList)) ∧ w = w' := by
  go_enter Tryd.func14, Tryd.ntmps14
  go_wp2_with (go_at_call 21; refine (slPrefix_any _ _ _).mono ?_; rintro e w' ⟨rfl, rfl⟩)
  go_ret
  exact ⟨rfl, rfl⟩

/-- Whether the code point r at byte i is right, as 'right' asks. -/
def rightAt (s : ByteArray) (i : Nat) (r : Int) : Bool := !(r == 65533) || Lib.hasPrefix (s.data.toList.drop i) [239, 191, 189]

theorem take_drop_all (s : ByteArray) (i : Nat) : List.take (s.size - i) (List.drop i s.data.toList) = s.data.toList.drop i := by
  rw [List.take_of_length_le]
  rw [List.length_drop, Lib.size_eq]
  exact Nat.le_refl _

set_option maxHeartbeats 400000 in
theorem right_any (s : ByteArray) (i : Nat) (r : Int) (w : World) (hi : i ≤ s.size) (hs : s.size ≤ 1099511627776) :
    Calls Tryd.prog 57 #[.string s, .int .i64 i, .int .i32 r] w fun e w' => e = .returned (.bool (rightAt s i r)) ∧ w = w' := by
  unfold rightAt
  by_cases hr : r = 65533
  · subst hr
    have h1 : ((65533 : Int) == 65533) = true := rfl
    have h2 : ((65533 : Int) != 65533) = false := rfl
    go_enter Tryd.func57, Tryd.ntmps57
    go_wp2_with (go_at_call 14; refine (prefix_any _ _ _).mono ?_; rintro e w' ⟨rfl, rfl⟩)
    go_ret
    exact ⟨ret_bool (by rw [take_drop_all]; rfl), rfl⟩
  · have h1 : (r == 65533) = false := by simpa using hr
    have h2 : (r != 65533) = true := by simpa using hr
    go_enter Tryd.func57, Tryd.ntmps57
    go_wp2
    go_ret
    exact ⟨ret_bool (by rw [h1]; rfl), rfl⟩

theorem rightAt_cp (s : ByteArray) (p : Nat) : rightAt s p ((Utf8.decode s p).1 : Nat) = rightB ((Utf8.decode s p).1, p, (Utf8.decode s p).2) := by
  unfold rightAt rightB
  by_cases h : (Utf8.decode s p).1 = 65533
  · rw [right_width s p h, h]; rfl
  · have h1 : (((Utf8.decode s p).1 : Nat) : Int) ≠ 65533 := by omega
    rw [beq_eq_false_iff_ne.2 h, beq_eq_false_iff_ne.2 h1]
    rfl

/-- Whether the code point r at byte i may begin a name, as 'letter' asks. -/
def letterAt (s : ByteArray) (i : Nat) (r : Int) : Bool := (decide (97 ≤ r) && decide (r ≤ 122)) || (r == 95) || (decide (128 ≤ r) && rightAt s i r)

set_option maxHeartbeats 800000 in
theorem letter_any (s : ByteArray) (i : Nat) (r : Int) (w : World) (hi : i ≤ s.size) (hs : s.size ≤ 1099511627776) :
    Calls Tryd.prog 61 #[.string s, .int .i64 i, .int .i32 r] w fun e w' => e = .returned (.bool (letterAt s i r)) ∧ w = w' := by
  by_cases h1 : 128 ≤ r
  · have h2 : (r == 95) = false := by simp; omega
    go_enter Tryd.func61, Tryd.ntmps61
    go_wp2_with (go_at_call 57; refine (right_any _ _ _ _ hi hs).mono ?_; rintro e w' ⟨rfl, rfl⟩)
    go_ret
    exact ⟨ret_bool (by unfold letterAt; rw [h2, decide_eq_true h1, decide_eq_false (show ¬ r ≤ 122 by omega)]; simp), rfl⟩
  · by_cases h3 : r = 95
    · subst h3
      have h2 : ((95 : Int) == 95) = true := rfl
      go_enter Tryd.func61, Tryd.ntmps61
      go_wp2
      go_ret
      exact ⟨rfl, rfl⟩
    · have h2 : (r == 95) = false := by simpa using h3
      by_cases h4 : 97 ≤ r
      · by_cases h5 : r ≤ 122
        · go_enter Tryd.func61, Tryd.ntmps61
          go_wp2
          go_ret
          exact ⟨ret_bool (by unfold letterAt; rw [decide_eq_true h4, decide_eq_true h5]; rfl), rfl⟩
        · go_enter Tryd.func61, Tryd.ntmps61
          go_wp2
          go_ret
          exact ⟨ret_bool (by unfold letterAt; rw [h2, decide_eq_false (show ¬ 128 ≤ r by omega), decide_eq_false (show ¬ r ≤ 122 by omega)]; simp), rfl⟩
      · go_enter Tryd.func61, Tryd.ntmps61
        go_wp2
        go_ret
        exact ⟨ret_bool (by unfold letterAt; rw [h2, decide_eq_false (show ¬ 128 ≤ r by omega), decide_eq_false (show ¬ 97 ≤ r by omega)]; simp), rfl⟩

def digitB (r : Int) : Bool := decide (48 ≤ r) && decide (r ≤ 57)
/-- Whether a code point may stand in a name. -/
def letterB (c : Nat × Nat × Nat) : Bool := (decide (97 ≤ c.1) && decide (c.1 ≤ 122)) || (c.1 == 95) || (decide (128 ≤ c.1) && rightB c)
def nameCp (c : Nat × Nat × Nat) : Bool := letterB c || (!(c.2.1 == 0) && digitB (c.1 : Nat))
def nameB (s : ByteArray) : Bool := decide (1 ≤ s.size) && decide (s.size ≤ 100) && (cps s).all nameCp

theorem letterAt_cp (s : ByteArray) (p : Nat) : letterAt s p ((Utf8.decode s p).1 : Nat) = letterB ((Utf8.decode s p).1, p, (Utf8.decode s p).2) := by
  unfold letterAt letterB
  rw [rightAt_cp]
  congr 1
  · congr 1
    · rw [Bool.eq_iff_iff]; simp; omega
    · rw [Bool.eq_iff_iff]; simp; omega
  · congr 1
    rw [Bool.eq_iff_iff]; simp; omega

set_option maxHeartbeats 1600000 in
set_option maxRecDepth 100000 in
theorem name_any (s : ByteArray) (w : World) (hs : s.size ≤ 1099511627776) :
    Calls Tryd.prog 45 #[.string s] w fun e w' => e = .returned (.bool (nameB s)) ∧ Below w.heap.size w w' := by
  by_cases h0 : s.size = 0
  · have hv : nameB s = false := by unfold nameB; rw [h0]; rfl
    have hb : ((s.size : Int) == 0) = true := by rw [h0]; rfl
    have HV := Lib.hid hv
    clear hv h0
    go_enter Tryd.func45, Tryd.ntmps45
    go_wp2
    go_ret
    exact ⟨ret_bool HV.out.symm, Below.refl _ _⟩
  have hb : ((s.size : Int) == 0) = false := by simpa using h0
  by_cases h1 : 100 < s.size
  · have hv : nameB s = false := by unfold nameB; rw [decide_eq_false (show ¬ s.size ≤ 100 by omega)]; simp
    have HV := Lib.hid hv
    clear hv
    go_enter Tryd.func45, Tryd.ntmps45
    go_wp2
    go_ret
    exact ⟨ret_bool HV.out.symm, Below.refl _ _⟩
  have hv : nameB s = (cps s).all nameCp := by unfold nameB; rw [decide_eq_true (show s.size ≤ 100 by omega), decide_eq_true (show 1 ≤ s.size by omega)]; simp
  have HV := Lib.hid hv
  clear hv
  have hd1 : decide ((100 : Int) < s.size) = false := by simp; omega
  go_enter Tryd.func45, Tryd.ntmps45
  go_wp2
  go_loopw [] (fun wr => ∃ (pos f : Nat), wr = w.iter s pos ∧ (cpsF s f pos).all nameCp = (cps s).all nameCp ∧ s.size ≤ pos + f) (fun wr => s.size - wr.iterPos w.heap.size)
  case atStart => exact ⟨0, s.size, rfl, rfl, by omega⟩
  case round =>
    obtain ⟨pos, f, rfl, hc, hf⟩ := hrel
    have HC := Lib.hid hc
    clear hc
    by_cases hp : pos < s.size
    · have hnx : ∀ ty, (Instr.next (.pointer (some ⟨w.heap.size, 0, none⟩)) true ty).run Tryd.prog (w.iter s pos) = _ := fun ty => run_next_any w s pos ty hp
      obtain ⟨g, hg1, hg2, hg3⟩ := cpsF_step s f pos hp hf
      have H1 := Lib.hid hg1
      have H2 := Lib.hid hg2
      clear hg1 hg2
      have hwd := width_pos s pos hp
      have hn : nameCp ((Utf8.decode s pos).1, pos, (Utf8.decode s pos).2) = (letterAt s pos ((Utf8.decode s pos).1 : Nat) || (!(pos == 0) && digitB ((Utf8.decode s pos).1 : Nat))) := by
        rw [letterAt_cp]; rfl
      have HN := Lib.hid hn
      clear hn
      have hrl := decode_le s pos
      by_cases hL : letterAt s pos ((Utf8.decode s pos).1 : Nat) = true
      · have HY := Lib.hid hL
        by_cases h48 : (48 : Int) ≤ (Utf8.decode s pos).1
        all_goals
          go_wp2_with (go_at_call 61; refine (letter_any _ _ _ _ (by omega) hs).mono ?_; rintro e w' ⟨rfl, rfl⟩)
          go_roundw
          case rel => exact ⟨_, g, rfl, by rw [← HC.out, H2.out, List.all_cons, HN.out, HY.out]; simp, hg3⟩
          case measure => simp; omega
      · have hL' : letterAt s pos ((Utf8.decode s pos).1 : Nat) = false := by simpa using hL
        clear hL
        have HY := Lib.hid hL'
        by_cases h0 : pos = 0
        · have hb0 : ((pos : Int) == 0) = true := by simpa using h0
          have H0 := Lib.hid h0
          clear h0
          have hf : nameB s = false := by rw [HV.out, ← HC.out, H2.out, List.all_cons, HN.out, HY.out, H0.out]; simp
          have HF := Lib.hid hf
          clear hf
          by_cases h48 : (48 : Int) ≤ (Utf8.decode s pos).1
          all_goals
            go_wp2_with (go_at_call 61; refine (letter_any _ _ _ _ (by omega) hs).mono ?_; rintro e w' ⟨rfl, rfl⟩)
            go_ret
            exact ⟨ret_bool HF.out.symm, (Below.refl _ _).alloc (Nat.le_refl _) _⟩
        · have hb0 : ((pos : Int) == 0) = false := by simpa using h0
          have hbn : (pos == 0) = false := by simpa using h0
          have HB0 := Lib.hid hbn
          clear h0 hbn
          by_cases h48 : (48 : Int) ≤ (Utf8.decode s pos).1
          · by_cases h57 : ((Utf8.decode s pos).1 : Int) ≤ 57
            · have hdg : digitB ((Utf8.decode s pos).1 : Nat) = true := by unfold digitB; rw [decide_eq_true h48, decide_eq_true h57]; rfl
              have HD := Lib.hid hdg
              clear hdg
              go_wp2_with (go_at_call 61; refine (letter_any _ _ _ _ (by omega) hs).mono ?_; rintro e w' ⟨rfl, rfl⟩)
              go_roundw
              case rel => exact ⟨_, g, rfl, by rw [← HC.out, H2.out, List.all_cons, HN.out, HD.out, HB0.out]; simp, hg3⟩
              case measure => simp; omega
            · have hdg : digitB ((Utf8.decode s pos).1 : Nat) = false := by unfold digitB; rw [decide_eq_false h57]; simp
              have hf : nameB s = false := by rw [HV.out, ← HC.out, H2.out, List.all_cons, HN.out, HY.out, hdg]; simp
              have HF := Lib.hid hf
              clear hf hdg
              go_wp2_with (go_at_call 61; refine (letter_any _ _ _ _ (by omega) hs).mono ?_; rintro e w' ⟨rfl, rfl⟩)
              go_ret
              exact ⟨ret_bool HF.out.symm, (Below.refl _ _).alloc (Nat.le_refl _) _⟩
          · have hdg : digitB ((Utf8.decode s pos).1 : Nat) = false := by unfold digitB; rw [decide_eq_false h48]; simp
            have hf : nameB s = false := by rw [HV.out, ← HC.out, H2.out, List.all_cons, HN.out, HY.out, hdg]; simp
            have HF := Lib.hid hf
            clear hf hdg
            go_wp2_with (go_at_call 61; refine (letter_any _ _ _ _ (by omega) hs).mono ?_; rintro e w' ⟨rfl, rfl⟩)
            go_ret
            exact ⟨ret_bool HF.out.symm, (Below.refl _ _).alloc (Nat.le_refl _) _⟩
    · have hnx : ∀ ty, (Instr.next (.pointer (some ⟨w.heap.size, 0, none⟩)) true ty).run Tryd.prog (w.iter s pos) = _ := fun ty => run_next_end w s pos ty hp
      go_wp2
      go_ret
      exact ⟨ret_bool (by rw [HV.out, ← HC.out, cpsF_end _ _ _ hp, List.all_nil]), (Below.refl _ _).alloc (Nat.le_refl _) _⟩
theorem bt_at (s : ByteArray) (i : Nat) (h : i < s.size) : bt s i = (s.data.toList[i]'(by rw [← Lib.size_eq]; exact h)).toNat := by
  have := get!_eq s i h
  rw [List.getElem?_eq_getElem (by rw [← Lib.size_eq]; exact h)] at this
  simp only [Option.some.injEq] at this
  unfold bt
  rw [this]

theorem decode_in (s : ByteArray) (p : Nat) (h : p < s.size) : p + (Utf8.decode s p).2 ≤ s.size := by
  have hc := decode_cases s p
  unfold goesOn at hc
  rcases hc with ⟨h0, e⟩ | ⟨h0, h1, h2, e⟩ | ⟨h0, h1, h2, h3, c, hc, h4, h5, e⟩ | ⟨h0, h1, h2, h3, h4, c, hc, h5, h6, e⟩ | ⟨h0, e, h1, h2, h3⟩
  all_goals rw [e]; dsimp only; omega

theorem blk_cell {w : World} {b : Nat} {cs : Array Value} {T : TypeId} {fz : Nat × Nat} (h : w.heap[b]? = some (.cells cs T fz)) (i : Nat) : w.cell? ⟨b, i, none⟩ = cs[i]? := by
  simp [World.cell?, h]

end Go.Proofs.YtdbdlgmejddbhaaDoor
