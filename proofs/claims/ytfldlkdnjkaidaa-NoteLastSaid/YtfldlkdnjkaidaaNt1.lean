/-
  The document's own notes (chapter 11) as they lie in memory; where a number stands; Get.
-/
import Derived.Test.YtfldlkdnjkaidaaTkl
import Derived.Test.YtfldlkdnjkaidaaNa
import Derived.Test.YtfldlkdnjkaidaaNf
import Derived.Test.YtfldlkdnjkaidaaKp
import Derived.Deep.QuietTactic
import Derived.Deep.RegionLaw
import Derived.Deep.RegionHeld3
set_option linter.unusedVariables false
set_option linter.unusedSimpArgs false
namespace Go.Proofs.Ytfldlkdnjkaidaa
open Go Go.RowKit

/-- The document's own notes: the block, the row of notes. -/
def NtAt (w : World) (F : Nat → Prop) (q : Nat) (v : Value) (S : Fl) : Prop :=
  w.heap[q]? = some (.cells #[v] 28 (0, 0)) ∧ w.ownsRow 0 30 2 v S.length (tRow S) ∧ F q ∧ (∀ g, v.ownBlock = some g → F g) ∧ NOk S
def NtIs (w : World) (F : Nat → Prop) (q : Nat) (S : Fl) : Prop := ∃ v, NtAt w F q v S
section
variable {w w' : World} {F G : Nat → Prop} {q : Nat} {v : Value} {S : Fl}
theorem NtAt.kept (h : NtAt w G q v S) (hk : Kept F w w') (ho : Off F G) (hG : In G w) : NtAt w' G q v S := by
  obtain ⟨h1, h3, h4, h5, h6⟩ := h
  exact ⟨by rw [hk.get ho hG h4]; exact h1, own_kept h3 (fun g hg => hk.get ho hG (h5 g hg)), h4, h5, h6⟩
theorem NtIs.kept (h : NtIs w G q S) (hk : Kept F w w') (ho : Off F G) (hG : In G w) : NtIs w' G q S := by
  obtain ⟨v, h⟩ := h
  exact ⟨v, h.kept hk ho hG⟩
theorem NtAt.below (h : NtAt w G q v S) (hb : Below w.heap.size w w') : NtAt w' G q v S := by
  obtain ⟨h1, h3, h4, h5, h6⟩ := h
  exact ⟨by rw [hb.block q (Array.getElem?_eq_some_iff.1 h1).1]; exact h1, own_kept h3 (fun g hg => hb.block g (own_block_lt h3 g hg)), h4, h5, h6⟩
theorem NtIs.below (h : NtIs w G q S) (hb : Below w.heap.size w w') : NtIs w' G q S := by
  obtain ⟨v, h⟩ := h
  exact ⟨v, h.below hb⟩
theorem NtAt.drew (h : NtAt w F q v S) : NtAt w.drew F q v S := h
theorem NtAt.ok (h : NtAt w F q v S) : NOk S := h.2.2.2.2
theorem NtIs.ok (h : NtIs w F q S) : NOk S := by
  obtain ⟨v, h⟩ := h
  exact h.ok
theorem NtAt.ne (h : NtAt w F q v S) : v.ownBlock ≠ some q := by
  obtain ⟨h1, h3, _⟩ := h
  intro hc
  obtain ⟨cs, hcs⟩ := own_tag h3 _ hc
  rw [hcs] at h1
  injection h1 with h1
  injection h1 with _ h1
  exact absurd h1 (by decide)
theorem NtAt.cells (h : NtAt w F q v S) : w.cell? ⟨q, 0, none⟩ = some v ∧ ∀ i, w.frozen? ⟨q, i, none⟩ = false := ⟨cell_at h.1 rfl, fun i => thawed_at h.1⟩
end
/-- Other notes. -/
theorem NtAt.set_notes {w : World} {F : Nat → Prop} {q : Nat} {v v' : Value} {fs : Fl} {m : Nat} (h1 : w.heap[q]? = some (.cells #[v] 28 (0, 0)))
    (ho : w.ownsRow 0 30 2 v' m (tRow fs)) (hm : fs.length = m) (hF : F q) (hv : ∀ g, v'.ownBlock = some g → F g) (hok : NOk fs) : NtAt (w.setCell ⟨q, 0, none⟩ v') F q v' fs := by
  subst hm
  have hne : v'.ownBlock ≠ some q := by
    intro hc
    obtain ⟨cs, hcs⟩ := own_tag ho _ hc
    rw [hcs] at h1
    injection h1 with h1
    injection h1 with _ h1
    exact absurd h1 (by decide)
  refine ⟨?_, own_kept ho (fun g hg => Below.heap_setCell _ _ _ _ fun e => hne (by rw [hg, e])), hF, hv, hok⟩
  rw [heap_setCell_same w q 0 _ _ _ h1]
  rfl

set_option maxHeartbeats 2000000 in
theorem nat_any (F : Nat → Prop) (q : Nat) (S : Fl) (n : Int) (w : World) (h : NtIs w F q S) (hn : (Lit.int .i64 n).wf = true) :
    Calls Try.prog 19 #[.pointer (some ⟨q, 0, none⟩), .int .i64 n] w fun e w' => e = .returned (.tuple #[.int .i64 (idxF S n : Nat), .bool (hasF S n)]) ∧ Below w.heap.size w w' := by
  have hlen := h.ok.len
  have hup := h.ok.up
  have hwf := h.ok.wf
  obtain ⟨nl, nh⟩ := bounds_i64 hn
  obtain ⟨v, h⟩ := h
  obtain ⟨c2, fz⟩ := h.cells
  obtain ⟨A, c, rfl, hnc, hc, hA⟩ := own_slice h.2.1
  have hr := RdT.of_own h.2.1
  obtain ⟨i, hi⟩ : ∃ i, idxF S n = i := ⟨_, rfl⟩
  obtain ⟨b, hb⟩ : ∃ b, hasF S n = b := ⟨_, rfl⟩
  obtain ⟨m, hm⟩ : ∃ m, S.length = m := ⟨_, rfl⟩
  rw [hi, hb]
  rw [hm] at c2 hlen hnc hr
  have hil : i ≤ m := by rw [← hi, ← hm]; exact idxF_le _ _
  have HI := Lib.hid hi
  have HB := Lib.hid hb
  have HM := Lib.hid hm
  have HW := Lib.hid hwf
  have HU := Lib.hid hup
  clear h fz hi hb hm hwf hup hn
  go_enter Try.func19, Try.ntmps19
  go_wp2_with fail
  go_loop [6] (fun v6 => ∃ k : Nat, v6 = .int .i64 (k : Nat) ∧ k ≤ i) (fun v6 => m - (intOf v6).toNat)
  case atStart => exact ⟨0, rfl, Nat.zero_le _⟩
  case round =>
    obtain ⟨k, rfl, hki⟩ := hrel
    by_cases hkm : k < m
    · have hkl : k < S.length := by rw [HM.out]; exact hkm
      obtain ⟨g, o, rfl, hg, hcell⟩ := hr.2 (by omega)
      have hc0 := hcell _ _ (tRow_get0 S k hkl)
      obtain ⟨x, hx⟩ : ∃ x, (S[k]'hkl).1 = x := ⟨_, rfl⟩
      rw [hx] at hc0
      have hxb := HW.out _ (List.getElem_mem hkl)
      rw [hx] at hxb
      obtain ⟨hx1, hx2⟩ := hxb
      have HX := Lib.hid hx
      have c1' : decide (k < m) = true := by simpa using hkm
      have c2' : decide ((k : Int) < (m : Nat)) = true := by simp; omega
      by_cases hlt : x < n
      · have d1 : decide (x < n) = true := by simpa using hlt
        have hki2 : k < i := by
          rcases Nat.lt_or_ge k i with h1 | h1
          · exact h1
          · have e : k = idxF S n := by rw [HI.out]; omega
            have := idxF_ge (fs := S) (n := n) (by rw [← e]; exact hkl)
            simp only [← e] at this
            rw [HX.out] at this
            omega
        clear hcell hx
        go_wp2
        go_round
        case rel => exact ⟨k + 1, by go_num, by omega⟩
        case measure => simp [intOf]; omega
      · have d1 : decide (x < n) = false := by simpa using hlt
        have hki2 : k = i := by
          rcases Nat.lt_or_ge k i with h1 | h1
          · have := idxF_lt (fs := S) (n := n) (j := k) (by rw [HI.out]; exact h1)
            rw [HX.out] at this
            omega
          · omega
        subst hki2
        have hbx : b = (x == n) := by
          rw [← HB.out, Bool.eq_iff_iff, hasF_iff HU.out, beq_iff_eq]
          simp only [HI.out, HX.out]
          exact ⟨fun ⟨_, h⟩ => h, fun h => ⟨hkl, h⟩⟩
        have HBX := Lib.hid hbx
        clear hcell hx hbx
        go_wp2_with fail
        refine wp_region_held_drew (S := fun w' => w'.cell? ⟨q, 0, none⟩ = some (.slice (some ⟨g, o, none⟩) m c) ∧ w'.cell? ⟨g, o + k * 2, none⟩ = some (.int .i64 x)) (by kernel_rfl) ?_ (fun hHeld => ?_)
        · exact ⟨c2, hc0⟩
        refine takesH [0, 1, 2, 3, 4, 5, 6, 7, 8, 9, 10, 11, 12, 13, 14, 15, 16, 17, 18, 19, 20, 21] ?_
        repeat
          refine takesH_one (v := ?_) ?_ ?_
          rotate_left
          · first | (refine Or.inr ⟨by rfl, ?_⟩; with_reducible rfl) | (refine Or.inl ⟨by rfl, ?_⟩; intro wx hSw; (try dsimp only at hSw); first | (go_simp; first | done | with_reducible rfl) | (obtain ⟨_, _⟩ := hSw; go_simp; first | done | with_reducible rfl))
          try simp only [Act.put, List.getElem_toArray, List.getElem_cons_succ, List.getElem_cons_zero, List.setIfInBounds_toArray, List.set_cons_zero, List.set_cons_succ]
        refine takesH_nil ?_
        refine wpAnyH_done (by kernel_rfl) ?_ _
        go_wp2
        go_ret2
        exact ⟨by rw [HBX.out]; rfl, ⟨rfl, rfl, rfl, Nat.le_refl _, fun _ _ => rfl⟩⟩
    · have c1' : decide (k < m) = false := by simpa using hkm
      have c2' : decide ((k : Int) < (m : Nat)) = false := by simp; omega
      obtain rfl : k = i := by omega
      have hbx : b = false := by
        rw [← HB.out, Bool.eq_false_iff]
        intro hh
        obtain ⟨h1, _⟩ := (hasF_iff HU.out n).1 hh
        rw [HI.out, HM.out] at h1
        omega
      have HBX := Lib.hid hbx
      clear hbx
      go_wp2_with fail
      refine wp_region_held_drew (S := fun w' => w'.cell? ⟨q, 0, none⟩ = some (.slice A m c)) (by kernel_rfl) ?_ (fun hHeld => ?_)
      · exact c2
      refine takesH [0, 1, 2, 3, 4, 5, 6, 7, 8, 9, 10, 11, 12, 13, 14, 15, 16, 17, 18, 19, 20, 21] ?_
      repeat
        refine takesH_one (v := ?_) ?_ ?_
        rotate_left
        · first | (refine Or.inr ⟨by rfl, ?_⟩; with_reducible rfl) | (refine Or.inl ⟨by rfl, ?_⟩; intro wx hSw; (try dsimp only at hSw); first | (go_simp; first | done | with_reducible rfl))
        try simp only [Act.put, List.getElem_toArray, List.getElem_cons_succ, List.getElem_cons_zero, List.setIfInBounds_toArray, List.set_cons_zero, List.set_cons_succ]
      refine takesH_nil ?_
      refine wpAnyH_done (by kernel_rfl) ?_ _
      go_wp2
      go_ret2
      exact ⟨by rw [HBX.out]; rfl, ⟨rfl, rfl, rfl, Nat.le_refl _, fun _ _ => rfl⟩⟩

set_option maxHeartbeats 2000000 in
theorem nget_any (F : Nat → Prop) (q : Nat) (S : Fl) (n : Int) (w : World) (h : NtIs w F q S) (hn : (Lit.int .i64 n).wf = true) :
    Calls Try.prog 16 #[.pointer (some ⟨q, 0, none⟩), .int .i64 n] w fun e w' => e = .returned (.tuple #[.string (getF S n), .bool (hasF S n)]) ∧ Below w.heap.size w w' := by
  have hR := h
  have hup := h.ok.up
  obtain ⟨b, hb⟩ : ∃ b, hasF S n = b := ⟨_, rfl⟩
  obtain ⟨s, hs⟩ : ∃ s, getF S n = s := ⟨_, rfl⟩
  have hat := nat_any F q S n w hR hn
  rw [hb] at hat
  obtain ⟨i, hi⟩ : ∃ i, idxF S n = i := ⟨_, rfl⟩
  rw [hi] at hat
  rw [hb, hs]
  cases b
  · have h0 : s = ⟨#[]⟩ := by rw [← hs]; exact getF_none hb
    clear h hR hb hs hi hup
    go_enter Try.func16, Try.ntmps16
    go_wp2_with (go_at_call 19; refine hat.mono ?_; rintro e w1 ⟨rfl, b1⟩)
    go_ret2
    exact ⟨by first | rfl | (rw [h0]; rfl), b1⟩
  · obtain ⟨v, h⟩ := h
    obtain ⟨hlt, hgs⟩ : ∃ h : i < S.length, s = (S[i]'h).2 := by
      obtain ⟨hlt, he⟩ := (hasF_iff hup n).1 hb
      subst hi
      exact ⟨hlt, by rw [← hs]; exact getF_at hlt he⟩
    obtain ⟨A, c, rfl, hnc, hc, hA⟩ := own_slice h.2.1
    have H := Lib.hid h
    have HGS := Lib.hid hgs
    have hlen := h.ok.len
    have i1 : (i : Int) < (S.length : Nat) := by omega
    clear h hR hb hs hup hgs hi
    go_enter Try.func16, Try.ntmps16
    go_wp2_with fail
    refine hat.mono ?_
    rintro e w1 ⟨rfl, b1⟩
    have h1 := H.out.below b1
    obtain ⟨c2, _⟩ := h1.cells
    obtain ⟨g, o, rfl, hg, hcell⟩ := (RdT.of_own h1.2.1).2 (by omega)
    have hc1 := hcell _ _ (tRow_get1 S i hlt)
    rw [← HGS.out] at hc1
    rw [← Nat.add_assoc] at hc1
    clear hcell h1
    go_wp2
    go_ret2
    exact ⟨rfl, b1⟩

end Go.Proofs.Ytfldlkdnjkaidaa
