/-
  Notes that are the same.
-/
import Derived.Test.YtfldlkdnjkaidaaTkl
import Derived.Test.YtfldlkdnjkaidaaNf
import Derived.Deep.RegionHeld3
set_option linter.unusedVariables false
set_option linter.unusedSimpArgs false
namespace Go.Proofs.Ytfldlkdnjkaidaa
open Go Go.RowKit

set_option maxRecDepth 8000 in
set_option maxHeartbeats 4000000 in
theorem same_notesT (A A' : Option Addr) (n c c' B B' : Nat) (L : Fl) (w : World) (h : RdT w B A n L) (h' : RdT w B' A' n L) (hB : B ≤ w.heap.size) (hB' : B' ≤ w.heap.size) (hn : n ≤ 1000000) :
    Calls Try.prog 17 #[.slice A n c, .slice A' n c'] w fun e w' => e = .returned (.bool true) ∧ Below w.heap.size w w' := by
  have hl := h.1
  have HH := Lib.hid h; have HH' := Lib.hid h'; have HB := Lib.hid hB; have HB' := Lib.hid hB'; have HL := Lib.hid hl; have HN := Lib.hid hn
  have d1 : ((n : Int) == (n : Int)) = true := by simp
  clear h h' hB hB' hn hl
  go_enter Try.func17, Try.ntmps17
  go_wp2
  clear d1
  go_loopw [5] (fun i wr => ∃ t : Nat, t ≤ n ∧ i = .int .i64 t ∧ Below w.heap.size w wr) (fun i _ => n - (intOf i).toNat)
  case atStart => exact ⟨0, Nat.zero_le _, rfl, Below.refl _ _⟩
  case round =>
    obtain ⟨t, ht, rfl, hb⟩ := hrel
    have i8 : n ≤ 1000000 := HN.out
    have BB := Lib.hid hb
    by_cases hlt : t < n
    · have i1 : (t : Int) < n := by omega
      have i0 : (0 : Int) ≤ t := by omega
      have htl : t < L.length := by rw [HL.out]; exact hlt
      have hq := HH.out.below (hb.mono HB.out)
      have hq' := HH'.out.below (hb.mono HB'.out)
      obtain ⟨g, o, rfl, hg, hcs⟩ := hq.2 (by omega)
      obtain ⟨g', o', rfl, hg', hcs'⟩ := hq'.2 (by omega)
      have z0 := hcs _ _ (tRow_get0 L t htl)
      have z1 := hcs _ _ (tRow_get1 L t htl)
      have z0' := hcs' _ _ (tRow_get0 L t htl)
      have z1' := hcs' _ _ (tRow_get1 L t htl)
      rw [← Nat.add_assoc] at z1 z1'
      obtain ⟨⟨x, s⟩, hx⟩ : ∃ x, L[t] = x := ⟨_, rfl⟩
      rw [hx] at z0 z1 z0' z1'
      dsimp only at z0 z1 z0' z1'
      have z : wr.cell? ⟨g, o + t * 2, none⟩ = some (.int .i64 x) ∧ wr.cell? ⟨g, o + t * 2 + 1, none⟩ = some (.string s) := ⟨z0, z1⟩
      have z' : wr.cell? ⟨g', o' + t * 2, none⟩ = some (.int .i64 x) ∧ wr.cell? ⟨g', o' + t * 2 + 1, none⟩ = some (.string s) := ⟨z0', z1'⟩
      clear z0 z1 z0' z1' hcs hcs'
      have e0 : (x != x) = false := by simp
      have e1 : (x == x) = true := by simp
      have e2 : (s.toList != s.toList) = false := by simp
      have e3 : (s.toList == s.toList) = true := by simp
      have hgw : g < wr.heap.size := by have := HB.out; have := hb.size; omega
      have hgw' : g' < wr.heap.size := by have := HB'.out; have := hb.size; omega
      have hall : ∀ w', Below wr.heap.size wr w' → w'.cell? ⟨g, o + t * 2, none⟩ = some (.int .i64 x) ∧ w'.cell? ⟨g, o + t * 2 + 1, none⟩ = some (.string s) ∧ w'.cell? ⟨g', o' + t * 2, none⟩ = some (.int .i64 x) ∧ w'.cell? ⟨g', o' + t * 2 + 1, none⟩ = some (.string s) := fun w' hb' => ⟨(hb'.cell (p := ⟨g, _, none⟩) hgw).trans z.1, (hb'.cell (p := ⟨g, _, none⟩) hgw).trans z.2, (hb'.cell (p := ⟨g', _, none⟩) hgw').trans z'.1, (hb'.cell (p := ⟨g', _, none⟩) hgw').trans z'.2⟩
      have HALL := Lib.hid hall
      clear hall hb hq hq' z z' hx hg hg' hgw hgw'
      go_wp2_with fail
      refine wp_region_held_drew (S := fun w' => Below wr.heap.size wr w') (by kernel_rfl) ?_ (fun hHeld => ?_)
      · exact (Below.refl _ _).drew
      refine takesH [0, 1, 2, 3, 4, 5, 6, 7, 8, 9, 10, 11, 12, 13, 14, 15, 16, 17, 18, 19, 20, 21, 22, 23] ?_
      repeat
        refine takesH_one (v := ?_) ?_ ?_
        rotate_left
        · first | (refine Or.inr ⟨by rfl, ?_⟩; with_reducible rfl) | (refine Or.inl ⟨by rfl, ?_⟩; intro wx hSw; (try dsimp only at hSw); first | (go_simp; first | done | with_reducible rfl) | (obtain ⟨_, _, _, _⟩ := HALL.out _ hSw; go_simp; first | done | with_reducible rfl))
        try simp only [Act.put, List.getElem_toArray, List.getElem_cons_succ, List.getElem_cons_zero, List.setIfInBounds_toArray, List.set_cons_zero, List.set_cons_succ]
      refine takesH_nil ?_
      refine wpAnyH_done (by kernel_rfl) ?_ _
      have BD := Lib.hid (BB.out.trans (hHeld.mono BB.out.size))
      go_wp2
      go_roundw
      case rel => exact ⟨t + 1, by omega, by go_num, BD.out⟩
      case measure => simp [intOf]; omega
    · obtain rfl : t = n := by omega
      clear hb
      go_wp2
      go_ret
      exact ⟨rfl, BB.out⟩
end Go.Proofs.Ytfldlkdnjkaidaa
