/-
  same: a shelf and the document's own tell alike.
-/
import Derived.Test.YtjfkfiaheohhcaaTwo
import Derived.Test.YtjfkfiaheohhcaaLwTurns
import Derived.Deep.RegionHeld3
set_option linter.unusedVariables false
set_option linter.unusedSimpArgs false
namespace Go.Proofs.Ytjfkfiaheohhcaa
open Go Go.RowKit

/-- Whole numbers in a slice. -/
def RdZ (w : World) (B : Nat) (A : Option Addr) (n : Nat) (l : List Int) : Prop :=
  l.length = n ∧ (0 < n → ∃ g o, A = some ⟨g, o, none⟩ ∧ g < B ∧ ∀ j (hj : j < l.length), w.cell? ⟨g, o + j, none⟩ = some (.int .i64 l[j]))
theorem RdZ.below {w w' : World} {B n : Nat} {A : Option Addr} {l : List Int} (h : RdZ w B A n l) (hb : Below B w w') : RdZ w' B A n l :=
  ⟨h.1, fun hn => by
    obtain ⟨g, o, e, hg, hc⟩ := h.2 hn
    exact ⟨g, o, e, hg, fun j hj => (hb.cell (p := ⟨g, o + j, none⟩) hg).trans (hc j hj)⟩⟩
theorem RdZ.of_own {w : World} {base n : Nat} {A : Option Addr} {c : Nat} {l : List Int} (h : w.ownsRow base 3 1 (.slice A n c) n (iRow l)) : RdZ w w.heap.size A n l := by
  have hl : l.length = n := by have := h.1; unfold iRow at this; rw [List.length_map] at this; omega
  rcases h.2 with ⟨e, rfl⟩ | ⟨g, cap, cur, e, hb, hh, hn, hm, hs, ht⟩
  · exact ⟨hl, fun h => absurd h (by omega)⟩
  · injection e with e1 e2 e3
    subst e1
    refine ⟨hl, fun hn => ⟨g, 0, rfl, (Array.getElem?_eq_some_iff.1 hh).1, fun j hj => ?_⟩⟩
    have := h.cells (g := g) rfl j (.int .i64 l[j]) (by unfold iRow; rw [List.getElem?_map, List.getElem?_eq_getElem hj]; rfl)
    rw [Addr.add_lit] at this
    exact this
theorem getF_nth {fs : Fl} (hu : Up fs) {k : Nat} (hk : k < fs.length) : hasF fs (fs[k]).1 = true ∧ getF fs (fs[k]).1 = (fs[k]).2 := by
  have hi : idxF fs (fs[k]).1 = k := by
    refine idxF_eq (Nat.le_of_lt hk) (fun j hj => ?_) (fun _ => Int.le_refl _)
    exact List.pairwise_iff_getElem.1 hu j k (by omega) hk hj
  refine ⟨(hasF_iff hu _).2 ⟨by rw [hi]; exact hk, by simp only [hi]⟩, ?_⟩
  rw [getF_at (by rw [hi]; exact hk) (by simp only [hi])]
  simp only [hi]

set_option maxHeartbeats 4000000 in
theorem same_any (W0 w : World) (F G : Nat → Prop) (p q : Nat) (S : Sh) (h : Two W0 w F G p q S S) :
    Calls Try.prog 13 #[.pointer (some ⟨p, 0, none⟩), .pointer (some ⟨q, 0, none⟩)] w fun e w' => e = .returned (.bool true) ∧ Below w.heap.size w w' := by
  have hok := h.s.ok
  have hup := hok.up
  have hwf := hok.wf
  have hl40 := hok.len
  have hlog := hok.log
  have hsyn := hok.syn
  obtain ⟨v, T, hr⟩ := h.r
  have hz := hr.size
  obtain ⟨m, hm⟩ : ∃ m, S.fs.length = m := ⟨_, rfl⟩
  have hTl : S.log.length - S.syn = T.size - S.syn := by rw [hz]
  have hw1 : IntKind.i64.wrap ((T.size : Int) - (S.syn : Nat)) = ((T.size - S.syn : Nat) : Int) := by
    rw [IntKind.wrap_i64]
    omega
  obtain ⟨A, c, rfl, hnc, hcc, hA⟩ := own_slice hr.2.2.1
  rw [hm] at hnc hl40
  have H := Lib.hid h
  have HR := Lib.hid hr
  have HM := Lib.hid hm
  have HU := Lib.hid hup
  have HW := Lib.hid hwf
  have HTL := Lib.hid hTl
  have HTD := Lib.hid hr.2.1
  clear h hr hok hup hwf hTl hsyn hlog hz hm
  go_enter Try.func13, Try.ntmps13
  go_wp2_with fail
  refine (nums_my H.out.s m HM.out).mono ?_
  rintro e w1 ⟨A1, c1, rfl, ho1, b1⟩
  have h1 := H.out.read b1
  have hr1 := HR.out.below b1
  obtain ⟨g0, g1, g2, g3, _⟩ := hr1.cells
  rw [HM.out] at g2
  have rz1 := RdZ.of_own ho1
  have hq1 := (Array.getElem?_eq_some_iff.1 hr1.1).1
  have HZ := Lib.hid rz1
  have rf1 := RdF.of_own hr1.2.2.1
  rw [HM.out] at rf1
  have HF := Lib.hid rf1
  have H1 := Lib.hid h1
  clear h1 hr1 ho1 rz1 rf1
  go_wp2_with fail
  go_region_held3 (fun w' => w'.cell? ⟨q, 0, none⟩ = some (.string T) ∧ w'.cell? ⟨q, 1, none⟩ = some (.int .i64 (S.syn : Nat)) ∧ w'.cell? ⟨q, 2, none⟩ = some (.slice A m c) ∧ w'.cell? ⟨q, 3, none⟩ = some (.string S.man)) (refine ⟨?_, ?_, ?_, ?_⟩ <;> assumption) (first
    | (go_at_call 21; refine (log_my (H1.out.s.read (Below.refl _ _).drew) T HTD.out).mono ?_; rintro e w2 ⟨rfl, rfl⟩)
    | (go_at_call 19; refine (unsynced_my (H1.out.s.read (Below.refl _ _).drew) (T.size - S.syn) HTL.out).mono ?_; rintro e w3 ⟨rfl, b3⟩; have bz3 : Below w1.heap.size w1 w3 := ((Below.refl _ _).drew).trans b3; have k0 := (bz3.cell (p := ⟨q, 0, none⟩) hq1).trans g0; have k1 := (bz3.cell (p := ⟨q, 1, none⟩) hq1).trans g1; have k2 := (bz3.cell (p := ⟨q, 2, none⟩) hq1).trans g2; have k3 := (bz3.cell (p := ⟨q, 3, none⟩) hq1).trans g3)
    | (go_at_call 23; refine (man_my (H1.out.s.read bz3) S.man rfl).mono ?_; rintro e w4 ⟨rfl, rfl⟩))
  go_wp2_with fail
  go_loopw [6] (fun v6 wr => ∃ k : Nat, v6 = .int .i64 (k : Nat) ∧ k ≤ m ∧ Below w1.heap.size w1 wr) (fun v _ => m - (intOf v).toNat)
  case atStart => exact ⟨0, rfl, Nat.zero_le _, bz3⟩
  case round =>
    obtain ⟨k, rfl, hkm, hb⟩ := hrel
    by_cases hlt : k < m
    · have x1 : decide (k < m) = true := by simpa using hlt
      have x2 : decide ((k : Int) < (m : Nat)) = true := by simp; omega
      have hkl : k < S.fs.length := by rw [HM.out]; exact hlt
      obtain ⟨hhas, hget⟩ := getF_nth HU.out hkl
      have hxb := HW.out _ (List.getElem_mem hkl)
      obtain ⟨gz, oz, rfl, hgz, hcz⟩ := (HZ.out.below hb).2 (by omega)
      have hcz := hcz k (by rw [HZ.out.1]; exact hlt)
      have hnk : (numsF S.fs)[k]'(by rw [HZ.out.1]; exact hlt) = (S.fs[k]'hkl).1 := by simp [numsF]
      rw [hnk] at hcz
      obtain ⟨gf, of, rfl, hgf, hcf⟩ := HF.out.2 (by omega)
      have hc0 := hcf _ _ (fRow_get0 S.fs k hkl)
      have hc1 := hcf _ _ (fRow_get1 S.fs k hkl)
      obtain ⟨x, hx⟩ : ∃ x, (S.fs[k]'hkl).1 = x := ⟨_, rfl⟩
      obtain ⟨y, hy⟩ : ∃ y, (S.fs[k]'hkl).2 = y := ⟨_, rfl⟩
      rw [hx] at hcz hc0 hhas hget hxb
      rw [hy] at hc1 hget
      have hwx := wfI (x := x) (by omega) (by omega)
      have hif : (if hasF S.fs x = true then (0 : Int) else 9) = 0 := by rw [hhas]; rfl
      have HX := Lib.hid hwx
      have HG := Lib.hid hget
      have HI := Lib.hid hif
      clear hcf hx hy hnk hhas hget hxb hwx hif
      go_wp2_with fail
      refine (get_my (H1.out.s.read hb) x HX.out y 0 HG.out HI.out).mono ?_
      rintro e w5 ⟨rfl, b5⟩
      have hb5 := hb.trans (b5.mono hb.size)
      have hcz5 := (b5.cell (p := ⟨gz, oz + k, none⟩) (Nat.lt_of_lt_of_le hgz hb.size)).trans hcz
      have hc05 := (hb5.cell (p := ⟨gf, of + k * 2, none⟩) hgf).trans hc0
      have hc15 := (hb5.cell (p := ⟨gf, of + (k * 2 + 1), none⟩) hgf).trans hc1
      rw [← Nat.add_assoc] at hc15
      have q2 := (hb5.cell (p := ⟨q, 2, none⟩) hq1).trans g2
      clear hcz hc0 hc1
      go_wp2_with fail
      go_quiet (fail)
      go_wp2
      go_roundw
      case rel => exact ⟨k + 1, by go_num, by omega, hb5.trans ⟨rfl, rfl, rfl, Nat.le_refl _, fun _ _ => rfl⟩⟩
      case measure => simp [intOf]; omega
    · have x1 : decide (k < m) = false := by simpa using hlt
      have x2 : decide ((k : Int) < (m : Nat)) = false := by simp; omega
      go_wp2
      go_ret
      exact ⟨rfl, b1.trans (hb.mono b1.size)⟩
end Go.Proofs.Ytjfkfiaheohhcaa
