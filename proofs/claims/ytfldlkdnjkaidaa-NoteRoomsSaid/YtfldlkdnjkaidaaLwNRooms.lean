/-
  NoteRooms.
-/
import Derived.Test.YtfldlkdnjkaidaaNd7
import Derived.Test.YtfldlkdnjkaidaaNr
import Derived.Test.YtfldlkdnjkaidaaNc
import Derived.Test.YtfldlkdnjkaidaaCeZ
import Derived.Test.YtfldlkdnjkaidaaPlc
import Derived.Deep.DeepCutAuto
import Derived.Deep.CutBlock
import Derived.Deep.QuietTactic
import Derived.BigQuiet
import Derived.WalkArith
set_option linter.unusedVariables false
set_option linter.unusedSimpArgs false
namespace Go.Proofs.Ytfldlkdnjkaidaa
open Go Go.RowKit

theorem below_drewN {k : Nat} {a c : World} (h : Below k a c) : ∀ n, Below k a (c.drewN n)
  | 0 => h
  | n + 1 => (below_drewN h n).drew
theorem roomS_ok {b : ByteArray} (hb : b.size ≤ 4096) : ∀ k, k ≤ 1000 → NOk (roomS b (min k 300))
  | 0, _ => NOk.nil
  | k + 1, hk => by
    have h := (roomS_ok hb k (by omega)).add ((k + 1 : Nat) : Int) b
    rw [room_add hb k (by omega)] at h
    exact h
set_option maxRecDepth 8000 in
set_option maxHeartbeats 1200000 in
theorem nrooms_law (many : Int) (A : Option Addr) (n c : Nat) (L : List Int) (w : World) (hmany : (Lit.int .i64 many).wf = true) (h : RdZ w w.heap.size A n L) (hc : n ≤ c) (hm : c ≤ maxLen) (hx : ∀ x ∈ L, (Lit.int .i64 x).wf = true) :
    Calls Try.prog 4 #[.int .i64 many, .slice A n c] w fun e w' => e = .returned (.bool true) ∧ Below w.heap.size w w' := by
  have HH := Lib.hid h; have HX := Lib.hid hx; have HMA := Lib.hid hmany; have HLEN := Lib.hid h.1
  have hbb : (⟨#[98]⟩ : ByteArray).size ≤ 4096 := by decide
  obtain ⟨b, hb⟩ : ∃ b : ByteArray, (⟨#[98]⟩ : ByteArray) = b := ⟨_, rfl⟩
  rw [hb] at hbb
  have HBB := Lib.hid hbb; have HB := Lib.hid hb
  clear h hx hmany hc hm hbb hb
  go_enter Try.func4, Try.ntmps4
  go_wp2_with fail
  refine (dnew_any w).mono ?_
  rintro e w1 ⟨p, F1, rfl, hp1, ha1, hi1, b1⟩
  have ONE1 := Lib.hid (⟨hp1, hi1, ha1, b1⟩ : OneN w w1 F1 p [])
  clear hp1 ha1 hi1 b1
  go_wp2_with fail
  refine (place_any many 305 _ (by omega) (by omega) (bounds_i64 HMA.out)).mono ?_
  rintro e w2 ⟨rfl, rfl⟩
  obtain ⟨k, hk⟩ : ∃ k : Nat, many % 305 = (k : Int) := ⟨(many % 305).toNat, by have := Int.emod_nonneg many (show (305 : Int) ≠ 0 by decide); omega⟩
  have hk5 : k < 305 := by have := Int.emod_lt_of_pos many (show (0 : Int) < 305 by decide); omega
  rw [hk]
  clear hk
  go_wp2_with fail
  go_loopw [7] (fun i wr => ∃ (t : Nat) (F : Nat → Prop), 1 ≤ t ∧ t ≤ k + 1 ∧ i = .int .i64 (t : Nat) ∧ OneN w wr F p (roomS b (min (t - 1) 300))) (fun i _ => k + 1 - (intOf i).toNat)
  case atStart => exact ⟨1, F1, Nat.le_refl _, by omega, rfl, ONE1.out⟩
  case round =>
    obtain ⟨t, F, ht1, ht, rfl, h1⟩ := hrel
    have T1 := Lib.hid h1
    clear h1
    by_cases hlt : t ≤ k
    · have i1 : decide ((t : Int) ≤ (k : Int)) = true := decide_eq_true (by omega)
      have i1' : decide (t ≤ k) = true := decide_eq_true hlt
      have ht5 : t ≤ 304 := by omega
      obtain ⟨u, hu⟩ : ∃ u, decide (t ≤ 300) = u := ⟨_, rfl⟩
      have e3 : decide ((t : Int) ≤ 300) = u := by rw [← hu]; exact decide_eq_decide.2 (by omega)
      have e9 : (u != u) = false := by simp
      have htt : t - 1 + 1 = t := by omega
      have hfit := room_fits HBB.out (t - 1) (by omega)
      have hadd := room_add HBB.out (t - 1) (by omega)
      rw [htt, hu] at hfit hadd
      have HFIT := Lib.hid hfit; have HADD := Lib.hid hadd
      have HWF := Lib.hid (show (Lit.int .i64 (t : Int)).wf = true from WalkArith.wf_i64 ⟨by omega, by omega⟩)
      obtain ⟨U, hU, hbx, hrd, bU⟩ := two_boxes wr (t : Int) b
      have TU := Lib.hid (T1.out.read bU)
      have XU := Lib.hid hbx; have RU := Lib.hid hrd
      have HNK := Lib.hid (show NOk (roomS b (min (t - 1) 300)) from roomS_ok HBB.out (t - 1) (by omega))
      have HL1 := Lib.hid (show ∀ x ∈ [((t : Int), b)], (Lit.int .i64 x.1).wf = true ∧ x.2.size ≤ maxLen from fun x hx => by rw [List.mem_singleton.1 hx]; exact ⟨HWF.out, by have := HBB.out; show b.size ≤ maxLen; unfold maxLen; omega⟩)
      clear hu hfit hadd hbx hrd bU htt
      go_wp2_with fail
      rw [HB.out, ← hU]
      clear hU
      refine (dfits_any F p _ _ none 1 1 0 0 U.heap.size [((t : Int), b)] [] U TU.out.s HNK.out RU.out (RdI.none U _) (Nat.le_refl _) HL1.out (fun x hx => (by cases hx)) (by omega) (by omega)).mono ?_
      rintro e w4 ⟨rfl, b4⟩
      rw [HFIT.out]
      have T4 := Lib.hid (TU.out.read b4)
      have hx4 := (b4.block _ (Array.getElem?_eq_some_iff.1 XU.out).1).trans XU.out
      have c0 := cell_at (i := 0) hx4 rfl
      have c1 := cell_at (i := 1) hx4 rfl
      clear b4 hx4
      go_wp2_with fail
      refine (dadd_any F p _ (t : Int) b w4 T4.out.s T4.out.sin HNK.out HWF.out (by have := HBB.out; unfold maxLen; omega)).mono ?_
      rintro e w5 ⟨rfl, h5, st5⟩
      rw [HADD.out] at h5 ⊢
      dsimp only at h5 ⊢
      have T5 := Lib.hid (T4.out.turn h5 st5)
      clear h5 st5 c0 c1
      go_wp2
      go_roundw
      case rel => exact ⟨t + 1, F, by omega, by omega, by go_num, by rw [Nat.add_sub_cancel]; exact T5.out⟩
      case measure => simp [intOf]; omega
    · have i1 : decide ((t : Int) ≤ (k : Int)) = false := decide_eq_false (by omega)
      have i1' : decide (t ≤ k) = false := decide_eq_false hlt
      have htk : t - 1 = k := by omega
      have T2 := T1.out
      rw [htk] at T2
      have HT2 := Lib.hid T2
      have HNK := Lib.hid (show NOk (roomS b (min k 300)) from roomS_ok HBB.out k (by omega))
      have HLW := Lib.hid (show Low (roomS b (min k 300)) from Low.room b (by omega))
      obtain ⟨V, hV⟩ : ∃ V, V = wr := ⟨_, rfl⟩
      subst hV
      clear T1 T2
      go_upto_block 2 with fail
      go_cut [10] from 42 to 61 (fun gv wx => ∃ wy, wx = wy ∧ ∃ (g : Nat) (F' : Nat → Prop) (S : Fl), gv = .int .i64 (g : Nat) ∧ OneN w wy F' p S ∧ NOk S ∧ Low S ∧ S.length + g = min k 300)
      case first =>
        go_wp2_with fail
        go_loopw [10, 11] (fun gv iv wr => ∃ (t g : Nat) (F : Nat → Prop) (S : Fl), t ≤ n ∧ g ≤ t ∧ gv = .int .i64 (g : Nat) ∧ iv = .int .i64 (t : Nat) ∧ OneN w wr F p S ∧ NOk S ∧ Low S ∧ S.length + g = min k 300) (fun _ iv _ => n - (intOf iv).toNat)
        case atStart => exact ⟨0, 0, F, _, Nat.zero_le _, Nat.le_refl _, rfl, rfl, HT2.out, HNK.out, HLW.out, by rw [roomS_length]; rfl⟩
        case round =>
          obtain ⟨t, g, F, S, ht, hg, rfl, rfl, h1, hk1, hl1, hs1⟩ := hrel
          have T1 := Lib.hid h1; have K1 := Lib.hid hk1; have L1 := Lib.hid hl1
          clear h1 hk1 hl1
          have hg3 : g ≤ 300 := by omega
          by_cases hlt2 : t < n ∧ t < 20
          · obtain ⟨hlt2, h20⟩ := hlt2
            have i1 : (t : Int) < n := by omega
            have i0 : (0 : Int) ≤ t := by omega
            have i6 : (t : Int) < 20 := by omega
            have htl : t < L.length := by rw [HLEN.out]; exact hlt2
            have hq := HH.out.below T1.out.below
            obtain ⟨g0, o0, rfl, hg0, hcs⟩ := hq.2 (by omega)
            have z0 := hcs t htl
            have hwx := HX.out L[t] (List.getElem_mem htl)
            obtain ⟨x, hx⟩ : ∃ x, L[t] = x := ⟨_, rfl⟩
            rw [hx] at z0 hwx
            have HWX := Lib.hid hwx
            clear hq hcs hwx hx hg0 htl
            go_wp2_with fail
            refine (place_any x 300 _ (by omega) (by omega) (bounds_i64 HWX.out)).mono ?_
            rintro e w6 ⟨rfl, rfl⟩
            have hr0 := Int.emod_nonneg x (show (300 : Int) ≠ 0 by decide)
            have hr1 := Int.emod_lt_of_pos x (show (0 : Int) < 300 by decide)
            obtain ⟨r, hr⟩ : ∃ r, x % 300 = r := ⟨_, rfl⟩
            rw [hr] at hr0 hr1
            rw [hr]
            have hw1 : IntKind.i64.wrap (1 + r) = 1 + r := by rw [IntKind.wrap_i64]; omega
            clear hr z0
            obtain ⟨y, hy⟩ : ∃ y, 1 + r = y := ⟨_, rfl⟩
            rw [hy] at hw1
            have HWY := Lib.hid (show (Lit.int .i64 y).wf = true from WalkArith.wf_i64 ⟨by omega, by omega⟩)
            obtain ⟨u, hu⟩ : ∃ u, hasF S y = u := ⟨_, rfl⟩
            have hdl := delF_length K1.out.up y
            rw [hu] at hdl
            have HU := Lib.hid hu
            clear hu
            go_wp2_with fail
            try rw [hy]
            try rw [hw1]
            refine (ddrop_any F p S y _ T1.out.s T1.out.sin HWY.out).mono ?_
            rintro e w7 ⟨rfl, h7, st7⟩
            rw [HU.out]
            have T7 := Lib.hid (T1.out.turn h7 st7)
            have K7 := Lib.hid (K1.out.del y); have L7 := Lib.hid (L1.out.del y)
            clear h7 st7 hr0 hr1 hy hw1
            cases u with
            | true =>
              have hdl' : (delF S y).length + 1 = S.length := by simpa using hdl
              clear hdl
              go_wp2
              go_roundw
              case rel => exact ⟨t + 1, g + 1, F, _, by omega, by omega, by go_num, by go_num, T7.out, K7.out, L7.out, by omega⟩
              case measure => simp [intOf]; omega
            | false =>
              have hdl' : (delF S y).length = S.length := by simpa using hdl
              clear hdl
              go_wp2
              go_roundw
              case rel => exact ⟨t + 1, g, F, _, by omega, by omega, rfl, by go_num, T7.out, K7.out, L7.out, by omega⟩
              case measure => simp [intOf]; omega
          · by_cases k1 : t < n
            · have h2 : ¬ t < 20 := fun h => hlt2 ⟨k1, h⟩
              have i1 : decide ((t : Int) < (n : Int)) = true := decide_eq_true (by omega)
              have i2 : decide ((t : Int) < 20) = false := decide_eq_false (by omega)
              have i3 : decide (t < n) = true := decide_eq_true k1
              have i4 : decide (t < 20) = false := decide_eq_false h2
              clear hlt2 k1 h2 ht
              go_wp2
              go_meet
              exact ⟨wr, rfl, g, F, S, rfl, T1.out, K1.out, L1.out, hs1⟩
            · have i1 : decide ((t : Int) < (n : Int)) = false := decide_eq_false (by omega)
              have i3 : decide (t < n) = false := decide_eq_false k1
              clear hlt2 k1 ht
              go_wp2
              go_meet
              exact ⟨wr, rfl, g, F, S, rfl, T1.out, K1.out, L1.out, hs1⟩
      case rest =>
        obtain ⟨wy, rfl, g, F', S, rfl, h1, hk1, hl1, hs1⟩ := hcut
        have T1 := Lib.hid h1; have K1 := Lib.hid hk1; have L1 := Lib.hid hl1
        have hS3 : S.length ≤ 300 := hk1.len
        have HUP := Lib.hid hk1.up
        clear h1 hk1 hl1 HT2 HNK HLW
        go_wp2_with fail
        refine (dall_any F' p S _ T1.out.s K1.out).mono ?_
        rintro e w8 ⟨Al, m, cl, rfl, hrd, hmc, b8⟩
        have T8 := Lib.hid (T1.out.read b8)
        obtain ⟨hml, hat⟩ := hrd
        subst hml
        have HAT := Lib.hid hat
        have hfit := L1.out.fits (b := ⟨#[]⟩) (by decide)
        obtain ⟨m, hm⟩ : ∃ m, S.length = m := ⟨_, rfl⟩
        rw [hm] at hS3 hs1 hfit hmc HAT
        have HM := Lib.hid hm
        have HFIT := Lib.hid hfit
        rw [hm]
        clear hat b8 hfit hm hmc
        go_wp2_with fail
        go_loopw [13] (fun iv wr => ∃ (t : Nat), 1 ≤ t ∧ iv = .int .i64 (t : Nat) ∧ wr.heap = w8.heap ∧ Below w8.heap.size w8 wr) (fun iv _ => m - (intOf iv).toNat)
        case atStart => exact ⟨1, Nat.le_refl _, rfl, rfl, Below.refl _ _⟩
        case round =>
          obtain ⟨t, ht1, rfl, hhp, hbw⟩ := hrel
          have HHP := Lib.hid hhp; have HBW := Lib.hid hbw
          clear hhp hbw
          by_cases hlt3 : t < m
          · obtain ⟨t1, ht1e⟩ : ∃ t1, t = t1 + 1 := ⟨t - 1, by omega⟩
            have i1 : (t : Int) < m := by omega
            have i0 : (0 : Int) ≤ t := by omega
            have j1 : (t1 : Int) < m := by omega
            have j0 : (0 : Int) ≤ t1 := by omega
            have hw1 : IntKind.i64.wrap ((t : Int) - 1) = (t1 : Int) := by rw [IntKind.wrap_i64]; omega
            obtain ⟨g0, o0, rfl, hg0, hcs⟩ := HAT.out (by omega)
            have htl : t < S.length := by rw [HM.out]; exact hlt3
            have htl1 : t1 < S.length := by rw [HM.out]; omega
            have z0 := hcs _ _ (tRow_get0 S t htl)
            have z1 := hcs _ _ (tRow_get0 S t1 htl1)
            have hup := List.pairwise_iff_getElem.1 HUP.out t1 t htl1 htl (by omega)
            obtain ⟨x0, hx0⟩ : ∃ x, S[t].1 = x := ⟨_, rfl⟩
            obtain ⟨x1, hx1⟩ : ∃ x, S[t1].1 = x := ⟨_, rfl⟩
            rw [hx0] at z0 hup
            rw [hx1] at z1 hup
            have z0' : wr.cell? ⟨g0, o0 + t * 2, none⟩ = some (.int .i64 x0) := by rw [← z0]; unfold World.cell?; rw [HHP.out]
            have z1' : wr.cell? ⟨g0, o0 + t1 * 2, none⟩ = some (.int .i64 x1) := by rw [← z1]; unfold World.cell?; rw [HHP.out]
            have hd : decide (x0 ≤ x1) = false := decide_eq_false (by omega)
            clear hcs z0 z1 hup hx0 hx1 htl htl1 ht1e hg0
            go_wp2_with fail
            go_quiet (fail)
            go_wp2
            go_roundw
            case rel => exact ⟨t + 1, by omega, by go_num, HHP.out, below_drewN HBW.out _⟩
            case measure => simp [intOf]; omega
          · have i1 : decide ((t : Int) < (m : Int)) = false := decide_eq_false (by omega)
            have i1' : decide (t < m) = false := decide_eq_false hlt3
            have hT8 : OneN w wr F' p S := T8.out.read HBW.out
            have TW := Lib.hid hT8
            obtain ⟨U, hU, hbx, hrd, bU⟩ := one_box wr 1000 ⟨#[]⟩
            have TU := Lib.hid (TW.out.read bU); have RU := Lib.hid hrd
            have HL2 := Lib.hid (show ∀ x ∈ [((1000 : Int), (⟨#[]⟩ : ByteArray))], (Lit.int .i64 x.1).wf = true ∧ x.2.size ≤ maxLen from fun x hx => by rw [List.mem_singleton.1 hx]; exact ⟨by decide, by decide⟩)
            have hmin : min (k : Int) 300 - (g : Int) = (m : Int) := by omega
            have hmw : IntKind.i64.wrap (min (k : Int) 300 - (g : Int)) = (m : Int) := by rw [IntKind.wrap_i64]; omega
            obtain ⟨u, hu⟩ : ∃ u, decide (m < 300) = u := ⟨_, rfl⟩
            have e3 : decide ((m : Int) < 300) = u := by rw [← hu]; exact decide_eq_decide.2 (by omega)
            have e9 : (u == u) = true := by simp
            have HFU := Lib.hid (show fitN (dropsN S []) [(1000, (⟨#[]⟩ : ByteArray))] = u by rw [HFIT.out, hu])
            clear hu hT8 hbx hrd bU
            go_wp2_with fail
            try rw [← hU]
            clear hU
            refine (dfits_any F' p S _ none 1 1 0 0 U.heap.size [(1000, (⟨#[]⟩ : ByteArray))] [] U TU.out.s K1.out RU.out (RdI.none U _) (Nat.le_refl _) HL2.out (fun x hx => (by cases hx)) (by omega) (by omega)).mono ?_
            rintro e w9 ⟨rfl, b9⟩
            rw [HFU.out]
            have T9 := Lib.hid (TU.out.read b9)
            clear b9
            go_wp2_with fail
            refine (awake11z _).mono ?_
            rintro e w10 ⟨rfl, b10⟩
            have B10 := Lib.hid (T9.out.below.trans (b10.mono T9.out.below.size))
            clear b10
            go_wp2
            go_ret
            exact ⟨rfl, B10.out⟩
end Go.Proofs.Ytfldlkdnjkaidaa
