/-
  The document's own notes (chapter 11): Fits.
-/
import Derived.Test.YtfldlkdnjkaidaaNt3
set_option linter.unusedVariables false
set_option linter.unusedSimpArgs false
namespace Go.Proofs.Ytfldlkdnjkaidaa
open Go Go.RowKit

/-- Whole numbers in a slice. -/
def RdI (w : World) (B : Nat) (A : Option Addr) (n : Nat) (l : List Int) : Prop := l.length = n ∧ (0 < n → ∃ g o, A = some ⟨g, o, none⟩ ∧ g < B ∧ ∀ j (hj : j < l.length), w.cell? ⟨g, o + j, none⟩ = some (.int .i64 l[j]))
theorem RdI.below' {w w' : World} {B n : Nat} {A : Option Addr} {l : List Int} (h : RdI w B A n l) (hb : Below B w w') : RdI w' B A n l :=
  ⟨h.1, fun hn => by
    obtain ⟨g, o, e, hg, hc⟩ := h.2 hn
    exact ⟨g, o, e, hg, fun j hj => (hb.cell (p := ⟨g, o + j, none⟩) hg).trans (hc j hj)⟩⟩
theorem dropsN_take (S : Fl) (D : List Int) {t : Nat} (h : t < D.length) : dropsN S (D.take (t + 1)) = delF (dropsN S (D.take t)) D[t] := by
  unfold dropsN
  rw [List.take_succ_eq_append_getElem h, List.foldl_append]
  rfl
set_option maxRecDepth 8000 in
set_option maxHeartbeats 4000000 in
theorem nfits_any (F : Nat → Prop) (q : Nat) (S : Fl) (Aa Ad : Option Addr) (na ca nd cd B : Nat) (L : Fl) (D : List Int) (w : World) (h : NtIs w F q S) (ha : RdT w B Aa na L) (hd : RdI w B Ad nd D) (hB : B ≤ w.heap.size)
    (hwa : ∀ x ∈ L, (Lit.int .i64 x.1).wf = true ∧ x.2.size ≤ maxLen) (hwd : ∀ x ∈ D, (Lit.int .i64 x).wf = true) (hna : na ≤ 1000) (hnd : nd ≤ 1000) :
    Calls Try.prog 12 #[.pointer (some ⟨q, 0, none⟩), .slice Aa na ca, .slice Ad nd cd] w fun e w' => e = .returned (.bool (fitN (dropsN S D) L)) ∧ Below w.heap.size w w' := by
  obtain ⟨v, h⟩ := h
  obtain ⟨A, c, rfl, hnc, hcc, hA⟩ := own_slice h.2.1
  obtain ⟨m, hm⟩ : ∃ m, S.length = m := ⟨_, rfl⟩
  have hb0 := h.1
  rw [hm] at hb0
  have c0 := cell_at (i := 0) hb0 rfl
  have r1 := RdT.of_own h.2.1
  rw [hm] at r1
  have hm3 : m ≤ 300 := by rw [← hm]; exact h.ok.len
  have HOK := Lib.hid h.ok; have HR1 := Lib.hid r1; have HM := Lib.hid hm; have HA := Lib.hid ha; have HD := Lib.hid hd; have HB := Lib.hid hB; have HWA := Lib.hid hwa; have HWD := Lib.hid hwd
  have HLA := Lib.hid ha.1; have HLD := Lib.hid hd.1
  obtain ⟨R, hR⟩ : ∃ R, fitN (dropsN S D) L = R := ⟨_, rfl⟩
  rw [hR]
  have HRR := Lib.hid hR
  clear h hb0 r1 hm ha hd hB hwa hwd hnc hA hR
  go_enter Try.func12, Try.ntmps12
  go_wp2_with (at_builtin; refine list_ex rfl (.const (.slice none 0 0)) (.tmp 13) _ _ rfl (.slice none 0 0) (.slice A m c) rfl rfl (run_appT0 w.heap.size HR1.out ?s1 (Nat.le_refl _)) ?_)
  case s1 => omega
  intro v2 w2 ho2 hg2
  obtain ⟨A2, k2, rfl, _⟩ := own_slice ho2
  have b2 : Below w.heap.size w w2 := (Below.refl w.heap.size w).grown hg2 (Nat.le_refl _) (fun j hj => by cases hj)
  have ba := (Below.refl w2.heap.size w2).alloc (Nat.le_refl _) (.cells #[.slice A2 m k2] 28)
  have hx := heap_alloc_new w2 (.cells #[.slice A2 m k2] 28)
  have hown := own_below ho2 ba
  obtain ⟨V, hV⟩ : ∃ V, V = w2.alloc (.cells #[.slice A2 m k2] 28) := ⟨_, rfl⟩
  rw [← hV] at ba hx hown
  have hlt := own_block_lt hown
  have hN : NtIs V (fun k => w.heap.size ≤ k ∧ k < V.heap.size) w2.heap.size S := ⟨_, hx, by rw [HM.out]; exact own_down hown (Nat.zero_le _), ⟨b2.size, (Array.getElem?_eq_some_iff.1 hx).1⟩, fun g hg => ⟨(hown.lt g hg).1, hlt g hg⟩, HOK.out⟩
  have HN := Lib.hid hN
  have HBV := Lib.hid (b2.trans (ba.mono b2.size))
  clear ho2 hg2 b2 ba hx hown hlt hN c0
  go_wp2_with fail
  rw [← hV]
  clear hV
  try go_wp2_with fail
  go_loopw [8] (fun i wr => ∃ (t : Nat) (F' : Nat → Prop), t ≤ nd ∧ i = .int .i64 t ∧ NtIs wr F' w2.heap.size (dropsN S (D.take t)) ∧ (∀ k, F' k → w.heap.size ≤ k) ∧ Below w.heap.size w wr) (fun i _ => nd - (intOf i).toNat)
  case atStart => exact ⟨0, _, Nat.zero_le _, rfl, HN.out, fun k hk => hk.1, HBV.out⟩
  case round =>
    obtain ⟨t, F', ht, rfl, hn, hf, hb⟩ := hrel
    have H1 := Lib.hid hn; have HF := Lib.hid hf; have HBW := Lib.hid hb
    clear hn hf hb
    by_cases hlt : t < nd
    · have i1 : (t : Int) < nd := by omega
      have i0 : (0 : Int) ≤ t := by omega
      have htl : t < D.length := by rw [HLD.out]; exact hlt
      have hq := HD.out.below' (HBW.out.mono HB.out)
      obtain ⟨g0, o0, rfl, hg0, hcs⟩ := hq.2 (by omega)
      have z0 := hcs t htl
      have hwx := HWD.out D[t] (List.getElem_mem htl)
      have htk := dropsN_take S D htl
      obtain ⟨x, hx⟩ : ∃ x, D[t] = x := ⟨_, rfl⟩
      rw [hx] at z0 hwx htk
      have HWX := Lib.hid hwx; have HTK := Lib.hid htk
      clear hq hcs hwx htk hx hg0 htl
      go_wp2_with fail
      refine (ndrop_any F' w2.heap.size _ x wr H1.out HWX.out).mono ?_
      rintro e w4 ⟨rfl, F'', h4, st4⟩
      have HR : Hid (NtIs w4 F'' w2.heap.size (dropsN S (D.take (t + 1)))) := Lib.hid (by rw [HTK.out]; exact h4)
      have HF4 := Lib.hid (st4.above HF.out HBW.out.size)
      have HB4 := Lib.hid (HBW.out.trans (st4.below HF.out HBW.out.size))
      clear h4 st4 z0
      go_wp2
      go_roundw
      case rel => exact ⟨t + 1, F'', by omega, by go_num, HR.out, HF4.out, HB4.out⟩
      case measure => simp [intOf]; omega
    · obtain rfl : t = nd := by omega
      have j1 : decide ((t : Int) < (t : Int)) = false := decide_eq_false (by omega)
      have h2 := H1.out
      rw [List.take_of_length_le (by rw [HLD.out]; exact Nat.le_refl _)] at h2
      have H2 := Lib.hid h2
      clear h2 H1
      go_wp2_with fail
      go_loopw [9] (fun i wr2 => ∃ (k : Nat) (F2 : Nat → Prop) (S2 : Fl), k ≤ na ∧ i = .int .i64 k ∧ NtIs wr2 F2 w2.heap.size S2 ∧ fitN S2 (L.drop k) = R ∧ (∀ k, F2 k → w.heap.size ≤ k) ∧ Below w.heap.size w wr2) (fun i _ => na - (intOf i).toNat)
      case atStart => exact ⟨0, F', _, Nat.zero_le _, rfl, H2.out, by rw [List.drop_zero]; exact HRR.out, HF.out, HBW.out⟩
      case round =>
        obtain ⟨k, F2, S2, hk, rfl, hn2, hr2, hf2, hb2⟩ := hrel
        have H3 := Lib.hid hn2; have HR2 := Lib.hid hr2; have HF2 := Lib.hid hf2; have HB2 := Lib.hid hb2
        clear hn2 hr2 hf2 hb2
        by_cases hlt2 : k < na
        · have i1 : (k : Int) < na := by omega
          have i0 : (0 : Int) ≤ k := by omega
          have hkl : k < L.length := by rw [HLA.out]; exact hlt2
          have hq := HA.out.below (HB2.out.mono HB.out)
          obtain ⟨g0, o0, rfl, hg0, hcs⟩ := hq.2 (by omega)
          have z0 := hcs _ _ (tRow_get0 L k hkl)
          have z1 := hcs _ _ (tRow_get1 L k hkl)
          have hwx := HWA.out L[k] (List.getElem_mem hkl)
          have hfk := HR2.out
          rw [List.drop_eq_getElem_cons hkl] at hfk
          obtain ⟨⟨xi, xs⟩, hx⟩ : ∃ x, L[k] = x := ⟨_, rfl⟩
          rw [hx] at z0 z1 hwx hfk
          rw [← Nat.add_assoc] at z1
          dsimp only at z0 z1 hwx
          unfold fitN at hfk
          dsimp only at hfk
          obtain ⟨u, hu⟩ : ∃ u, (addN S2 xi xs).2 = u := ⟨_, rfl⟩
          rw [hu] at hfk
          have HWX := Lib.hid hwx; have HFK := Lib.hid hfk; have HU := Lib.hid hu
          clear hq hcs hwx hfk hx hg0 hkl hu
          go_wp2_with fail
          refine (nadd_any F2 w2.heap.size S2 xi xs _ H3.out HWX.out.1 HWX.out.2).mono ?_
          rintro e w4 ⟨rfl, F3, h4, st4⟩
          rw [HU.out]
          have H4 := Lib.hid h4
          have HF4 := Lib.hid (st4.above HF2.out HB2.out.size)
          have HB4 := Lib.hid (HB2.out.trans (st4.below HF2.out HB2.out.size))
          clear h4 st4 z0 z1
          cases u with
          | false =>
            have hrf : R = false := by rw [← HFK.out]; rfl
            subst hrf
            go_wp2
            go_ret
            exact ⟨rfl, HB4.out⟩
          | true =>
            have HR5 : Hid (fitN (addN S2 xi xs).1 (L.drop (k + 1)) = R) := Lib.hid (by rw [← HFK.out]; rfl)
            go_wp2
            go_roundw
            case rel => exact ⟨k + 1, F3, _, by omega, by go_num, H4.out, HR5.out, HF4.out, HB4.out⟩
            case measure => simp [intOf]; omega
        · obtain rfl : k = na := by omega
          have j2 : decide ((k : Int) < (k : Int)) = false := decide_eq_false (by omega)
          have hrt := HR2.out
          rw [List.drop_of_length_le (by rw [HLA.out]; exact Nat.le_refl _)] at hrt
          have hrt2 : R = true := by rw [← hrt]; rfl
          subst hrt2
          clear hrt
          go_wp2
          go_ret
          exact ⟨rfl, HB2.out⟩
end Go.Proofs.Ytfldlkdnjkaidaa
