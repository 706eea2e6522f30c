/-
  The developers' Stamp of a partition.
-/
import Derived.Test.YtafbbojfifcncaaPd3
set_option linter.unusedVariables false
set_option linter.unusedSimpArgs false
namespace Go.Proofs.Ytafbbojfifcncaa
open Go Go.RowKit

/-- The greatest stamp. -/
def stampC (m : Int) (l : Cols) : Int := l.foldl (fun m c => max m c.2.a) m
def stampR (m : Int) (l : List Ro) : Int := l.foldl (fun m r => stampC (max (max (max m r.live.a) r.gone) r.shade) r.cols) m
theorem stampC_snoc (m : Int) (l : Cols) (x : ByteArray × Ce) : stampC m (l ++ [x]) = max (stampC m l) x.2.a := by
  unfold stampC
  rw [List.foldl_append]
  rfl
theorem stampR_snoc (m : Int) (l : List Ro) (r : Ro) : stampR m (l ++ [r]) = stampC (max (max (max (stampR m l) r.live.a) r.gone) r.shade) r.cols := by
  unfold stampR
  rw [List.foldl_append]
  rfl
theorem run_max4 (w : World) (a b c d : Int) : (Builtin.max_ #[3, 3, 3, 3] 3 #[.int .i64 a, .int .i64 b, .int .i64 c, .int .i64 d]).run Try.prog w = .ok (.int .i64 (max (max (max a b) c) d)) w := by
  simp [Builtin.max_, Builtin.max2, List.foldlM]
  omega
set_option maxRecDepth 8000 in
set_option maxHeartbeats 8000000 in
theorem pstampall_any (k : ByteArray) (g : Int) (A : Option Addr) (n c B : Nat) (L : List RA) (w : World) (h : Lies w B A n c L) (hB : B ≤ w.heap.size) (hn : n ≤ 1000000) (hf : ∀ x ∈ L, x.ro.cols.length ≤ 1000) :
    Calls Try.prog 23 #[.agg #[.string k, .int .i64 g, .slice A n c]] w fun e w' => e = .returned (.int .i64 (stampR g (ros L))) ∧ Below w.heap.size w w' := by
  have hl := h.len
  have bz := (Below.refl w.heap.size w).alloc (Nat.le_refl _) (.cells #[.string k, .int .i64 g, .slice A n c] 24)
  have hz0 := heap_alloc_new w (.cells #[.string k, .int .i64 g, .slice A n c] 24)
  obtain ⟨V, hV⟩ : ∃ V, V = w.alloc (.cells #[.string k, .int .i64 g, .slice A n c] 24) := ⟨_, rfl⟩
  have hVs : V.heap.size = w.heap.size + 1 := by rw [hV]; simp
  rw [← hV] at bz hz0
  have HL := Lib.hid hl; have HH := Lib.hid h; have HF := Lib.hid hf; have BZ := Lib.hid bz; have HVS := Lib.hid hVs
  obtain ⟨_, _, _⟩ := PtAt.of hz0
  clear hl h hf bz hz0 hVs
  go_enter Try.func23, Try.ntmps23
  go_wp2_with fail
  rw [← hV]
  clear hV
  go_wp2_with fail
  go_loopw [13, 3] (fun i v wr => ∃ (t : Nat), t ≤ n ∧ i = .int .i64 t ∧ v = .int .i64 (stampR g (ros (L.take t))) ∧ Below w.heap.size w wr) (fun i _ _ => n - (intOf i).toNat)
  case atStart => exact ⟨0, Nat.zero_le _, rfl, rfl, BZ.out⟩
  case round =>
    obtain ⟨t, ht, rfl, rfl, hb⟩ := hrel
    have HB := Lib.hid hb
    clear hb
    obtain ⟨s, hs⟩ : ∃ s, stampR g (ros (L.take t)) = s := ⟨_, rfl⟩
    rw [hs]
    have HS := Lib.hid hs
    clear hs
    by_cases hlt : t < n
    · have i1 : (t : Int) < n := by omega
      have i0 : (0 : Int) ≤ t := by omega
      have htl : t < L.length := by rw [HL.out]; exact hlt
      obtain ⟨g0, o0, rfl, hgb⟩ := HH.out.rd.ex (by omega)
      have hlies := HH.out.below (HB.out.mono hB)
      have hrow := hlies.rd.row htl
      have hin := hlies.held L[t] (List.getElem_mem htl)
      have hcl := HF.out L[t] (List.getElem_mem htl)
      have htk := ros_take htl
      obtain ⟨x, hx⟩ : ∃ x, L[t] = x := ⟨_, rfl⟩
      rw [hx] at hrow hin hcl htk
      have ha := (Below.refl wr.heap.size wr).alloc (Nat.le_refl _) (.cells #[.string x.ro.key, .string x.ro.live.s, .bool x.ro.live.d, .int .i64 x.ro.live.a, .int .i64 x.ro.live.e, .int .i64 x.ro.gone, .int .i64 x.ro.shade, .slice x.A x.ro.cols.length x.c] 36)
      have hin2 := hin.below (ha.mono (by have := HB.out.size; omega))
      have hbk := BlkAt.of (heap_alloc_new wr (.cells #[.string x.ro.key, .string x.ro.live.s, .bool x.ro.live.d, .int .i64 x.ro.live.a, .int .i64 x.ro.live.e, .int .i64 x.ro.gone, .int .i64 x.ro.shade, .slice x.A x.ro.cols.length x.c] 36))
      have hbu := HB.out.trans (ha.mono HB.out.size)
      obtain ⟨_, _, _, _, _, _, _, hr7⟩ := hrow
      obtain ⟨U, hU⟩ : ∃ U, U = wr.alloc (.cells #[.string x.ro.key, .string x.ro.live.s, .bool x.ro.live.d, .int .i64 x.ro.live.a, .int .i64 x.ro.live.e, .int .i64 x.ro.gone, .int .i64 x.ro.shade, .slice x.A x.ro.cols.length x.c] 36) := ⟨_, rfl⟩
      rw [← hU] at hin2 hbk hbu
      obtain ⟨q, hq⟩ : ∃ q, x.ro.cols.length = q := ⟨_, rfl⟩
      obtain ⟨Ax, hAx⟩ : ∃ Ax, x.A = Ax := ⟨_, rfl⟩
      have hrd := hin2.rd
      rw [hq] at hcl
      rw [hq, hAx] at hrd hU
      obtain ⟨_, _, _, _, _, _, _, hb7⟩ := hbk
      rw [hq, hAx] at hb7 hr7
      have hmx := fun wx : World => run_max4 wx s x.ro.live.a x.ro.gone x.ro.shade
      have HUB := Lib.hid (show B ≤ U.heap.size by have := hbu.size; omega)
      have HTK := Lib.hid htk; have HBU := Lib.hid hbu; have HRD := Lib.hid hrd; have HQ := Lib.hid hq
      clear hlies hin htk hx ha hin2 hbu hrd hq hAx
      obtain ⟨z, hz⟩ : ∃ z, max (max (max s x.ro.live.a) x.ro.gone) x.ro.shade = z := ⟨_, rfl⟩
      simp only [hz] at hmx
      have HZ := Lib.hid hz
      clear hz
      go_wp2_with fail
      rw [← hU]
      clear hU hmx
      go_loopw [29, 3] (fun i v wi => ∃ (u : Nat), u ≤ q ∧ i = .int .i64 u ∧ v = .int .i64 (stampC z (x.ro.cols.take u)) ∧ Below U.heap.size U wi) (fun i _ _ => q - (intOf i).toNat)
      case atStart => exact ⟨0, Nat.zero_le _, rfl, rfl, Below.refl _ _⟩
      case round =>
        obtain ⟨u, hu, rfl, rfl, hb2⟩ := hrel
        have HB2 := Lib.hid hb2
        clear hb2
        obtain ⟨y, hy⟩ : ∃ y, stampC z (x.ro.cols.take u) = y := ⟨_, rfl⟩
        rw [hy]
        have HY := Lib.hid hy
        clear hy
        by_cases hlu : u < q
        · have i3 : (u : Int) < q := by omega
          have i4 : (0 : Int) ≤ u := by omega
          have hul : u < x.ro.cols.length := by rw [HQ.out]; exact hlu
          obtain ⟨g1, o1, rfl, hgb1, hc⟩ := (HRD.out.below (HB2.out.mono HUB.out)).2 (by omega)
          obtain ⟨e0, e1, e2, e3, e4⟩ := hc u hul
          have htk2 : x.ro.cols.take (u + 1) = x.ro.cols.take u ++ [x.ro.cols[u]] := List.take_succ_eq_append_getElem hul
          obtain ⟨⟨cm, ⟨cs, cd, ca, ce⟩⟩, hcx⟩ : ∃ y, x.ro.cols[u] = y := ⟨_, rfl⟩
          rw [hcx] at e0 e1 e2 e3 e4 htk2
          simp only at e0 e1 e2 e3 e4
          have hac := HB2.out.alloc HB2.out.size (.cells #[.string cm, .string cs, .bool cd, .int .i64 ca, .int .i64 ce] 66)
          have HAC := Lib.hid hac; have HT2 := Lib.hid htk2
          clear hc hcx hac htk2
          go_wp2
          go_roundw
          case rel => exact ⟨u + 1, by omega, by go_num, by rw [HT2.out, stampC_snoc, HY.out], HAC.out⟩
          case measure => simp [intOf]; omega
        · obtain rfl : u = q := by omega
          have hv : y = stampR g (ros (L.take (t + 1))) := by rw [HTK.out, stampR_snoc, HS.out, HZ.out, ← HY.out, List.take_of_length_le (by rw [HQ.out]; exact Nat.le_refl _)]
          have HV := Lib.hid hv
          clear hv
          have hb3 := HBU.out.trans (HB2.out.mono HBU.out.size)
          have HB3 := Lib.hid hb3
          clear hb3
          go_wp2
          go_roundw
          case rel => exact ⟨t + 1, by omega, by go_num, by rw [HV.out], HB3.out⟩
          case measure => simp [intOf]; omega
    · obtain rfl : t = n := by omega
      have hv : stampR g (ros L) = s := by rw [← HS.out, List.take_of_length_le (by rw [HL.out]; exact Nat.le_refl _)]
      have HV := Lib.hid hv
      clear hv
      go_wp2
      go_ret
      refine ⟨?_, HB.out⟩
      rw [HV.out]
      rfl
end Go.Proofs.Ytafbbojfifcncaa
