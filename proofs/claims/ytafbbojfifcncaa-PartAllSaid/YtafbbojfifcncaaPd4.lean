/-
  The developers' Row of a partition; Copy.
-/
import Derived.Test.YtafbbojfifcncaaPd3
import Derived.Test.YtafbbojfifcncaaPk
import Derived.Test.YtafbbojfifcncaaPc2
set_option linter.unusedVariables false
set_option linter.unusedSimpArgs false
namespace Go.Proofs.Ytafbbojfifcncaa
open Go Go.RowKit

/-- The row of a key; whether there is one. -/
def rowOf (l : List Ro) (k : ByteArray) : Ro := (getK Ro.key l k).getD (Ro.bare k)
def rowIs (l : List Ro) (k : ByteArray) : Bool := (getK Ro.key l k).isSome
def bareA (k : ByteArray) : RA := ⟨Ro.bare k, none, 0⟩
set_option maxRecDepth 8000 in
set_option maxHeartbeats 4000000 in
theorem prow_any (k key : ByteArray) (g : Int) (A : Option Addr) (n c B : Nat) (L : List RA) (w : World) (h : Lies w B A n c L) (hB : B ≤ w.heap.size) (hn : n ≤ 1000000) (hf : ∀ x ∈ L, x.ro.cols.length ≤ 1000) :
    Calls Try.prog 18 #[.agg #[.string k, .int .i64 g, .slice A n c], .string key] w fun e w' => ∃ z : RA, e = .returned (.tuple #[z.v, .bool (rowIs (ros L) key)]) ∧ z.ro = rowOf (ros L) key ∧ Cur w w' (.slice z.A z.ro.cols.length z.c) z.ro.cols := by
  have hl := h.len
  have bz := ((Below.refl w.heap.size w).alloc (Nat.le_refl _) (.cells #[.string k, .int .i64 g, .slice A n c] 24)).alloc (by simp) (.cells #[.string ⟨#[]⟩, .string ⟨#[]⟩, .bool false, .int .i64 0, .int .i64 0, .int .i64 0, .int .i64 0, .slice none 0 0] 36)
  have hz0 := new_at (heap_alloc_new w (.cells #[.string k, .int .i64 g, .slice A n c] 24)) (.cells #[.string ⟨#[]⟩, .string ⟨#[]⟩, .bool false, .int .i64 0, .int .i64 0, .int .i64 0, .int .i64 0, .slice none 0 0] 36)
  have hz1 := heap_alloc_new (w.alloc (.cells #[.string k, .int .i64 g, .slice A n c] 24)) (.cells #[.string ⟨#[]⟩, .string ⟨#[]⟩, .bool false, .int .i64 0, .int .i64 0, .int .i64 0, .int .i64 0, .slice none 0 0] 36)
  simp only [World.size_alloc] at hz1
  obtain ⟨V, hV⟩ : ∃ V, V = (w.alloc (.cells #[.string k, .int .i64 g, .slice A n c] 24)).alloc (.cells #[.string ⟨#[]⟩, .string ⟨#[]⟩, .bool false, .int .i64 0, .int .i64 0, .int .i64 0, .int .i64 0, .slice none 0 0] 36) := ⟨_, rfl⟩
  have hVs : V.heap.size = w.heap.size + 2 := by rw [hV]; simp
  rw [← hV] at bz hz0 hz1
  have HL := Lib.hid hl; have HH := Lib.hid (h.below (bz.mono hB)); have HF := Lib.hid hf; have BZ := Lib.hid bz; have HZ0 := Lib.hid hz0; have HZ1 := Lib.hid hz1; have HVS := Lib.hid hVs
  obtain ⟨_, _, _⟩ := PtAt.of hz0
  clear hl h hf bz hz0 hz1 hVs
  go_enter Try.func18, Try.ntmps18
  go_wp2_with fail
  rw [← hV]
  clear hV
  go_wp2_with fail
  go_loopw [11] (fun i wr => ∃ t : Nat, t ≤ n ∧ i = .int .i64 t ∧ getK Ro.key (ros (L.drop t)) key = getK Ro.key (ros L) key ∧ Below V.heap.size V wr) (fun i _ => n - (intOf i).toNat)
  case atStart => exact ⟨0, Nat.zero_le _, rfl, rfl, Below.refl _ _⟩
  case round =>
    obtain ⟨t, ht, rfl, hg, hb⟩ := hrel
    have HG := Lib.hid hg; have HB := Lib.hid hb
    clear hg hb
    by_cases hlt : t < n
    · have i1 : (t : Int) < n := by omega
      have i0 : (0 : Int) ≤ t := by omega
      have htl : t < L.length := by rw [HL.out]; exact hlt
      obtain ⟨g0, o0, rfl, hgb⟩ := HH.out.rd.ex (by omega)
      have hlies := HH.out.below (HB.out.mono (by have := HVS.out; omega))
      have hrow := hlies.rd.row htl
      have hin := hlies.held L[t] (List.getElem_mem htl)
      have hcl := HF.out L[t] (List.getElem_mem htl)
      have hdr : ros (L.drop t) = L[t].ro :: ros (L.drop (t + 1)) := by rw [List.drop_eq_getElem_cons htl]; rfl
      obtain ⟨x, hx⟩ : ∃ x, L[t] = x := ⟨_, rfl⟩
      rw [hx] at hrow hin hcl hdr
      have hws := HB.out.size
      have ha := (Below.refl wr.heap.size wr).alloc (Nat.le_refl _) (.cells #[.string x.ro.key, .string x.ro.live.s, .bool x.ro.live.d, .int .i64 x.ro.live.a, .int .i64 x.ro.live.e, .int .i64 x.ro.gone, .int .i64 x.ro.shade, .slice x.A x.ro.cols.length x.c] 36)
      have hin2 := hin.below (ha.mono (by have := HVS.out; omega))
      have hbk := BlkAt.of (heap_alloc_new wr (.cells #[.string x.ro.key, .string x.ro.live.s, .bool x.ro.live.d, .int .i64 x.ro.live.a, .int .i64 x.ro.live.e, .int .i64 x.ro.gone, .int .i64 x.ro.shade, .slice x.A x.ro.cols.length x.c] 36))
      have hbu := HB.out.trans (ha.mono hws)
      obtain ⟨_, _, _, _, _, _, _, _⟩ := hrow
      obtain ⟨U, hU⟩ : ∃ U, U = wr.alloc (.cells #[.string x.ro.key, .string x.ro.live.s, .bool x.ro.live.d, .int .i64 x.ro.live.a, .int .i64 x.ro.live.e, .int .i64 x.ro.gone, .int .i64 x.ro.shade, .slice x.A x.ro.cols.length x.c] 36) := ⟨_, rfl⟩
      have hUs : U.heap.size = wr.heap.size + 1 := by rw [hU]; simp
      rw [← hU] at hin2 hbk hbu
      obtain ⟨_, _, _, _, _, _, _, _⟩ := hbk
      have HIN := Lib.hid hin2; have HBU := Lib.hid hbu; have HCL := Lib.hid hcl; have HDR := Lib.hid hdr; have HUS := Lib.hid hUs; have HWS := Lib.hid hws
      clear hlies hin hcl hdr hx ha hin2 hbu hUs hws
      by_cases hk : x.ro.key = key
      · have e1 : (x.ro.key.toList == key.toList) = true := (eqB_iff _ _).2 hk
        have HK := Lib.hid hk
        clear hk
        go_wp2_with fail
        rw [← hU]
        clear hU
        go_wp2_with fail
        refine (copyrow_ra x B _ HIN.out (by have := HUS.out; have := HWS.out; have := HVS.out; omega) HCL.out).mono ?_
        rintro e w1 ⟨z, rfl, hz, hcz⟩
        unfold RA.v Ro.val
        have hb1 := HBU.out.trans (hcz.below.mono HBU.out.size)
        have hq := (hb1.block (w.heap.size + 1) (by have := HVS.out; omega)).trans HZ1.out
        have z0 := cell_at (i := 0) hq rfl
        have z1 := cell_at (i := 1) hq rfl
        have z2 := cell_at (i := 2) hq rfl
        have z3 := cell_at (i := 3) hq rfl
        have z4 := cell_at (i := 4) hq rfl
        have z5 := cell_at (i := 5) hq rfl
        have z6 := cell_at (i := 6) hq rfl
        have z7 := cell_at (i := 7) hq rfl
        have y0 := thawed_at (i := 0) hq
        have y1 := thawed_at (i := 1) hq
        have y2 := thawed_at (i := 2) hq
        have y3 := thawed_at (i := 3) hq
        have y4 := thawed_at (i := 4) hq
        have y5 := thawed_at (i := 5) hq
        have y6 := thawed_at (i := 6) hq
        have y7 := thawed_at (i := 7) hq
        have m9 := set8_block hq z
        have k9 := kept_set80 (w := w1) (w.heap.size + 1) z
        have hcz2 := own_kept hcz.own fun g hg => k9.block g (own_block_lt hcz.own g hg) (by have := (hcz.own.lt g hg).1; have := HUS.out; have := HWS.out; have := HVS.out; omega)
        have HCZ := Lib.hid hcz2; have HZR := Lib.hid hz
        have HB9 := Lib.hid (below_set80 (BZ.out.trans (hb1.mono (by have := HVS.out; omega))) (q := w.heap.size + 1) (by omega) z)
        clear hq hz hcz hb1 hcz2
        go_wp2
        generalize hw9 : (World.setCell (World.setCell (World.setCell (World.setCell (World.setCell (World.setCell (World.setCell (World.setCell w1 ⟨w.heap.size + 1, 0, none⟩ (.string z.ro.key)) ⟨w.heap.size + 1, 1, none⟩ (.string z.ro.live.s)) ⟨w.heap.size + 1, 2, none⟩ (.bool z.ro.live.d)) ⟨w.heap.size + 1, 3, none⟩ (.int .i64 z.ro.live.a)) ⟨w.heap.size + 1, 4, none⟩ (.int .i64 z.ro.live.e)) ⟨w.heap.size + 1, 5, none⟩ (.int .i64 z.ro.gone)) ⟨w.heap.size + 1, 6, none⟩ (.int .i64 z.ro.shade)) ⟨w.heap.size + 1, 7, none⟩ (.slice z.A z.ro.cols.length z.c)) = w9 at m9 k9 HCZ HB9 ⊢
        clear hw9 z0 z1 z2 z3 z4 z5 z6 z7 y0 y1 y2 y3 y4 y5 y6 y7
        have q0 := cell_at (i := 0) m9 rfl
        have q1 := cell_at (i := 1) m9 rfl
        have q2 := cell_at (i := 2) m9 rfl
        have q3 := cell_at (i := 3) m9 rfl
        have q4 := cell_at (i := 4) m9 rfl
        have q5 := cell_at (i := 5) m9 rfl
        have q6 := cell_at (i := 6) m9 rfl
        have q7 := cell_at (i := 7) m9 rfl
        have hg1 : getK Ro.key (ros L) key = some x.ro := by rw [← HG.out, HDR.out]; exact if_pos HK.out
        have hR : rowOf (ros L) key = x.ro := by unfold rowOf; rw [hg1]; rfl
        have hI : rowIs (ros L) key = true := by unfold rowIs; rw [hg1]; rfl
        have HR := Lib.hid hR
        clear hR hg1
        refine bodyPost_ret (v := .tuple #[.agg #[.string z.ro.key, .string z.ro.live.s, .bool z.ro.live.d, .int .i64 z.ro.live.a, .int .i64 z.ro.live.e, .int .i64 z.ro.gone, .int .i64 z.ro.shade, .slice z.A z.ro.cols.length z.c], .bool true]) ?_ rfl ?_
        · simp [results, Try.results18, go_sem, q0, q1, q2, q3, q4, q5, q6, q7]
        · exact ⟨z, by rw [hI]; rfl, by rw [HR.out]; exact HZR.out, own_base HCZ.out (by have := HUS.out; have := HWS.out; have := HVS.out; omega), HB9.out⟩
      · have e1 : (x.ro.key.toList == key.toList) = false := by cases h : (x.ro.key.toList == key.toList) with | true => exact absurd ((eqB_iff _ _).1 h) hk | false => rfl
        have HK := Lib.hid hk
        subst hU
        clear hk
        go_wp2
        go_roundw
        case rel => exact ⟨t + 1, by omega, by go_num, by rw [← HG.out, HDR.out]; exact (if_neg HK.out).symm, HBU.out⟩
        case measure => simp [intOf]; omega
    · obtain rfl : t = n := by omega
      have hq := (HB.out.block (w.heap.size + 1) (by have := HVS.out; omega)).trans HZ1.out
      have z0 := cell_at (i := 0) hq rfl
      have z1 := cell_at (i := 1) hq rfl
      have z2 := cell_at (i := 2) hq rfl
      have z3 := cell_at (i := 3) hq rfl
      have z4 := cell_at (i := 4) hq rfl
      have z5 := cell_at (i := 5) hq rfl
      have z6 := cell_at (i := 6) hq rfl
      have z7 := cell_at (i := 7) hq rfl
      have y0 := thawed_at (i := 0) hq
      have y1 := thawed_at (i := 1) hq
      have y2 := thawed_at (i := 2) hq
      have y3 := thawed_at (i := 3) hq
      have y4 := thawed_at (i := 4) hq
      have y5 := thawed_at (i := 5) hq
      have y6 := thawed_at (i := 6) hq
      have y7 := thawed_at (i := 7) hq
      have m9 := set8_block hq (bareA key)
      have HB9 := Lib.hid (below_set80 (BZ.out.trans (HB.out.mono (by have := HVS.out; omega))) (q := w.heap.size + 1) (by omega) (bareA key))
      unfold bareA Ro.bare at m9 HB9
      dsimp only [List.length_nil] at m9 HB9
      clear hq
      go_wp2
      have hg1 : getK Ro.key (ros L) key = none := by rw [← HG.out, List.drop_of_length_le (by rw [HL.out]; exact Nat.le_refl _)]; rfl
      have hR : rowOf (ros L) key = Ro.bare key := by unfold rowOf; rw [hg1]; rfl
      have hI : rowIs (ros L) key = false := by unfold rowIs; rw [hg1]; rfl
      have HR := Lib.hid hR
      have q0 := cell_at (i := 0) m9 rfl
      have q1 := cell_at (i := 1) m9 rfl
      have q2 := cell_at (i := 2) m9 rfl
      have q3 := cell_at (i := 3) m9 rfl
      have q4 := cell_at (i := 4) m9 rfl
      have q5 := cell_at (i := 5) m9 rfl
      have q6 := cell_at (i := 6) m9 rfl
      have q7 := cell_at (i := 7) m9 rfl
      clear hR hg1
      refine bodyPost_ret (v := .tuple #[.agg #[.string key, .string ⟨#[]⟩, .bool false, .int .i64 0, .int .i64 0, .int .i64 0, .int .i64 0, .slice none 0 0], .bool false]) ?_ rfl ?_
      · simp [results, Try.results18, go_sem, q0, q1, q2, q3, q4, q5, q6, q7]
      · exact ⟨bareA key, by rw [hI]; rfl, by rw [HR.out]; rfl, World.ownsRow_nil _ _ _ _, HB9.out⟩
end Go.Proofs.Ytafbbojfifcncaa
