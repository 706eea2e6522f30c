/-
  The developers' copyRows, Copy.
-/
import Derived.Test.YtafbbojfifcncaaPc
set_option linter.unusedVariables false
set_option linter.unusedSimpArgs false
namespace Go.Proofs.Ytafbbojfifcncaa
open Go Go.RowKit

/-- A row's columns are the call's own. -/
def OwnC (w0 w : World) (x : RA) : Prop := w.ownsRow w0.heap.size 66 5 (.slice x.A x.ro.cols.length x.c) x.ro.cols.length (kRow x.ro.cols)
theorem OwnC.on {w0 w w' : World} {x : RA} (h : OwnC w0 w x) (hb : Below w.heap.size w w') : OwnC w0 w' x := own_below h hb
theorem OwnC.kept {w0 w w' : World} {x : RA} {F : Nat → Prop} {e : TypeId} (h : OwnC w0 w x) (hk : Kept F w w') (hF : ∀ k, F k → ∃ cs, w.heap[k]? = some (.cells cs e (0, 0))) (he : 66 ≠ e) : OwnC w0 w' x :=
  own_kept h fun g hg => hk.block g (own_block_lt h g hg) fun hf => by
    obtain ⟨cs, h1⟩ := hF g hf
    obtain ⟨cs', h2⟩ := own_tag h g hg
    rw [h1] at h2
    injection h2 with h2
    injection h2 with _ h3 _
    exact he h3.symm
/-- Rows in new memory, down to their columns. -/
structure Fresh (w0 w : World) (v : Value) (L : List RA) : Prop where
  cur : CurR w0 w v L
  cols : ∀ x ∈ L, OwnC w0 w x
theorem Fresh.own {w0 w : World} {v : Value} {L : List RA} (h : Fresh w0 w v L) : Own w0 w v L := ⟨h.cur, fun x hx => Or.inr (h.cols x hx)⟩
theorem Fresh.below {w0 w : World} {v : Value} {L : List RA} (h : Fresh w0 w v L) : Below w0.heap.size w0 w := h.cur.below
theorem Fresh.on {w0 w w' : World} {v : Value} {L : List RA} (h : Fresh w0 w v L) (hb : Below w.heap.size w w') : Fresh w0 w' v L := ⟨h.cur.on hb, fun x hx => (h.cols x hx).on hb⟩
theorem Fresh.lower {w V w9 : World} {v : Value} {L : List RA} (h : Fresh V w9 v L) (hV : Below w.heap.size w V) : Fresh w w9 v L := ⟨h.cur.lower hV, fun x hx => own_base (h.cols x hx) hV.size⟩
theorem Fresh.kept {w0 w w' : World} {v : Value} {L : List RA} {F : Nat → Prop} {e : TypeId} (h : Fresh w0 w v L) (hk : Kept F w w') (hF : ∀ k, F k → w0.heap.size ≤ k ∧ ∃ cs, w.heap[k]? = some (.cells cs e (0, 0))) (he : 66 ≠ e) (he' : 36 ≠ e) : Fresh w0 w' v L := by
  refine ⟨⟨own_kept h.cur.own fun g hg => hk.block g (own_block_lt h.cur.own g hg) fun hf => ?_, h.below.trans (hk.below (fun k hk => (hF k hk).1) h.below.size)⟩, fun x hx => (h.cols x hx).kept hk (fun k hk => (hF k hk).2) he⟩
  obtain ⟨cs, h1⟩ := (hF g hf).2
  obtain ⟨cs', h2⟩ := own_tag h.cur.own g hg
  rw [h1] at h2
  injection h2 with h2
  injection h2 with _ h3 _
  exact he' h3.symm
theorem Fresh.lies {w0 w : World} {A : Option Addr} {n c : Nat} {L : List RA} (h : Fresh w0 w (.slice A n c) L) : n = L.length ∧ Lies w w.heap.size A n c L ∧ (A = none → c = 0) := by
  obtain ⟨A', c', e, h1, _, h3, h4⟩ := h.own.slice
  injection e with e1 e2 e3
  subst e1; subst e2; subst e3
  exact ⟨rfl, h4, h3⟩

set_option maxRecDepth 8000 in
set_option maxHeartbeats 4000000 in
theorem copyrows_any (A : Option Addr) (n c B : Nat) (L : List RA) (w : World) (h : Lies w B A n c L) (hB : B ≤ w.heap.size) (hn : n ≤ 1000000) (hf : ∀ x ∈ L, x.ro.cols.length ≤ 1000) :
    Calls Try.prog 34 #[.slice A n c] w fun e w' => ∃ v M, e = .returned v ∧ ros M = ros L ∧ Fresh w w' v M := by
  have hl := h.len
  have hmk := run_makeR w n n (Nat.le_refl _) hn
  have ho := own_fullR w n hn
  have HL := Lib.hid hl; have HH := Lib.hid h; have HO := Lib.hid ho; have HF := Lib.hid hf
  clear hl h ho hf
  go_enter Try.func34, Try.ntmps34
  go_wp2_with fail
  obtain ⟨W1, hW1⟩ : ∃ W1, W1 = w.alloc (.cells (madeCells #[.string ⟨#[]⟩, .string ⟨#[]⟩, .bool false, .int .i64 0, .int .i64 0, .int .i64 0, .int .i64 0, .slice none 0 0] (n * 8)) 36) := ⟨_, rfl⟩
  rw [← hW1] at HO ⊢
  clear hW1 hmk
  go_loopw [11] (fun i wr => ∃ (t : Nat) (K : List RA), t ≤ n ∧ i = .int .i64 t ∧ K.length = t ∧ ros K = (ros L).take t ∧ Own w wr (.slice (some ⟨w.heap.size, 0, none⟩) n n) (K ++ List.replicate (n - t) zeroR) ∧ ∀ x ∈ K, OwnC w wr x) (fun i _ => n - (intOf i).toNat)
  case atStart => exact ⟨0, [], Nat.zero_le _, rfl, rfl, rfl, HO.out, fun x hx => by cases hx⟩
  case round =>
    obtain ⟨t, K, ht, rfl, hkt, hkl, hown, hcols⟩ := hrel
    have HCO := Lib.hid hcols
    have HK := Lib.hid hkt; have HKL := Lib.hid hkl; have HW := Lib.hid hown
    clear hkt hkl hown hcols
    by_cases hlt : t < n
    · have i1 : (t : Int) < n := by omega
      have i0 : (0 : Int) ≤ t := by omega
      have htl : t < L.length := by rw [HL.out]; exact hlt
      obtain ⟨g0, o0, rfl, hgB⟩ := HH.out.rd.ex (by omega)
      have hlies := HH.out.below (HW.out.below.mono hB)
      obtain ⟨x, hx⟩ : ∃ x, L[t] = x := ⟨_, rfl⟩
      have hrow := hlies.rd.row htl
      have hin := hlies.held L[t] (List.getElem_mem htl)
      have hcl := HF.out L[t] (List.getElem_mem htl)
      rw [hx] at hrow hin hcl
      have ha := (Below.refl wr.heap.size wr).alloc (Nat.le_refl _) (.cells #[.string x.ro.key, .string x.ro.live.s, .bool x.ro.live.d, .int .i64 x.ro.live.a, .int .i64 x.ro.live.e, .int .i64 x.ro.gone, .int .i64 x.ro.shade, .slice x.A x.ro.cols.length x.c] 36)
      have hws := HW.out.below.size
      have hb := BlkAt.of (heap_alloc_new wr (.cells #[.string x.ro.key, .string x.ro.live.s, .bool x.ro.live.d, .int .i64 x.ro.live.a, .int .i64 x.ro.live.e, .int .i64 x.ro.gone, .int .i64 x.ro.shade, .slice x.A x.ro.cols.length x.c] 36))
      have hin2 := hin.below (ha.mono (by omega))
      have hown2 := HW.out.on ha
      have HCO2 := Lib.hid (fun y hy => (HCO.out y hy).on ha)
      obtain ⟨_, _, _, _, _, _, _, _⟩ := hrow
      obtain ⟨U, hU⟩ : ∃ U, U = wr.alloc (.cells #[.string x.ro.key, .string x.ro.live.s, .bool x.ro.live.d, .int .i64 x.ro.live.a, .int .i64 x.ro.live.e, .int .i64 x.ro.gone, .int .i64 x.ro.shade, .slice x.A x.ro.cols.length x.c] 36) := ⟨_, rfl⟩
      have hUs : U.heap.size = wr.heap.size + 1 := by rw [hU]; simp
      rw [← hU] at hb hin2 hown2 HCO2
      obtain ⟨_, _, _, _, _, _, _, _⟩ := hb
      have HX := Lib.hid hx; have HIN := Lib.hid hin2; have HW2 := Lib.hid hown2; have HCL := Lib.hid hcl; have HUS := Lib.hid hUs
      clear hx hin hlies hcl ha hin2 hown2 hUs
      go_wp2_with fail
      rw [← hU]
      clear hU
      go_wp2_with fail
      refine (copyrow_ra x B _ HIN.out (by have := HUS.out; omega) HCL.out).mono ?_
      rintro e w1 ⟨z, rfl, hz, hcz⟩
      unfold RA.v Ro.val
      have HW3 := Lib.hid (HW2.out.on hcz.below)
      have HSZ := Lib.hid (Safe.of_cur HW2.out.below hcz)
      have HOZ : Hid (OwnC w w1 z) := Lib.hid (own_base hcz.own HW2.out.below.size)
      have HCO3 := Lib.hid (fun y hy => (HCO2.out y hy).on hcz.below)
      have hlen : t < (K ++ List.replicate (n - t) zeroR).length := by rw [List.length_append, List.length_replicate, HK.out]; omega
      obtain ⟨g6, e6, _, _, hro, hfz⟩ := HW3.out.row hlen
      injection e6 with e6
      injection e6 with e6 _ _
      subst e6
      obtain ⟨y, hy⟩ : ∃ y, (K ++ List.replicate (n - t) zeroR)[t] = y := ⟨_, rfl⟩
      rw [hy] at hro
      obtain ⟨_, _, _, _, _, _, _, _⟩ := hro
      have f0 := hfz (t * 8)
      have f1 := hfz (t * 8 + 1)
      have f2 := hfz (t * 8 + 2)
      have f3 := hfz (t * 8 + 3)
      have f4 := hfz (t * 8 + 4)
      have f5 := hfz (t * 8 + 5)
      have f6 := hfz (t * 8 + 6)
      have f7 := hfz (t * 8 + 7)
      have HZ := Lib.hid hz; have HLEN := Lib.hid hlen
      clear hfz hz hcz hy hlen
      go_wp2_with fail
      have hput := HW3.out.put HLEN.out z HSZ.out
      have hF : ∀ k, k = w.heap.size → ∃ cs, w1.heap[k]? = some (.cells cs 36 (0, 0)) := fun k e => by subst e; exact own_tag HW3.out.cur.own _ rfl
      have hco : ∀ y ∈ K ++ [z], OwnC w (World.setCell (World.setCell (World.setCell (World.setCell (World.setCell (World.setCell (World.setCell (World.setCell w1 ⟨w.heap.size, t * 8, none⟩ (.string z.ro.key)) ⟨w.heap.size, t * 8 + 1, none⟩ (.string z.ro.live.s)) ⟨w.heap.size, t * 8 + 2, none⟩ (.bool z.ro.live.d)) ⟨w.heap.size, t * 8 + 3, none⟩ (.int .i64 z.ro.live.a)) ⟨w.heap.size, t * 8 + 4, none⟩ (.int .i64 z.ro.live.e)) ⟨w.heap.size, t * 8 + 5, none⟩ (.int .i64 z.ro.gone)) ⟨w.heap.size, t * 8 + 6, none⟩ (.int .i64 z.ro.shade)) ⟨w.heap.size, t * 8 + 7, none⟩ (.slice z.A z.ro.cols.length z.c)) y := fun y hy => by
        rcases List.mem_append.1 hy with h1 | h1
        · exact (HCO3.out y h1).kept (kept_set8 w.heap.size (t * 8) z) hF (by decide)
        · rw [List.mem_singleton.1 h1]
          exact HOZ.out.kept (kept_set8 w.heap.size (t * 8) z) hF (by decide)
      generalize hw6 : (World.setCell (World.setCell (World.setCell (World.setCell (World.setCell (World.setCell (World.setCell (World.setCell w1 ⟨w.heap.size, t * 8, none⟩ (.string z.ro.key)) ⟨w.heap.size, t * 8 + 1, none⟩ (.string z.ro.live.s)) ⟨w.heap.size, t * 8 + 2, none⟩ (.bool z.ro.live.d)) ⟨w.heap.size, t * 8 + 3, none⟩ (.int .i64 z.ro.live.a)) ⟨w.heap.size, t * 8 + 4, none⟩ (.int .i64 z.ro.live.e)) ⟨w.heap.size, t * 8 + 5, none⟩ (.int .i64 z.ro.gone)) ⟨w.heap.size, t * 8 + 6, none⟩ (.int .i64 z.ro.shade)) ⟨w.heap.size, t * 8 + 7, none⟩ (.slice z.A z.ro.cols.length z.c)) = w6 at hput hco ⊢
      have hset : (K ++ List.replicate (n - t) zeroR).set t z = (K ++ [z]) ++ List.replicate (n - (t + 1)) zeroR := by
        rw [show n - t = (n - (t + 1)) + 1 by omega, List.replicate_succ, List.set_append_right _ _ (by rw [HK.out]; exact Nat.le_refl _), HK.out, Nat.sub_self, List.set_cons_zero, List.append_assoc]
        rfl
      rw [hset] at hput
      have HPUT := Lib.hid hput; have HCO4 := Lib.hid hco
      clear hput hset hco hF hw6 f0 f1 f2 f3 f4 f5 f6 f7
      go_wp2
      go_roundw
      case rel =>
        refine ⟨t + 1, K ++ [z], by omega, by go_num, by rw [List.length_append, HK.out]; rfl, ?_, HPUT.out, HCO4.out⟩
        have htr : t < (ros L).length := by rw [List.length_map]; exact htl
        rw [List.take_succ_eq_append_getElem htr, ← HKL.out, List.getElem_map, HX.out, ← HZ.out]
        simp [ros]
      case measure => simp [intOf]; omega
    · obtain rfl : t = n := by omega
      go_wp2
      go_ret
      refine ⟨_, K, rfl, ?_, ?_⟩
      · rw [HKL.out, List.take_of_length_le (by rw [List.length_map, HL.out]; exact Nat.le_refl _)]
      · have := HW.out
        rw [Nat.sub_self, List.replicate_zero, List.append_nil] at this
        exact ⟨this.cur, HCO.out⟩
end Go.Proofs.Ytafbbojfifcncaa
