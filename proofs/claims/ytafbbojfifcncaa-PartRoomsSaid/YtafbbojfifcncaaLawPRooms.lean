/-
  PartRooms: for every input the law returns true, and each argument reads as it read. No condition.
-/
import Derived.Test.YtafbbojfifcncaaPa
import Derived.Test.YtafbbojfifcncaaRoU
import Derived.Test.YtafbbojfifcncaaPo
import Derived.Test.YtafbbojfifcncaaPd3
import Derived.Test.YtafbbojfifcncaaPd7
import Derived.Test.YtafbbojfifcncaaPd5
import Derived.Test.YtafbbojfifcncaaPd6
import Derived.Test.YtafbbojfifcncaaRi
import Derived.Test.YtafbbojfifcncaaRgz
import Derived.Deep.DeepCutAuto
import Derived.Deep.CutBlock
import Derived.Test.YtafbbojfifcncaaRows
import Derived.WalkKit
import Derived.ProofKit
import Derived.OpenShut
import Derived.ShutString
import Derived.ChangeOld
import Derived.Below
set_option linter.unusedVariables false
set_option linter.unusedSimpArgs false
namespace Go.Proofs.Ytafbbojfifcncaa
open Go Go.RowKit

def goodR (l : Rows) (j : Nat) : Bool :=
  match l[j]? with
  | none => true
  | some x => x.ok && (match j with
    | 0 => true
    | i + 1 => match l[i]? with
      | none => true
      | some y => decide (nlt y.key x.key))
def rowsB (l : Rows) : Bool := (List.range l.length).all (goodR l)
def Pa.ok (p : Pa) : Bool := decide (p.key.size ≤ 100) && (stm p.gone && (decide (p.rows.length ≤ 100) && rowsB p.rows))
theorem goodR_zero {l : Rows} (h : 0 < l.length) : goodR l 0 = l[0].ok := by
  unfold goodR
  rw [List.getElem?_eq_getElem h]
  simp
theorem goodR_succ {l : Rows} {i : Nat} (h : i + 1 < l.length) : goodR l (i + 1) = (l[i + 1].ok && decide (nlt l[i].key l[i + 1].key)) := by
  unfold goodR
  rw [List.getElem?_eq_getElem h]
  simp only
  rw [List.getElem?_eq_getElem (by omega)]
theorem goodsR_step {l : Rows} {t : Nat} (h : (List.range t).all (goodR l) = true) (hg : goodR l t = true) : (List.range (t + 1)).all (goodR l) = true := by
  rw [List.range_succ, List.all_append, h]
  simp [hg]
theorem goodsR_no {l : Rows} {t : Nat} (ht : t < l.length) (hg : goodR l t = false) : rowsB l = false := by
  unfold rowsB
  rw [List.all_eq_false]
  exact ⟨t, List.mem_range.2 ht, by rw [hg]; decide⟩
theorem rowsB_at {l : Rows} (h : rowsB l = true) {j : Nat} (hj : j < l.length) : goodR l j = true := List.all_eq_true.1 h j (List.mem_range.2 hj)
theorem rowsB_each {l : Rows} (h : rowsB l = true) : ∀ r ∈ l, r.ok = true := fun r hr => by
  obtain ⟨j, hj, rfl⟩ := List.mem_iff_getElem.1 hr
  have := rowsB_at h hj
  match j, hj with
  | 0, hj => rwa [goodR_zero hj] at this
  | i + 1, hj =>
    rw [goodR_succ hj, Bool.and_eq_true] at this
    exact this.1
theorem rowsB_rise {l : Rows} (h : rowsB l = true) : RiseR l := riseK_of fun i hi => by
  have := rowsB_at h hi
  rw [goodR_succ hi, Bool.and_eq_true, decide_eq_true_iff] at this
  exact this.2
theorem rowsB_of {l : Rows} (hr : RiseR l) (hc : ∀ r ∈ l, r.ok = true) : rowsB l = true := by
  unfold rowsB
  rw [List.all_eq_true]
  intro j hj
  have hj := List.mem_range.1 hj
  match j, hj with
  | 0, hj => rw [goodR_zero hj]; exact hc _ (List.getElem_mem hj)
  | i + 1, hj =>
    rw [goodR_succ hj, hc _ (List.getElem_mem hj), decide_eq_true (riseK_at hr i hj)]
    rfl
theorem Pa.ok_of {p : Pa} (h : p.ok = true) : p.key.size ≤ 100 ∧ stm p.gone = true ∧ p.rows.length ≤ 100 ∧ rowsB p.rows = true := by
  unfold Pa.ok at h
  simpa only [Bool.and_eq_true, decide_eq_true_iff] using h
theorem Pa.ok_up {p : Pa} (h : p.ok = true) : p.Up := ⟨rowsB_rise (Pa.ok_of h).2.2.2, fun r hr => up_of_ok (rowsB_each (Pa.ok_of h).2.2.2 r hr)⟩
/-- Nothing but a key. -/
def Ro.bare (k : ByteArray) : Ro := ⟨k, ⟨⟨#[]⟩, false, 0, 0⟩, 0, 0, []⟩
end Go.Proofs.Ytafbbojfifcncaa
set_option linter.unusedVariables false
set_option linter.unusedSimpArgs false
namespace Go.Proofs.Ytafbbojfifcncaa
open Go Go.RowKit

/-- Not too much of each row. -/
def FewR (L : List RA) : Prop := ∀ x ∈ L, Few x.ro.cols ∧ x.ro.live.s.size ≤ maxLen ∧ x.ro.cols.length ≤ 1000
theorem check_ra (x : RA) (B : Nat) (w : World) (h : RaIn w B x) (hB : B ≤ w.heap.size) (hf : Few x.ro.cols ∧ x.ro.live.s.size ≤ maxLen ∧ x.ro.cols.length ≤ 1000) :
    Calls Try.prog 47 #[.agg #[.string x.ro.key, .string x.ro.live.s, .bool x.ro.live.d, .int .i64 x.ro.live.a, .int .i64 x.ro.live.e, .int .i64 x.ro.gone, .int .i64 x.ro.shade, .slice x.A x.ro.cols.length x.c]] w fun e w' => e = .returned (.bool x.ro.ok) ∧ Below w.heap.size w w' :=
  check_ro x.ro x.A x.c B w h hB hf.2.2 hf.1 hf.2.1
theorem pstamp_any (n : Int) (w : World) : Calls Try.prog 29 #[.int .i64 n] w fun x w' => x = .returned (.bool (stm n)) ∧ w = w' := by
  go_enter Try.func29, Try.ntmps29
  by_cases h0 : 0 ≤ n
  · by_cases h1 : n ≤ 1099511627776
    · have hs : stm n = true := by unfold stm; rw [decide_eq_true h0, decide_eq_true h1]; rfl
      rw [hs]
      have d0 : decide (0 ≤ n) = true := decide_eq_true h0
      have d1 : decide (n ≤ 1099511627776) = true := decide_eq_true h1
      clear h0 h1 hs
      go_wp2
      go_ret
      exact ⟨rfl, rfl⟩
    · have hs : stm n = false := by unfold stm; rw [decide_eq_true h0, decide_eq_false h1]; rfl
      rw [hs]
      have d0 : decide (0 ≤ n) = true := decide_eq_true h0
      have d1 : decide (n ≤ 1099511627776) = false := decide_eq_false h1
      clear h0 h1 hs
      go_wp2
      go_ret
      exact ⟨rfl, rfl⟩
  · have hs : stm n = false := by unfold stm; rw [decide_eq_false h0]; rfl
    rw [hs]
    have d0 : decide (0 ≤ n) = false := decide_eq_false h0
    clear h0 hs
    go_wp2
    go_ret
    exact ⟨rfl, rfl⟩
set_option maxHeartbeats 4000000 in
theorem rows_any (A : Option Addr) (n c B : Nat) (L : List RA) (w : World) (h : Lies w B A n c L) (hB : B ≤ w.heap.size) (hn : n ≤ 1000000000) (hf : FewR L) :
    Calls Try.prog 30 #[.slice A n c] w fun x w' => x = .returned (.bool (decide (n ≤ 100) && rowsB (ros L))) ∧ Below w.heap.size w w' := by
  have hl := h.len
  obtain ⟨r, hr⟩ : ∃ r, (decide (n ≤ 100) && rowsB (ros L)) = r := ⟨_, rfl⟩
  rw [hr]
  by_cases h8 : n ≤ 100
  · have d0 : decide ((100 : Int) < (n : Nat)) = false := by simp; omega
    rw [decide_eq_true h8, Bool.true_and] at hr
    have HL := Lib.hid hl; have HR := Lib.hid hr; have HH := Lib.hid h; have HF := Lib.hid hf
    clear hl hr h hf
    go_enter Try.func30, Try.ntmps30
    go_wp2
    go_loopw [10] (fun i wr => ∃ t : Nat, t ≤ n ∧ i = .int .i64 t ∧ (List.range t).all (goodR (ros L)) = true ∧ Below w.heap.size w wr) (fun i _ => n - (intOf i).toNat)
    case atStart => exact ⟨0, Nat.zero_le _, rfl, rfl, Below.refl _ _⟩
    case round =>
      obtain ⟨t, ht, rfl, hg, hb⟩ := hrel
      have HG := Lib.hid hg; have HB := Lib.hid hb
      clear hg hb
      by_cases hlt : t < n
      · have i1 : (t : Int) < n := by omega
        have i0 : (0 : Int) ≤ t := by omega
        have htl : t < L.length := by rw [HL.out]; exact hlt
        have htr : t < (ros L).length := by rw [List.length_map]; exact htl
        obtain ⟨g0, o0, rfl, hgB⟩ := HH.out.rd.ex (by omega)
        have hrd := (HH.out.below (HB.out.mono hB)).rd
        obtain ⟨x, hx⟩ : ∃ x, L[t] = x := ⟨_, rfl⟩
        have hrow := hrd.row htl
        have hfm := HF.out L[t] (List.getElem_mem htl)
        have hin := (HH.out.below (HB.out.mono hB)).held L[t] (List.getElem_mem htl)
        rw [hx] at hrow hfm hin
        have hgw : g0 < wr.heap.size := by have := HB.out.size; omega
        obtain ⟨u1, hu1⟩ : ∃ u, x.ro.ok = u := ⟨_, rfl⟩
        have hrx : (ros L)[t] = x.ro := by rw [List.getElem_map, hx]
        have U1 := Lib.hid hu1; have FM := Lib.hid hfm; have HX := Lib.hid hrx
        have hz := heap_alloc_new wr (.cells #[.string x.ro.key, .string x.ro.live.s, .bool x.ro.live.d, .int .i64 x.ro.live.a, .int .i64 x.ro.live.e, .int .i64 x.ro.gone, .int .i64 x.ro.shade, .slice x.A x.ro.cols.length x.c] 36)
        have ha := (Below.refl wr.heap.size wr).alloc (Nat.le_refl _) (.cells #[.string x.ro.key, .string x.ro.live.s, .bool x.ro.live.d, .int .i64 x.ro.live.a, .int .i64 x.ro.live.e, .int .i64 x.ro.gone, .int .i64 x.ro.shade, .slice x.A x.ro.cols.length x.c] 36)
        have hbu := HB.out.trans (ha.mono HB.out.size)
        have hcu := fun j (hj : j < L.length) => (hrd.row hj).below ha hgw
        have hiu := hin.below (ha.mono (by have := HB.out.size; omega))
        obtain ⟨_, _, _, _, _, _, _, _⟩ := hrow
        clear hu1 hfm hx hrx hrd hin
        by_cases hz0 : t = 0
        · have hga : goodR (ros L) t = u1 := by
            subst hz0
            rw [goodR_zero htr, HX.out, U1.out]
          have j1 : decide ((0 : Int) < (t : Int)) = false := by simp; omega
          have j2 : decide (0 < t) = false := by simp; omega
          clear hz0
          have HGA := Lib.hid hga
          clear hga
          go_wp2_with fail
          obtain ⟨U, hU⟩ : ∃ U, U = wr.alloc (.cells #[.string x.ro.key, .string x.ro.live.s, .bool x.ro.live.d, .int .i64 x.ro.live.a, .int .i64 x.ro.live.e, .int .i64 x.ro.gone, .int .i64 x.ro.shade, .slice x.A x.ro.cols.length x.c] 36) := ⟨_, rfl⟩
          have hUs : U.heap.size = wr.heap.size + 1 := by rw [hU]; simp
          rw [← hU] at hz hbu hcu hiu ⊢
          have hall : ∀ w', Below U.heap.size U w' → BlkAt w' wr.heap.size x ∧ True := fun w' hb => ⟨BlkAt.of ((hb.block wr.heap.size (by omega)).trans hz), trivial⟩
          have hin2 : ∀ w', Below U.heap.size U w' → RaIn w' B x := fun w' hb => hiu.below (hb.mono (by have := HB.out.size; omega))
          have HALL := Lib.hid hall; have HBU := Lib.hid hbu; have HIN := Lib.hid hin2
          have HUB := Lib.hid (show B ≤ U.heap.size by have := HB.out.size; omega)
          clear hall hz hU ha hbu hcu hiu hin2
          cases u1
          · refine wp_region_held_drew (S := fun w' => Below U.heap.size U w') (by kernel_rfl) ?_ (fun hHeld => ?_)
            · exact (Below.refl _ _).drew
            refine wpAnyH_take (i := 0) (v := ?_) rfl (by kernel_rfl) (by kernel_rfl) (by kernel_rfl) (fun _ _ _ h => h) (Or.inl ⟨by rfl, ?_⟩) (by assumption) ?_
            rotate_left
            · (intro wx hSw; (try dsimp only at hSw); obtain ⟨⟨_, _, _, _, _, _, _, _⟩, _⟩ := HALL.out _ hSw; go_simp; try with_reducible rfl)
            try simp only [Act.put, List.getElem_toArray, List.getElem_cons_succ, List.getElem_cons_zero, List.setIfInBounds_toArray, List.set_cons_zero, List.set_cons_succ]
            refine wpAnyH_ready (rs := [1]) (by kernel_rfl) (by simp) (AllReadyH.cons rfl (fun K hK => ?_) AllReadyH.nil)
            go_simp
            refine (check_ra x B _ ?hin1 ?hsz1 FM.out).mono ?_
            case hin1 => exact HIN.out _ (by first | exact (Below.refl _ _).drew | exact below_draws _ _ _ | exact Below.refl _ _)
            case hsz1 => exact HUB.out
            rintro y v1 ⟨rfl, b1⟩
            rw [U1.out]
            try go_wp2_with fail
            refine hK.out _ _ ?_ (fun hHeld => ?_)
            · exact next (by assumption) b1
            clear hK K
            try simp only [Act.put, List.getElem_toArray, List.getElem_cons_succ, List.getElem_cons_zero, List.setIfInBounds_toArray, List.set_cons_zero, List.set_cons_succ]
            refine wpAnyH_take (i := 2) (v := ?_) rfl (by kernel_rfl) (by kernel_rfl) (by kernel_rfl) (fun _ _ _ h => h) (Or.inl ⟨by rfl, ?_⟩) (by assumption) ?_
            rotate_left
            · (intro wx hSw; (try dsimp only at hSw); go_simp; try with_reducible rfl)
            try simp only [Act.put, List.getElem_toArray, List.getElem_cons_succ, List.getElem_cons_zero, List.setIfInBounds_toArray, List.set_cons_zero, List.set_cons_succ]
            refine wpAnyH_take (i := 3) (v := ?_) rfl (by kernel_rfl) (by kernel_rfl) (by kernel_rfl) (fun _ _ _ h => h) (Or.inl ⟨by rfl, ?_⟩) (by assumption) ?_
            rotate_left
            · (intro wx hSw; (try dsimp only at hSw); go_simp; try with_reducible rfl)
            try simp only [Act.put, List.getElem_toArray, List.getElem_cons_succ, List.getElem_cons_zero, List.setIfInBounds_toArray, List.set_cons_zero, List.set_cons_succ]
            refine wpAnyH_take (i := 4) (v := undef) rfl (by kernel_rfl) (by kernel_rfl) (by kernel_rfl) (fun _ _ _ h => h) (Or.inr ⟨by rfl, rfl⟩) (by assumption) ?_
            try simp only [Act.put, List.getElem_toArray, List.getElem_cons_succ, List.getElem_cons_zero, List.setIfInBounds_toArray, List.set_cons_zero, List.set_cons_succ]
            refine wpAnyH_take (i := 5) (v := undef) rfl (by kernel_rfl) (by kernel_rfl) (by kernel_rfl) (fun _ _ _ h => h) (Or.inr ⟨by rfl, rfl⟩) (by assumption) ?_
            try simp only [Act.put, List.getElem_toArray, List.getElem_cons_succ, List.getElem_cons_zero, List.setIfInBounds_toArray, List.set_cons_zero, List.set_cons_succ]
            refine wpAnyH_take (i := 6) (v := undef) rfl (by kernel_rfl) (by kernel_rfl) (by kernel_rfl) (fun _ _ _ h => h) (Or.inr ⟨by rfl, rfl⟩) (by assumption) ?_
            try simp only [Act.put, List.getElem_toArray, List.getElem_cons_succ, List.getElem_cons_zero, List.setIfInBounds_toArray, List.set_cons_zero, List.set_cons_succ]
            refine wpAnyH_take (i := 7) (v := undef) rfl (by kernel_rfl) (by kernel_rfl) (by kernel_rfl) (fun _ _ _ h => h) (Or.inr ⟨by rfl, rfl⟩) (by assumption) ?_
            try simp only [Act.put, List.getElem_toArray, List.getElem_cons_succ, List.getElem_cons_zero, List.setIfInBounds_toArray, List.set_cons_zero, List.set_cons_succ]
            refine wpAnyH_take (i := 8) (v := undef) rfl (by kernel_rfl) (by kernel_rfl) (by kernel_rfl) (fun _ _ _ h => h) (Or.inr ⟨by rfl, rfl⟩) (by assumption) ?_
            try simp only [Act.put, List.getElem_toArray, List.getElem_cons_succ, List.getElem_cons_zero, List.setIfInBounds_toArray, List.set_cons_zero, List.set_cons_succ]
            refine wpAnyH_take (i := 9) (v := undef) rfl (by kernel_rfl) (by kernel_rfl) (by kernel_rfl) (fun _ _ _ h => h) (Or.inr ⟨by rfl, rfl⟩) (by assumption) ?_
            try simp only [Act.put, List.getElem_toArray, List.getElem_cons_succ, List.getElem_cons_zero, List.setIfInBounds_toArray, List.set_cons_zero, List.set_cons_succ]
            refine wpAnyH_take (i := 10) (v := undef) rfl (by kernel_rfl) (by kernel_rfl) (by kernel_rfl) (fun _ _ _ h => h) (Or.inr ⟨by rfl, rfl⟩) (by assumption) ?_
            try simp only [Act.put, List.getElem_toArray, List.getElem_cons_succ, List.getElem_cons_zero, List.setIfInBounds_toArray, List.set_cons_zero, List.set_cons_succ]
            refine wpAnyH_take (i := 11) (v := undef) rfl (by kernel_rfl) (by kernel_rfl) (by kernel_rfl) (fun _ _ _ h => h) (Or.inr ⟨by rfl, rfl⟩) (by assumption) ?_
            try simp only [Act.put, List.getElem_toArray, List.getElem_cons_succ, List.getElem_cons_zero, List.setIfInBounds_toArray, List.set_cons_zero, List.set_cons_succ]
            refine wpAnyH_take (i := 12) (v := undef) rfl (by kernel_rfl) (by kernel_rfl) (by kernel_rfl) (fun _ _ _ h => h) (Or.inr ⟨by rfl, rfl⟩) (by assumption) ?_
            try simp only [Act.put, List.getElem_toArray, List.getElem_cons_succ, List.getElem_cons_zero, List.setIfInBounds_toArray, List.set_cons_zero, List.set_cons_succ]
            refine wpAnyH_take (i := 13) (v := undef) rfl (by kernel_rfl) (by kernel_rfl) (by kernel_rfl) (fun _ _ _ h => h) (Or.inr ⟨by rfl, rfl⟩) (by assumption) ?_
            try simp only [Act.put, List.getElem_toArray, List.getElem_cons_succ, List.getElem_cons_zero, List.setIfInBounds_toArray, List.set_cons_zero, List.set_cons_succ]
            refine wpAnyH_take (i := 14) (v := undef) rfl (by kernel_rfl) (by kernel_rfl) (by kernel_rfl) (fun _ _ _ h => h) (Or.inr ⟨by rfl, rfl⟩) (by assumption) ?_
            try simp only [Act.put, List.getElem_toArray, List.getElem_cons_succ, List.getElem_cons_zero, List.setIfInBounds_toArray, List.set_cons_zero, List.set_cons_succ]
            refine wpAnyH_take (i := 15) (v := undef) rfl (by kernel_rfl) (by kernel_rfl) (by kernel_rfl) (fun _ _ _ h => h) (Or.inr ⟨by rfl, rfl⟩) (by assumption) ?_
            try simp only [Act.put, List.getElem_toArray, List.getElem_cons_succ, List.getElem_cons_zero, List.setIfInBounds_toArray, List.set_cons_zero, List.set_cons_succ]
            refine wpAnyH_take (i := 16) (v := undef) rfl (by kernel_rfl) (by kernel_rfl) (by kernel_rfl) (fun _ _ _ h => h) (Or.inr ⟨by rfl, rfl⟩) (by assumption) ?_
            try simp only [Act.put, List.getElem_toArray, List.getElem_cons_succ, List.getElem_cons_zero, List.setIfInBounds_toArray, List.set_cons_zero, List.set_cons_succ]
            refine wpAnyH_take (i := 17) (v := ?_) rfl (by kernel_rfl) (by kernel_rfl) (by kernel_rfl) (fun _ _ _ h => h) (Or.inl ⟨by rfl, ?_⟩) (by assumption) ?_
            rotate_left
            · (intro wx hSw; (try dsimp only at hSw); go_simp; try with_reducible rfl)
            try simp only [Act.put, List.getElem_toArray, List.getElem_cons_succ, List.getElem_cons_zero, List.setIfInBounds_toArray, List.set_cons_zero, List.set_cons_succ]
            refine wpAnyH_done (by kernel_rfl) ?_ _
            have hv : r = false := by rw [← HR.out]; exact goodsR_no htr HGA.out
            subst hv
            go_wp2
            go_ret
            exact ⟨rfl, next HBU.out hHeld⟩
          · refine wp_region_held_drew (S := fun w' => Below U.heap.size U w') (by kernel_rfl) ?_ (fun hHeld => ?_)
            · exact (Below.refl _ _).drew
            refine wpAnyH_take (i := 0) (v := ?_) rfl (by kernel_rfl) (by kernel_rfl) (by kernel_rfl) (fun _ _ _ h => h) (Or.inl ⟨by rfl, ?_⟩) (by assumption) ?_
            rotate_left
            · (intro wx hSw; (try dsimp only at hSw); obtain ⟨⟨_, _, _, _, _, _, _, _⟩, _⟩ := HALL.out _ hSw; go_simp; try with_reducible rfl)
            try simp only [Act.put, List.getElem_toArray, List.getElem_cons_succ, List.getElem_cons_zero, List.setIfInBounds_toArray, List.set_cons_zero, List.set_cons_succ]
            refine wpAnyH_ready (rs := [1]) (by kernel_rfl) (by simp) (AllReadyH.cons rfl (fun K hK => ?_) AllReadyH.nil)
            go_simp
            refine (check_ra x B _ ?hin1 ?hsz1 FM.out).mono ?_
            case hin1 => exact HIN.out _ (by first | exact (Below.refl _ _).drew | exact below_draws _ _ _ | exact Below.refl _ _)
            case hsz1 => exact HUB.out
            rintro y v1 ⟨rfl, b1⟩
            rw [U1.out]
            try go_wp2_with fail
            refine hK.out _ _ ?_ (fun hHeld => ?_)
            · exact next (by assumption) b1
            clear hK K
            try simp only [Act.put, List.getElem_toArray, List.getElem_cons_succ, List.getElem_cons_zero, List.setIfInBounds_toArray, List.set_cons_zero, List.set_cons_succ]
            refine wpAnyH_take (i := 2) (v := ?_) rfl (by kernel_rfl) (by kernel_rfl) (by kernel_rfl) (fun _ _ _ h => h) (Or.inl ⟨by rfl, ?_⟩) (by assumption) ?_
            rotate_left
            · (intro wx hSw; (try dsimp only at hSw); go_simp; try with_reducible rfl)
            try simp only [Act.put, List.getElem_toArray, List.getElem_cons_succ, List.getElem_cons_zero, List.setIfInBounds_toArray, List.set_cons_zero, List.set_cons_succ]
            refine wpAnyH_take (i := 3) (v := ?_) rfl (by kernel_rfl) (by kernel_rfl) (by kernel_rfl) (fun _ _ _ h => h) (Or.inl ⟨by rfl, ?_⟩) (by assumption) ?_
            rotate_left
            · (intro wx hSw; (try dsimp only at hSw); go_simp; try with_reducible rfl)
            try simp only [Act.put, List.getElem_toArray, List.getElem_cons_succ, List.getElem_cons_zero, List.setIfInBounds_toArray, List.set_cons_zero, List.set_cons_succ]
            refine wpAnyH_take (i := 4) (v := ?_) rfl (by kernel_rfl) (by kernel_rfl) (by kernel_rfl) (fun _ _ _ h => h) (Or.inl ⟨by rfl, ?_⟩) (by assumption) ?_
            rotate_left
            · (intro wx hSw; (try dsimp only at hSw); go_simp; try with_reducible rfl)
            try simp only [Act.put, List.getElem_toArray, List.getElem_cons_succ, List.getElem_cons_zero, List.setIfInBounds_toArray, List.set_cons_zero, List.set_cons_succ]
            refine wpAnyH_take (i := 5) (v := ?_) rfl (by kernel_rfl) (by kernel_rfl) (by kernel_rfl) (fun _ _ _ h => h) (Or.inl ⟨by rfl, ?_⟩) (by assumption) ?_
            rotate_left
            · (intro wx hSw; (try dsimp only at hSw); go_simp; try with_reducible rfl)
            try simp only [Act.put, List.getElem_toArray, List.getElem_cons_succ, List.getElem_cons_zero, List.setIfInBounds_toArray, List.set_cons_zero, List.set_cons_succ]
            refine wpAnyH_take (i := 6) (v := ?_) rfl (by kernel_rfl) (by kernel_rfl) (by kernel_rfl) (fun _ _ _ h => h) (Or.inl ⟨by rfl, ?_⟩) (by assumption) ?_
            rotate_left
            · (intro wx hSw; (try dsimp only at hSw); go_simp; try with_reducible rfl)
            try simp only [Act.put, List.getElem_toArray, List.getElem_cons_succ, List.getElem_cons_zero, List.setIfInBounds_toArray, List.set_cons_zero, List.set_cons_succ]
            refine wpAnyH_take (i := 7) (v := undef) rfl (by kernel_rfl) (by kernel_rfl) (by kernel_rfl) (fun _ _ _ h => h) (Or.inr ⟨by rfl, rfl⟩) (by assumption) ?_
            try simp only [Act.put, List.getElem_toArray, List.getElem_cons_succ, List.getElem_cons_zero, List.setIfInBounds_toArray, List.set_cons_zero, List.set_cons_succ]
            refine wpAnyH_take (i := 8) (v := undef) rfl (by kernel_rfl) (by kernel_rfl) (by kernel_rfl) (fun _ _ _ h => h) (Or.inr ⟨by rfl, rfl⟩) (by assumption) ?_
            try simp only [Act.put, List.getElem_toArray, List.getElem_cons_succ, List.getElem_cons_zero, List.setIfInBounds_toArray, List.set_cons_zero, List.set_cons_succ]
            refine wpAnyH_take (i := 9) (v := undef) rfl (by kernel_rfl) (by kernel_rfl) (by kernel_rfl) (fun _ _ _ h => h) (Or.inr ⟨by rfl, rfl⟩) (by assumption) ?_
            try simp only [Act.put, List.getElem_toArray, List.getElem_cons_succ, List.getElem_cons_zero, List.setIfInBounds_toArray, List.set_cons_zero, List.set_cons_succ]
            refine wpAnyH_take (i := 10) (v := undef) rfl (by kernel_rfl) (by kernel_rfl) (by kernel_rfl) (fun _ _ _ h => h) (Or.inr ⟨by rfl, rfl⟩) (by assumption) ?_
            try simp only [Act.put, List.getElem_toArray, List.getElem_cons_succ, List.getElem_cons_zero, List.setIfInBounds_toArray, List.set_cons_zero, List.set_cons_succ]
            refine wpAnyH_take (i := 11) (v := undef) rfl (by kernel_rfl) (by kernel_rfl) (by kernel_rfl) (fun _ _ _ h => h) (Or.inr ⟨by rfl, rfl⟩) (by assumption) ?_
            try simp only [Act.put, List.getElem_toArray, List.getElem_cons_succ, List.getElem_cons_zero, List.setIfInBounds_toArray, List.set_cons_zero, List.set_cons_succ]
            refine wpAnyH_take (i := 12) (v := undef) rfl (by kernel_rfl) (by kernel_rfl) (by kernel_rfl) (fun _ _ _ h => h) (Or.inr ⟨by rfl, rfl⟩) (by assumption) ?_
            try simp only [Act.put, List.getElem_toArray, List.getElem_cons_succ, List.getElem_cons_zero, List.setIfInBounds_toArray, List.set_cons_zero, List.set_cons_succ]
            refine wpAnyH_take (i := 13) (v := undef) rfl (by kernel_rfl) (by kernel_rfl) (by kernel_rfl) (fun _ _ _ h => h) (Or.inr ⟨by rfl, rfl⟩) (by assumption) ?_
            try simp only [Act.put, List.getElem_toArray, List.getElem_cons_succ, List.getElem_cons_zero, List.setIfInBounds_toArray, List.set_cons_zero, List.set_cons_succ]
            refine wpAnyH_take (i := 14) (v := undef) rfl (by kernel_rfl) (by kernel_rfl) (by kernel_rfl) (fun _ _ _ h => h) (Or.inr ⟨by rfl, rfl⟩) (by assumption) ?_
            try simp only [Act.put, List.getElem_toArray, List.getElem_cons_succ, List.getElem_cons_zero, List.setIfInBounds_toArray, List.set_cons_zero, List.set_cons_succ]
            refine wpAnyH_take (i := 15) (v := undef) rfl (by kernel_rfl) (by kernel_rfl) (by kernel_rfl) (fun _ _ _ h => h) (Or.inr ⟨by rfl, rfl⟩) (by assumption) ?_
            try simp only [Act.put, List.getElem_toArray, List.getElem_cons_succ, List.getElem_cons_zero, List.setIfInBounds_toArray, List.set_cons_zero, List.set_cons_succ]
            refine wpAnyH_take (i := 16) (v := ?_) rfl (by kernel_rfl) (by kernel_rfl) (by kernel_rfl) (fun _ _ _ h => h) (Or.inl ⟨by rfl, ?_⟩) (by assumption) ?_
            rotate_left
            · (intro wx hSw; (try dsimp only at hSw); go_simp; try with_reducible rfl)
            try simp only [Act.put, List.getElem_toArray, List.getElem_cons_succ, List.getElem_cons_zero, List.setIfInBounds_toArray, List.set_cons_zero, List.set_cons_succ]
            refine wpAnyH_take (i := 17) (v := ?_) rfl (by kernel_rfl) (by kernel_rfl) (by kernel_rfl) (fun _ _ _ h => h) (Or.inl ⟨by rfl, ?_⟩) (by assumption) ?_
            rotate_left
            · (intro wx hSw; (try dsimp only at hSw); go_simp; try with_reducible rfl)
            try simp only [Act.put, List.getElem_toArray, List.getElem_cons_succ, List.getElem_cons_zero, List.setIfInBounds_toArray, List.set_cons_zero, List.set_cons_succ]
            refine wpAnyH_done (by kernel_rfl) ?_ _
            go_wp2
            go_roundw
            case rel => exact ⟨t + 1, by omega, by go_num, goodsR_step HG.out HGA.out, next HBU.out hHeld⟩
            case measure => simp [intOf]; omega
        · obtain ⟨u, hu⟩ : ∃ u, u + 1 = t := ⟨t - 1, by omega⟩
          have hul : u < L.length := by omega
          have hsub : IntKind.i64.wrap ((t : Int) - 1) = (u : Int) := by rw [IntKind.wrap_i64]; omega
          have j1 : (u : Int) < n := by omega
          have j0 : (0 : Int) ≤ u := by omega
          have j2 : decide ((0 : Int) < (t : Int)) = true := by simp; omega
          have j3 : decide (0 < t) = true := by simp; omega
          have j4 : (0 : Int) < (t : Int) := by omega
          have j5 : 0 < t := by omega
          obtain ⟨y, hy⟩ : ∃ y, L[u] = y := ⟨_, rfl⟩
          have hcu2 := hcu u hul
          rw [hy] at hcu2
          have hga : goodR (ros L) t = (u1 && decide (nlt y.ro.key x.ro.key)) := by
            subst hu
            rw [goodR_succ htr, HX.out, U1.out, List.getElem_map, hy]
          have HGA := Lib.hid hga; have HY := Lib.hid hy
          clear hga hy hcu
          go_wp2_with fail
          obtain ⟨U, hU⟩ : ∃ U, U = wr.alloc (.cells #[.string x.ro.key, .string x.ro.live.s, .bool x.ro.live.d, .int .i64 x.ro.live.a, .int .i64 x.ro.live.e, .int .i64 x.ro.gone, .int .i64 x.ro.shade, .slice x.A x.ro.cols.length x.c] 36) := ⟨_, rfl⟩
          have hUs : U.heap.size = wr.heap.size + 1 := by rw [hU]; simp
          rw [← hU] at hz hbu hcu2 hiu ⊢
          have hall : ∀ w', Below U.heap.size U w' → BlkAt w' wr.heap.size x ∧ w'.cell? ⟨g0, o0 + u * 8, none⟩ = some (.string y.ro.key) := fun w' hb => ⟨BlkAt.of ((hb.block wr.heap.size (by omega)).trans hz), (hcu2.below hb (show g0 < U.heap.size by omega)).1⟩
          have hin2 : ∀ w', Below U.heap.size U w' → RaIn w' B x := fun w' hb => hiu.below (hb.mono (by have := HB.out.size; omega))
          have HALL := Lib.hid hall; have HBU := Lib.hid hbu; have HU := Lib.hid hu; have HIN := Lib.hid hin2
          have HUB := Lib.hid (show B ≤ U.heap.size by have := HB.out.size; omega)
          clear hall hz hU ha hbu hcu2 hu hiu hin2
          cases u1
          · refine wp_region_held_drew (S := fun w' => Below U.heap.size U w') (by kernel_rfl) ?_ (fun hHeld => ?_)
            · exact (Below.refl _ _).drew
            refine wpAnyH_take (i := 0) (v := ?_) rfl (by kernel_rfl) (by kernel_rfl) (by kernel_rfl) (fun _ _ _ h => h) (Or.inl ⟨by rfl, ?_⟩) (by assumption) ?_
            rotate_left
            · (intro wx hSw; (try dsimp only at hSw); obtain ⟨⟨_, _, _, _, _, _, _, _⟩, _⟩ := HALL.out _ hSw; go_simp; try with_reducible rfl)
            try simp only [Act.put, List.getElem_toArray, List.getElem_cons_succ, List.getElem_cons_zero, List.setIfInBounds_toArray, List.set_cons_zero, List.set_cons_succ]
            refine wpAnyH_ready (rs := [1]) (by kernel_rfl) (by simp) (AllReadyH.cons rfl (fun K hK => ?_) AllReadyH.nil)
            go_simp
            refine (check_ra x B _ ?hin1 ?hsz1 FM.out).mono ?_
            case hin1 => exact HIN.out _ (by first | exact (Below.refl _ _).drew | exact below_draws _ _ _ | exact Below.refl _ _)
            case hsz1 => exact HUB.out
            rintro y v1 ⟨rfl, b1⟩
            rw [U1.out]
            try go_wp2_with fail
            refine hK.out _ _ ?_ (fun hHeld => ?_)
            · exact next (by assumption) b1
            clear hK K
            try simp only [Act.put, List.getElem_toArray, List.getElem_cons_succ, List.getElem_cons_zero, List.setIfInBounds_toArray, List.set_cons_zero, List.set_cons_succ]
            refine wpAnyH_take (i := 2) (v := ?_) rfl (by kernel_rfl) (by kernel_rfl) (by kernel_rfl) (fun _ _ _ h => h) (Or.inl ⟨by rfl, ?_⟩) (by assumption) ?_
            rotate_left
            · (intro wx hSw; (try dsimp only at hSw); go_simp; try with_reducible rfl)
            try simp only [Act.put, List.getElem_toArray, List.getElem_cons_succ, List.getElem_cons_zero, List.setIfInBounds_toArray, List.set_cons_zero, List.set_cons_succ]
            refine wpAnyH_take (i := 3) (v := ?_) rfl (by kernel_rfl) (by kernel_rfl) (by kernel_rfl) (fun _ _ _ h => h) (Or.inl ⟨by rfl, ?_⟩) (by assumption) ?_
            rotate_left
            · (intro wx hSw; (try dsimp only at hSw); go_simp; try with_reducible rfl)
            try simp only [Act.put, List.getElem_toArray, List.getElem_cons_succ, List.getElem_cons_zero, List.setIfInBounds_toArray, List.set_cons_zero, List.set_cons_succ]
            refine wpAnyH_take (i := 4) (v := undef) rfl (by kernel_rfl) (by kernel_rfl) (by kernel_rfl) (fun _ _ _ h => h) (Or.inr ⟨by rfl, rfl⟩) (by assumption) ?_
            try simp only [Act.put, List.getElem_toArray, List.getElem_cons_succ, List.getElem_cons_zero, List.setIfInBounds_toArray, List.set_cons_zero, List.set_cons_succ]
            refine wpAnyH_take (i := 5) (v := undef) rfl (by kernel_rfl) (by kernel_rfl) (by kernel_rfl) (fun _ _ _ h => h) (Or.inr ⟨by rfl, rfl⟩) (by assumption) ?_
            try simp only [Act.put, List.getElem_toArray, List.getElem_cons_succ, List.getElem_cons_zero, List.setIfInBounds_toArray, List.set_cons_zero, List.set_cons_succ]
            refine wpAnyH_take (i := 6) (v := undef) rfl (by kernel_rfl) (by kernel_rfl) (by kernel_rfl) (fun _ _ _ h => h) (Or.inr ⟨by rfl, rfl⟩) (by assumption) ?_
            try simp only [Act.put, List.getElem_toArray, List.getElem_cons_succ, List.getElem_cons_zero, List.setIfInBounds_toArray, List.set_cons_zero, List.set_cons_succ]
            refine wpAnyH_take (i := 7) (v := undef) rfl (by kernel_rfl) (by kernel_rfl) (by kernel_rfl) (fun _ _ _ h => h) (Or.inr ⟨by rfl, rfl⟩) (by assumption) ?_
            try simp only [Act.put, List.getElem_toArray, List.getElem_cons_succ, List.getElem_cons_zero, List.setIfInBounds_toArray, List.set_cons_zero, List.set_cons_succ]
            refine wpAnyH_take (i := 8) (v := undef) rfl (by kernel_rfl) (by kernel_rfl) (by kernel_rfl) (fun _ _ _ h => h) (Or.inr ⟨by rfl, rfl⟩) (by assumption) ?_
            try simp only [Act.put, List.getElem_toArray, List.getElem_cons_succ, List.getElem_cons_zero, List.setIfInBounds_toArray, List.set_cons_zero, List.set_cons_succ]
            refine wpAnyH_take (i := 9) (v := undef) rfl (by kernel_rfl) (by kernel_rfl) (by kernel_rfl) (fun _ _ _ h => h) (Or.inr ⟨by rfl, rfl⟩) (by assumption) ?_
            try simp only [Act.put, List.getElem_toArray, List.getElem_cons_succ, List.getElem_cons_zero, List.setIfInBounds_toArray, List.set_cons_zero, List.set_cons_succ]
            refine wpAnyH_take (i := 10) (v := undef) rfl (by kernel_rfl) (by kernel_rfl) (by kernel_rfl) (fun _ _ _ h => h) (Or.inr ⟨by rfl, rfl⟩) (by assumption) ?_
            try simp only [Act.put, List.getElem_toArray, List.getElem_cons_succ, List.getElem_cons_zero, List.setIfInBounds_toArray, List.set_cons_zero, List.set_cons_succ]
            refine wpAnyH_take (i := 11) (v := undef) rfl (by kernel_rfl) (by kernel_rfl) (by kernel_rfl) (fun _ _ _ h => h) (Or.inr ⟨by rfl, rfl⟩) (by assumption) ?_
            try simp only [Act.put, List.getElem_toArray, List.getElem_cons_succ, List.getElem_cons_zero, List.setIfInBounds_toArray, List.set_cons_zero, List.set_cons_succ]
            refine wpAnyH_take (i := 12) (v := undef) rfl (by kernel_rfl) (by kernel_rfl) (by kernel_rfl) (fun _ _ _ h => h) (Or.inr ⟨by rfl, rfl⟩) (by assumption) ?_
            try simp only [Act.put, List.getElem_toArray, List.getElem_cons_succ, List.getElem_cons_zero, List.setIfInBounds_toArray, List.set_cons_zero, List.set_cons_succ]
            refine wpAnyH_take (i := 13) (v := undef) rfl (by kernel_rfl) (by kernel_rfl) (by kernel_rfl) (fun _ _ _ h => h) (Or.inr ⟨by rfl, rfl⟩) (by assumption) ?_
            try simp only [Act.put, List.getElem_toArray, List.getElem_cons_succ, List.getElem_cons_zero, List.setIfInBounds_toArray, List.set_cons_zero, List.set_cons_succ]
            refine wpAnyH_take (i := 14) (v := undef) rfl (by kernel_rfl) (by kernel_rfl) (by kernel_rfl) (fun _ _ _ h => h) (Or.inr ⟨by rfl, rfl⟩) (by assumption) ?_
            try simp only [Act.put, List.getElem_toArray, List.getElem_cons_succ, List.getElem_cons_zero, List.setIfInBounds_toArray, List.set_cons_zero, List.set_cons_succ]
            refine wpAnyH_take (i := 15) (v := undef) rfl (by kernel_rfl) (by kernel_rfl) (by kernel_rfl) (fun _ _ _ h => h) (Or.inr ⟨by rfl, rfl⟩) (by assumption) ?_
            try simp only [Act.put, List.getElem_toArray, List.getElem_cons_succ, List.getElem_cons_zero, List.setIfInBounds_toArray, List.set_cons_zero, List.set_cons_succ]
            refine wpAnyH_take (i := 16) (v := undef) rfl (by kernel_rfl) (by kernel_rfl) (by kernel_rfl) (fun _ _ _ h => h) (Or.inr ⟨by rfl, rfl⟩) (by assumption) ?_
            try simp only [Act.put, List.getElem_toArray, List.getElem_cons_succ, List.getElem_cons_zero, List.setIfInBounds_toArray, List.set_cons_zero, List.set_cons_succ]
            refine wpAnyH_take (i := 17) (v := ?_) rfl (by kernel_rfl) (by kernel_rfl) (by kernel_rfl) (fun _ _ _ h => h) (Or.inl ⟨by rfl, ?_⟩) (by assumption) ?_
            rotate_left
            · (intro wx hSw; (try dsimp only at hSw); go_simp; try with_reducible rfl)
            try simp only [Act.put, List.getElem_toArray, List.getElem_cons_succ, List.getElem_cons_zero, List.setIfInBounds_toArray, List.set_cons_zero, List.set_cons_succ]
            refine wpAnyH_done (by kernel_rfl) ?_ _
            have hv : r = false := by rw [← HR.out]; exact goodsR_no htr (by rw [HGA.out]; rfl)
            subst hv
            go_wp2
            go_ret
            exact ⟨rfl, next HBU.out hHeld⟩
          · by_cases hp : nlt y.ro.key x.ro.key
            · have hb1 : Op.bytesLess y.ro.key.toList x.ro.key.toList = true := blB_true hp
              have hga2 := HGA.out
              rw [decide_eq_true hp] at hga2
              have HG2 := Lib.hid hga2
              clear hga2
              refine wp_region_held_drew (S := fun w' => Below U.heap.size U w') (by kernel_rfl) ?_ (fun hHeld => ?_)
              · exact (Below.refl _ _).drew
              refine wpAnyH_take (i := 0) (v := ?_) rfl (by kernel_rfl) (by kernel_rfl) (by kernel_rfl) (fun _ _ _ h => h) (Or.inl ⟨by rfl, ?_⟩) (by assumption) ?_
              rotate_left
              · (intro wx hSw; (try dsimp only at hSw); obtain ⟨⟨_, _, _, _, _, _, _, _⟩, _⟩ := HALL.out _ hSw; go_simp; try with_reducible rfl)
              try simp only [Act.put, List.getElem_toArray, List.getElem_cons_succ, List.getElem_cons_zero, List.setIfInBounds_toArray, List.set_cons_zero, List.set_cons_succ]
              refine wpAnyH_ready (rs := [1]) (by kernel_rfl) (by simp) (AllReadyH.cons rfl (fun K hK => ?_) AllReadyH.nil)
              go_simp
              refine (check_ra x B _ ?hin1 ?hsz1 FM.out).mono ?_
              case hin1 => exact HIN.out _ (by first | exact (Below.refl _ _).drew | exact below_draws _ _ _ | exact Below.refl _ _)
              case hsz1 => exact HUB.out
              rintro y v1 ⟨rfl, b1⟩
              rw [U1.out]
              try go_wp2_with fail
              refine hK.out _ _ ?_ (fun hHeld => ?_)
              · exact next (by assumption) b1
              clear hK K
              try simp only [Act.put, List.getElem_toArray, List.getElem_cons_succ, List.getElem_cons_zero, List.setIfInBounds_toArray, List.set_cons_zero, List.set_cons_succ]
              refine wpAnyH_take (i := 2) (v := ?_) rfl (by kernel_rfl) (by kernel_rfl) (by kernel_rfl) (fun _ _ _ h => h) (Or.inl ⟨by rfl, ?_⟩) (by assumption) ?_
              rotate_left
              · (intro wx hSw; (try dsimp only at hSw); go_simp; try with_reducible rfl)
              try simp only [Act.put, List.getElem_toArray, List.getElem_cons_succ, List.getElem_cons_zero, List.setIfInBounds_toArray, List.set_cons_zero, List.set_cons_succ]
              refine wpAnyH_take (i := 3) (v := ?_) rfl (by kernel_rfl) (by kernel_rfl) (by kernel_rfl) (fun _ _ _ h => h) (Or.inl ⟨by rfl, ?_⟩) (by assumption) ?_
              rotate_left
              · (intro wx hSw; (try dsimp only at hSw); go_simp; try with_reducible rfl)
              try simp only [Act.put, List.getElem_toArray, List.getElem_cons_succ, List.getElem_cons_zero, List.setIfInBounds_toArray, List.set_cons_zero, List.set_cons_succ]
              refine wpAnyH_take (i := 4) (v := ?_) rfl (by kernel_rfl) (by kernel_rfl) (by kernel_rfl) (fun _ _ _ h => h) (Or.inl ⟨by rfl, ?_⟩) (by assumption) ?_
              rotate_left
              · (intro wx hSw; (try dsimp only at hSw); go_simp; try with_reducible rfl)
              try simp only [Act.put, List.getElem_toArray, List.getElem_cons_succ, List.getElem_cons_zero, List.setIfInBounds_toArray, List.set_cons_zero, List.set_cons_succ]
              refine wpAnyH_take (i := 5) (v := ?_) rfl (by kernel_rfl) (by kernel_rfl) (by kernel_rfl) (fun _ _ _ h => h) (Or.inl ⟨by rfl, ?_⟩) (by assumption) ?_
              rotate_left
              · (intro wx hSw; (try dsimp only at hSw); go_simp; try with_reducible rfl)
              try simp only [Act.put, List.getElem_toArray, List.getElem_cons_succ, List.getElem_cons_zero, List.setIfInBounds_toArray, List.set_cons_zero, List.set_cons_succ]
              refine wpAnyH_take (i := 6) (v := ?_) rfl (by kernel_rfl) (by kernel_rfl) (by kernel_rfl) (fun _ _ _ h => h) (Or.inl ⟨by rfl, ?_⟩) (by assumption) ?_
              rotate_left
              · (intro wx hSw; (try dsimp only at hSw); go_simp; try with_reducible rfl)
              try simp only [Act.put, List.getElem_toArray, List.getElem_cons_succ, List.getElem_cons_zero, List.setIfInBounds_toArray, List.set_cons_zero, List.set_cons_succ]
              refine wpAnyH_take (i := 7) (v := ?_) rfl (by kernel_rfl) (by kernel_rfl) (by kernel_rfl) (fun _ _ _ h => h) (Or.inl ⟨by rfl, ?_⟩) (by assumption) ?_
              rotate_left
              · (intro wx hSw; (try dsimp only at hSw); go_simp; try with_reducible rfl)
              try simp only [Act.put, List.getElem_toArray, List.getElem_cons_succ, List.getElem_cons_zero, List.setIfInBounds_toArray, List.set_cons_zero, List.set_cons_succ]
              refine wpAnyH_take (i := 8) (v := ?_) rfl (by kernel_rfl) (by kernel_rfl) (by kernel_rfl) (fun _ _ _ h => h) (Or.inl ⟨by rfl, ?_⟩) (by assumption) ?_
              rotate_left
              · (intro wx hSw; (try dsimp only at hSw); go_simp; try with_reducible rfl)
              try simp only [Act.put, List.getElem_toArray, List.getElem_cons_succ, List.getElem_cons_zero, List.setIfInBounds_toArray, List.set_cons_zero, List.set_cons_succ]
              refine wpAnyH_take (i := 9) (v := ?_) rfl (by kernel_rfl) (by kernel_rfl) (by kernel_rfl) (fun _ _ _ h => h) (Or.inl ⟨by rfl, ?_⟩) (by assumption) ?_
              rotate_left
              · (intro wx hSw; (try dsimp only at hSw); go_simp; try with_reducible rfl)
              try simp only [Act.put, List.getElem_toArray, List.getElem_cons_succ, List.getElem_cons_zero, List.setIfInBounds_toArray, List.set_cons_zero, List.set_cons_succ]
              refine wpAnyH_take (i := 10) (v := ?_) rfl (by kernel_rfl) (by kernel_rfl) (by kernel_rfl) (fun _ _ _ h => h) (Or.inl ⟨by rfl, ?_⟩) (by assumption) ?_
              rotate_left
              · (intro wx hSw; (try dsimp only at hSw); go_simp; try with_reducible rfl)
              try simp only [Act.put, List.getElem_toArray, List.getElem_cons_succ, List.getElem_cons_zero, List.setIfInBounds_toArray, List.set_cons_zero, List.set_cons_succ]
              refine wpAnyH_take (i := 11) (v := ?_) rfl (by kernel_rfl) (by kernel_rfl) (by kernel_rfl) (fun _ _ _ h => h) (Or.inl ⟨by rfl, ?_⟩) (by assumption) ?_
              rotate_left
              · (intro wx hSw; (try dsimp only at hSw); go_simp; try with_reducible rfl)
              try simp only [Act.put, List.getElem_toArray, List.getElem_cons_succ, List.getElem_cons_zero, List.setIfInBounds_toArray, List.set_cons_zero, List.set_cons_succ]
              refine wpAnyH_take (i := 12) (v := ?_) rfl (by kernel_rfl) (by kernel_rfl) (by kernel_rfl) (fun _ _ _ h => h) (Or.inl ⟨by rfl, ?_⟩) (by assumption) ?_
              rotate_left
              · (intro wx hSw; (try dsimp only at hSw); obtain ⟨⟨_, _, _, _, _, _, _, _⟩, _⟩ := HALL.out _ hSw; go_simp; try with_reducible rfl)
              try simp only [Act.put, List.getElem_toArray, List.getElem_cons_succ, List.getElem_cons_zero, List.setIfInBounds_toArray, List.set_cons_zero, List.set_cons_succ]
              refine wpAnyH_take (i := 13) (v := ?_) rfl (by kernel_rfl) (by kernel_rfl) (by kernel_rfl) (fun _ _ _ h => h) (Or.inl ⟨by rfl, ?_⟩) (by assumption) ?_
              rotate_left
              · (intro wx hSw; (try dsimp only at hSw); go_simp; try with_reducible rfl)
              try simp only [Act.put, List.getElem_toArray, List.getElem_cons_succ, List.getElem_cons_zero, List.setIfInBounds_toArray, List.set_cons_zero, List.set_cons_succ]
              refine wpAnyH_take (i := 14) (v := ?_) rfl (by kernel_rfl) (by kernel_rfl) (by kernel_rfl) (fun _ _ _ h => h) (Or.inl ⟨by rfl, ?_⟩) (by assumption) ?_
              rotate_left
              · (intro wx hSw; (try dsimp only at hSw); obtain ⟨⟨_, _, _, _, _, _, _, _⟩, _⟩ := HALL.out _ hSw; go_simp; try with_reducible rfl)
              try simp only [Act.put, List.getElem_toArray, List.getElem_cons_succ, List.getElem_cons_zero, List.setIfInBounds_toArray, List.set_cons_zero, List.set_cons_succ]
              refine wpAnyH_take (i := 15) (v := ?_) rfl (by kernel_rfl) (by kernel_rfl) (by kernel_rfl) (fun _ _ _ h => h) (Or.inl ⟨by rfl, ?_⟩) (by assumption) ?_
              rotate_left
              · (intro wx hSw; (try dsimp only at hSw); go_simp; try with_reducible rfl)
              try simp only [Act.put, List.getElem_toArray, List.getElem_cons_succ, List.getElem_cons_zero, List.setIfInBounds_toArray, List.set_cons_zero, List.set_cons_succ]
              refine wpAnyH_take (i := 16) (v := ?_) rfl (by kernel_rfl) (by kernel_rfl) (by kernel_rfl) (fun _ _ _ h => h) (Or.inl ⟨by rfl, ?_⟩) (by assumption) ?_
              rotate_left
              · (intro wx hSw; (try dsimp only at hSw); go_simp; try with_reducible rfl)
              try simp only [Act.put, List.getElem_toArray, List.getElem_cons_succ, List.getElem_cons_zero, List.setIfInBounds_toArray, List.set_cons_zero, List.set_cons_succ]
              refine wpAnyH_take (i := 17) (v := ?_) rfl (by kernel_rfl) (by kernel_rfl) (by kernel_rfl) (fun _ _ _ h => h) (Or.inl ⟨by rfl, ?_⟩) (by assumption) ?_
              rotate_left
              · (intro wx hSw; (try dsimp only at hSw); go_simp; try with_reducible rfl)
              try simp only [Act.put, List.getElem_toArray, List.getElem_cons_succ, List.getElem_cons_zero, List.setIfInBounds_toArray, List.set_cons_zero, List.set_cons_succ]
              refine wpAnyH_done (by kernel_rfl) ?_ _
              go_wp2
              go_roundw
              case rel => exact ⟨t + 1, by omega, by go_num, goodsR_step HG.out HG2.out, next HBU.out hHeld⟩
              case measure => simp [intOf]; omega
            · have hb1 : Op.bytesLess y.ro.key.toList x.ro.key.toList = false := blB_false hp
              have hv : r = false := by rw [← HR.out]; exact goodsR_no htr (by rw [HGA.out, decide_eq_false hp]; rfl)
              subst hv
              refine wp_region_held_drew (S := fun w' => Below U.heap.size U w') (by kernel_rfl) ?_ (fun hHeld => ?_)
              · exact (Below.refl _ _).drew
              refine wpAnyH_take (i := 0) (v := ?_) rfl (by kernel_rfl) (by kernel_rfl) (by kernel_rfl) (fun _ _ _ h => h) (Or.inl ⟨by rfl, ?_⟩) (by assumption) ?_
              rotate_left
              · (intro wx hSw; (try dsimp only at hSw); obtain ⟨⟨_, _, _, _, _, _, _, _⟩, _⟩ := HALL.out _ hSw; go_simp; try with_reducible rfl)
              try simp only [Act.put, List.getElem_toArray, List.getElem_cons_succ, List.getElem_cons_zero, List.setIfInBounds_toArray, List.set_cons_zero, List.set_cons_succ]
              refine wpAnyH_ready (rs := [1]) (by kernel_rfl) (by simp) (AllReadyH.cons rfl (fun K hK => ?_) AllReadyH.nil)
              go_simp
              refine (check_ra x B _ ?hin1 ?hsz1 FM.out).mono ?_
              case hin1 => exact HIN.out _ (by first | exact (Below.refl _ _).drew | exact below_draws _ _ _ | exact Below.refl _ _)
              case hsz1 => exact HUB.out
              rintro y v1 ⟨rfl, b1⟩
              rw [U1.out]
              try go_wp2_with fail
              refine hK.out _ _ ?_ (fun hHeld => ?_)
              · exact next (by assumption) b1
              clear hK K
              try simp only [Act.put, List.getElem_toArray, List.getElem_cons_succ, List.getElem_cons_zero, List.setIfInBounds_toArray, List.set_cons_zero, List.set_cons_succ]
              refine wpAnyH_take (i := 2) (v := ?_) rfl (by kernel_rfl) (by kernel_rfl) (by kernel_rfl) (fun _ _ _ h => h) (Or.inl ⟨by rfl, ?_⟩) (by assumption) ?_
              rotate_left
              · (intro wx hSw; (try dsimp only at hSw); go_simp; try with_reducible rfl)
              try simp only [Act.put, List.getElem_toArray, List.getElem_cons_succ, List.getElem_cons_zero, List.setIfInBounds_toArray, List.set_cons_zero, List.set_cons_succ]
              refine wpAnyH_take (i := 3) (v := ?_) rfl (by kernel_rfl) (by kernel_rfl) (by kernel_rfl) (fun _ _ _ h => h) (Or.inl ⟨by rfl, ?_⟩) (by assumption) ?_
              rotate_left
              · (intro wx hSw; (try dsimp only at hSw); go_simp; try with_reducible rfl)
              try simp only [Act.put, List.getElem_toArray, List.getElem_cons_succ, List.getElem_cons_zero, List.setIfInBounds_toArray, List.set_cons_zero, List.set_cons_succ]
              refine wpAnyH_take (i := 4) (v := ?_) rfl (by kernel_rfl) (by kernel_rfl) (by kernel_rfl) (fun _ _ _ h => h) (Or.inl ⟨by rfl, ?_⟩) (by assumption) ?_
              rotate_left
              · (intro wx hSw; (try dsimp only at hSw); go_simp; try with_reducible rfl)
              try simp only [Act.put, List.getElem_toArray, List.getElem_cons_succ, List.getElem_cons_zero, List.setIfInBounds_toArray, List.set_cons_zero, List.set_cons_succ]
              refine wpAnyH_take (i := 5) (v := ?_) rfl (by kernel_rfl) (by kernel_rfl) (by kernel_rfl) (fun _ _ _ h => h) (Or.inl ⟨by rfl, ?_⟩) (by assumption) ?_
              rotate_left
              · (intro wx hSw; (try dsimp only at hSw); go_simp; try with_reducible rfl)
              try simp only [Act.put, List.getElem_toArray, List.getElem_cons_succ, List.getElem_cons_zero, List.setIfInBounds_toArray, List.set_cons_zero, List.set_cons_succ]
              refine wpAnyH_take (i := 6) (v := ?_) rfl (by kernel_rfl) (by kernel_rfl) (by kernel_rfl) (fun _ _ _ h => h) (Or.inl ⟨by rfl, ?_⟩) (by assumption) ?_
              rotate_left
              · (intro wx hSw; (try dsimp only at hSw); go_simp; try with_reducible rfl)
              try simp only [Act.put, List.getElem_toArray, List.getElem_cons_succ, List.getElem_cons_zero, List.setIfInBounds_toArray, List.set_cons_zero, List.set_cons_succ]
              refine wpAnyH_take (i := 7) (v := ?_) rfl (by kernel_rfl) (by kernel_rfl) (by kernel_rfl) (fun _ _ _ h => h) (Or.inl ⟨by rfl, ?_⟩) (by assumption) ?_
              rotate_left
              · (intro wx hSw; (try dsimp only at hSw); go_simp; try with_reducible rfl)
              try simp only [Act.put, List.getElem_toArray, List.getElem_cons_succ, List.getElem_cons_zero, List.setIfInBounds_toArray, List.set_cons_zero, List.set_cons_succ]
              refine wpAnyH_take (i := 8) (v := ?_) rfl (by kernel_rfl) (by kernel_rfl) (by kernel_rfl) (fun _ _ _ h => h) (Or.inl ⟨by rfl, ?_⟩) (by assumption) ?_
              rotate_left
              · (intro wx hSw; (try dsimp only at hSw); go_simp; try with_reducible rfl)
              try simp only [Act.put, List.getElem_toArray, List.getElem_cons_succ, List.getElem_cons_zero, List.setIfInBounds_toArray, List.set_cons_zero, List.set_cons_succ]
              refine wpAnyH_take (i := 9) (v := ?_) rfl (by kernel_rfl) (by kernel_rfl) (by kernel_rfl) (fun _ _ _ h => h) (Or.inl ⟨by rfl, ?_⟩) (by assumption) ?_
              rotate_left
              · (intro wx hSw; (try dsimp only at hSw); go_simp; try with_reducible rfl)
              try simp only [Act.put, List.getElem_toArray, List.getElem_cons_succ, List.getElem_cons_zero, List.setIfInBounds_toArray, List.set_cons_zero, List.set_cons_succ]
              refine wpAnyH_take (i := 10) (v := ?_) rfl (by kernel_rfl) (by kernel_rfl) (by kernel_rfl) (fun _ _ _ h => h) (Or.inl ⟨by rfl, ?_⟩) (by assumption) ?_
              rotate_left
              · (intro wx hSw; (try dsimp only at hSw); go_simp; try with_reducible rfl)
              try simp only [Act.put, List.getElem_toArray, List.getElem_cons_succ, List.getElem_cons_zero, List.setIfInBounds_toArray, List.set_cons_zero, List.set_cons_succ]
              refine wpAnyH_take (i := 11) (v := ?_) rfl (by kernel_rfl) (by kernel_rfl) (by kernel_rfl) (fun _ _ _ h => h) (Or.inl ⟨by rfl, ?_⟩) (by assumption) ?_
              rotate_left
              · (intro wx hSw; (try dsimp only at hSw); go_simp; try with_reducible rfl)
              try simp only [Act.put, List.getElem_toArray, List.getElem_cons_succ, List.getElem_cons_zero, List.setIfInBounds_toArray, List.set_cons_zero, List.set_cons_succ]
              refine wpAnyH_take (i := 12) (v := ?_) rfl (by kernel_rfl) (by kernel_rfl) (by kernel_rfl) (fun _ _ _ h => h) (Or.inl ⟨by rfl, ?_⟩) (by assumption) ?_
              rotate_left
              · (intro wx hSw; (try dsimp only at hSw); obtain ⟨⟨_, _, _, _, _, _, _, _⟩, _⟩ := HALL.out _ hSw; go_simp; try with_reducible rfl)
              try simp only [Act.put, List.getElem_toArray, List.getElem_cons_succ, List.getElem_cons_zero, List.setIfInBounds_toArray, List.set_cons_zero, List.set_cons_succ]
              refine wpAnyH_take (i := 13) (v := ?_) rfl (by kernel_rfl) (by kernel_rfl) (by kernel_rfl) (fun _ _ _ h => h) (Or.inl ⟨by rfl, ?_⟩) (by assumption) ?_
              rotate_left
              · (intro wx hSw; (try dsimp only at hSw); go_simp; try with_reducible rfl)
              try simp only [Act.put, List.getElem_toArray, List.getElem_cons_succ, List.getElem_cons_zero, List.setIfInBounds_toArray, List.set_cons_zero, List.set_cons_succ]
              refine wpAnyH_take (i := 14) (v := ?_) rfl (by kernel_rfl) (by kernel_rfl) (by kernel_rfl) (fun _ _ _ h => h) (Or.inl ⟨by rfl, ?_⟩) (by assumption) ?_
              rotate_left
              · (intro wx hSw; (try dsimp only at hSw); obtain ⟨⟨_, _, _, _, _, _, _, _⟩, _⟩ := HALL.out _ hSw; go_simp; try with_reducible rfl)
              try simp only [Act.put, List.getElem_toArray, List.getElem_cons_succ, List.getElem_cons_zero, List.setIfInBounds_toArray, List.set_cons_zero, List.set_cons_succ]
              refine wpAnyH_take (i := 15) (v := ?_) rfl (by kernel_rfl) (by kernel_rfl) (by kernel_rfl) (fun _ _ _ h => h) (Or.inl ⟨by rfl, ?_⟩) (by assumption) ?_
              rotate_left
              · (intro wx hSw; (try dsimp only at hSw); go_simp; try with_reducible rfl)
              try simp only [Act.put, List.getElem_toArray, List.getElem_cons_succ, List.getElem_cons_zero, List.setIfInBounds_toArray, List.set_cons_zero, List.set_cons_succ]
              refine wpAnyH_take (i := 16) (v := ?_) rfl (by kernel_rfl) (by kernel_rfl) (by kernel_rfl) (fun _ _ _ h => h) (Or.inl ⟨by rfl, ?_⟩) (by assumption) ?_
              rotate_left
              · (intro wx hSw; (try dsimp only at hSw); go_simp; try with_reducible rfl)
              try simp only [Act.put, List.getElem_toArray, List.getElem_cons_succ, List.getElem_cons_zero, List.setIfInBounds_toArray, List.set_cons_zero, List.set_cons_succ]
              refine wpAnyH_take (i := 17) (v := ?_) rfl (by kernel_rfl) (by kernel_rfl) (by kernel_rfl) (fun _ _ _ h => h) (Or.inl ⟨by rfl, ?_⟩) (by assumption) ?_
              rotate_left
              · (intro wx hSw; (try dsimp only at hSw); go_simp; try with_reducible rfl)
              try simp only [Act.put, List.getElem_toArray, List.getElem_cons_succ, List.getElem_cons_zero, List.setIfInBounds_toArray, List.set_cons_zero, List.set_cons_succ]
              refine wpAnyH_done (by kernel_rfl) ?_ _
              go_wp2
              go_ret
              exact ⟨rfl, next HBU.out hHeld⟩
      · obtain rfl : t = n := by omega
        have hv : r = true := by rw [← HR.out]; unfold rowsB; rw [List.length_map, HL.out]; exact HG.out
        subst hv
        go_wp2
        go_ret
        exact ⟨rfl, HB.out⟩
  · have d0 : decide ((100 : Int) < (n : Nat)) = true := by simp; omega
    have hv : r = false := by rw [← hr, decide_eq_false h8]; rfl
    subst hv
    go_enter Try.func30, Try.ntmps30
    go_wp2
    go_ret
    exact ⟨rfl, Below.refl _ _⟩
end Go.Proofs.Ytafbbojfifcncaa
set_option linter.unusedVariables false
set_option linter.unusedSimpArgs false
namespace Go.Proofs.Ytafbbojfifcncaa
open Go Go.RowKit

set_option maxRecDepth 8000 in
set_option maxHeartbeats 4000000 in
theorem pcheck_any (k : ByteArray) (g : Int) (A : Option Addr) (n c B : Nat) (L : List RA) (w : World) (h : Lies w B A n c L) (hB : B ≤ w.heap.size) (hn : n ≤ 1000000000) (hf : FewR L) :
    Calls Try.prog 10 #[.agg #[.string k, .int .i64 g, .slice A n c]] w fun x w' => x = .returned (.bool (Pa.ok ⟨k, g, ros L⟩)) ∧ Below w.heap.size w w' := by
  obtain ⟨r, hrr⟩ : ∃ r, Pa.ok ⟨k, g, ros L⟩ = r := ⟨_, rfl⟩
  rw [hrr]
  unfold Pa.ok at hrr
  simp only at hrr
  rw [List.length_map, h.len] at hrr
  obtain ⟨u1, hu1⟩ : ∃ u, decide (k.size ≤ 100) = u := ⟨_, rfl⟩
  have hu1i : decide (((k.size : Nat) : Int) ≤ 100) = u1 := by rw [← hu1]; simp; omega
  obtain ⟨u2, hu2⟩ : ∃ u, stm g = u := ⟨_, rfl⟩
  obtain ⟨u3, hu3⟩ : ∃ u, (decide (n ≤ 100) && rowsB (ros L)) = u := ⟨_, rfl⟩
  rw [hu1, hu2, hu3] at hrr
  have RR := Lib.hid hrr; have U2 := Lib.hid hu2; have U3 := Lib.hid hu3
  have bz := (Below.refl w.heap.size w).alloc (Nat.le_refl _) (.cells #[.string k, .int .i64 g, .slice A n c] 24)
  have hz := heap_alloc_new w (.cells #[.string k, .int .i64 g, .slice A n c] 24)
  have HL := Lib.hid (h.below (bz.mono hB)); have HF := Lib.hid hf; have BZ := Lib.hid bz
  obtain ⟨_, _, _⟩ := PtAt.of hz
  clear hrr hu2 hu3 bz hz h hf
  go_enter Try.func10, Try.ntmps10
  cases u1
  · have hv : r = false := by rw [← RR.out]; rfl
    subst hv
    go_wp2
    go_ret
    exact ⟨rfl, BZ.out⟩
  · go_wp2_with fail
    refine (pstamp_any g _).mono ?_
    rintro e w1 ⟨rfl, rfl⟩
    rw [U2.out]
    cases u2
    · have hv : r = false := by rw [← RR.out]; rfl
      subst hv
      go_wp2
      go_ret
      exact ⟨rfl, BZ.out⟩
    · go_wp2_with fail
      refine (rows_any A n c B L _ HL.out (by simp; omega) hn HF.out).mono ?_
      rintro e w2 ⟨rfl, b2⟩
      rw [U3.out]
      have hv : u3 = r := by rw [← RR.out]; rfl
      subst hv
      go_wp2
      go_ret
      exact ⟨rfl, next BZ.out b2⟩
end Go.Proofs.Ytafbbojfifcncaa
set_option linter.unusedVariables false
set_option linter.unusedSimpArgs false
namespace Go.Proofs.Ytafbbojfifcncaa
open Go Go.RowKit

/-- A row that is there since a stamp, with nothing else. -/
def liveR (k : ByteArray) (a : Int) : Ro := ⟨k, ⟨⟨#[]⟩, false, a, 0⟩, 0, 0, []⟩
def liveA (k : ByteArray) (a : Int) : RA := ⟨liveR k a, none, 0⟩
theorem liveA_in (k : ByteArray) (a : Int) (w : World) (B : Nat) : RaIn w B (liveA k a) := ⟨RdK.nil _ _ _, Nat.le_refl _⟩
theorem liveR_up (k : ByteArray) (a : Int) : (liveR k a).Up := ⟨trivial, fun x hx => by cases hx⟩
theorem two_rows (w : World) (k k' : ByteArray) (a a' : Int) (W : World) (hW : W = w.alloc (.cells #[.string k, .string ⟨#[]⟩, .bool false, .int .i64 a, .int .i64 0, .int .i64 0, .int .i64 0, .slice none 0 0, .string k', .string ⟨#[]⟩, .bool false, .int .i64 a', .int .i64 0, .int .i64 0, .int .i64 0, .slice none 0 0] 36)) :
    Lies W (w.heap.size + 1) (some ⟨w.heap.size, 0, none⟩) 2 2 [liveA k a, liveA k' a'] := by
  subst hW
  refine ⟨RdR.of_all rfl (by omega) fun j u hu => ?_, fun x hx => ?_, Nat.le_refl _⟩
  · have e : rRow [liveA k a, liveA k' a'] = [.string k, .string ⟨#[]⟩, .bool false, .int .i64 a, .int .i64 0, .int .i64 0, .int .i64 0, .slice none 0 0, .string k', .string ⟨#[]⟩, .bool false, .int .i64 a', .int .i64 0, .int .i64 0, .int .i64 0, .slice none 0 0] := rfl
    rw [e] at hu
    rw [Nat.zero_add]
    exact cell_at (heap_alloc_new w _) (by simpa using hu)
  · simp only [List.mem_cons, List.not_mem_nil, or_false] at hx
    rcases hx with rfl | rfl <;> exact liveA_in _ _ _ _
def awR : List Ro := [liveR ⟨#[114]⟩ 8, liveR ⟨#[115]⟩ 10]
theorem awR_up (k : ByteArray) (g : Int) : (Pa.mk k g awR).Up := by
  refine ⟨⟨fun y hy => ?_, fun y hy => (by cases hy), trivial⟩, fun x hx => ?_⟩
  · rw [List.mem_singleton.1 hy]
    show nlt ⟨#[114]⟩ ⟨#[115]⟩
    decide
  · simp only [awR, List.mem_cons, List.not_mem_nil, or_false] at hx
    rcases hx with rfl | rfl <;> exact liveR_up _ _
theorem awR_seen : seenR 9 0 true awR = [liveR ⟨#[115]⟩ 10] := by rfl
theorem awR_stamp : stampR 9 awR = 10 := by rfl
theorem awR_cols : ∀ r ∈ awR, r.cols.length ≤ 1000 := by
  intro r hr
  simp only [awR, List.mem_cons, List.not_mem_nil, or_false] at hr
  rcases hr with rfl | rfl <;> exact Nat.zero_le _
set_option maxRecDepth 8000 in
set_option maxHeartbeats 8000000 in
theorem pawake_any (w : World) : Calls Try.prog 9 #[] w fun x w' => x = .returned (.bool true) ∧ Below w.heap.size w w' := by
  obtain ⟨W1, hW1⟩ : ∃ W, W = w.alloc (.cells #[.string ⟨#[114]⟩, .string ⟨#[]⟩, .bool false, .int .i64 8, .int .i64 0, .int .i64 0, .int .i64 0, .slice none 0 0, .string ⟨#[115]⟩, .string ⟨#[]⟩, .bool false, .int .i64 10, .int .i64 0, .int .i64 0, .int .i64 0, .slice none 0 0] 36) := ⟨_, rfl⟩
  have hl := two_rows w ⟨#[114]⟩ ⟨#[115]⟩ 8 10 W1 hW1
  have hb1 : Below w.heap.size w W1 := by rw [hW1]; exact (Below.refl _ _).alloc (Nat.le_refl _) _
  have hs1 : W1.heap.size = w.heap.size + 1 := by rw [hW1]; simp
  have HL := Lib.hid hl; have HB1 := Lib.hid hb1; have HS1 := Lib.hid hs1
  clear hl hb1 hs1
  go_enter Try.func9, Try.ntmps9
  go_wp2_with fail
  rw [← hW1]
  clear hW1
  refine (pjoin_fits ⟨#[107]⟩ ⟨#[120]⟩ 0 9 _ _ 2 0 2 0 (w.heap.size + 1) 0 [liveA ⟨#[114]⟩ 8, liveA ⟨#[115]⟩ 10] [] _ (HL.out.below ((Below.refl _ _).alloc (by have := HS1.out; omega) _)) ⟨RdR.nil _ _ _, fun x hx => (by cases hx), Nat.le_refl _⟩ (by simp; have := HS1.out; omega) (Nat.zero_le _) (by omega) (awR_up _ _) ⟨trivial, fun x hx => (by cases hx)⟩ (by decide) awR rfl (by decide)).mono ?_
  rintro e w2 ⟨M, A2, n2, c2, rfl, hM, hfr⟩
  obtain ⟨hn2, hl2, hA2⟩ := hfr.lies
  have hb2 := next (HB1.out.alloc (by have := HS1.out; omega) (.cells #[.string ⟨#[107]⟩, .int .i64 0, .slice (some ⟨w.heap.size, 0, none⟩) 2 2] 24)) hfr.below
  have hml : n2 = 2 := by rw [hn2, ← List.length_map (f := RA.ro), show List.map RA.ro M = awR from hM]; rfl
  subst hml
  have HL2 := Lib.hid hl2; have HM := Lib.hid hM; have HB2 := Lib.hid hb2
  clear hfr hl2 hM hb2 hn2 hA2
  rw [show max (0 : Int) 9 = 9 from rfl]
  obtain ⟨W3, hW3⟩ : ∃ W, W = w2.alloc (.cells #[.string ⟨#[107]⟩, .int .i64 9, .slice A2 2 c2] 24) := ⟨_, rfl⟩
  have hb3 : Below w2.heap.size w2 W3 := by rw [hW3]; exact (Below.refl _ _).alloc (Nat.le_refl _) _
  have hz3 : W3.heap[w2.heap.size]? = some (.cells #[.string ⟨#[107]⟩, .int .i64 9, .slice A2 2 c2] 24 (0, 0)) := by rw [hW3]; exact heap_alloc_new w2 _
  have HL3 := Lib.hid (HL2.out.below hb3); have HB3 := Lib.hid (next HB2.out hb3); have HS3 := Lib.hid hb3.size; have HZ3 := Lib.hid hz3
  have hlt3 := (Array.getElem?_eq_some_iff.1 hz3).1
  have HMF : Hid (∀ x ∈ M, x.ro.cols.length ≤ 1000) := Lib.hid fun x hx => awR_cols x.ro (by rw [← HM.out]; exact List.mem_map.2 ⟨x, hx, rfl⟩)
  obtain ⟨_, _, _⟩ := PtAt.of hz3
  clear hb3 hz3
  go_wp2_with fail
  rw [← hW3]
  clear hW3
  go_wp2_with fail
  refine (pseen_any ⟨#[107]⟩ 9 0 true A2 2 c2 w2.heap.size M _ HL3.out HS3.out (by omega) HMF.out).mono ?_
  rintro e w4 ⟨v, M4, rfl, hM4, hown⟩
  rw [HM.out, awR_seen] at hM4
  obtain ⟨y, rfl⟩ : ∃ y, M4 = [y] := by
    match M4, congrArg List.length hM4 with
    | [y], _ => exact ⟨y, rfl⟩
  have hy : y.ro = liveR ⟨#[115]⟩ 10 := by simpa [ros] using hM4
  obtain ⟨A4, c4, rfl, hcap4, _⟩ := hown.slice
  obtain ⟨g4, rfl, _, _, hrow, _⟩ := hown.row (j := 0) (by simp)
  simp only [List.getElem_cons_zero, Nat.zero_mul] at hrow
  have hk0 := hrow.1
  rw [hy, show (liveR ⟨#[115]⟩ 10).key = ⟨#[115]⟩ from rfl] at hk0
  have hb4 := next HB3.out hown.below
  have HZ4 := Lib.hid ((hown.below.block w2.heap.size hlt3).trans HZ3.out); have HL4 := Lib.hid (HL3.out.below (hown.below.mono HS3.out)); have HB4 := Lib.hid hb4; have HS4 := Lib.hid (Nat.le_trans HS3.out hown.below.size)
  obtain ⟨_, _, _⟩ := PtAt.of HZ4.out
  simp only [List.length_cons, List.length_nil, Nat.zero_add]
  clear hown hrow hb4 hM4 hy
  go_wp2_with fail
  refine (pstampall_any ⟨#[107]⟩ 9 A2 2 c2 w2.heap.size M _ HL4.out HS4.out (by omega) HMF.out).mono ?_
  rintro e w5 ⟨rfl, b5⟩
  rw [HM.out, awR_stamp]
  have HB5 := Lib.hid (next HB4.out b5)
  clear b5
  go_wp2
  go_ret
  exact ⟨rfl, HB5.out⟩
def kb (a b c : Nat) : ByteArray := ⟨#[UInt8.ofNat (48 + a), UInt8.ofNat (48 + b), UInt8.ofNat (48 + c)]⟩
set_option maxRecDepth 8000 in
set_option maxHeartbeats 4000000 in
theorem key_any (n : Nat) (i : Int) (hi : i = (n : Int)) (hn : n < 1000) (w : World) : Calls Try.prog 27 #[.int .i64 i] w fun x w' => x = .returned (.string (kb (n / 100 % 10) (n / 10 % 10) (n % 10))) ∧ Below w.heap.size w w' := by
  have i0 : 0 ≤ i := by omega
  have i1 : i < 1000 := by omega
  have hcells : (#[Value.int .u8 (48 + (n : Int) / 100 % 10), Value.int .u8 (48 + (n : Int) / 10 % 10), Value.int .u8 (48 + (n : Int) % 10)] : Array Value).toList = Lib.byteCells [UInt8.ofNat (48 + n / 100 % 10), UInt8.ofNat (48 + n / 10 % 10), UInt8.ofNat (48 + n % 10)] := by
    simp only [Lib.byteCells, List.map_cons, List.map_nil, UInt8.toNat_ofNat']
    refine List.cons_eq_cons.2 ⟨?_, List.cons_eq_cons.2 ⟨?_, List.cons_eq_cons.2 ⟨?_, rfl⟩⟩⟩ <;> congr 1 <;> omega
  have hrd := Rd.laid (heap_alloc_new w (.cells #[Value.int .u8 (48 + (n : Int) / 100 % 10), Value.int .u8 (48 + (n : Int) / 10 % 10), Value.int .u8 (48 + (n : Int) % 10)] 5)) hcells
  obtain ⟨K, hK⟩ : ∃ K, kb (n / 100 % 10) (n / 10 % 10) (n % 10) = K := ⟨_, rfl⟩
  have hcv := cv_asE (n := 3) hrd 3 K (by rw [← hK]; rfl)
  rw [hK]
  have bz := Lib.hid ((Below.refl w.heap.size w).alloc (Nat.le_refl _) (.cells #[Value.int .u8 (48 + (n : Int) / 100 % 10), Value.int .u8 (48 + (n : Int) / 10 % 10), Value.int .u8 (48 + (n : Int) % 10)] 5))
  clear hcells hrd hK
  go_enter Try.func27, Try.ntmps27
  go_wp2
  go_ret
  exact ⟨rfl, bz.out⟩
end Go.Proofs.Ytafbbojfifcncaa
set_option linter.unusedVariables false
set_option linter.unusedSimpArgs false
namespace Go.Proofs.Ytafbbojfifcncaa
open Go Go.RowKit

def keyN (i : Nat) : ByteArray := kb (i / 100 % 10) (i / 10 % 10) (i % 10)
theorem ofNat_lt {x y : Nat} (h : x < y) (hy : y < 256) : UInt8.ofNat x < UInt8.ofNat y := by
  rw [UInt8.lt_iff_toNat_lt, UInt8.toNat_ofNat', UInt8.toNat_ofNat']
  omega
theorem keyN_lt {i j : Nat} (h : i < j) (hj : j < 1000) : nlt (keyN i) (keyN j) := by
  unfold nlt keyN kb
  simp only [List.cons_lt_cons_iff]
  have h1 : i / 100 % 10 < j / 100 % 10 ∨ (i / 100 % 10 = j / 100 % 10 ∧ (i / 10 % 10 < j / 10 % 10 ∨ (i / 10 % 10 = j / 10 % 10 ∧ i % 10 < j % 10))) := by omega
  rcases h1 with h1 | ⟨h1, h2 | ⟨h2, h3⟩⟩
  · exact Or.inl (ofNat_lt (by omega) (by omega))
  · exact Or.inr ⟨by rw [h1], Or.inl (ofNat_lt (by omega) (by omega))⟩
  · exact Or.inr ⟨by rw [h1], Or.inr ⟨by rw [h2], Or.inl (ofNat_lt (by omega) (by omega))⟩⟩
theorem keyN_inj {i j : Nat} (hi : i < 1000) (hj : j < 1000) (h : keyN i = keyN j) : i = j := by
  rcases Nat.lt_trichotomy i j with h1 | h1 | h1
  · exact absurd h (nlt_ne (keyN_lt h1 hj))
  · exact h1
  · exact absurd h.symm (nlt_ne (keyN_lt h1 hi))
theorem keyN_size (i : Nat) : (keyN i).size = 3 := rfl
/-- Put behind all the others. -/
theorem putR_end : ∀ {l : List Ro} {c : Ro}, (∀ x ∈ l, nlt x.key c.key) → putK Ro.key Ro.join l c = l ++ [c]
  | [], c, _ => rfl
  | x :: l, c, h => by
    unfold putK
    rw [if_pos (h x (List.mem_cons_self ..)), putR_end fun y hy => h y (List.mem_cons_of_mem _ hy)]
    rfl
/-- Rows that are there since some stamp, of the numbers' keys below i; m of them are above g. -/
structure GRows (g : Int) (i m : Nat) (R : List Ro) : Prop where
  rise : RiseR R
  all : ∀ r ∈ R, ∃ j a, j < i ∧ r = liveR (keyN j) a
  len : R.length = i
  cnt : ∀ t st, (seenR g t st R).length = m
theorem live_is {g a t : Int} {st : Bool} {k : ByteArray} (hg : 0 ≤ g) (ha : 1 ≤ a) : (liveR k a).isD g t st = decide (g < a) := by
  rw [Bool.eq_iff_iff]
  unfold Ro.isD isD liveR Ce.seen seenD
  simp
  omega
theorem GRows.up {g : Int} {i m : Nat} {R : List Ro} (h : GRows g i m R) (k : ByteArray) (g' : Int) : (Pa.mk k g' R).Up :=
  ⟨h.rise, fun r hr => by obtain ⟨j, a, _, rfl⟩ := h.all r hr; exact liveR_up _ _⟩
theorem GRows.nil (g : Int) : GRows g 0 0 [] := ⟨trivial, fun r hr => (by cases hr), rfl, fun _ _ => rfl⟩
theorem GRows.snoc {g a : Int} {i m : Nat} {R : List Ro} (h : GRows g i m R) (hi : i < 1000) (hg : 0 ≤ g) (ha : 1 ≤ a) :
    mrgR R [liveR (keyN i) a] = R ++ [liveR (keyN i) a] ∧ GRows g (i + 1) (if g < a then m + 1 else m) (R ++ [liveR (keyN i) a]) := by
  have hlow : ∀ x ∈ R, nlt x.key (liveR (keyN i) a).key := fun x hx => by
    obtain ⟨j, b, hj, rfl⟩ := h.all x hx
    exact keyN_lt hj hi
  refine ⟨putR_end hlow, riseK_snoc h.rise hlow, fun r hr => ?_, by simp [h.len], fun t st => ?_⟩
  · rcases List.mem_append.1 hr with h1 | h1
    · obtain ⟨j, b, hj, e⟩ := h.all r h1
      exact ⟨j, b, by omega, e⟩
    · exact ⟨i, a, by omega, List.mem_singleton.1 h1⟩
  · rw [seenR_snoc, live_is hg ha]
    by_cases h1 : g < a
    · rw [if_pos (decide_eq_true h1), if_pos h1, List.length_append, h.cnt]
      rfl
    · rw [if_neg (by rw [decide_eq_false h1]; decide), if_neg h1, h.cnt]
theorem GRows.tot {g : Int} {i m : Nat} {M : List RA} (h : GRows g i m (ros M)) : tot M = 0 := by
  have : ∀ x ∈ M, x.ro.cols.length = 0 := fun x hx => by
    obtain ⟨j, a, _, e⟩ := h.all x.ro (List.mem_map.2 ⟨x, hx, rfl⟩)
    rw [e]
    rfl
  unfold Go.Proofs.Ytafbbojfifcncaa.tot
  clear h
  induction M with
  | nil => rfl
  | cons y M ih =>
    rw [List.map_cons, List.sum_cons, this y (List.mem_cons_self ..), ih fun x hx => this x (List.mem_cons_of_mem _ hx)]
theorem stampC_ge (l : Cols) : ∀ m : Int, m ≤ stampC m l := by
  induction l with
  | nil => exact fun m => Int.le_refl _
  | cons x l ih => exact fun m => Int.le_trans (Int.le_max_left _ _) (ih (max m x.2.a))
theorem stampR_ge (l : List Ro) : ∀ m : Int, m ≤ stampR m l := by
  induction l with
  | nil => exact fun m => Int.le_refl _
  | cons x l ih => exact fun m => Int.le_trans (Int.le_trans (by omega) (stampC_ge x.cols (max (max (max m x.live.a) x.gone) x.shade))) (ih _)
end Go.Proofs.Ytafbbojfifcncaa
set_option linter.unusedVariables false
set_option linter.unusedSimpArgs false
namespace Go.Proofs.Ytafbbojfifcncaa
open Go Go.RowKit

/-- Rows of the numbers from lo on, so many. -/
def seqR (f : Nat → Int) (lo n : Nat) : List Ro := (List.range' lo n).map fun i => liveR (keyN i) (f i)
def seqA (f : Nat → Int) (lo n : Nat) : List RA := (List.range' lo n).map fun i => liveA (keyN i) (f i)
theorem ros_seq (f : Nat → Int) (lo n : Nat) : ros (seqA f lo n) = seqR f lo n := by unfold ros seqA seqR; rw [List.map_map]; rfl
theorem seqA_length (f : Nat → Int) (lo n : Nat) : (seqA f lo n).length = n := by unfold seqA; rw [List.length_map, List.length_range']
theorem seqR_length (f : Nat → Int) (lo n : Nat) : (seqR f lo n).length = n := by unfold seqR; rw [List.length_map, List.length_range']
theorem seqA_snoc (f : Nat → Int) (lo n : Nat) : seqA f lo (n + 1) = seqA f lo n ++ [liveA (keyN (lo + n)) (f (lo + n))] := by
  unfold seqA
  rw [List.range'_concat, List.map_append]
  simp
theorem seqR_snoc (f : Nat → Int) (lo n : Nat) : seqR f lo (n + 1) = seqR f lo n ++ [liveR (keyN (lo + n)) (f (lo + n))] := by
  unfold seqR
  rw [List.range'_concat, List.map_append]
  simp
theorem seqR_cons (f : Nat → Int) (lo n : Nat) : seqR f lo (n + 1) = liveR (keyN lo) (f lo) :: seqR f (lo + 1) n := by
  unfold seqR
  rw [List.range'_succ]
  rfl
theorem seqR_at (f : Nat → Int) (lo n j : Nat) (hj : j < n) : (seqR f lo n)[j]'(by rw [seqR_length]; exact hj) = liveR (keyN (lo + j)) (f (lo + j)) := by
  simp [seqR]
theorem seqA_held (f : Nat → Int) (lo n : Nat) (w : World) (B : Nat) : HeldR w B (seqA f lo n) := fun x hx => by
  obtain ⟨i, _, rfl⟩ := List.mem_map.1 hx
  exact liveA_in _ _ _ _
theorem seqR_rise (f : Nat → Int) : ∀ (n lo : Nat), lo + n ≤ 1000 → RiseR (seqR f lo n)
  | 0, lo, _ => trivial
  | n + 1, lo, h => by
    rw [seqR_cons]
    refine ⟨fun y hy => ?_, seqR_rise f n (lo + 1) (by omega)⟩
    obtain ⟨i, hi, rfl⟩ := List.mem_map.1 hy
    rw [List.mem_range'_1] at hi
    exact keyN_lt (by omega) (by omega)
theorem seqR_up (f : Nat → Int) (lo n : Nat) (h : lo + n ≤ 1000) (k : ByteArray) (g : Int) : (Pa.mk k g (seqR f lo n)).Up :=
  ⟨seqR_rise f n lo h, fun r hr => by obtain ⟨i, _, rfl⟩ := List.mem_map.1 hr; exact liveR_up _ _⟩
theorem seq_tot (f : Nat → Int) (lo n : Nat) : tot (seqA f lo n) = 0 := by
  have h : ∀ x ∈ seqA f lo n, x.ro.cols.length = 0 := fun x hx => by
    obtain ⟨i, _, rfl⟩ := List.mem_map.1 hx
    rfl
  unfold tot
  generalize seqA f lo n = M at h
  induction M with
  | nil => rfl
  | cons y M ih => rw [List.map_cons, List.sum_cons, h y (List.mem_cons_self ..), ih fun x hx => h x (List.mem_cons_of_mem _ hx)]
theorem getK_seq (f : Nat → Int) : ∀ (n lo : Nat), lo + n ≤ 1000 → ∀ i, i < 1000 → getK Ro.key (seqR f lo n) (keyN i) = if lo ≤ i ∧ i < lo + n then some (liveR (keyN i) (f i)) else none
  | 0, lo, _, i, _ => by rw [if_neg (by omega)]; rfl
  | n + 1, lo, h, i, hi => by
    rw [seqR_cons]
    by_cases e : lo = i
    · subst e
      rw [if_pos (by omega)]
      exact if_pos rfl
    · have hk : keyN lo ≠ keyN i := fun hk => e (keyN_inj (by omega) hi hk)
      rw [show getK Ro.key (liveR (keyN lo) (f lo) :: seqR f (lo + 1) n) (keyN i) = getK Ro.key (seqR f (lo + 1) n) (keyN i) from if_neg hk, getK_seq f n (lo + 1) (by omega) i hi]
      by_cases h2 : lo ≤ i ∧ i < lo + (n + 1)
      · rw [if_pos (by omega), if_pos h2]
      · rw [if_neg (by omega), if_neg h2]
theorem getK_seq_no (f : Nat → Int) (lo n : Nat) (h : lo + n ≤ 1000) {k : ByteArray} (hk : ∀ i, i < 1000 → k ≠ keyN i) : getK Ro.key (seqR f lo n) k = none := getK_none fun x hx => by
  obtain ⟨i, hi, rfl⟩ := List.mem_map.1 hx
  rw [List.mem_range'_1] at hi
  exact fun e => hk i (by omega) e.symm
theorem live_joined (k : ByteArray) : (liveR k 1).join (liveR k 2) = liveR k 2 := by rfl
/-- Rows that share some, joined: each once, and of those that they share the newer. -/
theorem rooms_join (n m s : Nat) (hs : s ≤ n) (hs' : s ≤ m) (hn : n + m ≤ 500) :
    mrgR (seqR (fun _ => 1) 0 n) (seqR (fun _ => 2) (n - s) m) = seqR (fun i => if i < n - s then 1 else 2) 0 (n + m - s) := by
  refine (mrgK_eq JR.key_ (seqR_rise _ _ _ (by omega)) (seqR_rise _ _ _ (by omega)) (seqR_rise _ _ _ (by omega)) fun k => ?_).symm
  by_cases hk : ∃ i, i < 1000 ∧ k = keyN i
  · obtain ⟨i, hi, rfl⟩ := hk
    rw [getK_seq _ _ _ (by omega) i hi, getK_seq _ _ _ (by omega) i hi, getK_seq _ _ _ (by omega) i hi]
    by_cases h1 : 0 ≤ i ∧ i < 0 + n
    · rw [if_pos h1, if_pos (show 0 ≤ i ∧ i < 0 + (n + m - s) by omega)]
      by_cases h2 : n - s ≤ i ∧ i < n - s + m
      · rw [if_pos h2, if_neg (show ¬ i < n - s by omega)]
        show some _ = some _
        rw [live_joined]
      · rw [if_neg h2, if_pos (show i < n - s by omega)]
        rfl
    · rw [if_neg h1]
      by_cases h2 : n - s ≤ i ∧ i < n - s + m
      · rw [if_pos h2, if_pos (show 0 ≤ i ∧ i < 0 + (n + m - s) by omega), if_neg (show ¬ i < n - s by omega)]
        rfl
      · rw [if_neg h2, if_neg (show ¬ (0 ≤ i ∧ i < 0 + (n + m - s)) by omega)]
        rfl
  · have hk' : ∀ i, i < 1000 → k ≠ keyN i := fun i hi e => hk ⟨i, hi, e⟩
    rw [getK_seq_no _ _ _ (by omega) hk', getK_seq_no _ _ _ (by omega) hk', getK_seq_no _ _ _ (by omega) hk']
    rfl
theorem live_ok {i : Nat} {a : Int} (ha : 1 ≤ a) (ha' : a ≤ 1000) : (liveR (keyN i) a).ok = true := by
  have h1 : Ce.ok ⟨⟨#[]⟩, false, a, 0⟩ = true := by
    unfold Ce.ok
    simp only
    rw [if_neg (by omega), show stm a = true by unfold stm; rw [decide_eq_true (show (0 : Int) ≤ a by omega), decide_eq_true (show a ≤ 1099511627776 by omega)]; rfl, if_neg (by decide), if_neg (by decide)]
    rfl
  unfold Ro.ok liveR liveB
  simp only
  rw [h1, keyN_size, Lib.toList_data]
  rfl
theorem seqR_ok (f : Nat → Int) (hf : ∀ i, 1 ≤ f i ∧ f i ≤ 1000) (lo n : Nat) (h : lo + n ≤ 1000) : rowsB (seqR f lo n) = true := rowsB_of (seqR_rise f n lo h) fun r hr => by
  obtain ⟨i, _, rfl⟩ := List.mem_map.1 hr
  exact live_ok (hf i).1 (hf i).2
end Go.Proofs.Ytafbbojfifcncaa
set_option linter.unusedVariables false
set_option linter.unusedSimpArgs false
namespace Go.Proofs.Ytafbbojfifcncaa
open Go Go.RowKit

/-- A list of rows under way in a partition's block: q the block, W what its rows lie above. -/
structure Grow (W w : World) (q : Nat) (f : Nat → Int) (lo t : Nat) (A : Option Addr) (c : Nat) : Prop where
  pt : w.heap[q]? = some (.cells #[.string ⟨#[]⟩, .int .i64 0, .slice A t c] 24)
  own : w.ownsRow W.heap.size 36 8 (.slice A t c) t (rRow (seqA f lo t))
  kept : Kept (fun k => k = q) W w
section
variable {W w w' : World} {q lo t c : Nat} {f : Nat → Int} {A : Option Addr}
theorem Grow.lt (h : Grow W w q f lo t A c) : q < w.heap.size := (Array.getElem?_eq_some_iff.1 h.pt).1
theorem Grow.on (h : Grow W w q f lo t A c) (hb : Below w.heap.size w w') : Grow W w' q f lo t A c :=
  ⟨(hb.block q h.lt).trans h.pt, own_below h.own hb, h.kept.trans (Kept.of_below hb (fun k => k = q)) fun k hk => Or.inl hk⟩
theorem Grow.lies (h : Grow W w q f lo t A c) : Lies w w.heap.size A t c (seqA f lo t) := by
  obtain ⟨A', c', e, h1, _⟩ := own_slice h.own
  injection e with e1 e2 e3
  subst e3
  exact ⟨RdR.of_own h.own, seqA_held _ _ _ _ _, h1⟩
theorem Grow.app (h : Grow W w q f lo t A c) {x : RA} (hx : seqA f lo (t + 1) = seqA f lo t ++ [x]) {A7 : Option Addr} {c7 : Nat} (ho : w'.ownsRow W.heap.size 36 8 (.slice A7 (t + 1) c7) (t + 1) (rRow (seqA f lo t ++ [x]))) (hg : w.grownBy w' (Value.slice A t c).ownBlock) :
    w'.heap[q]? = some (.cells #[.string ⟨#[]⟩, .int .i64 0, .slice A t c] 24) ∧ Grow W (w'.setCell ⟨q, 2, none⟩ (.slice A7 (t + 1) c7)) q f lo (t + 1) A7 c7 := by
  have hk := Kept.of_grown (F := fun k => (Value.slice A t c).ownBlock = some k) hg fun k hk => hk
  have hp := (hk.block q h.lt fun hp => own_ne h.own h.pt (by decide) q hp rfl).trans h.pt
  refine ⟨hp, part_setrows hp _, own_kept (hx.symm ▸ ho) fun g hg' => Below.heap_setCell _ _ _ _ fun e => own_ne ho hp (by decide) g hg' e, ?_⟩
  refine (Kept.trans h.kept hk fun k hk' => Or.inr (h.own.lt k hk').1).trans (Kept.setCell (fun k => k = q) w' ⟨q, 2, none⟩ _ rfl) fun k hk' => Or.inl hk'
end
theorem seqA_next (f : Nat → Int) (lo t j : Nat) (hj : lo + t = j) : seqA f lo (t + 1) = seqA f lo t ++ [liveA (keyN j) (f j)] := by rw [seqA_snoc, hj]
set_option maxRecDepth 8000 in
set_option maxHeartbeats 16000000 in
theorem rooms_law (a b share : Int) (w : World) (ha : (Lit.int .i64 a).wf = true) (hb : (Lit.int .i64 b).wf = true) (hs : (Lit.int .i64 share).wf = true) :
    Calls Try.prog 6 #[.int .i64 a, .int .i64 b, .int .i64 share] w fun e w' => e = .returned (.bool true) ∧ Below w.heap.size w w' := by
  have HA := Lib.hid ha; have HB := Lib.hid hb; have HS := Lib.hid hs
  clear ha hb hs
  go_enter Try.func6, Try.ntmps6
  go_wp2_with fail
  refine (place_any a 101 _ (by decide) (by decide) (bounds_i64 HA.out)).mono ?_
  rintro e w' ⟨rfl, rfl⟩
  obtain ⟨n, hn⟩ : ∃ n : Nat, a % 101 = (n : Int) := ⟨(a % 101).toNat, by omega⟩
  have hn1 : n ≤ 100 := by omega
  rw [hn]
  clear hn
  go_wp2_with fail
  refine (place_any b 101 _ (by decide) (by decide) (bounds_i64 HB.out)).mono ?_
  rintro e w' ⟨rfl, rfl⟩
  obtain ⟨m, hm⟩ : ∃ n : Nat, b % 101 = (n : Int) := ⟨(b % 101).toNat, by omega⟩
  have hm1 : m ≤ 100 := by omega
  rw [hm]
  clear hm
  go_wp2_with fail
  refine (place_any share (min (n : Int) (m : Int) + 1) _ (by omega) (by omega) (bounds_i64 HS.out)).mono ?_
  rintro e w' ⟨rfl, rfl⟩
  obtain ⟨s, hs⟩ : ∃ s : Nat, share % (min (n : Int) (m : Int) + 1) = (s : Int) := ⟨(share % (min (n : Int) (m : Int) + 1)).toNat, by have := Int.emod_nonneg share (show min (n : Int) (m : Int) + 1 ≠ 0 by omega); omega⟩
  have hs1 : s ≤ n ∧ s ≤ m := by have := Int.emod_lt_of_pos share (show 0 < min (n : Int) (m : Int) + 1 by omega); omega
  rw [hs]
  obtain ⟨mn, hmn⟩ : ∃ k, min (n : Int) (m : Int) = k := ⟨_, rfl⟩
  try rw [hmn]
  clear hs hmn
  have hz0 := new_at (heap_alloc_new w (.cells #[.string ⟨#[]⟩, .int .i64 0, .slice none 0 0] 24)) (.cells #[.string ⟨#[]⟩, .int .i64 0, .slice none 0 0] 24)
  have hz1 := heap_alloc_new (w.alloc (.cells #[.string ⟨#[]⟩, .int .i64 0, .slice none 0 0] 24)) (.cells #[.string ⟨#[]⟩, .int .i64 0, .slice none 0 0] 24)
  simp only [World.size_alloc] at hz1
  have bz := ((Below.refl w.heap.size w).alloc (Nat.le_refl _) (.cells #[.string ⟨#[]⟩, .int .i64 0, .slice none 0 0] 24)).alloc (by simp) (.cells #[.string ⟨#[]⟩, .int .i64 0, .slice none 0 0] 24)
  obtain ⟨W2, hW2⟩ : ∃ W, W = (w.alloc (.cells #[.string ⟨#[]⟩, .int .i64 0, .slice none 0 0] 24)).alloc (.cells #[.string ⟨#[]⟩, .int .i64 0, .slice none 0 0] 24) := ⟨_, rfl⟩
  have hWs : W2.heap.size = w.heap.size + 2 := by rw [hW2]; simp
  rw [← hW2] at hz0 hz1 bz
  have HZ0 := Lib.hid hz0; have HZ1 := Lib.hid hz1; have BZ := Lib.hid bz; have HWS := Lib.hid hWs
  clear hz0 hz1 bz hWs
  go_wp2_with fail
  rw [← hW2]
  clear hW2
  go_wp2_with fail
  go_loopw [12] (fun iv wr => ∃ (t c : Nat) (A : Option Addr), t ≤ n ∧ iv = .int .i64 t ∧ Grow W2 wr w.heap.size (fun _ => 1) 0 t A c) (fun iv _ => n - (intOf iv).toNat)
  case atStart => exact ⟨0, 0, none, Nat.zero_le _, rfl, HZ0.out, own_nilR _ _, Kept.refl _ _⟩
  case round =>
    obtain ⟨t, c, A, ht, rfl, hgr⟩ := hrel
    have HGR := Lib.hid hgr
    clear hgr
    by_cases hlt : t < n
    · have i1 : (t : Int) < n := by omega
      have HT := Lib.hid (show t < 1000 by omega)
      have HTN := Lib.hid (show t < 200 by omega)
      have HSN := Lib.hid (seqA_next (fun _ => 1) 0 t t (by omega))
      go_wp2_with fail
      refine wp_region_z (S := fun w' => w'.heap[w.heap.size]? = some (.cells #[.string ⟨#[]⟩, .int .i64 0, .slice A t c] 24)) 9 (by kernel_rfl) ?_ (fun hHeld => ?_)
      · exact HGR.out.pt
      refine wpAnyZ_take (i := 0) (v := ?_) rfl (by kernel_rfl) (by kernel_rfl) (by kernel_rfl) (by kernel_rfl) (fun _ _ _ h => h) (Or.inl ⟨by rfl, ?_⟩) (by assumption) ?_
      rotate_left
      · (intro wx hSw; (try dsimp only at hSw); go_simp; try with_reducible rfl)
      try simp only [Act.put, List.getElem_toArray, List.getElem_cons_succ, List.getElem_cons_zero, List.setIfInBounds_toArray, List.set_cons_zero, List.set_cons_succ]
      refine wpAnyZ_take (i := 1) (v := ?_) rfl (by kernel_rfl) (by kernel_rfl) (by kernel_rfl) (by kernel_rfl) (fun _ _ _ h => h) (Or.inl ⟨by rfl, ?_⟩) (by assumption) ?_
      rotate_left
      · (intro wx hSw; (try dsimp only at hSw); obtain ⟨_, _, _⟩ := PtAt.of hSw; go_simp; try with_reducible rfl)
      try simp only [Act.put, List.getElem_toArray, List.getElem_cons_succ, List.getElem_cons_zero, List.setIfInBounds_toArray, List.set_cons_zero, List.set_cons_succ]
      refine wpAnyZ_take (i := 2) (v := ?_) rfl (by kernel_rfl) (by kernel_rfl) (by kernel_rfl) (by kernel_rfl) (fun _ _ _ h => h) (Or.inl ⟨by rfl, ?_⟩) (by assumption) ?_
      rotate_left
      · (intro wx hSw; (try dsimp only at hSw); go_simp; try with_reducible rfl)
      try simp only [Act.put, List.getElem_toArray, List.getElem_cons_succ, List.getElem_cons_zero, List.setIfInBounds_toArray, List.set_cons_zero, List.set_cons_succ]
      refine wpAnyZ_take (i := 4) (v := ?_) rfl (by kernel_rfl) (by kernel_rfl) (by kernel_rfl) (by kernel_rfl) (fun _ _ _ h => h) (Or.inl ⟨by rfl, ?_⟩) (by assumption) ?_
      rotate_left
      · (intro wx hSw; (try dsimp only at hSw); go_simp; try with_reducible rfl)
      try simp only [Act.put, List.getElem_toArray, List.getElem_cons_succ, List.getElem_cons_zero, List.setIfInBounds_toArray, List.set_cons_zero, List.set_cons_succ]
      refine wpAnyZ_one (i := 3) (by kernel_rfl) rfl (fun K hK => ?_)
      go_simp
      refine (key_any t _ rfl HT.out _).mono ?_
      rintro e v2 ⟨rfl, b2⟩
      rw [show kb (t / 100 % 10) (t / 10 % 10) (t % 10) = keyN t from rfl]
      have HG2 := Lib.hid (HGR.out.on (next (w := wr) (w1 := wr.drew) ((Below.refl wr.heap.size wr).drew) b2))
      clear b2
      try go_wp2_with fail
      refine hK.out _ _ ?_ (fun hHeld => ?_)
      · exact HG2.out.pt
      clear hK K
      try simp only [Act.put, List.getElem_toArray, List.getElem_cons_succ, List.getElem_cons_zero, List.setIfInBounds_toArray, List.set_cons_zero, List.set_cons_succ]
      refine wpAnyZ_take (i := 5) (v := ?_) rfl (by kernel_rfl) (by kernel_rfl) (by kernel_rfl) (by kernel_rfl) (fun _ _ _ h => h) (Or.inl ⟨by rfl, ?_⟩) (by assumption) ?_
      rotate_left
      · (intro wx hSw; (try dsimp only at hSw); go_simp; try with_reducible rfl)
      try simp only [Act.put, List.getElem_toArray, List.getElem_cons_succ, List.getElem_cons_zero, List.setIfInBounds_toArray, List.set_cons_zero, List.set_cons_succ]
      refine wpAnyZ_one (i := 6) (by kernel_rfl) rfl (fun K hK => ?_)
      go_simp
      have RD := Lib.hid (RdR.laid v2 (liveA (keyN t) 1))
      have HG6 := Lib.hid (HG2.out.on ((Below.refl v2.heap.size v2).alloc (Nat.le_refl _) (.cells #[.string (keyN t), .string ⟨#[]⟩, .bool false, .int .i64 1, .int .i64 0, .int .i64 0, .int .i64 0, .slice none 0 0] 36)))
      refine hK.out _ _ ?_ (fun hHeld => ?_)
      · exact HG6.out.pt
      clear hK K
      try simp only [Act.put, List.getElem_toArray, List.getElem_cons_succ, List.getElem_cons_zero, List.setIfInBounds_toArray, List.set_cons_zero, List.set_cons_succ]
      refine wpAnyZ_one (i := 7) (by kernel_rfl) rfl (fun K hK => ?_)
      refine step_ex rfl (.tmp 35) (.tmp 40) _ _ rfl (.slice A t c) (.slice (some ⟨v2.heap.size, 0, none⟩) 1 1) (by simp [Act.eval]) (by simp [Act.eval]) (run_appR W2.heap.size HG6.out.own RD.out ?s3 ?s4) ?_
      case s3 => have := HTN.out; omega
      case s4 => exact HG6.out.kept.size
      intro v7 w7 ho7 hg7
      obtain ⟨hg7, _⟩ := hg7
      obtain ⟨A7, c7, rfl, _⟩ := own_slice ho7
      have HG7 := Lib.hid (HG6.out.app HSN.out ho7 hg7)
      clear ho7 hg7
      refine hK.out _ _ ?_ (fun hHeld => ?_)
      · exact HG7.out.1
      clear hK K
      try simp only [Act.put, List.getElem_toArray, List.getElem_cons_succ, List.getElem_cons_zero, List.setIfInBounds_toArray, List.set_cons_zero, List.set_cons_succ]
      refine wpAnyZ_take (i := 8) (v := ?_) rfl (by kernel_rfl) (by kernel_rfl) (by kernel_rfl) (by kernel_rfl) (fun _ _ _ h => h) (Or.inl ⟨by rfl, ?_⟩) (by assumption) ?_
      rotate_left
      · (intro wx hSw; (try dsimp only at hSw); go_simp; try with_reducible rfl)
      try simp only [Act.put, List.getElem_toArray, List.getElem_cons_succ, List.getElem_cons_zero, List.setIfInBounds_toArray, List.set_cons_zero, List.set_cons_succ]
      refine wpAnyZ_last (by kernel_rfl) rfl (fun K hK => ?_)
      have z2 := cell_at (i := 2) HG7.out.1 rfl
      have y2 := thawed_at (i := 2) HG7.out.1
      go_simp
      refine hK.out _ _ ?_
      clear hK K
      try simp only [Act.put, List.getElem_toArray, List.getElem_cons_succ, List.getElem_cons_zero, List.setIfInBounds_toArray, List.set_cons_zero, List.set_cons_succ]
      refine wpAnyZ_done (by kernel_rfl) ?_ _
      have HG9 := Lib.hid HG7.out.2
      generalize (w7.setCell ⟨w.heap.size, 2, none⟩ (.slice A7 (t + 1) c7)) = w9 at HG9 ⊢
      go_wp2
      go_roundw
      case rel => exact ⟨t + 1, c7, A7, by omega, by go_num, HG9.out⟩
      case measure => simp [intOf]; omega
    · obtain rfl : n = t := by omega
      have d0 : decide ((n : Int) < (n : Int)) = false := by simp
      obtain ⟨W3, hW3⟩ : ∃ W3, W3 = wr := ⟨_, rfl⟩
      subst hW3
      have HX := HGR
      have HQ : Hid (w.heap.size + 1 < W3.heap.size) := Lib.hid (by have := HGR.out.kept.size; have := HWS.out; omega)
      have HZY := Lib.hid ((HX.out.kept.block (w.heap.size + 1) (by have := HWS.out; omega) (by omega)).trans HZ1.out)
      clear HGR
      obtain ⟨u, hu⟩ : ∃ u : Nat, u + s = n := ⟨n - s, by omega⟩
      have hsub : ((n : Int) - (s : Int)) = (u : Int) := by omega
      go_wp2_with fail
      try rw [hsub]
      go_loopw [13] (fun iv wr => ∃ (t j c : Nat) (A : Option Addr), t ≤ m ∧ u + t = j ∧ iv = .int .i64 j ∧ Grow W3 wr (w.heap.size + 1) (fun _ => 2) u t A c) (fun iv _ => u + m - (intOf iv).toNat)
      case atStart => exact ⟨0, u, 0, none, Nat.zero_le _, rfl, rfl, HZY.out, own_nilR _ _, Kept.refl _ _⟩
      case round =>
        obtain ⟨t, j, c', A', ht, hj, rfl, hgr⟩ := hrel
        have HA1 : Hid (Grow W2 W3 w.heap.size (fun _ => 1) 0 n A c) := HX
        clear HX
        obtain ⟨A1, hA1⟩ : ∃ A1, A = A1 := ⟨_, rfl⟩
        obtain ⟨c1, hc1⟩ : ∃ c1, c = c1 := ⟨_, rfl⟩
        subst hA1
        subst hc1
        have HX := HA1
        clear HA1
        have HGR := Lib.hid hgr
        clear hgr
        by_cases hlt : t < m
        · have HT := Lib.hid (show j < 1000 by omega)
          have HTN := Lib.hid (show t < 200 by omega)
          have HSN := Lib.hid (seqA_next (fun _ => 2) u t j hj)
          have d5 : decide ((j : Int) < (u : Int) + (m : Int)) = true := by simp; omega
          have d6 : (j : Int) < (u : Int) + (m : Int) := by omega
          have d7 : decide ((j : Int) < (n : Int) - (s : Int) + (m : Int)) = true := by simp; omega
          go_wp2_with fail
          refine wp_region_z (S := fun w' => w'.heap[w.heap.size + 1]? = some (.cells #[.string ⟨#[]⟩, .int .i64 0, .slice A' t c'] 24)) 9 (by kernel_rfl) ?_ (fun hHeld => ?_)
          · exact HGR.out.pt
          refine wpAnyZ_take (i := 0) (v := ?_) rfl (by kernel_rfl) (by kernel_rfl) (by kernel_rfl) (by kernel_rfl) (fun _ _ _ h => h) (Or.inl ⟨by rfl, ?_⟩) (by assumption) ?_
          rotate_left
          · (intro wx hSw; (try dsimp only at hSw); go_simp; try with_reducible rfl)
          try simp only [Act.put, List.getElem_toArray, List.getElem_cons_succ, List.getElem_cons_zero, List.setIfInBounds_toArray, List.set_cons_zero, List.set_cons_succ]
          refine wpAnyZ_take (i := 1) (v := ?_) rfl (by kernel_rfl) (by kernel_rfl) (by kernel_rfl) (by kernel_rfl) (fun _ _ _ h => h) (Or.inl ⟨by rfl, ?_⟩) (by assumption) ?_
          rotate_left
          · (intro wx hSw; (try dsimp only at hSw); obtain ⟨_, _, _⟩ := PtAt.of hSw; go_simp; try with_reducible rfl)
          try simp only [Act.put, List.getElem_toArray, List.getElem_cons_succ, List.getElem_cons_zero, List.setIfInBounds_toArray, List.set_cons_zero, List.set_cons_succ]
          refine wpAnyZ_take (i := 2) (v := ?_) rfl (by kernel_rfl) (by kernel_rfl) (by kernel_rfl) (by kernel_rfl) (fun _ _ _ h => h) (Or.inl ⟨by rfl, ?_⟩) (by assumption) ?_
          rotate_left
          · (intro wx hSw; (try dsimp only at hSw); go_simp; try with_reducible rfl)
          try simp only [Act.put, List.getElem_toArray, List.getElem_cons_succ, List.getElem_cons_zero, List.setIfInBounds_toArray, List.set_cons_zero, List.set_cons_succ]
          refine wpAnyZ_take (i := 4) (v := ?_) rfl (by kernel_rfl) (by kernel_rfl) (by kernel_rfl) (by kernel_rfl) (fun _ _ _ h => h) (Or.inl ⟨by rfl, ?_⟩) (by assumption) ?_
          rotate_left
          · (intro wx hSw; (try dsimp only at hSw); go_simp; try with_reducible rfl)
          try simp only [Act.put, List.getElem_toArray, List.getElem_cons_succ, List.getElem_cons_zero, List.setIfInBounds_toArray, List.set_cons_zero, List.set_cons_succ]
          refine wpAnyZ_one (i := 3) (by kernel_rfl) rfl (fun K hK => ?_)
          go_simp
          refine (key_any j _ rfl HT.out _).mono ?_
          rintro e v2 ⟨rfl, b2⟩
          rw [show kb (j / 100 % 10) (j / 10 % 10) (j % 10) = keyN j from rfl]
          have HG2 := Lib.hid (HGR.out.on (next (w := wr) (w1 := wr.drew) ((Below.refl wr.heap.size wr).drew) b2))
          clear b2
          try go_wp2_with fail
          refine hK.out _ _ ?_ (fun hHeld => ?_)
          · exact HG2.out.pt
          clear hK K
          try simp only [Act.put, List.getElem_toArray, List.getElem_cons_succ, List.getElem_cons_zero, List.setIfInBounds_toArray, List.set_cons_zero, List.set_cons_succ]
          refine wpAnyZ_take (i := 5) (v := ?_) rfl (by kernel_rfl) (by kernel_rfl) (by kernel_rfl) (by kernel_rfl) (fun _ _ _ h => h) (Or.inl ⟨by rfl, ?_⟩) (by assumption) ?_
          rotate_left
          · (intro wx hSw; (try dsimp only at hSw); go_simp; try with_reducible rfl)
          try simp only [Act.put, List.getElem_toArray, List.getElem_cons_succ, List.getElem_cons_zero, List.setIfInBounds_toArray, List.set_cons_zero, List.set_cons_succ]
          refine wpAnyZ_one (i := 6) (by kernel_rfl) rfl (fun K hK => ?_)
          go_simp
          have RD := Lib.hid (RdR.laid v2 (liveA (keyN j) 2))
          have HG6 := Lib.hid (HG2.out.on ((Below.refl v2.heap.size v2).alloc (Nat.le_refl _) (.cells #[.string (keyN j), .string ⟨#[]⟩, .bool false, .int .i64 2, .int .i64 0, .int .i64 0, .int .i64 0, .slice none 0 0] 36)))
          refine hK.out _ _ ?_ (fun hHeld => ?_)
          · exact HG6.out.pt
          clear hK K
          try simp only [Act.put, List.getElem_toArray, List.getElem_cons_succ, List.getElem_cons_zero, List.setIfInBounds_toArray, List.set_cons_zero, List.set_cons_succ]
          refine wpAnyZ_one (i := 7) (by kernel_rfl) rfl (fun K hK => ?_)
          refine step_ex rfl (.tmp 56) (.tmp 61) _ _ rfl (.slice A' t c') (.slice (some ⟨v2.heap.size, 0, none⟩) 1 1) (by simp [Act.eval]) (by simp [Act.eval]) (run_appR W3.heap.size HG6.out.own RD.out ?s3 ?s4) ?_
          case s3 => have := HTN.out; omega
          case s4 => exact HG6.out.kept.size
          intro v7 w7 ho7 hg7
          obtain ⟨hg7, _⟩ := hg7
          obtain ⟨A7, c7, rfl, _⟩ := own_slice ho7
          have HG7 := Lib.hid (HG6.out.app HSN.out ho7 hg7)
          clear ho7 hg7
          refine hK.out _ _ ?_ (fun hHeld => ?_)
          · exact HG7.out.1
          clear hK K
          try simp only [Act.put, List.getElem_toArray, List.getElem_cons_succ, List.getElem_cons_zero, List.setIfInBounds_toArray, List.set_cons_zero, List.set_cons_succ]
          refine wpAnyZ_take (i := 8) (v := ?_) rfl (by kernel_rfl) (by kernel_rfl) (by kernel_rfl) (by kernel_rfl) (fun _ _ _ h => h) (Or.inl ⟨by rfl, ?_⟩) (by assumption) ?_
          rotate_left
          · (intro wx hSw; (try dsimp only at hSw); go_simp; try with_reducible rfl)
          try simp only [Act.put, List.getElem_toArray, List.getElem_cons_succ, List.getElem_cons_zero, List.setIfInBounds_toArray, List.set_cons_zero, List.set_cons_succ]
          refine wpAnyZ_last (by kernel_rfl) rfl (fun K hK => ?_)
          have z2 := cell_at (i := 2) HG7.out.1 rfl
          have y2 := thawed_at (i := 2) HG7.out.1
          go_simp
          refine hK.out _ _ ?_
          clear hK K
          try simp only [Act.put, List.getElem_toArray, List.getElem_cons_succ, List.getElem_cons_zero, List.setIfInBounds_toArray, List.set_cons_zero, List.set_cons_succ]
          refine wpAnyZ_done (by kernel_rfl) ?_ _
          have HG9 := Lib.hid HG7.out.2
          generalize (w7.setCell ⟨w.heap.size + 1, 2, none⟩ (.slice A7 (t + 1) c7)) = w9 at HG9 ⊢
          go_wp2
          go_roundw
          case rel => exact ⟨t + 1, j + 1, c7, A7, by omega, by omega, by go_num, HG9.out⟩
          case measure => simp [intOf]; omega
        · obtain rfl : m = t := by omega
          have d5 : decide ((j : Int) < (u : Int) + (m : Int)) = false := by simp; omega
          have d6 : ¬ ((j : Int) < (u : Int) + (m : Int)) := by omega
          have d7 : decide ((j : Int) < (n : Int) - (s : Int) + (m : Int)) = false := by simp; omega
          have hwr := HGR.out.kept.size
          have hbw : Below w.heap.size w wr := (BZ.out.trans (HX.out.kept.below (B := w.heap.size) (fun k hk => by omega) (by have := HWS.out; omega))).trans (HGR.out.kept.below (B := w.heap.size) (fun k hk => by omega) (by have := HQ.out; omega))
          have hxp := (HGR.out.kept.block w.heap.size HX.out.lt (by omega)).trans HX.out.pt
          have hxo := own_kept HX.out.own fun g hg => HGR.out.kept.block g (own_block_lt HX.out.own g hg) (own_ne HX.out.own HZY.out (by decide) g hg)
          have hlx : Lies wr wr.heap.size A n c (seqA (fun _ => 1) 0 n) := by
            obtain ⟨A'', c'', e, h1, _⟩ := own_slice hxo
            injection e with e1 e2 e3
            subst e3
            exact ⟨RdR.of_own hxo, seqA_held _ _ _ _ _, h1⟩
          have hly := HGR.out.lies
          have hX : mrgR (ros (seqA (fun _ => 1) 0 n)) (ros (seqA (fun _ => 2) u m)) = seqR (fun i => if i < u then 1 else 2) 0 (n + m - s) := by
            rw [ros_seq, ros_seq]
            have h1 := rooms_join n m s hs1.1 hs1.2 (by omega)
            rw [show n - s = u by omega] at h1
            exact h1
          have hux : (Pa.mk ⟨#[]⟩ 0 (ros (seqA (fun _ => 1) 0 n))).Up := by rw [ros_seq]; exact seqR_up _ _ _ (by omega) _ _
          have huy : (Pa.mk ⟨#[]⟩ 0 (ros (seqA (fun _ => 2) u m))).Up := by rw [ros_seq]; exact seqR_up _ _ _ (by omega) _ _
          have htt : tot (seqA (fun _ => 1) 0 n) + tot (seqA (fun _ => 2) u m) ≤ 1000 := by rw [seq_tot, seq_tot]; omega
          have HBW := Lib.hid hbw; have HLX := Lib.hid hlx; have HLY := Lib.hid hly; have HXX := Lib.hid hX; have HUX := Lib.hid hux; have HUY := Lib.hid huy; have HTT := Lib.hid htt
          obtain ⟨_, _, _⟩ := PtAt.of hxp
          obtain ⟨_, _, _⟩ := PtAt.of HGR.out.pt
          obtain ⟨N, hN⟩ : ∃ N, n + m - s = N := ⟨_, rfl⟩
          have HN := Lib.hid hN
          clear hbw hxp hxo hlx hly hX hux huy htt hwr HX HGR HZ0 HZ1 HZY BZ HWS HQ
          by_cases hfit : N ≤ 100
          · have k1 : decide ((n : Int) + (m : Int) - (s : Int) ≤ 100) = true := by simp; omega
            go_wp2_with fail
            refine (pjoin_fits ⟨#[]⟩ ⟨#[]⟩ 0 0 A A' n m c c' wr.heap.size wr.heap.size _ _ _ HLX.out HLY.out (Nat.le_refl _) (Nat.le_refl _) (by omega) HUX.out HUY.out HTT.out _ HXX.out (by rw [seqR_length, HN.out]; exact hfit)).mono ?_
            rintro e w4 ⟨M, A2, n2, c2, rfl, hM, hfr⟩
            rw [show max (0 : Int) 0 = 0 from rfl]
            obtain ⟨hn2, hl2, _⟩ := hfr.lies
            have hml : n2 = N := by rw [hn2, ← List.length_map (f := RA.ro), show List.map RA.ro M = _ from hM, seqR_length, HN.out]
            subst hml
            rw [HN.out] at hM
            have hb4 := Lib.hid (next HBW.out hfr.below)
            have hz5 := heap_alloc_new w4 (.cells #[.string ⟨#[]⟩, .int .i64 0, .slice A2 n2 c2] 24)
            have ha5 := (Below.refl w4.heap.size w4).alloc (Nat.le_refl _) (.cells #[.string ⟨#[]⟩, .int .i64 0, .slice A2 n2 c2] 24)
            obtain ⟨W5, hW5⟩ : ∃ W, W = w4.alloc (.cells #[.string ⟨#[]⟩, .int .i64 0, .slice A2 n2 c2] 24) := ⟨_, rfl⟩
            have hs5 : W5.heap.size = w4.heap.size + 1 := by rw [hW5]; simp
            rw [← hW5] at hz5 ha5
            have HM := Lib.hid hM; have HLM := Lib.hid (hl2.below ha5); have HB5 := Lib.hid (next hb4.out ha5); have HZ5 := Lib.hid hz5; have HS5 := Lib.hid hs5
            have HML := Lib.hid (hl2.len)
            obtain ⟨_, _, _⟩ := PtAt.of hz5
            clear hM hfr hl2 hn2 hb4 hz5 ha5 hs5
            go_wp2_with fail
            rw [← hW5]
            clear hW5
            go_wp2_with fail
            go_loopw [17] (fun iv wr => ∃ (i : Nat), i ≤ n2 ∧ iv = .int .i64 i ∧ Below W5.heap.size W5 wr) (fun iv _ => n2 - (intOf iv).toNat)
            case atStart => exact ⟨0, Nat.zero_le _, rfl, Below.refl _ _⟩
            case round =>
              obtain ⟨i, hi, rfl, hb6⟩ := hrel
              have HB6 := Lib.hid hb6
              have hpt := (hb6.block w4.heap.size (by have := HS5.out; omega)).trans HZ5.out
              obtain ⟨_, _, _⟩ := PtAt.of hpt
              by_cases hlt : i < n2
              · have p1 : (i : Int) < n2 := by omega
                have p0 : (0 : Int) ≤ i := by omega
                have hil : i < M.length := by rw [HML.out]; exact hlt
                obtain ⟨g0, o0, rfl, hgb⟩ := HLM.out.rd.ex (by omega)
                have hrow := (HLM.out.below (hb6.mono (by have := HS5.out; omega))).rd.row hil
                obtain ⟨x, hx⟩ : ∃ x, M[i] = x := ⟨_, rfl⟩
                rw [hx] at hrow
                have hxr : x.ro = liveR (keyN i) (if i < u then 1 else 2) := by
                  have h1 : (ros M)[i]? = some x.ro := by rw [List.getElem?_map, List.getElem?_eq_getElem hil, hx]; rfl
                  rw [HM.out, List.getElem?_eq_getElem (by rw [seqR_length]; exact hlt), seqR_at _ _ _ _ hlt] at h1
                  injection h1 with h1
                  rw [← h1, Nat.zero_add]
                obtain ⟨v, hv⟩ : ∃ v : Int, (if i < u then 1 else 2) = v := ⟨_, rfl⟩
                rw [hv] at hxr
                have hall : ∀ w', Below wr.heap.size wr w' → PtAt w' w4.heap.size ⟨#[]⟩ 0 (some ⟨g0, o0, none⟩) n2 c2 ∧ (w'.cell? ⟨g0, o0 + i * 8, none⟩ = some (.string (keyN i)) ∧ w'.cell? ⟨g0, o0 + i * 8 + 3, none⟩ = some (.int .i64 v)) := fun w' hb => by
                  have h2 := hrow.below hb (show g0 < wr.heap.size by have := hb6.size; have := HS5.out; omega)
                  have h3 := h2.1
                  have h4 := h2.2.2.2.1
                  rw [hxr] at h3 h4
                  exact ⟨PtAt.of ((hb.block w4.heap.size (Array.getElem?_eq_some_iff.1 hpt).1).trans hpt), h3, h4⟩
                have HALL := Lib.hid hall; have HT := Lib.hid (show i < 1000 by omega)
                clear hrow hx hxr hall hb6 hpt
                by_cases hu2 : i < u
                · obtain rfl : v = 1 := by rw [← hv, if_pos hu2]
                  have q0 : decide ((u : Int) ≤ (i : Int)) = false := by simp; omega
                  have q1 : decide (u ≤ i) = false := by simp; omega
                  have q2 : decide ((n : Int) - (s : Int) ≤ (i : Int)) = false := by simp; omega
                  clear hv
                  go_wp2_with fail
                  refine wp_region_held_drew (S := fun w' => Below wr.heap.size wr w') (by kernel_rfl) ?_ (fun hHeld => ?_)
                  · exact (Below.refl _ _).drew
                  refine wpAnyH_take (i := 0) (v := ?_) rfl (by kernel_rfl) (by kernel_rfl) (by kernel_rfl) (fun _ _ _ h => h) (Or.inl ⟨by rfl, ?_⟩) (by assumption) ?_
                  rotate_left
                  · (intro wx hSw; (try dsimp only at hSw); go_simp; try with_reducible rfl)
                  try simp only [Act.put, List.getElem_toArray, List.getElem_cons_succ, List.getElem_cons_zero, List.setIfInBounds_toArray, List.set_cons_zero, List.set_cons_succ]
                  refine wpAnyH_take (i := 1) (v := ?_) rfl (by kernel_rfl) (by kernel_rfl) (by kernel_rfl) (fun _ _ _ h => h) (Or.inl ⟨by rfl, ?_⟩) (by assumption) ?_
                  rotate_left
                  · (intro wx hSw; (try dsimp only at hSw); obtain ⟨⟨_, _, _⟩, _, _⟩ := HALL.out _ hSw; go_simp; try with_reducible rfl)
                  try simp only [Act.put, List.getElem_toArray, List.getElem_cons_succ, List.getElem_cons_zero, List.setIfInBounds_toArray, List.set_cons_zero, List.set_cons_succ]
                  refine wpAnyH_take (i := 2) (v := ?_) rfl (by kernel_rfl) (by kernel_rfl) (by kernel_rfl) (fun _ _ _ h => h) (Or.inl ⟨by rfl, ?_⟩) (by assumption) ?_
                  rotate_left
                  · (intro wx hSw; (try dsimp only at hSw); go_simp; try with_reducible rfl)
                  try simp only [Act.put, List.getElem_toArray, List.getElem_cons_succ, List.getElem_cons_zero, List.setIfInBounds_toArray, List.set_cons_zero, List.set_cons_succ]
                  refine wpAnyH_take (i := 3) (v := ?_) rfl (by kernel_rfl) (by kernel_rfl) (by kernel_rfl) (fun _ _ _ h => h) (Or.inl ⟨by rfl, ?_⟩) (by assumption) ?_
                  rotate_left
                  · (intro wx hSw; (try dsimp only at hSw); go_simp; try with_reducible rfl)
                  try simp only [Act.put, List.getElem_toArray, List.getElem_cons_succ, List.getElem_cons_zero, List.setIfInBounds_toArray, List.set_cons_zero, List.set_cons_succ]
                  refine wpAnyH_take (i := 4) (v := ?_) rfl (by kernel_rfl) (by kernel_rfl) (by kernel_rfl) (fun _ _ _ h => h) (Or.inl ⟨by rfl, ?_⟩) (by assumption) ?_
                  rotate_left
                  · (intro wx hSw; (try dsimp only at hSw); go_simp; try with_reducible rfl)
                  try simp only [Act.put, List.getElem_toArray, List.getElem_cons_succ, List.getElem_cons_zero, List.setIfInBounds_toArray, List.set_cons_zero, List.set_cons_succ]
                  refine wpAnyH_take (i := 5) (v := ?_) rfl (by kernel_rfl) (by kernel_rfl) (by kernel_rfl) (fun _ _ _ h => h) (Or.inl ⟨by rfl, ?_⟩) (by assumption) ?_
                  rotate_left
                  · (intro wx hSw; (try dsimp only at hSw); obtain ⟨⟨_, _, _⟩, _, _⟩ := HALL.out _ hSw; go_simp; try with_reducible rfl)
                  try simp only [Act.put, List.getElem_toArray, List.getElem_cons_succ, List.getElem_cons_zero, List.setIfInBounds_toArray, List.set_cons_zero, List.set_cons_succ]
                  refine wpAnyH_take (i := 6) (v := ?_) rfl (by kernel_rfl) (by kernel_rfl) (by kernel_rfl) (fun _ _ _ h => h) (Or.inl ⟨by rfl, ?_⟩) (by assumption) ?_
                  rotate_left
                  · (intro wx hSw; (try dsimp only at hSw); go_simp; try with_reducible rfl)
                  try simp only [Act.put, List.getElem_toArray, List.getElem_cons_succ, List.getElem_cons_zero, List.setIfInBounds_toArray, List.set_cons_zero, List.set_cons_succ]
                  refine wpAnyH_ready (rs := [7]) (by kernel_rfl) (by simp) (AllReadyH.cons rfl (fun K hK => ?_) AllReadyH.nil)
                  go_simp
                  refine (key_any i _ rfl HT.out _).mono ?_
                  rintro e v1 ⟨rfl, b1⟩
                  rw [show kb (i / 100 % 10) (i / 10 % 10) (i % 10) = keyN i from rfl]
                  try go_wp2_with fail
                  refine hK.out _ _ ?_ (fun hHeld => ?_)
                  · exact next (by assumption) b1
                  clear hK K
                  try simp only [Act.put, List.getElem_toArray, List.getElem_cons_succ, List.getElem_cons_zero, List.setIfInBounds_toArray, List.set_cons_zero, List.set_cons_succ]
                  refine wpAnyH_take (i := 8) (v := ?_) rfl (by kernel_rfl) (by kernel_rfl) (by kernel_rfl) (fun _ _ _ h => h) (Or.inl ⟨by rfl, ?_⟩) (by assumption) ?_
                  rotate_left
                  · (intro wx hSw; (try dsimp only at hSw); go_simp; try with_reducible rfl)
                  try simp only [Act.put, List.getElem_toArray, List.getElem_cons_succ, List.getElem_cons_zero, List.setIfInBounds_toArray, List.set_cons_zero, List.set_cons_succ]
                  refine wpAnyH_take (i := 9) (v := ?_) rfl (by kernel_rfl) (by kernel_rfl) (by kernel_rfl) (fun _ _ _ h => h) (Or.inl ⟨by rfl, ?_⟩) (by assumption) ?_
                  rotate_left
                  · (intro wx hSw; (try dsimp only at hSw); go_simp; try with_reducible rfl)
                  try simp only [Act.put, List.getElem_toArray, List.getElem_cons_succ, List.getElem_cons_zero, List.setIfInBounds_toArray, List.set_cons_zero, List.set_cons_succ]
                  refine wpAnyH_take (i := 10) (v := ?_) rfl (by kernel_rfl) (by kernel_rfl) (by kernel_rfl) (fun _ _ _ h => h) (Or.inl ⟨by rfl, ?_⟩) (by assumption) ?_
                  rotate_left
                  · (intro wx hSw; (try dsimp only at hSw); go_simp; try with_reducible rfl)
                  try simp only [Act.put, List.getElem_toArray, List.getElem_cons_succ, List.getElem_cons_zero, List.setIfInBounds_toArray, List.set_cons_zero, List.set_cons_succ]
                  refine wpAnyH_take (i := 11) (v := ?_) rfl (by kernel_rfl) (by kernel_rfl) (by kernel_rfl) (fun _ _ _ h => h) (Or.inl ⟨by rfl, ?_⟩) (by assumption) ?_
                  rotate_left
                  · (intro wx hSw; (try dsimp only at hSw); obtain ⟨⟨_, _, _⟩, _, _⟩ := HALL.out _ hSw; go_simp; try with_reducible rfl)
                  try simp only [Act.put, List.getElem_toArray, List.getElem_cons_succ, List.getElem_cons_zero, List.setIfInBounds_toArray, List.set_cons_zero, List.set_cons_succ]
                  refine wpAnyH_take (i := 12) (v := ?_) rfl (by kernel_rfl) (by kernel_rfl) (by kernel_rfl) (fun _ _ _ h => h) (Or.inl ⟨by rfl, ?_⟩) (by assumption) ?_
                  rotate_left
                  · (intro wx hSw; (try dsimp only at hSw); go_simp; try with_reducible rfl)
                  try simp only [Act.put, List.getElem_toArray, List.getElem_cons_succ, List.getElem_cons_zero, List.setIfInBounds_toArray, List.set_cons_zero, List.set_cons_succ]
                  refine wpAnyH_take (i := 13) (v := ?_) rfl (by kernel_rfl) (by kernel_rfl) (by kernel_rfl) (fun _ _ _ h => h) (Or.inl ⟨by rfl, ?_⟩) (by assumption) ?_
                  rotate_left
                  · (intro wx hSw; (try dsimp only at hSw); go_simp; try with_reducible rfl)
                  try simp only [Act.put, List.getElem_toArray, List.getElem_cons_succ, List.getElem_cons_zero, List.setIfInBounds_toArray, List.set_cons_zero, List.set_cons_succ]
                  refine wpAnyH_take (i := 14) (v := ?_) rfl (by kernel_rfl) (by kernel_rfl) (by kernel_rfl) (fun _ _ _ h => h) (Or.inl ⟨by rfl, ?_⟩) (by assumption) ?_
                  rotate_left
                  · (intro wx hSw; (try dsimp only at hSw); go_simp; try with_reducible rfl)
                  try simp only [Act.put, List.getElem_toArray, List.getElem_cons_succ, List.getElem_cons_zero, List.setIfInBounds_toArray, List.set_cons_zero, List.set_cons_succ]
                  refine wpAnyH_take (i := 15) (v := ?_) rfl (by kernel_rfl) (by kernel_rfl) (by kernel_rfl) (fun _ _ _ h => h) (Or.inl ⟨by rfl, ?_⟩) (by assumption) ?_
                  rotate_left
                  · (intro wx hSw; (try dsimp only at hSw); go_simp; try with_reducible rfl)
                  try simp only [Act.put, List.getElem_toArray, List.getElem_cons_succ, List.getElem_cons_zero, List.setIfInBounds_toArray, List.set_cons_zero, List.set_cons_succ]
                  refine wpAnyH_take (i := 16) (v := ?_) rfl (by kernel_rfl) (by kernel_rfl) (by kernel_rfl) (fun _ _ _ h => h) (Or.inl ⟨by rfl, ?_⟩) (by assumption) ?_
                  rotate_left
                  · (intro wx hSw; (try dsimp only at hSw); obtain ⟨⟨_, _, _⟩, _, _⟩ := HALL.out _ hSw; go_simp; try with_reducible rfl)
                  try simp only [Act.put, List.getElem_toArray, List.getElem_cons_succ, List.getElem_cons_zero, List.setIfInBounds_toArray, List.set_cons_zero, List.set_cons_succ]
                  refine wpAnyH_take (i := 17) (v := ?_) rfl (by kernel_rfl) (by kernel_rfl) (by kernel_rfl) (fun _ _ _ h => h) (Or.inl ⟨by rfl, ?_⟩) (by assumption) ?_
                  rotate_left
                  · (intro wx hSw; (try dsimp only at hSw); go_simp; try with_reducible rfl)
                  try simp only [Act.put, List.getElem_toArray, List.getElem_cons_succ, List.getElem_cons_zero, List.setIfInBounds_toArray, List.set_cons_zero, List.set_cons_succ]
                  refine wpAnyH_take (i := 18) (v := ?_) rfl (by kernel_rfl) (by kernel_rfl) (by kernel_rfl) (fun _ _ _ h => h) (Or.inl ⟨by rfl, ?_⟩) (by assumption) ?_
                  rotate_left
                  · (intro wx hSw; (try dsimp only at hSw); go_simp; try with_reducible rfl)
                  try simp only [Act.put, List.getElem_toArray, List.getElem_cons_succ, List.getElem_cons_zero, List.setIfInBounds_toArray, List.set_cons_zero, List.set_cons_succ]
                  refine wpAnyH_take (i := 19) (v := ?_) rfl (by kernel_rfl) (by kernel_rfl) (by kernel_rfl) (fun _ _ _ h => h) (Or.inl ⟨by rfl, ?_⟩) (by assumption) ?_
                  rotate_left
                  · (intro wx hSw; (try dsimp only at hSw); go_simp; try with_reducible rfl)
                  try simp only [Act.put, List.getElem_toArray, List.getElem_cons_succ, List.getElem_cons_zero, List.setIfInBounds_toArray, List.set_cons_zero, List.set_cons_succ]
                  refine wpAnyH_done (by kernel_rfl) ?_ _
                  have HB7 := Lib.hid (next HB6.out hHeld)
                  go_wp2
                  go_roundw
                  case rel => exact ⟨i + 1, by omega, by go_num, HB7.out⟩
                  case measure => simp [intOf]; omega
                · obtain rfl : v = 2 := by rw [← hv, if_neg hu2]
                  have q0 : decide ((u : Int) ≤ (i : Int)) = true := by simp; omega
                  have q1 : decide (u ≤ i) = true := by simp; omega
                  have q2 : decide ((n : Int) - (s : Int) ≤ (i : Int)) = true := by simp; omega
                  clear hv
                  go_wp2_with fail
                  refine wp_region_held_drew (S := fun w' => Below wr.heap.size wr w') (by kernel_rfl) ?_ (fun hHeld => ?_)
                  · exact (Below.refl _ _).drew
                  refine wpAnyH_take (i := 0) (v := ?_) rfl (by kernel_rfl) (by kernel_rfl) (by kernel_rfl) (fun _ _ _ h => h) (Or.inl ⟨by rfl, ?_⟩) (by assumption) ?_
                  rotate_left
                  · (intro wx hSw; (try dsimp only at hSw); go_simp; try with_reducible rfl)
                  try simp only [Act.put, List.getElem_toArray, List.getElem_cons_succ, List.getElem_cons_zero, List.setIfInBounds_toArray, List.set_cons_zero, List.set_cons_succ]
                  refine wpAnyH_take (i := 1) (v := ?_) rfl (by kernel_rfl) (by kernel_rfl) (by kernel_rfl) (fun _ _ _ h => h) (Or.inl ⟨by rfl, ?_⟩) (by assumption) ?_
                  rotate_left
                  · (intro wx hSw; (try dsimp only at hSw); obtain ⟨⟨_, _, _⟩, _, _⟩ := HALL.out _ hSw; go_simp; try with_reducible rfl)
                  try simp only [Act.put, List.getElem_toArray, List.getElem_cons_succ, List.getElem_cons_zero, List.setIfInBounds_toArray, List.set_cons_zero, List.set_cons_succ]
                  refine wpAnyH_take (i := 2) (v := ?_) rfl (by kernel_rfl) (by kernel_rfl) (by kernel_rfl) (fun _ _ _ h => h) (Or.inl ⟨by rfl, ?_⟩) (by assumption) ?_
                  rotate_left
                  · (intro wx hSw; (try dsimp only at hSw); go_simp; try with_reducible rfl)
                  try simp only [Act.put, List.getElem_toArray, List.getElem_cons_succ, List.getElem_cons_zero, List.setIfInBounds_toArray, List.set_cons_zero, List.set_cons_succ]
                  refine wpAnyH_take (i := 3) (v := ?_) rfl (by kernel_rfl) (by kernel_rfl) (by kernel_rfl) (fun _ _ _ h => h) (Or.inl ⟨by rfl, ?_⟩) (by assumption) ?_
                  rotate_left
                  · (intro wx hSw; (try dsimp only at hSw); go_simp; try with_reducible rfl)
                  try simp only [Act.put, List.getElem_toArray, List.getElem_cons_succ, List.getElem_cons_zero, List.setIfInBounds_toArray, List.set_cons_zero, List.set_cons_succ]
                  refine wpAnyH_take (i := 4) (v := ?_) rfl (by kernel_rfl) (by kernel_rfl) (by kernel_rfl) (fun _ _ _ h => h) (Or.inl ⟨by rfl, ?_⟩) (by assumption) ?_
                  rotate_left
                  · (intro wx hSw; (try dsimp only at hSw); go_simp; try with_reducible rfl)
                  try simp only [Act.put, List.getElem_toArray, List.getElem_cons_succ, List.getElem_cons_zero, List.setIfInBounds_toArray, List.set_cons_zero, List.set_cons_succ]
                  refine wpAnyH_take (i := 5) (v := ?_) rfl (by kernel_rfl) (by kernel_rfl) (by kernel_rfl) (fun _ _ _ h => h) (Or.inl ⟨by rfl, ?_⟩) (by assumption) ?_
                  rotate_left
                  · (intro wx hSw; (try dsimp only at hSw); obtain ⟨⟨_, _, _⟩, _, _⟩ := HALL.out _ hSw; go_simp; try with_reducible rfl)
                  try simp only [Act.put, List.getElem_toArray, List.getElem_cons_succ, List.getElem_cons_zero, List.setIfInBounds_toArray, List.set_cons_zero, List.set_cons_succ]
                  refine wpAnyH_take (i := 6) (v := ?_) rfl (by kernel_rfl) (by kernel_rfl) (by kernel_rfl) (fun _ _ _ h => h) (Or.inl ⟨by rfl, ?_⟩) (by assumption) ?_
                  rotate_left
                  · (intro wx hSw; (try dsimp only at hSw); go_simp; try with_reducible rfl)
                  try simp only [Act.put, List.getElem_toArray, List.getElem_cons_succ, List.getElem_cons_zero, List.setIfInBounds_toArray, List.set_cons_zero, List.set_cons_succ]
                  refine wpAnyH_ready (rs := [7]) (by kernel_rfl) (by simp) (AllReadyH.cons rfl (fun K hK => ?_) AllReadyH.nil)
                  go_simp
                  refine (key_any i _ rfl HT.out _).mono ?_
                  rintro e v1 ⟨rfl, b1⟩
                  rw [show kb (i / 100 % 10) (i / 10 % 10) (i % 10) = keyN i from rfl]
                  try go_wp2_with fail
                  refine hK.out _ _ ?_ (fun hHeld => ?_)
                  · exact next (by assumption) b1
                  clear hK K
                  try simp only [Act.put, List.getElem_toArray, List.getElem_cons_succ, List.getElem_cons_zero, List.setIfInBounds_toArray, List.set_cons_zero, List.set_cons_succ]
                  refine wpAnyH_take (i := 8) (v := ?_) rfl (by kernel_rfl) (by kernel_rfl) (by kernel_rfl) (fun _ _ _ h => h) (Or.inl ⟨by rfl, ?_⟩) (by assumption) ?_
                  rotate_left
                  · (intro wx hSw; (try dsimp only at hSw); go_simp; try with_reducible rfl)
                  try simp only [Act.put, List.getElem_toArray, List.getElem_cons_succ, List.getElem_cons_zero, List.setIfInBounds_toArray, List.set_cons_zero, List.set_cons_succ]
                  refine wpAnyH_take (i := 9) (v := ?_) rfl (by kernel_rfl) (by kernel_rfl) (by kernel_rfl) (fun _ _ _ h => h) (Or.inl ⟨by rfl, ?_⟩) (by assumption) ?_
                  rotate_left
                  · (intro wx hSw; (try dsimp only at hSw); go_simp; try with_reducible rfl)
                  try simp only [Act.put, List.getElem_toArray, List.getElem_cons_succ, List.getElem_cons_zero, List.setIfInBounds_toArray, List.set_cons_zero, List.set_cons_succ]
                  refine wpAnyH_take (i := 10) (v := ?_) rfl (by kernel_rfl) (by kernel_rfl) (by kernel_rfl) (fun _ _ _ h => h) (Or.inl ⟨by rfl, ?_⟩) (by assumption) ?_
                  rotate_left
                  · (intro wx hSw; (try dsimp only at hSw); go_simp; try with_reducible rfl)
                  try simp only [Act.put, List.getElem_toArray, List.getElem_cons_succ, List.getElem_cons_zero, List.setIfInBounds_toArray, List.set_cons_zero, List.set_cons_succ]
                  refine wpAnyH_take (i := 11) (v := ?_) rfl (by kernel_rfl) (by kernel_rfl) (by kernel_rfl) (fun _ _ _ h => h) (Or.inl ⟨by rfl, ?_⟩) (by assumption) ?_
                  rotate_left
                  · (intro wx hSw; (try dsimp only at hSw); obtain ⟨⟨_, _, _⟩, _, _⟩ := HALL.out _ hSw; go_simp; try with_reducible rfl)
                  try simp only [Act.put, List.getElem_toArray, List.getElem_cons_succ, List.getElem_cons_zero, List.setIfInBounds_toArray, List.set_cons_zero, List.set_cons_succ]
                  refine wpAnyH_take (i := 12) (v := ?_) rfl (by kernel_rfl) (by kernel_rfl) (by kernel_rfl) (fun _ _ _ h => h) (Or.inl ⟨by rfl, ?_⟩) (by assumption) ?_
                  rotate_left
                  · (intro wx hSw; (try dsimp only at hSw); go_simp; try with_reducible rfl)
                  try simp only [Act.put, List.getElem_toArray, List.getElem_cons_succ, List.getElem_cons_zero, List.setIfInBounds_toArray, List.set_cons_zero, List.set_cons_succ]
                  refine wpAnyH_take (i := 13) (v := ?_) rfl (by kernel_rfl) (by kernel_rfl) (by kernel_rfl) (fun _ _ _ h => h) (Or.inl ⟨by rfl, ?_⟩) (by assumption) ?_
                  rotate_left
                  · (intro wx hSw; (try dsimp only at hSw); go_simp; try with_reducible rfl)
                  try simp only [Act.put, List.getElem_toArray, List.getElem_cons_succ, List.getElem_cons_zero, List.setIfInBounds_toArray, List.set_cons_zero, List.set_cons_succ]
                  refine wpAnyH_take (i := 14) (v := ?_) rfl (by kernel_rfl) (by kernel_rfl) (by kernel_rfl) (fun _ _ _ h => h) (Or.inl ⟨by rfl, ?_⟩) (by assumption) ?_
                  rotate_left
                  · (intro wx hSw; (try dsimp only at hSw); go_simp; try with_reducible rfl)
                  try simp only [Act.put, List.getElem_toArray, List.getElem_cons_succ, List.getElem_cons_zero, List.setIfInBounds_toArray, List.set_cons_zero, List.set_cons_succ]
                  refine wpAnyH_take (i := 15) (v := ?_) rfl (by kernel_rfl) (by kernel_rfl) (by kernel_rfl) (fun _ _ _ h => h) (Or.inl ⟨by rfl, ?_⟩) (by assumption) ?_
                  rotate_left
                  · (intro wx hSw; (try dsimp only at hSw); go_simp; try with_reducible rfl)
                  try simp only [Act.put, List.getElem_toArray, List.getElem_cons_succ, List.getElem_cons_zero, List.setIfInBounds_toArray, List.set_cons_zero, List.set_cons_succ]
                  refine wpAnyH_take (i := 16) (v := ?_) rfl (by kernel_rfl) (by kernel_rfl) (by kernel_rfl) (fun _ _ _ h => h) (Or.inl ⟨by rfl, ?_⟩) (by assumption) ?_
                  rotate_left
                  · (intro wx hSw; (try dsimp only at hSw); obtain ⟨⟨_, _, _⟩, _, _⟩ := HALL.out _ hSw; go_simp; try with_reducible rfl)
                  try simp only [Act.put, List.getElem_toArray, List.getElem_cons_succ, List.getElem_cons_zero, List.setIfInBounds_toArray, List.set_cons_zero, List.set_cons_succ]
                  refine wpAnyH_take (i := 17) (v := ?_) rfl (by kernel_rfl) (by kernel_rfl) (by kernel_rfl) (fun _ _ _ h => h) (Or.inl ⟨by rfl, ?_⟩) (by assumption) ?_
                  rotate_left
                  · (intro wx hSw; (try dsimp only at hSw); go_simp; try with_reducible rfl)
                  try simp only [Act.put, List.getElem_toArray, List.getElem_cons_succ, List.getElem_cons_zero, List.setIfInBounds_toArray, List.set_cons_zero, List.set_cons_succ]
                  refine wpAnyH_take (i := 18) (v := ?_) rfl (by kernel_rfl) (by kernel_rfl) (by kernel_rfl) (fun _ _ _ h => h) (Or.inl ⟨by rfl, ?_⟩) (by assumption) ?_
                  rotate_left
                  · (intro wx hSw; (try dsimp only at hSw); go_simp; try with_reducible rfl)
                  try simp only [Act.put, List.getElem_toArray, List.getElem_cons_succ, List.getElem_cons_zero, List.setIfInBounds_toArray, List.set_cons_zero, List.set_cons_succ]
                  refine wpAnyH_take (i := 19) (v := ?_) rfl (by kernel_rfl) (by kernel_rfl) (by kernel_rfl) (fun _ _ _ h => h) (Or.inl ⟨by rfl, ?_⟩) (by assumption) ?_
                  rotate_left
                  · (intro wx hSw; (try dsimp only at hSw); go_simp; try with_reducible rfl)
                  try simp only [Act.put, List.getElem_toArray, List.getElem_cons_succ, List.getElem_cons_zero, List.setIfInBounds_toArray, List.set_cons_zero, List.set_cons_succ]
                  refine wpAnyH_done (by kernel_rfl) ?_ _
                  have HB7 := Lib.hid (next HB6.out hHeld)
                  go_wp2
                  go_roundw
                  case rel => exact ⟨i + 1, by omega, by go_num, HB7.out⟩
                  case measure => simp [intOf]; omega
              · obtain rfl : n2 = i := by omega
                have r0 : ((n2 : Int) == (n : Int) + (m : Int) - (s : Int)) = true := by rw [beq_iff_eq]; omega
                have r1 : (n2 : Int) = (n : Int) + (m : Int) - (s : Int) := by omega
                have HLN := Lib.hid (HLM.out.below (hb6.mono (by have := HS5.out; omega)))
                have HW6 := Lib.hid (show w4.heap.size ≤ wr.heap.size by have := hb6.size; have := HS5.out; omega)
                have hfew : FewR M := fun x hx => by
                  have h1 : x.ro ∈ ros M := List.mem_map.2 ⟨x, hx, rfl⟩
                  rw [HM.out] at h1
                  obtain ⟨i, _, e⟩ := List.mem_map.1 h1
                  rw [← e]
                  exact ⟨fun y hy => (by cases hy), Nat.zero_le _, Nat.zero_le _⟩
                have hpok : Pa.ok ⟨⟨#[]⟩, 0, ros M⟩ = true := by
                  unfold Pa.ok
                  rw [HM.out, seqR_ok _ (fun i => by split <;> omega) _ _ (by omega), seqR_length, decide_eq_true hfit]
                  rfl
                have HFEW := Lib.hid hfew; have HPOK := Lib.hid hpok
                clear hfew hpok hb6 hpt
                go_wp2_with fail
                refine (pcheck_any ⟨#[]⟩ 0 A2 n2 c2 w4.heap.size M _ HLN.out HW6.out (by omega) HFEW.out).mono ?_
                rintro e w8 ⟨rfl, b8⟩
                rw [HPOK.out]
                have HB8 := Lib.hid (next HB6.out b8)
                clear b8
                go_wp2_with fail
                refine (pawake_any _).mono ?_
                rintro e w9 ⟨rfl, b9⟩
                have HB9 := Lib.hid (next HB5.out (next HB8.out b9))
                clear b9
                go_wp2
                go_ret
                exact ⟨rfl, HB9.out⟩
          · have k1 : decide ((n : Int) + (m : Int) - (s : Int) ≤ 100) = false := by simp; omega
            go_wp2_with fail
            refine (pjoin_over ⟨#[]⟩ ⟨#[]⟩ 0 0 A A' n m c c' wr.heap.size wr.heap.size _ _ _ HLX.out HLY.out (Nat.le_refl _) (Nat.le_refl _) (by omega) HUX.out HUY.out HTT.out _ HXX.out (by rw [seqR_length, HN.out]; omega)).mono ?_
            rintro e w4 ⟨rfl, b4⟩
            have hz4 := heap_alloc_new w4 (.cells #[.string ⟨#[]⟩, .int .i64 0, .slice none 0 0] 24)
            have hb5 := next HBW.out b4
            have HB5 := Lib.hid (hb5.alloc hb5.size (.cells #[.string ⟨#[]⟩, .int .i64 0, .slice none 0 0] 24))
            obtain ⟨_, _, _⟩ := PtAt.of hz4
            clear b4 hz4 hb5
            go_wp2_with fail
            refine (pawake_any _).mono ?_
            rintro e w6 ⟨rfl, b6⟩
            have HB6 := Lib.hid (next HB5.out b6)
            clear b6
            go_wp2
            go_ret
            exact ⟨rfl, HB6.out⟩
end Go.Proofs.Ytafbbojfifcncaa
set_option linter.unusedVariables false
namespace Go.Proofs.Ytafbbojfifcncaa.lawPartRooms
open Go Go.ChangeShapes Go.WideShapes Go.ChangeAt Go.RowKit
open Go.ChangeMaps (open_string shut_string)

theorem own : ownKnob Try.prog.godebug = none := by kernel_rfl
theorem laidOut : laidOutB Try.prog = true := by kernel_rfl

set_option maxRecDepth 100000 in
theorem lifted (os : Os) (started : os.Started) (H : Type) (enc : TypeId × Value → H) :
    ReturnsInHanded {} Try.checked os 6 .any (Rows.partRoomsSpec.pre6 enc Try.prog Try.f6 Rows.partRoomsRow.domain false) (Rows.partRoomsSpec.post enc Try.prog Try.f6 false true false false) := by
  refine returnsInHanded_of_change (C := Try.checked) own started (by kernel_rfl) Try.func6
    (ChangeSpec.witness6 (enc := enc) (C := Try.checked) false ⟨#[], #[.int .i64 0, .int .i64 0, .int .i64 0], []⟩ 8 (by kernel_rfl) (by kernel_rfl) (by kernel_rfl) (by kernel_rfl)) ?_
  intro W base args ds gs before hval0 hW hcnd _
  have hval : ∀ (j : Nat) t v, Try.f6.params[j]? = some t → args[j]? = some v → Value.okWide Try.prog W .any base t v := hval0
  have hW' := hW
  obtain ⟨p, q, hA0, hV, rfl, hfz, hnd⟩ := hW
  have hA : DataW.TrodAll enc Try.prog W 0 (fun _ => true) true Try.f6.params.toList args.toList ds p := hA0
  rw [Try.params6] at hA hval
  obtain ⟨v0, vs0, d0, ds0, p0, q0, hargs, rfl, rfl, h0, r0⟩ := trodAll_cons hA
  obtain ⟨v1, vs1, d1, ds1, p1, q1, rfl, rfl, rfl, h1, r1⟩ := trodAll_cons r0
  obtain ⟨v2, vs2, d2, ds2, p2, q2, rfl, rfl, rfl, h2, r2⟩ := trodAll_cons r1
  obtain ⟨rfl, rfl, rfl⟩ := trodAll_nil r2
  obtain rfl : args = #[v0, v1, v2] := by cases args; simp_all
  obtain ⟨rfl, rfl⟩ := trodVars_none hV
  obtain ⟨a0, rfl, rfl, rfl, w0⟩ := open_int Try.underlying3 (hval 0 3 v0 rfl rfl) h0
  obtain ⟨a1, rfl, rfl, rfl, w1⟩ := open_int Try.underlying3 (hval 1 3 v1 rfl rfl) h1
  obtain ⟨a2, rfl, rfl, rfl, w2⟩ := open_int Try.underlying3 (hval 2 3 v2 rfl rfl) h2
  clear hA0 hval0
  refine (rooms_law a0 a1 a2 W w0 w1 w2).mono fun e W' ⟨he, bel⟩ => ?_
  subst he
  exact ⟨_, rfl, _, _, _, [], _, [], hW', trodAll_mk1 (shut_bool Try.underlying4 _), (trodAll_cons_mk (shut_int Try.underlying3 w0) (trodAll_cons_mk (shut_int Try.underlying3 w1) (trodAll_cons_mk (shut_int Try.underlying3 w2) trodAll_mk0))), rfl, bel.frame _, fun h => by cases h⟩

theorem over : Rows.partRoomsRow.holds Try.pinned (OpenSpec.ofChange Rows.partRoomsSpec) :=
  OpenClaim.holds_of_wide 6 Try.f6 rfl rfl rfl rfl rfl rfl rfl ⟨rfl, rfl, rfl, rfl, rfl⟩ rfl rfl rfl rfl rfl (by kernel_rfl) Try.func6 (by kernel_rfl)
    (of_decide_eq_true (by kernel_rfl)) (by unfold Func.isWrapper; first | (rw [if_pos (by decide +kernel)]; kernel_rfl) | (rw [if_neg (by decide +kernel)]; exact ⟨rfl, rfl⟩))
    (fun os started H enc _ => lifted os started H enc)

theorem proved : Rows.PartRoomsSaid := over
end Go.Proofs.Ytafbbojfifcncaa.lawPartRooms
