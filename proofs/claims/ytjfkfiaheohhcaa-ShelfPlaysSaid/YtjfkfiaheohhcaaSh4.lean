/-
  The calls of a shelf: Nums, Copy.
-/
import Derived.Test.YtjfkfiaheohhcaaSh3
import Derived.Maps.AppendAt
import Derived.Deep.RegionWith
set_option linter.unusedVariables false
set_option linter.unusedSimpArgs false
namespace Go.Proofs.Ytjfkfiaheohhcaa
open Go Go.RowKit

def iRow (l : List Int) : List Value := l.map (Value.int .i64)
theorem infoInt : (Try.prog.info? 3).map (fun i => (i.zero, i.size, i.bytes)) = some (some (.int .i64 0), 1, 8) := by kernel_rfl
/-- append(own, n). -/
theorem run_appI {w : World} (base : Nat) {v : Value} {n : Nat} {l : List Int} (hown : w.ownsRow base 3 1 v n (iRow l)) (s : Int) {ad : Addr} (hc : w.cell? ad = some (.int .i64 s))
    (hsz : n ≤ 1000000000000) (hbase : base ≤ w.heap.size) (ty : TypeId) :
    ∃ v' w', (Builtin.append_ #[45, 45] ty #[v, .slice (some ad) 1 1]).run Try.prog w = .ok v' w' ∧ (w'.ownsRow base 3 1 v' (n + 1) (iRow (l ++ [s])) ∧ w.grownBy w' v.ownBlock) := by
  obtain ⟨i, hi, hz0, hz1, hz2⟩ := info_parts infoInt
  obtain ⟨v', w', h1, h2, h3, _⟩ := run_append_own (P := Try.prog) w base 45 ty 3 i (.int .i64 0) 1 8 Try.underlying45 hi hz0 hz1 hz2 rfl (by decide) v n (iRow l) hown ad 1 1 [.int .i64 s] rfl
    (fun j u hj => by
      rcases j with _ | j
      · have e : ad.add 0 = ad := by unfold Addr.add; rw [if_pos rfl]
        rw [e, hc]
        exact hj
      · simp at hj)
    (fun u hu => by simp at hu; subst hu; rfl) (by unfold maxLen; omega) (by omega) hbase
  exact ⟨v', w', h1, by unfold iRow; rw [List.map_append]; exact h2, h3⟩

set_option maxHeartbeats 2000000 in
theorem nums_any (F : Nat → Prop) (p : Nat) (S : Sh) (w : World) (h : ShIs w F p S) :
    Calls Try.prog 24 #[.pointer (some ⟨p, 0, none⟩)] w fun e w' => ∃ v, e = .returned v ∧ w'.ownsRow w.heap.size 3 1 v S.fs.length (iRow (numsF S.fs)) ∧ Below w.heap.size w w' := by
  have hok := h.ok
  have hlen := hok.len
  have hup := hok.up
  have hwf := hok.wf
  obtain ⟨v, m, h⟩ := h
  obtain ⟨c0, c1, c2, c3, fz⟩ := h.cells
  have H := Lib.hid h
  have HW := Lib.hid hwf
  have hml := h.2.2.1.lt
  clear h fz hok hwf
  go_enter Try.func24, Try.ntmps24
  go_wp2_with (at_range; refine wpList_range_own _ rfl _ 52 rfl 3 56 keyI Try.underlying52 elemF m _ _ rfl H.out.2.2.1 ?_; intro w0 hrg0 hg0 hs0)
  go_frame
  go_loopw [3] (fun v wr => ∃ (left : Lit → Bool) (cnt : Nat) (ss : List Int), wr.ranges Try.prog 3 elemF m w.heap.size S.fs.length (mapF S.fs) left cnt ∧ ss.length + cnt ≤ S.fs.length ∧
      wr.ownsRow w.heap.size 3 1 v ss.length (iRow ss) ∧ MetF S.fs left ss ∧ Below w.heap.size w wr)
    (fun _ wr => wr.rangeLeft m w.heap.size)
  case atStart =>
    exact ⟨_, _, [], hrg0, by rw [size_mapF]; simp, World.ownsRow_nil _ _ _ _, MetF.start _, (Below.refl _ _).grown hg0 (Nat.le_refl _) (fun j hj => by cases hj)⟩
  case round =>
    obtain ⟨left, cnt, ss, hrg, hcs, hrow, hC, hnx⟩ := hrel
    have hss : ss.length ≤ 40 := by omega
    go_wp2_with (at_next; refine wpList_next_ranges _ rfl _ rfl 3 keyI elemF (Value.int .i64) (fun s => .agg #[.string s]) (fun key kl hk => by obtain ⟨x, rfl, _⟩ := Maps.keyOf_int_inv Try.underlying3 hk; exact ⟨x, rfl⟩) (fun v y hv => by obtain ⟨s, rfl, _⟩ := elemF_inv hv; exact ⟨s, rfl⟩) m w.heap.size _ _ _ _ rfl hrg ?_ ?_)
    · intro hc0 hl0
      have hso := hC.sorted hup hl0
      have hlen2 : ss.length = S.fs.length := by
        have h1 := congrArg List.length hso
        rw [List.length_mergeSort] at h1
        unfold numsF at h1
        rw [List.length_map] at h1
        exact h1
      have HSO := Lib.hid hso
      have HL := Lib.hid hlen2
      clear hso hlen2 hlen hcs
      rcases hrow.2 with ⟨rfl, hl00⟩ | ⟨g, cap, cur, rfl, hbase, hb, h1, h2, h3, h4⟩
      · obtain rfl : ss = [] := List.eq_nil_of_length_eq_zero hl00
        go_wp2_with (go_at_call 38; refine (sort_none none 0 _).mono ?_; rintro e w' ⟨rfl, rfl⟩)
        go_ret
        rw [← HSO.out, ← HL.out]
        rw [List.mergeSort_nil]
        exact ⟨_, rfl, hrow, hnx⟩
      · have hH : Sort.Holds (Value.int .i64) wr g 0 ss.toArray := holds_of_blockI hb (by simpa [iRow] using h4)
        have hgl : g < wr.heap.size := (Array.getElem?_eq_some_iff.1 hb).1
        have hc := sort_any g 0 cap ss wr hH hgl (by omega)
        go_wp2_with (go_at_call 38; refine hc.mono ?_; rintro e w' ⟨rfl, nn, os, rfl⟩)
        go_ret
        rw [← HSO.out, ← HL.out]
        exact ⟨_, rfl, ownsRow_sortedI (by simp) hbase hb h1 h2 h3, hnx.grown (grownBy_sortedI _) hnx.size (fun j hj => by cases hj; exact hbase)⟩
    · intro x c kl yd yp w2 cnt2 hkey hlk hv hat hrg2 hlt hg2 hs2 hen
      obtain ⟨x', ex, rfl, _⟩ := Maps.keyOf_int_inv Try.underlying3 hkey
      injection ex with _ ex
      subst ex
      have hhas : hasF S.fs x = true := by rw [← has_mapF]; exact Maps.has_true_of_atKey hat
      have hrow2 := hrow.kept hg2 (Or.inr (row_ne_iter hrow hrg).symm)
      have hcell : (w2.alloc (.cells #[.int .i64 x] 3)).cell? ⟨w2.heap.size, 0, none⟩ = some (.int .i64 x) := cell_of_one (heap_alloc_new w2 _)
      have HC := Lib.hid hcell
      have HH := Lib.hid hhas
      have HAT := Lib.hid hat
      clear hs2 hcell hhas hat
      go_wp2_with (at_builtin; refine list_ex rfl (.tmp 14) (.tmp 16) _ _ rfl _ _ rfl rfl (run_appI w.heap.size (hrow2.alloc _) x HC.out ?s1 ?s2) ?_)
      case s1 => omega
      case s2 => have := hnx.size; have := hg2.size; simp; omega
      intro v' w3 hown' hg3
      have hrg3 := (hrg2.alloc _).kept hg3 (row_ne_low hrow2 hml) (row_ne_iter hrow2 hrg2)
      go_wp2
      go_roundw
      case rel =>
        refine ⟨_, cnt2, ss ++ [x], hrg3, by simp; omega, by simpa using hown', hC.step HH.out hlk, ?_⟩
        exact ((hnx.grown hg2 hnx.size (fun j hj => by cases hj; exact Nat.le_refl _)).alloc (by have := hnx.size; have := hg2.size; omega) _).grown hg3 (by have := hnx.size; have := hg2.size; simp; omega) (fun j hj => (hrow2.lt j hj).1)
      case measure => rw [hrg3.left_eq, hrg.left_eq]; exact hlt

set_option maxHeartbeats 2000000 in
theorem copy_any (F : Nat → Prop) (p : Nat) (S : Sh) (w : World) (h : ShIs w F p S) :
    Calls Try.prog 14 #[.pointer (some ⟨p, 0, none⟩)] w fun e w' => ∃ q F', e = .returned (.pointer (some ⟨q, 0, none⟩)) ∧ ShIs w' F' q S ∧ Below w.heap.size w w' ∧ ∀ k, F' k → w.heap.size ≤ k ∧ k < w'.heap.size := by
  have hok := h.ok
  have hl := hok.log
  obtain ⟨v, m, h⟩ := h
  obtain ⟨c0, c1, c2, c3, fz⟩ := h.cells
  have H := Lib.hid h
  obtain ⟨A, c, rfl, hn, hc, hA, hr⟩ := Rd.of_own h.2.1
  clear h fz hok hr
  go_enter Try.func14, Try.ntmps14
  go_wp2_with fail
  go_region_held3 (fun w' => w'.cell? ⟨p, 0, none⟩ = some (.slice A S.log.length c) ∧ w'.cell? ⟨p, 1, none⟩ = some (.int .i64 (S.syn : Nat)) ∧ w'.cell? ⟨p, 2, none⟩ = some (.map (some m)) ∧ w'.cell? ⟨p, 3, none⟩ = some (.string S.man)) (refine ⟨?_, ?_, ?_, ?_⟩ <;> first | assumption | exact ka0 _ | exact ka1 _ | exact ka2 _ | exact ka3 _) (first
    | (go_at_call 35; refine (bytesClone_any 0 S.log.length _ S.log _ H.out.2.1.drew (by omega)).mono ?_; rintro e w1 ⟨v1, rfl, ho1, b1⟩; obtain ⟨A1, c1', rfl, _⟩ := own_slice ho1; obtain ⟨g0, g1, g2, g3, _⟩ := (H.out.drew.below b1).cells)
    | (go_at_call 36; refine (mapClone_any 3 elemF m _ _ _ (H.out.drew.below b1).2.2.1).mono ?_; rintro e w2 ⟨rfl, hm2, hm2', b2⟩; obtain ⟨k0, k1, k2, k3, _⟩ := ((H.out.drew.below b1).below b2).cells; have kp : p < w2.heap.size := World.block_lt_of_cell? w2 ⟨p, 0, none⟩ k0; have ka0 := fun o => (World.cell?_alloc_lt w2 o ⟨p, 0, none⟩ kp).trans k0; have ka1 := fun o => (World.cell?_alloc_lt w2 o ⟨p, 1, none⟩ kp).trans k1; have ka2 := fun o => (World.cell?_alloc_lt w2 o ⟨p, 2, none⟩ kp).trans k2; have ka3 := fun o => (World.cell?_alloc_lt w2 o ⟨p, 3, none⟩ kp).trans k3))
  all_goals go_wp2
  all_goals go_ret
  all_goals
    have hz1 := b1.size
    have hz2 := b2.size
    have hw : w.drew.heap.size = w.heap.size := rfl
    have ho2 := own_below ho1 b2
    have hlt1 := own_block_lt ho1
    have hbase := fun g hg => (ho1.lt g hg).1
    have hnew := heap_alloc_new w2 (.cells #[.slice A1 S.log.length c1', .int .i64 (S.syn : Nat), .map (some w1.heap.size), .string S.man] 54)
    have b3 := (b1.trans (b2.mono hz1)).alloc (by omega) (.cells #[.slice A1 S.log.length c1', .int .i64 (S.syn : Nat), .map (some w1.heap.size), .string S.man] 54)
    refine ⟨w2.heap.size, fun k => w.heap.size ≤ k ∧ k < w2.heap.size + 1, rfl, ⟨_, w1.heap.size, hnew, own_down (ho2.alloc _) (Nat.zero_le _), hm2.alloc _, ⟨by omega, by omega⟩, ⟨by omega, by have := hm2.lt; omega⟩, fun g hg => ⟨by have := hbase g hg; omega, by have := hlt1 g hg; omega⟩, H.out.ok⟩, ⟨b3.os, b3.tape, b3.output, b3.size, b3.block⟩, fun k hk => by simpa using hk⟩
end Go.Proofs.Ytjfkfiaheohhcaa
