/-
  LexAll: the walk.
-/
import Derived.Test.YtdbdlgmejddbhaaDoorLza
import Derived.Test.YtdbdlgmejddbhaaDoorLwLxBlanks
set_option linter.unusedVariables false
namespace Go.Proofs.YtdbdlgmejddbhaaDoor
open Go Go.RowKit Go.Proofs

/-- What All is to answer: the tokens, the place, the number of the error. -/
def lxO (s : ByteArray) : List Tk4 × Nat × Nat :=
  if 1000 < s.size then ([], 0, 2) else match lx s.data.toList 0 0 with
    | .ok L => (L, 0, 0)
    | .error n => ([], n, 3)
theorem lxO_len (s : ByteArray) : (lxO s).1.length ≤ 1000 := by
  unfold lxO
  split
  · simp
  · split
    · rename_i L h
      have := lx_len _ _ _ _ h
      rw [← Lib.size_eq] at this
      dsimp only
      omega
    · simp
theorem tks_nil (w : World) (B : Nat) : TksAt w B none [] := fun k t h => by simp at h
theorem IsRefs.form {B : Nat} {v : Value} {l : List Tk4} {w : World} (h : IsRefs B v l w) :
    ∃ (A : Option Addr) (cap : Nat), v = .slice A l.length cap ∧ l.length ≤ cap ∧ cap ≤ maxLen ∧ TksAt w w.heap.size A l := by
  obtain ⟨h1, h2⟩ := h
  rcases h2 with ⟨rfl, h0⟩ | ⟨g, cap, cur, rfl, hg, hh, hn, hm, hs, ht⟩
  · refine ⟨none, 0, by rw [h0], by omega, by unfold maxLen; omega, fun k t hk => ?_⟩
    have hkl : k < l.length := (List.getElem?_eq_some_iff.1 hk).1
    omega
  · refine ⟨_, cap, rfl, hn, hm, fun k c hk => ?_⟩
    have hkl : k < l.length := (List.getElem?_eq_some_iff.1 hk).1
    have hgl : g < w.heap.size := (Array.getElem?_eq_some_iff.1 hh).1
    have key : ∀ j u, j < 4 → (tcells c)[j]? = some u → w.cell? ⟨g, k * 4 + j, none⟩ = some u := by
      intro j u hj hu
      rw [blk_cell hh, ← hu, ← tflat_get l k j c hk hj, ← ht, List.getElem?_take, if_pos (by omega)]
      simp
    exact ⟨g, rfl, hgl, key 0 _ (by omega) rfl, key 1 _ (by omega) rfl, key 2 _ (by omega) rfl, key 3 _ (by omega) rfl⟩
theorem lall_o (s : ByteArray) (w : World) (hs : s.size ≤ maxLen) (hE : Two w) :
    Calls Tryd.prog 8 #[.string s] w fun e w' => ∃ A c, e = .returned (.tuple #[.slice A (lxO s).1.length c, .int .i64 ((lxO s).2.1 : Nat), .int .i64 ((lxO s).2.2 : Nat)]) ∧ (lxO s).1.length ≤ c ∧ c ≤ maxLen ∧ TksAt w' w'.heap.size A (lxO s).1 ∧ Below w.heap.size w w' := by
  unfold lxO
  by_cases hb : 1000 < s.size
  · rw [if_pos hb]
    refine (lall_big2 s w hs hb).mono ?_
    rintro e w1 ⟨rfl, b1⟩
    exact ⟨none, 0, rfl, Nat.le_refl _, by unfold maxLen; omega, tks_nil _ _, b1⟩
  · rw [if_neg hb]
    cases h : lx s.data.toList 0 0 with
    | error n =>
      refine (lall_err s w (by omega) hE h).mono ?_
      rintro e w1 ⟨rfl, b1⟩
      exact ⟨none, 0, rfl, Nat.le_refl _, by unfold maxLen; omega, tks_nil _ _, b1⟩
    | ok L =>
      refine (lall_ok s w (by omega) hE h).mono ?_
      rintro e w1 ⟨A, c, rfl, h1, h2, h3, b1⟩
      exact ⟨A, c, rfl, h1, h2, h3, b1⟩
theorem rall_o (s : ByteArray) (w : World) (hs : s.size ≤ 1099511627776) :
    Calls Tryd.prog 9 #[.string s] w fun e w' => ∃ A c, e = .returned (.tuple #[.slice A (lxO s).1.length c, .int .i64 ((lxO s).2.1 : Nat), .int .i64 ((lxO s).2.2 : Nat)]) ∧ (lxO s).1.length ≤ c ∧ c ≤ maxLen ∧ TksAt w' w'.heap.size A (lxO s).1 ∧ Below w.heap.size w w' := by
  unfold lxO
  by_cases hb : 1000 < s.size
  · rw [if_pos hb]
    refine (rall_big s w hs hb).mono ?_
    rintro e w1 ⟨⟨_, rfl⟩ | ⟨h, _⟩ | ⟨h, _⟩, b1⟩
    · exact ⟨none, 0, rfl, Nat.le_refl _, by unfold maxLen; omega, tks_nil _ _, b1⟩
    · omega
    · omega
  · rw [if_neg hb]
    refine (rall_any s w (by omega)).mono ?_
    rintro e w1 ⟨⟨h, _⟩ | ⟨_, n, h, rfl⟩ | ⟨_, L, v, h, hv, rfl⟩, b1⟩
    · omega
    · rw [h]
      exact ⟨none, 0, rfl, Nat.le_refl _, by unfold maxLen; omega, tks_nil _ _, b1⟩
    · rw [h]
      obtain ⟨A, c, rfl, h1, h2, h3⟩ := hv.form
      exact ⟨A, c, rfl, h1, h2, h3, b1⟩

set_option maxHeartbeats 4000000 in
set_option maxRecDepth 100000 in
theorem lxall_law (s : ByteArray) (w : World) (hs : s.size ≤ maxLen) (hE : Two w) :
    Calls Tryd.prog 3 #[.string s] w fun e w' => e = .returned (.bool true) ∧ Below w.heap.size w w' := by
  have HE := Lib.hid hE
  have hsm := hs
  unfold maxLen at hsm
  clear hE
  by_cases h15 : (1500 : Int) < (s.size : Nat)
  · go_enter Tryd.func3, Tryd.ntmps3
    go_wp2_with fail
    refine (awake13_any _ HE.out).mono ?_
    rintro e w2 ⟨rfl, b2⟩
    go_wp2
    go_ret
    exact ⟨rfl, b2⟩
  go_enter Tryd.func3, Tryd.ntmps3
  go_wp2_with fail
  refine (lall_o s _ hs HE.out).mono ?_
  rintro e w1 ⟨A, c, rfl, k1, k2, h3, b1⟩
  have HT1 := Lib.hid h3
  have B1 := Lib.hid b1
  clear h3 b1
  go_wp2_with fail
  refine (rall_o s _ (by omega)).mono ?_
  rintro e w2 ⟨A2, c2, rfl, k1', k2', h3', b2⟩
  have T1 := Lib.hid (HT1.out.below b2)
  have T2 := Lib.hid h3'
  have BV := Lib.hid b2
  have B2 : Below w.heap.size w w2 := B1.out.trans (b2.mono B1.out.size)
  have HB2 := Lib.hid B2
  have HE2 := Lib.hid (HE.out.below B2)
  have hlen := lxO_len s
  clear h3' b2 B2 HT1
  generalize lxO s = O at *
  obtain ⟨L, pl, er⟩ := O
  dsimp only at k1 k1' hlen ⊢
  have e1 : ((L.length : Int) != (L.length : Int)) = false := by simp
  have e2 : ((pl : Int) != (pl : Int)) = false := by simp
  have e3 : ((er : Int) != (er : Int)) = false := by simp
  go_wp2_with fail
  go_loopw [9] (fun ii wq => ∃ i : Nat, ii = .int .i64 (i : Nat) ∧ i ≤ L.length ∧ Below w2.heap.size w2 wq) (fun ii _ => L.length - (intOf ii).toNat)
  case atStart => exact ⟨0, rfl, Nat.zero_le _, Below.refl _ _⟩
  case round =>
    obtain ⟨i, rfl, hil, bq⟩ := hrel
    by_cases hi : i < L.length
    · obtain ⟨t2, ht2⟩ : ∃ t2, L[i]? = some t2 := ⟨_, List.getElem?_eq_getElem hi⟩
      obtain ⟨g1, hA1, hg1, x0, x1, x2, x3⟩ := T1.out i t2 ht2
      obtain ⟨g2, hA2, hg2, y0, y1, y2, y3⟩ := T2.out i t2 ht2
      subst hA1
      subst hA2
      obtain ⟨a1, S1, N1, P1⟩ := t2
      have W3 := BV.out.size
      have hgi : g1 < w2.heap.size := Nat.lt_of_lt_of_le hg1 W3
      have hii : (i : Int) < (L.length : Nat) := by omega
      have i0 : (0 : Int) ≤ (i : Int) := by omega
      have hi5 : i ≤ 1000 := by omega
      have hic : i < c := by omega
      have hic' : i < c2 := by omega
      dsimp only at x0 x1 x2 x3 y0 y1 y2 y3
      generalize (⟨S1.toArray⟩ : ByteArray) = S9 at *
      have x0' := (bq.cell (p := ⟨g1, i * 4, none⟩) hgi).trans x0
      have x1' := (bq.cell (p := ⟨g1, i * 4 + 1, none⟩) hgi).trans x1
      have x2' := (bq.cell (p := ⟨g1, i * 4 + 2, none⟩) hgi).trans x2
      have x3' := (bq.cell (p := ⟨g1, i * 4 + 3, none⟩) hgi).trans x3
      have y0' := (bq.cell (p := ⟨g2, i * 4, none⟩) hg2).trans y0
      have y1' := (bq.cell (p := ⟨g2, i * 4 + 1, none⟩) hg2).trans y1
      have y2' := (bq.cell (p := ⟨g2, i * 4 + 2, none⟩) hg2).trans y2
      have y3' := (bq.cell (p := ⟨g2, i * 4 + 3, none⟩) hg2).trans y3
      have n1 : ((a1 : Int) != (a1 : Int)) = false := by simp
      have n2 : (S9.toList != S9.toList) = false := by simp
      have n3 : (N1 != N1) = false := by simp
      have n4 : ((P1 : Int) != (P1 : Int)) = false := by simp
      have BQ := Lib.hid bq
      clear x0 x1 x2 x3 y0 y1 y2 y3 bq ht2 T1 T2 hgi hg1 hg2 e1 e2 e3
      go_wp2
      go_quiet (fail)
      go_wp2
      refine ⟨⟨i + 1, by go_num, by omega, BQ.out.trans ⟨rfl, rfl, rfl, Nat.le_refl _, fun _ _ => rfl⟩⟩, ?_⟩
      simp [intOf]
      omega
    · have hii : ¬ (i : Int) < (L.length : Nat) := by omega
      have HEq := Lib.hid (HE2.out.below bq)
      have BQ := Lib.hid bq
      clear bq
      go_wp2_with fail
      refine (awake13_any _ HEq.out).mono ?_
      rintro e w6 ⟨rfl, b6⟩
      go_wp2
      go_ret
      exact ⟨rfl, (HB2.out.trans (BQ.out.mono HB2.out.size)).trans (b6.mono ((HB2.out.trans (BQ.out.mono HB2.out.size)).size))⟩
end Go.Proofs.YtdbdlgmejddbhaaDoor
