/-
  pack's Part.
-/
import Derived.Test.YtbfkbfbcaileoaaTkl
import Derived.Test.YtbfkbfbcaileoaaPt4
import Derived.Test.YtbfkbfbcaileoaaPd8
set_option linter.unusedVariables false
set_option linter.unusedSimpArgs false
namespace Go.Proofs.Ytbfkbfbcaileoaa
open Go Go.RowKit

theorem ce_sizeD {c : Ce} (h : c.ok = true) : c.s.size ≤ 100 := by
  unfold Ce.ok at h
  split at h
  · rw [(same_iff _ _).1 h]; simp [ByteArray.size]
  · split at h
    · cases h
    · split at h
      · rw [(same_iff _ _).1 h]; simp [ByteArray.size]
      · simp only [Bool.and_eq_true, decide_eq_true_iff] at h
        exact h.1
theorem roS_of {r : Ro} (h : r.ok = true) : RoS r := by
  have hg := Ro.gd_of h
  have hc := cols_each h
  unfold Ro.ok liveB at h
  simp only [Bool.and_eq_true, decide_eq_true_iff] at h
  refine ⟨by omega, hg.2.1, ?_, hg.2.2.1, hg.2.2.2.1, by omega, fun x hx => ?_⟩
  · have := ce_sizeD h.2.1.1; omega
  · have h1 := hc x hx
    unfold colB nameB at h1
    simp only [Bool.and_eq_true, decide_eq_true_iff] at h1
    have := ce_sizeD h1.2.1
    exact ⟨by omega, Ce.gd_of h1.2.1, by omega⟩
theorem paS_of {k : ByteArray} {g : Int} {L : List RA} (h : Pa.ok ⟨k, g, ros L⟩ = true) : PaS k g L := by
  obtain ⟨hk1, hk2, hk3, hk4⟩ := Pa.ok_of h
  have hgd := Pa.gd_of h
  simp only [List.length_map] at hk3
  dsimp only at hk1
  exact ⟨by omega, hgd.2.1, by omega, fun x hx => roS_of (rowsB_each hk4 x.ro (List.mem_map.2 ⟨x, hx, rfl⟩))⟩
/-- A call that hands back bytes, or what is wrong. -/
def GivesP (w : World) (r : Except Int Bs) (e : Ending) (w' : World) : Prop := match r with
  | .ok b => ∃ A n c, e = .returned (.tuple #[.slice A n c, .int .i64 0]) ∧ b.length = n ∧ n ≤ c ∧ c ≤ maxLen ∧ (A = none → c = 0) ∧ w'.ownsRow w.heap.size 5 1 (.slice A n c) n (Lib.byteCells b) ∧ Below w.heap.size w w'
  | .error x => e = .returned (.tuple #[.slice none 0 0, .int .i64 x]) ∧ Below w.heap.size w w'
theorem OwnY.base {b b' : Nat} {w : World} {v : Value} {l : Bs} (h : OwnY b w v l) (hb : b' ≤ b) : OwnY b' w v l := own_down h hb
set_option maxRecDepth 8000 in
set_option maxHeartbeats 4000000 in
theorem put_part (k : ByteArray) (g : Int) (A : Option Addr) (n c B : Nat) (L : List RA) (w : World) (hr : Lies w B A n c L) (hB : B ≤ w.heap.size) (hn : n ≤ 1000000) (hf : FewR L) :
    Calls Try.prog 22 #[.agg #[.string k, .int .i64 g, .slice A n c], .func (.func 23) #[] #[], .func (.func 24) #[] #[]] w (GivesP w (putPart ⟨k, g, ros L⟩)) := by
  have bz := (Below.refl w.heap.size w).alloc (Nat.le_refl _) (.cells #[.string k, .int .i64 g, .slice A n c] 24)
  have hz := heap_alloc_new w (.cells #[.string k, .int .i64 g, .slice A n c] 24)
  obtain ⟨V, hV⟩ : ∃ V, V = w.alloc (.cells #[.string k, .int .i64 g, .slice A n c] 24) := ⟨_, rfl⟩
  rw [← hV] at bz hz
  have hVs := bz.size
  have hc0 := cell_at (i := 0) hz rfl
  have hc1 := cell_at (i := 1) hz rfl
  have hc2 := cell_at (i := 2) hz rfl
  obtain ⟨u, hu⟩ : ∃ u, Pa.ok ⟨k, g, ros L⟩ = u := ⟨_, rfl⟩
  have C1 := pcheck_any k g A n c B L V (hr.below (bz.mono hB)) (by omega) (by omega) hf
  rw [hu] at C1
  have HU := Lib.hid hu; have HZ := Lib.hid hz; have BZ := Lib.hid bz; have HC1 := Lib.hid C1; have HR := Lib.hid hr; have HB := Lib.hid hB; have HVS := Lib.hid hVs
  clear hu hz bz C1 hr hf hVs
  go_enter Try.func22, Try.ntmps22
  go_wp2_with fail
  rw [← hV]
  clear hV
  refine (HC1.out).mono ?_
  rintro e w1 ⟨rfl, b1⟩
  have hz1 := (b1.block _ (Array.getElem?_eq_some_iff.1 HZ.out).1).trans HZ.out
  have B1 := Lib.hid b1
  clear hc0 hc1 hc2 b1
  have hc0 := cell_at (i := 0) hz1 rfl
  have hc1 := cell_at (i := 1) hz1 rfl
  have hc2 := cell_at (i := 2) hz1 rfl
  have HZ1 := Lib.hid hz1
  clear hz1
  cases u with
  | false =>
    go_wp2
    go_ret2
    rw [putPart_no HU.out]
    exact ⟨rfl, next BZ.out B1.out⟩
  | true =>
    have hps := paS_of HU.out
    have hle := pa_len HU.out
    have HP := putPart_ok HU.out
    obtain ⟨P, hP⟩ : ∃ P, pE ⟨k, g, ros L⟩ = P := ⟨_, rfl⟩
    have hb1 := next BZ.out B1.out
    have N := putPart_any w1.heap.size (.slice none 0 0) [] k g A n c B L w1 (own_nilY _ _) (Nat.le_refl _) (HR.out.below (hb1.mono HB.out)) (by have := hb1.size; have := HB.out; omega) hps (by rw [List.nil_append]; omega)
    rw [List.nil_append] at N
    rw [hP] at N HP hle
    have HN := Lib.hid N; have HPP := Lib.hid HP; have HB1 := Lib.hid hb1; have HLE := Lib.hid hle
    clear hps hle HP hP hb1 N
    go_wp2_with fail
    refine (HN.out).mono ?_
    rintro e w2 ⟨v2, rfl, l2⟩
    have hb2 := l2.base (own_nilY _ _) (Nat.le_refl _)
    obtain ⟨A2, n2, c2, rfl, hl2, g1, g2, g3, ho⟩ := l2.own.slice
    have d1 : decide ((262144 : Int) < (n2 : Int)) = false := by have := HLE.out; simp; omega
    have d2 : decide (262144 < n2) = false := by have := HLE.out; simp; omega
    have HG : Hid (P.length = n2 ∧ n2 ≤ c2 ∧ c2 ≤ maxLen ∧ (A2 = none → c2 = 0) ∧ w2.ownsRow w.heap.size 5 1 (.slice A2 n2 c2) n2 (Lib.byteCells P) ∧ Below w.heap.size w w2) := Lib.hid ⟨hl2, g1, g2, g3, own_down ho HB1.out.size, next HB1.out hb2⟩
    clear hl2 g1 g2 g3 ho hb2 l2 hc0 hc1 hc2
    go_wp2
    go_ret2
    rw [HPP.out]
    exact ⟨A2, n2, c2, rfl, HG.out⟩
set_option maxRecDepth 8000 in
set_option maxHeartbeats 4000000 in
theorem pack_part (k : ByteArray) (g : Int) (A : Option Addr) (n c B : Nat) (L : List RA) (w : World) (hr : Lies w B A n c L) (hB : B ≤ w.heap.size) (hn : n ≤ 1000000) (hf : FewR L) :
    Calls Try.prog 10 #[.agg #[.string k, .int .i64 g, .slice A n c]] w (GivesP w (putPart ⟨k, g, ros L⟩)) := by
  have bz := (Below.refl w.heap.size w).alloc (Nat.le_refl _) (.cells #[.string k, .int .i64 g, .slice A n c] 24)
  have hz := heap_alloc_new w (.cells #[.string k, .int .i64 g, .slice A n c] 24)
  obtain ⟨V, hV⟩ : ∃ V, V = w.alloc (.cells #[.string k, .int .i64 g, .slice A n c] 24) := ⟨_, rfl⟩
  rw [← hV] at bz hz
  have hVs := bz.size
  have hc0 := cell_at (i := 0) hz rfl
  have hc1 := cell_at (i := 1) hz rfl
  have hc2 := cell_at (i := 2) hz rfl
  have N := put_part k g A n c B L V (hr.below (bz.mono hB)) (by omega) hn hf
  have BZ := Lib.hid bz; have HN := Lib.hid N
  obtain ⟨R, hR⟩ : ∃ R, putPart ⟨k, g, ros L⟩ = R := ⟨_, rfl⟩
  rw [hR] at HN ⊢
  clear hz bz hr hf hVs N hR hB
  go_enter Try.func10, Try.ntmps10
  go_wp2_with fail
  rw [← hV]
  clear hV
  refine (HN.out).mono ?_
  intro e w1 hg
  cases R with
  | error x =>
    obtain ⟨rfl, b1⟩ := hg
    have B1 := Lib.hid b1
    clear b1
    go_wp2
    go_ret2
    exact ⟨rfl, next BZ.out B1.out⟩
  | ok b =>
    obtain ⟨A2, n2, c2, rfl, h1, h2, h3, h4, h5, h6⟩ := hg
    have HG : Hid (b.length = n2 ∧ n2 ≤ c2 ∧ c2 ≤ maxLen ∧ (A2 = none → c2 = 0) ∧ w1.ownsRow w.heap.size 5 1 (.slice A2 n2 c2) n2 (Lib.byteCells b) ∧ Below w.heap.size w w1) := Lib.hid ⟨h1, h2, h3, h4, own_down h5 BZ.out.size, next BZ.out h6⟩
    clear h1 h2 h3 h4 h5 h6
    go_wp2
    go_ret2
    exact ⟨A2, n2, c2, rfl, HG.out⟩
end Go.Proofs.Ytbfkbfbcaileoaa
