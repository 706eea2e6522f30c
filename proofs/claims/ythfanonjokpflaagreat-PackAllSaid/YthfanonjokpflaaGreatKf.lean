/-
  Plain: how long a partition's bytes may be; which batches may be.
-/
import Derived.Test.YthfanonjokpflaaGreatKe
set_option linter.unusedVariables false
set_option linter.unusedSimpArgs false
namespace Go.Proofs.YthfanonjokpflaaGreat
open Go

theorem numL_le {v : Nat} (h : v < 18446744073709551616) : (numL v).length ≤ 9 := by
  have := (nb_facts v h).1
  rw [numL_length]; omega
theorem stm_num {n : Int} (h : Stm n) : (numL n.toNat).length ≤ 9 := numL_le (by have := h.1; have := h.2; omega)
theorem tE_le {s : ByteArray} {b : Nat} (h : s.size ≤ b) (hb : b < 18446744073709551616) : (tE s).length ≤ 9 + b := by
  unfold tE
  rw [List.length_append]
  have := numL_le (v := s.size) (by omega)
  have e : s.data.toList.length = s.size := rfl
  omega
theorem ce_len {c : Ce} (h : c.ok = true) : (cE c).length ≤ 128 := by
  have hg := Ce.gd_of h
  have h1 := stm_num hg.1
  unfold cE tailE
  rw [List.length_append]
  split
  · simp; omega
  · rename_i h0
    split
    · simp; omega
    · rename_i hd
      have hd' : c.d = false := by cases e : c.d <;> simp_all
      have h2 := stm_num (hg.2.2.2 h0 hd').2
      have hs : c.s.size ≤ 100 := by
        unfold Ce.ok at h
        rw [if_neg h0] at h
        split at h
        · cases h
        · try rw [if_neg hd] at h
          simp only [Bool.and_eq_true, decide_eq_true_iff] at h
          exact h.1
      have h3 := tE_le hs (by omega)
      rw [List.length_cons, List.length_append]
      omega
theorem flat_le {α : Type} {xs : List α} {e : α → Bs} {b : Nat} (h : ∀ x ∈ xs, (e x).length ≤ b) : (xs.flatMap e).length ≤ xs.length * b := by
  induction xs with
  | nil => exact Nat.zero_le _
  | cons x xs ih =>
    rw [List.flatMap_cons, List.length_append, List.length_cons, Nat.add_mul]
    have := h x (List.mem_cons_self ..)
    have := ih fun y hy => h y (List.mem_cons_of_mem _ hy)
    omega
theorem cols_each {r : Ro} (h : r.ok = true) : ∀ x ∈ r.cols, colB x = true := by
  unfold Ro.ok at h
  simp only [Bool.and_eq_true, decide_eq_true_iff] at h
  intro x hx
  obtain ⟨j, hj, rfl⟩ := List.getElem_of_mem hx
  have h1 := List.all_eq_true.1 h.2.2.2.2.2 j (List.mem_range.2 hj)
  cases j with
  | zero => rwa [good_zero hj] at h1
  | succ j =>
    rw [good_succ hj, Bool.and_eq_true] at h1
    exact h1.1
theorem ro_len {r : Ro} (h : r.ok = true) : (rE r).length ≤ 2460 := by
  have hg := Ro.gd_of h
  have hc : ∀ x ∈ r.cols, (kE x).length ≤ 237 := fun x hx => by
    have h1 := cols_each h x hx
    unfold colB nameB at h1
    simp only [Bool.and_eq_true, decide_eq_true_iff] at h1
    have a := tE_le h1.1.1.2 (by omega)
    have b := ce_len h1.2.1
    unfold kE
    rw [List.length_append]; omega
  have hf : (r.cols.flatMap kE).length ≤ r.cols.length * 237 := flat_le hc
  unfold Ro.ok liveB at h
  simp only [Bool.and_eq_true, decide_eq_true_iff] at h
  have a := tE_le h.1 (by omega)
  have b := ce_len h.2.1.1
  have c := stm_num hg.2.2.1
  have d := stm_num hg.2.2.2.1
  have e := numL_le (v := r.cols.length) (by omega)
  have f : r.cols.length * 237 ≤ 8 * 237 := Nat.mul_le_mul_right _ h.2.2.2.2.1
  unfold rE
  simp only [List.length_append]
  omega
/-- No partition has more bytes than may be. -/
theorem pa_len {p : Pa} (h : p.ok = true) : (pE p).length ≤ 246127 := by
  have hg := Pa.gd_of h
  obtain ⟨h1, h2, h3, h4⟩ := Pa.ok_of h
  have hf : (p.rows.flatMap rE).length ≤ p.rows.length * 2460 := flat_le fun x hx => ro_len (rowsB_each h4 x hx)
  have a := tE_le h1 (by omega)
  have b := stm_num hg.2.1
  have c := numL_le (v := p.rows.length) (by omega)
  have f : p.rows.length * 2460 ≤ 100 * 2460 := Nat.mul_le_mul_right _ h3
  unfold pE
  simp only [List.length_append]
  omega
def mutB (m : ByteArray × Pa) : Bool := nameB m.1 && m.2.ok
def addB (x : Int × ByteArray) : Bool := decide (1 ≤ x.1) && (decide (x.1 ≤ 1099511627776) && decide (x.2.size ≤ 4096))
def dropB (v : Int) : Bool := decide (1 ≤ v) && decide (v ≤ 1099511627776)
def Bt.ok (b : Bt) : Bool := decide (b.muts.length ≤ 64) && (b.muts.all mutB && (decide (b.add.length ≤ 300) && (b.add.all addB && (decide (b.drop.length ≤ 300) && b.drop.all dropB))))
theorem Bt.gd_of {b : Bt} (h : b.ok = true) : b.Gd := by
  unfold Bt.ok at h
  simp only [Bool.and_eq_true, decide_eq_true_iff, List.all_eq_true] at h
  obtain ⟨h1, h2, h3, h4, h5, h6⟩ := h
  refine ⟨⟨by omega, fun m hm => ?_⟩, ⟨by omega, fun x hx => ?_⟩, by omega, fun v hv => ?_⟩
  · have h7 := h2 m hm
    unfold mutB nameB at h7
    simp only [Bool.and_eq_true, decide_eq_true_iff] at h7
    have := pa_len h7.2
    exact ⟨by omega, Pa.gd_of h7.2, by omega⟩
  · have h7 := h4 x hx
    unfold addB at h7
    simp only [Bool.and_eq_true, decide_eq_true_iff] at h7
    exact ⟨⟨by omega, h7.2.1⟩, by omega⟩
  · have h7 := h6 v hv
    unfold dropB at h7
    simp only [Bool.and_eq_true, decide_eq_true_iff] at h7
    exact ⟨by omega, h7.2⟩
abbrev putPart (p : Pa) : Except Int Bs := putP pE Pa.ok p
abbrev getPart (l : Bs) : Except Int Pa := getP partP Pa.ok l
abbrev putBatch (b : Bt) : Except Int Bs := putP bE Bt.ok b
abbrev getBatch (l : Bs) : Except Int Bt := getP batchP Bt.ok l
theorem putPart_ok {p : Pa} (h : p.ok = true) : putPart p = .ok (pE p) := by
  unfold putPart putP
  rw [if_pos h, if_neg (by have := pa_len h; omega)]
theorem putPart_no {p : Pa} (h : p.ok = false) : putPart p = .error 1 := by
  unfold putPart putP
  rw [if_neg (by rw [h]; simp)]

/-- What lies in bytes is not longer than they are. -/
theorem tE_size (s : ByteArray) : s.size ≤ (tE s).length := by
  unfold tE
  rw [List.length_append]
  have e : s.data.toList.length = s.size := rfl
  omega
theorem cE_size {c : Ce} (h : c.Gd) : c.s.size ≤ (cE c).length := by
  unfold cE tailE
  rw [List.length_append]
  split
  · rename_i h0
    rw [h.2.1 h0]; exact Nat.zero_le _
  · rename_i h0
    split
    · rename_i hd
      rw [(h.2.2.1 h0 hd).1]; exact Nat.zero_le _
    · rw [List.length_cons, List.length_append]
      have := tE_size c.s
      omega
theorem flat_in {α : Type} {xs : List α} {e : α → Bs} {x : α} (h : x ∈ xs) : (e x).length ≤ (xs.flatMap e).length := by
  induction xs with
  | nil => cases h
  | cons y ys ih =>
    rw [List.flatMap_cons, List.length_append]
    rcases List.mem_cons.1 h with rfl | h
    · omega
    · have := ih h; omega
structure RoSizes (N : Nat) (r : Ro) : Prop where
  key : r.key.size ≤ N
  val : r.live.s.size ≤ N
  len : r.cols.length ≤ N
  cols : ∀ x ∈ r.cols, x.1.size ≤ N ∧ x.2.s.size ≤ N
theorem ro_sizes {r : Ro} (h : r.Gd) {N : Nat} (hn : (rE r).length ≤ N) : RoSizes N r := by
  unfold rE at hn
  simp only [List.length_append] at hn
  have h1 := tE_size r.key
  have h2 := cE_size h.2.1
  have h3 : r.cols.length ≤ (r.cols.flatMap kE).length := flat_length fun x _ => tE_pos x.1 (cE x.2)
  refine ⟨by omega, by omega, by omega, fun x hx => ?_⟩
  have h4 : (kE x).length ≤ (r.cols.flatMap kE).length := flat_in hx
  have h7 : (kE x).length = (tE x.1).length + (cE x.2).length := by unfold kE; rw [List.length_append]
  have h5 := tE_size x.1
  have h6 := cE_size (h.2.2.2.2.2 x hx).2
  exact ⟨by omega, by omega⟩
theorem pa_sizes {p : Pa} (h : p.Gd) {N : Nat} (hn : (pE p).length ≤ N) : p.key.size ≤ N ∧ p.rows.length ≤ N ∧ ∀ r ∈ p.rows, RoSizes N r := by
  unfold pE at hn
  simp only [List.length_append] at hn
  have h1 := tE_size p.key
  have h3 : p.rows.length ≤ (p.rows.flatMap rE).length := flat_length fun x _ => tE_pos x.key _
  refine ⟨by omega, by omega, fun r hr => ro_sizes (h.2.2.2 r hr) ?_⟩
  have h4 : (rE r).length ≤ (p.rows.flatMap rE).length := flat_in hr
  omega
end Go.Proofs.YthfanonjokpflaaGreat
