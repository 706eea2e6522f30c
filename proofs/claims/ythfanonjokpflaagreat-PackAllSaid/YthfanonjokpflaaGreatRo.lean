/-
  Plain rows: columns by name, joined. No program is named here.
-/
import Derived.Test.YthfanonjokpflaaGreatCe
set_option linter.unusedVariables false
namespace Go.Proofs.YthfanonjokpflaaGreat
open Go Go.RowKit

/-- A name ahead of another one. -/
def nlt (a b : ByteArray) : Prop := a.data.toList < b.data.toList
theorem nlt_irr (a : ByteArray) : ¬ nlt a a := lt_irr' _
theorem nlt_tr {a b c : ByteArray} (h : nlt a b) (h' : nlt b c) : nlt a c := lt_tr h h'
theorem nlt_or (a b : ByteArray) : nlt a b ∨ a = b ∨ nlt b a := by
  by_cases h : nlt a b
  · exact .inl h
  · by_cases h' : nlt b a
    · exact .inr (.inr h')
    · exact .inr (.inl (ba_ext (lt_or h h')))
theorem nlt_ne {a b : ByteArray} (h : nlt a b) : a ≠ b := fun e => nlt_irr _ (e ▸ h)
instance (a b : ByteArray) : Decidable (nlt a b) := by unfold nlt; infer_instance

/-- The cell of no column. -/
def noC : Ce := ⟨⟨#[]⟩, false, 0, 0⟩
/-- A cell with a stamp, or none. -/
def Has (c : Ce) : Prop := 1 ≤ c.a ∨ c = noC
theorem no_lt {c : Ce} (h : 1 ≤ c.a) : noC.cmp c < 0 := by
  unfold Ce.cmp
  rw [show icmp noC.a c.a = -1 from by unfold icmp noC; simp only; omega]
  unfold lexI
  rw [if_neg (by decide)]
  decide
theorem join_no {c : Ce} (h : Has c) : c.join noC = c := by
  rcases h with h | rfl
  · unfold Ce.join
    have := no_lt h
    have := cmp_tot.anti noC c
    rw [if_neg (by omega)]
  · exact join_self _
theorem no_join {c : Ce} (h : Has c) : noC.join c = c := by rw [join_comm, join_no h]
theorem has_join {c d : Ce} (h : Has c) (h' : Has d) : Has (c.join d) := by rcases join_or c d with e | e <;> rw [e] <;> assumption
theorem join_a {c d : Ce} (h : 1 ≤ c.a) (h' : 1 ≤ d.a) : 1 ≤ (c.join d).a := by rcases join_or c d with e | e <;> rw [e] <;> assumption

abbrev Cols := List (ByteArray × Ce)
def getC : Cols → ByteArray → Ce
  | [], _ => noC
  | (m, c) :: l, n => if m = n then c else getC l n
/-- Names rise. -/
def Rise : Cols → Prop
  | [] => True
  | (m, _) :: l => (∀ x ∈ l, nlt m x.1) ∧ Rise l
def Full (l : Cols) : Prop := ∀ x ∈ l, 1 ≤ x.2.a
theorem Full.tail {x : ByteArray × Ce} {l : Cols} (h : Full (x :: l)) : Full l := fun y hy => h y (List.mem_cons_of_mem _ hy)
theorem Full.head {x : ByteArray × Ce} {l : Cols} (h : Full (x :: l)) : 1 ≤ x.2.a := h x (List.mem_cons_self ..)
theorem getC_none : ∀ {l : Cols} {n : ByteArray}, (∀ x ∈ l, x.1 ≠ n) → getC l n = noC
  | [], _, _ => rfl
  | (m, c) :: l, n, h => by
    show (if m = n then c else getC l n) = noC
    rw [if_neg (h (m, c) (List.mem_cons_self ..))]
    exact getC_none fun x hx => h x (List.mem_cons_of_mem _ hx)
theorem getC_low {l : Cols} {n : ByteArray} (h : ∀ x ∈ l, nlt n x.1) : getC l n = noC := getC_none fun x hx => (nlt_ne (h x hx)).symm
theorem getC_has : ∀ {l : Cols}, Full l → ∀ n, Has (getC l n)
  | [], _, _ => .inr rfl
  | (m, c) :: l, h, n => by
    show Has (if m = n then c else getC l n)
    split
    · exact .inl h.head
    · exact getC_has h.tail n
theorem getC_head (m : ByteArray) (c : Ce) (l : Cols) : getC ((m, c) :: l) m = c := if_pos rfl
theorem getC_next {m n : ByteArray} (c : Ce) (l : Cols) (h : m ≠ n) : getC ((m, c) :: l) n = getC l n := if_neg h
/-- Columns that tell alike are alike. -/
theorem cols_ext : ∀ {l k : Cols}, Rise l → Rise k → Full l → Full k → (∀ n, getC l n = getC k n) → l = k
  | [], [], _, _, _, _, _ => rfl
  | [], (m, c) :: k, _, _, _, fk, h => by
    have := h m
    rw [getC_head] at this
    have h1 := fk.head
    rw [← this] at h1
    exact absurd h1 (by show ¬ (1 : Int) ≤ 0; decide)
  | (m, c) :: l, [], _, _, fl, _, h => by
    have := h m
    rw [getC_head] at this
    have h1 := fl.head
    rw [this] at h1
    exact absurd h1 (by show ¬ (1 : Int) ≤ 0; decide)
  | (m, c) :: l, (m', c') :: k, rl, rk, fl, fk, h => by
    rcases nlt_or m m' with h1 | h1 | h1
    · have := h m
      rw [getC_head, getC_low fun x hx => ?_] at this
      · have h2 := fl.head
        rw [this] at h2
        exact absurd h2 (by show ¬ (1 : Int) ≤ 0; decide)
      · rcases List.mem_cons.1 hx with rfl | hx
        · exact h1
        · exact nlt_tr h1 (rk.1 x hx)
    · subst h1
      have hc := h m
      rw [getC_head, getC_head] at hc
      subst hc
      congr 1
      refine cols_ext rl.2 rk.2 fl.tail fk.tail fun n => ?_
      by_cases hn : m = n
      · subst hn
        rw [getC_low rl.1, getC_low rk.1]
      · have := h n
        rwa [getC_next _ _ hn, getC_next _ _ hn] at this
    · have := h m'
      rw [getC_head, getC_low fun x hx => ?_] at this
      · have h2 := fk.head
        rw [← this] at h2
        exact absurd h2 (by show ¬ (1 : Int) ≤ 0; decide)
      · rcases List.mem_cons.1 hx with rfl | hx
        · exact h1
        · exact nlt_tr h1 (rl.1 x hx)

/-- A cell, joined, in its place. -/
def putC : Cols → ByteArray → Ce → Cols
  | [], n, c => [(n, c)]
  | (m, d) :: l, n, c => if nlt m n then (m, d) :: putC l n c else if m = n then (m, d.join c) :: l else (n, c) :: (m, d) :: l
theorem putC_low {l : Cols} {n : ByteArray} {c : Ce} {m : ByteArray} (h : ∀ x ∈ l, nlt m x.1) (hn : nlt m n) : ∀ x ∈ putC l n c, nlt m x.1 := by
  induction l with
  | nil =>
    intro x hx
    rw [List.mem_singleton.1 hx]
    exact hn
  | cons y l ih =>
    obtain ⟨k, d⟩ := y
    intro x hx
    have h1 := h (k, d) (List.mem_cons_self ..)
    have h2 := ih fun x hx => h x (List.mem_cons_of_mem _ hx)
    unfold putC at hx
    split at hx
    · rcases List.mem_cons.1 hx with rfl | hx
      · exact h1
      · exact h2 x hx
    · split at hx
      · rcases List.mem_cons.1 hx with rfl | hx
        · exact h1
        · exact h x (List.mem_cons_of_mem _ hx)
      · rcases List.mem_cons.1 hx with rfl | hx
        · exact hn
        · exact h x hx
theorem putC_rise : ∀ {l : Cols} (n : ByteArray) (c : Ce), Rise l → Rise (putC l n c)
  | [], n, c, _ => ⟨(fun x hx => by cases hx), trivial⟩
  | (m, d) :: l, n, c, h => by
    unfold putC
    split
    · rename_i h1
      exact ⟨putC_low h.1 h1, putC_rise n c h.2⟩
    · rename_i h1
      split
      · exact ⟨h.1, h.2⟩
      · rename_i h2
        have h3 : nlt n m := (nlt_or m n).resolve_left h1 |>.resolve_left h2
        refine ⟨fun x hx => ?_, h⟩
        rcases List.mem_cons.1 hx with rfl | hx
        · exact h3
        · exact nlt_tr h3 (h.1 x hx)
theorem putC_all {p : ByteArray × Ce → Prop} {n : ByteArray} {c : Ce} (hj : ∀ d, p (n, d) → p (n, d.join c)) (hc : p (n, c)) : ∀ {l : Cols}, (∀ x ∈ l, p x) → ∀ x ∈ putC l n c, p x
  | [], _, x, hx => by rw [List.mem_singleton.1 hx]; exact hc
  | (m, d) :: l, h, x, hx => by
    unfold putC at hx
    split at hx
    · rcases List.mem_cons.1 hx with rfl | hx
      · exact h _ (List.mem_cons_self ..)
      · exact putC_all hj hc (fun x hx => h x (List.mem_cons_of_mem _ hx)) x hx
    · split at hx
      · rename_i h2
        subst h2
        rcases List.mem_cons.1 hx with rfl | hx
        · exact hj _ (h _ (List.mem_cons_self ..))
        · exact h x (List.mem_cons_of_mem _ hx)
      · rcases List.mem_cons.1 hx with rfl | hx
        · exact hc
        · exact h x hx
theorem putC_full {l : Cols} {n : ByteArray} {c : Ce} (h : Full l) (hc : 1 ≤ c.a) : Full (putC l n c) :=
  putC_all (p := fun x => 1 ≤ x.2.a) (fun d hd => join_a hd hc) hc h
theorem getC_put : ∀ {l : Cols} (n : ByteArray) (c : Ce), Rise l → Has c → ∀ m, getC (putC l n c) m = if n = m then (getC l n).join c else getC l m
  | [], n, c, _, hc, m => by
    show (if n = m then c else noC) = if n = m then noC.join c else noC
    rw [no_join hc]
  | (k, d) :: l, n, c, h, hc, m => by
    unfold putC
    split
    · rename_i h1
      have hkn : k ≠ n := nlt_ne h1
      by_cases hkm : k = m
      · subst hkm
        rw [getC_head, if_neg (Ne.symm hkn), getC_head]
      · rw [getC_next _ _ hkm, getC_put n c h.2 hc m, getC_next _ _ hkn, getC_next _ _ hkm]
    · rename_i h1
      split
      · rename_i h2
        subst h2
        by_cases hkm : k = m
        · subst hkm
          rw [getC_head, if_pos rfl, getC_head]
        · rw [getC_next _ _ hkm, if_neg hkm, getC_next _ _ hkm]
      · rename_i h2
        have h3 : nlt n k := (nlt_or k n).resolve_left h1 |>.resolve_left h2
        have hlow : getC ((k, d) :: l) n = noC := getC_low fun x hx => by
          rcases List.mem_cons.1 hx with rfl | hx
          · exact h3
          · exact nlt_tr h3 (h.1 x hx)
        by_cases hnm : n = m
        · subst hnm
          rw [getC_head, if_pos rfl, hlow, no_join hc]
        · rw [getC_next _ _ hnm, if_neg hnm]
theorem putC_length : ∀ (l : Cols) (n : ByteArray) (c : Ce), (putC l n c).length ≤ l.length + 1
  | [], _, _ => Nat.le_refl _
  | (m, d) :: l, n, c => by
    unfold putC
    split
    · have := putC_length l n c; simp; omega
    · split <;> simp

/-- All of k, put into l. -/
def mrg (l k : Cols) : Cols := k.foldl (fun l x => putC l x.1 x.2) l
theorem mrg_rise : ∀ {k l : Cols}, Rise l → Rise (mrg l k)
  | [], _, h => h
  | x :: k, l, h => mrg_rise (k := k) (putC_rise x.1 x.2 h)
theorem mrg_full : ∀ {k l : Cols}, Full l → Full k → Full (mrg l k)
  | [], _, h, _ => h
  | x :: k, l, h, hk => mrg_full (k := k) (putC_full h hk.head) hk.tail
theorem mrg_length : ∀ (k l : Cols), (mrg l k).length ≤ l.length + k.length
  | [], l => Nat.le_refl _
  | x :: k, l => by
    have h1 := mrg_length k (putC l x.1 x.2)
    have h2 := putC_length l x.1 x.2
    show (mrg (putC l x.1 x.2) k).length ≤ _
    simp only [List.length_cons]
    omega
theorem getC_mrg : ∀ {k l : Cols}, Rise l → Full l → Rise k → Full k → ∀ n, getC (mrg l k) n = (getC l n).join (getC k n)
  | [], l, _, fl, _, _, n => (join_no (getC_has fl n)).symm
  | (m, c) :: k, l, rl, fl, rk, fk, n => by
    show getC (mrg (putC l m c) k) n = _
    rw [getC_mrg (putC_rise m c rl) (putC_full fl fk.head) rk.2 fk.tail n, getC_put m c rl (.inl fk.head) n]
    by_cases h : m = n
    · subst h
      rw [if_pos rfl, getC_head, getC_low rk.1, join_no (has_join (getC_has fl m) (.inl fk.head))]
    · rw [if_neg h, getC_next _ _ h]
/-- What rises and tells as the two joined is the two merged. -/
theorem mrg_eq {l k j : Cols} (rl : Rise l) (fl : Full l) (rk : Rise k) (fk : Full k) (rj : Rise j) (fj : Full j) (h : ∀ n, getC j n = (getC l n).join (getC k n)) : j = mrg l k :=
  cols_ext rj (mrg_rise rl) fj (mrg_full fl fk) fun n => by rw [h, getC_mrg rl fl rk fk]
theorem mrg_comm {l k : Cols} (rl : Rise l) (fl : Full l) (rk : Rise k) (fk : Full k) : mrg l k = mrg k l :=
  mrg_eq rk fk rl fl (mrg_rise rl) (mrg_full fl fk) fun n => by rw [getC_mrg rl fl rk fk, join_comm]
theorem mrg_assoc {l k j : Cols} (rl : Rise l) (fl : Full l) (rk : Rise k) (fk : Full k) (rj : Rise j) (fj : Full j) : mrg (mrg l k) j = mrg l (mrg k j) :=
  mrg_eq rl fl (mrg_rise rk) (mrg_full fk fj) (mrg_rise (mrg_rise rl)) (mrg_full (mrg_full fl fk) fj) fun n => by
    rw [getC_mrg (mrg_rise rl) (mrg_full fl fk) rj fj, getC_mrg rl fl rk fk, getC_mrg rk fk rj fj, join_assoc]
theorem mrg_self {l : Cols} (rl : Rise l) (fl : Full l) : mrg l l = l :=
  (mrg_eq rl fl rl fl rl fl fun n => (join_self _).symm).symm

/-- A row: key, what makes it be, gone, shade, columns. -/
structure Ro where
  key : ByteArray
  live : Ce
  gone : Int
  shade : Int
  cols : Cols
def Ro.join (a b : Ro) : Ro := ⟨a.key, a.live.join b.live, max a.gone b.gone, max a.shade b.shade, mrg a.cols b.cols⟩
structure Ro.Up (r : Ro) : Prop where
  rise : Rise r.cols
  full : Full r.cols
theorem Ro.Up.join {a b : Ro} (ha : a.Up) (hb : b.Up) : (a.join b).Up := ⟨mrg_rise ha.rise, mrg_full ha.full hb.full⟩
theorem ro_comm {a b : Ro} (hk : a.key = b.key) (ha : a.Up) (hb : b.Up) : a.join b = b.join a := by
  unfold Ro.join
  rw [hk, join_comm a.live, Int.max_comm a.gone, Int.max_comm a.shade, mrg_comm ha.rise ha.full hb.rise hb.full]
theorem ro_assoc {a b c : Ro} (ha : a.Up) (hb : b.Up) (hc : c.Up) : (a.join b).join c = a.join (b.join c) := by
  unfold Ro.join
  simp only
  rw [join_assoc, Int.max_assoc, Int.max_assoc, mrg_assoc ha.rise ha.full hb.rise hb.full hc.rise hc.full]
theorem ro_self {a : Ro} (ha : a.Up) : a.join a = a := by
  unfold Ro.join
  rw [join_self, Int.max_self, Int.max_self, mrg_self ha.rise ha.full]
end Go.Proofs.YthfanonjokpflaaGreat
