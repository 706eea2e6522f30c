/-
  Plain words on blanks laid between two tokens: nothing turns but places.
-/
import Derived.Test.YtdbdlgmejddbhaaDoorLxc
set_option linter.unusedVariables false
namespace Go.Proofs.YtdbdlgmejddbhaaDoor
open Go Go.Lib

/-- What is taken beyond p: no token begins behind p. -/
theorem lx_over (p : List UInt8) : ∀ (X : List UInt8) (n k : Nat) (L : List Tk4), HeadNC X → p.length < k → lx (p ++ X) n k = .ok L → ∀ t ∈ L, t.2.2.2 ≠ n + cntL p := by
  induction p using len_ind with
  | h p ih =>
    intro X n k L hX hk h t ht
    by_cases h0 : p = []
    · subst h0
      rw [List.nil_append] at h
      by_cases hx : X = []
      · subst hx
        rw [lx_nil] at h
        injection h with h
        subst h
        cases ht
      · rw [lx_skip hx (by omega)] at h
        have := lx_from h ht
        rw [cntL_nil]
        omega
    · have hne : p ++ X ≠ [] := by simp [h0]
      rw [lx_skip hne (by omega), drop_pre h0 hX, dec_pre h0 hX] at h
      have hw := wd_le h0
      have := ih h0 X _ _ L hX (by rw [List.length_drop]; omega) h t ht
      rw [cntL_step h0]
      omega

/-- What begins with a blank. -/
def HeadBl (Z : List UInt8) : Prop := ∃ y r, Z = y :: r ∧ (y = 32 ∨ y = 9 ∨ y = 10 ∨ y = 13)
theorem HeadBl.dec {Z : List UInt8} (h : HeadBl Z) : ∃ y r, Z = y :: r ∧ decodeL Z = (y.toNat, 1) ∧ y ≠ 39 ∧ blankB (decodeL Z).1 = true ∧ ldC (decodeL Z) = false := by
  obtain ⟨y, r, rfl, hy⟩ := h
  have e : decodeL (y :: r) = (y.toNat, 1) := decodeL_ascii y r (by rcases hy with rfl | rfl | rfl | rfl <;> decide)
  refine ⟨y, r, rfl, e, ?_, ?_, ?_⟩
  · rcases hy with rfl | rfl | rfl | rfl <;> decide
  · rw [e]; rcases hy with rfl | rfl | rfl | rfl <;> decide
  · rw [e]; rcases hy with rfl | rfl | rfl | rfl <;> decide
theorem HeadBl.nc {Z : List UInt8} (h : HeadBl Z) : HeadNC Z := by
  obtain ⟨y, r, rfl, hy⟩ := h
  exact HeadNC.low (by rcases hy with rfl | rfl | rfl | rfl <;> decide)

theorem run_stay (q : List UInt8) : ∀ (X Z : List UInt8), HeadNC X → HeadBl Z → run (q ++ X) ≤ q.length → run (q ++ Z) = run (q ++ X) := by
  induction q using len_ind with
  | h q ih =>
    intro X Z hX hZ h
    obtain ⟨y, r, _, _, _, _, hld⟩ := hZ.dec
    by_cases h0 : q = []
    · subst h0
      rw [List.nil_append, List.nil_append] at *
      rw [run_stop hld]
      simp at h
      omega
    · have hd := dec_pre h0 hX
      have hd2 := dec_pre h0 hZ.nc
      have hw := wd_le h0
      by_cases hl : ldC (decodeL q) = true
      · have e1 := run_step (l := q ++ X) (by rw [hd]; exact hl)
        have e2 := run_step (l := q ++ Z) (by rw [hd2]; exact hl)
        rw [drop_pre h0 hX, hd] at e1
        rw [drop_pre h0 hZ.nc, hd2] at e2
        rw [e1] at h
        rw [e1, e2, ih h0 X Z hX hZ (by rw [List.length_drop]; omega)]
      · rw [run_stop (l := q ++ X) (by rw [hd]; simpa using hl), run_stop (l := q ++ Z) (by rw [hd2]; simpa using hl)]

theorem unq_stay (q : List UInt8) : ∀ (X Z : List UInt8) (x : List UInt8 × Nat), HeadBl Z → unq (q ++ X) = some x → x.2 ≤ q.length → unq (q ++ Z) = some x := by
  induction q using unq.induct with
  | case1 =>
    intro X Z x hZ h hx
    have := (unq_pos _ x h).1
    simp at hx
    omega
  | case2 =>
    intro X Z x hZ h hx
    obtain ⟨y, r, rfl, _, hy, _⟩ := hZ.dec
    have e : unq (39 :: y :: r) = some ([], 1) := by rw [unq, if_pos rfl, if_neg hy]
    show unq (39 :: y :: r) = some x
    rw [e]
    cases X with
    | nil => simpa [unq] using h
    | cons b X =>
      rw [List.cons_append, List.nil_append, unq, if_pos rfl] at h
      split at h
      · cases hu : unq X with
        | none => rw [hu] at h; cases h
        | some z => rw [hu] at h; injection h with h; subst h; have := (unq_pos _ z hu).1; simp at hx
      · exact h
  | case3 c hc =>
    intro X Z x hZ h hx
    exfalso
    cases X with
    | nil => simp [unq, hc] at h
    | cons b X =>
      rw [List.cons_append, List.nil_append, unq, if_neg hc] at h
      cases hu : unq (b :: X) with
      | none => rw [hu] at h; cases h
      | some z => rw [hu] at h; injection h with h; subst h; have := (unq_pos _ z hu).1; simp at hx; omega
  | case4 t ih =>
    intro X Z x hZ h hx
    rw [List.cons_append, List.cons_append, unq, if_pos rfl, if_pos rfl] at h ⊢
    cases hu : unq (t ++ X) with
    | none => rw [hu] at h; cases h
    | some y =>
      rw [hu] at h
      injection h with h
      subst h
      rw [ih X Z y hZ hu (by simp at hx; omega)]
      rfl
  | case5 d t hd =>
    intro X Z x hZ h hx
    rw [List.cons_append, List.cons_append, unq, if_pos rfl, if_neg hd] at h ⊢
    exact h
  | case6 c d t hc ih =>
    intro X Z x hZ h hx
    rw [List.cons_append, List.cons_append, unq, if_neg hc] at h ⊢
    cases hu : unq (d :: (t ++ X)) with
    | none => rw [hu] at h; cases h
    | some y =>
      rw [hu] at h
      injection h with h
      subst h
      have := ih X Z y hZ hu (by simp at hx ⊢; omega)
      rw [List.cons_append] at this
      rw [this]
      rfl

/-- A token is the same one, whatever blank comes behind it. -/
theorem tok_stay {p X Z : List UInt8} {t : Nat × List UInt8 × Int × Nat} (hp : p ≠ []) (hX : HeadNC X) (hZ : HeadBl Z) (h : tok (p ++ X) = some t) (hl : t.2.2.2 ≤ p.length) : tok (p ++ Z) = some t := by
  have hd := dec_pre hp hX
  have hd2 := dec_pre hp hZ.nc
  have hp1 := List.length_pos_iff.2 hp
  unfold tok at h ⊢
  rw [hd] at h
  rw [hd2]
  by_cases h1 : (decodeL p).1 = 39
  · rw [if_pos h1] at h ⊢
    unfold textTok at h ⊢
    rw [List.drop_append_of_le_length (by omega)] at h ⊢
    cases hu : unq (p.drop 1 ++ X) with
    | none => rw [hu] at h; cases h
    | some x =>
      rw [hu] at h
      dsimp only at h
      split at h
      · rename_i hc
        injection h with h
        subst h
        rw [unq_stay _ X Z x hZ hu (by rw [List.length_drop]; dsimp only at hl; omega)]
        dsimp only
        rw [if_pos hc]
      · cases h
  rw [if_neg h1] at h ⊢
  by_cases h2 : (decodeL p).1 = 45 ∨ dgtC (decodeL p) = true
  · rw [if_pos h2] at h ⊢
    rw [numTok_fin] at h ⊢
    have hh : ∀ W, (p ++ W).head? = p.head? := by
      intro W
      obtain ⟨a, r, rfl⟩ := List.exists_cons_of_ne_nil hp
      rfl
    rw [hh] at h ⊢
    have hm : (if p.head? = some 45 then 1 else 0) ≤ p.length := by split <;> omega
    generalize (if p.head? = some 45 then 1 else 0) = m at *
    rw [List.drop_append_of_le_length hm] at h ⊢
    have hlen : t.2.2.2 = m + run (p.drop m ++ X) := by
      revert h
      unfold numFin
      split
      · split
        · intro h; injection h with h; subst h; rfl
        · intro h; cases h
      · intro h; cases h
    have hr := run_stay (p.drop m) X Z hX hZ (by rw [List.length_drop]; omega)
    rw [hr]
    rw [List.take_append_of_le_length (by omega)] at h ⊢
    exact h
  rw [if_neg h2] at h ⊢
  by_cases h3 : ltrC (decodeL p) = true
  · rw [if_pos h3] at h ⊢
    unfold wordTok at h ⊢
    split at h
    · rename_i hc
      injection h with h
      subst h
      have hr := run_stay p X Z hX hZ hl
      rw [hr, if_pos hc]
      dsimp only at hl
      rw [List.take_append_of_le_length hl, List.take_append_of_le_length hl]
    · cases h
  rw [if_neg h3] at h ⊢
  exact h

theorem lineLen_le (l : List UInt8) : lineLen l ≤ l.length := by
  unfold lineLen
  exact (List.takeWhile_sublist _).length_le
theorem lineLen_app (p X : List UInt8) : (lineLen (p ++ X) < p.length ∧ ∀ Z, lineLen (p ++ Z) = lineLen (p ++ X)) ∨ ∀ Z, lineLen (p ++ Z) = p.length + lineLen Z := by
  induction p with
  | nil => right; intro Z; simp
  | cons a p ih =>
    unfold lineLen at *
    by_cases ha : a = 10
    · left
      subst ha
      simp
    · have ha' : (a != 10) = true := by simp [ha]
      simp only [List.cons_append, List.takeWhile_cons, ha', if_true, List.length_cons]
      rcases ih with ⟨h1, h2⟩ | h
      · left
        exact ⟨by omega, fun Z => by rw [h2 Z]⟩
      · right
        intro Z
        rw [h Z]
        omega
theorem run_all (l : List UInt8) : ∀ n, numFin (atoiAll l) n = none ∨ ∃ v, numFin (atoiAll l) n = some (2, [], v, n) := by
  intro n
  unfold numFin
  split
  · split
    · exact .inr ⟨_, rfl⟩
    · exact .inl rfl
  · exact .inl rfl
theorem tok_le {l : List UInt8} {t : Nat × List UInt8 × Int × Nat} (h0 : l ≠ []) (h : tok l = some t) : t.2.2.2 ≤ l.length := by
  have h1 := List.length_pos_iff.2 h0
  unfold tok at h
  split at h
  · unfold textTok at h
    split at h
    · rename_i x hx
      have := (unq_pos _ x hx).2
      rw [List.length_drop] at this
      split at h
      · injection h with h; subst h; dsimp only; omega
      · cases h
    · cases h
  · split at h
    · rw [numTok_fin] at h
      have hm : (if l.head? = some 45 then 1 else 0) ≤ l.length := by split <;> omega
      generalize (if l.head? = some 45 then 1 else 0) = m at *
      have hr := run_le (l.drop m)
      rw [List.length_drop] at hr
      rcases run_all (l.take (m + run (l.drop m))) (m + run (l.drop m)) with h' | ⟨v, h'⟩
      · rw [h'] at h; cases h
      · rw [h'] at h; injection h with h; subst h; dsimp only; omega
    · split at h
      · unfold wordTok at h
        split at h
        · injection h with h; subst h; exact run_le l
        · cases h
      · split at h
        · injection h with h; subst h; dsimp only; omega
        · cases h

/-- Something laid between that turns nothing but numbers: c code points. -/
theorem lx_ins (c : Nat) (p : List UInt8) : ∀ (X Y : List UInt8) (n k j : Nat) (L : List Tk4), (X = [] ∨ Here X) → HeadBl Y → (X = [] → ∃ r, Y = 10 :: r) → (∀ m, lx (Y ++ X) m 0 = lx X (m + c) 0) →
    k ≤ p.length → (X = [] ∧ j = L.length ∨ X ≠ [] ∧ ∃ t, L[j]? = some t ∧ t.2.2.2 = n + cntL p) → lx (p ++ X) n k = .ok L → lx (p ++ (Y ++ X)) n k = .ok (L.take j ++ (L.drop j).map (shiftT c)) := by
  induction p using len_ind with
  | h p ih =>
    intro X Y n k j L hX hY hY0 hYX hk hj h
    have hXn : HeadNC X := by rcases hX with rfl | hX; exact HeadNC.nil; exact hX.nc
    have hZ : HeadBl (Y ++ X) := by obtain ⟨y, r, rfl, hy⟩ := hY; exact ⟨y, r ++ X, rfl, hy⟩
    by_cases h0 : p = []
    · subst h0
      have hk0 : k = 0 := by simpa using hk
      subst hk0
      rw [List.nil_append] at *
      rw [hYX]
      have hsh := lx_shift c X n 0 L h
      rcases hj with ⟨rfl, rfl⟩ | ⟨hx, t, ht, hn⟩
      · rw [lx_nil] at h
        injection h with h
        subst h
        exact hsh
      · have hj0 : j = 0 := by
          rcases hX with hX | hX
          · exact absurd hX hx
          obtain ⟨h1, h2, h3, x, h4⟩ := hX
          rw [lx_tok n h1 h2 h3 h4] at h
          obtain ⟨L', h', rfl⟩ := cons1_ok h
          cases j with
          | zero => rfl
          | succ j =>
            exfalso
            rw [List.getElem?_cons_succ] at ht
            rw [lx_skip h1 (tok_len h4)] at h'
            have := lx_from h' (List.mem_of_getElem? ht)
            rw [cntL_nil] at hn
            omega
        subst hj0
        rw [hsh]
        simp
    · have hne : p ++ X ≠ [] := by simp [h0]
      have hne2 : p ++ (Y ++ X) ≠ [] := by simp [h0]
      have hd := dec_pre h0 hXn
      have hd2 := dec_pre h0 hZ.nc
      have hdr := drop_pre h0 hXn
      have hdr2 := drop_pre h0 hZ.nc
      have hw := wd_le h0
      have hw1 := wd_pos p
      have hcn := cntL_step h0
      have IH := ih h0 X Y
      -- what is taken lies ahead of X
      have over : ∀ (k' j' : Nat) (L' : List Tk4), lx (p ++ X) n k' = .ok L' → (X = [] → k' ≤ p.length) → (X ≠ [] → ∃ t : Tk4, L'[j']? = some t ∧ t.2.2.2 = n + cntL p) → k' ≤ p.length := by
        intro k' j' L' h' e1 e2
        by_cases hx : X = []
        · exact e1 hx
        · obtain ⟨t, ht, hn⟩ := e2 hx
          by_cases hc : k' ≤ p.length
          · exact hc
          · exact absurd hn (lx_over p X n k' L' hXn (by omega) h' t (List.mem_of_getElem? ht))
      have skip : ∀ (k' j' : Nat) (L' : List Tk4), 0 < k' → k' ≤ p.length → (X = [] ∧ j' = L'.length ∨ X ≠ [] ∧ ∃ t : Tk4, L'[j']? = some t ∧ t.2.2.2 = n + cntL p) → lx (p ++ X) n k' = .ok L' →
          lx (p ++ (Y ++ X)) n k' = .ok (L'.take j' ++ (L'.drop j').map (shiftT c)) := by
        intro k' j' L' hk' hkl hj' h'
        rw [lx_skip hne hk', hdr, hd] at h'
        rw [lx_skip hne2 hk', hdr2, hd2]
        refine IH _ _ _ L' hX hY hY0 hYX (by rw [List.length_drop]; omega) ?_ h'
        rcases hj' with hj' | ⟨hx, t, ht, hn⟩
        · exact .inl hj'
        · exact .inr ⟨hx, t, ht, by omega⟩
      have hj2 : X ≠ [] → ∃ t, L[j]? = some t ∧ t.2.2.2 = n + cntL p := by
        intro hx
        rcases hj with ⟨hj, _⟩ | ⟨_, hj⟩
        · exact absurd hj hx
        · exact hj
      rcases lx_ways hne n k with hk0 | ⟨rfl, hb⟩ | ⟨rfl, hc⟩ | ⟨rfl, hb, hc, hn⟩ | ⟨rfl, hb, hc, x, hx⟩
      · exact skip k j L hk0 hk hj h
      · have hb2 : blankB (decodeL (p ++ (Y ++ X))).1 = true := by rw [hd2, ← hd]; exact hb
        rw [lx_blank n hb, hdr] at h
        rw [lx_blank n hb2, hdr2]
        refine IH _ _ _ L hX hY hY0 hYX (by omega) ?_ h
        rcases hj with hj | ⟨hx, t, ht, hn⟩
        · exact .inl hj
        · exact .inr ⟨hx, t, ht, by omega⟩
      · rw [lx_line n hc] at h
        have hll := over _ j L h (fun hx => by subst hx; rw [List.append_nil]; exact lineLen_le p) hj2
        have hl2 : 2 ≤ lineLen (p ++ X) := by
          obtain ⟨_, r, hr⟩ := dec45 hc
          rw [hr]
          simp [lineLen]
        obtain ⟨a, b, r, rfl⟩ : ∃ a b r, p = a :: b :: r := by
          match p, h0 with
          | [a], _ => simp only [List.length_cons, List.length_nil] at hll; omega
          | a :: b :: r, _ => exact ⟨a, b, r, rfl⟩
        have hc2 : (a :: b :: r ++ (Y ++ X)).take 2 = [45, 45] := hc
        have hlen : lineLen (a :: b :: r ++ (Y ++ X)) = lineLen (a :: b :: r ++ X) := by
          rcases lineLen_app (a :: b :: r) X with ⟨_, h2⟩ | h2
          · exact h2 _
          · rw [h2, h2]
            have e2 := h2 X
            rcases hX with rfl | hX
            · obtain ⟨q, rfl⟩ := hY0 rfl
              rfl
            · exfalso
              obtain ⟨u, v, huv⟩ := List.exists_cons_of_ne_nil hX.1
              subst huv
              have hu : u = 10 := by
                have : lineLen (u :: v) = 0 := by omega
                unfold lineLen at this
                rw [List.takeWhile_cons] at this
                by_cases hu : u = 10
                · exact hu
                · rw [if_pos (by simp [hu])] at this
                  simp at this
              have := hX.2.1
              rw [hu, decodeL_ascii 10 v (by decide)] at this
              revert this
              decide
        rw [lx_line n hc2, hlen]
        exact skip _ j L (by omega) hll hj h
      · rw [lx_none n hne hb hc hn] at h
        cases h
      · rw [lx_tok n hne hb hc hx] at h
        obtain ⟨L', h', rfl⟩ := cons1_ok h
        have hj1 : X ≠ [] → ∃ j', j = j' + 1 ∧ ∃ t : Tk4, L'[j']? = some t ∧ t.2.2.2 = n + cntL p := by
          intro hX0
          obtain ⟨t, ht, hn⟩ := hj2 hX0
          cases j with
          | zero =>
            simp only [List.getElem?_cons_zero, Option.some.injEq] at ht
            subst ht
            dsimp only at hn
            omega
          | succ j => exact ⟨j, rfl, t, by simpa using ht, hn⟩
        have hj3 : ∃ j', j = j' + 1 ∧ (X = [] ∧ j' = L'.length ∨ X ≠ [] ∧ ∃ t : Tk4, L'[j']? = some t ∧ t.2.2.2 = n + cntL p) := by
          rcases hj with ⟨hX0, rfl⟩ | ⟨hX0, _⟩
          · exact ⟨L'.length, rfl, .inl ⟨hX0, rfl⟩⟩
          · obtain ⟨j', e, ht⟩ := hj1 hX0
            exact ⟨j', e, .inr ⟨hX0, ht⟩⟩
        obtain ⟨j', rfl, hj'⟩ := hj3
        have hll := over _ j' L' h' (fun hX0 => by
            subst hX0
            have := tok_le hne hx
            rw [List.append_nil] at this
            exact this) (fun hX0 => by
            rcases hj' with ⟨hx0, _⟩ | ⟨_, hj'⟩
            · exact absurd hx0 hX0
            · exact hj')
        have hx2 : tok (p ++ (Y ++ X)) = some x := tok_stay h0 hXn hZ hx hll
        have hb2 : blankB (decodeL (p ++ (Y ++ X))).1 = false := by rw [hd2, ← hd]; exact hb
        have hc2 : (p ++ (Y ++ X)).take 2 ≠ [45, 45] := by
          obtain ⟨y, r, hy, _⟩ := hZ.dec
          match p, h0 with
          | [a], _ =>
            intro hq
            rw [hy] at hq
            simp only [List.cons_append, List.nil_append, List.take_succ_cons, List.take_zero, List.cons.injEq, and_true] at hq
            obtain ⟨y', r', hy', hy2⟩ := hZ
            rw [hy] at hy'
            injection hy' with e1 e2
            rw [← e1, hq.2] at hy2
            revert hy2
            decide
          | a :: b :: r, _ => exact hc
        rw [lx_tok n hne2 hb2 hc2 hx2, skip _ j' L' (tok_len hx) hll hj' h']
        rfl
end Go.Proofs.YtdbdlgmejddbhaaDoor
