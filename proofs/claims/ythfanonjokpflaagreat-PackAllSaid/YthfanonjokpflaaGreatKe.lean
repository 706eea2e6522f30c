/-
  Plain: partitions and batches as bytes (layer 9): readings, writings, and that they belong together.
-/
import Derived.Test.YthfanonjokpflaaGreatKd
import Derived.Test.YthfanonjokpflaaGreatPk
set_option linter.unusedVariables false
set_option linter.unusedSimpArgs false
namespace Go.Proofs.YthfanonjokpflaaGreat
open Go

abbrev Stm (n : Int) : Prop := 0 ≤ n ∧ n ≤ 1099511627776
/-- A cell's bytes behind its At. -/
def tailE (c : Ce) : Bs := if c.a = 0 then [] else if c.d = true then [1] else 0 :: (tE c.s ++ numL c.e.toNat)
def cE (c : Ce) : Bs := numL c.a.toNat ++ tailE c
def tailP (a : Int) : Pz Ce := if a = 0 then retP noC else fun l => match l with
  | [] => .error 8
  | b :: r => if b = 0 then (bindP txtP fun s => bindP numP fun e => retP ⟨s, false, a, e⟩) r else if b = 1 then .ok (⟨⟨#[]⟩, true, a, 0⟩, r) else .error 6
def cellP : Pz Ce := bindP numP fun a => tailP a
def Ce.Gd (c : Ce) : Prop := Stm c.a ∧ (c.a = 0 → c = noC) ∧ (c.a ≠ 0 → c.d = true → c.s = ⟨#[]⟩ ∧ c.e = 0) ∧ (c.a ≠ 0 → c.d = false → c.s.size < 18446744073709551616 ∧ Stm c.e)
theorem Ce.gd_of {c : Ce} (h : c.ok = true) : c.Gd := by
  unfold Ce.ok at h
  split at h
  · rename_i h0
    have := (same_iff _ _).1 h
    exact ⟨by rw [h0]; exact ⟨Int.le_refl _, by decide⟩, fun _ => this, fun hn => absurd h0 hn, fun hn => absurd h0 hn⟩
  · rename_i h0
    split at h
    · cases h
    · rename_i h1
      have hs : stm c.a = true := by cases e : stm c.a <;> simp_all
      unfold stm at hs
      simp only [Bool.and_eq_true, decide_eq_true_iff] at hs
      split at h
      · rename_i h2
        have h3 := (same_iff _ _).1 h
        exact ⟨hs, fun e => absurd e h0, fun _ _ => by rw [h3]; exact ⟨rfl, rfl⟩, fun _ e => by rw [h2] at e; cases e⟩
      · rename_i h2
        unfold stm at h
        simp only [Bool.and_eq_true, decide_eq_true_iff] at h
        exact ⟨hs, fun e => absurd e h0, fun _ e => absurd e h2, fun _ _ => ⟨by omega, h.2⟩⟩
theorem alive_codec : Codec (bindP txtP fun s => bindP numP fun e => retP (s, e)) (fun z : ByteArray × Int => tE z.1 ++ numL z.2.toNat) (fun z => z.1.size < 18446744073709551616 ∧ Stm z.2) (fun z => z.1.size < 18446744073709551616 ∧ Stm z.2) :=
  txt_codec.seq (q := fun _ => numP) (f := fun _ e => numL e.toNat) (H := fun _ e => Stm e) (U := fun _ e => Stm e) fun _ => num_codec
theorem alive_of (a : Int) (r : Bs) : (bindP txtP fun s => bindP numP fun e => retP (⟨s, false, a, e⟩ : Ce)) r = match (bindP txtP fun s => bindP numP fun e => retP (s, e)) r with
    | .error c => .error c
    | .ok z => .ok (⟨z.1.1, false, a, z.1.2⟩, z.2) := by
  unfold bindP
  cases txtP r with
  | error c => rfl
  | ok x =>
    dsimp only
    cases numP x.2 with
    | error c => rfl
    | ok y => rfl
theorem tail_codec (a : Int) (ha : Stm a) : Codec (tailP a) tailE (fun c => c.a = a ∧ c.Gd) (fun c => c.a = a ∧ c.Gd) where
  back := fun {c} r hc => by
    obtain ⟨rfl, hg⟩ := hc
    unfold tailP tailE
    by_cases h0 : c.a = 0
    · rw [if_pos h0, if_pos h0, hg.2.1 h0]; rfl
    · rw [if_neg h0, if_neg h0]
      cases hd : c.d
      · rw [if_neg (by simp)]
        have h1 := alive_codec.back (x := (c.s, c.e)) r (hg.2.2.2 h0 hd)
        dsimp only at h1 ⊢
        rw [List.cons_append]
        dsimp only
        rw [if_pos rfl, alive_of, h1]
        obtain ⟨s, d, a, e⟩ := c
        simp only at hd
        subst hd
        rfl
      · rw [if_pos rfl]
        dsimp only [List.singleton_append]
        rw [if_neg (by decide), if_pos rfl]
        have := hg.2.2.1 h0 hd
        obtain ⟨s, d, a, e⟩ := c
        simp only at this hd
        obtain ⟨rfl, rfl⟩ := this
        subst hd
        rfl
  canon := fun {l c r} h => by
    unfold tailP at h
    split at h
    · rename_i h0
      injection h with h
      injection h with h1 h2
      subst h1; subst h2
      subst h0
      exact ⟨rfl, rfl, ha, fun _ => rfl, fun h => absurd rfl h, fun h => absurd rfl h⟩
    · rename_i h0
      cases l with
      | nil => cases h
      | cons b t =>
        dsimp only at h
        split at h
        · rename_i hb
          subst hb
          rw [alive_of] at h
          cases hx : (bindP txtP fun s => bindP numP fun e => retP (s, e)) t with
          | error c => rw [hx] at h; cases h
          | ok z =>
            rw [hx] at h
            injection h with h
            injection h with h1 h2
            subst h1; subst h2
            have d := alive_codec.canon hx
            refine ⟨?_, rfl, ha, fun e => absurd e h0, fun _ e => (by cases e), fun _ _ => ⟨?_, d.2.2⟩⟩
            · unfold tailE
              rw [if_neg h0, if_neg (by simp), List.cons_append]
              exact congrArg (0 :: ·) d.1
            · exact d.2.1
        · split at h
          · rename_i hb0 hb1
            injection h with h
            injection h with h1 h2
            subst h1; subst h2
            subst hb1
            refine ⟨?_, rfl, ha, fun e => absurd e h0, fun _ _ => ⟨rfl, rfl⟩, fun _ e => by cases e⟩
            unfold tailE
            rw [if_neg h0, if_pos rfl]; rfl
          · cases h
  cut := fun {c k} hc hk => by
    obtain ⟨rfl, hg⟩ := hc
    unfold tailP
    unfold tailE at hk ⊢
    by_cases h0 : c.a = 0
    · rw [if_pos h0] at hk; exact absurd hk (by simp)
    · rw [if_neg h0] at hk ⊢
      rw [if_neg h0]
      cases hd : c.d
      · rw [hd, if_neg (by simp)] at hk
        rw [if_neg (by simp)]
        cases k with
        | zero => rfl
        | succ k =>
          rw [List.take_succ_cons]
          dsimp only
          rw [if_pos rfl, alive_of, alive_codec.cut (x := (c.s, c.e)) (hg.2.2.2 h0 hd) (by simpa using hk)]
      · rw [hd, if_pos rfl] at hk
        rw [if_pos rfl]
        obtain rfl : k = 0 := by simpa using hk
        rfl
  errs := fun {l c} h => by
    unfold tailP at h
    split at h
    · cases h
    · cases l with
      | nil => injection h with h; exact Or.inl h.symm
      | cons b t =>
        dsimp only at h
        split at h
        · rw [alive_of] at h
          cases hx : (bindP txtP fun s => bindP numP fun e => retP (s, e)) t with
          | error c' => rw [hx] at h; injection h with h; subst h; exact alive_codec.errs hx
          | ok z => rw [hx] at h; cases h
        · split at h
          · cases h
          · injection h with h; exact Or.inr h.symm
theorem cell_codec : Codec cellP cE Ce.Gd Ce.Gd where
  back := fun {c} r hc => by
    unfold cellP cE
    rw [List.append_assoc, bind_ok (num_codec.back _ hc.1)]
    exact (tail_codec c.a hc.1).back r ⟨rfl, hc⟩
  canon := fun {l c r} h => by
    rcases bind_cases h with ⟨x, _, hx⟩ | ⟨a, t, ha, hq⟩
    · cases hx
    · have d := num_codec.canon ha
      have e := (tail_codec a d.2).canon hq
      refine ⟨?_, e.2.2⟩
      unfold cE
      rw [d.1, e.1, e.2.1, List.append_assoc]
  cut := fun {c k} hc hk => by
    unfold cellP
    unfold cE at hk ⊢
    rw [List.length_append] at hk
    rcases Nat.lt_or_ge k (numL c.a.toNat).length with h1 | h1
    · rw [List.take_append_of_le_length (Nat.le_of_lt h1)]
      exact bind_err (num_codec.cut hc.1 h1)
    · rw [List.take_append, List.take_of_length_le h1, bind_ok (num_codec.back _ hc.1)]
      exact (tail_codec c.a hc.1).cut ⟨rfl, hc⟩ (by omega)
  errs := fun {l c} h => by
    rcases bind_cases h with ⟨x, h1, h2⟩ | ⟨a, t, ha, hq⟩
    · injection h2 with h2; subst h2; exact num_codec.errs h1
    · exact (tail_codec a (num_codec.canon ha).2).errs hq

/-- A column. -/
def kE (x : ByteArray × Ce) : Bs := tE x.1 ++ cE x.2
def colP : Pz (ByteArray × Ce) := bindP txtP fun n => bindP cellP fun c => retP (n, c)
def ColG (x : ByteArray × Ce) : Prop := x.1.size < 18446744073709551616 ∧ x.2.Gd
theorem col_codec : Codec colP kE ColG (fun x => x.1.size < 18446744073709551616 ∧ x.2.Gd) :=
  txt_codec.seq (q := fun _ => cellP) (f := fun _ c => cE c) (H := fun _ c => c.Gd) (U := fun _ c => c.Gd) fun _ => cell_codec
theorem numL_pos (v : Nat) : 1 ≤ (numL v).length := by rw [numL_length]; omega
theorem tE_pos (s : ByteArray) (r : Bs) : 1 ≤ (tE s ++ r).length := by
  unfold tE
  rw [List.length_append, List.length_append]
  have := numL_pos s.size
  omega
/-- A row. -/
def rE (r : Ro) : Bs := tE r.key ++ (cE r.live ++ (numL r.gone.toNat ++ (numL r.shade.toNat ++ (numL r.cols.length ++ r.cols.flatMap kE))))
def rowT : Pz (ByteArray × (Ce × (Int × (Int × Cols)))) := bindP txtP fun k => bindP (bindP cellP fun c => bindP (bindP numP fun g => bindP (bindP numP fun h => bindP (listP colP) fun l => retP (h, l)) fun y => retP (g, y)) fun y => retP (c, y)) fun y => retP (k, y)
def rowP : Pz Ro := bindP rowT fun z => retP ⟨z.1, z.2.1, z.2.2.1, z.2.2.2.1, z.2.2.2.2⟩
def Ro.Gd (r : Ro) : Prop := r.key.size < 18446744073709551616 ∧ (r.live.Gd ∧ (Stm r.gone ∧ (Stm r.shade ∧ (r.cols.length < 18446744073709551616 ∧ ∀ x ∈ r.cols, ColG x))))
theorem cols_codec : Codec (listP colP) (fun l : Cols => numL l.length ++ l.flatMap kE) (fun l => l.length < 18446744073709551616 ∧ ∀ x ∈ l, ColG x) (fun l => l.length < 18446744073709551616 ∧ ∀ x ∈ l, x.1.size < 18446744073709551616 ∧ x.2.Gd) :=
  col_codec.list fun x _ => tE_pos x.1 (cE x.2)
theorem rowT_codec : Codec rowT (fun z : ByteArray × (Ce × (Int × (Int × Cols))) => tE z.1 ++ (cE z.2.1 ++ (numL z.2.2.1.toNat ++ (numL z.2.2.2.1.toNat ++ (numL z.2.2.2.2.length ++ z.2.2.2.2.flatMap kE)))))
    (fun z => z.1.size < 18446744073709551616 ∧ (z.2.1.Gd ∧ (Stm z.2.2.1 ∧ (Stm z.2.2.2.1 ∧ (z.2.2.2.2.length < 18446744073709551616 ∧ ∀ x ∈ z.2.2.2.2, ColG x)))))
    (fun z => z.1.size < 18446744073709551616 ∧ (z.2.1.Gd ∧ (Stm z.2.2.1 ∧ (Stm z.2.2.2.1 ∧ (z.2.2.2.2.length < 18446744073709551616 ∧ ∀ x ∈ z.2.2.2.2, x.1.size < 18446744073709551616 ∧ x.2.Gd))))) :=
  txt_codec.seq (q := fun _ => _) (f := fun _ y => _) (H := fun _ y => _) (U := fun _ y => _) fun _ =>
    cell_codec.seq (q := fun _ => _) (f := fun _ y => _) (H := fun _ y => _) (U := fun _ y => _) fun _ =>
      num_codec.seq (q := fun _ => _) (f := fun _ y => _) (H := fun _ y => _) (U := fun _ y => _) fun _ =>
        num_codec.seq (q := fun _ => _) (f := fun _ y => _) (H := fun _ y => _) (U := fun _ y => _) fun _ => cols_codec
theorem row_codec : Codec rowP rE Ro.Gd Ro.Gd :=
  rowT_codec.map (fun z => (⟨z.1, z.2.1, z.2.2.1, z.2.2.2.1, z.2.2.2.2⟩ : Ro)) (fun r => (r.key, r.live, r.gone, r.shade, r.cols)) Ro.Gd Ro.Gd (fun _ _ => rfl) (fun _ h => h) (fun _ _ => rfl) (fun _ h => h)
/-- A partition. -/
def pE (p : Pa) : Bs := tE p.key ++ (numL p.gone.toNat ++ (numL p.rows.length ++ p.rows.flatMap rE))
def partT : Pz (ByteArray × (Int × List Ro)) := bindP txtP fun k => bindP (bindP numP fun g => bindP (listP rowP) fun l => retP (g, l)) fun y => retP (k, y)
def partP : Pz Pa := bindP partT fun z => retP ⟨z.1, z.2.1, z.2.2⟩
def Pa.Gd (p : Pa) : Prop := p.key.size < 18446744073709551616 ∧ (Stm p.gone ∧ (p.rows.length < 18446744073709551616 ∧ ∀ x ∈ p.rows, x.Gd))
theorem rows_codec : Codec (listP rowP) (fun l : List Ro => numL l.length ++ l.flatMap rE) (fun l => l.length < 18446744073709551616 ∧ ∀ x ∈ l, x.Gd) (fun l => l.length < 18446744073709551616 ∧ ∀ x ∈ l, x.Gd) :=
  row_codec.list fun x _ => tE_pos x.key _
theorem partT_codec : Codec partT (fun z : ByteArray × (Int × List Ro) => tE z.1 ++ (numL z.2.1.toNat ++ (numL z.2.2.length ++ z.2.2.flatMap rE)))
    (fun z => z.1.size < 18446744073709551616 ∧ (Stm z.2.1 ∧ (z.2.2.length < 18446744073709551616 ∧ ∀ x ∈ z.2.2, x.Gd))) (fun z => z.1.size < 18446744073709551616 ∧ (Stm z.2.1 ∧ (z.2.2.length < 18446744073709551616 ∧ ∀ x ∈ z.2.2, x.Gd))) :=
  txt_codec.seq (q := fun _ => _) (f := fun _ y => _) (H := fun _ y => _) (U := fun _ y => _) fun _ =>
    num_codec.seq (q := fun _ => _) (f := fun _ y => _) (H := fun _ y => _) (U := fun _ y => _) fun _ => rows_codec
theorem part_codec : Codec partP pE Pa.Gd Pa.Gd :=
  partT_codec.map (fun z => (⟨z.1, z.2.1, z.2.2⟩ : Pa)) (fun p => (p.key, p.gone, p.rows)) Pa.Gd Pa.Gd (fun _ _ => rfl) (fun _ h => h) (fun _ _ => rfl) (fun _ h => h)

theorem Ro.gd_of {r : Ro} (h : r.ok = true) : r.Gd := by
  have hc : ∀ x ∈ r.cols, colB x = true := by
    unfold Ro.ok at h
    simp only [Bool.and_eq_true, decide_eq_true_iff] at h
    intro x hx
    obtain ⟨j, hj, rfl⟩ := List.getElem_of_mem hx
    have h1 := List.all_eq_true.1 h.2.2.2.2.2 j (List.mem_range.2 hj)
    cases j with
    | zero => rwa [good_zero hj] at h1
    | succ j =>
      rw [good_succ hj, Bool.and_eq_true] at h1
      exact h1.1
  unfold Ro.ok liveB stm at h
  simp only [Bool.and_eq_true, decide_eq_true_iff] at h
  refine ⟨by omega, Ce.gd_of h.2.1.1, h.2.2.1, h.2.2.2.1, by omega, fun x hx => ?_⟩
  have h1 := hc x hx
  unfold colB nameB at h1
  simp only [Bool.and_eq_true, decide_eq_true_iff] at h1
  exact ⟨by omega, Ce.gd_of h1.2.1⟩
theorem Pa.gd_of {p : Pa} (h : p.ok = true) : p.Gd := by
  obtain ⟨h1, h2, h3, h4⟩ := Pa.ok_of h
  unfold stm at h2
  simp only [Bool.and_eq_true, decide_eq_true_iff] at h2
  exact ⟨by omega, h2, by omega, fun x hx => Ro.gd_of (rowsB_each h4 x hx)⟩

/-- A batch. -/
structure Bt where
  muts : List (ByteArray × Pa)
  add : List (Int × ByteArray)
  drop : List Int
def mE (m : ByteArray × Pa) : Bs := tE m.1 ++ (numL (pE m.2).length ++ pE m.2)
def aE (x : Int × ByteArray) : Bs := numL x.1.toNat ++ tE x.2
def bE (b : Bt) : Bs := (numL b.muts.length ++ b.muts.flatMap mE) ++ ((numL b.add.length ++ b.add.flatMap aE) ++ (numL b.drop.length ++ b.drop.flatMap fun v => numL v.toNat))
def mutP : Pz (ByteArray × Pa) := bindP txtP fun t => bindP (nestP partP) fun p => retP (t, p)
def addP : Pz (Int × ByteArray) := bindP numP fun i => bindP txtP fun b => retP (i, b)
def batchT : Pz (List (ByteArray × Pa) × (List (Int × ByteArray) × List Int)) := bindP (listP mutP) fun m => bindP (bindP (listP addP) fun a => bindP (listP numP) fun d => retP (a, d)) fun y => retP (m, y)
def batchP : Pz Bt := bindP batchT fun z => retP ⟨z.1, z.2.1, z.2.2⟩
theorem mut_codec : Codec mutP mE (fun m => m.1.size < 18446744073709551616 ∧ (m.2.Gd ∧ (pE m.2).length < 18446744073709551616)) (fun m => m.1.size < 18446744073709551616 ∧ m.2.Gd) :=
  txt_codec.seq (q := fun _ => _) (f := fun _ p => _) (H := fun _ p => _) (U := fun _ p => _) fun _ => part_codec.nest
theorem add_codec : Codec addP aE (fun x => Stm x.1 ∧ x.2.size < 18446744073709551616) (fun x => Stm x.1 ∧ x.2.size < 18446744073709551616) :=
  num_codec.seq (q := fun _ => _) (f := fun _ p => _) (H := fun _ p => _) (U := fun _ p => _) fun _ => txt_codec
def Bt.Gd (b : Bt) : Prop := (b.muts.length < 18446744073709551616 ∧ ∀ m ∈ b.muts, m.1.size < 18446744073709551616 ∧ (m.2.Gd ∧ (pE m.2).length < 18446744073709551616)) ∧
  ((b.add.length < 18446744073709551616 ∧ ∀ x ∈ b.add, Stm x.1 ∧ x.2.size < 18446744073709551616) ∧ (b.drop.length < 18446744073709551616 ∧ ∀ v ∈ b.drop, Stm v))
theorem batchT_codec : Codec batchT (fun z : List (ByteArray × Pa) × (List (Int × ByteArray) × List Int) => (numL z.1.length ++ z.1.flatMap mE) ++ ((numL z.2.1.length ++ z.2.1.flatMap aE) ++ (numL z.2.2.length ++ z.2.2.flatMap fun v => numL v.toNat)))
    (fun z => (z.1.length < 18446744073709551616 ∧ ∀ m ∈ z.1, m.1.size < 18446744073709551616 ∧ (m.2.Gd ∧ (pE m.2).length < 18446744073709551616)) ∧ ((z.2.1.length < 18446744073709551616 ∧ ∀ x ∈ z.2.1, Stm x.1 ∧ x.2.size < 18446744073709551616) ∧ (z.2.2.length < 18446744073709551616 ∧ ∀ v ∈ z.2.2, Stm v)))
    (fun z => (z.1.length < 18446744073709551616 ∧ ∀ m ∈ z.1, m.1.size < 18446744073709551616 ∧ m.2.Gd) ∧ ((z.2.1.length < 18446744073709551616 ∧ ∀ x ∈ z.2.1, Stm x.1 ∧ x.2.size < 18446744073709551616) ∧ (z.2.2.length < 18446744073709551616 ∧ ∀ v ∈ z.2.2, Stm v))) :=
  (mut_codec.list fun x _ => tE_pos x.1 _).seq (q := fun _ => _) (f := fun _ p => _) (H := fun _ p => _) (U := fun _ p => _) fun _ =>
    (add_codec.list fun x _ => by unfold aE; rw [List.length_append]; have := numL_pos x.1.toNat; omega).seq (q := fun _ => _) (f := fun _ p => _) (H := fun _ p => _) (U := fun _ p => _) fun _ =>
      num_codec.list fun x _ => numL_pos x.toNat
end Go.Proofs.YthfanonjokpflaaGreat
