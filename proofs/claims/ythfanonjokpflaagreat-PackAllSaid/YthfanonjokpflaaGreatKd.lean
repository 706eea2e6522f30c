/-
  Plain: readings and writings that belong together (codecs): what is put is got, what is got is put byte for byte, cut it is too short. GENERAL; for layer 9 and what stands on it.
-/
import Derived.Test.YthfanonjokpflaaGreatOb
set_option linter.unusedVariables false
namespace Go.Proofs.YthfanonjokpflaaGreat
open Go

abbrev Bs := List UInt8
/-- A reading: what is read and the bytes behind it, or what is wrong. -/
abbrev Pz (α : Type) := Bs → Except Int (α × Bs)
def retP {α : Type} (x : α) : Pz α := fun l => .ok (x, l)
def bindP {α β : Type} (p : Pz α) (f : α → Pz β) : Pz β := fun l => match p l with
  | .error c => .error c
  | .ok x => f x.1 x.2
def rawP : Pz Nat
  | [] => .error 8
  | c :: r => if 8 < c.toNat ∨ (0 < c.toNat ∧ r.head? = some 0) then .error 6 else if r.length < c.toNat then .error 8 else .ok (vl (r.take c.toNat), r.drop c.toNat)
theorem rawP_cons (c : UInt8) (r : Bs) : rawP (c :: r) = if 8 < c.toNat ∨ (0 < c.toNat ∧ r.head? = some 0) then .error 6 else if r.length < c.toNat then .error 8 else .ok (vl (r.take c.toNat), r.drop c.toNat) := rfl
/-- A number that may be a stamp. -/
def numP : Pz Int := bindP rawP fun v l => if 1099511627776 < v then .error 6 else .ok ((v : Int), l)
/-- How many, of at least one byte each. -/
def cntP : Pz Nat := bindP rawP fun v l => if l.length < v then .error 8 else .ok (v, l)
def bodyP : Pz Bs := bindP cntP fun n l => .ok (l.take n, l.drop n)
def txtP : Pz ByteArray := bindP bodyP fun b => retP ⟨b.toArray⟩
def manyP {α : Type} (p : Pz α) : Nat → Pz (List α)
  | 0 => retP []
  | n + 1 => bindP p fun x => bindP (manyP p n) fun xs => retP (x :: xs)
def listP {α : Type} (p : Pz α) : Pz (List α) := bindP cntP fun n => manyP p n
/-- Bytes by themselves, as many as are told. -/
def nestP {α : Type} (p : Pz α) : Pz α := bindP bodyP fun b l => match p b with
  | .error c => .error c
  | .ok x => if x.2 = [] then .ok (x.1, l) else .error 6

/-- 'p' reads what 'e' writes: of what meets G; what is read meets T. -/
structure Codec {α : Type} (p : Pz α) (e : α → Bs) (G T : α → Prop) : Prop where
  back : ∀ {x} (r : Bs), G x → p (e x ++ r) = .ok (x, r)
  canon : ∀ {l x r}, p l = .ok (x, r) → l = e x ++ r ∧ T x
  cut : ∀ {x k}, G x → k < (e x).length → p ((e x).take k) = .error 8
  errs : ∀ {l c}, p l = .error c → c = 8 ∨ c = 6

theorem raw_back (v : Nat) (h : v < 18446744073709551616) (r : Bs) : rawP (numL v ++ r) = .ok (v, r) := by
  obtain ⟨h1, h2, h3⟩ := nb_facts v h
  have e8 : (UInt8.ofNat (nb v)).toNat = nb v := by rw [UInt8.toNat_ofNat', Nat.mod_eq_of_lt (by omega)]
  have hl := be_length v (nb v)
  show rawP (UInt8.ofNat (nb v) :: (be v (nb v) ++ r)) = _
  rw [rawP_cons, e8]
  have hh : ¬ (8 < nb v ∨ (0 < nb v ∧ (be v (nb v) ++ r).head? = some 0)) := by
    rintro (h4 | ⟨h4, h5⟩)
    · omega
    · cases hn : nb v with
      | zero => omega
      | succ m =>
        rw [hn, be, List.cons_append, List.head?_cons] at h5
        injection h5 with h5
        have h0 : v ≠ 0 := fun e => by rw [e, nb_zero] at hn; cases hn
        have h6 := (h3 h0).2
        rw [hn, Nat.add_sub_cancel] at h6
        have h7 : v / 256 ^ m < 256 := by
          rw [Nat.div_lt_iff_lt_mul (Nat.pow_pos (by omega)), Nat.mul_comm]; rw [hn, Nat.pow_succ] at h2; exact h2
        have h8 : 0 < v / 256 ^ m := Nat.div_pos h6 (Nat.pow_pos (by omega))
        have h9 := congrArg UInt8.toNat h5
        rw [UInt8.toNat_ofNat', Nat.mod_eq_of_lt h7] at h9
        have : (0 : UInt8).toNat = 0 := rfl
        omega
  rw [if_neg hh, if_neg (by rw [List.length_append, hl]; omega), List.take_left' hl, List.drop_left' hl, vl_be, Nat.mod_eq_of_lt h2]
theorem raw_canon {l : Bs} {v : Nat} {r : Bs} (h : rawP l = .ok (v, r)) : l = numL v ++ r ∧ v < 18446744073709551616 := by
  cases l with
  | nil => cases h
  | cons c t =>
    rw [rawP_cons] at h
    split at h
    · cases h
    · rename_i hc
      split at h
      · cases h
      · rename_i hl
        injection h with h
        injection h with hv hr
        have h8 : c.toNat ≤ 8 := by
          rcases Nat.lt_or_ge 8 c.toNat with h1 | h1
          · exact absurd (Or.inl h1) hc
          · exact h1
        have htl : (t.take c.toNat).length = c.toNat := by rw [List.length_take]; omega
        have hlt := vl_lt (t.take c.toNat)
        rw [htl, hv] at hlt
        have hv64 : v < 18446744073709551616 := Nat.lt_of_lt_of_le hlt (by
          have : 256 ^ c.toNat ≤ 256 ^ 8 := Nat.pow_le_pow_right (by omega) h8
          exact this)
        have hnb : nb v = c.toNat := by
          refine nb_unique v c.toNat hv64 hlt fun h0 => ?_
          cases hcn : c.toNat with
          | zero => exact absurd hcn h0
          | succ m =>
            cases t with
            | nil => rw [hcn] at hl; simp at hl
            | cons b t =>
              rw [hcn] at hv
              rw [List.take_succ_cons, vl_cons] at hv
              have hb : b ≠ 0 := fun e => hc (Or.inr ⟨by omega, by rw [e]; rfl⟩)
              have hb2 : 1 ≤ b.toNat := by
                rcases Nat.eq_zero_or_pos b.toNat with h1 | h1
                · exact absurd (UInt8.toNat_inj.1 h1) hb
                · exact h1
              have hml : (t.take m).length = m := by rw [hcn] at hl; simp at hl; rw [List.length_take]; omega
              rw [hml] at hv
              rw [Nat.add_sub_cancel, ← hv]
              have := Nat.mul_le_mul_right (256 ^ m) hb2
              omega
        refine ⟨?_, hv64⟩
        have hbe := be_vl (t.take c.toNat)
        rw [htl, hv] at hbe
        show c :: t = UInt8.ofNat (nb v) :: (be v (nb v) ++ r)
        rw [hnb, hbe, ← hr, List.take_append_drop]
        congr 1
        apply UInt8.toNat_inj.1
        rw [UInt8.toNat_ofNat', Nat.mod_eq_of_lt (by omega)]
theorem raw_cut (v : Nat) (h : v < 18446744073709551616) {k : Nat} (hk : k < (numL v).length) : rawP ((numL v).take k) = .error 8 := by
  cases k with
  | zero => rfl
  | succ k =>
    obtain ⟨h1, h2, h3⟩ := nb_facts v h
    have e8 : (UInt8.ofNat (nb v)).toNat = nb v := by rw [UInt8.toNat_ofNat', Nat.mod_eq_of_lt (by omega)]
    rw [numL_length] at hk
    have hl := be_length v (nb v)
    have hb := raw_back v h []
    rw [List.append_nil] at hb
    show rawP (UInt8.ofNat (nb v) :: (be v (nb v)).take k) = _
    have hb' : rawP (UInt8.ofNat (nb v) :: be v (nb v)) = .ok (v, []) := hb
    rw [rawP_cons, e8] at hb' ⊢
    have hn : ¬ (8 < nb v ∨ (0 < nb v ∧ ((be v (nb v)).take k).head? = some 0)) := by
      rintro (h4 | ⟨h4, h5⟩)
      · omega
      · refine absurd hb' ?_
        rw [if_pos]
        · intro h; cases h
        · refine Or.inr ⟨h4, ?_⟩
          cases k with
          | zero => simp at h5
          | succ k =>
            cases hbe : be v (nb v) with
            | nil => rw [hbe] at h5; simp at h5
            | cons b t => rw [hbe, List.take_succ_cons, List.head?_cons] at h5; exact h5
    rw [if_neg hn, if_pos (by rw [List.length_take, hl]; omega)]
theorem raw_errs {l : Bs} {c : Int} (h : rawP l = .error c) : c = 8 ∨ c = 6 := by
  cases l with
  | nil => injection h with h; exact Or.inl h.symm
  | cons b t =>
    rw [rawP_cons] at h
    split at h
    · injection h with h; exact Or.inr h.symm
    · split at h
      · injection h with h; exact Or.inl h.symm
      · cases h
theorem num_codec : Codec numP (fun v => numL v.toNat) (fun v => 0 ≤ v ∧ v ≤ 1099511627776) (fun v => 0 ≤ v ∧ v ≤ 1099511627776) where
  back := fun {x} r hx => by
    unfold numP bindP
    rw [raw_back x.toNat (by omega) r]
    show (if 1099511627776 < x.toNat then _ else _) = _
    rw [if_neg (by omega), show ((x.toNat : Nat) : Int) = x by omega]
  canon := fun {l x r} h => by
    unfold numP bindP at h
    split at h
    · cases h
    · rename_i y hy
      obtain ⟨v, t⟩ := y
      dsimp only at h
      split at h
      · cases h
      · rename_i hn
        injection h with h
        injection h with h1 h2
        have := (raw_canon hy).1
        try simp only at h1 h2 hn
        subst h1; subst h2
        exact ⟨this, by omega, by omega⟩
  cut := fun {x k} hx hk => by
    unfold numP bindP
    rw [raw_cut x.toNat (by omega) hk]
  errs := fun {l c} h => by
    unfold numP bindP at h
    split at h
    · rename_i e he
      injection h with h
      subst h
      exact raw_errs he
    · dsimp only at h
      split at h
      · injection h with h; exact Or.inr h.symm
      · cases h

section
variable {α β : Type} {p : Pz α} {e : α → Bs} {G T : α → Prop}
theorem bind_ok {f : α → Pz β} {l : Bs} {x : α} {r : Bs} (h : p l = .ok (x, r)) : bindP p f l = f x r := by unfold bindP; rw [h]
theorem bind_err {f : α → Pz β} {l : Bs} {c : Int} (h : p l = .error c) : bindP p f l = .error c := by unfold bindP; rw [h]
theorem bind_cases {f : α → Pz β} {l : Bs} {y : Except Int (β × Bs)} (h : bindP p f l = y) : (∃ c, p l = .error c ∧ y = .error c) ∨ ∃ x r, p l = .ok (x, r) ∧ f x r = y := by
  unfold bindP at h
  split at h
  · rename_i c hc; exact Or.inl ⟨c, hc, h.symm⟩
  · rename_i x hx; exact Or.inr ⟨x.1, x.2, hx, h⟩
/-- One behind the other. -/
theorem Codec.seq {q : α → Pz β} {f : α → β → Bs} {H U : α → β → Prop} (h : Codec p e G T) (k : ∀ x, Codec (q x) (f x) (H x) (U x)) :
    Codec (bindP p fun x => bindP (q x) fun y => retP (x, y)) (fun z => e z.1 ++ f z.1 z.2) (fun z => G z.1 ∧ H z.1 z.2) (fun z => T z.1 ∧ U z.1 z.2) where
  back := fun {z} r hz => by
    obtain ⟨x, y⟩ := z
    rw [List.append_assoc, bind_ok (h.back _ hz.1), bind_ok ((k x).back r hz.2)]
    rfl
  canon := fun {l z r} hz => by
    rcases bind_cases hz with ⟨c, _, hc⟩ | ⟨x, t, hx, hq⟩
    · cases hc
    · rcases bind_cases hq with ⟨c, _, hc⟩ | ⟨y, u, hy, hr⟩
      · cases hc
      · injection hr with hr
        injection hr with h1 h2
        subst h1; subst h2
        have a := h.canon hx
        have b := (k x).canon hy
        exact ⟨by rw [a.1, b.1, List.append_assoc], a.2, b.2⟩
  cut := fun {z j} hz hj => by
    obtain ⟨x, y⟩ := z
    rw [List.length_append] at hj
    dsimp only at hj ⊢
    rcases Nat.lt_or_ge j (e x).length with h1 | h1
    · rw [List.take_append_of_le_length (Nat.le_of_lt h1)]
      exact bind_err (h.cut hz.1 h1)
    · rw [List.take_append, List.take_of_length_le h1, bind_ok (h.back _ hz.1)]
      exact bind_err ((k x).cut hz.2 (by omega))
  errs := fun {l c} hc => by
    rcases bind_cases hc with ⟨c', h1, h2⟩ | ⟨x, t, hx, hq⟩
    · injection h2 with h2; subst h2; exact h.errs h1
    · rcases bind_cases hq with ⟨c', h1, h2⟩ | ⟨y, u, hy, hr⟩
      · injection h2 with h2; subst h2; exact (k x).errs h1
      · cases hr
/-- The same, by other words. -/
theorem Codec.map (h : Codec p e G T) (g : α → β) (b : β → α) (H U : β → Prop) (hg : ∀ y, H y → g (b y) = y) (hG : ∀ y, H y → G (b y)) (hb : ∀ x, T x → b (g x) = x) (hU : ∀ x, T x → U (g x)) :
    Codec (bindP p fun x => retP (g x)) (fun y => e (b y)) H U where
  back := fun {y} r hy => by rw [bind_ok (h.back r (hG y hy))]; unfold retP; rw [hg y hy]
  canon := fun {l y r} hl => by
    rcases bind_cases hl with ⟨c, _, hc⟩ | ⟨x, t, hx, hq⟩
    · cases hc
    · injection hq with hq
      injection hq with h1 h2
      subst h1; subst h2
      have a := h.canon hx
      exact ⟨by rw [hb x a.2]; exact a.1, hU x a.2⟩
  cut := fun {y k} hy hk => bind_err (h.cut (hG y hy) hk)
  errs := fun {l c} hc => by
    rcases bind_cases hc with ⟨c', h1, h2⟩ | ⟨x, t, hx, hq⟩
    · injection h2 with h2; subst h2; exact h.errs h1
    · cases hq
theorem Codec.many (h : Codec p e G T) : ∀ n, Codec (manyP p n) (fun xs => xs.flatMap e) (fun xs => xs.length = n ∧ ∀ x ∈ xs, G x) (fun xs => xs.length = n ∧ ∀ x ∈ xs, T x)
  | 0 => {
    back := fun {x} r hx => by
      have : x = [] := List.length_eq_zero_iff.1 hx.1
      subst this; rfl
    canon := fun {l x r} hl => by
      injection hl with hl
      injection hl with h1 h2
      subst h1; subst h2
      exact ⟨rfl, rfl, fun x hx => by cases hx⟩
    cut := fun {x k} hx hk => by
      have : x = [] := List.length_eq_zero_iff.1 hx.1
      subst this
      exact absurd hk (by simp)
    errs := fun {l c} hc => by cases hc }
  | n + 1 => {
    back := fun {x} r hx => by
      cases x with
      | nil => exact absurd hx.1 (by simp)
      | cons y ys =>
        rw [List.flatMap_cons, List.append_assoc]
        show bindP p _ _ = _
        rw [bind_ok (h.back _ (hx.2 y (List.mem_cons_self ..))), bind_ok ((Codec.many h n).back r ⟨by simpa using hx.1, fun z hz => hx.2 z (List.mem_cons_of_mem _ hz)⟩)]
        rfl
    canon := fun {l x r} hl => by
      rcases bind_cases hl with ⟨c, _, hc⟩ | ⟨y, t, hy, hq⟩
      · cases hc
      · rcases bind_cases hq with ⟨c, _, hc⟩ | ⟨ys, u, hys, hr⟩
        · cases hc
        · injection hr with hr
          injection hr with h1 h2
          subst h1; subst h2
          have a := h.canon hy
          have b := (Codec.many h n).canon hys
          refine ⟨by rw [a.1, b.1, List.flatMap_cons, List.append_assoc], by rw [List.length_cons, b.2.1], fun z hz => ?_⟩
          rcases List.mem_cons.1 hz with rfl | hz
          · exact a.2
          · exact b.2.2 z hz
    cut := fun {x k} hx hk => by
      cases x with
      | nil => exact absurd hx.1 (by simp)
      | cons y ys =>
        rw [List.flatMap_cons] at hk ⊢
        rw [List.length_append] at hk
        have gy := hx.2 y (List.mem_cons_self ..)
        show bindP p _ _ = _
        rcases Nat.lt_or_ge k (e y).length with h1 | h1
        · rw [List.take_append_of_le_length (Nat.le_of_lt h1)]
          exact bind_err (h.cut gy h1)
        · rw [List.take_append, List.take_of_length_le h1, bind_ok (h.back _ gy)]
          exact bind_err ((Codec.many h n).cut ⟨by simpa using hx.1, fun z hz => hx.2 z (List.mem_cons_of_mem _ hz)⟩ (by omega))
    errs := fun {l c} hc => by
      rcases bind_cases hc with ⟨c', h1, h2⟩ | ⟨x, t, hx, hq⟩
      · injection h2 with h2; subst h2; exact h.errs h1
      · rcases bind_cases hq with ⟨c', h1, h2⟩ | ⟨y, u, hy, hr⟩
        · injection h2 with h2; subst h2; exact (Codec.many h n).errs h1
        · cases hr }
theorem flat_length {xs : List α} {e : α → Bs} (h : ∀ x ∈ xs, 1 ≤ (e x).length) : xs.length ≤ (xs.flatMap e).length := by
  induction xs with
  | nil => exact Nat.le_refl _
  | cons x xs ih =>
    rw [List.flatMap_cons, List.length_append, List.length_cons]
    have := h x (List.mem_cons_self ..)
    have := ih fun y hy => h y (List.mem_cons_of_mem _ hy)
    omega
theorem cnt_back (n : Nat) (h : n < 18446744073709551616) {r : Bs} (hr : n ≤ r.length) : cntP (numL n ++ r) = .ok (n, r) := by
  unfold cntP
  rw [bind_ok (raw_back n h r), if_neg (by omega)]
theorem cnt_short (n : Nat) (h : n < 18446744073709551616) {r : Bs} (hr : r.length < n) : cntP (numL n ++ r) = .error 8 := by
  unfold cntP
  rw [bind_ok (raw_back n h r), if_pos hr]
theorem cnt_cut (n : Nat) (h : n < 18446744073709551616) {k : Nat} (hk : k < (numL n).length) : cntP ((numL n).take k) = .error 8 := bind_err (raw_cut n h hk)
theorem cnt_canon {l : Bs} {n : Nat} {r : Bs} (h : cntP l = .ok (n, r)) : l = numL n ++ r ∧ n ≤ r.length ∧ n < 18446744073709551616 := by
  rcases bind_cases h with ⟨c, _, hc⟩ | ⟨x, t, hx, hq⟩
  · cases hc
  · split at hq
    · cases hq
    · injection hq with hq
      injection hq with h1 h2
      subst h1; subst h2
      exact ⟨(raw_canon hx).1, by omega, (raw_canon hx).2⟩
theorem cnt_errs {l : Bs} {c : Int} (h : cntP l = .error c) : c = 8 ∨ c = 6 := by
  rcases bind_cases h with ⟨c', h1, h2⟩ | ⟨x, t, hx, hq⟩
  · injection h2 with h2; subst h2; exact raw_errs h1
  · split at hq
    · injection hq with hq; exact Or.inl hq.symm
    · cases hq
/-- How many, and they. -/
theorem Codec.list (h : Codec p e G T) (h1 : ∀ x, G x → 1 ≤ (e x).length) :
    Codec (listP p) (fun xs => numL xs.length ++ xs.flatMap e) (fun xs => xs.length < 18446744073709551616 ∧ ∀ x ∈ xs, G x) (fun xs => xs.length < 18446744073709551616 ∧ ∀ x ∈ xs, T x) where
  back := fun {xs} r hx => by
    have hl := flat_length fun x hm => h1 x (hx.2 x hm)
    rw [List.append_assoc]
    unfold listP
    rw [bind_ok (cnt_back xs.length hx.1 (by rw [List.length_append]; omega))]
    exact (h.many xs.length).back r ⟨rfl, hx.2⟩
  canon := fun {l xs r} hl => by
    rcases bind_cases hl with ⟨c, _, hc⟩ | ⟨n, t, hn, hq⟩
    · cases hc
    · have a := cnt_canon hn
      have b := (h.many n).canon hq
      exact ⟨by rw [a.1, b.1, ← b.2.1, List.append_assoc], by rw [b.2.1]; exact a.2.2, b.2.2⟩
  cut := fun {xs k} hx hk => by
    rw [List.length_append] at hk
    unfold listP
    rcases Nat.lt_or_ge k (numL xs.length).length with h2 | h2
    · rw [List.take_append_of_le_length (Nat.le_of_lt h2)]
      exact bind_err (cnt_cut xs.length hx.1 h2)
    · rw [List.take_append, List.take_of_length_le h2]
      rcases Nat.lt_or_ge ((xs.flatMap e).take (k - (numL xs.length).length)).length xs.length with h3 | h3
      · exact bind_err (cnt_short xs.length hx.1 h3)
      · rw [bind_ok (cnt_back xs.length hx.1 h3)]
        exact (h.many xs.length).cut ⟨rfl, hx.2⟩ (by omega)
  errs := fun {l c} hc => by
    rcases bind_cases hc with ⟨c', h2, h3⟩ | ⟨n, t, hn, hq⟩
    · injection h3 with h3; subst h3; exact cnt_errs h2
    · exact (h.many n).errs hq
theorem body_codec : Codec bodyP (fun b => numL b.length ++ b) (fun b => b.length < 18446744073709551616) (fun b => b.length < 18446744073709551616) where
  back := fun {b} r hb => by
    rw [List.append_assoc]
    unfold bodyP
    rw [bind_ok (cnt_back b.length hb (by rw [List.length_append]; omega)), List.take_left' rfl, List.drop_left' rfl]
  canon := fun {l b r} hl => by
    rcases bind_cases hl with ⟨c, _, hc⟩ | ⟨n, t, hn, hq⟩
    · cases hc
    · injection hq with hq
      injection hq with h1 h2
      have a := cnt_canon hn
      have hlen : b.length = n := by rw [← h1, List.length_take]; omega
      rw [hlen, ← h1, ← h2, List.append_assoc, List.take_append_drop]
      exact ⟨a.1, a.2.2⟩
  cut := fun {b k} hb hk => by
    rw [List.length_append] at hk
    unfold bodyP
    rcases Nat.lt_or_ge k (numL b.length).length with h2 | h2
    · rw [List.take_append_of_le_length (Nat.le_of_lt h2)]
      exact bind_err (cnt_cut b.length hb h2)
    · rw [List.take_append, List.take_of_length_le h2]
      exact bind_err (cnt_short b.length hb (by rw [List.length_take]; omega))
  errs := fun {l c} hc => by
    rcases bind_cases hc with ⟨c', h2, h3⟩ | ⟨n, t, hn, hq⟩
    · injection h3 with h3; subst h3; exact cnt_errs h2
    · cases hq
/-- A text. -/
def tE (s : ByteArray) : Bs := numL s.size ++ s.data.toList
theorem txt_codec : Codec txtP tE (fun s => s.size < 18446744073709551616) (fun s => s.size < 18446744073709551616) :=
  (body_codec.map (fun b => (⟨b.toArray⟩ : ByteArray)) (fun s => s.data.toList) (fun s => s.size < 18446744073709551616) (fun s => s.size < 18446744073709551616) (fun y _ => rfl) (fun y hy => hy) (fun x _ => rfl) (fun _ h => h))
theorem Codec.nest (h : Codec p e G T) : Codec (nestP p) (fun x => numL (e x).length ++ e x) (fun x => G x ∧ (e x).length < 18446744073709551616) T where
  back := fun {x} r hx => by
    unfold nestP
    rw [bind_ok (body_codec.back r hx.2)]
    have hb := h.back [] hx.1
    rw [List.append_nil] at hb
    show (match p (e x) with | .error c => _ | .ok y => _) = _
    rw [hb]
    exact if_pos rfl
  canon := fun {l x r} hl => by
    rcases bind_cases hl with ⟨c, _, hc⟩ | ⟨b, t, hb, hq⟩
    · cases hc
    · have a := body_codec.canon hb
      try dsimp only at hq
      cases hp : p b with
      | error c => rw [hp] at hq; cases hq
      | ok y =>
        rw [hp] at hq
        dsimp only at hq
        split at hq
        · rename_i h0
          injection hq with hq
          injection hq with h1 h2
          subst h1; subst h2
          have hp' : p b = .ok (y.1, []) := by rw [hp, ← h0]
          have d := h.canon hp'
          rw [List.append_nil] at d
          exact ⟨by rw [a.1, d.1], d.2⟩
        · cases hq
  cut := fun {x k} hx hk => bind_err (body_codec.cut hx.2 hk)
  errs := fun {l c} hc => by
    rcases bind_cases hc with ⟨c', h2, h3⟩ | ⟨b, t, hb, hq⟩
    · injection h3 with h3; subst h3; exact body_codec.errs h2
    · try dsimp only at hq
      cases hp : p b with
      | error c' => rw [hp] at hq; injection hq with hq; subst hq; exact h.errs hp
      | ok y =>
        rw [hp] at hq
        dsimp only at hq
        split at hq
        · cases hq
        · injection hq with hq; exact Or.inr hq.symm
/-- All of it: put, and got. -/
def putP (e : α → Bs) (ok : α → Bool) (x : α) : Except Int Bs := if ok x = true then (if 262144 < (e x).length then .error 2 else .ok (e x)) else .error 1
def getP (p : Pz α) (ok : α → Bool) (l : Bs) : Except Int α := if 262144 < l.length then .error 2 else match p l with
  | .error c => .error c
  | .ok x => if x.2 = [] then (if ok x.1 = true then .ok x.1 else .error 1) else .error 6
variable {ok : α → Bool}
theorem put_ok {x : α} {b : Bs} (h : putP e ok x = .ok b) : ok x = true ∧ (e x).length ≤ 262144 ∧ b = e x := by
  unfold putP at h
  split at h
  · split at h
    · cases h
    · injection h with h
      exact ⟨‹_›, by omega, h.symm⟩
  · cases h
theorem Codec.got (h : Codec p e G T) (hok : ∀ x, ok x = true → G x) {x : α} {b : Bs} (hp : putP e ok x = .ok b) : getP p ok b = .ok x := by
  obtain ⟨h1, h2, rfl⟩ := put_ok hp
  have hb := h.back [] (hok x h1)
  rw [List.append_nil] at hb
  unfold getP
  rw [if_neg (by omega), hb]
  show (if ([] : Bs) = [] then (if ok x = true then _ else _) else _) = _
  rw [if_pos rfl, if_pos h1]
theorem Codec.same (h : Codec p e G T) {x : α} {b : Bs} (hg : getP p ok b = .ok x) : putP e ok x = .ok b ∧ T x := by
  unfold getP at hg
  split at hg
  · cases hg
  · rename_i hl
    cases hp : p b with
    | error c => rw [hp] at hg; cases hg
    | ok y =>
      rw [hp] at hg
      dsimp only at hg
      split at hg
      · rename_i h0
        split at hg
        · rename_i h1
          injection hg with hg
          subst hg
          have hp' : p b = .ok (y.1, []) := by rw [hp, ← h0]
          have d := h.canon hp'
          rw [List.append_nil] at d
          unfold putP
          rw [if_pos h1, ← d.1, if_neg hl]
          exact ⟨rfl, d.2⟩
        · cases hg
      · cases hg
theorem Codec.longer (h : Codec p e G T) (hok : ∀ x, ok x = true → G x) {x : α} {b : Bs} (hp : putP e ok x = .ok b) {r : Bs} (hr : r ≠ []) (hl : b.length + r.length ≤ 262144) : getP p ok (b ++ r) = .error 6 := by
  obtain ⟨h1, h2, rfl⟩ := put_ok hp
  unfold getP
  rw [if_neg (by rw [List.length_append]; omega), h.back r (hok x h1)]
  exact if_neg hr
theorem Codec.wrong (h : Codec p e G T) {b : Bs} {c : Int} (hl : b.length ≤ 262144) (hg : getP p ok b = .error c) : c = 8 ∨ c = 6 ∨ c = 1 := by
  unfold getP at hg
  rw [if_neg (by omega)] at hg
  cases hp : p b with
  | error c' => rw [hp] at hg; injection hg with hg; subst hg; exact (h.errs hp).imp id Or.inl
  | ok y =>
    rw [hp] at hg
    dsimp only at hg
    split at hg
    · split at hg
      · cases hg
      · injection hg with hg; exact Or.inr (Or.inr hg.symm)
    · injection hg with hg; exact Or.inr (Or.inl hg.symm)
end
end Go.Proofs.YthfanonjokpflaaGreat
