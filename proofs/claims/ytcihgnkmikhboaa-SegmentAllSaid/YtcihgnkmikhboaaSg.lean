/-
  Plain words: records in blocks. No program is named here.
-/
import Derived.Test.YtcihgnkmikhboaaTk
set_option linter.unusedVariables false
namespace Go.Proofs.Ytcihgnkmikhboaa
open Go

/-- A piece's kind. -/
def pk (o e : Bool) : UInt8 := if o then (if e then 1 else 2) else if e then 4 else 3
def hdr (k : UInt8) (x : List UInt8) : List UInt8 := [k, UInt8.ofNat x.length]
/-- What stands ahead of a piece's bytes. -/
def mrk (k : UInt8) (x : List UInt8) : List UInt8 := hdr k x ++ be (tgo 1 (hdr k x ++ x)) 4
def pc (k : UInt8) (x : List UInt8) : List UInt8 := mrk k x ++ x
theorem mrk_length (k : UInt8) (x : List UInt8) : (mrk k x).length = 6 := by
  unfold mrk hdr
  rw [List.length_append, be_length]
  rfl
theorem pc_length (k : UInt8) (x : List UInt8) : (pc k x).length = 6 + x.length := by
  unfold pc
  rw [List.length_append, mrk_length]
theorem pk_inj {o e o' e' : Bool} (h : pk o e = pk o' e') : o = o' ∧ e = e' := by
  revert h
  cases o <;> cases e <;> cases o' <;> cases e' <;> decide

theorem pc_front {k : UInt8} {x t : List UInt8} (h : pc k x <+: t) : ∃ u, t = k :: UInt8.ofNat x.length :: (be (tgo 1 (hdr k x ++ x)) 4 ++ (x ++ u)) := by
  obtain ⟨u, rfl⟩ := h
  refine ⟨u, ?_⟩
  unfold pc mrk
  generalize tgo 1 (hdr k x ++ x) = g
  unfold hdr
  simp only [List.append_assoc, List.cons_append, List.nil_append]

theorem pc_inj {k k' : UInt8} {x x' t : List UInt8} (hx : x.length < 256) (hx' : x'.length < 256) (h : pc k x <+: t) (h' : pc k' x' <+: t) : k = k' ∧ x = x' := by
  obtain ⟨u, hu⟩ := pc_front h
  obtain ⟨u', hu'⟩ := pc_front h'
  rw [hu] at hu'
  injection hu' with h1 h2
  injection h2 with h2 h3
  refine ⟨h1, ?_⟩
  have hl : x.length = x'.length := by
    have := congrArg UInt8.toNat h2
    simp only [UInt8.toNat_ofNat'] at this
    omega
  have h4 := (List.append_inj h3 (by rw [be_length, be_length])).2
  exact (List.append_inj h4 hl).1

/-- A body's pieces, the first one of at most r bytes. -/
def lay (r : Nat) (o : Bool) (c : List UInt8) : List UInt8 :=
  if h : c.length ≤ r ∨ r = 0 then pc (pk o true) c else pc (pk o false) (c.take r) ++ lay 122 false (c.drop r)
termination_by c.length
decreasing_by simp; omega

theorem lay_short {r : Nat} {o : Bool} {c : List UInt8} (h : c.length ≤ r) : lay r o c = pc (pk o true) c := by
  rw [lay, dif_pos (Or.inl h)]
theorem lay_long {r : Nat} {o : Bool} {c : List UInt8} (h0 : 0 < r) (h : r < c.length) : lay r o c = pc (pk o false) (c.take r) ++ lay 122 false (c.drop r) := by
  rw [lay, dif_neg (by omega)]
theorem lay_more {r : Nat} {o : Bool} {x c : List UInt8} (h0 : 0 < r) (hx : x.length = r) (hc : c ≠ []) : lay r o (x ++ c) = pc (pk o false) x ++ lay 122 false c := by
  have := List.length_pos_iff.2 hc
  rw [lay_long h0 (by rw [List.length_append]; omega), ← hx, List.take_left, List.drop_left]
theorem lay_length_ge (r : Nat) (o : Bool) (c : List UInt8) : 6 ≤ (lay r o c).length := by
  rw [lay]
  split
  · rw [pc_length]; omega
  · rw [List.length_append, pc_length]; omega

theorem lay_inj : ∀ (n : Nat) (c c' t : List UInt8) (r : Nat) (o : Bool), c.length ≤ n → 0 < r → r ≤ 122 → lay r o c <+: t → lay r o c' <+: t → c = c'
  | n, c, c', t, r, o, hn, h0, hr, h, h' => by
    by_cases hc : c.length ≤ r
    · rw [lay_short hc] at h
      by_cases hc' : c'.length ≤ r
      · rw [lay_short hc'] at h'
        exact (pc_inj (by omega) (by omega) h h').2
      · rw [lay_long h0 (by omega)] at h'
        have := (pc_inj (by omega) (by rw [List.length_take]; omega) h ((List.prefix_append _ _).trans h')).1
        have := (pk_inj this).2
        cases this
    · rw [lay_long h0 (by omega)] at h
      by_cases hc' : c'.length ≤ r
      · rw [lay_short hc'] at h'
        have := (pc_inj (by rw [List.length_take]; omega) (by omega) ((List.prefix_append _ _).trans h) h').1
        have := (pk_inj this).2
        cases this
      · rw [lay_long h0 (by omega)] at h'
        have e := (pc_inj (by rw [List.length_take]; omega) (by rw [List.length_take]; omega) ((List.prefix_append _ _).trans h) ((List.prefix_append _ _).trans h')).2
        rw [← e] at h'
        obtain ⟨u, rfl⟩ := h
        rw [List.append_assoc, List.prefix_append_right_inj] at h'
        match n, hn with
        | 0, hn => omega
        | n + 1, hn =>
          have e2 := lay_inj n (c.drop r) (c'.drop r) _ 122 false (by rw [List.length_drop]; omega) (by omega) (by omega) (List.prefix_append _ u) h'
          rw [← List.take_append_drop r c, e, e2, List.take_append_drop]

/-- How many bytes are left in the block; how many noughts stand ahead of a piece; how long the piece may be. -/
def left (p : Nat) : Nat := 128 - p % 128
def gap (p : Nat) : Nat := if left p < 7 then left p else 0
def rm (p : Nat) : Nat := if left p < 7 then 122 else left p - 6
theorem rm_pos (p : Nat) : 0 < rm p ∧ rm p ≤ 122 := by
  unfold rm left
  split <;> omega
def frm (p : Nat) (o : Bool) (c : List UInt8) : List UInt8 := List.replicate (gap p) 0 ++ lay (rm p) o c
/-- What Put lays behind p bytes. -/
def put (p : Nat) (b : List UInt8) : List UInt8 := frm p true b
theorem frm_length_ge (p : Nat) (o : Bool) (c : List UInt8) : 6 ≤ (frm p o c).length := by
  unfold frm
  rw [List.length_append]
  have := lay_length_ge (rm p) o c
  omega
theorem frm_inj {p : Nat} {o : Bool} {c c' t : List UInt8} (h : frm p o c <+: t) (h' : frm p o c' <+: t) : c = c' := by
  unfold frm at h h'
  obtain ⟨u, rfl⟩ := h
  rw [List.append_assoc, List.prefix_append_right_inj] at h'
  exact lay_inj c.length c c' _ (rm p) o (Nat.le_refl _) (rm_pos p).1 (rm_pos p).2 (List.prefix_append _ u) h'
theorem put_inj {p : Nat} {c c' t : List UInt8} (h : put p c <+: t) (h' : put p c' <+: t) : c = c' := frm_inj h h'
theorem frm_gap (p : Nat) (o : Bool) (c : List UInt8) : frm p o c = List.replicate (gap p) 0 ++ frm (p + gap p) o c := by
  have h1 : gap (p + gap p) = 0 := by
    unfold gap left
    split
    · rw [if_neg (by omega)]
    · rw [Nat.add_zero, if_neg (by assumption)]
  have h2 : rm (p + gap p) = rm p := by
    unfold rm gap left
    split
    · rw [if_neg (by omega)]; omega
    · rw [Nat.add_zero, if_neg (by assumption)]
  unfold frm
  rw [h1, h2]
  rfl
theorem frm_of {p : Nat} (hg : gap p = 0) (o : Bool) (c : List UInt8) : frm p o c = lay (rm p) o c := by
  unfold frm
  rw [hg]
  rfl
theorem at_full {p : Nat} (h : p % 128 = 0) : gap p = 0 ∧ rm p = 122 := by
  unfold gap rm left
  rw [if_neg (by omega), if_neg (by omega)]
  omega
theorem next_full {p : Nat} (hg : gap p = 0) : (p + 6 + rm p) % 128 = 0 ∧ rm p = 122 - p % 128 := by
  unfold gap left at hg
  unfold rm left
  split at hg
  · omega
  · rw [if_neg (by assumption)]
    omega

/-- Records one behind the other. -/
def puts (p : Nat) : List (List UInt8) → List UInt8
  | [] => []
  | b :: l => put p b ++ puts (p + (put p b).length) l
theorem puts_append : ∀ (l m : List (List UInt8)) (p : Nat), puts p (l ++ m) = puts p l ++ puts (p + (puts p l).length) m
  | [], m, p => by simp [puts]
  | b :: l, m, p => by
    rw [List.cons_append, puts, puts_append l m, puts, List.append_assoc, List.length_append, Nat.add_assoc]
theorem puts_snoc (l : List (List UInt8)) (b : List UInt8) : puts 0 (l ++ [b]) = puts 0 l ++ put (puts 0 l).length b := by
  rw [puts_append]
  simp [puts]
theorem puts_comp : ∀ (l m : List (List UInt8)) (p : Nat) (t : List UInt8), puts p l <+: t → puts p m <+: t → l <+: m ∨ m <+: l
  | [], m, p, t, _, _ => Or.inl (List.nil_prefix)
  | b :: l, [], p, t, _, _ => Or.inr (List.nil_prefix)
  | b :: l, d :: m, p, t, h, h' => by
    rw [puts] at h h'
    obtain rfl : b = d := put_inj ((List.prefix_append _ _).trans h) ((List.prefix_append _ _).trans h')
    obtain ⟨u, rfl⟩ := h
    rw [List.append_assoc, List.prefix_append_right_inj] at h'
    rcases puts_comp l m _ _ (List.prefix_append _ u) h' with h1 | h1
    · exact Or.inl ((List.prefix_cons_inj b).2 h1)
    · exact Or.inr ((List.prefix_cons_inj b).2 h1)

/-- The bodies that Scan tells. -/
def Ans (s : List UInt8) (l : List (List UInt8)) : Prop := puts 0 l <+: s ∧ ∀ b, ¬ puts 0 (l ++ [b]) <+: s
theorem Ans.front {s : List UInt8} {l m : List (List UInt8)} (h : Ans s m) (hl : puts 0 l <+: s) : l <+: m := by
  rcases puts_comp l m 0 s hl h.1 with h1 | ⟨r, rfl⟩
  · exact h1
  · cases r with
    | nil => simp
    | cons b r =>
      refine absurd (List.IsPrefix.trans ?_ hl) (h.2 b)
      rw [show m ++ b :: r = (m ++ [b]) ++ r by simp, puts_append (m ++ [b]) r]
      exact List.prefix_append _ _
theorem Ans.unique {s : List UInt8} {l m : List (List UInt8)} (h : Ans s l) (h' : Ans s m) : l = m :=
  (h'.front h.1).eq_of_length_le (h.front h'.1).length_le
theorem Ans.torn (l : List (List UInt8)) (n k : Nat) (hk : (puts 0 (l.take n)).length ≤ k) (hn : n < l.length → k < (puts 0 (l.take (n + 1))).length) : Ans ((puts 0 l).take k) (l.take n) := by
  have e : puts 0 l = puts 0 (l.take n) ++ puts (0 + (puts 0 (l.take n)).length) (l.drop n) := by
    rw [← puts_append, List.take_append_drop]
  refine ⟨?_, fun b hb => ?_⟩
  · rw [e, List.take_append]
    rw [List.take_of_length_le hk]
    exact List.prefix_append _ _
  · have hb2 := hb.trans (List.take_prefix _ _)
    have hlen : (puts 0 (l.take n ++ [b])).length ≤ k := Nat.le_trans hb.length_le (by rw [List.length_take]; exact Nat.min_le_left _ _)
    by_cases hl : n < l.length
    · have h3 : puts 0 (l.take (n + 1)) <+: puts 0 l := by
        have : puts 0 l = puts 0 (l.take (n + 1)) ++ puts (0 + (puts 0 (l.take (n + 1))).length) (l.drop (n + 1)) := by
          rw [← puts_append, List.take_append_drop]
        rw [this]
        exact List.prefix_append _ _
      have h4 := hn hl
      rw [List.take_succ_eq_append_getElem hl] at h3 h4
      rw [puts_snoc] at hb2 h3 hlen h4
      obtain ⟨u, hu⟩ := h3
      rw [← hu, List.append_assoc, List.prefix_append_right_inj] at hb2
      rw [put_inj hb2 (List.prefix_append _ u)] at hlen
      omega
    · rw [List.take_of_length_le (by omega)] at hb2
      have h3 := hb2.length_le
      rw [puts_snoc, List.length_append] at h3
      have := frm_length_ge (puts 0 l).length true b
      unfold put at h3
      omega
theorem Ans.all (l : List (List UInt8)) : Ans (puts 0 l) l := by
  have := Ans.torn l l.length (puts 0 l).length (by rw [List.take_length]; exact Nat.le_refl _) (fun h => absurd h (by omega))
  rw [List.take_length, List.take_length] at this
  exact this

/-- A piece that may stand where r bytes of a body have room. -/
def Fit (t : List UInt8) (r : Nat) (o : Bool) (x : List UInt8) (e : Bool) : Prop :=
  pc (pk o e) x <+: t ∧ x.length ≤ r ∧ (e = false → x.length = r) ∧ (o = false → e = true → x ≠ [])

theorem lay_fit {r : Nat} {o : Bool} {c t : List UInt8} (h0 : 0 < r) (hc : o = false → c ≠ []) (h : lay r o c <+: t) :
    (Fit t r o c true) ∨ (∃ x d, Fit t r o x false ∧ c = x ++ d ∧ d ≠ []) := by
  by_cases hl : c.length ≤ r
  · rw [lay_short hl] at h
    exact Or.inl ⟨h, hl, fun e => (by cases e), fun ho _ => hc ho⟩
  · rw [lay_long h0 (by omega)] at h
    refine Or.inr ⟨c.take r, c.drop r, ⟨(List.prefix_append _ _).trans h, ?_, fun _ => ?_, fun _ e => by cases e⟩, (List.take_append_drop r c).symm, ?_⟩
    · rw [List.length_take]; omega
    · rw [List.length_take]; omega
    · intro e
      have := congrArg List.length e
      rw [List.length_drop] at this
      simp at this
      omega

/-- Where a scan stands: good is q, it has come to p, the pieces so far are a. -/
structure Scn (s : List UInt8) (q p : Nat) (o : Bool) (a : List UInt8) : Prop where
  le : q ≤ p
  pl : p ≤ s.length
  al : o = false → p % 128 = 0
  eq : ∀ c, (o = false → c ≠ []) → put q (a ++ c) = (s.drop q).take (p - q) ++ frm p o c
  only : ∀ b, put q b <+: s.drop q → ∃ c, b = a ++ c ∧ (o = false → c ≠ [])

theorem Scn.start {s : List UInt8} {q : Nat} (h : q ≤ s.length) : Scn s q q true [] :=
  ⟨Nat.le_refl _, h, fun e => (by cases e), fun c _ => by rw [Nat.sub_self]; rfl, fun b _ => ⟨b, rfl, fun e => by cases e⟩⟩
section
variable {s : List UInt8} {q p : Nat} {o : Bool} {a : List UInt8}
theorem Scn.split (h : Scn s q p o a) : s.drop q = (s.drop q).take (p - q) ++ s.drop p := by
  have h1 := h.le
  have e : s.drop p = (s.drop q).drop (p - q) := by rw [List.drop_drop]; congr 1; omega
  rw [e, List.take_append_drop]
theorem Scn.has (h : Scn s q p o a) {b : List UInt8} (hb : put q b <+: s.drop q) : ∃ c, b = a ++ c ∧ (o = false → c ≠ []) ∧ frm p o c <+: s.drop p := by
  obtain ⟨c, rfl, hc⟩ := h.only b hb
  refine ⟨c, rfl, hc, ?_⟩
  rw [h.eq c hc, h.split, List.take_left' (by rw [List.length_take, List.length_drop]; have := h.pl; have := h.le; omega), List.prefix_append_right_inj] at hb
  exact hb
theorem Scn.take_more (h : Scn s q p o a) {z : List UInt8} (hz : z <+: s.drop p) : (s.drop q).take (p + z.length - q) = (s.drop q).take (p - q) ++ z := by
  have h1 := h.le
  have h2 := h.pl
  obtain ⟨u, hu⟩ := hz
  have e : s.drop q = (s.drop q).take (p - q) ++ (z ++ u) := by rw [hu]; exact h.split
  have hl : ((s.drop q).take (p - q)).length = p - q := by rw [List.length_take, List.length_drop]; omega
  have e2 : (s.drop q).take (p + z.length - q) = ((s.drop q).take (p - q) ++ (z ++ u)).take (p + z.length - q) := by rw [← e]
  rw [e2, List.take_append, hl, List.take_of_length_le (by omega), show p + z.length - q - (p - q) = z.length from by omega, List.take_left]
theorem Scn.zero (h : Scn s q p o a) (ho : o = true) (hz : List.replicate (gap p) 0 <+: s.drop p) : Scn s q (p + gap p) o a := by
  have hl := hz.length_le
  rw [List.length_replicate, List.length_drop] at hl
  have h1 := h.pl
  have h2 := h.le
  refine ⟨by omega, by omega, fun e => (by rw [ho] at e; cases e), fun c hc => ?_, h.only⟩
  have e := h.take_more hz
  rw [List.length_replicate] at e
  rw [h.eq c hc, e, frm_gap p, List.append_assoc]
theorem Scn.piece (h : Scn s q p o a) (hg : gap p = 0) {x : List UInt8} (f : Fit (s.drop p) (rm p) o x false) : Scn s q (p + 6 + x.length) false (a ++ x) := by
  obtain ⟨f1, f2, f3, f4⟩ := f
  have hx := f3 rfl
  have hr := rm_pos p
  have hl := f1.length_le
  rw [pc_length, List.length_drop] at hl
  have h1 := h.pl
  have h2 := h.le
  have hn := (next_full hg).1
  rw [← hx] at hn
  refine ⟨by omega, by omega, fun _ => hn, fun c hc => ?_, fun b hb => ?_⟩
  · have hc := hc rfl
    have e := h.take_more f1
    rw [pc_length, ← Nat.add_assoc] at e
    rw [List.append_assoc, h.eq (x ++ c) (fun _ => by simp [hc]), e, frm_of hg, lay_more hr.1 hx hc, frm_of (at_full hn).1, (at_full hn).2, List.append_assoc]
  · obtain ⟨c, rfl, hc, hf⟩ := h.has hb
    rw [frm_of hg] at hf
    rcases lay_fit hr.1 hc hf with g | ⟨x', d, g, rfl, hd⟩
    · have := (pc_inj (by omega) (by have := g.2.1; omega) f1 g.1).1
      have := (pk_inj this).2
      cases this
    · have := (pc_inj (by omega) (by have := g.2.1; omega) f1 g.1).2
      subst this
      exact ⟨d, by simp, fun _ => hd⟩
theorem Scn.done (h : Scn s q p o a) (hg : gap p = 0) {x : List UInt8} (f : Fit (s.drop p) (rm p) o x true) : put q (a ++ x) <+: s.drop q ∧ q + (put q (a ++ x)).length = p + 6 + x.length := by
  obtain ⟨f1, f2, f3, f4⟩ := f
  have h1 := h.pl
  have h2 := h.le
  have e : put q (a ++ x) = (s.drop q).take (p - q) ++ pc (pk o true) x := by
    rw [h.eq x (fun ho => f4 ho rfl), frm_of hg, lay_short f2]
  refine ⟨?_, ?_⟩
  · rw [e, h.split, List.take_left' (by rw [List.length_take, List.length_drop]; omega), List.prefix_append_right_inj]
    exact f1
  · rw [e, List.length_append, List.length_take, List.length_drop, pc_length]
    omega
theorem Scn.stop (h : Scn s q p o a) (hg : gap p = 0) (hf : ∀ x e, ¬ Fit (s.drop p) (rm p) o x e) (b : List UInt8) : ¬ put q b <+: s.drop q := by
  intro hb
  obtain ⟨c, rfl, hc, hf2⟩ := h.has hb
  rw [frm_of hg] at hf2
  rcases lay_fit (rm_pos p).1 hc hf2 with g | ⟨x', d, g, rfl, hd⟩
  · exact hf _ _ g
  · exact hf _ _ g
theorem Scn.stopZ (h : Scn s q p o a) (hz : ¬ List.replicate (gap p) 0 <+: s.drop p) (b : List UInt8) : ¬ put q b <+: s.drop q := by
  intro hb
  obtain ⟨c, rfl, hc, hf2⟩ := h.has hb
  exact hz ((List.prefix_append _ _).trans hf2)
theorem Scn.stopEnd (h : Scn s q p o a) (hp : s.length ≤ p) (b : List UInt8) : ¬ put q b <+: s.drop q := by
  intro hb
  obtain ⟨c, rfl, hc, hf2⟩ := h.has hb
  have h1 := hf2.length_le
  have h2 := frm_length_ge p o c
  rw [List.length_drop] at h1
  omega
end
/-- From good to the bodies. -/
theorem ans_of {s : List UInt8} {l : List (List UInt8)} (h : puts 0 l <+: s) (hb : ∀ b, ¬ put (puts 0 l).length b <+: s.drop (puts 0 l).length) : Ans s l := by
  refine ⟨h, fun b h2 => hb b ?_⟩
  obtain ⟨u, rfl⟩ := h
  rw [puts_snoc, List.prefix_append_right_inj] at h2
  rw [List.drop_left]
  exact h2
theorem puts_more {s : List UInt8} {l : List (List UInt8)} {b : List UInt8} (h : puts 0 l <+: s) (hb : put (puts 0 l).length b <+: s.drop (puts 0 l).length) : puts 0 (l ++ [b]) <+: s := by
  obtain ⟨u, rfl⟩ := h
  rw [List.drop_left] at hb
  rw [puts_snoc, List.prefix_append_right_inj]
  exact hb
theorem puts_snoc_length (l : List (List UInt8)) (b : List UInt8) : (puts 0 (l ++ [b])).length = (puts 0 l).length + (put (puts 0 l).length b).length := by
  rw [puts_snoc, List.length_append]
end Go.Proofs.Ytcihgnkmikhboaa
