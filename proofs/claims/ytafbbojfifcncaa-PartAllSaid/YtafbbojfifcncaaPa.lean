/-
  Partitions (plain): joined; many of them joined in any order; what is seen.
-/
import Derived.Test.YtafbbojfifcncaaMg
import Derived.Test.YtafbbojfifcncaaRw2
set_option linter.unusedVariables false
set_option linter.unusedSimpArgs false
namespace Go.Proofs.Ytafbbojfifcncaa
open Go Go.RowKit

/-- Joins that are one way, however ordered and however often (GENERAL). -/
structure SL {α : Type} (jn : α → α → α) (G : α → Prop) : Prop where
  good : ∀ {x y}, G x → G y → G (jn x y)
  comm : ∀ {x y}, G x → G y → jn x y = jn y x
  assoc : ∀ {x y z}, G x → G y → G z → jn (jn x y) z = jn x (jn y z)
  self : ∀ {x}, G x → jn x x = x
section
variable {α : Type} {jn : α → α → α} {G : α → Prop}
theorem SL.has_more (S : SL jn G) {z x w : α} (gz : G z) (gx : G x) (gw : G w) (h : jn z x = z) : jn (jn z w) x = jn z w := by
  rw [S.assoc gz gw gx, S.comm gw gx, ← S.assoc gz gx gw, h]
theorem SL.has_last (S : SL jn G) {z w : α} (gz : G z) (gw : G w) : jn (jn z w) w = jn z w := by
  rw [S.assoc gz gw gw, S.self gw]
theorem SL.has_of (S : SL jn G) {z x y : α} (gz : G z) (gx : G x) (gy : G y) (h : jn z x = z) (h' : jn z y = z) : jn z (jn x y) = z := by
  rw [← S.assoc gz gx gy, h, h']
theorem SL.has_anti (S : SL jn G) {x y : α} (gx : G x) (gy : G y) (h : jn x y = x) (h' : jn y x = y) : x = y := by
  rw [← h, S.comm gx gy, h']
/-- From the first on, each behind. -/
def manyJ (jn : α → α → α) (l : Nat → α) : Nat → α
  | 0 => l 0
  | i + 1 => jn (manyJ jn l i) (l (i + 1))
/-- From the c-th on, round, each before. -/
def turnJ (jn : α → α → α) (l : Nat → α) (c k : Nat) : Nat → α
  | 0 => l c
  | i + 1 => jn (l ((c + (i + 1)) % k)) (turnJ jn l c k i)
theorem SL.many_good (S : SL jn G) {l : Nat → α} : ∀ {n : Nat}, (∀ i, i ≤ n → G (l i)) → G (manyJ jn l n)
  | 0, h => h 0 (Nat.le_refl _)
  | n + 1, h => S.good (S.many_good fun i hi => h i (by omega)) (h (n + 1) (Nat.le_refl _))
theorem SL.many_has (S : SL jn G) {l : Nat → α} : ∀ {n : Nat}, (∀ i, i ≤ n → G (l i)) → ∀ t, t ≤ n → jn (manyJ jn l n) (l t) = manyJ jn l n
  | 0, h, t, ht => by
    obtain rfl : t = 0 := by omega
    exact S.self (h 0 (Nat.le_refl _))
  | n + 1, h, t, ht => by
    have gm := S.many_good (l := l) (n := n) fun i hi => h i (by omega)
    by_cases e : t = n + 1
    · subst e
      exact S.has_last gm (h _ (Nat.le_refl _))
    · exact S.has_more gm (h t (by omega)) (h _ (Nat.le_refl _)) (S.many_has (fun i hi => h i (by omega)) t (by omega))
theorem SL.many_of (S : SL jn G) {l : Nat → α} {z : α} (gz : G z) : ∀ {n : Nat}, (∀ i, i ≤ n → G (l i)) → (∀ i, i ≤ n → jn z (l i) = z) → jn z (manyJ jn l n) = z
  | 0, h, hz => hz 0 (Nat.le_refl _)
  | n + 1, h, hz => S.has_of gz (S.many_good fun i hi => h i (by omega)) (h _ (Nat.le_refl _)) (S.many_of gz (fun i hi => h i (by omega)) fun i hi => hz i (by omega)) (hz _ (Nat.le_refl _))
theorem SL.turn_good (S : SL jn G) {l : Nat → α} {c k : Nat} (hc : c < k) (h : ∀ i, i < k → G (l i)) : ∀ n, G (turnJ jn l c k n)
  | 0 => h c hc
  | n + 1 => S.good (h _ (Nat.mod_lt _ (by omega))) (S.turn_good hc h n)
theorem SL.turn_has (S : SL jn G) {l : Nat → α} {c k : Nat} (hc : c < k) (h : ∀ i, i < k → G (l i)) : ∀ n t, t ≤ n → jn (turnJ jn l c k n) (l ((c + t) % k)) = turnJ jn l c k n
  | 0, t, ht => by
    obtain rfl : t = 0 := by omega
    rw [Nat.add_zero, Nat.mod_eq_of_lt hc]
    exact S.self (h c hc)
  | n + 1, t, ht => by
    have gt := S.turn_good hc h n
    have gn : G (l ((c + (n + 1)) % k)) := h _ (Nat.mod_lt _ (by omega))
    have gx : G (l ((c + t) % k)) := h _ (Nat.mod_lt _ (by omega))
    show jn (jn (l ((c + (n + 1)) % k)) (turnJ jn l c k n)) (l ((c + t) % k)) = jn (l ((c + (n + 1)) % k)) (turnJ jn l c k n)
    rw [S.comm gn gt]
    by_cases e : t = n + 1
    · subst e
      exact S.has_last gt gn
    · exact S.has_more gt gx gn (S.turn_has hc h n t (by omega))
theorem SL.turn_of (S : SL jn G) {l : Nat → α} {c k : Nat} (hc : c < k) (h : ∀ i, i < k → G (l i)) {z : α} (gz : G z) (hz : ∀ i, i < k → jn z (l i) = z) : ∀ n, jn z (turnJ jn l c k n) = z
  | 0 => hz c hc
  | n + 1 => S.has_of gz (h _ (Nat.mod_lt _ (by omega))) (S.turn_good hc h n) (hz _ (Nat.mod_lt _ (by omega))) (S.turn_of hc h gz hz n)
/-- All of them, from the first on or from any on, round: the same. -/
theorem SL.many_turn (S : SL jn G) {l : Nat → α} {c k : Nat} (hc : c < k) (h : ∀ i, i < k → G (l i)) : manyJ jn l (k - 1) = turnJ jn l c k (k - 1) := by
  have h' : ∀ i, i ≤ k - 1 → G (l i) := fun i hi => h i (by omega)
  refine S.has_anti (S.many_good h') (S.turn_good hc h _) ?_ ?_
  · exact S.turn_of hc h (S.many_good h') (fun i hi => S.many_has h' i (by omega)) _
  · refine S.many_of (S.turn_good hc h _) h' fun i hi => ?_
    have ht : ∃ t, t ≤ k - 1 ∧ (c + t) % k = i := by
      by_cases e : c ≤ i
      · exact ⟨i - c, by omega, by rw [show c + (i - c) = i by omega, Nat.mod_eq_of_lt (by omega)]⟩
      · exact ⟨i + k - c, by omega, by rw [show c + (i + k - c) = i + k by omega, Nat.add_mod_right, Nat.mod_eq_of_lt (by omega)]⟩
    obtain ⟨t, ht, rfl⟩ := ht
    exact S.turn_has hc h _ t ht
/-- Of few keys there are few. -/
theorem riseK_few {key : α → ByteArray} : ∀ {l : List α} {ks : List ByteArray}, RiseK key l → (∀ x ∈ l, key x ∈ ks) → l.length ≤ ks.length
  | [], ks, _, _ => Nat.zero_le _
  | x :: l, ks, h, hk => by
    have hx : key x ∈ ks := hk x (List.mem_cons_self ..)
    have ih := riseK_few (l := l) (ks := ks.filter fun k => decide (k ≠ key x)) h.2 fun y hy => List.mem_filter.2 ⟨hk y (List.mem_cons_of_mem _ hy), decide_eq_true_iff.2 (nlt_ne (h.1 y hy)).symm⟩
    have hlt : (ks.filter fun k => decide (k ≠ key x)).length < ks.length := List.length_filter_lt_length_iff_exists.2 ⟨key x, hx, by simp⟩
    rw [List.length_cons]
    omega
end

theorem JR : JK Ro.key Ro.join Ro.Up where
  key_ := fun x y _ => rfl
  good := fun hx hy _ => hx.join hy
  comm := fun hx hy e => ro_comm e hx hy
  assoc := fun hx hy hz _ _ => ro_assoc hx hy hz
  self := fun hx => ro_self hx
abbrev Rows := List Ro
abbrev RiseR (l : Rows) : Prop := RiseK Ro.key l
abbrev mrgR (l k : Rows) : Rows := mrgK Ro.key Ro.join l k
/-- A partition: key, gone, rows. -/
structure Pa where
  key : ByteArray
  gone : Int
  rows : Rows
def Pa.join (a b : Pa) : Pa := ⟨a.key, max a.gone b.gone, mrgR a.rows b.rows⟩
structure Pa.Up (p : Pa) : Prop where
  rise : RiseR p.rows
  up : AllK Ro.Up p.rows
theorem Pa.Up.join {a b : Pa} (ha : a.Up) (hb : b.Up) : (a.join b).Up := ⟨mrgK_rise JR.key_ ha.rise, AllK.mrg JR ha.up hb.up⟩
theorem pa_comm {a b : Pa} (hk : a.key = b.key) (ha : a.Up) (hb : b.Up) : a.join b = b.join a := by
  unfold Pa.join mrgR
  rw [hk, Int.max_comm a.gone, mrgK_comm JR ha.rise ha.up hb.rise hb.up]
theorem pa_assoc {a b c : Pa} (ha : a.Up) (hb : b.Up) (hc : c.Up) : (a.join b).join c = a.join (b.join c) := by
  unfold Pa.join mrgR
  simp only
  rw [Int.max_assoc, mrgK_assoc JR ha.rise ha.up hb.rise hb.up hc.rise hc.up]
theorem pa_self {a : Pa} (ha : a.Up) : a.join a = a := by
  unfold Pa.join mrgR
  rw [Int.max_self, mrgK_self JR ha.rise ha.up]
theorem pa_sl (k : ByteArray) : SL Pa.join fun p => p.key = k ∧ p.Up where
  good := fun hx hy => ⟨hx.1, hx.2.join hy.2⟩
  comm := fun hx hy => pa_comm (hx.1.trans hy.1.symm) hx.2 hy.2
  assoc := fun hx hy hz => pa_assoc hx.2 hy.2 hz.2
  self := fun hx => pa_self hx.2
/-- What is seen of a row, of rows. -/
def Ro.isD (r : Ro) (p now : Int) (strict : Bool) : Bool := Go.Proofs.Ytafbbojfifcncaa.isD r.live r.gone r.shade p now r.cols strict
def Ro.seenD (r : Ro) (p now : Int) : Ro := ⟨r.key, r.live, 0, 0, Go.Proofs.Ytafbbojfifcncaa.seenD (max r.gone p) now r.cols⟩
def seenR (p now : Int) (strict : Bool) (l : Rows) : Rows := (l.filter fun r => r.isD p now strict).map fun r => r.seenD p now
theorem seenR_length (p now : Int) (strict : Bool) (l : Rows) : (seenR p now strict l).length ≤ l.length := by
  unfold seenR
  rw [List.length_map]
  exact List.length_filter_le ..
theorem seenR_snoc (p now : Int) (strict : Bool) (l : Rows) (r : Ro) : seenR p now strict (l ++ [r]) = if r.isD p now strict = true then seenR p now strict l ++ [r.seenD p now] else seenR p now strict l := by
  unfold seenR
  rw [List.filter_append, List.map_append]
  cases h : r.isD p now strict <;> simp [h]
/-- Later no more. -/
theorem ce_later {c : Ce} {now t : Int} (ht : now ≤ t) (h : c.seen t = true) : c.seen now = true := by
  unfold Ce.seen at h ⊢
  simp only [Bool.and_eq_true, Bool.or_eq_true, decide_eq_true_iff] at h ⊢
  exact ⟨h.1, h.2.1, h.2.2.elim Or.inl fun h => Or.inr (by omega)⟩
theorem isD_later {c : Ce} {g h p now t : Int} {l : Cols} {strict : Bool} (ht : now ≤ t) (hi : isD c g h p t l strict = true) : isD c g h p now l strict = true := by
  unfold isD at hi ⊢
  simp only [Bool.and_eq_true, Bool.or_eq_true, decide_eq_true_iff] at hi ⊢
  refine hi.imp (fun h1 => ⟨ce_later ht h1.1, h1.2⟩) fun h1 => ⟨h1.1, ?_⟩
  obtain ⟨x, hx⟩ := List.exists_mem_of_length_pos h1.2
  refine List.length_pos_of_mem (a := x) ?_
  unfold seenD at hx ⊢
  rw [List.mem_filter] at hx ⊢
  rw [Bool.and_eq_true] at hx ⊢
  exact ⟨hx.1, hx.2.1, ce_later ht hx.2.2⟩
theorem seenR_later {p now t : Int} {strict : Bool} {l : Rows} (ht : now ≤ t) : (seenR p t strict l).length ≤ (seenR p now strict l).length := by
  unfold seenR
  rw [List.length_map, List.length_map]
  induction l with
  | nil => exact Nat.le_refl _
  | cons r l ih =>
    rw [List.filter_cons, List.filter_cons]
    cases h : r.isD p t strict with
    | true =>
      have h' : r.isD p now strict = true := isD_later ht h
      rw [h']
      simpa using ih
    | false =>
      cases h' : r.isD p now strict with
      | true => rw [if_neg (by decide), if_pos rfl, List.length_cons]; omega
      | false => simpa using ih
end Go.Proofs.Ytafbbojfifcncaa
