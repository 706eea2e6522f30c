/-
  Plain cells: how they compare. No program is named here.
-/
import Derived.Test.YthfanonjokpflaaGreatPlc
set_option linter.unusedVariables false
namespace Go.Proofs.YthfanonjokpflaaGreat
open Go Go.RowKit

/-- A cell: value, dead, stamp, end. -/
structure Ce where
  s : ByteArray
  d : Bool
  a : Int
  e : Int

def icmp (x y : Int) : Int := if x < y then -1 else if y < x then 1 else 0
def bcmp (x y : Bool) : Int := if x = y then 0 else if x = true then 1 else -1
def tcmp (s t : ByteArray) : Int := if s.data.toList < t.data.toList then -1 else if t.data.toList < s.data.toList then 1 else 0
def lexI (x y : Int) : Int := if x = 0 then y else x
def Ce.cmp (x y : Ce) : Int := lexI (icmp x.a y.a) (lexI (bcmp x.d y.d) (lexI (tcmp x.s y.s) (lexI (bcmp (x.e == 0) (y.e == 0)) (icmp x.e y.e))))
def Ce.v (c : Ce) : Value := .agg #[.string c.s, .bool c.d, .int .i64 c.a, .int .i64 c.e]
def Ce.join (x y : Ce) : Ce := if x.cmp y < 0 then y else x
def Ce.same (x y : Ce) : Bool := x.s.toList == y.s.toList && (x.d == y.d && (x.a == y.a && x.e == y.e))

/-- An order, told by a number below, at or above 0. -/
structure Tot {α : Type} (f : α → α → Int) : Prop where
  anti : ∀ x y, f y x = -f x y
  trans : ∀ x y z, f x y ≤ 0 → f y z ≤ 0 → f x z ≤ 0
  cong : ∀ x y z, f x y = 0 → f x z = f y z
  low : ∀ x y, -1 ≤ f x y
theorem icmp_zero {x y : Int} : icmp x y = 0 ↔ x = y := by unfold icmp; omega
theorem icmp_tot : Tot icmp :=
  ⟨fun x y => by unfold icmp; omega, fun x y z => by unfold icmp; omega, fun x y z h => by rw [icmp_zero.1 h], fun x y => by unfold icmp; omega⟩
theorem bcmp_zero {x y : Bool} : bcmp x y = 0 ↔ x = y := by cases x <;> cases y <;> decide
theorem bcmp_tot : Tot bcmp :=
  ⟨by decide, by decide, fun x y z h => by rw [bcmp_zero.1 h], by decide⟩
theorem lt_irr' (l : List UInt8) : ¬ l < l := List.lt_irrefl l
theorem lt_tr {l m n : List UInt8} (h : l < m) (h' : m < n) : l < n := List.lt_trans h h'
theorem lt_or {l m : List UInt8} (h : ¬ l < m) (h' : ¬ m < l) : l = m := List.le_antisymm (List.not_lt.1 h') (List.not_lt.1 h)
theorem tcmp_zero {x y : ByteArray} : tcmp x y = 0 ↔ x = y := by
  unfold tcmp
  constructor
  · intro h
    split at h
    · cases h
    · split at h
      · cases h
      · exact ba_ext (lt_or ‹_› ‹_›)
  · rintro rfl
    rw [if_neg (lt_irr' _), if_neg (lt_irr' _)]
theorem tcmp_le {x y : ByteArray} : tcmp x y ≤ 0 ↔ ¬ y.data.toList < x.data.toList := by
  unfold tcmp
  split
  · rename_i h
    exact ⟨fun _ h' => lt_irr' _ (lt_tr h h'), fun _ => by decide⟩
  · split
    · rename_i h
      exact ⟨fun h' => absurd h' (by decide), fun h' => absurd h h'⟩
    · rename_i h
      exact ⟨fun _ => h, fun _ => by decide⟩
theorem tcmp_tot : Tot tcmp := by
  refine ⟨fun x y => ?_, fun x y z h h' => ?_, fun x y z h => by rw [tcmp_zero.1 h], fun x y => ?_⟩
  · unfold tcmp
    by_cases h1 : x.data.toList < y.data.toList
    · rw [if_pos h1, if_neg fun h' => lt_irr' _ (lt_tr h1 h'), if_pos h1]
      rfl
    · by_cases h2 : y.data.toList < x.data.toList
      · rw [if_pos h2, if_neg h1, if_pos h2]
      · rw [if_neg h1, if_neg h2, if_neg h2, if_neg h1]
        rfl
  · rw [tcmp_le] at *
    intro hzx
    by_cases hxy : x.data.toList < y.data.toList
    · exact h' (lt_tr hzx hxy)
    · exact h' ((lt_or hxy h) ▸ hzx)
  · unfold tcmp; split
    · decide
    · split <;> decide
theorem Tot.on {α β : Type} {f : α → α → Int} (h : Tot f) (p : β → α) : Tot fun x y => f (p x) (p y) :=
  ⟨fun _ _ => h.anti _ _, fun _ _ _ => h.trans _ _ _, fun _ _ _ => h.cong _ _ _, fun _ _ => h.low _ _⟩
theorem Tot.lex {α : Type} {f g : α → α → Int} (hf : Tot f) (hg : Tot g) : Tot fun x y => lexI (f x y) (g x y) := by
  refine ⟨fun x y => ?_, fun x y z => ?_, fun x y z => ?_, fun x y => ?_⟩
  · have := hf.anti x y; have := hg.anti x y; simp only [lexI]; split <;> split <;> omega
  · intro h h'
    simp only [lexI] at h h' ⊢
    have f1 : f x y ≤ 0 := by split at h <;> omega
    have f2 : f y z ≤ 0 := by split at h' <;> omega
    have f3 := hf.trans _ _ _ f1 f2
    split
    · rename_i e
      have e1 := hf.cong _ _ y e
      have e2 := hf.anti y z
      have e3 : f x y = 0 := by omega
      have e4 := hf.cong _ _ z e3
      rw [if_pos e3] at h
      rw [if_pos (by omega)] at h'
      exact hg.trans _ _ _ h h'
    · exact f3
  · intro h
    simp only [lexI] at h ⊢
    have f1 : f x y = 0 := by split at h <;> omega
    rw [if_pos f1] at h
    rw [hf.cong _ _ z f1, hg.cong _ _ z h]
  · have := hf.low x y; have := hg.low x y; simp only [lexI]; split <;> omega

theorem lexI_zero {x y : Int} : lexI x y = 0 ↔ x = 0 ∧ y = 0 := by unfold lexI; split <;> omega
theorem cmp_tot : Tot Ce.cmp :=
  (icmp_tot.on Ce.a).lex ((bcmp_tot.on Ce.d).lex ((tcmp_tot.on Ce.s).lex ((bcmp_tot.on fun c => c.e == 0).lex (icmp_tot.on Ce.e))))
theorem cmp_zero {x y : Ce} : x.cmp y = 0 ↔ x = y := by
  unfold Ce.cmp
  rw [lexI_zero, lexI_zero, lexI_zero, lexI_zero, icmp_zero, bcmp_zero, tcmp_zero, icmp_zero, bcmp_zero]
  constructor
  · rintro ⟨h1, h2, h3, _, h5⟩
    cases x; cases y; simp_all
  · rintro rfl
    simp
theorem cmp_self (x : Ce) : x.cmp x = 0 := cmp_zero.2 rfl
theorem same_iff (x y : Ce) : x.same y = true ↔ x = y := by
  unfold Ce.same
  rw [Bool.and_eq_true, Bool.and_eq_true, Bool.and_eq_true, beq_iff_eq, beq_iff_eq, beq_iff_eq, beq_iff_eq, Lib.toList_data, Lib.toList_data]
  constructor
  · rintro ⟨h1, h2, h3, h4⟩
    have := ba_ext h1
    cases x; cases y; simp_all
  · rintro rfl
    simp
theorem same_eq {x y : Ce} (h : x = y) : x.same y = true := (same_iff _ _).2 h

/-- What is joined is above both, and one of them. -/
theorem join_or (x y : Ce) : x.join y = x ∨ x.join y = y := by unfold Ce.join; split <;> simp
theorem join_le (x y : Ce) : x.cmp (x.join y) ≤ 0 ∧ y.cmp (x.join y) ≤ 0 := by
  unfold Ce.join
  have := cmp_tot.anti x y
  have := cmp_self x
  have := cmp_self y
  split <;> omega
theorem cmp_anti (x y : Ce) (h : x.cmp y ≤ 0) (h' : y.cmp x ≤ 0) : x = y := by
  have := cmp_tot.anti x y
  exact cmp_zero.1 (by omega)
theorem join_least (x y z : Ce) (h : x.cmp z ≤ 0) (h' : y.cmp z ≤ 0) : (x.join y).cmp z ≤ 0 := by
  rcases join_or x y with e | e <;> rw [e] <;> assumption
theorem join_comm (x y : Ce) : x.join y = y.join x :=
  cmp_anti _ _ (join_least _ _ _ (join_le y x).2 (join_le y x).1) (join_least _ _ _ (join_le x y).2 (join_le x y).1)
theorem join_assoc (x y z : Ce) : (x.join y).join z = x.join (y.join z) := by
  have t := cmp_tot.trans
  refine cmp_anti _ _ (join_least _ _ _ (join_least _ _ _ (join_le _ _).1 ?_) ?_) (join_least _ _ _ ?_ (join_least _ _ _ ?_ ?_))
  · exact t _ _ _ (join_le y z).1 (join_le _ _).2
  · exact t _ _ _ (join_le y z).2 (join_le _ _).2
  · exact t _ _ _ (join_le x y).1 (join_le _ _).1
  · exact t _ _ _ (join_le x y).2 (join_le _ _).1
  · exact (join_le _ _).2
theorem join_self (x : Ce) : x.join x = x := (join_or x x).elim id id
end Go.Proofs.YthfanonjokpflaaGreat
