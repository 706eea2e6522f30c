/-
  PartJoins: for every input the law returns true, and each argument reads as it read. No condition.
-/
import Derived.Lib.BitFns
import Derived.Lib.ItoaNum
import Derived.Test.YtafbbojfifcncaaProg
import Derived.WalkKit
import Derived.BigCall
import Derived.Lib.Hide
import Derived.ArgAppend
import Derived.Deep.AppendLies
import Derived.Lib.UnsafeStr
import Derived.Lib.BufferWrite
import Derived.Laws.IdiomStrings
import Derived.Laws.BytesArg
import Derived.Test.YtafbbojfifcncaaPlc
import Derived.Laws.Bits64
import Derived.LoopTactic
import Derived.Outline
import Derived.WalkSpells
import Derived.Test.YtafbbojfifcncaaPk
import Derived.Test.YtafbbojfifcncaaNx5
import Derived.Test.YtafbbojfifcncaaRoU
import Derived.Test.YtafbbojfifcncaaRoL
import Derived.Test.YtafbbojfifcncaaPp
import Derived.Test.YtafbbojfifcncaaPo
import Derived.Test.YtafbbojfifcncaaPd3
import Derived.Test.YtafbbojfifcncaaPd7
import Derived.Test.YtafbbojfifcncaaRw2
import Derived.Lib.SmallJoins
import Derived.Deep.DeepCutAuto
import Derived.Deep.CutBlock
import Derived.Deep.RegionWith
import Derived.ProofKit
import Derived.OpenShut
import Derived.ChangeOld
import Derived.Carry
import Derived.Test.YtafbbojfifcncaaCeZ
import Derived.Test.YtafbbojfifcncaaRows
import Derived.ShutString
import Derived.Below
set_option linter.unusedVariables false
namespace Go.Proofs.Ytafbbojfifcncaa
open Go

/-- The lowest n bytes of v, the highest first. -/
def be (v : Nat) : Nat → List UInt8
  | 0 => []
  | n + 1 => UInt8.ofNat (v / 256 ^ n) :: be v n
theorem be_length (v : Nat) : ∀ n, (be v n).length = n
  | 0 => rfl
  | n + 1 => by rw [be, List.length_cons, be_length v n]

/-- The number that bytes are, the highest first. -/
def vlF (a : Nat) (l : List UInt8) : Nat := l.foldl (fun a c => a * 256 + c.toNat) a
def vl (l : List UInt8) : Nat := vlF 0 l
theorem vlF_cons (a : Nat) (c : UInt8) (l : List UInt8) : vlF a (c :: l) = vlF (a * 256 + c.toNat) l := rfl
theorem vlF_eq : ∀ (l : List UInt8) (a : Nat), vlF a l = a * 256 ^ l.length + vl l
  | [], a => by simp [vlF, vl]
  | c :: l, a => by
    rw [vlF_cons, vlF_eq l, show vl (c :: l) = vlF (0 * 256 + c.toNat) l from rfl, vlF_eq l (0 * 256 + c.toNat), List.length_cons, Nat.pow_succ]
    rw [Nat.add_mul, Nat.zero_mul, Nat.zero_add, Nat.mul_assoc, Nat.mul_comm 256, Nat.add_assoc]
theorem vl_snoc (l : List UInt8) (c : UInt8) : vl (l ++ [c]) = vl l * 256 + c.toNat := by
  unfold vl vlF
  rw [List.foldl_append]
  rfl
theorem vl_cons (c : UInt8) (l : List UInt8) : vl (c :: l) = c.toNat * 256 ^ l.length + vl l := by
  rw [show vl (c :: l) = vlF (0 * 256 + c.toNat) l from rfl, vlF_eq, Nat.zero_mul, Nat.zero_add]
theorem vl_lt : ∀ l : List UInt8, vl l < 256 ^ l.length
  | [] => by simp [vl, vlF]
  | c :: l => by
    have h1 := vl_lt l
    have h2 := c.toNat_lt
    rw [vl_cons, List.length_cons, Nat.pow_succ]
    have h3 : c.toNat * 256 ^ l.length ≤ 255 * 256 ^ l.length := Nat.mul_le_mul_right _ (by omega)
    omega
theorem vl_be (v : Nat) : ∀ n, vl (be v n) = v % 256 ^ n
  | 0 => by simp [be, vl, vlF, Nat.mod_one]
  | n + 1 => by
    rw [be, vl_cons, be_length, vl_be v n, UInt8.toNat_ofNat']
    rw [show (2 : Nat) ^ 8 = 256 from rfl, Nat.mul_comm, Nat.pow_succ, Nat.add_comm, Nat.mod_mul]
theorem be_vl : ∀ l : List UInt8, be (vl l) l.length = l
  | [] => rfl
  | c :: l => by
    have h1 := vl_lt l
    have hp : 0 < 256 ^ l.length := Nat.pow_pos (by omega)
    have e : ∀ a b n : Nat, be (a * 256 ^ n + b) n = be b n := by
      intro a b n
      have g : ∀ m, m ≤ n → be (a * 256 ^ n + b) m = be b m := by
        intro m
        induction m with
        | zero => intro _; rfl
        | succ m ih =>
          intro hm
          rw [be, be, ih (by omega)]
          congr 1
          apply UInt8.toNat_inj.1
          rw [UInt8.toNat_ofNat', UInt8.toNat_ofNat']
          obtain ⟨k, rfl⟩ : ∃ k, n = m + 1 + k := ⟨n - (m + 1), by omega⟩
          rw [show a * 256 ^ (m + 1 + k) + b = b + 256 ^ m * (256 * (a * 256 ^ k)) from by
            rw [Nat.pow_add, Nat.pow_succ, Nat.add_comm]; congr 1; ac_rfl]
          rw [Nat.add_mul_div_left _ _ (Nat.pow_pos (by omega)), show (2 : Nat) ^ 8 = 256 from rfl, Nat.add_mul_mod_self_left]
      exact g n (Nat.le_refl n)
    rw [List.length_cons, be, vl_cons, e, be_vl l]
    congr 1
    apply UInt8.toNat_inj.1
    rw [UInt8.toNat_ofNat', Nat.mul_comm, Nat.mul_add_div hp, Nat.div_eq_of_lt h1]
    have := c.toNat_lt
    omega

/-- How many bytes a number has. -/
def nb (v : Nat) : Nat := (Lib.bitLen v + 7) / 8
theorem bitLen_facts (v : Nat) (h : v < 18446744073709551616) : Lib.bitLen v ≤ 64 ∧ v < 2 ^ Lib.bitLen v ∧ (v ≠ 0 → 1 ≤ Lib.bitLen v ∧ 2 ^ (Lib.bitLen v - 1) ≤ v) := by
  by_cases h0 : v = 0
  · subst h0
    exact ⟨by decide, by decide, fun h => absurd rfl h⟩
  · have := Lib.bitLenAux_bounds 64 v (by simpa using h) h0
    exact ⟨Lib.bitLen_le v 64 (by omega) (by simpa using h), this.2.2, fun _ => ⟨this.1, this.2.1⟩⟩
theorem nb_facts (v : Nat) (h : v < 18446744073709551616) : nb v ≤ 8 ∧ v < 256 ^ nb v ∧ (v ≠ 0 → 1 ≤ nb v ∧ 256 ^ (nb v - 1) ≤ v) := by
  obtain ⟨h1, h2, h3⟩ := bitLen_facts v h
  unfold nb
  refine ⟨by omega, ?_, fun h0 => ?_⟩
  · refine Nat.lt_of_lt_of_le h2 ?_
    rw [show (256 : Nat) = 2 ^ 8 from rfl, ← Nat.pow_mul]
    exact Nat.pow_le_pow_right (by omega) (by omega)
  · obtain ⟨h4, h5⟩ := h3 h0
    refine ⟨by omega, Nat.le_trans ?_ h5⟩
    rw [show (256 : Nat) = 2 ^ 8 from rfl, ← Nat.pow_mul]
    exact Nat.pow_le_pow_right (by omega) (by omega)
theorem nb_zero : nb 0 = 0 := by decide
/-- It is the one number of bytes that is right. -/
theorem nb_unique (v k : Nat) (h : v < 18446744073709551616) (h1 : v < 256 ^ k) (h2 : k ≠ 0 → 256 ^ (k - 1) ≤ v) : nb v = k := by
  obtain ⟨g1, g2, g3⟩ := nb_facts v h
  by_cases h0 : v = 0
  · subst h0
    rw [nb_zero]
    by_cases hk : k = 0
    · exact hk.symm
    · have := h2 hk
      have hp : 0 < 256 ^ (k - 1) := Nat.pow_pos (by omega)
      omega
  · obtain ⟨g4, g5⟩ := g3 h0
    rcases Nat.lt_trichotomy (nb v) k with hlt | heq | hgt
    · have a := h2 (by omega)
      have b : 256 ^ nb v ≤ 256 ^ (k - 1) := Nat.pow_le_pow_right (by omega) (by omega)
      omega
    · exact heq
    · have b : 256 ^ k ≤ 256 ^ (nb v - 1) := Nat.pow_le_pow_right (by omega) (by omega)
      omega
theorem nb_step (v : Nat) (h : v < 18446744073709551616) (h0 : v ≠ 0) : nb v = nb (v / 256) + 1 := by
  obtain ⟨g1, g2, g3⟩ := nb_facts (v / 256) (by omega)
  refine nb_unique v _ h ?_ (fun _ => ?_)
  · rw [Nat.pow_succ]
    omega
  · rw [Nat.add_sub_cancel]
    by_cases hz : v / 256 = 0
    · rw [hz, nb_zero]; omega
    · obtain ⟨g4, g5⟩ := g3 hz
      have e : 256 ^ nb (v / 256) = 256 ^ (nb (v / 256) - 1) * 256 := by rw [← Nat.pow_succ]; congr 1; omega
      rw [e]
      omega

/-- A number as bytes. -/
def numL (v : Nat) : List UInt8 := UInt8.ofNat (nb v) :: be v (nb v)
theorem numL_length (v : Nat) : (numL v).length = nb v + 1 := by rw [numL, List.length_cons, be_length]
theorem be_append (v : Nat) : ∀ n, be (v / 256) n ++ [UInt8.ofNat v] = be v (n + 1)
  | 0 => by simp [be]
  | n + 1 => by
    rw [be, List.cons_append, be_append v n, be.eq_2 v (n + 1)]
    congr 1
    rw [Nat.pow_succ, Nat.mul_comm, Nat.div_div_eq_div_mul]

/-- The number at a place: its value, the place behind, what is wrong. -/
def gnum (l : List UInt8) (i : Int) : Nat × Int × Int :=
  if i < 0 ∨ (l.length : Int) < i then (0, 0, 1)
  else match l.drop i.toNat with
  | [] => (0, 0, 8)
  | c :: r => if 8 < c.toNat ∨ (0 < c.toNat ∧ r.head? = some 0) then (0, 0, 6) else if r.length < c.toNat then (0, 0, 8) else (vl (r.take c.toNat), (i.toNat + 1 + c.toNat : Nat), 0)

/-- A text with each byte 0 as two bytes. -/
def esc : List UInt8 → List UInt8
  | [] => []
  | c :: l => if c = 0 then 0 :: 255 :: esc l else c :: esc l
def txtL (l : List UInt8) : List UInt8 := esc l ++ [0, 1]
theorem esc_append : ∀ a b : List UInt8, esc (a ++ b) = esc a ++ esc b
  | [], b => rfl
  | c :: a, b => by
    rw [List.cons_append, esc, esc, esc_append a b]
    split <;> rfl
def nulls (l : List UInt8) : Nat := l.countP (fun c => c == 0)
theorem esc_length : ∀ l : List UInt8, (esc l).length = l.length + nulls l
  | [] => rfl
  | c :: l => by
    have ih := esc_length l
    unfold nulls at ih ⊢
    rw [esc, List.countP_cons]
    by_cases h : c = 0
    · rw [if_pos h, h, List.length_cons, List.length_cons, ih, List.length_cons]; simp; omega
    · rw [if_neg h, List.length_cons, ih, List.length_cons]; simp [h]; omega
theorem nulls_le (l : List UInt8) : nulls l ≤ l.length := List.countP_le_length
theorem txtL_length (l : List UInt8) : (txtL l).length = l.length + nulls l + 2 := by
  unfold txtL
  rw [List.length_append, esc_length]; rfl

/-- What is read of an escaped text: the text and how many bytes it takes, or what is wrong. -/
def unesc : List UInt8 → Except Int (List UInt8 × Nat)
  | [] => .error 8
  | [_] => .error 8
  | c :: d :: r => if c = 0 then (if d = 1 then .ok ([], 2) else if d = 255 then (unesc r).map (fun x => (0 :: x.1, 2 + x.2)) else .error 6) else (unesc (d :: r)).map (fun x => (c :: x.1, 1 + x.2))
theorem unesc_one (c : UInt8) (r : List UInt8) (h : c ≠ 0) : unesc (c :: r) = (unesc r).map (fun x => (c :: x.1, 1 + x.2)) := by
  cases r with
  | nil => rfl
  | cons d r => rw [unesc, if_neg h]
theorem unesc_end (r : List UInt8) : unesc (0 :: 1 :: r) = .ok ([], 2) := by rw [unesc, if_pos rfl, if_pos rfl]
theorem unesc_null (r : List UInt8) : unesc (0 :: 255 :: r) = (unesc r).map (fun x => (0 :: x.1, 2 + x.2)) := by
  rw [unesc, if_pos rfl, if_neg (by decide), if_pos rfl]
theorem unesc_bad (d : UInt8) (r : List UInt8) (h1 : d ≠ 1) (h2 : d ≠ 255) : unesc (0 :: d :: r) = .error 6 := by
  rw [unesc, if_pos rfl, if_neg h1, if_neg h2]
/-- Bytes that are not 0 are themselves. -/
theorem unesc_run : ∀ (p r : List UInt8), (∀ c ∈ p, c ≠ 0) → unesc (p ++ r) = (unesc r).map (fun x => (p ++ x.1, p.length + x.2))
  | [], r, _ => by
    rw [List.nil_append]
    cases unesc r <;> simp [Except.map]
  | c :: p, r, h => by
    rw [List.cons_append, unesc_one c _ (h c (by simp)), unesc_run p r (fun x hx => h x (by simp [hx]))]
    cases unesc r with
    | error e => rfl
    | ok x => simp [Except.map]; omega
theorem unesc_short (p : List UInt8) (h : ∀ c ∈ p, c ≠ 0) : unesc p = .error 8 := by
  have := unesc_run p [] h
  rw [List.append_nil] at this
  rw [this]; rfl
theorem unesc_txt : ∀ (l r : List UInt8), unesc (txtL l ++ r) = .ok (l, (txtL l).length)
  | [], r => unesc_end r
  | c :: l, r => by
    have ih := unesc_txt l r
    unfold txtL at ih ⊢
    rw [esc]
    by_cases h : c = 0
    · rw [if_pos h, h, List.cons_append, List.cons_append, List.cons_append, List.cons_append, unesc_null, ih]
      simp [Except.map]; omega
    · rw [if_neg h, List.cons_append, List.cons_append, unesc_one c _ h, ih]
      simp [Except.map]; omega
theorem unesc_cut : ∀ (l : List UInt8) (k : Nat), k < (txtL l).length → unesc ((txtL l).take k) = .error 8
  | [], k, h => by
    have hk : k = 0 ∨ k = 1 := by simp [txtL, esc] at h; omega
    rcases hk with rfl | rfl <;> rfl
  | c :: l, 0, _ => rfl
  | c :: l, k + 1, h => by
    have ih := unesc_cut l
    unfold txtL at ih h ⊢
    rw [esc] at h ⊢
    by_cases hc : c = 0
    · rw [if_pos hc] at h ⊢
      rw [List.cons_append, List.cons_append, List.take_succ_cons]
      cases k with
      | zero => rw [List.take_zero]; rfl
      | succ k =>
        rw [List.take_succ_cons, unesc_null, ih k (by simp at h ⊢; omega)]
        rfl
    · rw [if_neg hc] at h ⊢
      rw [List.cons_append, List.take_succ_cons, unesc_one c _ hc, ih k (by simp at h ⊢; omega)]
      rfl

/-- The text at a place. -/
def gtxt (l : List UInt8) (i : Int) : List UInt8 × Int × Int :=
  if i < 0 ∨ (l.length : Int) < i then ([], 0, 1)
  else match unesc (l.drop i.toNat) with
  | .error e => ([], 0, e)
  | .ok x => (x.1, (i.toNat + x.2 : Nat), 0)
end Go.Proofs.Ytafbbojfifcncaa
set_option linter.unusedVariables false
namespace Go.Proofs.Ytafbbojfifcncaa
open Go Go.RowKit

theorem addr_block (a : Addr) (n : Nat) : (a.add n).block = a.block := by unfold Addr.add; split <;> rfl
theorem addr_add (a : Addr) (i j : Nat) : (a.add i).add j = a.add (i + j) := by
  unfold Addr.add
  by_cases hi : i = 0 <;> by_cases hj : j = 0 <;> simp [hi, hj, Nat.add_assoc]

/-- The slice at A, n long, holds the bytes l in w, in a block below B. -/
def Rd (w : World) (B : Nat) (A : Option Addr) (n : Nat) (l : List UInt8) : Prop :=
  l.length = n ∧ (0 < n → ∃ ad, A = some ad ∧ ad.block < B ∧ ∀ j (hj : j < l.length), w.cell? (ad.add j) = some (.int .u8 (l[j].toNat : Nat)))

section
variable {w w' : World} {B B' n : Nat} {A : Option Addr} {l : List UInt8}
theorem Rd.nil (w : World) (B : Nat) : Rd w B none 0 [] := ⟨rfl, fun h => absurd h (by omega)⟩
theorem Rd.keep (h : Rd w B A n l) (hk : ∀ p : Addr, p.block < B → w'.cell? p = w.cell? p) : Rd w' B A n l :=
  ⟨h.1, fun hn => by
    obtain ⟨ad, e, hb, hc⟩ := h.2 hn
    exact ⟨ad, e, hb, fun j hj => (hk _ (by rw [addr_block]; exact hb)).trans (hc j hj)⟩⟩
theorem Rd.below (h : Rd w B A n l) (hb : Below B w w') : Rd w' B A n l := h.keep fun _ hp => hb.cell hp
theorem Rd.up (h : Rd w B A n l) (hB : B ≤ B') : Rd w B' A n l :=
  ⟨h.1, fun hn => by
    obtain ⟨ad, e, hb, hc⟩ := h.2 hn
    exact ⟨ad, e, by omega, hc⟩⟩
/-- It holds still behind a call that has kept what was there. -/
theorem Rd.on (h : Rd w B A n l) (hb : Below B w w') (hB : B ≤ B') : Rd w' B' A n l := (h.below hb).up hB
theorem Rd.alloc (h : Rd w B A n l) (hB : B ≤ w.heap.size) (o : Obj) : Rd (w.alloc o) B A n l := h.keep fun p hp => World.cell?_alloc_lt w o p (by omega)
theorem Rd.drew (h : Rd w B A n l) : Rd w.drew B A n l := h
theorem Rd.at_ (h : Rd w B A n l) {j : Nat} (hj : j < n) : ∃ ad, A = some ad ∧ ad.block < B ∧ ∀ i (hi : i < l.length), w.cell? (ad.add i) = some (.int .u8 (l[i].toNat : Nat)) := h.2 (by omega)
theorem Rd.at2 (h : Rd w B A n l) {j : Nat} (hj : j < n) : ∃ g o, A = some ⟨g, o, none⟩ ∧ g < B ∧ ∀ i (hi : i < l.length), w.cell? ⟨g, o + i, none⟩ = some (.int .u8 (l[i].toNat : Nat)) := by
  obtain ⟨ad, rfl, hb, hc⟩ := h.2 (by omega)
  have h0 := hc 0 (by have := h.1; omega)
  have hs : ad.spot = none := by simpa [Addr.add] using World.cell?_spot h0
  obtain ⟨g, o, sp⟩ := ad
  simp only at hs
  subst hs
  exact ⟨g, o, rfl, hb, fun i hi => by rw [← Addr.add_lit]; exact hc i hi⟩
theorem Rd.cut (h : Rd w B A n l) {k m mx : Nat} (hk : k ≤ m) (hm : m ≤ n) (hx : m ≤ mx) :
    Rd w B (if mx = k then A else A.map (·.add k)) (m - k) ((l.take m).drop k) := by
  refine ⟨by rw [List.length_drop, List.length_take, h.1]; omega, fun hn => ?_⟩
  obtain ⟨ad, rfl, hb, hc⟩ := h.2 (by omega)
  rw [if_neg (by omega)]
  refine ⟨ad.add k, rfl, by rw [addr_block]; exact hb, fun j hj => ?_⟩
  rw [addr_add]
  have hj2 : k + j < l.length := by rw [List.length_drop, List.length_take] at hj; omega
  rw [hc (k + j) hj2]
  simp
theorem Rd.pre (h : Rd w B A n l) {m : Nat} (hm : m ≤ n) : Rd w B A m (l.take m) := by
  refine ⟨by rw [List.length_take, h.1]; omega, fun h0 => ?_⟩
  obtain ⟨ad, e, hb, hc⟩ := h.2 (by omega)
  refine ⟨ad, e, hb, fun j hj => ?_⟩
  have hj2 : j < l.length := by rw [List.length_take] at hj; omega
  rw [hc j hj2]
  simp
theorem byteCells_get (l : List UInt8) (j : Nat) : (Lib.byteCells l)[j]? = (l[j]?).map fun b => Value.int .u8 b.toNat := by
  unfold Lib.byteCells
  rw [List.getElem?_map]
theorem Rd.cells (h : Rd w B A n l) {ad : Addr} (ha : A = some ad) : ∀ j u, (Lib.byteCells l)[j]? = some u → w.cell? (ad.add j) = some u := by
  intro j u hu
  rw [byteCells_get] at hu
  have hj : j < l.length := by
    rcases Nat.lt_or_ge j l.length with h1 | h1
    · exact h1
    · rw [List.getElem?_eq_none h1] at hu; cases hu
  rw [List.getElem?_eq_getElem hj] at hu
  obtain ⟨ad', e, _, hc⟩ := h.2 (by have := h.1; omega)
  rw [ha] at e
  injection e with e
  subst e
  rw [hc j hj]
  exact hu
theorem Rd.of_own {base : Nat} {v : Value} {n : Nat} {l : List UInt8} (h : w.ownsRow base 5 1 v n (Lib.byteCells l)) :
    ∃ A c, v = .slice A n c ∧ n ≤ c ∧ c ≤ maxLen ∧ (A = none → c = 0) ∧ Rd w w.heap.size A n l := by
  have hl : l.length = n := by have := h.1; rw [Lib.byteCells_length] at this; omega
  rcases h.2 with ⟨rfl, rfl⟩ | ⟨g, cap, cur, rfl, hb, hh, hn, hm, hs, ht⟩
  · exact ⟨none, 0, rfl, Nat.le_refl _, Nat.zero_le _, fun _ => rfl, hl, fun h => absurd h (by omega)⟩
  · refine ⟨some ⟨g, 0, none⟩, cap, rfl, hn, hm, fun h => (by cases h), hl, fun hn => ⟨_, rfl, (Array.getElem?_eq_some_iff.1 hh).1, fun j hj => ?_⟩⟩
    refine h.cells (g := g) rfl j _ ?_
    rw [byteCells_get, List.getElem?_eq_getElem hj]
    rfl
end

theorem own_down {w : World} {b b' n size : Nat} {e : TypeId} {v : Value} {xs : List Value} (h : w.ownsRow b e size v n xs) (hb : b' ≤ b) : w.ownsRow b' e size v n xs := by
  refine ⟨h.1, ?_⟩
  rcases h.2 with h1 | ⟨g, cap, cur, h1, h2, h3⟩
  · exact Or.inl h1
  · exact Or.inr ⟨g, cap, cur, h1, Nat.le_trans hb h2, h3⟩

theorem infoB : (Try.prog.info? 5).map (fun i => (i.zero, i.size, i.bytes)) = some (some (.int .u8 0), 1, 1) := by kernel_rfl

/-- string(b). -/
theorem cv_string {w : World} {B n : Nat} {A : Option Addr} {l : List UInt8} (h : Rd w B A n l) (c : Nat) :
    (convert 71 9 (.slice A n c)).run Try.prog w = .ok (.string ⟨l.toArray⟩) w := by
  have hl := h.1
  cases A with
  | none =>
    have h0 : n = 0 := by
      rcases Nat.eq_zero_or_pos n with h1 | h1
      · exact h1
      · obtain ⟨ad, e, _⟩ := h.2 h1; cases e
    subst h0
    obtain rfl : l = [] := List.eq_nil_of_length_eq_zero hl
    exact run_convert_bytes_nil w _ _ Try.underlying71 Try.underlying5 0 c _ Try.underlying9
  | some ad =>
    subst hl
    refine run_convert_bytes_back w _ _ _ ad c l Try.underlying71 Try.underlying5 Try.underlying9 (fun j hj => ?_)
    obtain ⟨ad', e, _, hc⟩ := h.2 (by omega)
    injection e with e
    subst e
    exact hc j hj

theorem run_app_none {w : World} (base : Nat) {ty : TypeId} {v : Value} {n : Nat} {xs : List Value} (hown : w.ownsRow base 5 1 v n xs) (c : Nat) :
    (Builtin.append_ #[71, 71] ty #[v, .slice none 0 c]).run Try.prog w = .ok v w := by
  obtain ⟨i, hi, hz0, hz1, hz2⟩ := info_parts infoB
  rcases hown.2 with ⟨rfl, rfl⟩ | ⟨g, cap, cur, rfl, _, _, hnc, _⟩
  · simp [Builtin.append_, run_underlying Try.underlying71, sizeOf, typeInfo, hi, Builtin.lenOf, Builtin.firstCells]
  · simp [Builtin.append_, run_underlying Try.underlying71, sizeOf, typeInfo, hi, Builtin.lenOf, Builtin.firstCells, hnc, storeCells]

/-- append(own, bytes...): the bytes come from anywhere. -/
theorem run_app {w : World} (base : Nat) {ty : TypeId} {v : Value} {n : Nat} {l : List UInt8} (hown : w.ownsRow base 5 1 v n (Lib.byteCells l)) {B m c : Nat} {A : Option Addr} {k : List UInt8} (hr : Rd w B A m k)
    (hsz : n + m ≤ 140737488355328) (hbase : base ≤ w.heap.size) :
    ∃ v' w', (Builtin.append_ #[71, 71] ty #[v, .slice A m c]).run Try.prog w = .ok v' w' ∧ w'.ownsRow base 5 1 v' (n + m) (Lib.byteCells (l ++ k)) ∧ w.grownBy w' v.ownBlock := by
  obtain ⟨i, hi, hz0, hz1, hz2⟩ := info_parts infoB
  cases A with
  | none =>
    have h0 : m = 0 := by
      rcases Nat.eq_zero_or_pos m with h1 | h1
      · exact h1
      · obtain ⟨ad, e, _⟩ := hr.2 h1; cases e
    subst h0
    obtain rfl : k = [] := List.eq_nil_of_length_eq_zero hr.1
    exact ⟨v, w, run_app_none base hown c, by simpa using hown, ⟨rfl, rfl, rfl, Nat.le_refl _, fun _ _ _ => rfl⟩⟩
  | some ad =>
    obtain ⟨v', w', h1, h2, h3, _⟩ := run_append_own (P := Try.prog) w base 71 ty 5 i (.int .u8 0) 1 1 Try.underlying71 hi hz0 hz1 hz2 rfl (by decide) v n (Lib.byteCells l) hown ad m c (Lib.byteCells k)
      (by rw [Lib.byteCells_length, hr.1]; omega) (hr.cells rfl) (Lib.byteCells_one k) (by unfold maxLen; omega) (by omega) hbase
    exact ⟨v', w', h1, by rw [Lib.byteCells_append]; exact h2, h3⟩

theorem wp_app {w : World} {o : Oper} {a : Act} {K : Act → World → Prop} {Q : Exit → Act → World → Prop} (s x : Operand)
    (ho : o.op = .call { callee := .builtin .append, args := #[s, x], argTypes := #[71, 71] })
    (base : Nat) (v : Value) (n : Nat) (l : List UInt8) (hs : a.eval s = v) (hown : w.ownsRow base 5 1 v n (Lib.byteCells l)) (B : Nat) (A : Option Addr) (m c : Nat) (k : List UInt8) (hx : a.eval x = .slice A m c) (hr : Rd w B A m k)
    (hsz : n + m ≤ 140737488355328) (hbase : base ≤ w.heap.size)
    (h : ∀ v' w', w'.ownsRow base 5 1 v' (n + m) (Lib.byteCells (l ++ k)) → w.grownBy w' v.ownBlock → K (a.put o.dst v') w') : o.wp Try.prog a w K Q := by
  obtain ⟨v', w', hrun, h2, h3⟩ := run_app (w := w) base (ty := o.type) hown (c := c) hr hsz hbase
  unfold Oper.wp execOp
  simp only [ho, resolve, invoke, builtin, Sem.run_bind, Sem.run_pure, Result.andThen_ok, List.map_toArray, List.map_cons, List.map_nil, hs, hx, hrun]
  exact h v' w' h2 h3

theorem wpList_app {w : World} {ops : Array Oper} {rest : List Oper} {o : Oper} {a : Act} {Q : Exit → Act → World → Prop} (hgd : o.guard = none) (s x : Operand)
    (ho : o.op = .call { callee := .builtin .append, args := #[s, x], argTypes := #[71, 71] })
    (base : Nat) (v : Value) (n : Nat) (l : List UInt8) (hs : a.eval s = v) (hown : w.ownsRow base 5 1 v n (Lib.byteCells l)) (B : Nat) (A : Option Addr) (m c : Nat) (k : List UInt8) (hx : a.eval x = .slice A m c) (hr : Rd w B A m k)
    (hsz : n + m ≤ 140737488355328) (hbase : base ≤ w.heap.size)
    (h : ∀ v' w', w'.ownsRow base 5 1 v' (n + m) (Lib.byteCells (l ++ k)) → w.grownBy w' v.ownBlock → wpList Try.prog ops Q rest (a.put o.dst v') w') : wpList Try.prog ops Q (o :: rest) a w :=
  wpList_plain hgd fun K hK => wp_app s x ho base v n l hs hown B A m c k hx hr hsz hbase fun v' w' h2 h3 => hK _ _ (h v' w' h2 h3)

/-- append(full, bytes...), the slice without spare room. -/
theorem wpList_appFull {w : World} {ops : Array Oper} {rest : List Oper} {o : Oper} {a : Act} {Q : Exit → Act → World → Prop} (hgd : o.guard = none) (s x : Operand)
    (ho : o.op = .call { callee := .builtin .append, args := #[s, x], argTypes := #[71, 71] })
    (A0 : Option Addr) (n : Nat) (l : List UInt8) (B0 : Nat) (hs : a.eval s = .slice A0 n n) (hr0 : Rd w B0 A0 n l) (B : Nat) (ad : Addr) (m c : Nat) (k : List UInt8) (hx : a.eval x = .slice (some ad) m c) (hr : Rd w B (some ad) m k) (hm : 0 < m)
    (hsz : n + m ≤ 140737488355328)
    (h : ∀ v' w', w'.ownsRow w.heap.size 5 1 v' (n + m) (Lib.byteCells (l ++ k)) → w.grownBy w' none → wpList Try.prog ops Q rest (a.put o.dst v') w') : wpList Try.prog ops Q (o :: rest) a w := by
  obtain ⟨i, hi, hz0, hz1, hz2⟩ := info_parts infoB
  refine wpList_append_grows w hgd s x 71 ho 5 i (.int .u8 0) 1 1 Try.underlying71 hi hz0 hz1 hz2 rfl (by decide) A0 n n (Lib.byteCells l) hs (fun e => ?_) (by rw [Lib.byteCells_length, hr0.1]; omega) (fun b e => hr0.cells e)
    ad m c (Lib.byteCells k) hx (by rw [Lib.byteCells_length, hr.1]; omega) (hr.cells rfl) (Lib.byteCells_one k) (by omega) (by unfold maxLen; omega) (by omega) (fun v' w' h2 h3 => h v' w' (by rw [Lib.byteCells_append]; exact h2) h3)
  subst e
  rcases Nat.eq_zero_or_pos n with h1 | h1
  · exact ⟨h1, h1⟩
  · obtain ⟨ad, e, _⟩ := hr0.2 h1; cases e

/-- The bytes of a block that the walk has just laid. -/
theorem Rd.laid {w : World} {g : Nat} {l : List UInt8} {cs : Array Value} {t : TypeId} (hb : w.heap[g]? = some (.cells cs t (0, 0))) (hc : cs.toList = Lib.byteCells l) : Rd w w.heap.size (some ⟨g, 0, none⟩) l.length l := by
  refine ⟨rfl, fun _ => ⟨_, rfl, (Array.getElem?_eq_some_iff.1 hb).1, fun j hj => ?_⟩⟩
  refine World.news_of_block hb j _ ?_
  rw [hc, byteCells_get, List.getElem?_eq_getElem hj]
  rfl

theorem Rd.one (w : World) (x : Int) (b : UInt8) (h : x = (b.toNat : Nat)) : Rd (w.alloc (.cells #[.int .u8 x] 5)) (w.heap.size + 1) (some ⟨w.heap.size, 0, none⟩) 1 [b] := by
  have := Rd.laid (w := w.alloc (.cells #[.int .u8 x] 5)) (g := w.heap.size) (l := [b]) (heap_alloc_new w _) (by rw [h]; rfl)
  simpa using this
theorem Rd.two (w : World) (x y : Int) (b d : UInt8) (h : x = (b.toNat : Nat)) (k : y = (d.toNat : Nat)) : Rd (w.alloc (.cells #[.int .u8 x, .int .u8 y] 5)) (w.heap.size + 1) (some ⟨w.heap.size, 0, none⟩) 2 [b, d] := by
  have := Rd.laid (w := w.alloc (.cells #[.int .u8 x, .int .u8 y] 5)) (g := w.heap.size) (l := [b, d]) (heap_alloc_new w _) (by rw [h, k]; rfl)
  simpa using this

/-- A call that hands back new bytes. -/
def GivesB (w : World) (l : List UInt8) (e : Ending) (w' : World) : Prop :=
  ∃ A n c, e = .returned (.slice A n c) ∧ l.length = n ∧ n ≤ c ∧ c ≤ maxLen ∧ (A = none → c = 0) ∧ Rd w' w'.heap.size A n l ∧ Below w.heap.size w w'
/-- A call that hands back a text. -/
def GivesS (w : World) (l : List UInt8) (e : Ending) (w' : World) : Prop :=
  ∃ s : ByteArray, e = .returned (.string s) ∧ s.data.toList = l ∧ Below w.heap.size w w'
theorem GivesB.of_own {w w' : World} {base n : Nat} {v : Value} {l : List UInt8} (h : w'.ownsRow base 5 1 v n (Lib.byteCells l)) (hb : Below w.heap.size w w') : GivesB w l (.returned v) w' := by
  obtain ⟨A, c, rfl, h1, h2, h3, h4⟩ := Rd.of_own h
  exact ⟨A, n, c, rfl, h4.1, h1, h2, h3, h4, hb⟩
/-- A slice to which bytes are appended without a trace: it came in without spare room, or it is the call's own (the call began in w0). -/
def Free (w0 : World) (v : Value) (m : Nat) (l : List UInt8) (w : World) : Prop :=
  Below w0.heap.size w0 w ∧ ((∃ A B, v = .slice A m m ∧ Rd w B A m l ∧ B ≤ w0.heap.size) ∨ w.ownsRow w0.heap.size 5 1 v m (Lib.byteCells l))
theorem Free.own {w0 w : World} {v : Value} {m : Nat} {l : List UInt8} (hb : Below w0.heap.size w0 w) (h : w.ownsRow w0.heap.size 5 1 v m (Lib.byteCells l)) : Free w0 v m l w := ⟨hb, Or.inr h⟩
theorem Free.full {w0 : World} {A : Option Addr} {m B : Nat} {l : List UInt8} (h : Rd w0 B A m l) (hB : B ≤ w0.heap.size) : Free w0 (.slice A m m) m l w0 := ⟨Below.refl _ _, Or.inl ⟨A, B, rfl, h, hB⟩⟩
theorem Free.alloc {w0 w : World} {v : Value} {m : Nat} {l : List UInt8} (h : Free w0 v m l w) (o : Obj) : Free w0 v m l (w.alloc o) := by
  have hz := h.1.size
  refine ⟨h.1.alloc hz o, ?_⟩
  rcases h.2 with ⟨A, B, h1, h2, h3⟩ | h2
  · exact Or.inl ⟨A, B, h1, h2.alloc (by omega) o, h3⟩
  · exact Or.inr (h2.alloc o)
theorem Free.slice {w0 w : World} {v : Value} {m : Nat} {l : List UInt8} (h : Free w0 v m l w) : ∃ A c, v = .slice A m c := by
  rcases h.2 with ⟨A, B, h1, h2⟩ | h2
  · exact ⟨A, m, h1⟩
  · obtain ⟨A, c, h3, _⟩ := Rd.of_own h2
    exact ⟨A, c, h3⟩
theorem wpList_appFree {w : World} {ops : Array Oper} {rest : List Oper} {o : Oper} {a : Act} {Q : Exit → Act → World → Prop} (hgd : o.guard = none) (s x : Operand)
    (ho : o.op = .call { callee := .builtin .append, args := #[s, x], argTypes := #[71, 71] })
    (w0 : World) (v : Value) (n : Nat) (l : List UInt8) (hs : a.eval s = v) (hf : Free w0 v n l w) (B : Nat) (ad : Addr) (m c : Nat) (k : List UInt8) (hx : a.eval x = .slice (some ad) m c) (hr : Rd w B (some ad) m k) (hm : 0 < m)
    (hsz : n + m ≤ 140737488355328)
    (h : ∀ v' w', w'.ownsRow w0.heap.size 5 1 v' (n + m) (Lib.byteCells (l ++ k)) → Below w0.heap.size w0 w' → wpList Try.prog ops Q rest (a.put o.dst v') w') : wpList Try.prog ops Q (o :: rest) a w := by
  have hz := hf.1.size
  rcases hf.2 with ⟨A, B0, h1, h2, h3⟩ | h2
  · refine wpList_appFull hgd s x ho A n l B0 (by rw [hs, h1]) h2 B ad m c k hx hr hm hsz fun v' w' g1 g2 => h v' w' (own_down g1 hz) (hf.1.grown g2 hz (fun g hg => by cases hg))
  · exact wpList_app hgd s x ho w0.heap.size v n l hs h2 B (some ad) m c k hx hr hsz hz fun v' w' g1 g2 => h v' w' g1 (hf.1.grown g2 hz fun g hg => (h2.lt g hg).1)
end Go.Proofs.Ytafbbojfifcncaa
set_option linter.unusedVariables false
namespace Go.Proofs.Ytafbbojfifcncaa
open Go Go.RowKit

def intE (v : Int) : List UInt8 := be (v + 9223372036854775808).toNat 8
theorem cv_asE {w : World} {B n : Nat} {A : Option Addr} {l : List UInt8} (h : Rd w B A n l) (c : Nat) (q : ByteArray) (hq : q.data.toList = l) :
    (convert 71 9 (.slice A n c)).run Try.prog w = .ok (.string q) w := by
  rw [cv_string h c, mk_eq l q hq]
theorem shr_byteE (v m : Nat) : (v : Int) / 2 ^ (8 * m) % 256 = ((UInt8.ofNat (v / 256 ^ m)).toNat : Nat) := by
  have e : (2 : Int) ^ (8 * m) = ((256 ^ m : Nat) : Int) := by rw [Int.pow_mul]; simp
  rw [e, UInt8.toNat_ofNat']
  simp

theorem xor63E (a : Nat) (h : a < 18446744073709551616) : a ^^^ 9223372036854775808 = (a + 9223372036854775808) % 18446744073709551616 := by
  have small : ∀ b : Nat, b < 2 ^ 63 → b ^^^ 2 ^ 63 = 2 ^ 63 + b := by
    intro b hb
    apply Nat.eq_of_testBit_eq
    intro i
    rw [Nat.testBit_xor, Nat.testBit_two_pow]
    rcases Nat.lt_trichotomy i 63 with hi | hi | hi
    · rw [Nat.testBit_two_pow_add_gt hi, decide_eq_false (by omega), Bool.xor_false]
    · subst hi
      rw [Nat.testBit_two_pow_add_eq]
      simp
    · rw [Nat.testBit_lt_two_pow (Nat.lt_of_lt_of_le hb (Nat.pow_le_pow_right (by omega) (by omega))), Nat.testBit_lt_two_pow (x := 2 ^ 63 + b) (Nat.lt_of_lt_of_le (show 2 ^ 63 + b < 2 ^ 64 by omega) (Nat.pow_le_pow_right (by omega) (by omega))), decide_eq_false (by omega)]
      rfl
  rw [show (9223372036854775808 : Nat) = 2 ^ 63 from rfl]
  by_cases hs : a < 2 ^ 63
  · rw [small a hs]; omega
  · obtain ⟨b, rfl⟩ : ∃ b, a = 2 ^ 63 + b := ⟨a - 2 ^ 63, by omega⟩
    rw [← small b (by omega), Nat.xor_assoc, Nat.xor_self, Nat.xor_zero, small b (by omega)]
    omega

set_option maxRecDepth 8000 in
set_option maxHeartbeats 2000000 in
theorem rint_anyE (v : Int) (w : World) (h1 : -9223372036854775808 ≤ v) (h2 : v ≤ 9223372036854775807) :
    Calls Try.prog 71 #[.int .i64 v] w (GivesS w (intE v)) := by
  obtain ⟨u, hu⟩ : ∃ u : Nat, (v + 9223372036854775808).toNat = u := ⟨_, rfl⟩
  have hul : u < 18446744073709551616 := by omega
  have e : bits BinOp.xor IntKind.u64 (IntKind.u64.wrap v) 9223372036854775808 = (u : Int) := by
    rw [IntKind.wrap_u64]
    have h3 : v % 18446744073709551616 = (((v % 18446744073709551616).toNat : Nat) : Int) := by omega
    rw [h3, show (9223372036854775808 : Int) = ((9223372036854775808 : Nat) : Int) from rfl, bits_xor_u64_nat _ _ (by omega) (by omega), xor63E _ (by omega)]
    omega
  have HE := Lib.hid e
  have HU := Lib.hid hu
  clear e hu
  go_enter Try.func71, Try.ntmps71
  go_wp2
  rw [HE.out]
  go_loopw [4, 5] (fun t i wr => ∃ (k : Nat) (q : ByteArray), i = .int .i64 k ∧ k ≤ 8 ∧ t = .string q ∧ q.data.toList = be u k ∧ q.size = k ∧ Below w.heap.size w wr) (fun _ i _ => 8 - (intOf i).toNat)
  case atStart => exact ⟨0, ⟨#[]⟩, rfl, Nat.zero_le _, rfl, rfl, rfl, Below.refl _ _⟩
  case round =>
    obtain ⟨k, q, rfl, hk, rfl, hq, hqs, hb⟩ := hrel
    have hz := hb.size
    by_cases hlt : k < 8
    · have hcv := cv_asE (Rd.one wr ((u : Int) / 2 ^ (8 * k) % 256) (UInt8.ofNat (u / 256 ^ k)) (shr_byteE u k)) 1 ⟨#[UInt8.ofNat (u / 256 ^ k)]⟩ rfl
      obtain ⟨q2, hq2e⟩ : ∃ x : ByteArray, (⟨#[UInt8.ofNat (u / 256 ^ k)]⟩ : ByteArray) ++ q = x := ⟨_, rfl⟩
      have hadd : ∀ wx : World, (Op.stringOp .add ⟨#[UInt8.ofNat (u / 256 ^ k)]⟩ q).run Try.prog wx = .ok (.string q2) wx := by
        intro wx; rw [run_string_add_sum wx _ q (by rw [show (⟨#[UInt8.ofNat (u / 256 ^ k)]⟩ : ByteArray).size = 1 from rfl]; omega), hq2e]
      have hq2 : q2.data.toList = be u (k + 1) := by rw [← hq2e, be, ← hq]; simp
      have hq2s : q2.size = k + 1 := by rw [← hq2e, ByteArray.size_append, hqs]; exact Nat.add_comm _ _
      have HQ := Lib.hid hq2
      have HS := Lib.hid hq2s
      clear hq hqs hq2e hq2 hq2s
      go_wp2
      go_roundw
      case rel => exact ⟨k + 1, q2, by go_num, by omega, rfl, HQ.out, HS.out, hb.alloc hz _⟩
      case measure => simp [intOf]; omega
    · obtain rfl : k = 8 := by omega
      have HQ := Lib.hid hq
      clear hq hqs
      go_wp2
      go_ret
      exact ⟨q, rfl, by rw [HQ.out, intE, HU.out], hb⟩


/-- The keys of the rows of numbers: whole numbers, encoded. -/
def dg (i : Nat) : ByteArray := ⟨(intE (i : Int)).toArray⟩
theorem dg_facts : (∀ i, i < 4 → (dg i).size = 8) ∧ ∀ i, i < 4 → ∀ j, j < i → (dg j).data.toList < (dg i).data.toList := by decide
end Go.Proofs.Ytafbbojfifcncaa
set_option linter.unusedVariables false
set_option linter.unusedSimpArgs false
namespace Go.Proofs.Ytafbbojfifcncaa
open Go Go.RowKit

theorem riseK_of_rise : ∀ {l : Cols}, Rise l → RiseK Prod.fst l
  | [], _ => trivial
  | (m, c) :: l, h => ⟨h.1, riseK_of_rise h.2⟩
/-- Columns of the four names. -/
structure ColsIn (l : Cols) : Prop where
  rise : Rise l
  all : ∀ x ∈ l, colB x = true ∧ x.1.size ≤ 1 ∧ x.2.s.size ≤ 1 ∧ x.1 ∈ [nm 0, nm 1, nm 2, nm 3]
theorem ColsTo.in4 {l : Cols} (h : ColsTo 4 l) : ColsIn l := ⟨h.rise, fun x hx => by
  obtain ⟨h1, h2, h3, _⟩ := h.all x hx
  obtain ⟨i, hi, e⟩ := h.nms x hx
  refine ⟨h1, h2, h3, ?_⟩
  rw [e]
  have : i = 0 ∨ i = 1 ∨ i = 2 ∨ i = 3 := by omega
  rcases this with rfl | rfl | rfl | rfl <;> simp⟩
theorem ColsIn.nil : ColsIn [] := ⟨trivial, fun x hx => by cases hx⟩
theorem ColsIn.len {l : Cols} (h : ColsIn l) : l.length ≤ 4 := riseK_few (riseK_of_rise h.rise) fun x hx => (h.all x hx).2.2.2
theorem ColsIn.mrg {l k : Cols} (hl : ColsIn l) (hk : ColsIn k) : ColsIn (mrg l k) :=
  ⟨mrg_rise hl.rise, mrg_all (p := fun x => colB x = true ∧ x.1.size ≤ 1 ∧ x.2.s.size ≤ 1 ∧ x.1 ∈ [nm 0, nm 1, nm 2, nm 3]) (fun n c d hc hd => by
    rcases join_or d c with e | e <;> rw [e] <;> assumption) hl.all hk.all⟩
theorem stm_max {x y : Int} (hx : stm x = true) (hy : stm y = true) : stm (max x y) = true := by
  rcases Int.le_total x y with h | h
  · rwa [Int.max_eq_right h]
  · rwa [Int.max_eq_left h]
theorem colsB_mrg {l k : Cols} (hl : colsB l = true) (hk : colsB k = true) : colsB (mrg l k) = true := by
  refine colsB_of (mrg_rise (colsB_rise hl)) (mrg_all (p := fun x => colB x = true) (fun n c d hc hd => ?_) (fun x hx => ?_) fun x hx => ?_)
  · rcases join_or d c with e | e <;> rw [e] <;> assumption
  · obtain ⟨j, hj, rfl⟩ := List.mem_iff_getElem.1 hx
    exact colsB_each hl hj
  · obtain ⟨j, hj, rfl⟩ := List.mem_iff_getElem.1 hx
    exact colsB_each hk hj
/-- Two that may be, joined, may be, where there is room for the columns. -/
theorem ok_join {R R' : Ro} (h : R.ok = true) (h' : R'.ok = true) (hl : (R.join R').cols.length ≤ 8) : (R.join R').ok = true := by
  unfold Ro.ok at h h' ⊢
  simp only [Bool.and_eq_true, decide_eq_true_iff] at h h' ⊢
  obtain ⟨k1, k2, k3, k4, k5, k6⟩ := h
  obtain ⟨k1', k2', k3', k4', k5', k6'⟩ := h'
  refine ⟨k1, ?_, stm_max k3 k3', stm_max k4 k4', hl, colsB_mrg k6 k6'⟩
  show liveB (R.live.join R'.live) = true
  rcases join_or R.live R'.live with e | e <;> rw [e] <;> assumption
/-- A row by numbers, or joins of such. -/
structure RowIn (r : Ro) : Prop where
  ok : r.ok = true
  cols : ColsIn r.cols
theorem RowIn.join {a b : Ro} (ha : RowIn a) (hb : RowIn b) : RowIn (a.join b) := by
  have hc := ha.cols.mrg hb.cols
  exact ⟨ok_join ha.ok hb.ok (Nat.le_trans hc.len (by omega)), hc⟩
theorem RowIn.up {a : Ro} (h : RowIn a) : a.Up := up_of_ok h.ok
theorem riseK_pair {α : Type} {key : α → ByteArray} : ∀ {l : List α}, RiseK key l ↔ l.Pairwise fun x y => nlt (key x) (key y)
  | [] => ⟨fun _ => List.Pairwise.nil, fun _ => trivial⟩
  | x :: l => by rw [List.pairwise_cons]; exact and_congr Iff.rfl riseK_pair
/-- A partition by numbers, or joins of such. -/
structure PartIn (p : Pa) : Prop where
  key : p.key.size ≤ 100
  gone : stm p.gone = true
  rise : RiseR p.rows
  rows : ∀ r ∈ p.rows, RowIn r ∧ r.key ∈ [dg 0, dg 1, dg 2, dg 3]
theorem PartIn.up {p : Pa} (h : PartIn p) : p.Up := ⟨h.rise, fun r hr => (h.rows r hr).1.up⟩
theorem PartIn.len {p : Pa} (h : PartIn p) : p.rows.length ≤ 4 := riseK_few h.rise fun r hr => (h.rows r hr).2
theorem PartIn.join {a b : Pa} (ha : PartIn a) (hb : PartIn b) : PartIn (a.join b) :=
  ⟨ha.key, stm_max ha.gone hb.gone, mrgK_rise JR.key_ ha.rise, mrgK_all (p := fun r => RowIn r ∧ r.key ∈ [dg 0, dg 1, dg 2, dg 3]) (fun x y e hx hy => ⟨hx.1.join hy.1, hx.2⟩) ha.rows hb.rows⟩
theorem PartIn.ok {p : Pa} (h : PartIn p) : p.ok = true := by
  unfold Pa.ok
  rw [decide_eq_true h.key, h.gone, decide_eq_true (show p.rows.length ≤ 100 from Nat.le_trans h.len (by omega)), rowsB_of h.rise fun r hr => (h.rows r hr).1.ok]
  rfl
theorem ce_bare {c : Ce} (h : liveB c = true) : (Ce.mk ⟨#[]⟩ false 0 0).join c = c := by
  unfold liveB at h
  rw [Bool.and_eq_true] at h
  have h1 := h.1
  unfold Ce.ok at h1
  by_cases h0 : c.a = 0
  · rw [if_pos h0] at h1
    unfold Ce.same at h1
    simp only [Bool.and_eq_true, beq_iff_eq] at h1
    have e : c = ⟨⟨#[]⟩, false, 0, 0⟩ := by
      obtain ⟨s, d, a, e⟩ := c
      obtain ⟨e1, e2, e3, e4⟩ := h1
      simp only at e1 e2 e3 e4
      have : s = ⟨#[]⟩ := ba_ext (by rw [Lib.toList_data, Lib.toList_data] at e1; exact e1)
      subst this e2 e3 e4
      rfl
    rw [e]
    exact join_self _
  · rw [if_neg h0] at h1
    by_cases h2 : stm c.a = false
    · rw [if_pos h2] at h1; cases h1
    · have h3 : stm c.a = true := by cases h : stm c.a <;> simp_all
      unfold stm at h3
      simp only [Bool.and_eq_true, decide_eq_true_iff] at h3
      exact no_join (Or.inl (by omega))
theorem bare_l {r : Ro} (h : r.ok = true) : (Ro.bare r.key).join r = r := by
  have u := up_of_ok h
  unfold Ro.ok at h
  simp only [Bool.and_eq_true, decide_eq_true_iff] at h
  obtain ⟨k1, k2, k3, k4, k5, k6⟩ := h
  unfold stm at k3 k4
  simp only [Bool.and_eq_true, decide_eq_true_iff] at k3 k4
  unfold Ro.join Ro.bare
  simp only
  rw [ce_bare k2, Int.max_eq_right k3.1, Int.max_eq_right k4.1, mrg_comm (l := []) trivial (fun x hx => by cases hx) u.rise u.full]
  rfl
theorem bare_r {r : Ro} (h : r.ok = true) : r.join (Ro.bare r.key) = r :=
  (ro_comm (a := r) (b := Ro.bare r.key) rfl (up_of_ok h) ⟨trivial, fun x hx => by cases hx⟩).trans (bare_l h)
end Go.Proofs.Ytafbbojfifcncaa
set_option linter.unusedVariables false
set_option linter.unusedSimpArgs false
namespace Go.Proofs.Ytafbbojfifcncaa
open Go Go.RowKit Go.Joins

theorem stm_ofP {n : Int} (h0 : 0 ≤ n) (h1 : n ≤ 1099511627776) : stm n = true := by unfold stm; rw [decide_eq_true h0, decide_eq_true h1]; rfl
/-- The row that was made by numbers may be. -/
theorem rowIn_gen {key : ByteArray} (hk : key.size ≤ 400) {a e g : Int} (h : 0 ≤ a ∧ a ≤ 8 ∧ 0 ≤ e ∧ e ≤ 11 ∧ 0 ≤ g ∧ g ≤ 8 ∧ (a = 0 → e = 0)) {l : Cols} (hc : ColsTo 4 l) : RowIn ⟨key, ⟨⟨#[]⟩, false, a, e⟩, g, 0, l⟩ := by
  obtain ⟨h0, h1, h2, h3, h4, h5, h6⟩ := h
  refine ⟨?_, hc.in4⟩
  have hok : Ce.ok ⟨⟨#[]⟩, false, a, e⟩ = true := by
    unfold Ce.ok
    simp only
    by_cases h7 : a = 0
    · rw [if_pos h7]
      have h8 := h6 h7
      subst h7; subst h8
      unfold Ce.same
      simp
    · rw [if_neg h7, stm_ofP h0 (by omega), if_neg (by decide), if_neg (by decide), stm_ofP h2 (by omega)]
      rfl
  have hlive : liveB ⟨⟨#[]⟩, false, a, e⟩ = true := by
    unfold liveB
    rw [hok, Lib.toList_data]
    rfl
  unfold Ro.ok
  simp only
  rw [hlive, stm_ofP h4 (by omega), stm_ofP (Int.le_refl 0) (by omega), hc.ok, decide_eq_true hk, decide_eq_true (show l.length ≤ 8 by have := hc.len; omega)]
  rfl
/-- Each of the rows has columns of its own. -/
def OwnR (w : World) (b : Nat) (L : List RA) : Prop := ∀ x ∈ L, w.ownsRow b 66 5 (.slice x.A x.ro.cols.length x.c) x.ro.cols.length (kRow x.ro.cols)
theorem OwnR.kept {w w' : World} {b : Nat} {L : List RA} (h : OwnR w b L) (hk : ∀ x ∈ L, ∀ g, (Value.slice x.A x.ro.cols.length x.c).ownBlock = some g → w'.heap[g]? = w.heap[g]?) : OwnR w' b L := fun x hx => own_kept (h x hx) (hk x hx)
theorem OwnR.below {w w' : World} {b : Nat} {L : List RA} (h : OwnR w b L) (hb : Below w.heap.size w w') : OwnR w' b L := fun x hx => own_below (h x hx) hb
/-- What rows own and what columns own lies apart. -/
theorem own_apartRC {w : World} {b b' n m s s' : Nat} {v v' : Value} {xs ys : List Value} (h : w.ownsRow b 36 s v n xs) (h' : w.ownsRow b' 66 s' v' m ys) : ∀ g, v'.ownBlock = some g → v.ownBlock ≠ some g := fun g hg e => by
  obtain ⟨cs, h1⟩ := own_tag h g e
  obtain ⟨cs', h2⟩ := own_tag h' g hg
  rw [h1] at h2
  injection h2 with h2
  injection h2 with _ h3 _
  exact absurd h3 (by decide)
/-- Rows whose keys are those of the numbers below t. -/
structure RowsTo (t : Nat) (L : List RA) : Prop where
  rise : RiseR (L.map RA.ro)
  all : ∀ x ∈ L, RowIn x.ro ∧ ∃ i, i < t ∧ x.ro.key = dg i
  len : L.length ≤ t
theorem RowsTo.nil (t : Nat) : RowsTo t [] := ⟨trivial, fun x hx => (by cases hx), Nat.zero_le _⟩
theorem RowsTo.next {t : Nat} {L : List RA} (h : RowsTo t L) : RowsTo (t + 1) L := ⟨h.rise, fun x hx => by
  obtain ⟨h1, i, hi, e⟩ := h.all x hx
  exact ⟨h1, i, by omega, e⟩, Nat.le_succ_of_le h.len⟩
theorem RowsTo.snoc {t : Nat} {L : List RA} (h : RowsTo t L) (ht : t < 4) {x : RA} (hx : RowIn x.ro) (hk : x.ro.key = dg t) : RowsTo (t + 1) (L ++ [x]) := by
  refine ⟨?_, fun y hy => ?_, by have := h.len; simp; omega⟩
  · rw [List.map_append]
    refine riseK_snoc h.rise fun y hy => ?_
    obtain ⟨z, hz, rfl⟩ := List.mem_map.1 hy
    obtain ⟨_, i, hi, e⟩ := h.all z hz
    rw [e, hk]
    exact dg_facts.2 t ht i hi
  · rcases List.mem_append.1 hy with h1 | h1
    · exact h.next.all y h1
    · rw [List.mem_singleton.1 h1]
      exact ⟨hx, t, by omega, hk⟩
theorem RowsTo.part {L : List RA} (h : RowsTo 4 L) {k : ByteArray} {g : Int} (hk : k.size ≤ 100) (hg : 0 ≤ g ∧ g ≤ 8) : PartIn ⟨k, g, L.map RA.ro⟩ :=
  ⟨hk, stm_ofP hg.1 (Int.le_trans hg.2 (by omega)), h.rise, fun r hr => by
    obtain ⟨x, hx, rfl⟩ := List.mem_map.1 hr
    obtain ⟨h1, i, hi, e⟩ := h.all x hx
    refine ⟨h1, ?_⟩
    rw [e]
    have : i = 0 ∨ i = 1 ∨ i = 2 ∨ i = 3 := by omega
    rcases this with rfl | rfl | rfl | rfl <;> simp⟩
/-- The partition under way, at block r. -/
def PB (w : World) (r : Nat) (k : ByteArray) (g : Int) (A : Option Addr) (n c : Nat) : Prop := w.heap[r]? = some (.cells #[.string k, .int .i64 g, .slice A n c] 24 (0, 0))
theorem PB.cells {w : World} {r : Nat} {k : ByteArray} {g : Int} {A : Option Addr} {n c : Nat} (h : PB w r k g A n c) : w.cell? ⟨r, 0, none⟩ = some (.string k) ∧ w.cell? ⟨r, 1, none⟩ = some (.int .i64 g) ∧ w.cell? ⟨r, 2, none⟩ = some (.slice A n c) :=
  ⟨cell_at (i := 0) h rfl, cell_at (i := 1) h rfl, cell_at (i := 2) h rfl⟩
set_option maxRecDepth 8000 in
set_option maxHeartbeats 4000000 in
theorem part_gen (q B : Nat) (key : ByteArray) (w : World) (h : LQ w q B) (hBq : B ≤ q) :
    Calls Try.prog 46 #[.pointer (some ⟨q, 0, none⟩), .string key] w fun x w' => ∃ (g : Int) (L : List RA) (A : Option Addr) (c : Nat), x = .returned (.agg #[.string key, .int .i64 g, .slice A L.length c]) ∧ (0 ≤ g ∧ g ≤ 8) ∧ RowsTo 4 L ∧ w'.ownsRow w.heap.size 36 8 (.slice A L.length c) L.length (rRow L) ∧ OwnR w' w.heap.size L ∧ LQ w' q B ∧ Kept (fun k => k = q) w w' := by
  have hq := h.lt
  have hz0 := heap_alloc_new w (.cells #[.string ⟨#[]⟩, .int .i64 0, .slice none 0 0] 24)
  have hz1 := heap_alloc_new (w.alloc (.cells #[.string ⟨#[]⟩, .int .i64 0, .slice none 0 0] 24)) (.cells #[.string key, .int .i64 0, .slice none 0 0] 24)
  simp only [World.size_alloc] at hz1
  have hz0' := at_new hz0 (.cells #[.string key, .int .i64 0, .slice none 0 0] 24)
  have bz := ((Below.refl w.heap.size w).alloc (Nat.le_refl _) (.cells #[.string ⟨#[]⟩, .int .i64 0, .slice none 0 0] 24)).alloc (by simp) (.cells #[.string key, .int .i64 0, .slice none 0 0] 24)
  obtain ⟨U, hU⟩ : ∃ U, U = (w.alloc (.cells #[.string ⟨#[]⟩, .int .i64 0, .slice none 0 0] 24)).alloc (.cells #[.string key, .int .i64 0, .slice none 0 0] 24) := ⟨_, rfl⟩
  have hUs : U.heap.size = w.heap.size + 2 := by rw [hU]; simp
  rw [← hU] at hz0' hz1 bz
  have HL := Lib.hid (h.below bz (by omega)); have HZ0 := Lib.hid hz0'; have HZ1 := Lib.hid hz1; have BZ := Lib.hid bz; have HUS := Lib.hid hUs
  clear hz0 hz0' hz1 bz hUs h
  go_enter Try.func46, Try.ntmps46
  go_wp2_with fail
  rw [← hU]
  clear hU
  refine (next_gen q B 1048576 _ HL.out hBq (by omega) (by omega)).mono ?_
  rintro x w1 ⟨v, rfl, v0, v1, hl1, hk1⟩
  have hs1 := hk1.size
  have R1 : Hid (PB w1 (w.heap.size + 1) key 0 none 0 0) := Lib.hid ((hk1.block (w.heap.size + 1) (by have := HUS.out; omega) (by omega)).trans HZ1.out)
  have Z1 := Lib.hid ((hk1.block w.heap.size (by have := HUS.out; omega) (by omega)).trans HZ0.out)
  have K1 : Hid (Kept (fun k => k = q) w w1) := Lib.hid ((Kept.of_below BZ.out _).trans hk1 fun k hk => Or.inl hk)
  have L1 := Lib.hid hl1
  have V0 := Lib.hid v0; have V1 := Lib.hid v1
  have HS1 := Lib.hid hs1
  have y0 : 0 ≤ v.tdiv 5 := by rw [Int.tdiv_eq_ediv_of_nonneg v0]; exact Int.ediv_nonneg v0 (by omega)
  have y1 : v.tdiv 5 < 1048576 := by rw [Int.tdiv_eq_ediv_of_nonneg v0]; exact Int.lt_of_le_of_lt (Int.ediv_le_self _ v0) v1
  obtain ⟨y, hy⟩ : ∃ p, v.tdiv 5 = p := ⟨_, rfl⟩
  rw [hy] at y0 y1
  have b0 : 0 ≤ y.tmod 8 := by rw [Int.tmod_eq_emod_of_nonneg y0]; exact Int.emod_nonneg _ (by omega)
  have b1 : y.tmod 8 < 8 := by rw [Int.tmod_eq_emod_of_nonneg y0]; exact Int.emod_lt_of_pos _ (by omega)
  obtain ⟨b, hb⟩ : ∃ b, y.tmod 8 = b := ⟨_, rfl⟩
  rw [hb] at b0 b1
  have wy : wrap64 y = y := by unfold wrap64; omega
  obtain ⟨i, hi⟩ : ∃ i, v.tmod 5 = i := ⟨_, rfl⟩
  clear hl1 hk1 hs1 v0 v1
  go_upto_if 14 with fail
  go_cut [] from 15 to 18 (fun wx => ∃ g : Int, (0 ≤ g ∧ g ≤ 8) ∧ PB wx (w.heap.size + 1) key g none 0 0 ∧ Kept (fun k => k = w.heap.size + 1) w1 wx)
  case first =>
    by_cases h4 : i = 0
    · have hi2 : (i == 0) = true := by rw [beq_iff_eq]; exact h4
      clear h4
      have m0 := block_setCell (i := 1) R1.out (.int .i64 b)
      have M0 := Lib.hid m0
      have k0 := cell_at (i := 1) R1.out rfl
      have f0 := thawed_at (i := 1) R1.out
      clear m0
      go_wp2_with fail
      go_meet
      exact ⟨b, by omega, M0.out, Kept.setCell (fun k => k = w.heap.size + 1) w1 ⟨w.heap.size + 1, 1, none⟩ _ rfl⟩
    · have hi2 : (i == 0) = false := by rw [beq_eq_false_iff_ne]; exact h4
      clear h4
      go_wp2_with fail
      go_meet
      exact ⟨0, by omega, R1.out, Kept.refl _ _⟩
  case rest =>
    obtain ⟨g, hg, hr3, hk3⟩ := hcut
    generalize wc = w3 at hr3 hk3 ⊢
    clear hb b0 b1 wy hy y0 y1 hi
    have hs3 := hk3.size
    have hl3 : LQ w3 q B := L1.out.kept hk3 (fun k hk => by omega) hBq
    have hz3 := (hk3.block w.heap.size (by have := HUS.out; have := HS1.out; omega) (by omega)).trans Z1.out
    have hk3' : Kept (fun k => k = q) w w3 := K1.out.trans hk3 fun k hk => Or.inr (by omega)
    have HS3 := Lib.hid (show w.heap.size + 2 ≤ w3.heap.size by have := HUS.out; have := HS1.out; omega)
    have HG := Lib.hid hg; have R3 := Lib.hid hr3; have L3 := Lib.hid hl3; have Z3 := Lib.hid hz3; have K3 := Lib.hid hk3'
    clear hg hr3 hk3 hs3 hl3 hz3 hk3' K1 L1 Z1 R1 HS1 HUS BZ HZ0 HZ1
    go_wp2_with fail
    go_loopw [7] (fun i wr => ∃ (t : Nat) (ti : Int) (L : List RA) (A : Option Addr) (c : Nat), t ≤ 4 ∧ i = .int .i64 ti ∧ ti = (t : Int) ∧ RowsTo t L ∧ PB wr (w.heap.size + 1) key g A L.length c ∧ wr.ownsRow (w.heap.size + 2) 36 8 (.slice A L.length c) L.length (rRow L) ∧ OwnR wr (w.heap.size + 2) L ∧ LQ wr q B ∧ Kept (fun k => k = q) w wr ∧ w.heap.size + 2 ≤ wr.heap.size ∧ wr.heap[w.heap.size]? = some (.cells #[.string ⟨#[]⟩, .int .i64 0, .slice none 0 0] 24 (0, 0))) (fun i _ => 4 - (intOf i).toNat)
    case atStart => exact ⟨0, 0, [], none, 0, by omega, rfl, rfl, RowsTo.nil 0, R3.out, own_nilR _ _, (fun x hx => by cases hx), L3.out, K3.out, HS3.out, Z3.out⟩
    case round =>
      obtain ⟨t, ti, L, A, c, ht, rfl, hti, hct, hrb, how, hor, hlq, hkp, hsz, hz⟩ := hrel
      have CT := Lib.hid hct; have RBl := Lib.hid hrb; have OW := Lib.hid how; have OR := Lib.hid hor; have LQ_ := Lib.hid hlq; have KP := Lib.hid hkp; have ZZ := Lib.hid hz; have SZ := Lib.hid hsz
      clear hct hrb how hor hlq hkp hz hsz
      by_cases h4 : t = 4
      · subst h4
        obtain rfl : ti = 4 := hti
        obtain ⟨p0, p1, p2⟩ := PB.cells RBl.out
        have m0 := block_setCell (i := 0) ZZ.out (.string key)
        simp only [List.setIfInBounds_toArray, List.set_cons_zero, List.set_cons_succ] at m0
        have kc0 := cell_at (i := 0) ZZ.out rfl
        have f0 := thawed_at (i := 0) ZZ.out
        have m1 := block_setCell (i := 1) m0 (.int .i64 g)
        simp only [List.setIfInBounds_toArray, List.set_cons_zero, List.set_cons_succ] at m1
        have kc1 := cell_at (i := 1) m0 rfl
        have f1 := thawed_at (i := 1) m0
        have m2 := block_setCell (i := 2) m1 (.slice A L.length c)
        simp only [List.setIfInBounds_toArray, List.set_cons_zero, List.set_cons_succ] at m2
        have kc2 := cell_at (i := 2) m1 rfl
        have f2 := thawed_at (i := 2) m1
        have M2 := Lib.hid m2
        have KF : Hid (Kept (fun k => k = w.heap.size) wr (((wr.setCell ⟨w.heap.size, 0, none⟩ (.string key)).setCell ⟨w.heap.size, 1, none⟩ (.int .i64 g)).setCell ⟨w.heap.size, 2, none⟩ (.slice A L.length c))) := Lib.hid ((((Kept.refl (fun k => k = w.heap.size) wr).trans (Kept.setCell (fun k => k = w.heap.size) _ ⟨w.heap.size, 0, none⟩ (.string key) rfl) fun _ h => Or.inl h).trans (Kept.setCell (fun k => k = w.heap.size) _ ⟨w.heap.size, 1, none⟩ (.int .i64 g) rfl) fun _ h => Or.inl h).trans (Kept.setCell (fun k => k = w.heap.size) _ ⟨w.heap.size, 2, none⟩ (.slice A L.length c) rfl) fun _ h => Or.inl h)
        clear m0 m1 m2
        go_wp2
        generalize hw9 : (((wr.setCell ⟨w.heap.size, 0, none⟩ (.string key)).setCell ⟨w.heap.size, 1, none⟩ (.int .i64 g)).setCell ⟨w.heap.size, 2, none⟩ (.slice A L.length c)) = w9 at KF M2 ⊢
        clear hw9 kc0 kc1 kc2 f0 f1 f2
        have z0 := cell_at (i := 0) M2.out rfl
        have z1 := cell_at (i := 1) M2.out rfl
        have z2 := cell_at (i := 2) M2.out rfl
        have hown : w9.ownsRow w.heap.size 36 8 (.slice A L.length c) L.length (rRow L) := own_lower (own_kept OW.out fun k hk => KF.out.block k (own_block_lt OW.out k hk) (by have := (OW.out.lt k hk).1; omega)) (by omega)
        have hor9 : OwnR w9 w.heap.size L := fun x hx => own_lower (own_kept (OR.out x hx) fun k hk => KF.out.block k (own_block_lt (OR.out x hx) k hk) (by have := ((OR.out x hx).lt k hk).1; omega)) (by omega)
        have hlq9 := LQ_.out.kept KF.out (fun k hk => by omega) hBq
        have hkp9 : Kept (fun k => k = q) w w9 := KP.out.trans KF.out fun k hk => Or.inr (by omega)
        have hct := CT.out
        have hg9 := HG.out
        exact bodyPost_ret (v := .agg #[.string key, .int .i64 g, .slice A L.length c]) (by simp [results, Try.results46, go_sem, z0, z1, z2]) rfl ⟨g, L, A, c, rfl, hg9, hct, hown, hor9, hlq9, hkp9⟩
      have ht4 : t < 4 := by omega
      have e8 : wrap64 (8 + ti) = 8 + ti := by unfold wrap64; omega
      go_wp2_with fail
      · refine wp_region_z (S := fun w' => PB w' (w.heap.size + 1) key g A L.length c) 9 (by kernel_rfl) ?_ (fun hHeld => ?_)
        · exact RBl.out
        refine wpAnyZ_take (i := 0) (v := ?_) rfl (by kernel_rfl) (by kernel_rfl) (by kernel_rfl) (by kernel_rfl) (fun _ _ _ h => h) (Or.inl ⟨by rfl, ?_⟩) (by assumption) ?_
        rotate_left
        · (intro wx hSw; (try dsimp only at hSw); go_simp; try with_reducible rfl)
        try simp only [Act.put, List.getElem_toArray, List.getElem_cons_succ, List.getElem_cons_zero, List.setIfInBounds_toArray, List.set_cons_zero, List.set_cons_succ]
        refine wpAnyZ_take (i := 1) (v := ?_) rfl (by kernel_rfl) (by kernel_rfl) (by kernel_rfl) (by kernel_rfl) (fun _ _ _ h => h) (Or.inl ⟨by rfl, ?_⟩) (by assumption) ?_
        rotate_left
        · (intro wx hSw; (try dsimp only at hSw); obtain ⟨_, _, _⟩ := PB.cells hSw; go_simp; try with_reducible rfl)
        try simp only [Act.put, List.getElem_toArray, List.getElem_cons_succ, List.getElem_cons_zero, List.setIfInBounds_toArray, List.set_cons_zero, List.set_cons_succ]
        refine wpAnyZ_take (i := 2) (v := ?_) rfl (by kernel_rfl) (by kernel_rfl) (by kernel_rfl) (by kernel_rfl) (fun _ _ _ h => h) (Or.inl ⟨by rfl, ?_⟩) (by assumption) ?_
        rotate_left
        · (intro wx hSw; (try dsimp only at hSw); go_simp; try with_reducible rfl)
        try simp only [Act.put, List.getElem_toArray, List.getElem_cons_succ, List.getElem_cons_zero, List.setIfInBounds_toArray, List.set_cons_zero, List.set_cons_succ]
        refine wpAnyZ_take (i := 3) (v := ?_) rfl (by kernel_rfl) (by kernel_rfl) (by kernel_rfl) (by kernel_rfl) (fun _ _ _ h => h) (Or.inl ⟨by rfl, ?_⟩) (by assumption) ?_
        rotate_left
        · (intro wx hSw; (try dsimp only at hSw); go_simp; try with_reducible rfl)
        try simp only [Act.put, List.getElem_toArray, List.getElem_cons_succ, List.getElem_cons_zero, List.setIfInBounds_toArray, List.set_cons_zero, List.set_cons_succ]
        refine wpAnyZ_one (i := 4) (by kernel_rfl) rfl (fun K hK => ?_)
        go_simp
        refine (rint_anyE _ _ (by omega) (by omega)).mono ?_
        rintro x v1 ⟨s, rfl, hs, hb1⟩
        have es : s = dg t := ba_ext (by rw [hs]; rfl)
        subst es
        replace hb1 : Below wr.heap.size wr v1 := next ((Below.refl wr.heap.size wr).drew) hb1
        have HB1 := Lib.hid hb1; have LQ1 := Lib.hid (LQ_.out.below hb1 (by have := LQ_.out.lt; omega)); have HV1 := Lib.hid hb1.size
        clear hs hb1
        try go_wp2_with fail
        refine hK.out _ _ ?_ (fun hHeld => ?_)
        · exact (HB1.out.block (w.heap.size + 1) (by have := SZ.out; have := (Array.getElem?_eq_some_iff.1 RBl.out).1; omega)).trans RBl.out
        clear hK K
        try simp only [Act.put, List.getElem_toArray, List.getElem_cons_succ, List.getElem_cons_zero, List.setIfInBounds_toArray, List.set_cons_zero, List.set_cons_succ]
        refine wpAnyZ_one (i := 5) (by kernel_rfl) rfl (fun K hK => ?_)
        go_simp
        refine (row_gen q B (dg t) _ LQ1.out hBq).mono ?_
        rintro x v2 ⟨a2, e2, g2, l2, A2, c2, rfl, hae2, hc2, ho2, hlq2, hkp2⟩
        have HAE := Lib.hid hae2; have HC2 := Lib.hid hc2; have HO2 := Lib.hid ho2; have LQ2 := Lib.hid hlq2; have KP2 := Lib.hid hkp2
        clear hae2 hc2 ho2 hlq2 hkp2
        try go_wp2_with fail
        refine hK.out _ _ ?_ (fun hHeld => ?_)
        · exact (KP2.out.block (w.heap.size + 1) (by have := (Array.getElem?_eq_some_iff.1 hHeld).1; omega) (by omega)).trans hHeld
        clear hK K
        try simp only [Act.put, List.getElem_toArray, List.getElem_cons_succ, List.getElem_cons_zero, List.setIfInBounds_toArray, List.set_cons_zero, List.set_cons_succ]
        have hs2 : wr.heap.size ≤ v1.heap.size ∧ v1.heap.size ≤ v2.heap.size := ⟨HV1.out, KP2.out.size⟩
        have HS2 := Lib.hid hs2
        have kC : Kept (fun k => k = q) wr v2 := (Kept.of_below HB1.out _).trans KP2.out fun k hk => Or.inl hk
        have hown2 := own_kept OW.out fun k hk => kC.block k (own_block_lt OW.out k hk) (by have := (OW.out.lt k hk).1; omega)
        have hor2 : OwnR v2 (w.heap.size + 2) L := OR.out.kept fun x hx k hk => kC.block k (own_block_lt (OR.out x hx) k hk) (by have := ((OR.out x hx).lt k hk).1; omega)
        have hb3 := (Below.refl v2.heap.size v2).alloc (Nat.le_refl _) (.cells #[.string (dg t), .string ⟨#[]⟩, .bool false, .int .i64 a2, .int .i64 e2, .int .i64 g2, .int .i64 0, .slice A2 l2.length c2] 36)
        have OWN := Lib.hid (own_below hown2 hb3)
        have OR2 := Lib.hid (hor2.below hb3)
        have HO3' := Lib.hid (own_below HO2.out hb3)
        have RD : Hid (RdR (v2.alloc (.cells #[.string (dg t), .string ⟨#[]⟩, .bool false, .int .i64 a2, .int .i64 e2, .int .i64 g2, .int .i64 0, .slice A2 l2.length c2] 36)) (v2.heap.size + 1) (some ⟨v2.heap.size, 0, none⟩) 1 [⟨⟨dg t, ⟨⟨#[]⟩, false, a2, e2⟩, g2, 0, l2⟩, A2, c2⟩]) := Lib.hid (RdR.one v2 ⟨⟨dg t, ⟨⟨#[]⟩, false, a2, e2⟩, g2, 0, l2⟩, A2, c2⟩ v2.heap.size rfl)
        clear hown2 hor2 hb3 hs2 kC
        refine wpAnyZ_one (i := 6) (by kernel_rfl) rfl (fun K hK => ?_)
        go_simp
        refine hK.out _ _ ?_ (fun hHeld => ?_)
        · exact at_new hHeld _
        clear hK K
        try simp only [Act.put, List.getElem_toArray, List.getElem_cons_succ, List.getElem_cons_zero, List.setIfInBounds_toArray, List.set_cons_zero, List.set_cons_succ]
        refine wpAnyZ_one (i := 7) (by kernel_rfl) rfl (fun K hK => ?_)
        refine step_ex rfl (.tmp 31) (.tmp 36) _ _ rfl (.slice A L.length c) (.slice (some ⟨v2.heap.size, 0, none⟩) 1 1) (by simp [Act.eval]) (by simp [Act.eval]) (run_appR (w.heap.size + 2) OWN.out RD.out ?s1 ?s2) ?_
        case s1 => have := CT.out.len; omega
        case s2 => have := SZ.out; have := HS2.out; simp; omega
        intro v3 w3 ho3 hg3
        obtain ⟨hg3, _⟩ := hg3
        obtain ⟨A3, c3, rfl, _⟩ := own_slice ho3
        have HO3 := Lib.hid ho3; have HG3 := Lib.hid hg3
        clear ho3 hg3
        refine hK.out _ _ ?_ (fun hHeld => ?_)
        · exact (HG3.out.block (w.heap.size + 1) (by have := SZ.out; have := HS2.out; simp; omega) (fun e => by have := (OWN.out.lt _ e.symm).1; omega)).trans hHeld
        clear hK K
        try simp only [Act.put, List.getElem_toArray, List.getElem_cons_succ, List.getElem_cons_zero, List.setIfInBounds_toArray, List.set_cons_zero, List.set_cons_succ]
        have k2 := cell_at (i := 2) hHeld rfl
        have f2 := thawed_at (i := 2) hHeld
        have RB3 := Lib.hid hHeld
        refine wpAnyZ_take (i := 8) (v := ?_) rfl (by kernel_rfl) (by kernel_rfl) (by kernel_rfl) (by kernel_rfl) (fun _ _ _ h => h) (Or.inl ⟨by rfl, ?_⟩) (by assumption) ?_
        rotate_left
        · (intro wx hSw; (try dsimp only at hSw); go_simp; try with_reducible rfl)
        try simp only [Act.put, List.getElem_toArray, List.getElem_cons_succ, List.getElem_cons_zero, List.setIfInBounds_toArray, List.set_cons_zero, List.set_cons_succ]
        refine wpAnyZ_last (by kernel_rfl) rfl (fun K hK => ?_)
        go_simp
        refine hK.out _ _ ?_
        clear hK K
        try simp only [Act.put, List.getElem_toArray, List.getElem_cons_succ, List.getElem_cons_zero, List.setIfInBounds_toArray, List.set_cons_zero, List.set_cons_succ]
        refine wpAnyZ_done (by kernel_rfl) ?_ _
        have kA : Kept (fun k => w.heap.size + 1 ≤ k) v2 (w3.setCell ⟨w.heap.size + 1, 2, none⟩ (.slice A3 (L.length + 1) c3)) := ((Kept.alloc (fun k => w.heap.size + 1 ≤ k) v2 _).trans (Kept.of_grown (F := fun k => w.heap.size + 1 ≤ k) HG3.out (fun k hk => by have := (OWN.out.lt k hk).1; omega)) (fun k hk => Or.inl hk)).trans (Kept.setCell (fun k => w.heap.size + 1 ≤ k) w3 ⟨w.heap.size + 1, 2, none⟩ _ (Nat.le_refl _)) fun k hk => Or.inl hk
        have kB : Kept (fun k => k = q ∨ w.heap.size + 1 ≤ k) wr _ := ((Kept.of_below HB1.out (fun k => k = q ∨ w.heap.size + 1 ≤ k)).trans KP2.out (fun k hk => Or.inl (Or.inl hk))).trans kA (fun k hk => Or.inl (Or.inr hk))
        have hm2 := block_setCell (i := 2) RB3.out (.slice A3 (L.length + 1) c3)
        simp only [List.setIfInBounds_toArray, List.set_cons_zero, List.set_cons_succ] at hm2
        have hl9 : LQ _ q B := LQ2.out.kept kA (fun k hk => by omega) hBq
        have hz9 := (kB.block w.heap.size (by have := SZ.out; omega) (by omega)).trans ZZ.out
        have hk9 : Kept (fun k => k = q) w _ := KP.out.trans kB fun k hk => by omega
        have ho9 := own_kept HO3.out (w' := w3.setCell ⟨w.heap.size + 1, 2, none⟩ (.slice A3 (L.length + 1) c3)) fun g hg => Below.heap_setCell _ _ _ _ (by have := (HO3.out.lt g hg).1; show g ≠ w.heap.size + 1; omega)
        have hgo : ∀ {m : Nat} {vv : Value} {ys : List Value}, ((v2.alloc (.cells #[.string (dg t), .string ⟨#[]⟩, .bool false, .int .i64 a2, .int .i64 e2, .int .i64 g2, .int .i64 0, .slice A2 l2.length c2] 36))).ownsRow (w.heap.size + 2) 66 5 vv m ys → (w3.setCell ⟨w.heap.size + 1, 2, none⟩ (.slice A3 (L.length + 1) c3)).ownsRow (w.heap.size + 2) 66 5 vv m ys := fun {m vv ys} ho =>
          own_kept (own_kept ho fun g hg => HG3.out.block g (own_block_lt ho g hg) fun e => own_apartRC OWN.out ho g hg e.symm) fun g hg => Below.heap_setCell _ _ _ _ (by have := (ho.lt g hg).1; show g ≠ w.heap.size + 1; omega)
        have hor9 : OwnR (w3.setCell ⟨w.heap.size + 1, 2, none⟩ (.slice A3 (L.length + 1) c3)) (w.heap.size + 2) (L ++ [⟨⟨dg t, ⟨⟨#[]⟩, false, a2, e2⟩, g2, 0, l2⟩, A2, c2⟩]) := fun x hx => by
          rcases List.mem_append.1 hx with h1 | h1
          · exact hgo (OR2.out x h1)
          · rw [List.mem_singleton.1 h1]
            exact hgo (own_lower HO3'.out (by have := SZ.out; have := HS2.out; omega))
        have hs9 := kB.size
        generalize w3.setCell ⟨w.heap.size + 1, 2, none⟩ (.slice A3 (L.length + 1) c3) = w9 at *
        have HM2 := Lib.hid hm2; have HL9 := Lib.hid hl9; have HZ9 := Lib.hid hz9; have HK9 := Lib.hid hk9; have HO9 := Lib.hid ho9; have HOR9 := Lib.hid hor9
        clear kA kB hm2 hl9 hz9 hk9 ho9 hor9 hgo k2 f2 hHeld
        go_wp2
        go_roundw
        case rel => exact ⟨t + 1, (t : Int) + 1, L ++ [⟨⟨dg t, ⟨⟨#[]⟩, false, a2, e2⟩, g2, 0, l2⟩, A2, c2⟩], A3, c3, by omega, rfl, by omega, CT.out.snoc ht4 (rowIn_gen (by rw [dg_facts.1 t ht4]; omega) HAE.out HC2.out) rfl, by rw [List.length_append]; exact HM2.out, by rw [List.length_append]; exact HO9.out, HOR9.out, HL9.out, HK9.out, by have := SZ.out; omega, HZ9.out⟩
        case measure => simp [intOf]; omega
      · go_roundw
        case rel => exact ⟨t + 1, (t : Int) + 1, L, A, c, by omega, rfl, by omega, CT.out.next, RBl.out, OW.out, OR.out, LQ_.out, KP.out, SZ.out, ZZ.out⟩
        case measure => simp [intOf]; omega
end Go.Proofs.Ytafbbojfifcncaa
set_option linter.unusedVariables false
set_option linter.unusedSimpArgs false
namespace Go.Proofs.Ytafbbojfifcncaa
open Go Go.RowKit Go.Joins

/-- Rows and columns that are own. -/
structure Own3 (b : Nat) (w : World) (x : PA) : Prop where
  rows : w.ownsRow b 36 8 (.slice x.A x.L.length x.c) x.L.length (rRow x.L)
  cols : OwnR w b x.L
theorem Own3.kept {b : Nat} {w w' : World} {x : PA} {F : Nat → Prop} (h : Own3 b w x) (hk : Kept F w w') (hF : ∀ k, F k → ∃ cs e, w.heap[k]? = some (.cells cs e (0, 0)) ∧ e ≠ 36 ∧ e ≠ 66) : Own3 b w' x := by
  have key : ∀ {g : Nat} {cs : Array Value} {e : TypeId}, w.heap[g]? = some (.cells cs e (0, 0)) → (e = 36 ∨ e = 66) → ¬ F g := fun {g cs e} h1 he hf => by
    obtain ⟨cs', e', h2, h3, h4⟩ := hF g hf
    rw [h1] at h2
    injection h2 with h2
    injection h2 with _ h5 _
    subst h5
    exact he.elim h3 h4
  refine ⟨own_kept h.rows fun g hg => hk.block g (own_block_lt h.rows g hg) ?_, fun y hy => own_kept (h.cols y hy) fun g hg => hk.block g (own_block_lt (h.cols y hy) g hg) ?_⟩
  · obtain ⟨cs, h1⟩ := own_tag h.rows g hg
    exact key h1 (Or.inl rfl)
  · obtain ⟨cs, h1⟩ := own_tag (h.cols y hy) g hg
    exact key h1 (Or.inr rfl)
theorem Own3.on {b : Nat} {w w' : World} {x : PA} (h : Own3 b w x) (hb : Below w.heap.size w w') : Own3 b w' x := ⟨own_below h.rows hb, h.cols.below hb⟩
theorem Own3.lies {b : Nat} {w : World} {x : PA} (h : Own3 b w x) : Lies w w.heap.size x.A x.L.length x.c x.L := by
  obtain ⟨A', c', e, h1, _⟩ := own_slice h.rows
  injection e with e1 e2 e3
  subst e3
  refine ⟨RdR.of_own h.rows, fun y hy => ?_, h1⟩
  obtain ⟨A'', c'', e, h2, _⟩ := own_slice (h.cols y hy)
  injection e with e1 e2 e3
  subst e3
  exact ⟨RdK.of_own (h.cols y hy), h2⟩
/-- A partition by numbers. -/
def PNum (key : ByteArray) (x : PA) : Prop := x.k = key ∧ PartIn ⟨key, x.g, ros x.L⟩
set_option maxRecDepth 8000 in
set_option maxHeartbeats 8000000 in
theorem several_any (A : Option Addr) (n c : Nat) (l : List Int) (k : Nat) (key : ByteArray) (w : World) (hr : RdZ w w.heap.size A n l) (hnc : n ≤ c) (hc : c ≤ maxLen) (hx : ∀ x ∈ l, (Lit.int .i64 x).wf = true) (hk : k ≤ 1000) (hkey : key.size ≤ 100) :
    Calls Try.prog 26 #[.slice A n c, .int .i64 k, .string key] w fun e w' => ∃ (Ps : List PA) (A' : Option Addr) (c' : Nat), e = .returned (.slice A' k c') ∧ Ps.length = k ∧ (∀ x ∈ Ps, PNum key x ∧ Lies w' w'.heap.size x.A x.L.length x.c x.L) ∧ RdP w' w'.heap.size A' k Ps ∧ Below w.heap.size w w' := by
  have bz := (Below.refl w.heap.size w).alloc (Nat.le_refl _) (.cells #[.slice A n c] 69)
  have hlq : LQ (w.alloc (.cells #[.slice A n c] 69)) w.heap.size w.heap.size := ⟨A, n, c, l, heap_alloc_new w _, hr.below bz, hnc, hc, fun x hx' => bounds_i64 (hx x hx')⟩
  obtain ⟨V, hV⟩ : ∃ V, V = w.alloc (.cells #[.slice A n c] 69) := ⟨_, rfl⟩
  rw [← hV] at bz hlq
  have BZ := Lib.hid bz; have HLQ := Lib.hid hlq
  clear bz hlq hr hx
  go_enter Try.func26, Try.ntmps26
  go_wp2_with fail
  rw [← hV]
  clear hV
  go_wp2_with fail
  go_loopw [9, 8] (fun iv mv wr => ∃ (t : Nat) (Ps : List PA) (A' : Option Addr) (c' : Nat), t ≤ k ∧ iv = .int .i64 t ∧ mv = .slice A' t c' ∧ wr.ownsRow w.heap.size 24 3 (.slice A' t c') t (pRow Ps) ∧ (∀ x ∈ Ps, PNum key x ∧ Own3 w.heap.size wr x) ∧ LQ wr w.heap.size w.heap.size ∧ Below w.heap.size w wr) (fun iv _ _ => k - (intOf iv).toNat)
  case atStart => exact ⟨0, [], none, 0, Nat.zero_le _, rfl, rfl, own_nilP _ _, (fun x hx => by cases hx), HLQ.out, BZ.out⟩
  case round =>
    obtain ⟨t, Ps, A', c', ht, rfl, rfl, ho, hp, hq, hb⟩ := hrel
    have HO := Lib.hid ho; have HP := Lib.hid hp; have HQ := Lib.hid hq; have HB := Lib.hid hb
    clear ho hp hq hb
    by_cases hlt : t < k
    · have i1 : (t : Int) < k := by omega
      go_wp2_with fail
      refine (part_gen w.heap.size w.heap.size key _ HQ.out (Nat.le_refl _)).mono ?_
      rintro e w1 ⟨g, L, A1, c1, rfl, hg, hrt, hor, hoc, hlq, hkp⟩
      have hL : ∃ cs e, wr.heap[w.heap.size]? = some (.cells cs e (0, 0)) ∧ e ≠ 36 ∧ e ≠ 66 ∧ e ≠ 24 := by
        obtain ⟨A2, n2, c2, l2, h1, _⟩ := HQ.out.ex
        exact ⟨_, _, h1, by decide, by decide, by decide⟩
      obtain ⟨csL, eL, hL1, hL2, hL3, hL4⟩ := hL
      have ho1 := own_kept HO.out fun j hj => hkp.block j (own_block_lt HO.out j hj) fun e => by
        subst e
        obtain ⟨cs', h2⟩ := own_tag HO.out _ hj
        rw [hL1] at h2
        injection h2 with h2
        injection h2 with _ h3 _
        exact hL4 h3
      have hws := HB.out.size
      have hnew : Own3 w.heap.size w1 (⟨key, g, L, A1, c1⟩ : PA) := ⟨own_lower hor hws, fun y hy => own_lower (hoc y hy) hws⟩
      have hold : ∀ x ∈ Ps ++ [(⟨key, g, L, A1, c1⟩ : PA)], PNum key x ∧ Own3 w.heap.size w1 x := fun x hx => by
        rcases List.mem_append.1 hx with h1 | h1
        · exact ⟨(HP.out x h1).1, (HP.out x h1).2.kept hkp fun j hj => by subst hj; exact ⟨_, _, hL1, hL2, hL3⟩⟩
        · rw [List.mem_singleton.1 h1]
          exact ⟨⟨rfl, hrt.part hkey hg⟩, hnew⟩
      have hb1 : Below w.heap.size w w1 := HB.out.trans (hkp.below (fun j hj => by omega) hws)
      have ha2 := (Below.refl w1.heap.size w1).alloc (Nat.le_refl _) (.cells #[.string key, .int .i64 g, .slice A1 L.length c1] 24)
      have HO2 := Lib.hid (own_below ho1 ha2); have RD := Lib.hid (RdP.laid w1 (⟨key, g, L, A1, c1⟩ : PA)); have HB2 := Lib.hid (next hb1 ha2); have HLQ2 := Lib.hid (hlq.below ha2 (by have := hkp.size; omega))
      have HOLD := Lib.hid (fun x hx => And.intro (hold x hx).1 ((hold x hx).2.on ha2))
      clear ho1 hnew hold hb1 ha2 hlq hkp hor hoc hrt hL1
      go_wp2_with (at_builtin; refine list_ex rfl (.tmp 18) (.tmp 22) _ _ rfl (.slice A' t c') (.slice (some ⟨w1.heap.size, 0, none⟩) 1 1) rfl rfl (run_appP w.heap.size HO2.out RD.out ?s1 ?s2) ?_)
      case s1 => omega
      case s2 => simpa using HB2.out.size
      intro v3 w3 ho3 hg3 hloc3
      obtain ⟨A3, c3, rfl, _⟩ := own_slice ho3
      have hk3 := Kept.of_grown (F := fun k => (Value.slice A' t c').ownBlock = some k) hg3 fun k hk => hk
      have hb3 : Below w.heap.size w w3 := HB2.out.trans (hk3.below (fun j hj => (HO2.out.lt j hj).1) HB2.out.size)
      have hold3 : ∀ x ∈ Ps ++ [(⟨key, g, L, A1, c1⟩ : PA)], PNum key x ∧ Own3 w.heap.size w3 x := fun x hx => ⟨(HOLD.out x hx).1, (HOLD.out x hx).2.kept hk3 fun j hj => by
        obtain ⟨cs, h1⟩ := own_tag HO2.out j hj
        exact ⟨cs, _, h1, by decide, by decide⟩⟩
      have hlq3 : LQ w3 w.heap.size w.heap.size := HLQ2.out.kept hk3 (fun j hj => Nat.lt_of_le_of_ne (HO2.out.lt j hj).1 fun e => by
        subst e
        obtain ⟨cs, h1⟩ := own_tag HO2.out _ hj
        obtain ⟨A2, n2, c2, l2, h2, _⟩ := HLQ2.out.ex
        unfold LAt at h2
        rw [h1] at h2
        injection h2 with h2
        injection h2 with _ h3 _
        exact absurd h3 (by decide)) (Nat.le_refl _)
      have HO3 := Lib.hid ho3; have HB3 := Lib.hid hb3; have HOLD3 := Lib.hid hold3; have HLQ3 := Lib.hid hlq3
      clear ho3 hg3 hloc3 hk3 hb3 hold3 hlq3
      go_wp2
      go_roundw
      case rel => exact ⟨t + 1, _, A3, c3, by omega, by go_num, rfl, HO3.out, HOLD3.out, HLQ3.out, HB3.out⟩
      case measure => simp [intOf]; omega
    · obtain rfl : t = k := by omega
      have d0 : decide ((t : Int) < (t : Int)) = false := by simp
      go_wp2
      go_ret
      have hl : Ps.length = t := by have := HO.out.1; rw [pRow_length] at this; omega
      have hps : ∀ x ∈ Ps, PNum key x ∧ Lies wr wr.heap.size x.A x.L.length x.c x.L := fun x hx => ⟨(HP.out x hx).1, (HP.out x hx).2.lies⟩
      first | exact ⟨Ps, A', c', rfl, hl, hps, RdP.of_own HO.out, HB.out⟩ | exact ⟨Ps, A', ⟨c', rfl⟩, hl, hps, RdP.of_own HO.out, HB.out⟩
end Go.Proofs.Ytafbbojfifcncaa
set_option linter.unusedVariables false
set_option linter.unusedSimpArgs false
namespace Go.Proofs.Ytafbbojfifcncaa
open Go Go.RowKit

/-- Not too much of each row. -/
def FewR (L : List RA) : Prop := ∀ x ∈ L, Few x.ro.cols ∧ x.ro.live.s.size ≤ maxLen ∧ x.ro.cols.length ≤ 1000
theorem check_ra (x : RA) (B : Nat) (w : World) (h : RaIn w B x) (hB : B ≤ w.heap.size) (hf : Few x.ro.cols ∧ x.ro.live.s.size ≤ maxLen ∧ x.ro.cols.length ≤ 1000) :
    Calls Try.prog 47 #[.agg #[.string x.ro.key, .string x.ro.live.s, .bool x.ro.live.d, .int .i64 x.ro.live.a, .int .i64 x.ro.live.e, .int .i64 x.ro.gone, .int .i64 x.ro.shade, .slice x.A x.ro.cols.length x.c]] w fun e w' => e = .returned (.bool x.ro.ok) ∧ Below w.heap.size w w' :=
  check_ro x.ro x.A x.c B w h hB hf.2.2 hf.1 hf.2.1
theorem pstamp_any (n : Int) (w : World) : Calls Try.prog 29 #[.int .i64 n] w fun x w' => x = .returned (.bool (stm n)) ∧ w = w' := by
  go_enter Try.func29, Try.ntmps29
  by_cases h0 : 0 ≤ n
  · by_cases h1 : n ≤ 1099511627776
    · have hs : stm n = true := by unfold stm; rw [decide_eq_true h0, decide_eq_true h1]; rfl
      rw [hs]
      have d0 : decide (0 ≤ n) = true := decide_eq_true h0
      have d1 : decide (n ≤ 1099511627776) = true := decide_eq_true h1
      clear h0 h1 hs
      go_wp2
      go_ret
      exact ⟨rfl, rfl⟩
    · have hs : stm n = false := by unfold stm; rw [decide_eq_true h0, decide_eq_false h1]; rfl
      rw [hs]
      have d0 : decide (0 ≤ n) = true := decide_eq_true h0
      have d1 : decide (n ≤ 1099511627776) = false := decide_eq_false h1
      clear h0 h1 hs
      go_wp2
      go_ret
      exact ⟨rfl, rfl⟩
  · have hs : stm n = false := by unfold stm; rw [decide_eq_false h0]; rfl
    rw [hs]
    have d0 : decide (0 ≤ n) = false := decide_eq_false h0
    clear h0 hs
    go_wp2
    go_ret
    exact ⟨rfl, rfl⟩
set_option maxHeartbeats 4000000 in
theorem rows_any (A : Option Addr) (n c B : Nat) (L : List RA) (w : World) (h : Lies w B A n c L) (hB : B ≤ w.heap.size) (hn : n ≤ 1000000000) (hf : FewR L) :
    Calls Try.prog 30 #[.slice A n c] w fun x w' => x = .returned (.bool (decide (n ≤ 100) && rowsB (ros L))) ∧ Below w.heap.size w w' := by
  have hl := h.len
  obtain ⟨r, hr⟩ : ∃ r, (decide (n ≤ 100) && rowsB (ros L)) = r := ⟨_, rfl⟩
  rw [hr]
  by_cases h8 : n ≤ 100
  · have d0 : decide ((100 : Int) < (n : Nat)) = false := by simp; omega
    rw [decide_eq_true h8, Bool.true_and] at hr
    have HL := Lib.hid hl; have HR := Lib.hid hr; have HH := Lib.hid h; have HF := Lib.hid hf
    clear hl hr h hf
    go_enter Try.func30, Try.ntmps30
    go_wp2
    go_loopw [10] (fun i wr => ∃ t : Nat, t ≤ n ∧ i = .int .i64 t ∧ (List.range t).all (goodR (ros L)) = true ∧ Below w.heap.size w wr) (fun i _ => n - (intOf i).toNat)
    case atStart => exact ⟨0, Nat.zero_le _, rfl, rfl, Below.refl _ _⟩
    case round =>
      obtain ⟨t, ht, rfl, hg, hb⟩ := hrel
      have HG := Lib.hid hg; have HB := Lib.hid hb
      clear hg hb
      by_cases hlt : t < n
      · have i1 : (t : Int) < n := by omega
        have i0 : (0 : Int) ≤ t := by omega
        have htl : t < L.length := by rw [HL.out]; exact hlt
        have htr : t < (ros L).length := by rw [List.length_map]; exact htl
        obtain ⟨g0, o0, rfl, hgB⟩ := HH.out.rd.ex (by omega)
        have hrd := (HH.out.below (HB.out.mono hB)).rd
        obtain ⟨x, hx⟩ : ∃ x, L[t] = x := ⟨_, rfl⟩
        have hrow := hrd.row htl
        have hfm := HF.out L[t] (List.getElem_mem htl)
        have hin := (HH.out.below (HB.out.mono hB)).held L[t] (List.getElem_mem htl)
        rw [hx] at hrow hfm hin
        have hgw : g0 < wr.heap.size := by have := HB.out.size; omega
        obtain ⟨u1, hu1⟩ : ∃ u, x.ro.ok = u := ⟨_, rfl⟩
        have hrx : (ros L)[t] = x.ro := by rw [List.getElem_map, hx]
        have U1 := Lib.hid hu1; have FM := Lib.hid hfm; have HX := Lib.hid hrx
        have hz := heap_alloc_new wr (.cells #[.string x.ro.key, .string x.ro.live.s, .bool x.ro.live.d, .int .i64 x.ro.live.a, .int .i64 x.ro.live.e, .int .i64 x.ro.gone, .int .i64 x.ro.shade, .slice x.A x.ro.cols.length x.c] 36)
        have ha := (Below.refl wr.heap.size wr).alloc (Nat.le_refl _) (.cells #[.string x.ro.key, .string x.ro.live.s, .bool x.ro.live.d, .int .i64 x.ro.live.a, .int .i64 x.ro.live.e, .int .i64 x.ro.gone, .int .i64 x.ro.shade, .slice x.A x.ro.cols.length x.c] 36)
        have hbu := HB.out.trans (ha.mono HB.out.size)
        have hcu := fun j (hj : j < L.length) => (hrd.row hj).below ha hgw
        have hiu := hin.below (ha.mono (by have := HB.out.size; omega))
        obtain ⟨_, _, _, _, _, _, _, _⟩ := hrow
        clear hu1 hfm hx hrx hrd hin
        by_cases hz0 : t = 0
        · have hga : goodR (ros L) t = u1 := by
            subst hz0
            rw [goodR_zero htr, HX.out, U1.out]
          have j1 : decide ((0 : Int) < (t : Int)) = false := by simp; omega
          have j2 : decide (0 < t) = false := by simp; omega
          clear hz0
          have HGA := Lib.hid hga
          clear hga
          go_wp2_with fail
          obtain ⟨U, hU⟩ : ∃ U, U = wr.alloc (.cells #[.string x.ro.key, .string x.ro.live.s, .bool x.ro.live.d, .int .i64 x.ro.live.a, .int .i64 x.ro.live.e, .int .i64 x.ro.gone, .int .i64 x.ro.shade, .slice x.A x.ro.cols.length x.c] 36) := ⟨_, rfl⟩
          have hUs : U.heap.size = wr.heap.size + 1 := by rw [hU]; simp
          rw [← hU] at hz hbu hcu hiu ⊢
          have hall : ∀ w', Below U.heap.size U w' → BlkAt w' wr.heap.size x ∧ True := fun w' hb => ⟨BlkAt.of ((hb.block wr.heap.size (by omega)).trans hz), trivial⟩
          have hin2 : ∀ w', Below U.heap.size U w' → RaIn w' B x := fun w' hb => hiu.below (hb.mono (by have := HB.out.size; omega))
          have HALL := Lib.hid hall; have HBU := Lib.hid hbu; have HIN := Lib.hid hin2
          have HUB := Lib.hid (show B ≤ U.heap.size by have := HB.out.size; omega)
          clear hall hz hU ha hbu hcu hiu hin2
          cases u1
          · refine wp_region_held_drew (S := fun w' => Below U.heap.size U w') (by kernel_rfl) ?_ (fun hHeld => ?_)
            · exact (Below.refl _ _).drew
            refine wpAnyH_take (i := 0) (v := ?_) rfl (by kernel_rfl) (by kernel_rfl) (by kernel_rfl) (fun _ _ _ h => h) (Or.inl ⟨by rfl, ?_⟩) (by assumption) ?_
            rotate_left
            · (intro wx hSw; (try dsimp only at hSw); obtain ⟨⟨_, _, _, _, _, _, _, _⟩, _⟩ := HALL.out _ hSw; go_simp; try with_reducible rfl)
            try simp only [Act.put, List.getElem_toArray, List.getElem_cons_succ, List.getElem_cons_zero, List.setIfInBounds_toArray, List.set_cons_zero, List.set_cons_succ]
            refine wpAnyH_ready (rs := [1]) (by kernel_rfl) (by simp) (AllReadyH.cons rfl (fun K hK => ?_) AllReadyH.nil)
            go_simp
            refine (check_ra x B _ ?hin1 ?hsz1 FM.out).mono ?_
            case hin1 => exact HIN.out _ (by first | exact (Below.refl _ _).drew | exact below_draws _ _ _ | exact Below.refl _ _)
            case hsz1 => exact HUB.out
            rintro y v1 ⟨rfl, b1⟩
            rw [U1.out]
            try go_wp2_with fail
            refine hK.out _ _ ?_ (fun hHeld => ?_)
            · exact next (by assumption) b1
            clear hK K
            try simp only [Act.put, List.getElem_toArray, List.getElem_cons_succ, List.getElem_cons_zero, List.setIfInBounds_toArray, List.set_cons_zero, List.set_cons_succ]
            refine wpAnyH_take (i := 2) (v := ?_) rfl (by kernel_rfl) (by kernel_rfl) (by kernel_rfl) (fun _ _ _ h => h) (Or.inl ⟨by rfl, ?_⟩) (by assumption) ?_
            rotate_left
            · (intro wx hSw; (try dsimp only at hSw); go_simp; try with_reducible rfl)
            try simp only [Act.put, List.getElem_toArray, List.getElem_cons_succ, List.getElem_cons_zero, List.setIfInBounds_toArray, List.set_cons_zero, List.set_cons_succ]
            refine wpAnyH_take (i := 3) (v := ?_) rfl (by kernel_rfl) (by kernel_rfl) (by kernel_rfl) (fun _ _ _ h => h) (Or.inl ⟨by rfl, ?_⟩) (by assumption) ?_
            rotate_left
            · (intro wx hSw; (try dsimp only at hSw); go_simp; try with_reducible rfl)
            try simp only [Act.put, List.getElem_toArray, List.getElem_cons_succ, List.getElem_cons_zero, List.setIfInBounds_toArray, List.set_cons_zero, List.set_cons_succ]
            refine wpAnyH_take (i := 4) (v := undef) rfl (by kernel_rfl) (by kernel_rfl) (by kernel_rfl) (fun _ _ _ h => h) (Or.inr ⟨by rfl, rfl⟩) (by assumption) ?_
            try simp only [Act.put, List.getElem_toArray, List.getElem_cons_succ, List.getElem_cons_zero, List.setIfInBounds_toArray, List.set_cons_zero, List.set_cons_succ]
            refine wpAnyH_take (i := 5) (v := undef) rfl (by kernel_rfl) (by kernel_rfl) (by kernel_rfl) (fun _ _ _ h => h) (Or.inr ⟨by rfl, rfl⟩) (by assumption) ?_
            try simp only [Act.put, List.getElem_toArray, List.getElem_cons_succ, List.getElem_cons_zero, List.setIfInBounds_toArray, List.set_cons_zero, List.set_cons_succ]
            refine wpAnyH_take (i := 6) (v := undef) rfl (by kernel_rfl) (by kernel_rfl) (by kernel_rfl) (fun _ _ _ h => h) (Or.inr ⟨by rfl, rfl⟩) (by assumption) ?_
            try simp only [Act.put, List.getElem_toArray, List.getElem_cons_succ, List.getElem_cons_zero, List.setIfInBounds_toArray, List.set_cons_zero, List.set_cons_succ]
            refine wpAnyH_take (i := 7) (v := undef) rfl (by kernel_rfl) (by kernel_rfl) (by kernel_rfl) (fun _ _ _ h => h) (Or.inr ⟨by rfl, rfl⟩) (by assumption) ?_
            try simp only [Act.put, List.getElem_toArray, List.getElem_cons_succ, List.getElem_cons_zero, List.setIfInBounds_toArray, List.set_cons_zero, List.set_cons_succ]
            refine wpAnyH_take (i := 8) (v := undef) rfl (by kernel_rfl) (by kernel_rfl) (by kernel_rfl) (fun _ _ _ h => h) (Or.inr ⟨by rfl, rfl⟩) (by assumption) ?_
            try simp only [Act.put, List.getElem_toArray, List.getElem_cons_succ, List.getElem_cons_zero, List.setIfInBounds_toArray, List.set_cons_zero, List.set_cons_succ]
            refine wpAnyH_take (i := 9) (v := undef) rfl (by kernel_rfl) (by kernel_rfl) (by kernel_rfl) (fun _ _ _ h => h) (Or.inr ⟨by rfl, rfl⟩) (by assumption) ?_
            try simp only [Act.put, List.getElem_toArray, List.getElem_cons_succ, List.getElem_cons_zero, List.setIfInBounds_toArray, List.set_cons_zero, List.set_cons_succ]
            refine wpAnyH_take (i := 10) (v := undef) rfl (by kernel_rfl) (by kernel_rfl) (by kernel_rfl) (fun _ _ _ h => h) (Or.inr ⟨by rfl, rfl⟩) (by assumption) ?_
            try simp only [Act.put, List.getElem_toArray, List.getElem_cons_succ, List.getElem_cons_zero, List.setIfInBounds_toArray, List.set_cons_zero, List.set_cons_succ]
            refine wpAnyH_take (i := 11) (v := undef) rfl (by kernel_rfl) (by kernel_rfl) (by kernel_rfl) (fun _ _ _ h => h) (Or.inr ⟨by rfl, rfl⟩) (by assumption) ?_
            try simp only [Act.put, List.getElem_toArray, List.getElem_cons_succ, List.getElem_cons_zero, List.setIfInBounds_toArray, List.set_cons_zero, List.set_cons_succ]
            refine wpAnyH_take (i := 12) (v := undef) rfl (by kernel_rfl) (by kernel_rfl) (by kernel_rfl) (fun _ _ _ h => h) (Or.inr ⟨by rfl, rfl⟩) (by assumption) ?_
            try simp only [Act.put, List.getElem_toArray, List.getElem_cons_succ, List.getElem_cons_zero, List.setIfInBounds_toArray, List.set_cons_zero, List.set_cons_succ]
            refine wpAnyH_take (i := 13) (v := undef) rfl (by kernel_rfl) (by kernel_rfl) (by kernel_rfl) (fun _ _ _ h => h) (Or.inr ⟨by rfl, rfl⟩) (by assumption) ?_
            try simp only [Act.put, List.getElem_toArray, List.getElem_cons_succ, List.getElem_cons_zero, List.setIfInBounds_toArray, List.set_cons_zero, List.set_cons_succ]
            refine wpAnyH_take (i := 14) (v := undef) rfl (by kernel_rfl) (by kernel_rfl) (by kernel_rfl) (fun _ _ _ h => h) (Or.inr ⟨by rfl, rfl⟩) (by assumption) ?_
            try simp only [Act.put, List.getElem_toArray, List.getElem_cons_succ, List.getElem_cons_zero, List.setIfInBounds_toArray, List.set_cons_zero, List.set_cons_succ]
            refine wpAnyH_take (i := 15) (v := undef) rfl (by kernel_rfl) (by kernel_rfl) (by kernel_rfl) (fun _ _ _ h => h) (Or.inr ⟨by rfl, rfl⟩) (by assumption) ?_
            try simp only [Act.put, List.getElem_toArray, List.getElem_cons_succ, List.getElem_cons_zero, List.setIfInBounds_toArray, List.set_cons_zero, List.set_cons_succ]
            refine wpAnyH_take (i := 16) (v := undef) rfl (by kernel_rfl) (by kernel_rfl) (by kernel_rfl) (fun _ _ _ h => h) (Or.inr ⟨by rfl, rfl⟩) (by assumption) ?_
            try simp only [Act.put, List.getElem_toArray, List.getElem_cons_succ, List.getElem_cons_zero, List.setIfInBounds_toArray, List.set_cons_zero, List.set_cons_succ]
            refine wpAnyH_take (i := 17) (v := ?_) rfl (by kernel_rfl) (by kernel_rfl) (by kernel_rfl) (fun _ _ _ h => h) (Or.inl ⟨by rfl, ?_⟩) (by assumption) ?_
            rotate_left
            · (intro wx hSw; (try dsimp only at hSw); go_simp; try with_reducible rfl)
            try simp only [Act.put, List.getElem_toArray, List.getElem_cons_succ, List.getElem_cons_zero, List.setIfInBounds_toArray, List.set_cons_zero, List.set_cons_succ]
            refine wpAnyH_done (by kernel_rfl) ?_ _
            have hv : r = false := by rw [← HR.out]; exact goodsR_no htr HGA.out
            subst hv
            go_wp2
            go_ret
            exact ⟨rfl, next HBU.out hHeld⟩
          · refine wp_region_held_drew (S := fun w' => Below U.heap.size U w') (by kernel_rfl) ?_ (fun hHeld => ?_)
            · exact (Below.refl _ _).drew
            refine wpAnyH_take (i := 0) (v := ?_) rfl (by kernel_rfl) (by kernel_rfl) (by kernel_rfl) (fun _ _ _ h => h) (Or.inl ⟨by rfl, ?_⟩) (by assumption) ?_
            rotate_left
            · (intro wx hSw; (try dsimp only at hSw); obtain ⟨⟨_, _, _, _, _, _, _, _⟩, _⟩ := HALL.out _ hSw; go_simp; try with_reducible rfl)
            try simp only [Act.put, List.getElem_toArray, List.getElem_cons_succ, List.getElem_cons_zero, List.setIfInBounds_toArray, List.set_cons_zero, List.set_cons_succ]
            refine wpAnyH_ready (rs := [1]) (by kernel_rfl) (by simp) (AllReadyH.cons rfl (fun K hK => ?_) AllReadyH.nil)
            go_simp
            refine (check_ra x B _ ?hin1 ?hsz1 FM.out).mono ?_
            case hin1 => exact HIN.out _ (by first | exact (Below.refl _ _).drew | exact below_draws _ _ _ | exact Below.refl _ _)
            case hsz1 => exact HUB.out
            rintro y v1 ⟨rfl, b1⟩
            rw [U1.out]
            try go_wp2_with fail
            refine hK.out _ _ ?_ (fun hHeld => ?_)
            · exact next (by assumption) b1
            clear hK K
            try simp only [Act.put, List.getElem_toArray, List.getElem_cons_succ, List.getElem_cons_zero, List.setIfInBounds_toArray, List.set_cons_zero, List.set_cons_succ]
            refine wpAnyH_take (i := 2) (v := ?_) rfl (by kernel_rfl) (by kernel_rfl) (by kernel_rfl) (fun _ _ _ h => h) (Or.inl ⟨by rfl, ?_⟩) (by assumption) ?_
            rotate_left
            · (intro wx hSw; (try dsimp only at hSw); go_simp; try with_reducible rfl)
            try simp only [Act.put, List.getElem_toArray, List.getElem_cons_succ, List.getElem_cons_zero, List.setIfInBounds_toArray, List.set_cons_zero, List.set_cons_succ]
            refine wpAnyH_take (i := 3) (v := ?_) rfl (by kernel_rfl) (by kernel_rfl) (by kernel_rfl) (fun _ _ _ h => h) (Or.inl ⟨by rfl, ?_⟩) (by assumption) ?_
            rotate_left
            · (intro wx hSw; (try dsimp only at hSw); go_simp; try with_reducible rfl)
            try simp only [Act.put, List.getElem_toArray, List.getElem_cons_succ, List.getElem_cons_zero, List.setIfInBounds_toArray, List.set_cons_zero, List.set_cons_succ]
            refine wpAnyH_take (i := 4) (v := ?_) rfl (by kernel_rfl) (by kernel_rfl) (by kernel_rfl) (fun _ _ _ h => h) (Or.inl ⟨by rfl, ?_⟩) (by assumption) ?_
            rotate_left
            · (intro wx hSw; (try dsimp only at hSw); go_simp; try with_reducible rfl)
            try simp only [Act.put, List.getElem_toArray, List.getElem_cons_succ, List.getElem_cons_zero, List.setIfInBounds_toArray, List.set_cons_zero, List.set_cons_succ]
            refine wpAnyH_take (i := 5) (v := ?_) rfl (by kernel_rfl) (by kernel_rfl) (by kernel_rfl) (fun _ _ _ h => h) (Or.inl ⟨by rfl, ?_⟩) (by assumption) ?_
            rotate_left
            · (intro wx hSw; (try dsimp only at hSw); go_simp; try with_reducible rfl)
            try simp only [Act.put, List.getElem_toArray, List.getElem_cons_succ, List.getElem_cons_zero, List.setIfInBounds_toArray, List.set_cons_zero, List.set_cons_succ]
            refine wpAnyH_take (i := 6) (v := ?_) rfl (by kernel_rfl) (by kernel_rfl) (by kernel_rfl) (fun _ _ _ h => h) (Or.inl ⟨by rfl, ?_⟩) (by assumption) ?_
            rotate_left
            · (intro wx hSw; (try dsimp only at hSw); go_simp; try with_reducible rfl)
            try simp only [Act.put, List.getElem_toArray, List.getElem_cons_succ, List.getElem_cons_zero, List.setIfInBounds_toArray, List.set_cons_zero, List.set_cons_succ]
            refine wpAnyH_take (i := 7) (v := undef) rfl (by kernel_rfl) (by kernel_rfl) (by kernel_rfl) (fun _ _ _ h => h) (Or.inr ⟨by rfl, rfl⟩) (by assumption) ?_
            try simp only [Act.put, List.getElem_toArray, List.getElem_cons_succ, List.getElem_cons_zero, List.setIfInBounds_toArray, List.set_cons_zero, List.set_cons_succ]
            refine wpAnyH_take (i := 8) (v := undef) rfl (by kernel_rfl) (by kernel_rfl) (by kernel_rfl) (fun _ _ _ h => h) (Or.inr ⟨by rfl, rfl⟩) (by assumption) ?_
            try simp only [Act.put, List.getElem_toArray, List.getElem_cons_succ, List.getElem_cons_zero, List.setIfInBounds_toArray, List.set_cons_zero, List.set_cons_succ]
            refine wpAnyH_take (i := 9) (v := undef) rfl (by kernel_rfl) (by kernel_rfl) (by kernel_rfl) (fun _ _ _ h => h) (Or.inr ⟨by rfl, rfl⟩) (by assumption) ?_
            try simp only [Act.put, List.getElem_toArray, List.getElem_cons_succ, List.getElem_cons_zero, List.setIfInBounds_toArray, List.set_cons_zero, List.set_cons_succ]
            refine wpAnyH_take (i := 10) (v := undef) rfl (by kernel_rfl) (by kernel_rfl) (by kernel_rfl) (fun _ _ _ h => h) (Or.inr ⟨by rfl, rfl⟩) (by assumption) ?_
            try simp only [Act.put, List.getElem_toArray, List.getElem_cons_succ, List.getElem_cons_zero, List.setIfInBounds_toArray, List.set_cons_zero, List.set_cons_succ]
            refine wpAnyH_take (i := 11) (v := undef) rfl (by kernel_rfl) (by kernel_rfl) (by kernel_rfl) (fun _ _ _ h => h) (Or.inr ⟨by rfl, rfl⟩) (by assumption) ?_
            try simp only [Act.put, List.getElem_toArray, List.getElem_cons_succ, List.getElem_cons_zero, List.setIfInBounds_toArray, List.set_cons_zero, List.set_cons_succ]
            refine wpAnyH_take (i := 12) (v := undef) rfl (by kernel_rfl) (by kernel_rfl) (by kernel_rfl) (fun _ _ _ h => h) (Or.inr ⟨by rfl, rfl⟩) (by assumption) ?_
            try simp only [Act.put, List.getElem_toArray, List.getElem_cons_succ, List.getElem_cons_zero, List.setIfInBounds_toArray, List.set_cons_zero, List.set_cons_succ]
            refine wpAnyH_take (i := 13) (v := undef) rfl (by kernel_rfl) (by kernel_rfl) (by kernel_rfl) (fun _ _ _ h => h) (Or.inr ⟨by rfl, rfl⟩) (by assumption) ?_
            try simp only [Act.put, List.getElem_toArray, List.getElem_cons_succ, List.getElem_cons_zero, List.setIfInBounds_toArray, List.set_cons_zero, List.set_cons_succ]
            refine wpAnyH_take (i := 14) (v := undef) rfl (by kernel_rfl) (by kernel_rfl) (by kernel_rfl) (fun _ _ _ h => h) (Or.inr ⟨by rfl, rfl⟩) (by assumption) ?_
            try simp only [Act.put, List.getElem_toArray, List.getElem_cons_succ, List.getElem_cons_zero, List.setIfInBounds_toArray, List.set_cons_zero, List.set_cons_succ]
            refine wpAnyH_take (i := 15) (v := undef) rfl (by kernel_rfl) (by kernel_rfl) (by kernel_rfl) (fun _ _ _ h => h) (Or.inr ⟨by rfl, rfl⟩) (by assumption) ?_
            try simp only [Act.put, List.getElem_toArray, List.getElem_cons_succ, List.getElem_cons_zero, List.setIfInBounds_toArray, List.set_cons_zero, List.set_cons_succ]
            refine wpAnyH_take (i := 16) (v := ?_) rfl (by kernel_rfl) (by kernel_rfl) (by kernel_rfl) (fun _ _ _ h => h) (Or.inl ⟨by rfl, ?_⟩) (by assumption) ?_
            rotate_left
            · (intro wx hSw; (try dsimp only at hSw); go_simp; try with_reducible rfl)
            try simp only [Act.put, List.getElem_toArray, List.getElem_cons_succ, List.getElem_cons_zero, List.setIfInBounds_toArray, List.set_cons_zero, List.set_cons_succ]
            refine wpAnyH_take (i := 17) (v := ?_) rfl (by kernel_rfl) (by kernel_rfl) (by kernel_rfl) (fun _ _ _ h => h) (Or.inl ⟨by rfl, ?_⟩) (by assumption) ?_
            rotate_left
            · (intro wx hSw; (try dsimp only at hSw); go_simp; try with_reducible rfl)
            try simp only [Act.put, List.getElem_toArray, List.getElem_cons_succ, List.getElem_cons_zero, List.setIfInBounds_toArray, List.set_cons_zero, List.set_cons_succ]
            refine wpAnyH_done (by kernel_rfl) ?_ _
            go_wp2
            go_roundw
            case rel => exact ⟨t + 1, by omega, by go_num, goodsR_step HG.out HGA.out, next HBU.out hHeld⟩
            case measure => simp [intOf]; omega
        · obtain ⟨u, hu⟩ : ∃ u, u + 1 = t := ⟨t - 1, by omega⟩
          have hul : u < L.length := by omega
          have hsub : IntKind.i64.wrap ((t : Int) - 1) = (u : Int) := by rw [IntKind.wrap_i64]; omega
          have j1 : (u : Int) < n := by omega
          have j0 : (0 : Int) ≤ u := by omega
          have j2 : decide ((0 : Int) < (t : Int)) = true := by simp; omega
          have j3 : decide (0 < t) = true := by simp; omega
          have j4 : (0 : Int) < (t : Int) := by omega
          have j5 : 0 < t := by omega
          obtain ⟨y, hy⟩ : ∃ y, L[u] = y := ⟨_, rfl⟩
          have hcu2 := hcu u hul
          rw [hy] at hcu2
          have hga : goodR (ros L) t = (u1 && decide (nlt y.ro.key x.ro.key)) := by
            subst hu
            rw [goodR_succ htr, HX.out, U1.out, List.getElem_map, hy]
          have HGA := Lib.hid hga; have HY := Lib.hid hy
          clear hga hy hcu
          go_wp2_with fail
          obtain ⟨U, hU⟩ : ∃ U, U = wr.alloc (.cells #[.string x.ro.key, .string x.ro.live.s, .bool x.ro.live.d, .int .i64 x.ro.live.a, .int .i64 x.ro.live.e, .int .i64 x.ro.gone, .int .i64 x.ro.shade, .slice x.A x.ro.cols.length x.c] 36) := ⟨_, rfl⟩
          have hUs : U.heap.size = wr.heap.size + 1 := by rw [hU]; simp
          rw [← hU] at hz hbu hcu2 hiu ⊢
          have hall : ∀ w', Below U.heap.size U w' → BlkAt w' wr.heap.size x ∧ w'.cell? ⟨g0, o0 + u * 8, none⟩ = some (.string y.ro.key) := fun w' hb => ⟨BlkAt.of ((hb.block wr.heap.size (by omega)).trans hz), (hcu2.below hb (show g0 < U.heap.size by omega)).1⟩
          have hin2 : ∀ w', Below U.heap.size U w' → RaIn w' B x := fun w' hb => hiu.below (hb.mono (by have := HB.out.size; omega))
          have HALL := Lib.hid hall; have HBU := Lib.hid hbu; have HU := Lib.hid hu; have HIN := Lib.hid hin2
          have HUB := Lib.hid (show B ≤ U.heap.size by have := HB.out.size; omega)
          clear hall hz hU ha hbu hcu2 hu hiu hin2
          cases u1
          · refine wp_region_held_drew (S := fun w' => Below U.heap.size U w') (by kernel_rfl) ?_ (fun hHeld => ?_)
            · exact (Below.refl _ _).drew
            refine wpAnyH_take (i := 0) (v := ?_) rfl (by kernel_rfl) (by kernel_rfl) (by kernel_rfl) (fun _ _ _ h => h) (Or.inl ⟨by rfl, ?_⟩) (by assumption) ?_
            rotate_left
            · (intro wx hSw; (try dsimp only at hSw); obtain ⟨⟨_, _, _, _, _, _, _, _⟩, _⟩ := HALL.out _ hSw; go_simp; try with_reducible rfl)
            try simp only [Act.put, List.getElem_toArray, List.getElem_cons_succ, List.getElem_cons_zero, List.setIfInBounds_toArray, List.set_cons_zero, List.set_cons_succ]
            refine wpAnyH_ready (rs := [1]) (by kernel_rfl) (by simp) (AllReadyH.cons rfl (fun K hK => ?_) AllReadyH.nil)
            go_simp
            refine (check_ra x B _ ?hin1 ?hsz1 FM.out).mono ?_
            case hin1 => exact HIN.out _ (by first | exact (Below.refl _ _).drew | exact below_draws _ _ _ | exact Below.refl _ _)
            case hsz1 => exact HUB.out
            rintro y v1 ⟨rfl, b1⟩
            rw [U1.out]
            try go_wp2_with fail
            refine hK.out _ _ ?_ (fun hHeld => ?_)
            · exact next (by assumption) b1
            clear hK K
            try simp only [Act.put, List.getElem_toArray, List.getElem_cons_succ, List.getElem_cons_zero, List.setIfInBounds_toArray, List.set_cons_zero, List.set_cons_succ]
            refine wpAnyH_take (i := 2) (v := ?_) rfl (by kernel_rfl) (by kernel_rfl) (by kernel_rfl) (fun _ _ _ h => h) (Or.inl ⟨by rfl, ?_⟩) (by assumption) ?_
            rotate_left
            · (intro wx hSw; (try dsimp only at hSw); go_simp; try with_reducible rfl)
            try simp only [Act.put, List.getElem_toArray, List.getElem_cons_succ, List.getElem_cons_zero, List.setIfInBounds_toArray, List.set_cons_zero, List.set_cons_succ]
            refine wpAnyH_take (i := 3) (v := ?_) rfl (by kernel_rfl) (by kernel_rfl) (by kernel_rfl) (fun _ _ _ h => h) (Or.inl ⟨by rfl, ?_⟩) (by assumption) ?_
            rotate_left
            · (intro wx hSw; (try dsimp only at hSw); go_simp; try with_reducible rfl)
            try simp only [Act.put, List.getElem_toArray, List.getElem_cons_succ, List.getElem_cons_zero, List.setIfInBounds_toArray, List.set_cons_zero, List.set_cons_succ]
            refine wpAnyH_take (i := 4) (v := undef) rfl (by kernel_rfl) (by kernel_rfl) (by kernel_rfl) (fun _ _ _ h => h) (Or.inr ⟨by rfl, rfl⟩) (by assumption) ?_
            try simp only [Act.put, List.getElem_toArray, List.getElem_cons_succ, List.getElem_cons_zero, List.setIfInBounds_toArray, List.set_cons_zero, List.set_cons_succ]
            refine wpAnyH_take (i := 5) (v := undef) rfl (by kernel_rfl) (by kernel_rfl) (by kernel_rfl) (fun _ _ _ h => h) (Or.inr ⟨by rfl, rfl⟩) (by assumption) ?_
            try simp only [Act.put, List.getElem_toArray, List.getElem_cons_succ, List.getElem_cons_zero, List.setIfInBounds_toArray, List.set_cons_zero, List.set_cons_succ]
            refine wpAnyH_take (i := 6) (v := undef) rfl (by kernel_rfl) (by kernel_rfl) (by kernel_rfl) (fun _ _ _ h => h) (Or.inr ⟨by rfl, rfl⟩) (by assumption) ?_
            try simp only [Act.put, List.getElem_toArray, List.getElem_cons_succ, List.getElem_cons_zero, List.setIfInBounds_toArray, List.set_cons_zero, List.set_cons_succ]
            refine wpAnyH_take (i := 7) (v := undef) rfl (by kernel_rfl) (by kernel_rfl) (by kernel_rfl) (fun _ _ _ h => h) (Or.inr ⟨by rfl, rfl⟩) (by assumption) ?_
            try simp only [Act.put, List.getElem_toArray, List.getElem_cons_succ, List.getElem_cons_zero, List.setIfInBounds_toArray, List.set_cons_zero, List.set_cons_succ]
            refine wpAnyH_take (i := 8) (v := undef) rfl (by kernel_rfl) (by kernel_rfl) (by kernel_rfl) (fun _ _ _ h => h) (Or.inr ⟨by rfl, rfl⟩) (by assumption) ?_
            try simp only [Act.put, List.getElem_toArray, List.getElem_cons_succ, List.getElem_cons_zero, List.setIfInBounds_toArray, List.set_cons_zero, List.set_cons_succ]
            refine wpAnyH_take (i := 9) (v := undef) rfl (by kernel_rfl) (by kernel_rfl) (by kernel_rfl) (fun _ _ _ h => h) (Or.inr ⟨by rfl, rfl⟩) (by assumption) ?_
            try simp only [Act.put, List.getElem_toArray, List.getElem_cons_succ, List.getElem_cons_zero, List.setIfInBounds_toArray, List.set_cons_zero, List.set_cons_succ]
            refine wpAnyH_take (i := 10) (v := undef) rfl (by kernel_rfl) (by kernel_rfl) (by kernel_rfl) (fun _ _ _ h => h) (Or.inr ⟨by rfl, rfl⟩) (by assumption) ?_
            try simp only [Act.put, List.getElem_toArray, List.getElem_cons_succ, List.getElem_cons_zero, List.setIfInBounds_toArray, List.set_cons_zero, List.set_cons_succ]
            refine wpAnyH_take (i := 11) (v := undef) rfl (by kernel_rfl) (by kernel_rfl) (by kernel_rfl) (fun _ _ _ h => h) (Or.inr ⟨by rfl, rfl⟩) (by assumption) ?_
            try simp only [Act.put, List.getElem_toArray, List.getElem_cons_succ, List.getElem_cons_zero, List.setIfInBounds_toArray, List.set_cons_zero, List.set_cons_succ]
            refine wpAnyH_take (i := 12) (v := undef) rfl (by kernel_rfl) (by kernel_rfl) (by kernel_rfl) (fun _ _ _ h => h) (Or.inr ⟨by rfl, rfl⟩) (by assumption) ?_
            try simp only [Act.put, List.getElem_toArray, List.getElem_cons_succ, List.getElem_cons_zero, List.setIfInBounds_toArray, List.set_cons_zero, List.set_cons_succ]
            refine wpAnyH_take (i := 13) (v := undef) rfl (by kernel_rfl) (by kernel_rfl) (by kernel_rfl) (fun _ _ _ h => h) (Or.inr ⟨by rfl, rfl⟩) (by assumption) ?_
            try simp only [Act.put, List.getElem_toArray, List.getElem_cons_succ, List.getElem_cons_zero, List.setIfInBounds_toArray, List.set_cons_zero, List.set_cons_succ]
            refine wpAnyH_take (i := 14) (v := undef) rfl (by kernel_rfl) (by kernel_rfl) (by kernel_rfl) (fun _ _ _ h => h) (Or.inr ⟨by rfl, rfl⟩) (by assumption) ?_
            try simp only [Act.put, List.getElem_toArray, List.getElem_cons_succ, List.getElem_cons_zero, List.setIfInBounds_toArray, List.set_cons_zero, List.set_cons_succ]
            refine wpAnyH_take (i := 15) (v := undef) rfl (by kernel_rfl) (by kernel_rfl) (by kernel_rfl) (fun _ _ _ h => h) (Or.inr ⟨by rfl, rfl⟩) (by assumption) ?_
            try simp only [Act.put, List.getElem_toArray, List.getElem_cons_succ, List.getElem_cons_zero, List.setIfInBounds_toArray, List.set_cons_zero, List.set_cons_succ]
            refine wpAnyH_take (i := 16) (v := undef) rfl (by kernel_rfl) (by kernel_rfl) (by kernel_rfl) (fun _ _ _ h => h) (Or.inr ⟨by rfl, rfl⟩) (by assumption) ?_
            try simp only [Act.put, List.getElem_toArray, List.getElem_cons_succ, List.getElem_cons_zero, List.setIfInBounds_toArray, List.set_cons_zero, List.set_cons_succ]
            refine wpAnyH_take (i := 17) (v := ?_) rfl (by kernel_rfl) (by kernel_rfl) (by kernel_rfl) (fun _ _ _ h => h) (Or.inl ⟨by rfl, ?_⟩) (by assumption) ?_
            rotate_left
            · (intro wx hSw; (try dsimp only at hSw); go_simp; try with_reducible rfl)
            try simp only [Act.put, List.getElem_toArray, List.getElem_cons_succ, List.getElem_cons_zero, List.setIfInBounds_toArray, List.set_cons_zero, List.set_cons_succ]
            refine wpAnyH_done (by kernel_rfl) ?_ _
            have hv : r = false := by rw [← HR.out]; exact goodsR_no htr (by rw [HGA.out]; rfl)
            subst hv
            go_wp2
            go_ret
            exact ⟨rfl, next HBU.out hHeld⟩
          · by_cases hp : nlt y.ro.key x.ro.key
            · have hb1 : Op.bytesLess y.ro.key.toList x.ro.key.toList = true := blB_true hp
              have hga2 := HGA.out
              rw [decide_eq_true hp] at hga2
              have HG2 := Lib.hid hga2
              clear hga2
              refine wp_region_held_drew (S := fun w' => Below U.heap.size U w') (by kernel_rfl) ?_ (fun hHeld => ?_)
              · exact (Below.refl _ _).drew
              refine wpAnyH_take (i := 0) (v := ?_) rfl (by kernel_rfl) (by kernel_rfl) (by kernel_rfl) (fun _ _ _ h => h) (Or.inl ⟨by rfl, ?_⟩) (by assumption) ?_
              rotate_left
              · (intro wx hSw; (try dsimp only at hSw); obtain ⟨⟨_, _, _, _, _, _, _, _⟩, _⟩ := HALL.out _ hSw; go_simp; try with_reducible rfl)
              try simp only [Act.put, List.getElem_toArray, List.getElem_cons_succ, List.getElem_cons_zero, List.setIfInBounds_toArray, List.set_cons_zero, List.set_cons_succ]
              refine wpAnyH_ready (rs := [1]) (by kernel_rfl) (by simp) (AllReadyH.cons rfl (fun K hK => ?_) AllReadyH.nil)
              go_simp
              refine (check_ra x B _ ?hin1 ?hsz1 FM.out).mono ?_
              case hin1 => exact HIN.out _ (by first | exact (Below.refl _ _).drew | exact below_draws _ _ _ | exact Below.refl _ _)
              case hsz1 => exact HUB.out
              rintro y v1 ⟨rfl, b1⟩
              rw [U1.out]
              try go_wp2_with fail
              refine hK.out _ _ ?_ (fun hHeld => ?_)
              · exact next (by assumption) b1
              clear hK K
              try simp only [Act.put, List.getElem_toArray, List.getElem_cons_succ, List.getElem_cons_zero, List.setIfInBounds_toArray, List.set_cons_zero, List.set_cons_succ]
              refine wpAnyH_take (i := 2) (v := ?_) rfl (by kernel_rfl) (by kernel_rfl) (by kernel_rfl) (fun _ _ _ h => h) (Or.inl ⟨by rfl, ?_⟩) (by assumption) ?_
              rotate_left
              · (intro wx hSw; (try dsimp only at hSw); go_simp; try with_reducible rfl)
              try simp only [Act.put, List.getElem_toArray, List.getElem_cons_succ, List.getElem_cons_zero, List.setIfInBounds_toArray, List.set_cons_zero, List.set_cons_succ]
              refine wpAnyH_take (i := 3) (v := ?_) rfl (by kernel_rfl) (by kernel_rfl) (by kernel_rfl) (fun _ _ _ h => h) (Or.inl ⟨by rfl, ?_⟩) (by assumption) ?_
              rotate_left
              · (intro wx hSw; (try dsimp only at hSw); go_simp; try with_reducible rfl)
              try simp only [Act.put, List.getElem_toArray, List.getElem_cons_succ, List.getElem_cons_zero, List.setIfInBounds_toArray, List.set_cons_zero, List.set_cons_succ]
              refine wpAnyH_take (i := 4) (v := ?_) rfl (by kernel_rfl) (by kernel_rfl) (by kernel_rfl) (fun _ _ _ h => h) (Or.inl ⟨by rfl, ?_⟩) (by assumption) ?_
              rotate_left
              · (intro wx hSw; (try dsimp only at hSw); go_simp; try with_reducible rfl)
              try simp only [Act.put, List.getElem_toArray, List.getElem_cons_succ, List.getElem_cons_zero, List.setIfInBounds_toArray, List.set_cons_zero, List.set_cons_succ]
              refine wpAnyH_take (i := 5) (v := ?_) rfl (by kernel_rfl) (by kernel_rfl) (by kernel_rfl) (fun _ _ _ h => h) (Or.inl ⟨by rfl, ?_⟩) (by assumption) ?_
              rotate_left
              · (intro wx hSw; (try dsimp only at hSw); go_simp; try with_reducible rfl)
              try simp only [Act.put, List.getElem_toArray, List.getElem_cons_succ, List.getElem_cons_zero, List.setIfInBounds_toArray, List.set_cons_zero, List.set_cons_succ]
              refine wpAnyH_take (i := 6) (v := ?_) rfl (by kernel_rfl) (by kernel_rfl) (by kernel_rfl) (fun _ _ _ h => h) (Or.inl ⟨by rfl, ?_⟩) (by assumption) ?_
              rotate_left
              · (intro wx hSw; (try dsimp only at hSw); go_simp; try with_reducible rfl)
              try simp only [Act.put, List.getElem_toArray, List.getElem_cons_succ, List.getElem_cons_zero, List.setIfInBounds_toArray, List.set_cons_zero, List.set_cons_succ]
              refine wpAnyH_take (i := 7) (v := ?_) rfl (by kernel_rfl) (by kernel_rfl) (by kernel_rfl) (fun _ _ _ h => h) (Or.inl ⟨by rfl, ?_⟩) (by assumption) ?_
              rotate_left
              · (intro wx hSw; (try dsimp only at hSw); go_simp; try with_reducible rfl)
              try simp only [Act.put, List.getElem_toArray, List.getElem_cons_succ, List.getElem_cons_zero, List.setIfInBounds_toArray, List.set_cons_zero, List.set_cons_succ]
              refine wpAnyH_take (i := 8) (v := ?_) rfl (by kernel_rfl) (by kernel_rfl) (by kernel_rfl) (fun _ _ _ h => h) (Or.inl ⟨by rfl, ?_⟩) (by assumption) ?_
              rotate_left
              · (intro wx hSw; (try dsimp only at hSw); go_simp; try with_reducible rfl)
              try simp only [Act.put, List.getElem_toArray, List.getElem_cons_succ, List.getElem_cons_zero, List.setIfInBounds_toArray, List.set_cons_zero, List.set_cons_succ]
              refine wpAnyH_take (i := 9) (v := ?_) rfl (by kernel_rfl) (by kernel_rfl) (by kernel_rfl) (fun _ _ _ h => h) (Or.inl ⟨by rfl, ?_⟩) (by assumption) ?_
              rotate_left
              · (intro wx hSw; (try dsimp only at hSw); go_simp; try with_reducible rfl)
              try simp only [Act.put, List.getElem_toArray, List.getElem_cons_succ, List.getElem_cons_zero, List.setIfInBounds_toArray, List.set_cons_zero, List.set_cons_succ]
              refine wpAnyH_take (i := 10) (v := ?_) rfl (by kernel_rfl) (by kernel_rfl) (by kernel_rfl) (fun _ _ _ h => h) (Or.inl ⟨by rfl, ?_⟩) (by assumption) ?_
              rotate_left
              · (intro wx hSw; (try dsimp only at hSw); go_simp; try with_reducible rfl)
              try simp only [Act.put, List.getElem_toArray, List.getElem_cons_succ, List.getElem_cons_zero, List.setIfInBounds_toArray, List.set_cons_zero, List.set_cons_succ]
              refine wpAnyH_take (i := 11) (v := ?_) rfl (by kernel_rfl) (by kernel_rfl) (by kernel_rfl) (fun _ _ _ h => h) (Or.inl ⟨by rfl, ?_⟩) (by assumption) ?_
              rotate_left
              · (intro wx hSw; (try dsimp only at hSw); go_simp; try with_reducible rfl)
              try simp only [Act.put, List.getElem_toArray, List.getElem_cons_succ, List.getElem_cons_zero, List.setIfInBounds_toArray, List.set_cons_zero, List.set_cons_succ]
              refine wpAnyH_take (i := 12) (v := ?_) rfl (by kernel_rfl) (by kernel_rfl) (by kernel_rfl) (fun _ _ _ h => h) (Or.inl ⟨by rfl, ?_⟩) (by assumption) ?_
              rotate_left
              · (intro wx hSw; (try dsimp only at hSw); obtain ⟨⟨_, _, _, _, _, _, _, _⟩, _⟩ := HALL.out _ hSw; go_simp; try with_reducible rfl)
              try simp only [Act.put, List.getElem_toArray, List.getElem_cons_succ, List.getElem_cons_zero, List.setIfInBounds_toArray, List.set_cons_zero, List.set_cons_succ]
              refine wpAnyH_take (i := 13) (v := ?_) rfl (by kernel_rfl) (by kernel_rfl) (by kernel_rfl) (fun _ _ _ h => h) (Or.inl ⟨by rfl, ?_⟩) (by assumption) ?_
              rotate_left
              · (intro wx hSw; (try dsimp only at hSw); go_simp; try with_reducible rfl)
              try simp only [Act.put, List.getElem_toArray, List.getElem_cons_succ, List.getElem_cons_zero, List.setIfInBounds_toArray, List.set_cons_zero, List.set_cons_succ]
              refine wpAnyH_take (i := 14) (v := ?_) rfl (by kernel_rfl) (by kernel_rfl) (by kernel_rfl) (fun _ _ _ h => h) (Or.inl ⟨by rfl, ?_⟩) (by assumption) ?_
              rotate_left
              · (intro wx hSw; (try dsimp only at hSw); obtain ⟨⟨_, _, _, _, _, _, _, _⟩, _⟩ := HALL.out _ hSw; go_simp; try with_reducible rfl)
              try simp only [Act.put, List.getElem_toArray, List.getElem_cons_succ, List.getElem_cons_zero, List.setIfInBounds_toArray, List.set_cons_zero, List.set_cons_succ]
              refine wpAnyH_take (i := 15) (v := ?_) rfl (by kernel_rfl) (by kernel_rfl) (by kernel_rfl) (fun _ _ _ h => h) (Or.inl ⟨by rfl, ?_⟩) (by assumption) ?_
              rotate_left
              · (intro wx hSw; (try dsimp only at hSw); go_simp; try with_reducible rfl)
              try simp only [Act.put, List.getElem_toArray, List.getElem_cons_succ, List.getElem_cons_zero, List.setIfInBounds_toArray, List.set_cons_zero, List.set_cons_succ]
              refine wpAnyH_take (i := 16) (v := ?_) rfl (by kernel_rfl) (by kernel_rfl) (by kernel_rfl) (fun _ _ _ h => h) (Or.inl ⟨by rfl, ?_⟩) (by assumption) ?_
              rotate_left
              · (intro wx hSw; (try dsimp only at hSw); go_simp; try with_reducible rfl)
              try simp only [Act.put, List.getElem_toArray, List.getElem_cons_succ, List.getElem_cons_zero, List.setIfInBounds_toArray, List.set_cons_zero, List.set_cons_succ]
              refine wpAnyH_take (i := 17) (v := ?_) rfl (by kernel_rfl) (by kernel_rfl) (by kernel_rfl) (fun _ _ _ h => h) (Or.inl ⟨by rfl, ?_⟩) (by assumption) ?_
              rotate_left
              · (intro wx hSw; (try dsimp only at hSw); go_simp; try with_reducible rfl)
              try simp only [Act.put, List.getElem_toArray, List.getElem_cons_succ, List.getElem_cons_zero, List.setIfInBounds_toArray, List.set_cons_zero, List.set_cons_succ]
              refine wpAnyH_done (by kernel_rfl) ?_ _
              go_wp2
              go_roundw
              case rel => exact ⟨t + 1, by omega, by go_num, goodsR_step HG.out HG2.out, next HBU.out hHeld⟩
              case measure => simp [intOf]; omega
            · have hb1 : Op.bytesLess y.ro.key.toList x.ro.key.toList = false := blB_false hp
              have hv : r = false := by rw [← HR.out]; exact goodsR_no htr (by rw [HGA.out, decide_eq_false hp]; rfl)
              subst hv
              refine wp_region_held_drew (S := fun w' => Below U.heap.size U w') (by kernel_rfl) ?_ (fun hHeld => ?_)
              · exact (Below.refl _ _).drew
              refine wpAnyH_take (i := 0) (v := ?_) rfl (by kernel_rfl) (by kernel_rfl) (by kernel_rfl) (fun _ _ _ h => h) (Or.inl ⟨by rfl, ?_⟩) (by assumption) ?_
              rotate_left
              · (intro wx hSw; (try dsimp only at hSw); obtain ⟨⟨_, _, _, _, _, _, _, _⟩, _⟩ := HALL.out _ hSw; go_simp; try with_reducible rfl)
              try simp only [Act.put, List.getElem_toArray, List.getElem_cons_succ, List.getElem_cons_zero, List.setIfInBounds_toArray, List.set_cons_zero, List.set_cons_succ]
              refine wpAnyH_ready (rs := [1]) (by kernel_rfl) (by simp) (AllReadyH.cons rfl (fun K hK => ?_) AllReadyH.nil)
              go_simp
              refine (check_ra x B _ ?hin1 ?hsz1 FM.out).mono ?_
              case hin1 => exact HIN.out _ (by first | exact (Below.refl _ _).drew | exact below_draws _ _ _ | exact Below.refl _ _)
              case hsz1 => exact HUB.out
              rintro y v1 ⟨rfl, b1⟩
              rw [U1.out]
              try go_wp2_with fail
              refine hK.out _ _ ?_ (fun hHeld => ?_)
              · exact next (by assumption) b1
              clear hK K
              try simp only [Act.put, List.getElem_toArray, List.getElem_cons_succ, List.getElem_cons_zero, List.setIfInBounds_toArray, List.set_cons_zero, List.set_cons_succ]
              refine wpAnyH_take (i := 2) (v := ?_) rfl (by kernel_rfl) (by kernel_rfl) (by kernel_rfl) (fun _ _ _ h => h) (Or.inl ⟨by rfl, ?_⟩) (by assumption) ?_
              rotate_left
              · (intro wx hSw; (try dsimp only at hSw); go_simp; try with_reducible rfl)
              try simp only [Act.put, List.getElem_toArray, List.getElem_cons_succ, List.getElem_cons_zero, List.setIfInBounds_toArray, List.set_cons_zero, List.set_cons_succ]
              refine wpAnyH_take (i := 3) (v := ?_) rfl (by kernel_rfl) (by kernel_rfl) (by kernel_rfl) (fun _ _ _ h => h) (Or.inl ⟨by rfl, ?_⟩) (by assumption) ?_
              rotate_left
              · (intro wx hSw; (try dsimp only at hSw); go_simp; try with_reducible rfl)
              try simp only [Act.put, List.getElem_toArray, List.getElem_cons_succ, List.getElem_cons_zero, List.setIfInBounds_toArray, List.set_cons_zero, List.set_cons_succ]
              refine wpAnyH_take (i := 4) (v := ?_) rfl (by kernel_rfl) (by kernel_rfl) (by kernel_rfl) (fun _ _ _ h => h) (Or.inl ⟨by rfl, ?_⟩) (by assumption) ?_
              rotate_left
              · (intro wx hSw; (try dsimp only at hSw); go_simp; try with_reducible rfl)
              try simp only [Act.put, List.getElem_toArray, List.getElem_cons_succ, List.getElem_cons_zero, List.setIfInBounds_toArray, List.set_cons_zero, List.set_cons_succ]
              refine wpAnyH_take (i := 5) (v := ?_) rfl (by kernel_rfl) (by kernel_rfl) (by kernel_rfl) (fun _ _ _ h => h) (Or.inl ⟨by rfl, ?_⟩) (by assumption) ?_
              rotate_left
              · (intro wx hSw; (try dsimp only at hSw); go_simp; try with_reducible rfl)
              try simp only [Act.put, List.getElem_toArray, List.getElem_cons_succ, List.getElem_cons_zero, List.setIfInBounds_toArray, List.set_cons_zero, List.set_cons_succ]
              refine wpAnyH_take (i := 6) (v := ?_) rfl (by kernel_rfl) (by kernel_rfl) (by kernel_rfl) (fun _ _ _ h => h) (Or.inl ⟨by rfl, ?_⟩) (by assumption) ?_
              rotate_left
              · (intro wx hSw; (try dsimp only at hSw); go_simp; try with_reducible rfl)
              try simp only [Act.put, List.getElem_toArray, List.getElem_cons_succ, List.getElem_cons_zero, List.setIfInBounds_toArray, List.set_cons_zero, List.set_cons_succ]
              refine wpAnyH_take (i := 7) (v := ?_) rfl (by kernel_rfl) (by kernel_rfl) (by kernel_rfl) (fun _ _ _ h => h) (Or.inl ⟨by rfl, ?_⟩) (by assumption) ?_
              rotate_left
              · (intro wx hSw; (try dsimp only at hSw); go_simp; try with_reducible rfl)
              try simp only [Act.put, List.getElem_toArray, List.getElem_cons_succ, List.getElem_cons_zero, List.setIfInBounds_toArray, List.set_cons_zero, List.set_cons_succ]
              refine wpAnyH_take (i := 8) (v := ?_) rfl (by kernel_rfl) (by kernel_rfl) (by kernel_rfl) (fun _ _ _ h => h) (Or.inl ⟨by rfl, ?_⟩) (by assumption) ?_
              rotate_left
              · (intro wx hSw; (try dsimp only at hSw); go_simp; try with_reducible rfl)
              try simp only [Act.put, List.getElem_toArray, List.getElem_cons_succ, List.getElem_cons_zero, List.setIfInBounds_toArray, List.set_cons_zero, List.set_cons_succ]
              refine wpAnyH_take (i := 9) (v := ?_) rfl (by kernel_rfl) (by kernel_rfl) (by kernel_rfl) (fun _ _ _ h => h) (Or.inl ⟨by rfl, ?_⟩) (by assumption) ?_
              rotate_left
              · (intro wx hSw; (try dsimp only at hSw); go_simp; try with_reducible rfl)
              try simp only [Act.put, List.getElem_toArray, List.getElem_cons_succ, List.getElem_cons_zero, List.setIfInBounds_toArray, List.set_cons_zero, List.set_cons_succ]
              refine wpAnyH_take (i := 10) (v := ?_) rfl (by kernel_rfl) (by kernel_rfl) (by kernel_rfl) (fun _ _ _ h => h) (Or.inl ⟨by rfl, ?_⟩) (by assumption) ?_
              rotate_left
              · (intro wx hSw; (try dsimp only at hSw); go_simp; try with_reducible rfl)
              try simp only [Act.put, List.getElem_toArray, List.getElem_cons_succ, List.getElem_cons_zero, List.setIfInBounds_toArray, List.set_cons_zero, List.set_cons_succ]
              refine wpAnyH_take (i := 11) (v := ?_) rfl (by kernel_rfl) (by kernel_rfl) (by kernel_rfl) (fun _ _ _ h => h) (Or.inl ⟨by rfl, ?_⟩) (by assumption) ?_
              rotate_left
              · (intro wx hSw; (try dsimp only at hSw); go_simp; try with_reducible rfl)
              try simp only [Act.put, List.getElem_toArray, List.getElem_cons_succ, List.getElem_cons_zero, List.setIfInBounds_toArray, List.set_cons_zero, List.set_cons_succ]
              refine wpAnyH_take (i := 12) (v := ?_) rfl (by kernel_rfl) (by kernel_rfl) (by kernel_rfl) (fun _ _ _ h => h) (Or.inl ⟨by rfl, ?_⟩) (by assumption) ?_
              rotate_left
              · (intro wx hSw; (try dsimp only at hSw); obtain ⟨⟨_, _, _, _, _, _, _, _⟩, _⟩ := HALL.out _ hSw; go_simp; try with_reducible rfl)
              try simp only [Act.put, List.getElem_toArray, List.getElem_cons_succ, List.getElem_cons_zero, List.setIfInBounds_toArray, List.set_cons_zero, List.set_cons_succ]
              refine wpAnyH_take (i := 13) (v := ?_) rfl (by kernel_rfl) (by kernel_rfl) (by kernel_rfl) (fun _ _ _ h => h) (Or.inl ⟨by rfl, ?_⟩) (by assumption) ?_
              rotate_left
              · (intro wx hSw; (try dsimp only at hSw); go_simp; try with_reducible rfl)
              try simp only [Act.put, List.getElem_toArray, List.getElem_cons_succ, List.getElem_cons_zero, List.setIfInBounds_toArray, List.set_cons_zero, List.set_cons_succ]
              refine wpAnyH_take (i := 14) (v := ?_) rfl (by kernel_rfl) (by kernel_rfl) (by kernel_rfl) (fun _ _ _ h => h) (Or.inl ⟨by rfl, ?_⟩) (by assumption) ?_
              rotate_left
              · (intro wx hSw; (try dsimp only at hSw); obtain ⟨⟨_, _, _, _, _, _, _, _⟩, _⟩ := HALL.out _ hSw; go_simp; try with_reducible rfl)
              try simp only [Act.put, List.getElem_toArray, List.getElem_cons_succ, List.getElem_cons_zero, List.setIfInBounds_toArray, List.set_cons_zero, List.set_cons_succ]
              refine wpAnyH_take (i := 15) (v := ?_) rfl (by kernel_rfl) (by kernel_rfl) (by kernel_rfl) (fun _ _ _ h => h) (Or.inl ⟨by rfl, ?_⟩) (by assumption) ?_
              rotate_left
              · (intro wx hSw; (try dsimp only at hSw); go_simp; try with_reducible rfl)
              try simp only [Act.put, List.getElem_toArray, List.getElem_cons_succ, List.getElem_cons_zero, List.setIfInBounds_toArray, List.set_cons_zero, List.set_cons_succ]
              refine wpAnyH_take (i := 16) (v := ?_) rfl (by kernel_rfl) (by kernel_rfl) (by kernel_rfl) (fun _ _ _ h => h) (Or.inl ⟨by rfl, ?_⟩) (by assumption) ?_
              rotate_left
              · (intro wx hSw; (try dsimp only at hSw); go_simp; try with_reducible rfl)
              try simp only [Act.put, List.getElem_toArray, List.getElem_cons_succ, List.getElem_cons_zero, List.setIfInBounds_toArray, List.set_cons_zero, List.set_cons_succ]
              refine wpAnyH_take (i := 17) (v := ?_) rfl (by kernel_rfl) (by kernel_rfl) (by kernel_rfl) (fun _ _ _ h => h) (Or.inl ⟨by rfl, ?_⟩) (by assumption) ?_
              rotate_left
              · (intro wx hSw; (try dsimp only at hSw); go_simp; try with_reducible rfl)
              try simp only [Act.put, List.getElem_toArray, List.getElem_cons_succ, List.getElem_cons_zero, List.setIfInBounds_toArray, List.set_cons_zero, List.set_cons_succ]
              refine wpAnyH_done (by kernel_rfl) ?_ _
              go_wp2
              go_ret
              exact ⟨rfl, next HBU.out hHeld⟩
      · obtain rfl : t = n := by omega
        have hv : r = true := by rw [← HR.out]; unfold rowsB; rw [List.length_map, HL.out]; exact HG.out
        subst hv
        go_wp2
        go_ret
        exact ⟨rfl, HB.out⟩
  · have d0 : decide ((100 : Int) < (n : Nat)) = true := by simp; omega
    have hv : r = false := by rw [← hr, decide_eq_false h8]; rfl
    subst hv
    go_enter Try.func30, Try.ntmps30
    go_wp2
    go_ret
    exact ⟨rfl, Below.refl _ _⟩
end Go.Proofs.Ytafbbojfifcncaa
set_option linter.unusedVariables false
set_option linter.unusedSimpArgs false
namespace Go.Proofs.Ytafbbojfifcncaa
open Go Go.RowKit

set_option maxRecDepth 8000 in
set_option maxHeartbeats 4000000 in
theorem pcheck_any (k : ByteArray) (g : Int) (A : Option Addr) (n c B : Nat) (L : List RA) (w : World) (h : Lies w B A n c L) (hB : B ≤ w.heap.size) (hn : n ≤ 1000000000) (hf : FewR L) :
    Calls Try.prog 10 #[.agg #[.string k, .int .i64 g, .slice A n c]] w fun x w' => x = .returned (.bool (Pa.ok ⟨k, g, ros L⟩)) ∧ Below w.heap.size w w' := by
  obtain ⟨r, hrr⟩ : ∃ r, Pa.ok ⟨k, g, ros L⟩ = r := ⟨_, rfl⟩
  rw [hrr]
  unfold Pa.ok at hrr
  simp only at hrr
  rw [List.length_map, h.len] at hrr
  obtain ⟨u1, hu1⟩ : ∃ u, decide (k.size ≤ 100) = u := ⟨_, rfl⟩
  have hu1i : decide (((k.size : Nat) : Int) ≤ 100) = u1 := by rw [← hu1]; simp; omega
  obtain ⟨u2, hu2⟩ : ∃ u, stm g = u := ⟨_, rfl⟩
  obtain ⟨u3, hu3⟩ : ∃ u, (decide (n ≤ 100) && rowsB (ros L)) = u := ⟨_, rfl⟩
  rw [hu1, hu2, hu3] at hrr
  have RR := Lib.hid hrr; have U2 := Lib.hid hu2; have U3 := Lib.hid hu3
  have bz := (Below.refl w.heap.size w).alloc (Nat.le_refl _) (.cells #[.string k, .int .i64 g, .slice A n c] 24)
  have hz := heap_alloc_new w (.cells #[.string k, .int .i64 g, .slice A n c] 24)
  have HL := Lib.hid (h.below (bz.mono hB)); have HF := Lib.hid hf; have BZ := Lib.hid bz
  obtain ⟨_, _, _⟩ := PtAt.of hz
  clear hrr hu2 hu3 bz hz h hf
  go_enter Try.func10, Try.ntmps10
  cases u1
  · have hv : r = false := by rw [← RR.out]; rfl
    subst hv
    go_wp2
    go_ret
    exact ⟨rfl, BZ.out⟩
  · go_wp2_with fail
    refine (pstamp_any g _).mono ?_
    rintro e w1 ⟨rfl, rfl⟩
    rw [U2.out]
    cases u2
    · have hv : r = false := by rw [← RR.out]; rfl
      subst hv
      go_wp2
      go_ret
      exact ⟨rfl, BZ.out⟩
    · go_wp2_with fail
      refine (rows_any A n c B L _ HL.out (by simp; omega) hn HF.out).mono ?_
      rintro e w2 ⟨rfl, b2⟩
      rw [U3.out]
      have hv : u3 = r := by rw [← RR.out]; rfl
      subst hv
      go_wp2
      go_ret
      exact ⟨rfl, next BZ.out b2⟩
end Go.Proofs.Ytafbbojfifcncaa
set_option linter.unusedVariables false
set_option linter.unusedSimpArgs false
namespace Go.Proofs.Ytafbbojfifcncaa
open Go Go.RowKit

theorem tot_le {M : List RA} {b : Nat} (h : ∀ x ∈ M, x.ro.cols.length ≤ b) : tot M ≤ M.length * b := by
  induction M with
  | nil => exact Nat.zero_le _
  | cons y M ih =>
    have h1 := h y (List.mem_cons_self ..)
    have h2 := ih fun x hx => h x (List.mem_cons_of_mem _ hx)
    rw [tot_cons, List.length_cons, Nat.succ_mul]
    omega
section
variable {k : ByteArray} {g : Int} {M : List RA}
theorem PartIn.rowin (h : PartIn ⟨k, g, ros M⟩) : ∀ x ∈ M, RowIn x.ro := fun x hx => (h.rows x.ro (List.mem_map.2 ⟨x, hx, rfl⟩)).1
theorem PartIn.mlen (h : PartIn ⟨k, g, ros M⟩) : M.length ≤ 4 := by
  have h1 := h.len
  rwa [List.length_map] at h1
theorem PartIn.tot (h : PartIn ⟨k, g, ros M⟩) : tot M ≤ 16 := by
  have h1 := tot_le (M := M) (b := 4) fun x hx => (h.rowin x hx).cols.len
  have h2 := h.mlen
  omega
theorem PartIn.colsle (h : PartIn ⟨k, g, ros M⟩) : ∀ x ∈ M, x.ro.cols.length ≤ 1000 := fun x hx => Nat.le_trans (h.rowin x hx).cols.len (by omega)
theorem RowIn.live {r : Ro} (h : RowIn r) : r.live.s.size = 0 := by
  have h1 := h.ok
  unfold Ro.ok liveB at h1
  simp only [Bool.and_eq_true] at h1
  have h2 := h1.2.1.2.1
  rw [Lib.toList_data, List.isEmpty_iff] at h2
  rw [ByteArray.size, ← Array.length_toList, h2]
  rfl
theorem PartIn.few (h : PartIn ⟨k, g, ros M⟩) : FewR M := fun x hx => ⟨fun y hy => by
  have h1 := (h.rowin x hx).cols.all y hy
  refine ⟨by omega, by unfold maxLen; omega⟩, by rw [(h.rowin x hx).live]; exact Nat.zero_le _, h.colsle x hx⟩
end
theorem pjoin_in (k k' : ByteArray) (g g' : Int) (A A' : Option Addr) (n n' c c' B B' : Nat) (M M' : List RA) (w : World) (h : Lies w B A n c M) (h' : Lies w B' A' n' c' M') (hB : B ≤ w.heap.size) (hB' : B' ≤ w.heap.size) (hp : PartIn ⟨k, g, ros M⟩) (hp' : PartIn ⟨k', g', ros M'⟩) :
    Calls Try.prog 15 #[.agg #[.string k, .int .i64 g, .slice A n c], .agg #[.string k', .int .i64 g', .slice A' n' c']] w fun e w' => ∃ M2 A2 n2 c2, e = .returned (.tuple #[.agg #[.string k, .int .i64 (max g g'), .slice A2 n2 c2], .bool true]) ∧ ros M2 = mrgR (ros M) (ros M') ∧ Fresh w w' (.slice A2 n2 c2) M2 := by
  have h1 := hp.mlen
  have h2 := hp'.mlen
  have h3 := hp.tot
  have h4 := hp'.tot
  have h5 := (hp.join hp').len
  rw [h.len] at h1
  rw [h'.len] at h2
  exact pjoin_fits k k' g g' A A' n n' c c' B B' M M' w h h' hB hB' (by omega) hp.up hp'.up (by omega) _ rfl (Nat.le_trans h5 (by omega))
/-- Rows that were there, or that are new. -/
def Held3 (W0 w : World) (A : Option Addr) (n c : Nat) (M : List RA) : Prop := Lies W0 W0.heap.size A n c M ∨ Fresh W0 w (.slice A n c) M
section
variable {W0 w w' : World} {A : Option Addr} {n c : Nat} {M : List RA}
theorem Held3.lies (h : Held3 W0 w A n c M) (hb : Below W0.heap.size W0 w) : Lies w w.heap.size A n c M := by
  rcases h with h | h
  · exact (h.below hb).up hb.size
  · exact h.lies.2.1
theorem Held3.on (h : Held3 W0 w A n c M) (hb : Below w.heap.size w w') : Held3 W0 w' A n c M := h.imp id fun h => h.on hb
theorem Held3.kept {F : Nat → Prop} (h : Held3 W0 w A n c M) (hk : Kept F w w') (hF : ∀ k, F k → W0.heap.size ≤ k ∧ ∃ cs, w.heap[k]? = some (.cells cs 24 (0, 0))) : Held3 W0 w' A n c M :=
  h.imp id fun h => h.kept hk hF (by decide) (by decide)
end
/-- A partition at block q. -/
structure AtP (W0 w : World) (q : Nat) (g : Int) (M : List RA) (A : Option Addr) (n c : Nat) : Prop where
  pt : w.heap[q]? = some (.cells #[.string ⟨#[107]⟩, .int .i64 g, .slice A n c] 24)
  held : Held3 W0 w A n c M
  up : W0.heap.size ≤ q
section
variable {W0 w w' : World} {q n c : Nat} {g : Int} {A : Option Addr} {M : List RA}
theorem AtP.lt (h : AtP W0 w q g M A n c) : q < w.heap.size := (Array.getElem?_eq_some_iff.1 h.pt).1
theorem AtP.on (h : AtP W0 w q g M A n c) (hb : Below w.heap.size w w') : AtP W0 w' q g M A n c := ⟨(hb.block q h.lt).trans h.pt, h.held.on hb, h.up⟩
theorem AtP.kept (h : AtP W0 w q g M A n c) {r : Nat} (hk : Kept (fun k => k = r) w w') (hr : W0.heap.size ≤ r ∧ ∃ cs, w.heap[r]? = some (.cells cs 24 (0, 0))) (hne : r ≠ q) : AtP W0 w' q g M A n c :=
  ⟨(hk.block q h.lt (fun e => hne e.symm)).trans h.pt, h.held.kept hk fun j hj => by subst hj; exact hr, h.up⟩
/-- Another one laid in its place. -/
theorem AtP.put (h : AtP W0 w q g M A n c) {g' : Int} {M' : List RA} {A' : Option Addr} {n' c' : Nat} (hf : Fresh W0 w (.slice A' n' c') M') :
    AtP W0 (((w.setCell ⟨q, 0, none⟩ (.string ⟨#[107]⟩)).setCell ⟨q, 1, none⟩ (.int .i64 g')).setCell ⟨q, 2, none⟩ (.slice A' n' c')) q g' M' A' n' c' :=
  ⟨set3_block h.pt _ _ _, Or.inr (hf.kept (e := 24) (kept_set3 q _ _ _) (fun j hj => by rw [hj]; exact ⟨h.up, _, h.pt⟩) (by decide) (by decide)), h.up⟩
theorem AtP.putB (h : AtP W0 w q g M A n c) (hb : Below W0.heap.size W0 w) (g' : Int) (v : Value) :
    Below W0.heap.size W0 (((w.setCell ⟨q, 0, none⟩ (.string ⟨#[107]⟩)).setCell ⟨q, 1, none⟩ (.int .i64 g')).setCell ⟨q, 2, none⟩ v) :=
  hb.trans ((kept_set3 (w := w) q (.string ⟨#[107]⟩) (.int .i64 g') v).below (fun j hj => by rw [hj]; exact h.up) hb.size)
end
/-- A partition of a list, as a partition. -/
def paOf (Ps : List PA) (i : Nat) : Pa :=
  match Ps[i]? with
  | some x => ⟨⟨#[107]⟩, x.g, ros x.L⟩
  | none => ⟨⟨#[107]⟩, 0, []⟩
theorem paOf_at {Ps : List PA} {i : Nat} (h : i < Ps.length) : paOf Ps i = ⟨⟨#[107]⟩, Ps[i].g, ros Ps[i].L⟩ := by
  unfold paOf
  rw [List.getElem?_eq_getElem h]
theorem in_sl (k : ByteArray) : SL Pa.join fun p => p.key = k ∧ PartIn p where
  good := fun hx hy => ⟨hx.1, hx.2.join hy.2⟩
  comm := fun hx hy => pa_comm (hx.1.trans hy.1.symm) hx.2.up hy.2.up
  assoc := fun hx hy hz => pa_assoc hx.2.up hy.2.up hz.2.up
  self := fun hx => pa_self hx.2.up
end Go.Proofs.Ytafbbojfifcncaa
set_option linter.unusedVariables false
set_option linter.unusedSimpArgs false
namespace Go.Proofs.Ytafbbojfifcncaa
open Go Go.RowKit Go.Joins

/-- A row's block, the columns as they are. -/
def RJ (w : World) (r : Nat) (k s : ByteArray) (d : Bool) (a e g h : Int) (A : Option Addr) (n c : Nat) : Prop := w.heap[r]? = some (.cells #[.string k, .string s, .bool d, .int .i64 a, .int .i64 e, .int .i64 g, .int .i64 h, .slice A n c] 36 (0, 0))
theorem RJ.cells {w : World} {r : Nat} {k s : ByteArray} {d : Bool} {a e g h : Int} {A : Option Addr} {n c : Nat} (hr : RJ w r k s d a e g h A n c) : RoAt w r k s d a e g h A n c :=
  ⟨cell_at hr rfl, cell_at hr rfl, cell_at hr rfl, cell_at hr rfl, cell_at hr rfl, cell_at hr rfl, cell_at hr rfl, cell_at hr rfl⟩
theorem RJ.set {w : World} {r : Nat} {k s : ByteArray} {d : Bool} {a e g h : Int} {A : Option Addr} {n c : Nat} (hr : RJ w r k s d a e g h A n c) (k' s' : ByteArray) (d' : Bool) (a' e' g' h' : Int) (A' : Option Addr) (n' c' : Nat) :
    RJ ((((((((w.setCell ⟨r, 0, none⟩ (.string k')).setCell ⟨r, 1, none⟩ (.string s')).setCell ⟨r, 2, none⟩ (.bool d')).setCell ⟨r, 3, none⟩ (.int .i64 a')).setCell ⟨r, 4, none⟩ (.int .i64 e')).setCell ⟨r, 5, none⟩ (.int .i64 g')).setCell ⟨r, 6, none⟩ (.int .i64 h')).setCell ⟨r, 7, none⟩ (.slice A' n' c')) r k' s' d' a' e' g' h' A' n' c' := by
  have m := block_setCell (i := 7) (block_setCell (i := 6) (block_setCell (i := 5) (block_setCell (i := 4) (block_setCell (i := 3) (block_setCell (i := 2) (block_setCell (i := 1) (block_setCell (i := 0) hr (.string k')) (.string s')) (.bool d')) (.int .i64 a')) (.int .i64 e')) (.int .i64 g')) (.int .i64 h')) (.slice A' n' c')
  simp only [List.setIfInBounds_toArray, List.set_cons_zero, List.set_cons_succ] at m
  exact m
theorem RJ.set7 {w : World} {r : Nat} {k s : ByteArray} {d : Bool} {a e g h : Int} {A : Option Addr} {n c : Nat} (hr : RJ w r k s d a e g h A n c) (A' : Option Addr) (n' c' : Nat) :
    RJ (w.setCell ⟨r, 7, none⟩ (.slice A' n' c')) r k s d a e g h A' n' c' := by
  have m := block_setCell (i := 7) hr (.slice A' n' c')
  simp only [List.setIfInBounds_toArray, List.set_cons_zero, List.set_cons_succ] at m
  exact m
theorem RJ.thawed {w : World} {r : Nat} {k s : ByteArray} {d : Bool} {a e g h : Int} {A : Option Addr} {n c : Nat} (hr : RJ w r k s d a e g h A n c) (i : Nat) : w.frozen? ⟨r, i, none⟩ = false := thawed_at (i := i) hr
/-- Eight stores into one block. -/
theorem eight_heap (w : World) (r : Nat) (v0 v1 v2 v3 v4 v5 v6 v7 : Value) (j : Nat) (hj : j ≠ r) :
    ((((((((w.setCell ⟨r, 0, none⟩ v0).setCell ⟨r, 1, none⟩ v1).setCell ⟨r, 2, none⟩ v2).setCell ⟨r, 3, none⟩ v3).setCell ⟨r, 4, none⟩ v4).setCell ⟨r, 5, none⟩ v5).setCell ⟨r, 6, none⟩ v6).setCell ⟨r, 7, none⟩ v7).heap[j]? = w.heap[j]? := by
  iterate 8 rw [Below.heap_setCell _ _ _ _ hj]
theorem eight_below {B : Nat} {w0 w : World} (h : Below B w0 w) (r : Nat) (hr : B ≤ r) (v0 v1 v2 v3 v4 v5 v6 v7 : Value) :
    Below B w0 ((((((((w.setCell ⟨r, 0, none⟩ v0).setCell ⟨r, 1, none⟩ v1).setCell ⟨r, 2, none⟩ v2).setCell ⟨r, 3, none⟩ v3).setCell ⟨r, 4, none⟩ v4).setCell ⟨r, 5, none⟩ v5).setCell ⟨r, 6, none⟩ v6).setCell ⟨r, 7, none⟩ v7) :=
  (((((((h.setCell (p := ⟨r, 0, none⟩) hr v0).setCell (p := ⟨r, 1, none⟩) hr v1).setCell (p := ⟨r, 2, none⟩) hr v2).setCell (p := ⟨r, 3, none⟩) hr v3).setCell (p := ⟨r, 4, none⟩) hr v4).setCell (p := ⟨r, 5, none⟩) hr v5).setCell (p := ⟨r, 6, none⟩) hr v6).setCell (p := ⟨r, 7, none⟩) hr v7

theorem own_ne {w : World} {b n size : Nat} {e e' : TypeId} {v : Value} {xs : List Value} {r : Nat} {cs : Array Value} (h : w.ownsRow b e size v n xs) (hr : w.heap[r]? = some (.cells cs e' (0, 0))) (he : e ≠ e') : ∀ g, v.ownBlock = some g → g ≠ r := fun g hg hgr => by
  subst hgr
  obtain ⟨cs', h1⟩ := own_tag h g hg
  rw [h1] at hr
  injection hr with hr
  injection hr with _ h2
  exact he h2
theorem Cur.eight {w0 w : World} {v : Value} {C : Cols} (hc : Cur w0 w v C) {r : Nat} {k s : ByteArray} {d : Bool} {a e g h : Int} {A : Option Addr} {n c : Nat} (hr : RJ w r k s d a e g h A n c) (hb : w0.heap.size ≤ r) (v0 v1 v2 v3 v4 v5 v6 v7 : Value) :
    Cur w0 ((((((((w.setCell ⟨r, 0, none⟩ v0).setCell ⟨r, 1, none⟩ v1).setCell ⟨r, 2, none⟩ v2).setCell ⟨r, 3, none⟩ v3).setCell ⟨r, 4, none⟩ v4).setCell ⟨r, 5, none⟩ v5).setCell ⟨r, 6, none⟩ v6).setCell ⟨r, 7, none⟩ v7) v C :=
  ⟨own_kept hc.own fun g hg => eight_heap _ _ _ _ _ _ _ _ _ _ g (own_ne hc.own hr (by decide) g hg), eight_below hc.below r hb _ _ _ _ _ _ _ _⟩
end Go.Proofs.Ytafbbojfifcncaa
set_option linter.unusedVariables false
set_option linter.unusedSimpArgs false
namespace Go.Proofs.Ytafbbojfifcncaa
open Go Go.RowKit

theorem seen_rx (x : RA) (B : Nat) (p now : Int) (X : Cols) (hX : seenD (max x.ro.gone p) now x.ro.cols = X) (w : World) (h : RaIn w B x) (hB : B ≤ w.heap.size) (hn : x.ro.cols.length ≤ 1000) :
    Calls Try.prog 43 #[.agg #[.string x.ro.key, .string x.ro.live.s, .bool x.ro.live.d, .int .i64 x.ro.live.a, .int .i64 x.ro.live.e, .int .i64 x.ro.gone, .int .i64 x.ro.shade, .slice x.A x.ro.cols.length x.c], .int .i64 p, .int .i64 now] w fun e w' => ∃ A c, e = .returned (.slice A X.length c) ∧ Cur w w' (.slice A X.length c) X := by
  subst hX
  exact seen_ra x B p now w h hB hn
theorem take_ros (L : List RA) (t : Nat) : ros (L.take t) = (ros L).take t := List.map_take ..
/-- A partition's block and a row's. -/
def Two (w : World) (p : Nat) (k : ByteArray) (g : Int) (A : Option Addr) (n c : Nat) (q : Nat) (x : RA) : Prop := w.heap[p]? = some (.cells #[.string k, .int .i64 g, .slice A n c] 24) ∧ w.heap[q]? = some (.cells #[.string x.ro.key, .string x.ro.live.s, .bool x.ro.live.d, .int .i64 x.ro.live.a, .int .i64 x.ro.live.e, .int .i64 x.ro.gone, .int .i64 x.ro.shade, .slice x.A x.ro.cols.length x.c] 36)
theorem Two.on {w w' : World} {p q n c : Nat} {k : ByteArray} {g : Int} {A : Option Addr} {x : RA} (h : Two w p k g A n c q x) (hb : Below w.heap.size w w') : Two w' p k g A n c q x :=
  ⟨(hb.block p (Array.getElem?_eq_some_iff.1 h.1).1).trans h.1, (hb.block q (Array.getElem?_eq_some_iff.1 h.2).1).trans h.2⟩
theorem Two.grown {w w' : World} {p q n c : Nat} {k : ByteArray} {g : Int} {A : Option Addr} {x : RA} {b m : Nat} {v : Value} {xs : List Value} (h : Two w p k g A n c q x) (ho : w.ownsRow b 36 8 v m xs) (hg : w.grownBy w' v.ownBlock) (hq : v.ownBlock ≠ some q) : Two w' p k g A n c q x := by
  have hk := Kept.of_grown (F := fun k => v.ownBlock = some k) hg fun k hk => hk
  refine ⟨(hk.block p (Array.getElem?_eq_some_iff.1 h.1).1 fun hp => own_ne ho h.1 (by decide) p hp rfl).trans h.1, (hk.block q (Array.getElem?_eq_some_iff.1 h.2).1 hq).trans h.2⟩
set_option maxRecDepth 8000 in
set_option maxHeartbeats 8000000 in
theorem pseen_any (k : ByteArray) (g now : Int) (st : Bool) (A : Option Addr) (n c B : Nat) (L : List RA) (w : World) (h : Lies w B A n c L) (hB : B ≤ w.heap.size) (hn : n ≤ 1000) (hf : ∀ x ∈ L, x.ro.cols.length ≤ 1000) :
    Calls Try.prog 21 #[.agg #[.string k, .int .i64 g, .slice A n c], .int .i64 now, .bool st] w fun e w' => ∃ v M, e = .returned v ∧ ros M = seenR g now st (ros L) ∧ Own w w' v M := by
  have hl := h.len
  have bz := (Below.refl w.heap.size w).alloc (Nat.le_refl _) (.cells #[.string k, .int .i64 g, .slice A n c] 24)
  have hz0 := heap_alloc_new w (.cells #[.string k, .int .i64 g, .slice A n c] 24)
  obtain ⟨V, hV⟩ : ∃ V, V = w.alloc (.cells #[.string k, .int .i64 g, .slice A n c] 24) := ⟨_, rfl⟩
  have hVs : V.heap.size = w.heap.size + 1 := by rw [hV]; simp
  rw [← hV] at bz hz0
  have HL := Lib.hid hl; have HH := Lib.hid h; have HF := Lib.hid hf; have BZ := Lib.hid bz; have HZ0 := Lib.hid hz0; have HVS := Lib.hid hVs; have HN := Lib.hid hn
  obtain ⟨_, _, _⟩ := PtAt.of hz0
  clear hl h hf bz hz0 hVs
  go_enter Try.func21, Try.ntmps21
  go_wp2_with fail
  rw [← hV]
  clear hV
  go_wp2_with fail
  go_loopw [13, 7] (fun i v wr => ∃ (t : Nat) (M : List RA), t ≤ n ∧ i = .int .i64 t ∧ ros M = seenR g now st (ros (L.take t)) ∧ M.length ≤ t ∧ Own w wr v M ∧ wr.heap[w.heap.size]? = some (.cells #[.string k, .int .i64 g, .slice A n c] 24)) (fun i _ _ => n - (intOf i).toNat)
  case atStart => exact ⟨0, [], Nat.zero_le _, rfl, rfl, Nat.le_refl _, Own.nil BZ.out, HZ0.out⟩
  case round =>
    obtain ⟨t, M, ht, rfl, hm, hmt, ho, hz⟩ := hrel
    obtain ⟨A3, c3, rfl, _⟩ := ho.slice
    obtain ⟨m, hmm⟩ : ∃ m, M.length = m := ⟨_, rfl⟩
    rw [hmm] at ho hmt ⊢
    have HMR := Lib.hid hm; have HM := Lib.hid hmm; have HMT := Lib.hid hmt; have HO := Lib.hid ho; have HZ := Lib.hid hz
    have hvw : w.heap.size < wr.heap.size := (Array.getElem?_eq_some_iff.1 hz).1
    obtain ⟨_, _, _⟩ := PtAt.of hz
    clear hm hmm hmt ho hz
    by_cases hlt : t < n
    · have i1 : (t : Int) < n := by omega
      have i0 : (0 : Int) ≤ t := by omega
      have htl : t < L.length := by rw [HL.out]; exact hlt
      obtain ⟨g0, o0, rfl, hgb⟩ := HH.out.rd.ex (by omega)
      have hlies := HH.out.below (HO.out.below.mono hB)
      have hrow := hlies.rd.row htl
      have hin := hlies.held L[t] (List.getElem_mem htl)
      have hcl := HF.out L[t] (List.getElem_mem htl)
      have htk := ros_take htl
      obtain ⟨x, hx⟩ : ∃ x, L[t] = x := ⟨_, rfl⟩
      rw [hx] at hrow hin hcl htk
      have ha := (Below.refl wr.heap.size wr).alloc (Nat.le_refl _) (.cells #[.string x.ro.key, .string x.ro.live.s, .bool x.ro.live.d, .int .i64 x.ro.live.a, .int .i64 x.ro.live.e, .int .i64 x.ro.gone, .int .i64 x.ro.shade, .slice x.A x.ro.cols.length x.c] 36)
      have hin2 := hin.below (ha.mono (by have := HO.out.below.size; omega))
      have hbk := heap_alloc_new wr (.cells #[.string x.ro.key, .string x.ro.live.s, .bool x.ro.live.d, .int .i64 x.ro.live.a, .int .i64 x.ro.live.e, .int .i64 x.ro.gone, .int .i64 x.ro.shade, .slice x.A x.ro.cols.length x.c] 36)
      have hpt := (ha.block w.heap.size hvw).trans HZ.out
      have hou := HO.out.on ha
      obtain ⟨_, _, _, _, _, _, _, _⟩ := hrow
      obtain ⟨U, hU⟩ : ∃ U, U = wr.alloc (.cells #[.string x.ro.key, .string x.ro.live.s, .bool x.ro.live.d, .int .i64 x.ro.live.a, .int .i64 x.ro.live.e, .int .i64 x.ro.gone, .int .i64 x.ro.shade, .slice x.A x.ro.cols.length x.c] 36) := ⟨_, rfl⟩
      have hUs : U.heap.size = wr.heap.size + 1 := by rw [hU]; simp
      rw [← hU] at hin2 hbk hpt hou
      have hall : ∀ w', Below U.heap.size U w' → BlkAt w' wr.heap.size x ∧ PtAt w' w.heap.size k g (some ⟨g0, o0, none⟩) n c := fun w' hb =>
        ⟨BlkAt.of ((hb.block wr.heap.size (by omega)).trans hbk), PtAt.of ((hb.block w.heap.size (by omega)).trans hpt)⟩
      have hin3 : ∀ w', Below U.heap.size U w' → RaIn w' B x := fun w' hb => hin2.below (hb.mono (by have := HO.out.below.size; omega))
      have HTWO : Hid (Two U w.heap.size k g (some ⟨g0, o0, none⟩) n c wr.heap.size x) := Lib.hid ⟨hpt, hbk⟩
      have HOL := Lib.hid (own_block_lt HO.out.cur.own)
      have HIN := Lib.hid hin3; have HCL := Lib.hid hcl; have HTK := Lib.hid htk; have HOU := Lib.hid hou; have HALL := Lib.hid hall; have HPT := Lib.hid hpt
      have HUB := Lib.hid (show B ≤ U.heap.size by have := HO.out.below.size; omega)
      have HVB := Lib.hid (show w.heap.size ≤ U.heap.size by have := HO.out.below.size; omega)
      have HUL := Lib.hid (show w.heap.size < U.heap.size by omega)
      obtain ⟨⟨_, _, _, _, _, _, _, _⟩, _, _, _⟩ := hall U (Below.refl _ _)
      clear hlies hin hcl htk hx ha hin2 hbk hpt hou hUs hall hin3
      go_wp2_with fail
      rw [← hU]
      clear hU
      obtain ⟨u, hu⟩ : ∃ u, x.ro.isD g now st = u := ⟨_, rfl⟩
      have HU := Lib.hid hu
      clear hu
      go_wp2_with fail
      refine (is_ra x B g now st _ (HIN.out _ (Below.refl _ _)) HUB.out HCL.out).mono ?_
      rintro e w1 ⟨rfl, b1⟩
      rw [HU.out]
      have T1 : Hid (Two w1 w.heap.size k g (some ⟨g0, o0, none⟩) n c wr.heap.size x) := Lib.hid (HTWO.out.on b1)
      have B1 := Lib.hid b1; have HO1 := Lib.hid (HOU.out.on b1)
      clear b1
      cases u
      · have hz1 := (B1.out.block w.heap.size HUL.out).trans HPT.out
        have hs : ros M = seenR g now st (ros (L.take (t + 1))) := by rw [HTK.out, seenR_snoc, HU.out, HMR.out]; rfl
        have HS := Lib.hid hs; have HZ1 := Lib.hid hz1
        clear hs hz1
        go_wp2
        go_roundw
        case rel => exact ⟨t + 1, M, by omega, by go_num, HS.out, by rw [HM.out]; have := HMT.out; omega, by first | exact HM.out ▸ HO1.out | exact HO1.out, HZ1.out⟩
        case measure => simp [intOf]; omega
      · obtain ⟨X, hX⟩ : ∃ X, seenD (max x.ro.gone g) now x.ro.cols = X := ⟨_, rfl⟩
        have HX := Lib.hid hX
        clear hX
        go_wp2_with fail
        refine wp_region_held_drew (S := fun w' => Two w' w.heap.size k g (some ⟨g0, o0, none⟩) n c wr.heap.size x) (by kernel_rfl) ?_ (fun hHeld => ?_)
        · exact T1.out
        refine wpAnyH_take (i := 0) (v := ?_) rfl (by kernel_rfl) (by kernel_rfl) (by kernel_rfl) (fun _ _ _ h => h) (Or.inl ⟨by rfl, ?_⟩) (by assumption) ?_
        rotate_left
        · (intro wx hSw; (try dsimp only at hSw); go_simp; try with_reducible rfl)
        try simp only [Act.put, List.getElem_toArray, List.getElem_cons_succ, List.getElem_cons_zero, List.setIfInBounds_toArray, List.set_cons_zero, List.set_cons_succ]
        refine wpAnyH_take (i := 1) (v := ?_) rfl (by kernel_rfl) (by kernel_rfl) (by kernel_rfl) (fun _ _ _ h => h) (Or.inl ⟨by rfl, ?_⟩) (by assumption) ?_
        rotate_left
        · (intro wx hSw; (try dsimp only at hSw); go_simp; try with_reducible rfl)
        try simp only [Act.put, List.getElem_toArray, List.getElem_cons_succ, List.getElem_cons_zero, List.setIfInBounds_toArray, List.set_cons_zero, List.set_cons_succ]
        refine wpAnyH_take (i := 2) (v := ?_) rfl (by kernel_rfl) (by kernel_rfl) (by kernel_rfl) (fun _ _ _ h => h) (Or.inl ⟨by rfl, ?_⟩) (by assumption) ?_
        rotate_left
        · (intro wx hSw; (try dsimp only at hSw); obtain ⟨_, _, _⟩ := PtAt.of hSw.1; obtain ⟨_, _, _, _, _, _, _, _⟩ := BlkAt.of hSw.2; go_simp; try with_reducible rfl)
        try simp only [Act.put, List.getElem_toArray, List.getElem_cons_succ, List.getElem_cons_zero, List.setIfInBounds_toArray, List.set_cons_zero, List.set_cons_succ]
        refine wpAnyH_take (i := 3) (v := ?_) rfl (by kernel_rfl) (by kernel_rfl) (by kernel_rfl) (fun _ _ _ h => h) (Or.inl ⟨by rfl, ?_⟩) (by assumption) ?_
        rotate_left
        · (intro wx hSw; (try dsimp only at hSw); go_simp; try with_reducible rfl)
        try simp only [Act.put, List.getElem_toArray, List.getElem_cons_succ, List.getElem_cons_zero, List.setIfInBounds_toArray, List.set_cons_zero, List.set_cons_succ]
        refine wpAnyH_take (i := 4) (v := ?_) rfl (by kernel_rfl) (by kernel_rfl) (by kernel_rfl) (fun _ _ _ h => h) (Or.inl ⟨by rfl, ?_⟩) (by assumption) ?_
        rotate_left
        · (intro wx hSw; (try dsimp only at hSw); obtain ⟨_, _, _⟩ := PtAt.of hSw.1; obtain ⟨_, _, _, _, _, _, _, _⟩ := BlkAt.of hSw.2; go_simp; try with_reducible rfl)
        try simp only [Act.put, List.getElem_toArray, List.getElem_cons_succ, List.getElem_cons_zero, List.setIfInBounds_toArray, List.set_cons_zero, List.set_cons_succ]
        refine wpAnyH_take (i := 5) (v := ?_) rfl (by kernel_rfl) (by kernel_rfl) (by kernel_rfl) (fun _ _ _ h => h) (Or.inl ⟨by rfl, ?_⟩) (by assumption) ?_
        rotate_left
        · (intro wx hSw; (try dsimp only at hSw); obtain ⟨_, _, _⟩ := PtAt.of hSw.1; obtain ⟨_, _, _, _, _, _, _, _⟩ := BlkAt.of hSw.2; go_simp; try with_reducible rfl)
        try simp only [Act.put, List.getElem_toArray, List.getElem_cons_succ, List.getElem_cons_zero, List.setIfInBounds_toArray, List.set_cons_zero, List.set_cons_succ]
        refine wpAnyH_take (i := 6) (v := ?_) rfl (by kernel_rfl) (by kernel_rfl) (by kernel_rfl) (fun _ _ _ h => h) (Or.inl ⟨by rfl, ?_⟩) (by assumption) ?_
        rotate_left
        · (intro wx hSw; (try dsimp only at hSw); go_simp; try with_reducible rfl)
        try simp only [Act.put, List.getElem_toArray, List.getElem_cons_succ, List.getElem_cons_zero, List.setIfInBounds_toArray, List.set_cons_zero, List.set_cons_succ]
        refine wpAnyH_take (i := 7) (v := ?_) rfl (by kernel_rfl) (by kernel_rfl) (by kernel_rfl) (fun _ _ _ h => h) (Or.inl ⟨by rfl, ?_⟩) (by assumption) ?_
        rotate_left
        · (intro wx hSw; (try dsimp only at hSw); obtain ⟨_, _, _⟩ := PtAt.of hSw.1; obtain ⟨_, _, _, _, _, _, _, _⟩ := BlkAt.of hSw.2; go_simp; try with_reducible rfl)
        try simp only [Act.put, List.getElem_toArray, List.getElem_cons_succ, List.getElem_cons_zero, List.setIfInBounds_toArray, List.set_cons_zero, List.set_cons_succ]
        refine wpAnyH_take (i := 8) (v := ?_) rfl (by kernel_rfl) (by kernel_rfl) (by kernel_rfl) (fun _ _ _ h => h) (Or.inl ⟨by rfl, ?_⟩) (by assumption) ?_
        rotate_left
        · (intro wx hSw; (try dsimp only at hSw); go_simp; try with_reducible rfl)
        try simp only [Act.put, List.getElem_toArray, List.getElem_cons_succ, List.getElem_cons_zero, List.setIfInBounds_toArray, List.set_cons_zero, List.set_cons_succ]
        refine wpAnyH_ready (rs := [9]) (by kernel_rfl) (by simp) (AllReadyH.cons rfl (fun K hK => ?_) AllReadyH.nil)
        go_simp
        refine (seen_rx x B g now X HX.out _ ?hin ?hsz HCL.out).mono ?_
        case hin => exact HIN.out _ B1.out.drew
        case hsz => exact Nat.le_trans HUB.out B1.out.size
        rintro e v4 ⟨A4, c4, rfl, hc4⟩
        have hbv := next (w := w1) (w1 := w1.drew) ((Below.refl w1.heap.size w1).drew) hc4.below
        have C4 := Lib.hid (HO1.out.on hbv)
        have C5 := Lib.hid (C4.out.on ((Below.refl v4.heap.size v4).alloc (Nat.le_refl _) (.cells #[.string x.ro.key, .string x.ro.live.s, .bool x.ro.live.d, .int .i64 x.ro.live.a, .int .i64 x.ro.live.e, .int .i64 0, .int .i64 0, .slice A4 X.length c4] 36)))
        have RD := Lib.hid (RdR.laid v4 (⟨⟨x.ro.key, x.ro.live, 0, 0, X⟩, A4, c4⟩ : RA))
        have hsf : Safe w v4 (⟨⟨x.ro.key, x.ro.live, 0, 0, X⟩, A4, c4⟩ : RA) := Or.inr (own_base hc4.own HO1.out.below.size)
        have HSF := Lib.hid (hsf.on ((Below.refl v4.heap.size v4).alloc (Nat.le_refl _) (.cells #[.string x.ro.key, .string x.ro.live.s, .bool x.ro.live.d, .int .i64 x.ro.live.a, .int .i64 x.ro.live.e, .int .i64 0, .int .i64 0, .slice A4 X.length c4] 36)))
        have T4 := Lib.hid (T1.out.on hbv)
        have T5 := Lib.hid (T4.out.on ((Below.refl v4.heap.size v4).alloc (Nat.le_refl _) (.cells #[.string x.ro.key, .string x.ro.live.s, .bool x.ro.live.d, .int .i64 x.ro.live.a, .int .i64 x.ro.live.e, .int .i64 0, .int .i64 0, .slice A4 X.length c4] 36)))
        clear hbv hsf
        try go_wp2_with fail
        refine hK.out _ _ ?_ (fun hHeld => ?_)
        · exact T4.out
        clear hK K
        try simp only [Act.put, List.getElem_toArray, List.getElem_cons_succ, List.getElem_cons_zero, List.setIfInBounds_toArray, List.set_cons_zero, List.set_cons_succ]
        refine wpAnyH_take (i := 10) (v := ?_) rfl (by kernel_rfl) (by kernel_rfl) (by kernel_rfl) (fun _ _ _ h => h) (Or.inl ⟨by rfl, ?_⟩) (by assumption) ?_
        rotate_left
        · (intro wx hSw; (try dsimp only at hSw); go_simp; try with_reducible rfl)
        try simp only [Act.put, List.getElem_toArray, List.getElem_cons_succ, List.getElem_cons_zero, List.setIfInBounds_toArray, List.set_cons_zero, List.set_cons_succ]
        refine wpAnyH_ready (rs := [11]) (by kernel_rfl) (by simp) (AllReadyH.cons rfl (fun K hK => ?_) AllReadyH.nil)
        go_simp
        refine hK.out _ _ ?_ (fun hHeld => ?_)
        · exact T5.out
        clear hK K
        try simp only [Act.put, List.getElem_toArray, List.getElem_cons_succ, List.getElem_cons_zero, List.setIfInBounds_toArray, List.set_cons_zero, List.set_cons_succ]
        refine wpAnyH_ready (rs := [12]) (by kernel_rfl) (by simp) (AllReadyH.cons rfl (fun K hK => ?_) AllReadyH.nil)
        refine step_ex rfl (.tmp 23) (.tmp 34) _ _ rfl (.slice A3 m c3) (.slice (some ⟨v4.heap.size, 0, none⟩) 1 1) (by simp [Act.eval]) (by simp [Act.eval]) (run_appR w.heap.size (HM.out ▸ C5.out.cur.own) RD.out ?s3 ?s4) ?_
        case s3 => have := HMT.out; have := HN.out; omega
        case s4 => exact C5.out.below.size
        intro v6 w6 ho6 hg6
        obtain ⟨hg6, _⟩ := hg6
        obtain ⟨A6, m6, c6, rfl, hm6, hc6⟩ := C5.out.app (k := [(⟨⟨x.ro.key, x.ro.live, 0, 0, X⟩, A4, c4⟩ : RA)]) (fun y hy => by rw [List.mem_singleton.1 hy]; exact HSF.out) ho6 hg6
        have C6 := Lib.hid hc6
        have T6 := Lib.hid (T5.out.grown C5.out.cur.own hg6 (fun h => Nat.lt_irrefl _ (HOL.out _ h)))
        clear ho6 hg6 hc6 hm6
        refine hK.out _ _ ?_ (fun hHeld => ?_)
        · exact T6.out
        clear hK K
        try simp only [Act.put, List.getElem_toArray, List.getElem_cons_succ, List.getElem_cons_zero, List.setIfInBounds_toArray, List.set_cons_zero, List.set_cons_succ]
        refine wpAnyH_take (i := 13) (v := ?_) rfl (by kernel_rfl) (by kernel_rfl) (by kernel_rfl) (fun _ _ _ h => h) (Or.inl ⟨by rfl, ?_⟩) (by assumption) ?_
        rotate_left
        · (intro wx hSw; (try dsimp only at hSw); go_simp; try with_reducible rfl)
        try simp only [Act.put, List.getElem_toArray, List.getElem_cons_succ, List.getElem_cons_zero, List.setIfInBounds_toArray, List.set_cons_zero, List.set_cons_succ]
        refine wpAnyH_done (by kernel_rfl) ?_ _
        have hz1 := T6.out.1
        have hs : ros (M ++ [(⟨⟨x.ro.key, x.ro.live, 0, 0, X⟩, A4, c4⟩ : RA)]) = seenR g now st (ros (L.take (t + 1))) := by
          rw [HTK.out, seenR_snoc, HU.out, if_pos rfl, ← HMR.out, ← HX.out]
          simp [ros, Ro.seenD]
        have HS := Lib.hid hs; have HZ1 := Lib.hid hz1
        clear hs hz1
        go_wp2
        go_roundw
        case rel => exact ⟨t + 1, _, by omega, by go_num, HS.out, by rw [List.length_append, HM.out]; have := HMT.out; simp; omega, C6.out, HZ1.out⟩
        case measure => simp [intOf]; omega
    · obtain rfl : t = n := by omega
      have hs : ros M = seenR g now st (ros L) := by rw [HMR.out, List.take_of_length_le (by rw [HL.out]; exact Nat.le_refl _)]
      have HS := Lib.hid hs
      clear hs
      go_wp2
      go_ret
      first | exact ⟨_, M, rfl, HS.out, HM.out ▸ HO.out⟩ | exact ⟨_, M, rfl, HS.out, HO.out⟩ | exact ⟨_, rfl, M, HS.out, HO.out⟩
end Go.Proofs.Ytafbbojfifcncaa
set_option linter.unusedVariables false
set_option linter.unusedSimpArgs false
namespace Go.Proofs.Ytafbbojfifcncaa
open Go Go.RowKit

/-- The greatest stamp. -/
def stampC (m : Int) (l : Cols) : Int := l.foldl (fun m c => max m c.2.a) m
def stampR (m : Int) (l : List Ro) : Int := l.foldl (fun m r => stampC (max (max (max m r.live.a) r.gone) r.shade) r.cols) m
theorem stampC_snoc (m : Int) (l : Cols) (x : ByteArray × Ce) : stampC m (l ++ [x]) = max (stampC m l) x.2.a := by
  unfold stampC
  rw [List.foldl_append]
  rfl
theorem stampR_snoc (m : Int) (l : List Ro) (r : Ro) : stampR m (l ++ [r]) = stampC (max (max (max (stampR m l) r.live.a) r.gone) r.shade) r.cols := by
  unfold stampR
  rw [List.foldl_append]
  rfl
theorem run_max4 (w : World) (a b c d : Int) : (Builtin.max_ #[3, 3, 3, 3] 3 #[.int .i64 a, .int .i64 b, .int .i64 c, .int .i64 d]).run Try.prog w = .ok (.int .i64 (max (max (max a b) c) d)) w := by
  simp [Builtin.max_, Builtin.max2, List.foldlM]
  omega
set_option maxRecDepth 8000 in
set_option maxHeartbeats 8000000 in
theorem pstampall_any (k : ByteArray) (g : Int) (A : Option Addr) (n c B : Nat) (L : List RA) (w : World) (h : Lies w B A n c L) (hB : B ≤ w.heap.size) (hn : n ≤ 1000000) (hf : ∀ x ∈ L, x.ro.cols.length ≤ 1000) :
    Calls Try.prog 23 #[.agg #[.string k, .int .i64 g, .slice A n c]] w fun e w' => e = .returned (.int .i64 (stampR g (ros L))) ∧ Below w.heap.size w w' := by
  have hl := h.len
  have bz := (Below.refl w.heap.size w).alloc (Nat.le_refl _) (.cells #[.string k, .int .i64 g, .slice A n c] 24)
  have hz0 := heap_alloc_new w (.cells #[.string k, .int .i64 g, .slice A n c] 24)
  obtain ⟨V, hV⟩ : ∃ V, V = w.alloc (.cells #[.string k, .int .i64 g, .slice A n c] 24) := ⟨_, rfl⟩
  have hVs : V.heap.size = w.heap.size + 1 := by rw [hV]; simp
  rw [← hV] at bz hz0
  have HL := Lib.hid hl; have HH := Lib.hid h; have HF := Lib.hid hf; have BZ := Lib.hid bz; have HVS := Lib.hid hVs
  obtain ⟨_, _, _⟩ := PtAt.of hz0
  clear hl h hf bz hz0 hVs
  go_enter Try.func23, Try.ntmps23
  go_wp2_with fail
  rw [← hV]
  clear hV
  go_wp2_with fail
  go_loopw [13, 3] (fun i v wr => ∃ (t : Nat), t ≤ n ∧ i = .int .i64 t ∧ v = .int .i64 (stampR g (ros (L.take t))) ∧ Below w.heap.size w wr) (fun i _ _ => n - (intOf i).toNat)
  case atStart => exact ⟨0, Nat.zero_le _, rfl, rfl, BZ.out⟩
  case round =>
    obtain ⟨t, ht, rfl, rfl, hb⟩ := hrel
    have HB := Lib.hid hb
    clear hb
    obtain ⟨s, hs⟩ : ∃ s, stampR g (ros (L.take t)) = s := ⟨_, rfl⟩
    rw [hs]
    have HS := Lib.hid hs
    clear hs
    by_cases hlt : t < n
    · have i1 : (t : Int) < n := by omega
      have i0 : (0 : Int) ≤ t := by omega
      have htl : t < L.length := by rw [HL.out]; exact hlt
      obtain ⟨g0, o0, rfl, hgb⟩ := HH.out.rd.ex (by omega)
      have hlies := HH.out.below (HB.out.mono hB)
      have hrow := hlies.rd.row htl
      have hin := hlies.held L[t] (List.getElem_mem htl)
      have hcl := HF.out L[t] (List.getElem_mem htl)
      have htk := ros_take htl
      obtain ⟨x, hx⟩ : ∃ x, L[t] = x := ⟨_, rfl⟩
      rw [hx] at hrow hin hcl htk
      have ha := (Below.refl wr.heap.size wr).alloc (Nat.le_refl _) (.cells #[.string x.ro.key, .string x.ro.live.s, .bool x.ro.live.d, .int .i64 x.ro.live.a, .int .i64 x.ro.live.e, .int .i64 x.ro.gone, .int .i64 x.ro.shade, .slice x.A x.ro.cols.length x.c] 36)
      have hin2 := hin.below (ha.mono (by have := HB.out.size; omega))
      have hbk := BlkAt.of (heap_alloc_new wr (.cells #[.string x.ro.key, .string x.ro.live.s, .bool x.ro.live.d, .int .i64 x.ro.live.a, .int .i64 x.ro.live.e, .int .i64 x.ro.gone, .int .i64 x.ro.shade, .slice x.A x.ro.cols.length x.c] 36))
      have hbu := HB.out.trans (ha.mono HB.out.size)
      obtain ⟨_, _, _, _, _, _, _, hr7⟩ := hrow
      obtain ⟨U, hU⟩ : ∃ U, U = wr.alloc (.cells #[.string x.ro.key, .string x.ro.live.s, .bool x.ro.live.d, .int .i64 x.ro.live.a, .int .i64 x.ro.live.e, .int .i64 x.ro.gone, .int .i64 x.ro.shade, .slice x.A x.ro.cols.length x.c] 36) := ⟨_, rfl⟩
      rw [← hU] at hin2 hbk hbu
      obtain ⟨q, hq⟩ : ∃ q, x.ro.cols.length = q := ⟨_, rfl⟩
      obtain ⟨Ax, hAx⟩ : ∃ Ax, x.A = Ax := ⟨_, rfl⟩
      have hrd := hin2.rd
      rw [hq] at hcl
      rw [hq, hAx] at hrd hU
      obtain ⟨_, _, _, _, _, _, _, hb7⟩ := hbk
      rw [hq, hAx] at hb7 hr7
      have hmx := fun wx : World => run_max4 wx s x.ro.live.a x.ro.gone x.ro.shade
      have HUB := Lib.hid (show B ≤ U.heap.size by have := hbu.size; omega)
      have HTK := Lib.hid htk; have HBU := Lib.hid hbu; have HRD := Lib.hid hrd; have HQ := Lib.hid hq
      clear hlies hin htk hx ha hin2 hbu hrd hq hAx
      obtain ⟨z, hz⟩ : ∃ z, max (max (max s x.ro.live.a) x.ro.gone) x.ro.shade = z := ⟨_, rfl⟩
      simp only [hz] at hmx
      have HZ := Lib.hid hz
      clear hz
      go_wp2_with fail
      rw [← hU]
      clear hU hmx
      go_loopw [29, 3] (fun i v wi => ∃ (u : Nat), u ≤ q ∧ i = .int .i64 u ∧ v = .int .i64 (stampC z (x.ro.cols.take u)) ∧ Below U.heap.size U wi) (fun i _ _ => q - (intOf i).toNat)
      case atStart => exact ⟨0, Nat.zero_le _, rfl, rfl, Below.refl _ _⟩
      case round =>
        obtain ⟨u, hu, rfl, rfl, hb2⟩ := hrel
        have HB2 := Lib.hid hb2
        clear hb2
        obtain ⟨y, hy⟩ : ∃ y, stampC z (x.ro.cols.take u) = y := ⟨_, rfl⟩
        rw [hy]
        have HY := Lib.hid hy
        clear hy
        by_cases hlu : u < q
        · have i3 : (u : Int) < q := by omega
          have i4 : (0 : Int) ≤ u := by omega
          have hul : u < x.ro.cols.length := by rw [HQ.out]; exact hlu
          obtain ⟨g1, o1, rfl, hgb1, hc⟩ := (HRD.out.below (HB2.out.mono HUB.out)).2 (by omega)
          obtain ⟨e0, e1, e2, e3, e4⟩ := hc u hul
          have htk2 : x.ro.cols.take (u + 1) = x.ro.cols.take u ++ [x.ro.cols[u]] := List.take_succ_eq_append_getElem hul
          obtain ⟨⟨cm, ⟨cs, cd, ca, ce⟩⟩, hcx⟩ : ∃ y, x.ro.cols[u] = y := ⟨_, rfl⟩
          rw [hcx] at e0 e1 e2 e3 e4 htk2
          simp only at e0 e1 e2 e3 e4
          have hac := HB2.out.alloc HB2.out.size (.cells #[.string cm, .string cs, .bool cd, .int .i64 ca, .int .i64 ce] 66)
          have HAC := Lib.hid hac; have HT2 := Lib.hid htk2
          clear hc hcx hac htk2
          go_wp2
          go_roundw
          case rel => exact ⟨u + 1, by omega, by go_num, by rw [HT2.out, stampC_snoc, HY.out], HAC.out⟩
          case measure => simp [intOf]; omega
        · obtain rfl : u = q := by omega
          have hv : y = stampR g (ros (L.take (t + 1))) := by rw [HTK.out, stampR_snoc, HS.out, HZ.out, ← HY.out, List.take_of_length_le (by rw [HQ.out]; exact Nat.le_refl _)]
          have HV := Lib.hid hv
          clear hv
          have hb3 := HBU.out.trans (HB2.out.mono HBU.out.size)
          have HB3 := Lib.hid hb3
          clear hb3
          go_wp2
          go_roundw
          case rel => exact ⟨t + 1, by omega, by go_num, by rw [HV.out], HB3.out⟩
          case measure => simp [intOf]; omega
    · obtain rfl : t = n := by omega
      have hv : stampR g (ros L) = s := by rw [← HS.out, List.take_of_length_le (by rw [HL.out]; exact Nat.le_refl _)]
      have HV := Lib.hid hv
      clear hv
      go_wp2
      go_ret
      refine ⟨?_, HB.out⟩
      rw [HV.out]
      rfl
end Go.Proofs.Ytafbbojfifcncaa
set_option linter.unusedVariables false
set_option linter.unusedSimpArgs false
namespace Go.Proofs.Ytafbbojfifcncaa
open Go Go.RowKit

/-- A row that is there since a stamp, with nothing else. -/
def liveR (k : ByteArray) (a : Int) : Ro := ⟨k, ⟨⟨#[]⟩, false, a, 0⟩, 0, 0, []⟩
def liveA (k : ByteArray) (a : Int) : RA := ⟨liveR k a, none, 0⟩
theorem liveA_in (k : ByteArray) (a : Int) (w : World) (B : Nat) : RaIn w B (liveA k a) := ⟨RdK.nil _ _ _, Nat.le_refl _⟩
theorem liveR_up (k : ByteArray) (a : Int) : (liveR k a).Up := ⟨trivial, fun x hx => by cases hx⟩
theorem two_rows (w : World) (k k' : ByteArray) (a a' : Int) (W : World) (hW : W = w.alloc (.cells #[.string k, .string ⟨#[]⟩, .bool false, .int .i64 a, .int .i64 0, .int .i64 0, .int .i64 0, .slice none 0 0, .string k', .string ⟨#[]⟩, .bool false, .int .i64 a', .int .i64 0, .int .i64 0, .int .i64 0, .slice none 0 0] 36)) :
    Lies W (w.heap.size + 1) (some ⟨w.heap.size, 0, none⟩) 2 2 [liveA k a, liveA k' a'] := by
  subst hW
  refine ⟨RdR.of_all rfl (by omega) fun j u hu => ?_, fun x hx => ?_, Nat.le_refl _⟩
  · have e : rRow [liveA k a, liveA k' a'] = [.string k, .string ⟨#[]⟩, .bool false, .int .i64 a, .int .i64 0, .int .i64 0, .int .i64 0, .slice none 0 0, .string k', .string ⟨#[]⟩, .bool false, .int .i64 a', .int .i64 0, .int .i64 0, .int .i64 0, .slice none 0 0] := rfl
    rw [e] at hu
    rw [Nat.zero_add]
    exact cell_at (heap_alloc_new w _) (by simpa using hu)
  · simp only [List.mem_cons, List.not_mem_nil, or_false] at hx
    rcases hx with rfl | rfl <;> exact liveA_in _ _ _ _
def awR : List Ro := [liveR ⟨#[114]⟩ 8, liveR ⟨#[115]⟩ 10]
theorem awR_up (k : ByteArray) (g : Int) : (Pa.mk k g awR).Up := by
  refine ⟨⟨fun y hy => ?_, fun y hy => (by cases hy), trivial⟩, fun x hx => ?_⟩
  · rw [List.mem_singleton.1 hy]
    show nlt ⟨#[114]⟩ ⟨#[115]⟩
    decide
  · simp only [awR, List.mem_cons, List.not_mem_nil, or_false] at hx
    rcases hx with rfl | rfl <;> exact liveR_up _ _
theorem awR_seen : seenR 9 0 true awR = [liveR ⟨#[115]⟩ 10] := by rfl
theorem awR_stamp : stampR 9 awR = 10 := by rfl
theorem awR_cols : ∀ r ∈ awR, r.cols.length ≤ 1000 := by
  intro r hr
  simp only [awR, List.mem_cons, List.not_mem_nil, or_false] at hr
  rcases hr with rfl | rfl <;> exact Nat.zero_le _
set_option maxRecDepth 8000 in
set_option maxHeartbeats 8000000 in
theorem pawake_any (w : World) : Calls Try.prog 9 #[] w fun x w' => x = .returned (.bool true) ∧ Below w.heap.size w w' := by
  obtain ⟨W1, hW1⟩ : ∃ W, W = w.alloc (.cells #[.string ⟨#[114]⟩, .string ⟨#[]⟩, .bool false, .int .i64 8, .int .i64 0, .int .i64 0, .int .i64 0, .slice none 0 0, .string ⟨#[115]⟩, .string ⟨#[]⟩, .bool false, .int .i64 10, .int .i64 0, .int .i64 0, .int .i64 0, .slice none 0 0] 36) := ⟨_, rfl⟩
  have hl := two_rows w ⟨#[114]⟩ ⟨#[115]⟩ 8 10 W1 hW1
  have hb1 : Below w.heap.size w W1 := by rw [hW1]; exact (Below.refl _ _).alloc (Nat.le_refl _) _
  have hs1 : W1.heap.size = w.heap.size + 1 := by rw [hW1]; simp
  have HL := Lib.hid hl; have HB1 := Lib.hid hb1; have HS1 := Lib.hid hs1
  clear hl hb1 hs1
  go_enter Try.func9, Try.ntmps9
  go_wp2_with fail
  rw [← hW1]
  clear hW1
  refine (pjoin_fits ⟨#[107]⟩ ⟨#[120]⟩ 0 9 _ _ 2 0 2 0 (w.heap.size + 1) 0 [liveA ⟨#[114]⟩ 8, liveA ⟨#[115]⟩ 10] [] _ (HL.out.below ((Below.refl _ _).alloc (by have := HS1.out; omega) _)) ⟨RdR.nil _ _ _, fun x hx => (by cases hx), Nat.le_refl _⟩ (by simp; have := HS1.out; omega) (Nat.zero_le _) (by omega) (awR_up _ _) ⟨trivial, fun x hx => (by cases hx)⟩ (by decide) awR rfl (by decide)).mono ?_
  rintro e w2 ⟨M, A2, n2, c2, rfl, hM, hfr⟩
  obtain ⟨hn2, hl2, hA2⟩ := hfr.lies
  have hb2 := next (HB1.out.alloc (by have := HS1.out; omega) (.cells #[.string ⟨#[107]⟩, .int .i64 0, .slice (some ⟨w.heap.size, 0, none⟩) 2 2] 24)) hfr.below
  have hml : n2 = 2 := by rw [hn2, ← List.length_map (f := RA.ro), show List.map RA.ro M = awR from hM]; rfl
  subst hml
  have HL2 := Lib.hid hl2; have HM := Lib.hid hM; have HB2 := Lib.hid hb2
  clear hfr hl2 hM hb2 hn2 hA2
  rw [show max (0 : Int) 9 = 9 from rfl]
  obtain ⟨W3, hW3⟩ : ∃ W, W = w2.alloc (.cells #[.string ⟨#[107]⟩, .int .i64 9, .slice A2 2 c2] 24) := ⟨_, rfl⟩
  have hb3 : Below w2.heap.size w2 W3 := by rw [hW3]; exact (Below.refl _ _).alloc (Nat.le_refl _) _
  have hz3 : W3.heap[w2.heap.size]? = some (.cells #[.string ⟨#[107]⟩, .int .i64 9, .slice A2 2 c2] 24 (0, 0)) := by rw [hW3]; exact heap_alloc_new w2 _
  have HL3 := Lib.hid (HL2.out.below hb3); have HB3 := Lib.hid (next HB2.out hb3); have HS3 := Lib.hid hb3.size; have HZ3 := Lib.hid hz3
  have hlt3 := (Array.getElem?_eq_some_iff.1 hz3).1
  have HMF : Hid (∀ x ∈ M, x.ro.cols.length ≤ 1000) := Lib.hid fun x hx => awR_cols x.ro (by rw [← HM.out]; exact List.mem_map.2 ⟨x, hx, rfl⟩)
  obtain ⟨_, _, _⟩ := PtAt.of hz3
  clear hb3 hz3
  go_wp2_with fail
  rw [← hW3]
  clear hW3
  go_wp2_with fail
  refine (pseen_any ⟨#[107]⟩ 9 0 true A2 2 c2 w2.heap.size M _ HL3.out HS3.out (by omega) HMF.out).mono ?_
  rintro e w4 ⟨v, M4, rfl, hM4, hown⟩
  rw [HM.out, awR_seen] at hM4
  obtain ⟨y, rfl⟩ : ∃ y, M4 = [y] := by
    match M4, congrArg List.length hM4 with
    | [y], _ => exact ⟨y, rfl⟩
  have hy : y.ro = liveR ⟨#[115]⟩ 10 := by simpa [ros] using hM4
  obtain ⟨A4, c4, rfl, hcap4, _⟩ := hown.slice
  obtain ⟨g4, rfl, _, _, hrow, _⟩ := hown.row (j := 0) (by simp)
  simp only [List.getElem_cons_zero, Nat.zero_mul] at hrow
  have hk0 := hrow.1
  rw [hy, show (liveR ⟨#[115]⟩ 10).key = ⟨#[115]⟩ from rfl] at hk0
  have hb4 := next HB3.out hown.below
  have HZ4 := Lib.hid ((hown.below.block w2.heap.size hlt3).trans HZ3.out); have HL4 := Lib.hid (HL3.out.below (hown.below.mono HS3.out)); have HB4 := Lib.hid hb4; have HS4 := Lib.hid (Nat.le_trans HS3.out hown.below.size)
  obtain ⟨_, _, _⟩ := PtAt.of HZ4.out
  simp only [List.length_cons, List.length_nil, Nat.zero_add]
  clear hown hrow hb4 hM4 hy
  go_wp2_with fail
  refine (pstampall_any ⟨#[107]⟩ 9 A2 2 c2 w2.heap.size M _ HL4.out HS4.out (by omega) HMF.out).mono ?_
  rintro e w5 ⟨rfl, b5⟩
  rw [HM.out, awR_stamp]
  have HB5 := Lib.hid (next HB4.out b5)
  clear b5
  go_wp2
  go_ret
  exact ⟨rfl, HB5.out⟩
def kb (a b c : Nat) : ByteArray := ⟨#[UInt8.ofNat (48 + a), UInt8.ofNat (48 + b), UInt8.ofNat (48 + c)]⟩
set_option maxRecDepth 8000 in
set_option maxHeartbeats 4000000 in
theorem key_any (n : Nat) (i : Int) (hi : i = (n : Int)) (hn : n < 1000) (w : World) : Calls Try.prog 27 #[.int .i64 i] w fun x w' => x = .returned (.string (kb (n / 100 % 10) (n / 10 % 10) (n % 10))) ∧ Below w.heap.size w w' := by
  have i0 : 0 ≤ i := by omega
  have i1 : i < 1000 := by omega
  have hcells : (#[Value.int .u8 (48 + (n : Int) / 100 % 10), Value.int .u8 (48 + (n : Int) / 10 % 10), Value.int .u8 (48 + (n : Int) % 10)] : Array Value).toList = Lib.byteCells [UInt8.ofNat (48 + n / 100 % 10), UInt8.ofNat (48 + n / 10 % 10), UInt8.ofNat (48 + n % 10)] := by
    simp only [Lib.byteCells, List.map_cons, List.map_nil, UInt8.toNat_ofNat']
    refine List.cons_eq_cons.2 ⟨?_, List.cons_eq_cons.2 ⟨?_, List.cons_eq_cons.2 ⟨?_, rfl⟩⟩⟩ <;> congr 1 <;> omega
  have hrd := Rd.laid (heap_alloc_new w (.cells #[Value.int .u8 (48 + (n : Int) / 100 % 10), Value.int .u8 (48 + (n : Int) / 10 % 10), Value.int .u8 (48 + (n : Int) % 10)] 5)) hcells
  obtain ⟨K, hK⟩ : ∃ K, kb (n / 100 % 10) (n / 10 % 10) (n % 10) = K := ⟨_, rfl⟩
  have hcv := cv_asE (n := 3) hrd 3 K (by rw [← hK]; rfl)
  rw [hK]
  have bz := Lib.hid ((Below.refl w.heap.size w).alloc (Nat.le_refl _) (.cells #[Value.int .u8 (48 + (n : Int) / 100 % 10), Value.int .u8 (48 + (n : Int) / 10 % 10), Value.int .u8 (48 + (n : Int) % 10)] 5))
  clear hcells hrd hK
  go_enter Try.func27, Try.ntmps27
  go_wp2
  go_ret
  exact ⟨rfl, bz.out⟩
end Go.Proofs.Ytafbbojfifcncaa
set_option linter.unusedVariables false
set_option linter.unusedSimpArgs false
namespace Go.Proofs.Ytafbbojfifcncaa
open Go Go.RowKit

theorem below_kept {w0 w w' : World} {F : Nat → Prop} (h : Below w0.heap.size w0 w) (hk : Kept F w w') (hF : ∀ k, F k → w0.heap.size ≤ k) : Below w0.heap.size w0 w' :=
  h.trans ⟨hk.os, hk.tape, hk.output, hk.size, fun k hk' => hk.block k (Nat.lt_of_lt_of_le hk' h.size) fun hf => by have := hF k hf; omega⟩
theorem kept_set3h {w : World} {q : Nat} {o : Obj} (h : w.heap[q]? = some o) (u0 u1 u2 : Value) : Kept (fun k => k = q) w (((w.setCell ⟨q, 0, none⟩ u0).setCell ⟨q, 1, none⟩ u1).setCell ⟨q, 2, none⟩ u2) := kept_set3 q u0 u1 u2
theorem pjoins_long (A : Option Addr) (n c : Nat) (v1 v2 v3 : Int) (w : World) (h : 150 < n) :
    Calls Try.prog 4 #[.slice A n c, .int .i64 v1, .int .i64 v2, .int .i64 v3] w fun e w' => e = .returned (.bool true) ∧ Below w.heap.size w w' := by
  have d1 : decide ((150 : Int) < (n : Nat)) = true := by simp; omega
  go_enter Try.func4, Try.ntmps4
  go_wp2_with fail
  refine (pawake_any _).mono ?_
  rintro x w2 ⟨rfl, b2⟩
  go_wp2
  go_ret
  exact ⟨rfl, b2⟩
/-- The list that was made, and what it was made in. -/
structure LP (W0 : World) (Ps : List PA) (KN : Nat) (g0 o0 : Nat) : Prop where
  len : Ps.length = KN
  cells : ∀ w', Below W0.heap.size W0 w' → ∀ j (hj : j < Ps.length), w'.cell? ⟨g0, o0 + j * 3, none⟩ = some (.string ⟨#[107]⟩) ∧ w'.cell? ⟨g0, o0 + j * 3 + 1, none⟩ = some (.int .i64 Ps[j].g) ∧ w'.cell? ⟨g0, o0 + j * 3 + 2, none⟩ = some (.slice Ps[j].A Ps[j].L.length Ps[j].c)
  lies : ∀ x ∈ Ps, Lies W0 W0.heap.size x.A x.L.length x.c x.L
  parts : ∀ i, i < KN → PartIn (paOf Ps i)
set_option maxRecDepth 8000 in
set_option maxHeartbeats 16000000 in
theorem pjoins_short (A : Option Addr) (n c : Nat) (l : List Int) (v1 v2 v3 : Int) (w : World) (hr : RdZ w w.heap.size A n l) (hnc : n ≤ c) (hc : c ≤ maxLen) (hx : ∀ x ∈ l, (Lit.int .i64 x).wf = true) (h1 : (Lit.int .i64 v1).wf = true) (h2 : (Lit.int .i64 v2).wf = true) (h3 : (Lit.int .i64 v3).wf = true) (hn : n ≤ 150) :
    Calls Try.prog 4 #[.slice A n c, .int .i64 v1, .int .i64 v2, .int .i64 v3] w fun e w' => e = .returned (.bool true) ∧ Below w.heap.size w w' := by
  have d1 : decide ((150 : Int) < (n : Nat)) = false := by simp; omega
  have HR := Lib.hid hr; have HX := Lib.hid hx; have H1 := Lib.hid h1; have H2 := Lib.hid h2; have H3 := Lib.hid h3
  clear hr hx h1 h2 h3
  go_enter Try.func4, Try.ntmps4
  go_wp2_with fail
  refine (place_any v1 6 _ (by decide) (by decide) (bounds_i64 H1.out)).mono ?_
  rintro e w' ⟨rfl, rfl⟩
  obtain ⟨KN, hKN⟩ : ∃ KN : Nat, 1 + v1 % 6 = (KN : Int) := ⟨(1 + v1 % 6).toNat, by omega⟩
  have hk1 : 1 ≤ KN := by omega
  have hk6 : KN ≤ 6 := by omega
  go_wp2_with fail
  try rw [hKN]
  refine (several_any A n c l KN ⟨#[107]⟩ _ HR.out hnc hc HX.out (by omega) (by decide)).mono ?_
  rintro e W0 ⟨Ps, A0, c0, rfl, hlen, hps, hrd, hb0⟩
  obtain ⟨g0, o0, rfl, hg0⟩ := hrd.ex (by omega)
  have hlp : LP W0 Ps KN g0 o0 := ⟨hlen, fun w' hb j hj => by
    have h1 := (hrd.below hb).part hj
    rwa [(hps _ (List.getElem_mem hj)).1.1] at h1, fun x hx => (hps x hx).2, fun i hi => by
    rw [paOf_at (by omega)]
    exact (hps _ (List.getElem_mem (by omega))).1.2⟩
  have HLP := Lib.hid hlp; have HB0 := Lib.hid hb0; have HG0 := Lib.hid hg0
  clear hKN hlen hps hrd hb0 hlp hg0 HR HX
  have hp0 : 0 < Ps.length := by have := HLP.out.len; omega
  have hc0 := HLP.out.cells W0 (Below.refl _ _) 0 hp0
  obtain ⟨P0, hP0⟩ : ∃ P, Ps[0] = P := ⟨_, rfl⟩
  rw [hP0] at hc0
  simp only [Nat.zero_mul, Nat.add_zero] at hc0
  obtain ⟨_, _, _⟩ := hc0
  have i0 : (0 : Int) < (KN : Int) := by omega
  have hpa0 : paOf Ps 0 = ⟨⟨#[107]⟩, P0.g, ros P0.L⟩ := by rw [paOf_at hp0, hP0]
  have hat : AtP W0 (W0.alloc (.cells #[.string ⟨#[107]⟩, .int .i64 P0.g, .slice P0.A P0.L.length P0.c] 24)) W0.heap.size P0.g P0.L P0.A P0.L.length P0.c :=
    ⟨heap_alloc_new W0 _, Or.inl (HLP.out.lies P0 (by rw [← hP0]; exact List.getElem_mem hp0)), Nat.le_refl _⟩
  have hba := (Below.refl W0.heap.size W0).alloc (Nat.le_refl _) (.cells #[.string ⟨#[107]⟩, .int .i64 P0.g, .slice P0.A P0.L.length P0.c] 24)
  obtain ⟨W1, hW1⟩ : ∃ W, W = W0.alloc (.cells #[.string ⟨#[107]⟩, .int .i64 P0.g, .slice P0.A P0.L.length P0.c] 24) := ⟨_, rfl⟩
  rw [← hW1] at hat hba
  have HAT := Lib.hid hat; have HBA := Lib.hid hba
  clear hat hba hP0
  go_wp2_with fail
  rw [← hW1]
  clear hW1
  have HPA0 := Lib.hid hpa0
  clear hpa0
  go_wp2_with fail
  go_loopw [13, 12] (fun iv okv wr => ∃ (i : Nat) (g : Int) (M : List RA) (A : Option Addr) (n c : Nat), i + 1 ≤ KN ∧ iv = .int .i64 ((i + 1 : Nat)) ∧ okv = .bool true ∧ (⟨⟨#[107]⟩, g, ros M⟩ : Pa) = manyJ Pa.join (paOf Ps) i ∧ AtP W0 wr W0.heap.size g M A n c ∧ Below W0.heap.size W0 wr) (fun iv _ _ => KN - (intOf iv).toNat)
  case atStart => exact ⟨0, P0.g, P0.L, P0.A, P0.L.length, P0.c, by omega, rfl, rfl, HPA0.out.symm, HAT.out, HBA.out⟩
  case round =>
    obtain ⟨i, g, M, A, n, c, hi, rfl, rfl, hm, hat, hb⟩ := hrel
    have HM := Lib.hid hm; have HAT := Lib.hid hat; have HB := Lib.hid hb
    have HMI := Lib.hid (show PartIn ⟨⟨#[107]⟩, g, ros M⟩ by rw [hm]; exact ((in_sl ⟨#[107]⟩).many_good (n := i) fun j hj => ⟨by rw [paOf_at (by have := HLP.out.len; omega)], HLP.out.parts j (by omega)⟩).2)
    have hpt := hat.pt
    obtain ⟨_, _, _⟩ := PtAt.of hpt
    clear hm hat hb
    by_cases hlt : i + 1 < KN
    · have i1 : ((i + 1 : Nat) : Int) < KN := by omega
      have i2 : (0 : Int) ≤ ((i + 1 : Nat) : Int) := by omega
      have hj : i + 1 < Ps.length := by have := HLP.out.len; omega
      have hcj := HLP.out.cells wr HB.out (i + 1) hj
      obtain ⟨P, hP⟩ : ∃ P, Ps[i + 1] = P := ⟨_, rfl⟩
      have hpj := paOf_at hj
      have hin := HLP.out.parts (i + 1) hlt
      have hlj := HLP.out.lies Ps[i + 1] (List.getElem_mem hj)
      rw [hP] at hcj hpj hlj
      rw [hpj] at hin
      obtain ⟨_, _, _⟩ := hcj
      have HPJ := Lib.hid hpj; have HIN := Lib.hid hin; have HLJ := Lib.hid hlj
      have HMX := Lib.hid (show manyJ Pa.join (paOf Ps) (i + 1) = (⟨⟨#[107]⟩, max g P.g, mrgR (ros M) (ros P.L)⟩ : Pa) by show (manyJ Pa.join (paOf Ps) i).join (paOf Ps (i + 1)) = _; rw [← HM.out, hpj]; rfl)
      clear hP hpj hin hlj hpt
      go_wp2_with fail
      go_region_with (first
        | (go_at_call 15
           have hbv : Below W0.heap.size W0 _ := HB.out.drew
           refine (pjoin_in ⟨#[107]⟩ ⟨#[107]⟩ g P.g A P.A n P.L.length c P.c wr.heap.size W0.heap.size M P.L _ ((HAT.out.held.lies HB.out).below (Below.refl _ _).drew) (HLJ.out.below HB.out.drew) ?hs1 ?hs2 HMI.out HIN.out).mono ?_
           case hs1 => exact Nat.le_refl _
           case hs2 => exact HB.out.size
           rintro e w8 ⟨M2, A2, n2, c2, rfl, hM2, hfr⟩
           have hb8 := next (w := wr) (w1 := wr.drew) ((Below.refl wr.heap.size wr).drew) hfr.below
           have HT8 := Lib.hid (HAT.out.on hb8); have HB8 := Lib.hid (HB.out.trans (hb8.mono HB.out.size)); have HF8 := Lib.hid (hfr.lower HB.out.drew); have HM2 := Lib.hid hM2
           have z0 := cell_at (i := 0) HT8.out.pt rfl
           have z1 := cell_at (i := 1) HT8.out.pt rfl
           have z2 := cell_at (i := 2) HT8.out.pt rfl
           have y0 := thawed_at (i := 0) HT8.out.pt
           have y1 := thawed_at (i := 1) HT8.out.pt
           have y2 := thawed_at (i := 2) HT8.out.pt
           clear hM2 hfr hbv hb8))
      all_goals
        have hT9 := HT8.out.put (g' := max g P.g) HF8.out
        have hB9 := HT8.out.putB HB8.out (max g P.g) (.slice A2 n2 c2)
        generalize hw9 : (((w8.setCell ⟨W0.heap.size, 0, none⟩ (.string ⟨#[107]⟩)).setCell ⟨W0.heap.size, 1, none⟩ (.int .i64 (max g P.g))).setCell ⟨W0.heap.size, 2, none⟩ (.slice A2 n2 c2)) = w9 at hT9 hB9 ⊢
        have HT9 := Lib.hid hT9; have HB9 := Lib.hid hB9
        clear hT9 hB9 hw9 z0 z1 z2 y0 y1 y2
        go_wp2
        go_roundw
        case rel => exact ⟨i + 1, max g P.g, M2, A2, n2, c2, by omega, by go_num, rfl, by rw [HMX.out, HM2.out], HT9.out, HB9.out⟩
        case measure => simp [intOf]; omega
    · have e : i + 1 = KN := by omega
      rw [e]
      obtain rfl : i = KN - 1 := by omega
      have d0 : decide ((KN : Int) < (KN : Int)) = false := by simp
      clear e
      go_wp2_with fail
      refine (place_any v2 (KN : Int) _ (by omega) (by omega) (bounds_i64 H2.out)).mono ?_
      rintro e w' ⟨rfl, rfl⟩
      obtain ⟨C, hC⟩ : ∃ C : Nat, v2 % (KN : Int) = (C : Int) := ⟨(v2 % (KN : Int)).toNat, by have := Int.emod_nonneg v2 (show (KN : Int) ≠ 0 by omega); omega⟩
      have hc1 : C < KN := by have := Int.emod_lt_of_pos v2 (show 0 < (KN : Int) by omega); omega
      rw [hC]
      clear hC
      have hcl : C < Ps.length := by have := HLP.out.len; omega
      have hcC := HLP.out.cells wr HB.out C hcl
      obtain ⟨PC, hPC⟩ : ∃ P, Ps[C] = P := ⟨_, rfl⟩
      have hpc := paOf_at hcl
      have hlc := HLP.out.lies Ps[C] (List.getElem_mem hcl)
      rw [hPC] at hcC hpc hlc
      obtain ⟨_, _, _⟩ := hcC
      have c0 : (0 : Int) ≤ (C : Int) := by omega
      have c2 : (C : Int) < (KN : Int) := by omega
      have ha2 := (Below.refl wr.heap.size wr).alloc (Nat.le_refl _) (.cells #[.string ⟨#[107]⟩, .int .i64 PC.g, .slice PC.A PC.L.length PC.c] 24)
      have hatb : AtP W0 (wr.alloc (.cells #[.string ⟨#[107]⟩, .int .i64 PC.g, .slice PC.A PC.L.length PC.c] 24)) wr.heap.size PC.g PC.L PC.A PC.L.length PC.c := ⟨heap_alloc_new wr _, Or.inl hlc, HB.out.size⟩
      obtain ⟨qb, hqb⟩ : ∃ q, q = wr.heap.size := ⟨_, rfl⟩
      have hqa : qb ≠ W0.heap.size := by have := HAT.out.lt; omega
      obtain ⟨W2, hW2⟩ : ∃ W, W = wr.alloc (.cells #[.string ⟨#[107]⟩, .int .i64 PC.g, .slice PC.A PC.L.length PC.c] 24) := ⟨_, rfl⟩
      rw [← hW2] at ha2 hatb
      rw [← hqb] at hatb
      have HATB := Lib.hid hatb; have HATA := Lib.hid (HAT.out.on ha2); have HB2 := Lib.hid (HB.out.trans (ha2.mono HB.out.size)); have HPC := Lib.hid hpc
      clear hPC hpc hlc ha2 hatb HAT hpt
      go_wp2_with fail
      rw [← hW2, ← hqb]
      clear hW2 hqb
      go_wp2_with fail
      go_loopw [17, 16] (fun iv okv wr => ∃ (i : Nat) (g' : Int) (M' : List RA) (A' : Option Addr) (n' c' : Nat), i + 1 ≤ KN ∧ iv = .int .i64 ((i + 1 : Nat)) ∧ okv = .bool true ∧ (⟨⟨#[107]⟩, g', ros M'⟩ : Pa) = turnJ Pa.join (paOf Ps) C KN i ∧ AtP W0 wr qb g' M' A' n' c' ∧ AtP W0 wr W0.heap.size g M A n c ∧ Below W0.heap.size W0 wr) (fun iv _ _ => KN - (intOf iv).toNat)
      case atStart => exact ⟨0, PC.g, PC.L, PC.A, PC.L.length, PC.c, by omega, rfl, rfl, HPC.out.symm, HATB.out, HATA.out, HB2.out⟩
      case round =>
        obtain ⟨i, g', M', A', n', c', hi, rfl, rfl, hm', hatb, hata, hb⟩ := hrel
        have HM' := Lib.hid hm'; have HATB := Lib.hid hatb; have HATA := Lib.hid hata; have HB := Lib.hid hb
        have hgood : ∀ j, j < KN → (paOf Ps j).key = ⟨#[107]⟩ ∧ PartIn (paOf Ps j) := fun j hj => ⟨by rw [paOf_at (by have := HLP.out.len; omega)], HLP.out.parts j hj⟩
        have HGD := Lib.hid hgood
        have HMI' := Lib.hid (show PartIn ⟨⟨#[107]⟩, g', ros M'⟩ by rw [hm']; exact ((in_sl ⟨#[107]⟩).turn_good hc1 hgood i).2)
        have hptb := hatb.pt
        obtain ⟨_, _, _⟩ := PtAt.of hptb
        clear hm' hatb hata hb hgood
        by_cases hlt : i + 1 < KN
        · have i1 : ((i + 1 : Nat) : Int) < KN := by omega
          have k0 : ((KN : Int) == 0) = false := by rw [beq_eq_false_iff_ne]; omega
          obtain ⟨J, hJ⟩ : ∃ J, (C + (i + 1)) % KN = J := ⟨_, rfl⟩
          have hjk : J < KN := by rw [← hJ]; exact Nat.mod_lt _ (by omega)
          have hmod : ((C : Int) + ((i : Int) + 1)) % (KN : Int) = (J : Int) := by rw [← hJ]; push_cast; rfl
          have j0 : (0 : Int) ≤ (J : Int) := by omega
          have j1 : (J : Int) < (KN : Int) := by omega
          have hj : J < Ps.length := by have := HLP.out.len; omega
          have hcj := HLP.out.cells wr HB.out J hj
          obtain ⟨P, hP⟩ : ∃ P, Ps[J] = P := ⟨_, rfl⟩
          have hpj := paOf_at hj
          have hin := HLP.out.parts J hjk
          have hlj := HLP.out.lies Ps[J] (List.getElem_mem hj)
          rw [hP] at hcj hpj hlj
          rw [hpj] at hin
          obtain ⟨_, _, _⟩ := hcj
          have HPJ := Lib.hid hpj; have HIN := Lib.hid hin; have HLJ := Lib.hid hlj
          have HMX := Lib.hid (show turnJ Pa.join (paOf Ps) C KN (i + 1) = (⟨⟨#[107]⟩, max P.g g', mrgR (ros P.L) (ros M')⟩ : Pa) by show (paOf Ps ((C + (i + 1)) % KN)).join (turnJ Pa.join (paOf Ps) C KN i) = _; rw [← HM'.out, hJ, hpj]; rfl)
          clear hP hpj hin hlj hptb hJ
          go_wp2_with fail
          go_region_with (first
            | (go_at_call 15
               refine (pjoin_in ⟨#[107]⟩ ⟨#[107]⟩ P.g g' P.A A' P.L.length n' P.c c' W0.heap.size wr.heap.size P.L M' _ (HLJ.out.below HB.out.drew) ((HATB.out.held.lies HB.out).below (Below.refl _ _).drew) ?hs1 ?hs2 HIN.out HMI'.out).mono ?_
               case hs1 => exact HB.out.size
               case hs2 => exact Nat.le_refl _
               rintro e w8 ⟨M2, A2, n2, c2, rfl, hM2, hfr⟩
               have hb8 := next (w := wr) (w1 := wr.drew) ((Below.refl wr.heap.size wr).drew) hfr.below
               have HT8 := Lib.hid (HATB.out.on hb8); have HA8 := Lib.hid (HATA.out.on hb8); have HB8 := Lib.hid (HB.out.trans (hb8.mono HB.out.size)); have HF8 := Lib.hid (hfr.lower HB.out.drew); have HM2 := Lib.hid hM2
               have z0 := cell_at (i := 0) HT8.out.pt rfl
               have z1 := cell_at (i := 1) HT8.out.pt rfl
               have z2 := cell_at (i := 2) HT8.out.pt rfl
               have y0 := thawed_at (i := 0) HT8.out.pt
               have y1 := thawed_at (i := 1) HT8.out.pt
               have y2 := thawed_at (i := 2) HT8.out.pt
               clear hM2 hfr hb8))
          all_goals
            have hT9 := HT8.out.put (g' := max P.g g') HF8.out
            have hB9 := HT8.out.putB HB8.out (max P.g g') (.slice A2 n2 c2)
            have hA9 := HA8.out.kept (kept_set3 (w := w8) qb (.string ⟨#[107]⟩) (.int .i64 (max P.g g')) (.slice A2 n2 c2)) ⟨HT8.out.up, _, HT8.out.pt⟩ hqa
            generalize hw9 : (((w8.setCell ⟨qb, 0, none⟩ (.string ⟨#[107]⟩)).setCell ⟨qb, 1, none⟩ (.int .i64 (max P.g g'))).setCell ⟨qb, 2, none⟩ (.slice A2 n2 c2)) = w9 at hT9 hB9 hA9 ⊢
            have HT9 := Lib.hid hT9; have HB9 := Lib.hid hB9; have HA9 := Lib.hid hA9
            clear hT9 hB9 hA9 hw9 z0 z1 z2 y0 y1 y2
            go_wp2
            go_roundw
            case rel => exact ⟨i + 1, max P.g g', M2, A2, n2, c2, by omega, by go_num, rfl, by rw [HMX.out, HM2.out], HT9.out, HA9.out, HB9.out⟩
            case measure => simp [intOf]; omega
        · have e : i + 1 = KN := by omega
          rw [e]
          obtain rfl : i = KN - 1 := by omega
          have d0 : decide ((KN : Int) < (KN : Int)) = false := by simp
          clear e
          obtain ⟨T, hT⟩ : ∃ C : Nat, v3 % (KN : Int) = (C : Int) := ⟨(v3 % (KN : Int)).toNat, by have := Int.emod_nonneg v3 (show (KN : Int) ≠ 0 by omega); omega⟩
          have ht1 : T < KN := by have := Int.emod_lt_of_pos v3 (show 0 < (KN : Int) by omega); omega
          have t0 : (0 : Int) ≤ (T : Int) := by omega
          have t1 : (T : Int) < (KN : Int) := by omega
          have htl : T < Ps.length := by have := HLP.out.len; omega
          obtain ⟨PT, hPT⟩ : ∃ P, Ps[T] = P := ⟨_, rfl⟩
          have hpt := paOf_at htl
          have hti := HLP.out.parts T ht1
          have hlt := HLP.out.lies Ps[T] (List.getElem_mem htl)
          have hct : ∀ w', Below wr.heap.size wr w' → w'.cell? ⟨g0, o0 + T * 3, none⟩ = some (.string ⟨#[107]⟩) ∧ w'.cell? ⟨g0, o0 + T * 3 + 1, none⟩ = some (.int .i64 PT.g) ∧ w'.cell? ⟨g0, o0 + T * 3 + 2, none⟩ = some (.slice PT.A PT.L.length PT.c) := fun w' hb => by
            have h1 := HLP.out.cells w' (HB.out.trans (hb.mono HB.out.size)) T htl
            rwa [hPT] at h1
          rw [hPT] at hpt hlt
          rw [hpt] at hti
          have HCT := Lib.hid hct; have HLT := Lib.hid hlt; have HTI := Lib.hid hti; have HPT := Lib.hid hpt; have HTE := Lib.hid hT
          have HMI := Lib.hid (show PartIn ⟨⟨#[107]⟩, g, ros M⟩ by rw [HM.out]; exact ((in_sl ⟨#[107]⟩).many_good (n := KN - 1) fun j hj => HGD.out j (by omega)).2)
          clear hct hlt hti hpt hPT hT hptb
          go_upto_region 16 with fail
          go_cut [18, 19] (fun s18 s19 wx => ∃ qd M3 A3 n3 c3, s18 = .pointer (some ⟨qd, 0, none⟩) ∧ s19 = .bool true ∧ wx.heap[qd]? = some (.cells #[.string ⟨#[107]⟩, .int .i64 (max g PT.g), .slice A3 n3 c3] 24 (0, 0)) ∧ ros M3 = mrgR (ros M) (ros PT.L) ∧ Fresh W0 wx (.slice A3 n3 c3) M3 ∧ Below wr.heap.size wr wx)
          case first =>
            go_wp2_with fail
            refine wp_region_held_drew (S := fun w' => Below wr.heap.size wr w') (by kernel_rfl) ?_ (fun hHeld => ?_)
            · exact (Below.refl _ _).drew
            refine wpAnyH_take (i := 0) (v := ?_) rfl (by kernel_rfl) (by kernel_rfl) (by kernel_rfl) (fun _ _ _ h => h) (Or.inl ⟨by rfl, ?_⟩) (by assumption) ?_
            rotate_left
            · (intro wx hSw; (try dsimp only at hSw); obtain ⟨_, _, _⟩ := PtAt.of ((HATA.out.on hSw).pt); go_simp; try with_reducible rfl)
            try simp only [Act.put, List.getElem_toArray, List.getElem_cons_succ, List.getElem_cons_zero, List.setIfInBounds_toArray, List.set_cons_zero, List.set_cons_succ]
            refine wpAnyH_take (i := 1) (v := ?_) rfl (by kernel_rfl) (by kernel_rfl) (by kernel_rfl) (fun _ _ _ h => h) (Or.inl ⟨by rfl, ?_⟩) (by assumption) ?_
            rotate_left
            · (intro wx hSw; (try dsimp only at hSw); go_simp; try with_reducible rfl)
            try simp only [Act.put, List.getElem_toArray, List.getElem_cons_succ, List.getElem_cons_zero, List.setIfInBounds_toArray, List.set_cons_zero, List.set_cons_succ]
            refine wpAnyH_take (i := 2) (v := ?_) rfl (by kernel_rfl) (by kernel_rfl) (by kernel_rfl) (fun _ _ _ h => h) (Or.inl ⟨by rfl, ?_⟩) (by assumption) ?_
            rotate_left
            · (intro wx hSw; (try dsimp only at hSw); go_simp; try with_reducible rfl)
            try simp only [Act.put, List.getElem_toArray, List.getElem_cons_succ, List.getElem_cons_zero, List.setIfInBounds_toArray, List.set_cons_zero, List.set_cons_succ]
            refine wpAnyH_take (i := 3) (v := ?_) rfl (by kernel_rfl) (by kernel_rfl) (by kernel_rfl) (fun _ _ _ h => h) (Or.inl ⟨by rfl, ?_⟩) (by assumption) ?_
            rotate_left
            · (intro wx hSw; (try dsimp only at hSw); go_simp; try with_reducible rfl)
            try simp only [Act.put, List.getElem_toArray, List.getElem_cons_succ, List.getElem_cons_zero, List.setIfInBounds_toArray, List.set_cons_zero, List.set_cons_succ]
            refine wpAnyH_ready (rs := [4, 11]) (by kernel_rfl) (by simp) (AllReadyH.cons rfl (fun K hK => ?_) (AllReadyH.cons rfl (fun K hK => ?_) AllReadyH.nil))
            · go_simp
              refine (place_any v3 (KN : Int) _ (by omega) (by omega) (bounds_i64 H3.out)).mono ?_
              rintro e w' ⟨rfl, rfl⟩
              rw [HTE.out]
              try go_wp2_with fail
              refine hK.out _ _ ?_ (fun hHeld => ?_)
              · first | exact CB.out | exact hHeld
              clear hK K
              try simp only [Act.put, List.getElem_toArray, List.getElem_cons_succ, List.getElem_cons_zero, List.setIfInBounds_toArray, List.set_cons_zero, List.set_cons_succ]
              refine wpAnyH_take (i := 5) (v := ?_) rfl (by kernel_rfl) (by kernel_rfl) (by kernel_rfl) (fun _ _ _ h => h) (Or.inl ⟨by rfl, ?_⟩) (by assumption) ?_
              rotate_left
              · (intro wx hSw; (try dsimp only at hSw); go_simp; try with_reducible rfl)
              try simp only [Act.put, List.getElem_toArray, List.getElem_cons_succ, List.getElem_cons_zero, List.setIfInBounds_toArray, List.set_cons_zero, List.set_cons_succ]
              refine wpAnyH_take (i := 6) (v := ?_) rfl (by kernel_rfl) (by kernel_rfl) (by kernel_rfl) (fun _ _ _ h => h) (Or.inl ⟨by rfl, ?_⟩) (by assumption) ?_
              rotate_left
              · (intro wx hSw; (try dsimp only at hSw); obtain ⟨_, _, _⟩ := HCT.out _ hSw; go_simp; try with_reducible rfl)
              try simp only [Act.put, List.getElem_toArray, List.getElem_cons_succ, List.getElem_cons_zero, List.setIfInBounds_toArray, List.set_cons_zero, List.set_cons_succ]
              refine wpAnyH_ready (rs := [7, 11]) (by kernel_rfl) (by simp) (AllReadyH.cons rfl (fun K hK => ?_) (AllReadyH.cons rfl (fun K hK => ?_) AllReadyH.nil))
              · go_simp
                refine (pjoin_in ⟨#[107]⟩ ⟨#[107]⟩ g PT.g A PT.A n PT.L.length c PT.c wr.heap.size W0.heap.size M PT.L _ ((HATA.out.held.lies HB.out).below hHeld) (HLT.out.below (HB.out.trans (hHeld.mono HB.out.size))) hHeld.size (Nat.le_trans HB.out.size hHeld.size) HMI.out HTI.out).mono ?_
                rintro e v7 ⟨M3, A3, n3, c3, rfl, hM3, hfr⟩
                have CB := Lib.hid (hHeld.trans (hfr.below.mono hHeld.size))
                have HM3 := Lib.hid hM3
                have HF3 := Lib.hid (hfr.lower (HB.out.trans (hHeld.mono HB.out.size)))
                clear hfr hM3
                try go_wp2_with fail
                refine hK.out _ _ ?_ (fun hHeld => ?_)
                · first | exact CB.out | exact hHeld
                clear hK K
                try simp only [Act.put, List.getElem_toArray, List.getElem_cons_succ, List.getElem_cons_zero, List.setIfInBounds_toArray, List.set_cons_zero, List.set_cons_succ]
                refine wpAnyH_take (i := 8) (v := ?_) rfl (by kernel_rfl) (by kernel_rfl) (by kernel_rfl) (fun _ _ _ h => h) (Or.inl ⟨by rfl, ?_⟩) (by assumption) ?_
                rotate_left
                · (intro wx hSw; (try dsimp only at hSw); go_simp; try with_reducible rfl)
                try simp only [Act.put, List.getElem_toArray, List.getElem_cons_succ, List.getElem_cons_zero, List.setIfInBounds_toArray, List.set_cons_zero, List.set_cons_succ]
                refine wpAnyH_take (i := 9) (v := ?_) rfl (by kernel_rfl) (by kernel_rfl) (by kernel_rfl) (fun _ _ _ h => h) (Or.inl ⟨by rfl, ?_⟩) (by assumption) ?_
                rotate_left
                · (intro wx hSw; (try dsimp only at hSw); go_simp; try with_reducible rfl)
                try simp only [Act.put, List.getElem_toArray, List.getElem_cons_succ, List.getElem_cons_zero, List.setIfInBounds_toArray, List.set_cons_zero, List.set_cons_succ]
                refine wpAnyH_take (i := 10) (v := ?_) rfl (by kernel_rfl) (by kernel_rfl) (by kernel_rfl) (fun _ _ _ h => h) (Or.inl ⟨by rfl, ?_⟩) (by assumption) ?_
                rotate_left
                · (intro wx hSw; (try dsimp only at hSw); go_simp; try with_reducible rfl)
                try simp only [Act.put, List.getElem_toArray, List.getElem_cons_succ, List.getElem_cons_zero, List.setIfInBounds_toArray, List.set_cons_zero, List.set_cons_succ]
                refine wpAnyH_ready (rs := [11]) (by kernel_rfl) (by simp) (AllReadyH.cons rfl (fun K hK => ?_) AllReadyH.nil)
                go_simp
                have XZ := Lib.hid (heap_alloc_new v7 (.cells #[.string ⟨#[]⟩, .int .i64 0, .slice none 0 0] 24))
                have CBX : Below wr.heap.size wr (v7.alloc (.cells #[.string ⟨#[]⟩, .int .i64 0, .slice none 0 0] 24)) := hHeld.alloc hHeld.size _
                have HXQ : Hid (wr.heap.size ≤ v7.heap.size) := Lib.hid hHeld.size
                have HF3 := Lib.hid (HF3.out.on ((Below.refl v7.heap.size v7).alloc (Nat.le_refl _) (.cells #[.string ⟨#[]⟩, .int .i64 0, .slice none 0 0] 24)))
                generalize v7.alloc (.cells #[.string ⟨#[]⟩, .int .i64 0, .slice none 0 0] 24) = wx at *
                refine hK.out _ _ ?_ (fun hHeld => ?_)
                · exact CBX
                clear hK K
                try simp only [Act.put, List.getElem_toArray, List.getElem_cons_succ, List.getElem_cons_zero, List.setIfInBounds_toArray, List.set_cons_zero, List.set_cons_succ]
                refine wpAnyH_ready (rs := [12]) (by kernel_rfl) (by simp) (AllReadyH.cons rfl (fun K hK => ?_) AllReadyH.nil)
                have z0 := cell_at (i := 0) XZ.out rfl
                have z1 := cell_at (i := 1) XZ.out rfl
                have z2 := cell_at (i := 2) XZ.out rfl
                have y0 := thawed_at (i := 0) XZ.out
                have y1 := thawed_at (i := 1) XZ.out
                have y2 := thawed_at (i := 2) XZ.out
                have M9 := Lib.hid (set3_block XZ.out (.string ⟨#[107]⟩) (.int .i64 (max g PT.g)) (.slice A3 n3 c3))
                have K9 := kept_set3h XZ.out (.string ⟨#[107]⟩) (.int .i64 (max g PT.g)) (.slice A3 n3 c3)
                have HF9 := Lib.hid (HF3.out.kept K9 (e := 24) (fun j hj => by subst hj; exact ⟨Nat.le_trans HB.out.size HXQ.out, _, XZ.out⟩) (by decide) (by decide))
                have CB9 := Lib.hid (below_kept hHeld K9 fun j hj => by subst hj; exact HXQ.out)
                clear K9
                go_simp
                refine hK.out _ _ ?_ (fun hHeld => ?_)
                · exact CB9.out
                clear hK K
                try simp only [Act.put, List.getElem_toArray, List.getElem_cons_succ, List.getElem_cons_zero, List.setIfInBounds_toArray, List.set_cons_zero, List.set_cons_succ]
                refine wpAnyH_take (i := 13) (v := ?_) rfl (by kernel_rfl) (by kernel_rfl) (by kernel_rfl) (fun _ _ _ h => h) (Or.inl ⟨by rfl, ?_⟩) (by assumption) ?_
                rotate_left
                · (intro wx hSw; (try dsimp only at hSw); go_simp; try with_reducible rfl)
                try simp only [Act.put, List.getElem_toArray, List.getElem_cons_succ, List.getElem_cons_zero, List.setIfInBounds_toArray, List.set_cons_zero, List.set_cons_succ]
                refine wpAnyH_done (by kernel_rfl) ?_ _
                go_wp2_with fail
                go_meet
                exact ⟨_, M3, A3, n3, c3, rfl, rfl, M9.out, HM3.out, HF9.out, hHeld⟩
              · go_simp
                have XZ : Hid (((wr.alloc (.cells #[.string ⟨#[]⟩, .int .i64 0, .slice none 0 0] 24)).drew).heap[wr.heap.size]? = some (.cells #[.string ⟨#[]⟩, .int .i64 0, .slice none 0 0] 24)) := Lib.hid (heap_alloc_new wr _)
                have CBX : Below wr.heap.size wr ((wr.alloc (.cells #[.string ⟨#[]⟩, .int .i64 0, .slice none 0 0] 24)).drew) := ((Below.refl wr.heap.size wr).alloc (Nat.le_refl _) _).drew
                have HXQ : Hid (wr.heap.size ≤ wr.heap.size) := Lib.hid (Nat.le_refl _)
                generalize (wr.alloc (.cells #[.string ⟨#[]⟩, .int .i64 0, .slice none 0 0] 24)).drew = wx at *
                refine hK.out _ _ ?_ (fun hHeld => ?_)
                · exact CBX
                clear hK K
                try simp only [Act.put, List.getElem_toArray, List.getElem_cons_succ, List.getElem_cons_zero, List.setIfInBounds_toArray, List.set_cons_zero, List.set_cons_succ]
                refine wpAnyH_ready (rs := [7]) (by kernel_rfl) (by simp) (AllReadyH.cons rfl (fun K hK => ?_) AllReadyH.nil)
                go_simp
                refine (pjoin_in ⟨#[107]⟩ ⟨#[107]⟩ g PT.g A PT.A n PT.L.length c PT.c wr.heap.size W0.heap.size M PT.L _ ((HATA.out.held.lies HB.out).below hHeld) (HLT.out.below (HB.out.trans (hHeld.mono HB.out.size))) hHeld.size (Nat.le_trans HB.out.size hHeld.size) HMI.out HTI.out).mono ?_
                rintro e v7 ⟨M3, A3, n3, c3, rfl, hM3, hfr⟩
                have CB := Lib.hid (hHeld.trans (hfr.below.mono hHeld.size))
                have HM3 := Lib.hid hM3
                have HF3 := Lib.hid (hfr.lower (HB.out.trans (hHeld.mono HB.out.size)))
                have XZ := Lib.hid ((hfr.below.block _ (Array.getElem?_eq_some_iff.1 XZ.out).1).trans XZ.out)
                clear hfr hM3
                try go_wp2_with fail
                refine hK.out _ _ ?_ (fun hHeld => ?_)
                · first | exact CB.out | exact hHeld
                clear hK K
                try simp only [Act.put, List.getElem_toArray, List.getElem_cons_succ, List.getElem_cons_zero, List.setIfInBounds_toArray, List.set_cons_zero, List.set_cons_succ]
                refine wpAnyH_take (i := 8) (v := ?_) rfl (by kernel_rfl) (by kernel_rfl) (by kernel_rfl) (fun _ _ _ h => h) (Or.inl ⟨by rfl, ?_⟩) (by assumption) ?_
                rotate_left
                · (intro wx hSw; (try dsimp only at hSw); go_simp; try with_reducible rfl)
                try simp only [Act.put, List.getElem_toArray, List.getElem_cons_succ, List.getElem_cons_zero, List.setIfInBounds_toArray, List.set_cons_zero, List.set_cons_succ]
                refine wpAnyH_take (i := 9) (v := ?_) rfl (by kernel_rfl) (by kernel_rfl) (by kernel_rfl) (fun _ _ _ h => h) (Or.inl ⟨by rfl, ?_⟩) (by assumption) ?_
                rotate_left
                · (intro wx hSw; (try dsimp only at hSw); go_simp; try with_reducible rfl)
                try simp only [Act.put, List.getElem_toArray, List.getElem_cons_succ, List.getElem_cons_zero, List.setIfInBounds_toArray, List.set_cons_zero, List.set_cons_succ]
                refine wpAnyH_take (i := 10) (v := ?_) rfl (by kernel_rfl) (by kernel_rfl) (by kernel_rfl) (fun _ _ _ h => h) (Or.inl ⟨by rfl, ?_⟩) (by assumption) ?_
                rotate_left
                · (intro wx hSw; (try dsimp only at hSw); go_simp; try with_reducible rfl)
                try simp only [Act.put, List.getElem_toArray, List.getElem_cons_succ, List.getElem_cons_zero, List.setIfInBounds_toArray, List.set_cons_zero, List.set_cons_succ]
                refine wpAnyH_ready (rs := [12]) (by kernel_rfl) (by simp) (AllReadyH.cons rfl (fun K hK => ?_) AllReadyH.nil)
                have z0 := cell_at (i := 0) XZ.out rfl
                have z1 := cell_at (i := 1) XZ.out rfl
                have z2 := cell_at (i := 2) XZ.out rfl
                have y0 := thawed_at (i := 0) XZ.out
                have y1 := thawed_at (i := 1) XZ.out
                have y2 := thawed_at (i := 2) XZ.out
                have M9 := Lib.hid (set3_block XZ.out (.string ⟨#[107]⟩) (.int .i64 (max g PT.g)) (.slice A3 n3 c3))
                have K9 := kept_set3h XZ.out (.string ⟨#[107]⟩) (.int .i64 (max g PT.g)) (.slice A3 n3 c3)
                have HF9 := Lib.hid (HF3.out.kept K9 (e := 24) (fun j hj => by subst hj; exact ⟨Nat.le_trans HB.out.size HXQ.out, _, XZ.out⟩) (by decide) (by decide))
                have CB9 := Lib.hid (below_kept hHeld K9 fun j hj => by subst hj; exact HXQ.out)
                clear K9
                go_simp
                refine hK.out _ _ ?_ (fun hHeld => ?_)
                · exact CB9.out
                clear hK K
                try simp only [Act.put, List.getElem_toArray, List.getElem_cons_succ, List.getElem_cons_zero, List.setIfInBounds_toArray, List.set_cons_zero, List.set_cons_succ]
                refine wpAnyH_take (i := 13) (v := ?_) rfl (by kernel_rfl) (by kernel_rfl) (by kernel_rfl) (fun _ _ _ h => h) (Or.inl ⟨by rfl, ?_⟩) (by assumption) ?_
                rotate_left
                · (intro wx hSw; (try dsimp only at hSw); go_simp; try with_reducible rfl)
                try simp only [Act.put, List.getElem_toArray, List.getElem_cons_succ, List.getElem_cons_zero, List.setIfInBounds_toArray, List.set_cons_zero, List.set_cons_succ]
                refine wpAnyH_done (by kernel_rfl) ?_ _
                go_wp2_with fail
                go_meet
                exact ⟨_, M3, A3, n3, c3, rfl, rfl, M9.out, HM3.out, HF9.out, hHeld⟩
            · go_simp
              have XZ : Hid (((wr.alloc (.cells #[.string ⟨#[]⟩, .int .i64 0, .slice none 0 0] 24)).drew).heap[wr.heap.size]? = some (.cells #[.string ⟨#[]⟩, .int .i64 0, .slice none 0 0] 24)) := Lib.hid (heap_alloc_new wr _)
              have CBX : Below wr.heap.size wr ((wr.alloc (.cells #[.string ⟨#[]⟩, .int .i64 0, .slice none 0 0] 24)).drew) := ((Below.refl wr.heap.size wr).alloc (Nat.le_refl _) _).drew
              have HXQ : Hid (wr.heap.size ≤ wr.heap.size) := Lib.hid (Nat.le_refl _)
              generalize (wr.alloc (.cells #[.string ⟨#[]⟩, .int .i64 0, .slice none 0 0] 24)).drew = wx at *
              refine hK.out _ _ ?_ (fun hHeld => ?_)
              · exact CBX
              clear hK K
              try simp only [Act.put, List.getElem_toArray, List.getElem_cons_succ, List.getElem_cons_zero, List.setIfInBounds_toArray, List.set_cons_zero, List.set_cons_succ]
              refine wpAnyH_ready (rs := [4]) (by kernel_rfl) (by simp) (AllReadyH.cons rfl (fun K hK => ?_) AllReadyH.nil)
              go_simp
              refine (place_any v3 (KN : Int) _ (by omega) (by omega) (bounds_i64 H3.out)).mono ?_
              rintro e w' ⟨rfl, rfl⟩
              rw [HTE.out]
              try go_wp2_with fail
              refine hK.out _ _ ?_ (fun hHeld => ?_)
              · first | exact CB.out | exact hHeld
              clear hK K
              try simp only [Act.put, List.getElem_toArray, List.getElem_cons_succ, List.getElem_cons_zero, List.setIfInBounds_toArray, List.set_cons_zero, List.set_cons_succ]
              refine wpAnyH_take (i := 5) (v := ?_) rfl (by kernel_rfl) (by kernel_rfl) (by kernel_rfl) (fun _ _ _ h => h) (Or.inl ⟨by rfl, ?_⟩) (by assumption) ?_
              rotate_left
              · (intro wx hSw; (try dsimp only at hSw); go_simp; try with_reducible rfl)
              try simp only [Act.put, List.getElem_toArray, List.getElem_cons_succ, List.getElem_cons_zero, List.setIfInBounds_toArray, List.set_cons_zero, List.set_cons_succ]
              refine wpAnyH_take (i := 6) (v := ?_) rfl (by kernel_rfl) (by kernel_rfl) (by kernel_rfl) (fun _ _ _ h => h) (Or.inl ⟨by rfl, ?_⟩) (by assumption) ?_
              rotate_left
              · (intro wx hSw; (try dsimp only at hSw); obtain ⟨_, _, _⟩ := HCT.out _ hSw; go_simp; try with_reducible rfl)
              try simp only [Act.put, List.getElem_toArray, List.getElem_cons_succ, List.getElem_cons_zero, List.setIfInBounds_toArray, List.set_cons_zero, List.set_cons_succ]
              refine wpAnyH_ready (rs := [7]) (by kernel_rfl) (by simp) (AllReadyH.cons rfl (fun K hK => ?_) AllReadyH.nil)
              go_simp
              refine (pjoin_in ⟨#[107]⟩ ⟨#[107]⟩ g PT.g A PT.A n PT.L.length c PT.c wr.heap.size W0.heap.size M PT.L _ ((HATA.out.held.lies HB.out).below hHeld) (HLT.out.below (HB.out.trans (hHeld.mono HB.out.size))) hHeld.size (Nat.le_trans HB.out.size hHeld.size) HMI.out HTI.out).mono ?_
              rintro e v7 ⟨M3, A3, n3, c3, rfl, hM3, hfr⟩
              have CB := Lib.hid (hHeld.trans (hfr.below.mono hHeld.size))
              have HM3 := Lib.hid hM3
              have HF3 := Lib.hid (hfr.lower (HB.out.trans (hHeld.mono HB.out.size)))
              have XZ := Lib.hid ((hfr.below.block _ (Array.getElem?_eq_some_iff.1 XZ.out).1).trans XZ.out)
              clear hfr hM3
              try go_wp2_with fail
              refine hK.out _ _ ?_ (fun hHeld => ?_)
              · first | exact CB.out | exact hHeld
              clear hK K
              try simp only [Act.put, List.getElem_toArray, List.getElem_cons_succ, List.getElem_cons_zero, List.setIfInBounds_toArray, List.set_cons_zero, List.set_cons_succ]
              refine wpAnyH_take (i := 8) (v := ?_) rfl (by kernel_rfl) (by kernel_rfl) (by kernel_rfl) (fun _ _ _ h => h) (Or.inl ⟨by rfl, ?_⟩) (by assumption) ?_
              rotate_left
              · (intro wx hSw; (try dsimp only at hSw); go_simp; try with_reducible rfl)
              try simp only [Act.put, List.getElem_toArray, List.getElem_cons_succ, List.getElem_cons_zero, List.setIfInBounds_toArray, List.set_cons_zero, List.set_cons_succ]
              refine wpAnyH_take (i := 9) (v := ?_) rfl (by kernel_rfl) (by kernel_rfl) (by kernel_rfl) (fun _ _ _ h => h) (Or.inl ⟨by rfl, ?_⟩) (by assumption) ?_
              rotate_left
              · (intro wx hSw; (try dsimp only at hSw); go_simp; try with_reducible rfl)
              try simp only [Act.put, List.getElem_toArray, List.getElem_cons_succ, List.getElem_cons_zero, List.setIfInBounds_toArray, List.set_cons_zero, List.set_cons_succ]
              refine wpAnyH_take (i := 10) (v := ?_) rfl (by kernel_rfl) (by kernel_rfl) (by kernel_rfl) (fun _ _ _ h => h) (Or.inl ⟨by rfl, ?_⟩) (by assumption) ?_
              rotate_left
              · (intro wx hSw; (try dsimp only at hSw); go_simp; try with_reducible rfl)
              try simp only [Act.put, List.getElem_toArray, List.getElem_cons_succ, List.getElem_cons_zero, List.setIfInBounds_toArray, List.set_cons_zero, List.set_cons_succ]
              refine wpAnyH_ready (rs := [12]) (by kernel_rfl) (by simp) (AllReadyH.cons rfl (fun K hK => ?_) AllReadyH.nil)
              have z0 := cell_at (i := 0) XZ.out rfl
              have z1 := cell_at (i := 1) XZ.out rfl
              have z2 := cell_at (i := 2) XZ.out rfl
              have y0 := thawed_at (i := 0) XZ.out
              have y1 := thawed_at (i := 1) XZ.out
              have y2 := thawed_at (i := 2) XZ.out
              have M9 := Lib.hid (set3_block XZ.out (.string ⟨#[107]⟩) (.int .i64 (max g PT.g)) (.slice A3 n3 c3))
              have K9 := kept_set3h XZ.out (.string ⟨#[107]⟩) (.int .i64 (max g PT.g)) (.slice A3 n3 c3)
              have HF9 := Lib.hid (HF3.out.kept K9 (e := 24) (fun j hj => by subst hj; exact ⟨Nat.le_trans HB.out.size HXQ.out, _, XZ.out⟩) (by decide) (by decide))
              have CB9 := Lib.hid (below_kept hHeld K9 fun j hj => by subst hj; exact HXQ.out)
              clear K9
              go_simp
              refine hK.out _ _ ?_ (fun hHeld => ?_)
              · exact CB9.out
              clear hK K
              try simp only [Act.put, List.getElem_toArray, List.getElem_cons_succ, List.getElem_cons_zero, List.setIfInBounds_toArray, List.set_cons_zero, List.set_cons_succ]
              refine wpAnyH_take (i := 13) (v := ?_) rfl (by kernel_rfl) (by kernel_rfl) (by kernel_rfl) (fun _ _ _ h => h) (Or.inl ⟨by rfl, ?_⟩) (by assumption) ?_
              rotate_left
              · (intro wx hSw; (try dsimp only at hSw); go_simp; try with_reducible rfl)
              try simp only [Act.put, List.getElem_toArray, List.getElem_cons_succ, List.getElem_cons_zero, List.setIfInBounds_toArray, List.set_cons_zero, List.set_cons_succ]
              refine wpAnyH_done (by kernel_rfl) ?_ _
              go_wp2_with fail
              go_meet
              exact ⟨_, M3, A3, n3, c3, rfl, rfl, M9.out, HM3.out, HF9.out, hHeld⟩
          case rest =>
            obtain ⟨qd, M3, A3, n3, c3, rfl, rfl, hpd, hm3, hf3, hbw⟩ := hcut
            generalize wc = w3 at hpd hf3 hbw ⊢
            have hta := HATA.out.on hbw
            have htb := HATB.out.on hbw
            have hb3 := HB.out.trans (hbw.mono HB.out.size)
            have hla := hta.held.lies hb3
            have hlb := htb.held.lies hb3
            have hld := hf3.lies.2.1
            have heq : (⟨⟨#[107]⟩, g, ros M⟩ : Pa) = ⟨⟨#[107]⟩, g', ros M'⟩ := by rw [HM.out, HM'.out]; exact (in_sl ⟨#[107]⟩).many_turn hc1 HGD.out
            have hhas : (⟨⟨#[107]⟩, max g PT.g, ros M3⟩ : Pa) = ⟨⟨#[107]⟩, g, ros M⟩ := by
              have h1 := (in_sl ⟨#[107]⟩).many_has (l := paOf Ps) (n := KN - 1) (fun j hj => HGD.out j (by omega)) T (by omega)
              rw [← HM.out, HPT.out] at h1
              rw [hm3]
              exact h1
            injection heq with _ hg1 hm1
            injection hhas with _ hg2 hm2
            have hs1 : psame ⟨#[107]⟩ g (ros M) ⟨#[107]⟩ g' (ros M') = true := psame_iff.2 ⟨rfl, hg1, hm1⟩
            have hs2 : psame ⟨#[107]⟩ (max g PT.g) (ros M3) ⟨#[107]⟩ g (ros M) = true := psame_iff.2 ⟨rfl, hg2, hm2⟩
            have hok := HMI.out.ok
            have hn1 := hla.len; have hn2 := hlb.len; have hn3 := hld.len
            have hl1 := HMI.out.mlen; have hl2 := HMI'.out.mlen
            have hl3 : M3.length ≤ 4 := by
              have h1 := congrArg List.length hm2
              rw [List.length_map, List.length_map] at h1
              omega
            have hc3 : ∀ x ∈ M3, x.ro.cols.length ≤ 1000 := fun x hx => by
              have h1 : x.ro ∈ ros M := by rw [← hm2]; exact List.mem_map.2 ⟨x, hx, rfl⟩
              obtain ⟨y, hy, he⟩ := List.mem_map.1 h1
              rw [← he]
              exact HMI.out.colsle y hy
            have HTA := Lib.hid hta.pt; have HTB := Lib.hid htb.pt; have HTD := Lib.hid hpd; have HLA := Lib.hid hla; have HLB := Lib.hid hlb; have HLD := Lib.hid hld; have HS1 := Lib.hid hs1; have HS2 := Lib.hid hs2; have HOK := Lib.hid hok; have HC3 := Lib.hid hc3; have HB3 := Lib.hid hb3
            have la := hta.lt; have lb := htb.lt; have ld := (Array.getElem?_eq_some_iff.1 hpd).1
            clear hta htb hla hlb hld hg1 hm1 hg2 hm2 hs1 hs2 hok hc3 hb3 hm3 hf3 hbw hpd
            have HPA := Lib.hid (PtAt.of HTA.out); have HPB := Lib.hid (PtAt.of HTB.out); have HPD := Lib.hid (PtAt.of HTD.out)
            obtain ⟨_, _, _⟩ := HPA.out
            go_wp2_with fail
            refine (pcheck_any ⟨#[107]⟩ g A n c w3.heap.size M _ HLA.out (Nat.le_refl _) (by omega) HMI.out.few).mono ?_
            rintro e w4 ⟨rfl, b4⟩
            rw [HOK.out]
            obtain ⟨_, _, _⟩ := HPA.out.below b4 la
            obtain ⟨_, _, _⟩ := HPB.out.below b4 lb
            have s4 := b4.size
            go_wp2_with fail
            refine (psame_any ⟨#[107]⟩ ⟨#[107]⟩ g g' A A' n n' c c' w3.heap.size w3.heap.size M M' _ (HLA.out.below b4) (HLB.out.below b4) b4.size b4.size (by omega) (by omega) HMI.out.colsle HMI'.out.colsle).mono ?_
            rintro e w5 ⟨rfl, b5⟩
            rw [HS1.out]
            have b5' := next b4 b5
            obtain ⟨_, _, _⟩ := HPA.out.below b5' la
            obtain ⟨_, _, _⟩ := HPD.out.below b5' ld
            go_wp2_with fail
            refine (psame_any ⟨#[107]⟩ ⟨#[107]⟩ (max g PT.g) g A3 A n3 n c3 c w3.heap.size w3.heap.size M3 M _ (HLD.out.below b5') (HLA.out.below b5') b5'.size b5'.size (by omega) (by omega) HC3.out HMI.out.colsle).mono ?_
            rintro e w6 ⟨rfl, b6⟩
            rw [HS2.out]
            have b6' := next b5' b6
            go_wp2_with fail
            refine (pawake_any _).mono ?_
            rintro e w7 ⟨rfl, b7⟩
            go_wp2
            go_ret
            exact ⟨rfl, next (HB0.out.trans (HB3.out.mono HB0.out.size)) (next b6' b7)⟩
theorem pjoins_law (A : Option Addr) (n c : Nat) (l : List Int) (v1 v2 v3 : Int) (w : World) (hr : RdZ w w.heap.size A n l) (hnc : n ≤ c) (hc : c ≤ maxLen) (hx : ∀ x ∈ l, (Lit.int .i64 x).wf = true) (h1 : (Lit.int .i64 v1).wf = true) (h2 : (Lit.int .i64 v2).wf = true) (h3 : (Lit.int .i64 v3).wf = true) :
    Calls Try.prog 4 #[.slice A n c, .int .i64 v1, .int .i64 v2, .int .i64 v3] w fun e w' => e = .returned (.bool true) ∧ Below w.heap.size w w' := by
  by_cases h : 150 < n
  · exact pjoins_long A n c v1 v2 v3 w h
  · exact pjoins_short A n c l v1 v2 v3 w hr hnc hc hx h1 h2 h3 (by omega)
end Go.Proofs.Ytafbbojfifcncaa
set_option linter.unusedVariables false
namespace Go.Proofs.Ytafbbojfifcncaa
open Go Go.ChangeShapes Go.WideShapes Go.ChangeAt Go.RowKit

theorem trod_lt1 {H : Type} {enc : TypeId × Value → H} {P : Program} {w : World} {base : Nat} {sp : Nat → Bool} {held : Bool} {t : TypeId} {v : Value} {d : DataW H} {ps : List MemPlace} (h : DataW.Trod enc P w base sp held t v d ps) : ∀ p ∈ ps, p.block < w.heap.size := by
  obtain ⟨f, hf⟩ := h
  exact DataW.trod_lt f t _ _ hf
end Go.Proofs.Ytafbbojfifcncaa
set_option linter.unusedVariables false
namespace Go.Proofs.Ytafbbojfifcncaa
open Go Go.ChangeShapes Go.WideShapes Go.ChangeAt Go.RowKit Go.Joins

theorem cellsC : Try.prog.cellsOf 33 = 4 := by kernel_rfl
theorem cellsI : Try.prog.cellsOf 3 = 1 := by kernel_rfl
set_option maxRecDepth 8000 in
theorem open_ce {H : Type} {enc : TypeId × Value → H} {W : World} {base : Nat} {v : Value} {d : DataW H} {p : List MemPlace} (hval : Value.okWide Try.prog W .any base 33 v) (h : DataW.Trod enc Try.prog W 0 (fun _ => true) true 33 v d p) :
    ∃ s d a e, v = .agg #[.string s, .bool d, .int .i64 a, .int .i64 e] ∧ s.size ≤ maxLen ∧ (Lit.int .i64 a).wf = true ∧ (Lit.int .i64 e).wf = true := by
  obtain ⟨c0, c1, c2, c3, y0, y1, y2, y3, m, rfl, _, _, h0, h1, h2, h3⟩ := open_agg4 Try.underlying33 (by kernel_rfl) cellsC hval h
  obtain ⟨s, e0, _, w0⟩ := DataW.trod_string Try.underlying9 h0
  obtain ⟨b, e1, _⟩ := DataW.trod_bool Try.underlying4 h1
  obtain ⟨a, e2, _, w2⟩ := DataW.trod_int Try.underlying3 h2
  obtain ⟨e, e3, _, w3⟩ := DataW.trod_int Try.underlying3 h3
  simp at e0 e1 e2 e3
  subst e0; subst e1; subst e2; subst e3
  exact ⟨s, b, a, e, rfl, w0, w2, w3⟩
set_option maxRecDepth 8000 in
theorem open_rdz {H : Type} {enc : TypeId × Value → H} {W : World} {base : Nat} {v : Value} {d : DataW H} {p : List MemPlace} (hval : Value.okWide Try.prog W .any base 43 v) (h : DataW.Trod enc Try.prog W 0 (fun _ => true) true 43 v d p) :
    ∃ A n c l, v = .slice A n c ∧ RdZ W W.heap.size A n l ∧ n ≤ c ∧ c ≤ maxLen ∧ (∀ x ∈ l, (Lit.int .i64 x).wf = true) := by
  obtain ⟨a1, len, cap, rfl⟩ := okWide_slice Try.underlying43 hval
  obtain ⟨fuel, hf⟩ := h
  rcases open_ints Try.underlying43 Try.underlying3 cellsI hf with ⟨hcs, hx⟩ | ⟨a, len', cap', zs, hcs, _, hl, hm, hz, hx, hcell, hwz⟩
  · simp [Value.cells] at hcs
    obtain ⟨rfl, rfl, rfl⟩ := hcs
    exact ⟨none, 0, 0, [], rfl, ⟨rfl, fun h => absurd h (by omega)⟩, Nat.le_refl _, Nat.zero_le _, fun x hx => by cases hx⟩
  · simp [Value.cells] at hcs
    obtain ⟨rfl, rfl, rfl⟩ := hcs
    simp only [if_true] at hz
    refine ⟨some a, len, cap, zs.take len, rfl, ⟨by simp; omega, fun hn => ?_⟩, hl, hm, fun x hx => ?_⟩
    · have h0 := hcell 0 (by omega)
      have hs : a.spot = none := by simpa [Addr.add] using World.cell?_spot h0
      obtain ⟨g, o, sp⟩ := a
      simp only at hs
      subst hs
      refine ⟨g, o, rfl, World.block_lt_of_cell? W ⟨g, o, none⟩ (by simpa [Addr.add] using h0), fun j hj => ?_⟩
      have hj2 : j < zs.length := by simp at hj; omega
      have e : zs.getD j 0 = zs[j] := by simp [List.getD, hj2]
      have := hcell j hj2
      rw [e] at this
      simp only [Addr.add_lit] at this
      rw [this, List.getElem_take]
    · exact hwz x (List.mem_of_mem_take hx)
end Go.Proofs.Ytafbbojfifcncaa
set_option linter.unusedVariables false
namespace Go.Proofs.Ytafbbojfifcncaa.lawPartJoins
open Go Go.ChangeShapes Go.WideShapes Go.ChangeAt Go.RowKit
open Go.ChangeMaps (open_string shut_string)

theorem own : ownKnob Try.prog.godebug = none := by kernel_rfl
theorem laidOut : laidOutB Try.prog = true := by kernel_rfl

set_option maxRecDepth 100000 in
theorem lifted (os : Os) (started : os.Started) (H : Type) (enc : TypeId × Value → H) :
    ReturnsInHanded {} Try.checked os 4 .any (Rows.partJoinsSpec.pre6 enc Try.prog Try.f4 Rows.partJoinsRow.domain false) (Rows.partJoinsSpec.post enc Try.prog Try.f4 false true false false) := by
  refine returnsInHanded_of_change (C := Try.checked) own started (by kernel_rfl) Try.func4
    (ChangeSpec.witness6 (enc := enc) (C := Try.checked) false ⟨#[], #[.slice none 0 0, .int .i64 0, .int .i64 0, .int .i64 0], []⟩ 8 (by kernel_rfl) (by kernel_rfl) (by kernel_rfl) (by kernel_rfl)) ?_
  intro W base args ds gs before hval0 hW hcnd _
  have hval : ∀ (j : Nat) t v, Try.f4.params[j]? = some t → args[j]? = some v → Value.okWide Try.prog W .any base t v := hval0
  have hW' := hW
  obtain ⟨p, q, hA0, hV, rfl, hfz, hnd⟩ := hW
  have hA : DataW.TrodAll enc Try.prog W 0 (fun _ => true) true Try.f4.params.toList args.toList ds p := hA0
  rw [Try.params4] at hA hval
  obtain ⟨v0, vs0, d0, ds0, p0, q0, hargs, rfl, rfl, h0, r0⟩ := trodAll_cons hA
  obtain ⟨v1, vs1, d1, ds1, p1, q1, rfl, rfl, rfl, h1, r1⟩ := trodAll_cons r0
  obtain ⟨v2, vs2, d2, ds2, p2, q2, rfl, rfl, rfl, h2, r2⟩ := trodAll_cons r1
  obtain ⟨v3, vs3, d3, ds3, p3, q3, rfl, rfl, rfl, h3, r3⟩ := trodAll_cons r2
  obtain ⟨rfl, rfl, rfl⟩ := trodAll_nil r3
  obtain rfl : args = #[v0, v1, v2, v3] := by cases args; simp_all
  obtain ⟨rfl, rfl⟩ := trodVars_none hV
  have t0 := h0
  obtain ⟨A0, n0, c0, l0, rfl, wr0, wn0, wc0, ws0⟩ := open_rdz (hval 0 43 v0 rfl rfl) h0
  obtain ⟨a1, rfl, rfl, rfl, w1⟩ := open_int Try.underlying3 (hval 1 3 v1 rfl rfl) h1
  obtain ⟨a2, rfl, rfl, rfl, w2⟩ := open_int Try.underlying3 (hval 2 3 v2 rfl rfl) h2
  obtain ⟨a3, rfl, rfl, rfl, w3⟩ := open_int Try.underlying3 (hval 3 3 v3 rfl rfl) h3
  clear hA0 hval0
  refine (pjoins_law A0 n0 c0 l0 a1 a2 a3 W wr0 wn0 wc0 ws0 w1 w2 w3).mono fun e W' ⟨he, bel⟩ => ?_
  subst he
  exact ⟨_, rfl, _, _, _, [], _, [], hW', trodAll_mk1 (shut_bool Try.underlying4 _), (trodAll_cons_mk (Below.trod laidOut (by kernel_rfl) (of_decide_eq_true (by kernel_rfl)) t0 bel (trod_lt1 t0)) (trodAll_cons_mk (shut_int Try.underlying3 w1) (trodAll_cons_mk (shut_int Try.underlying3 w2) (trodAll_cons_mk (shut_int Try.underlying3 w3) trodAll_mk0)))), rfl, bel.frame _, fun h => by cases h⟩

theorem over : Rows.partJoinsRow.holds Try.pinned (OpenSpec.ofChange Rows.partJoinsSpec) :=
  OpenClaim.holds_of_wide 4 Try.f4 rfl rfl rfl rfl rfl rfl rfl ⟨rfl, rfl, rfl, rfl, rfl⟩ rfl rfl rfl rfl rfl (by kernel_rfl) Try.func4 (by kernel_rfl)
    (of_decide_eq_true (by kernel_rfl)) (by unfold Func.isWrapper; first | (rw [if_pos (by decide +kernel)]; kernel_rfl) | (rw [if_neg (by decide +kernel)]; exact ⟨rfl, rfl⟩))
    (fun os started H enc _ => lifted os started H enc)

theorem proved : Rows.PartJoinsSaid := over
end Go.Proofs.Ytafbbojfifcncaa.lawPartJoins
