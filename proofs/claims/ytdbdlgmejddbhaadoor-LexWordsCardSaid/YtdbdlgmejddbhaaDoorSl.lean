/-
  Slices of bytes: what one reads as, what append and the conversions make of it.
-/
import Derived.Test.YtdbdlgmejddbhaaDoorProg
import Derived.WalkKit
import Derived.BigCall
import Derived.Lib.Hide
import Derived.ArgAppend
import Derived.Deep.AppendLies
import Derived.Lib.UnsafeStr
import Derived.Lib.BufferWrite
import Derived.Laws.IdiomStrings
import Derived.Laws.BytesArg
set_option linter.unusedVariables false
namespace Go.Proofs.YtdbdlgmejddbhaaDoor
open Go Go.RowKit

theorem addr_block (a : Addr) (n : Nat) : (a.add n).block = a.block := by unfold Addr.add; split <;> rfl
theorem addr_add (a : Addr) (i j : Nat) : (a.add i).add j = a.add (i + j) := by
  unfold Addr.add
  by_cases hi : i = 0 <;> by_cases hj : j = 0 <;> simp [hi, hj, Nat.add_assoc]

/-- The slice at A, n long, holds the bytes l in w, in a block below B. -/
def Rd (w : World) (B : Nat) (A : Option Addr) (n : Nat) (l : List UInt8) : Prop :=
  l.length = n ∧ (0 < n → ∃ ad, A = some ad ∧ ad.block < B ∧ ∀ j (hj : j < l.length), w.cell? (ad.add j) = some (.int .u8 (l[j].toNat : Nat)))

section
variable {w w' : World} {B B' n : Nat} {A : Option Addr} {l : List UInt8}
theorem Rd.nil (w : World) (B : Nat) : Rd w B none 0 [] := ⟨rfl, fun h => absurd h (by omega)⟩
theorem Rd.keep (h : Rd w B A n l) (hk : ∀ p : Addr, p.block < B → w'.cell? p = w.cell? p) : Rd w' B A n l :=
  ⟨h.1, fun hn => by
    obtain ⟨ad, e, hb, hc⟩ := h.2 hn
    exact ⟨ad, e, hb, fun j hj => (hk _ (by rw [addr_block]; exact hb)).trans (hc j hj)⟩⟩
theorem Rd.below (h : Rd w B A n l) (hb : Below B w w') : Rd w' B A n l := h.keep fun _ hp => hb.cell hp
theorem Rd.up (h : Rd w B A n l) (hB : B ≤ B') : Rd w B' A n l :=
  ⟨h.1, fun hn => by
    obtain ⟨ad, e, hb, hc⟩ := h.2 hn
    exact ⟨ad, e, by omega, hc⟩⟩
/-- It holds still behind a call that has kept what was there. -/
theorem Rd.on (h : Rd w B A n l) (hb : Below B w w') (hB : B ≤ B') : Rd w' B' A n l := (h.below hb).up hB
theorem Rd.alloc (h : Rd w B A n l) (hB : B ≤ w.heap.size) (o : Obj) : Rd (w.alloc o) B A n l := h.keep fun p hp => World.cell?_alloc_lt w o p (by omega)
theorem Rd.drew (h : Rd w B A n l) : Rd w.drew B A n l := h
theorem Rd.at2 (h : Rd w B A n l) {j : Nat} (hj : j < n) : ∃ g o, A = some ⟨g, o, none⟩ ∧ g < B ∧ ∀ i (hi : i < l.length), w.cell? ⟨g, o + i, none⟩ = some (.int .u8 (l[i].toNat : Nat)) := by
  obtain ⟨ad, rfl, hb, hc⟩ := h.2 (by omega)
  have h0 := hc 0 (by have := h.1; omega)
  have hs : ad.spot = none := by simpa [Addr.add] using World.cell?_spot h0
  obtain ⟨g, o, sp⟩ := ad
  simp only at hs
  subst hs
  exact ⟨g, o, rfl, hb, fun i hi => by rw [← Addr.add_lit]; exact hc i hi⟩
theorem Rd.cut (h : Rd w B A n l) {k m mx : Nat} (hk : k ≤ m) (hm : m ≤ n) (hx : m ≤ mx) :
    Rd w B (if mx = k then A else A.map (·.add k)) (m - k) ((l.take m).drop k) := by
  refine ⟨by rw [List.length_drop, List.length_take, h.1]; omega, fun hn => ?_⟩
  obtain ⟨ad, rfl, hb, hc⟩ := h.2 (by omega)
  rw [if_neg (by omega)]
  refine ⟨ad.add k, rfl, by rw [addr_block]; exact hb, fun j hj => ?_⟩
  rw [addr_add]
  have hj2 : k + j < l.length := by rw [List.length_drop, List.length_take] at hj; omega
  rw [hc (k + j) hj2]
  simp
theorem Rd.pre (h : Rd w B A n l) {m : Nat} (hm : m ≤ n) : Rd w B A m (l.take m) := by
  refine ⟨by rw [List.length_take, h.1]; omega, fun h0 => ?_⟩
  obtain ⟨ad, e, hb, hc⟩ := h.2 (by omega)
  refine ⟨ad, e, hb, fun j hj => ?_⟩
  have hj2 : j < l.length := by rw [List.length_take] at hj; omega
  rw [hc j hj2]
  simp
theorem byteCells_get (l : List UInt8) (j : Nat) : (Lib.byteCells l)[j]? = (l[j]?).map fun b => Value.int .u8 b.toNat := by
  unfold Lib.byteCells
  rw [List.getElem?_map]
theorem Rd.cells (h : Rd w B A n l) {ad : Addr} (ha : A = some ad) : ∀ j u, (Lib.byteCells l)[j]? = some u → w.cell? (ad.add j) = some u := by
  intro j u hu
  rw [byteCells_get] at hu
  have hj : j < l.length := by
    rcases Nat.lt_or_ge j l.length with h1 | h1
    · exact h1
    · rw [List.getElem?_eq_none h1] at hu; cases hu
  rw [List.getElem?_eq_getElem hj] at hu
  obtain ⟨ad', e, _, hc⟩ := h.2 (by have := h.1; omega)
  rw [ha] at e
  injection e with e
  subst e
  rw [hc j hj]
  exact hu
theorem Rd.of_own {base : Nat} {v : Value} {n : Nat} {l : List UInt8} (h : w.ownsRow base 5 1 v n (Lib.byteCells l)) :
    ∃ A c, v = .slice A n c ∧ n ≤ c ∧ c ≤ maxLen ∧ (A = none → c = 0) ∧ Rd w w.heap.size A n l := by
  have hl : l.length = n := by have := h.1; rw [Lib.byteCells_length] at this; omega
  rcases h.2 with ⟨rfl, rfl⟩ | ⟨g, cap, cur, rfl, hb, hh, hn, hm, hs, ht⟩
  · exact ⟨none, 0, rfl, Nat.le_refl _, Nat.zero_le _, fun _ => rfl, hl, fun h => absurd h (by omega)⟩
  · refine ⟨some ⟨g, 0, none⟩, cap, rfl, hn, hm, fun h => (by cases h), hl, fun hn => ⟨_, rfl, (Array.getElem?_eq_some_iff.1 hh).1, fun j hj => ?_⟩⟩
    refine h.cells (g := g) rfl j _ ?_
    rw [byteCells_get, List.getElem?_eq_getElem hj]
    rfl
end

theorem infoB : (Tryd.prog.info? 5).map (fun i => (i.zero, i.size, i.bytes)) = some (some (.int .u8 0), 1, 1) := by kernel_rfl

theorem run_app_none {w : World} (base : Nat) {ty : TypeId} {v : Value} {n : Nat} {xs : List Value} (hown : w.ownsRow base 5 1 v n xs) (c : Nat) :
    (Builtin.append_ #[64, 64] ty #[v, .slice none 0 c]).run Tryd.prog w = .ok v w := by
  obtain ⟨i, hi, hz0, hz1, hz2⟩ := info_parts infoB
  rcases hown.2 with ⟨rfl, rfl⟩ | ⟨g, cap, cur, rfl, _, _, hnc, _⟩
  · simp [Builtin.append_, run_underlying Tryd.underlying64, sizeOf, typeInfo, hi, Builtin.lenOf, Builtin.firstCells]
  · simp [Builtin.append_, run_underlying Tryd.underlying64, sizeOf, typeInfo, hi, Builtin.lenOf, Builtin.firstCells, hnc, storeCells]

/-- append(own, bytes...): the bytes come from anywhere. -/
theorem run_app {w : World} (base : Nat) {ty : TypeId} {v : Value} {n : Nat} {l : List UInt8} (hown : w.ownsRow base 5 1 v n (Lib.byteCells l)) {B m c : Nat} {A : Option Addr} {k : List UInt8} (hr : Rd w B A m k)
    (hsz : n + m ≤ 140737488355328) (hbase : base ≤ w.heap.size) :
    ∃ v' w', (Builtin.append_ #[64, 64] ty #[v, .slice A m c]).run Tryd.prog w = .ok v' w' ∧ w'.ownsRow base 5 1 v' (n + m) (Lib.byteCells (l ++ k)) ∧ w.grownBy w' v.ownBlock := by
  obtain ⟨i, hi, hz0, hz1, hz2⟩ := info_parts infoB
  cases A with
  | none =>
    have h0 : m = 0 := by
      rcases Nat.eq_zero_or_pos m with h1 | h1
      · exact h1
      · obtain ⟨ad, e, _⟩ := hr.2 h1; cases e
    subst h0
    obtain rfl : k = [] := List.eq_nil_of_length_eq_zero hr.1
    exact ⟨v, w, run_app_none base hown c, by simpa using hown, ⟨rfl, rfl, rfl, Nat.le_refl _, fun _ _ _ => rfl⟩⟩
  | some ad =>
    obtain ⟨v', w', h1, h2, h3, _⟩ := run_append_own (P := Tryd.prog) w base 64 ty 5 i (.int .u8 0) 1 1 Tryd.underlying64 hi hz0 hz1 hz2 rfl (by decide) v n (Lib.byteCells l) hown ad m c (Lib.byteCells k)
      (by rw [Lib.byteCells_length, hr.1]; omega) (hr.cells rfl) (Lib.byteCells_one k) (by unfold maxLen; omega) (by omega) hbase
    exact ⟨v', w', h1, by rw [Lib.byteCells_append]; exact h2, h3⟩

/-- The bytes of a block that the walk has just laid. -/
theorem Rd.laid {w : World} {g : Nat} {l : List UInt8} {cs : Array Value} {t : TypeId} (hb : w.heap[g]? = some (.cells cs t (0, 0))) (hc : cs.toList = Lib.byteCells l) : Rd w w.heap.size (some ⟨g, 0, none⟩) l.length l := by
  refine ⟨rfl, fun _ => ⟨_, rfl, (Array.getElem?_eq_some_iff.1 hb).1, fun j hj => ?_⟩⟩
  refine World.news_of_block hb j _ ?_
  rw [hc, byteCells_get, List.getElem?_eq_getElem hj]
  rfl

theorem Rd.one (w : World) (x : Int) (b : UInt8) (h : x = (b.toNat : Nat)) : Rd (w.alloc (.cells #[.int .u8 x] 5)) (w.heap.size + 1) (some ⟨w.heap.size, 0, none⟩) 1 [b] := by
  have := Rd.laid (w := w.alloc (.cells #[.int .u8 x] 5)) (g := w.heap.size) (l := [b]) (heap_alloc_new w _) (by rw [h]; rfl)
  simpa using this
theorem Rd.two (w : World) (x y : Int) (b d : UInt8) (h : x = (b.toNat : Nat)) (k : y = (d.toNat : Nat)) : Rd (w.alloc (.cells #[.int .u8 x, .int .u8 y] 5)) (w.heap.size + 1) (some ⟨w.heap.size, 0, none⟩) 2 [b, d] := by
  have := Rd.laid (w := w.alloc (.cells #[.int .u8 x, .int .u8 y] 5)) (g := w.heap.size) (l := [b, d]) (heap_alloc_new w _) (by rw [h, k]; rfl)
  simpa using this

/-- A call that hands back new bytes. -/
def GivesB (w : World) (l : List UInt8) (e : Ending) (w' : World) : Prop :=
  ∃ A n c, e = .returned (.slice A n c) ∧ l.length = n ∧ n ≤ c ∧ c ≤ maxLen ∧ (A = none → c = 0) ∧ Rd w' w'.heap.size A n l ∧ Below w.heap.size w w'
theorem GivesB.of_own {w w' : World} {base n : Nat} {v : Value} {l : List UInt8} (h : w'.ownsRow base 5 1 v n (Lib.byteCells l)) (hb : Below w.heap.size w w') : GivesB w l (.returned v) w' := by
  obtain ⟨A, c, rfl, h1, h2, h3, h4⟩ := Rd.of_own h
  exact ⟨A, n, c, rfl, h4.1, h1, h2, h3, h4, hb⟩
/-- A slice to which bytes are appended without a trace: it came in without spare room, or it is the call's own (the call began in w0). -/
def Free (w0 : World) (v : Value) (m : Nat) (l : List UInt8) (w : World) : Prop :=
  Below w0.heap.size w0 w ∧ ((∃ A B, v = .slice A m m ∧ Rd w B A m l ∧ B ≤ w0.heap.size) ∨ w.ownsRow w0.heap.size 5 1 v m (Lib.byteCells l))
theorem Free.own {w0 w : World} {v : Value} {m : Nat} {l : List UInt8} (hb : Below w0.heap.size w0 w) (h : w.ownsRow w0.heap.size 5 1 v m (Lib.byteCells l)) : Free w0 v m l w := ⟨hb, Or.inr h⟩
theorem Free.alloc {w0 w : World} {v : Value} {m : Nat} {l : List UInt8} (h : Free w0 v m l w) (o : Obj) : Free w0 v m l (w.alloc o) := by
  have hz := h.1.size
  refine ⟨h.1.alloc hz o, ?_⟩
  rcases h.2 with ⟨A, B, h1, h2, h3⟩ | h2
  · exact Or.inl ⟨A, B, h1, h2.alloc (by omega) o, h3⟩
  · exact Or.inr (h2.alloc o)
theorem Free.slice {w0 w : World} {v : Value} {m : Nat} {l : List UInt8} (h : Free w0 v m l w) : ∃ A c, v = .slice A m c := by
  rcases h.2 with ⟨A, B, h1, h2⟩ | h2
  · exact ⟨A, m, h1⟩
  · obtain ⟨A, c, h3, _⟩ := Rd.of_own h2
    exact ⟨A, c, h3⟩
end Go.Proofs.YtdbdlgmejddbhaaDoor
