/-
  PartGones: for every input the law returns true, and each argument reads as it read. No condition.
-/
import Derived.Test.YtafbbojfifcncaaPd7
import Derived.Test.YtafbbojfifcncaaPd5
import Derived.Test.YtafbbojfifcncaaPd6
import Derived.Test.YtafbbojfifcncaaRi
import Derived.Test.YtafbbojfifcncaaCeZ
import Derived.Deep.DeepCutAuto
import Derived.Deep.CutBlock
import Derived.Test.YtafbbojfifcncaaRows
import Derived.Test.YtafbbojfifcncaaOpnC
import Derived.WalkKit
import Derived.ProofKit
import Derived.OpenShut
import Derived.ShutString
import Derived.ChangeOld
import Derived.Below
set_option linter.unusedVariables false
set_option linter.unusedSimpArgs false
namespace Go.Proofs.Ytafbbojfifcncaa
open Go Go.RowKit

/-- A row that is there since a stamp, with nothing else. -/
def liveR (k : ByteArray) (a : Int) : Ro := ⟨k, ⟨⟨#[]⟩, false, a, 0⟩, 0, 0, []⟩
def liveA (k : ByteArray) (a : Int) : RA := ⟨liveR k a, none, 0⟩
theorem liveA_in (k : ByteArray) (a : Int) (w : World) (B : Nat) : RaIn w B (liveA k a) := ⟨RdK.nil _ _ _, Nat.le_refl _⟩
theorem liveR_up (k : ByteArray) (a : Int) : (liveR k a).Up := ⟨trivial, fun x hx => by cases hx⟩
theorem two_rows (w : World) (k k' : ByteArray) (a a' : Int) (W : World) (hW : W = w.alloc (.cells #[.string k, .string ⟨#[]⟩, .bool false, .int .i64 a, .int .i64 0, .int .i64 0, .int .i64 0, .slice none 0 0, .string k', .string ⟨#[]⟩, .bool false, .int .i64 a', .int .i64 0, .int .i64 0, .int .i64 0, .slice none 0 0] 36)) :
    Lies W (w.heap.size + 1) (some ⟨w.heap.size, 0, none⟩) 2 2 [liveA k a, liveA k' a'] := by
  subst hW
  refine ⟨RdR.of_all rfl (by omega) fun j u hu => ?_, fun x hx => ?_, Nat.le_refl _⟩
  · have e : rRow [liveA k a, liveA k' a'] = [.string k, .string ⟨#[]⟩, .bool false, .int .i64 a, .int .i64 0, .int .i64 0, .int .i64 0, .slice none 0 0, .string k', .string ⟨#[]⟩, .bool false, .int .i64 a', .int .i64 0, .int .i64 0, .int .i64 0, .slice none 0 0] := rfl
    rw [e] at hu
    rw [Nat.zero_add]
    exact cell_at (heap_alloc_new w _) (by simpa using hu)
  · simp only [List.mem_cons, List.not_mem_nil, or_false] at hx
    rcases hx with rfl | rfl <;> exact liveA_in _ _ _ _
def awR : List Ro := [liveR ⟨#[114]⟩ 8, liveR ⟨#[115]⟩ 10]
theorem awR_up (k : ByteArray) (g : Int) : (Pa.mk k g awR).Up := by
  refine ⟨⟨fun y hy => ?_, fun y hy => (by cases hy), trivial⟩, fun x hx => ?_⟩
  · rw [List.mem_singleton.1 hy]
    show nlt ⟨#[114]⟩ ⟨#[115]⟩
    decide
  · simp only [awR, List.mem_cons, List.not_mem_nil, or_false] at hx
    rcases hx with rfl | rfl <;> exact liveR_up _ _
theorem awR_seen : seenR 9 0 true awR = [liveR ⟨#[115]⟩ 10] := by rfl
theorem awR_stamp : stampR 9 awR = 10 := by rfl
theorem awR_cols : ∀ r ∈ awR, r.cols.length ≤ 1000 := by
  intro r hr
  simp only [awR, List.mem_cons, List.not_mem_nil, or_false] at hr
  rcases hr with rfl | rfl <;> exact Nat.zero_le _
set_option maxRecDepth 8000 in
set_option maxHeartbeats 8000000 in
theorem pawake_any (w : World) : Calls Try.prog 9 #[] w fun x w' => x = .returned (.bool true) ∧ Below w.heap.size w w' := by
  obtain ⟨W1, hW1⟩ : ∃ W, W = w.alloc (.cells #[.string ⟨#[114]⟩, .string ⟨#[]⟩, .bool false, .int .i64 8, .int .i64 0, .int .i64 0, .int .i64 0, .slice none 0 0, .string ⟨#[115]⟩, .string ⟨#[]⟩, .bool false, .int .i64 10, .int .i64 0, .int .i64 0, .int .i64 0, .slice none 0 0] 36) := ⟨_, rfl⟩
  have hl := two_rows w ⟨#[114]⟩ ⟨#[115]⟩ 8 10 W1 hW1
  have hb1 : Below w.heap.size w W1 := by rw [hW1]; exact (Below.refl _ _).alloc (Nat.le_refl _) _
  have hs1 : W1.heap.size = w.heap.size + 1 := by rw [hW1]; simp
  have HL := Lib.hid hl; have HB1 := Lib.hid hb1; have HS1 := Lib.hid hs1
  clear hl hb1 hs1
  go_enter Try.func9, Try.ntmps9
  go_wp2_with fail
  rw [← hW1]
  clear hW1
  refine (pjoin_fits ⟨#[107]⟩ ⟨#[120]⟩ 0 9 _ _ 2 0 2 0 (w.heap.size + 1) 0 [liveA ⟨#[114]⟩ 8, liveA ⟨#[115]⟩ 10] [] _ (HL.out.below ((Below.refl _ _).alloc (by have := HS1.out; omega) _)) ⟨RdR.nil _ _ _, fun x hx => (by cases hx), Nat.le_refl _⟩ (by simp; have := HS1.out; omega) (Nat.zero_le _) (by omega) (awR_up _ _) ⟨trivial, fun x hx => (by cases hx)⟩ (by decide) awR rfl (by decide)).mono ?_
  rintro e w2 ⟨M, A2, n2, c2, rfl, hM, hfr⟩
  obtain ⟨hn2, hl2, hA2⟩ := hfr.lies
  have hb2 := next (HB1.out.alloc (by have := HS1.out; omega) (.cells #[.string ⟨#[107]⟩, .int .i64 0, .slice (some ⟨w.heap.size, 0, none⟩) 2 2] 24)) hfr.below
  have hml : n2 = 2 := by rw [hn2, ← List.length_map (f := RA.ro), show List.map RA.ro M = awR from hM]; rfl
  subst hml
  have HL2 := Lib.hid hl2; have HM := Lib.hid hM; have HB2 := Lib.hid hb2
  clear hfr hl2 hM hb2 hn2 hA2
  rw [show max (0 : Int) 9 = 9 from rfl]
  obtain ⟨W3, hW3⟩ : ∃ W, W = w2.alloc (.cells #[.string ⟨#[107]⟩, .int .i64 9, .slice A2 2 c2] 24) := ⟨_, rfl⟩
  have hb3 : Below w2.heap.size w2 W3 := by rw [hW3]; exact (Below.refl _ _).alloc (Nat.le_refl _) _
  have hz3 : W3.heap[w2.heap.size]? = some (.cells #[.string ⟨#[107]⟩, .int .i64 9, .slice A2 2 c2] 24 (0, 0)) := by rw [hW3]; exact heap_alloc_new w2 _
  have HL3 := Lib.hid (HL2.out.below hb3); have HB3 := Lib.hid (next HB2.out hb3); have HS3 := Lib.hid hb3.size; have HZ3 := Lib.hid hz3
  have hlt3 := (Array.getElem?_eq_some_iff.1 hz3).1
  have HMF : Hid (∀ x ∈ M, x.ro.cols.length ≤ 1000) := Lib.hid fun x hx => awR_cols x.ro (by rw [← HM.out]; exact List.mem_map.2 ⟨x, hx, rfl⟩)
  obtain ⟨_, _, _⟩ := PtAt.of hz3
  clear hb3 hz3
  go_wp2_with fail
  rw [← hW3]
  clear hW3
  go_wp2_with fail
  refine (pseen_any ⟨#[107]⟩ 9 0 true A2 2 c2 w2.heap.size M _ HL3.out HS3.out (by omega) HMF.out).mono ?_
  rintro e w4 ⟨v, M4, rfl, hM4, hown⟩
  rw [HM.out, awR_seen] at hM4
  obtain ⟨y, rfl⟩ : ∃ y, M4 = [y] := by
    match M4, congrArg List.length hM4 with
    | [y], _ => exact ⟨y, rfl⟩
  have hy : y.ro = liveR ⟨#[115]⟩ 10 := by simpa [ros] using hM4
  obtain ⟨A4, c4, rfl, hcap4, _⟩ := hown.slice
  obtain ⟨g4, rfl, _, _, hrow, _⟩ := hown.row (j := 0) (by simp)
  simp only [List.getElem_cons_zero, Nat.zero_mul] at hrow
  have hk0 := hrow.1
  rw [hy, show (liveR ⟨#[115]⟩ 10).key = ⟨#[115]⟩ from rfl] at hk0
  have hb4 := next HB3.out hown.below
  have HZ4 := Lib.hid ((hown.below.block w2.heap.size hlt3).trans HZ3.out); have HL4 := Lib.hid (HL3.out.below (hown.below.mono HS3.out)); have HB4 := Lib.hid hb4; have HS4 := Lib.hid (Nat.le_trans HS3.out hown.below.size)
  obtain ⟨_, _, _⟩ := PtAt.of HZ4.out
  simp only [List.length_cons, List.length_nil, Nat.zero_add]
  clear hown hrow hb4 hM4 hy
  go_wp2_with fail
  refine (pstampall_any ⟨#[107]⟩ 9 A2 2 c2 w2.heap.size M _ HL4.out HS4.out (by omega) HMF.out).mono ?_
  rintro e w5 ⟨rfl, b5⟩
  rw [HM.out, awR_stamp]
  have HB5 := Lib.hid (next HB4.out b5)
  clear b5
  go_wp2
  go_ret
  exact ⟨rfl, HB5.out⟩
def kb (a b c : Nat) : ByteArray := ⟨#[UInt8.ofNat (48 + a), UInt8.ofNat (48 + b), UInt8.ofNat (48 + c)]⟩
set_option maxRecDepth 8000 in
set_option maxHeartbeats 4000000 in
theorem key_any (n : Nat) (i : Int) (hi : i = (n : Int)) (hn : n < 1000) (w : World) : Calls Try.prog 27 #[.int .i64 i] w fun x w' => x = .returned (.string (kb (n / 100 % 10) (n / 10 % 10) (n % 10))) ∧ Below w.heap.size w w' := by
  have i0 : 0 ≤ i := by omega
  have i1 : i < 1000 := by omega
  have hcells : (#[Value.int .u8 (48 + (n : Int) / 100 % 10), Value.int .u8 (48 + (n : Int) / 10 % 10), Value.int .u8 (48 + (n : Int) % 10)] : Array Value).toList = Lib.byteCells [UInt8.ofNat (48 + n / 100 % 10), UInt8.ofNat (48 + n / 10 % 10), UInt8.ofNat (48 + n % 10)] := by
    simp only [Lib.byteCells, List.map_cons, List.map_nil, UInt8.toNat_ofNat']
    refine List.cons_eq_cons.2 ⟨?_, List.cons_eq_cons.2 ⟨?_, List.cons_eq_cons.2 ⟨?_, rfl⟩⟩⟩ <;> congr 1 <;> omega
  have hrd := Rd.laid (heap_alloc_new w (.cells #[Value.int .u8 (48 + (n : Int) / 100 % 10), Value.int .u8 (48 + (n : Int) / 10 % 10), Value.int .u8 (48 + (n : Int) % 10)] 5)) hcells
  obtain ⟨K, hK⟩ : ∃ K, kb (n / 100 % 10) (n / 10 % 10) (n % 10) = K := ⟨_, rfl⟩
  have hcv := cv_asE (n := 3) hrd 3 K (by rw [← hK]; rfl)
  rw [hK]
  have bz := Lib.hid ((Below.refl w.heap.size w).alloc (Nat.le_refl _) (.cells #[Value.int .u8 (48 + (n : Int) / 100 % 10), Value.int .u8 (48 + (n : Int) / 10 % 10), Value.int .u8 (48 + (n : Int) % 10)] 5))
  clear hcells hrd hK
  go_enter Try.func27, Try.ntmps27
  go_wp2
  go_ret
  exact ⟨rfl, bz.out⟩
end Go.Proofs.Ytafbbojfifcncaa
set_option linter.unusedVariables false
set_option linter.unusedSimpArgs false
namespace Go.Proofs.Ytafbbojfifcncaa
open Go Go.RowKit

def keyN (i : Nat) : ByteArray := kb (i / 100 % 10) (i / 10 % 10) (i % 10)
theorem ofNat_lt {x y : Nat} (h : x < y) (hy : y < 256) : UInt8.ofNat x < UInt8.ofNat y := by
  rw [UInt8.lt_iff_toNat_lt, UInt8.toNat_ofNat', UInt8.toNat_ofNat']
  omega
theorem keyN_lt {i j : Nat} (h : i < j) (hj : j < 1000) : nlt (keyN i) (keyN j) := by
  unfold nlt keyN kb
  simp only [List.cons_lt_cons_iff]
  have h1 : i / 100 % 10 < j / 100 % 10 ∨ (i / 100 % 10 = j / 100 % 10 ∧ (i / 10 % 10 < j / 10 % 10 ∨ (i / 10 % 10 = j / 10 % 10 ∧ i % 10 < j % 10))) := by omega
  rcases h1 with h1 | ⟨h1, h2 | ⟨h2, h3⟩⟩
  · exact Or.inl (ofNat_lt (by omega) (by omega))
  · exact Or.inr ⟨by rw [h1], Or.inl (ofNat_lt (by omega) (by omega))⟩
  · exact Or.inr ⟨by rw [h1], Or.inr ⟨by rw [h2], Or.inl (ofNat_lt (by omega) (by omega))⟩⟩
theorem keyN_inj {i j : Nat} (hi : i < 1000) (hj : j < 1000) (h : keyN i = keyN j) : i = j := by
  rcases Nat.lt_trichotomy i j with h1 | h1 | h1
  · exact absurd h (nlt_ne (keyN_lt h1 hj))
  · exact h1
  · exact absurd h.symm (nlt_ne (keyN_lt h1 hi))
theorem keyN_size (i : Nat) : (keyN i).size = 3 := rfl
/-- Put behind all the others. -/
theorem putR_end : ∀ {l : List Ro} {c : Ro}, (∀ x ∈ l, nlt x.key c.key) → putK Ro.key Ro.join l c = l ++ [c]
  | [], c, _ => rfl
  | x :: l, c, h => by
    unfold putK
    rw [if_pos (h x (List.mem_cons_self ..)), putR_end fun y hy => h y (List.mem_cons_of_mem _ hy)]
    rfl
/-- Rows that are there since some stamp, of the numbers' keys below i; m of them are above g. -/
structure GRows (g : Int) (i m : Nat) (R : List Ro) : Prop where
  rise : RiseR R
  all : ∀ r ∈ R, ∃ j a, j < i ∧ r = liveR (keyN j) a
  len : R.length = i
  cnt : ∀ t st, (seenR g t st R).length = m
theorem live_is {g a t : Int} {st : Bool} {k : ByteArray} (hg : 0 ≤ g) (ha : 1 ≤ a) : (liveR k a).isD g t st = decide (g < a) := by
  rw [Bool.eq_iff_iff]
  unfold Ro.isD isD liveR Ce.seen seenD
  simp
  omega
theorem GRows.up {g : Int} {i m : Nat} {R : List Ro} (h : GRows g i m R) (k : ByteArray) (g' : Int) : (Pa.mk k g' R).Up :=
  ⟨h.rise, fun r hr => by obtain ⟨j, a, _, rfl⟩ := h.all r hr; exact liveR_up _ _⟩
theorem GRows.nil (g : Int) : GRows g 0 0 [] := ⟨trivial, fun r hr => (by cases hr), rfl, fun _ _ => rfl⟩
theorem GRows.snoc {g a : Int} {i m : Nat} {R : List Ro} (h : GRows g i m R) (hi : i < 1000) (hg : 0 ≤ g) (ha : 1 ≤ a) :
    mrgR R [liveR (keyN i) a] = R ++ [liveR (keyN i) a] ∧ GRows g (i + 1) (if g < a then m + 1 else m) (R ++ [liveR (keyN i) a]) := by
  have hlow : ∀ x ∈ R, nlt x.key (liveR (keyN i) a).key := fun x hx => by
    obtain ⟨j, b, hj, rfl⟩ := h.all x hx
    exact keyN_lt hj hi
  refine ⟨putR_end hlow, riseK_snoc h.rise hlow, fun r hr => ?_, by simp [h.len], fun t st => ?_⟩
  · rcases List.mem_append.1 hr with h1 | h1
    · obtain ⟨j, b, hj, e⟩ := h.all r h1
      exact ⟨j, b, by omega, e⟩
    · exact ⟨i, a, by omega, List.mem_singleton.1 h1⟩
  · rw [seenR_snoc, live_is hg ha]
    by_cases h1 : g < a
    · rw [if_pos (decide_eq_true h1), if_pos h1, List.length_append, h.cnt]
      rfl
    · rw [if_neg (by rw [decide_eq_false h1]; decide), if_neg h1, h.cnt]
theorem GRows.tot {g : Int} {i m : Nat} {M : List RA} (h : GRows g i m (ros M)) : tot M = 0 := by
  have : ∀ x ∈ M, x.ro.cols.length = 0 := fun x hx => by
    obtain ⟨j, a, _, e⟩ := h.all x.ro (List.mem_map.2 ⟨x, hx, rfl⟩)
    rw [e]
    rfl
  unfold Go.Proofs.Ytafbbojfifcncaa.tot
  clear h
  induction M with
  | nil => rfl
  | cons y M ih =>
    rw [List.map_cons, List.sum_cons, this y (List.mem_cons_self ..), ih fun x hx => this x (List.mem_cons_of_mem _ hx)]
theorem stampC_ge (l : Cols) : ∀ m : Int, m ≤ stampC m l := by
  induction l with
  | nil => exact fun m => Int.le_refl _
  | cons x l ih => exact fun m => Int.le_trans (Int.le_max_left _ _) (ih (max m x.2.a))
theorem stampR_ge (l : List Ro) : ∀ m : Int, m ≤ stampR m l := by
  induction l with
  | nil => exact fun m => Int.le_refl _
  | cons x l ih => exact fun m => Int.le_trans (Int.le_trans (by omega) (stampC_ge x.cols (max (max (max m x.live.a) x.gone) x.shade))) (ih _)
end Go.Proofs.Ytafbbojfifcncaa
set_option linter.unusedVariables false
set_option linter.unusedSimpArgs false
namespace Go.Proofs.Ytafbbojfifcncaa
open Go Go.RowKit

theorem one_live (w : World) (k : ByteArray) (a : Int) : Lies (w.alloc (.cells #[.string k, .string ⟨#[]⟩, .bool false, .int .i64 a, .int .i64 0, .int .i64 0, .int .i64 0, .slice none 0 0] 36)) (w.heap.size + 1) (some ⟨w.heap.size, 0, none⟩) 1 1 [liveA k a] :=
  ⟨RdR.laid w (liveA k a), fun x hx => by rw [List.mem_singleton.1 hx]; exact liveA_in _ _ _ _, Nat.le_refl _⟩
theorem one_up (k kk : ByteArray) (a : Int) : (Pa.mk kk 0 (ros [liveA k a])).Up := ⟨⟨fun y hy => (by cases hy), trivial⟩, fun x hx => by rw [List.mem_singleton.1 hx]; exact liveR_up _ _⟩
theorem below_kept {w0 w w' : World} {F : Nat → Prop} (h : Below w0.heap.size w0 w) (hk : Kept F w w') (hF : ∀ k, F k → w0.heap.size ≤ k) : Below w0.heap.size w0 w' :=
  h.trans ⟨hk.os, hk.tape, hk.output, hk.size, fun k hk' => hk.block k (Nat.lt_of_lt_of_le hk' h.size) fun hf => by have := hF k hf; omega⟩
theorem kept_set3h {w : World} {q : Nat} {o : Obj} (h : w.heap[q]? = some o) (u0 u1 u2 : Value) : Kept (fun k => k = q) w (((w.setCell ⟨q, 0, none⟩ u0).setCell ⟨q, 1, none⟩ u1).setCell ⟨q, 2, none⟩ u2) := kept_set3 q u0 u1 u2
set_option maxRecDepth 8000 in
set_option maxHeartbeats 16000000 in
theorem gones_law (gone : Int) (Aa : Option Addr) (na ca : Nat) (la : List Int) (now : Int) (w : World) (hg : (Lit.int .i64 gone).wf = true) (hr : RdZ w w.heap.size Aa na la) (hnc : na ≤ ca) (hc : ca ≤ maxLen) (hx : ∀ x ∈ la, (Lit.int .i64 x).wf = true) (hb : (Lit.int .i64 now).wf = true) :
    Calls Try.prog 7 #[.int .i64 gone, .slice Aa na ca, .int .i64 now] w fun e w' => e = .returned (.bool true) ∧ Below w.heap.size w w' := by
  have hl := hr.1
  have HG := Lib.hid hg; have HR := Lib.hid hr; have HC := Lib.hid (Nat.le_trans hnc hc); have HX := Lib.hid hx; have HNW := Lib.hid hb; have HLA := Lib.hid hl
  clear hg hr hx hb hl
  go_enter Try.func7, Try.ntmps7
  go_wp2_with fail
  refine (place_any gone 10 _ (by decide) (by decide) (bounds_i64 HG.out)).mono ?_
  rintro e w' ⟨rfl, rfl⟩
  obtain ⟨g, hg⟩ : ∃ g, gone % 10 = g := ⟨_, rfl⟩
  have g0 : 0 ≤ g := by omega
  have g1 : g < 10 := by omega
  rw [hg]
  clear hg
  have hz := heap_alloc_new w (.cells #[.string ⟨#[107]⟩, .int .i64 g, .slice none 0 0] 24)
  have bz := (Below.refl w.heap.size w).alloc (Nat.le_refl _) (.cells #[.string ⟨#[107]⟩, .int .i64 g, .slice none 0 0] 24)
  obtain ⟨V, hV⟩ : ∃ V, V = w.alloc (.cells #[.string ⟨#[107]⟩, .int .i64 g, .slice none 0 0] 24) := ⟨_, rfl⟩
  rw [← hV] at hz bz
  have HZ := Lib.hid hz; have BZ := Lib.hid bz
  have HMX := Lib.hid (show max g 0 = g by omega)
  clear hz bz
  go_wp2_with fail
  rw [← hV]
  clear hV
  go_wp2_with fail
  go_loopw [9, 10] (fun nv iv wr => ∃ (t m : Nat) (R : List Ro) (M : List RA) (A : Option Addr) (n c : Nat), t ≤ na ∧ t ≤ 20 ∧ iv = .int .i64 t ∧ nv = .int .i64 m ∧ m ≤ t ∧ GRows g t m R ∧ ros M = R ∧ wr.heap[w.heap.size]? = some (.cells #[.string ⟨#[107]⟩, .int .i64 g, .slice A n c] 24 (0, 0)) ∧ Fresh w wr (.slice A n c) M) (fun _ iv _ => na - (intOf iv).toNat)
  case atStart => exact ⟨0, 0, [], [], none, 0, 0, Nat.zero_le _, by omega, rfl, rfl, Nat.le_refl _, GRows.nil g, rfl, HZ.out, ⟨own_nilR _ _, BZ.out⟩, fun x hx => by cases hx⟩
  case round =>
    obtain ⟨t, m, R, M, A, n, c, ht, ht20, rfl, rfl, hmt, hgr, hm, hp, hfr⟩ := hrel
    have HGR := Lib.hid hgr; have HM := Lib.hid hm; have HP := Lib.hid hp; have HFR := Lib.hid hfr; have HMT := Lib.hid hmt
    have HLT := Lib.hid (Array.getElem?_eq_some_iff.1 hp).1
    obtain ⟨_, _, _⟩ := PtAt.of hp
    clear hgr hm hp hfr hmt
    by_cases hlt : t < na ∧ t < 20
    · obtain ⟨h1, h2⟩ := hlt
      have i0 : (0 : Int) ≤ t := by omega
      have i1 : (t : Int) < na := by omega
      have i2 : (t : Int) < 20 := by omega
      have d1 : decide ((t : Int) < (na : Int)) = true := decide_eq_true i1
      have d2 : decide ((t : Int) < 20) = true := decide_eq_true i2
      have e1 : decide (t < na) = true := decide_eq_true h1
      have e2 : decide (t < 20) = true := decide_eq_true h2
      obtain ⟨ga, oa, rfl, hga, hca⟩ := (HR.out.below HFR.out.below).2 (by omega)
      have htl : t < la.length := by rw [HLA.out]; exact h1
      have hcell := hca t htl
      obtain ⟨v, hv⟩ : ∃ v, la[t] = v := ⟨_, rfl⟩
      have hvx := HX.out la[t] (List.getElem_mem htl)
      rw [hv] at hcell hvx
      have HVX := Lib.hid hvx
      clear hca hv hvx
      go_wp2_with fail
      refine (place_any v 10 _ (by decide) (by decide) (bounds_i64 HVX.out)).mono ?_
      rintro e w' ⟨rfl, rfl⟩
      obtain ⟨b, hb⟩ : ∃ b, v % 10 = b := ⟨_, rfl⟩
      have b0 : 0 ≤ b := by omega
      have b1 : b < 10 := by omega
      rw [hb]
      clear hb hcell
      obtain ⟨a, ha⟩ : ∃ a, 1 + b = a := ⟨_, rfl⟩
      have a1 : 1 ≤ a := by omega
      have HT := Lib.hid (show t < 1000 by omega)
      obtain ⟨hmg, hsn⟩ := HGR.out.snoc HT.out g0 a1
      have hnm : n = t := by rw [HFR.out.lies.1, ← List.length_map (f := RA.ro), show List.map RA.ro M = R from HM.out, HGR.out.len]
      have HUP := Lib.hid (show (Pa.mk ⟨#[107]⟩ g (ros M)).Up by rw [HM.out]; exact HGR.out.up _ _)
      have HTT := Lib.hid (show tot M + tot [liveA (keyN t) a] ≤ 1000 by rw [GRows.tot (HM.out.symm ▸ HGR.out : GRows g t m (ros M))]; show 0 + 0 ≤ 1000; omega)
      have HSN := Lib.hid (show mrgR (ros M) (ros [liveA (keyN t) a]) = R ++ [liveR (keyN t) a] by rw [HM.out]; exact hmg)
      have HSNO := Lib.hid hsn
      have HLEN := Lib.hid (show (R ++ [liveR (keyN t) a]).length ≤ 100 by rw [List.length_append, HGR.out.len]; simp; omega)
      have HNM := Lib.hid (show n ≤ 20 by omega)
      have HBW := Lib.hid HFR.out.below
      clear hmg hsn hnm
      go_upto_region 8 with fail
      try rw [ha]
      clear ha
      go_cut [12, 13] from 19 to 54 (fun s12 s13 wx => ∃ q M2 A2 n2 c2, s12 = .pointer (some ⟨q, 0, none⟩) ∧ s13 = .bool true ∧ wx.heap[q]? = some (.cells #[.string ⟨#[107]⟩, .int .i64 g, .slice A2 n2 c2] 24 (0, 0)) ∧ ros M2 = R ++ [liveR (keyN t) a] ∧ Fresh w wx (.slice A2 n2 c2) M2 ∧ wr.heap.size ≤ q ∧ Below wr.heap.size wr wx)
      case first =>
        go_wp2_with fail
        refine wp_region_held_drew (S := fun w' => Below wr.heap.size wr w') (by kernel_rfl) ?_ (fun hHeld => ?_)
        · exact (Below.refl _ _).drew
        refine wpAnyH_take (i := 0) (v := ?_) rfl (by kernel_rfl) (by kernel_rfl) (by kernel_rfl) (fun _ _ _ h => h) (Or.inl ⟨by rfl, ?_⟩) (by assumption) ?_
        rotate_left
        · (intro wx hSw; (try dsimp only at hSw); obtain ⟨_, _, _⟩ := PtAt.of ((hSw.block w.heap.size HLT.out).trans HP.out); go_simp; try with_reducible rfl)
        try simp only [Act.put, List.getElem_toArray, List.getElem_cons_succ, List.getElem_cons_zero, List.setIfInBounds_toArray, List.set_cons_zero, List.set_cons_succ]
        refine wpAnyH_take (i := 1) (v := ?_) rfl (by kernel_rfl) (by kernel_rfl) (by kernel_rfl) (fun _ _ _ h => h) (Or.inl ⟨by rfl, ?_⟩) (by assumption) ?_
        rotate_left
        · (intro wx hSw; (try dsimp only at hSw); go_simp; try with_reducible rfl)
        try simp only [Act.put, List.getElem_toArray, List.getElem_cons_succ, List.getElem_cons_zero, List.setIfInBounds_toArray, List.set_cons_zero, List.set_cons_succ]
        refine wpAnyH_take (i := 3) (v := ?_) rfl (by kernel_rfl) (by kernel_rfl) (by kernel_rfl) (fun _ _ _ h => h) (Or.inl ⟨by rfl, ?_⟩) (by assumption) ?_
        rotate_left
        · (intro wx hSw; (try dsimp only at hSw); go_simp; try with_reducible rfl)
        try simp only [Act.put, List.getElem_toArray, List.getElem_cons_succ, List.getElem_cons_zero, List.setIfInBounds_toArray, List.set_cons_zero, List.set_cons_succ]
        refine wpAnyH_take (i := 4) (v := ?_) rfl (by kernel_rfl) (by kernel_rfl) (by kernel_rfl) (fun _ _ _ h => h) (Or.inl ⟨by rfl, ?_⟩) (by assumption) ?_
        rotate_left
        · (intro wx hSw; (try dsimp only at hSw); go_simp; try with_reducible rfl)
        try simp only [Act.put, List.getElem_toArray, List.getElem_cons_succ, List.getElem_cons_zero, List.setIfInBounds_toArray, List.set_cons_zero, List.set_cons_succ]
        refine wpAnyH_ready (rs := [2, 12]) (by kernel_rfl) (by simp) (AllReadyH.cons rfl (fun K hK => ?_) (AllReadyH.cons rfl (fun K hK => ?_) AllReadyH.nil))
        · go_simp
          refine (key_any t _ rfl HT.out _).mono ?_
          rintro e v2 ⟨rfl, b2⟩
          rw [show kb (t / 100 % 10) (t / 10 % 10) (t % 10) = keyN t from rfl]
          have CB := Lib.hid (hHeld.trans (b2.mono hHeld.size))
          clear b2
          try go_wp2_with fail
          refine hK.out _ _ ?_ (fun hHeld => ?_)
          · exact CB.out
          clear hK K
          try simp only [Act.put, List.getElem_toArray, List.getElem_cons_succ, List.getElem_cons_zero, List.setIfInBounds_toArray, List.set_cons_zero, List.set_cons_succ]
          refine wpAnyH_take (i := 5) (v := ?_) rfl (by kernel_rfl) (by kernel_rfl) (by kernel_rfl) (fun _ _ _ h => h) (Or.inl ⟨by rfl, ?_⟩) (by assumption) ?_
          rotate_left
          · (intro wx hSw; (try dsimp only at hSw); go_simp; try with_reducible rfl)
          try simp only [Act.put, List.getElem_toArray, List.getElem_cons_succ, List.getElem_cons_zero, List.setIfInBounds_toArray, List.set_cons_zero, List.set_cons_succ]
          refine wpAnyH_ready (rs := [6, 12]) (by kernel_rfl) (by simp) (AllReadyH.cons rfl (fun K hK => ?_) (AllReadyH.cons rfl (fun K hK => ?_) AllReadyH.nil))
          · go_simp
            have RD := Lib.hid (one_live (v2) (keyN t) a)
            have CB6 : Below wr.heap.size wr ((v2).alloc (.cells #[.string (keyN t), .string ⟨#[]⟩, .bool false, .int .i64 a, .int .i64 0, .int .i64 0, .int .i64 0, .slice none 0 0] 36)) := hHeld.alloc hHeld.size _
            obtain ⟨g6, hg6, hs6⟩ : ∃ g, g = (v2).heap.size ∧ g + 1 ≤ ((v2).alloc (.cells #[.string (keyN t), .string ⟨#[]⟩, .bool false, .int .i64 a, .int .i64 0, .int .i64 0, .int .i64 0, .slice none 0 0] 36)).heap.size := ⟨_, rfl, by simp⟩
            have HS6 := Lib.hid hs6
            rw [← hg6] at RD ⊢
            clear hg6 hs6
            generalize (v2).alloc (.cells #[.string (keyN t), .string ⟨#[]⟩, .bool false, .int .i64 a, .int .i64 0, .int .i64 0, .int .i64 0, .slice none 0 0] 36) = w6 at *
            refine hK.out _ _ ?_ (fun hHeld => ?_)
            · exact CB6
            clear hK K
            try simp only [Act.put, List.getElem_toArray, List.getElem_cons_succ, List.getElem_cons_zero, List.setIfInBounds_toArray, List.set_cons_zero, List.set_cons_succ]
            refine wpAnyH_take (i := 7) (v := ?_) rfl (by kernel_rfl) (by kernel_rfl) (by kernel_rfl) (fun _ _ _ h => h) (Or.inl ⟨by rfl, ?_⟩) (by assumption) ?_
            rotate_left
            · (intro wx hSw; (try dsimp only at hSw); go_simp; try with_reducible rfl)
            try simp only [Act.put, List.getElem_toArray, List.getElem_cons_succ, List.getElem_cons_zero, List.setIfInBounds_toArray, List.set_cons_zero, List.set_cons_succ]
            refine wpAnyH_ready (rs := [8, 12]) (by kernel_rfl) (by simp) (AllReadyH.cons rfl (fun K hK => ?_) (AllReadyH.cons rfl (fun K hK => ?_) AllReadyH.nil))
            · go_simp
              refine (pjoin_fits _ _ g 0 A _ n 1 c 1 wr.heap.size (g6 + 1) M [liveA (keyN t) a] _ (HFR.out.lies.2.1.below hHeld) RD.out hHeld.size HS6.out (by have := HNM.out; omega) HUP.out (one_up _ _ _) HTT.out (R ++ [liveR (keyN t) a]) HSN.out HLEN.out).mono ?_
              rintro e w8 ⟨M2, A2, n2, c2, rfl, hM2, hfr⟩
              rw [HMX.out]
              have CB := Lib.hid (hHeld.trans (hfr.below.mono hHeld.size))
              have HM2 := Lib.hid hM2
              have HF8 := Lib.hid (hfr.lower (HBW.out.trans (hHeld.mono HBW.out.size)))
              clear hfr hM2
              try go_wp2_with fail
              refine hK.out _ _ ?_ (fun hHeld => ?_)
              · exact CB.out
              clear hK K
              try simp only [Act.put, List.getElem_toArray, List.getElem_cons_succ, List.getElem_cons_zero, List.setIfInBounds_toArray, List.set_cons_zero, List.set_cons_succ]
              refine wpAnyH_take (i := 9) (v := ?_) rfl (by kernel_rfl) (by kernel_rfl) (by kernel_rfl) (fun _ _ _ h => h) (Or.inl ⟨by rfl, ?_⟩) (by assumption) ?_
              rotate_left
              · (intro wx hSw; (try dsimp only at hSw); go_simp; try with_reducible rfl)
              try simp only [Act.put, List.getElem_toArray, List.getElem_cons_succ, List.getElem_cons_zero, List.setIfInBounds_toArray, List.set_cons_zero, List.set_cons_succ]
              refine wpAnyH_take (i := 10) (v := ?_) rfl (by kernel_rfl) (by kernel_rfl) (by kernel_rfl) (fun _ _ _ h => h) (Or.inl ⟨by rfl, ?_⟩) (by assumption) ?_
              rotate_left
              · (intro wx hSw; (try dsimp only at hSw); go_simp; try with_reducible rfl)
              try simp only [Act.put, List.getElem_toArray, List.getElem_cons_succ, List.getElem_cons_zero, List.setIfInBounds_toArray, List.set_cons_zero, List.set_cons_succ]
              refine wpAnyH_take (i := 11) (v := ?_) rfl (by kernel_rfl) (by kernel_rfl) (by kernel_rfl) (fun _ _ _ h => h) (Or.inl ⟨by rfl, ?_⟩) (by assumption) ?_
              rotate_left
              · (intro wx hSw; (try dsimp only at hSw); go_simp; try with_reducible rfl)
              try simp only [Act.put, List.getElem_toArray, List.getElem_cons_succ, List.getElem_cons_zero, List.setIfInBounds_toArray, List.set_cons_zero, List.set_cons_succ]
              refine wpAnyH_ready (rs := [12]) (by kernel_rfl) (by simp) (AllReadyH.cons rfl (fun K hK => ?_) AllReadyH.nil)
              go_simp
              have XZ := Lib.hid (heap_alloc_new (w8) (.cells #[.string ⟨#[]⟩, .int .i64 0, .slice none 0 0] 24))
              have CBX : Below wr.heap.size wr ((w8).alloc (.cells #[.string ⟨#[]⟩, .int .i64 0, .slice none 0 0] 24)) := hHeld.alloc hHeld.size _
              have HXQ : Hid (w.heap.size < (w8).heap.size ∧ wr.heap.size ≤ (w8).heap.size) := Lib.hid ⟨Nat.lt_of_lt_of_le HLT.out hHeld.size, hHeld.size⟩
              have HF8 := Lib.hid (HF8.out.on ((Below.refl (w8).heap.size (w8)).alloc (Nat.le_refl _) (.cells #[.string ⟨#[]⟩, .int .i64 0, .slice none 0 0] 24)))
              generalize (w8).alloc (.cells #[.string ⟨#[]⟩, .int .i64 0, .slice none 0 0] 24) = wx at *
              refine hK.out _ _ ?_ (fun hHeld => ?_)
              · exact CBX
              clear hK K
              try simp only [Act.put, List.getElem_toArray, List.getElem_cons_succ, List.getElem_cons_zero, List.setIfInBounds_toArray, List.set_cons_zero, List.set_cons_succ]
              refine wpAnyH_ready (rs := [13]) (by kernel_rfl) (by simp) (AllReadyH.cons rfl (fun K hK => ?_) AllReadyH.nil)
              have z0 := cell_at (i := 0) XZ.out rfl
              have z1 := cell_at (i := 1) XZ.out rfl
              have z2 := cell_at (i := 2) XZ.out rfl
              have y0 := thawed_at (i := 0) XZ.out
              have y1 := thawed_at (i := 1) XZ.out
              have y2 := thawed_at (i := 2) XZ.out
              have M9 := Lib.hid (set3_block XZ.out (.string ⟨#[107]⟩) (.int .i64 g) (.slice A2 n2 c2))
              have K9 := kept_set3h XZ.out (.string ⟨#[107]⟩) (.int .i64 g) (.slice A2 n2 c2)
              have HF9 := Lib.hid (HF8.out.kept K9 (e := 24) (fun j hj => by subst hj; exact ⟨Nat.le_of_lt HXQ.out.1, _, XZ.out⟩) (by decide) (by decide))
              have CB9 := Lib.hid (below_kept hHeld K9 fun j hj => by subst hj; exact HXQ.out.2)
              clear K9
              go_simp
              refine hK.out _ _ ?_ (fun hHeld => ?_)
              · exact CB9.out
              clear hK K
              try simp only [Act.put, List.getElem_toArray, List.getElem_cons_succ, List.getElem_cons_zero, List.setIfInBounds_toArray, List.set_cons_zero, List.set_cons_succ]
              refine wpAnyH_take (i := 14) (v := ?_) rfl (by kernel_rfl) (by kernel_rfl) (by kernel_rfl) (fun _ _ _ h => h) (Or.inl ⟨by rfl, ?_⟩) (by assumption) ?_
              rotate_left
              · (intro wx hSw; (try dsimp only at hSw); go_simp; try with_reducible rfl)
              try simp only [Act.put, List.getElem_toArray, List.getElem_cons_succ, List.getElem_cons_zero, List.setIfInBounds_toArray, List.set_cons_zero, List.set_cons_succ]
              refine wpAnyH_done (by kernel_rfl) ?_ _
              go_wp2_with fail
              go_meet
              exact ⟨_, M2, A2, n2, c2, rfl, rfl, M9.out, HM2.out, HF9.out, HXQ.out.2, hHeld⟩
            · go_simp
              have XZ := Lib.hid (heap_alloc_new (w6) (.cells #[.string ⟨#[]⟩, .int .i64 0, .slice none 0 0] 24))
              have CBX : Below wr.heap.size wr ((w6).alloc (.cells #[.string ⟨#[]⟩, .int .i64 0, .slice none 0 0] 24)) := hHeld.alloc hHeld.size _
              have HXQ : Hid (w.heap.size < (w6).heap.size ∧ wr.heap.size ≤ (w6).heap.size) := Lib.hid ⟨Nat.lt_of_lt_of_le HLT.out hHeld.size, hHeld.size⟩
              have RD := Lib.hid (RD.out.below ((Below.refl (g6 + 1) (w6)).alloc HS6.out (.cells #[.string ⟨#[]⟩, .int .i64 0, .slice none 0 0] 24)))
              have HS6 : Hid (g6 + 1 ≤ ((w6).alloc (.cells #[.string ⟨#[]⟩, .int .i64 0, .slice none 0 0] 24)).heap.size) := Lib.hid (Nat.le_trans HS6.out (by simp))
              generalize (w6).alloc (.cells #[.string ⟨#[]⟩, .int .i64 0, .slice none 0 0] 24) = wx at *
              refine hK.out _ _ ?_ (fun hHeld => ?_)
              · exact CBX
              clear hK K
              try simp only [Act.put, List.getElem_toArray, List.getElem_cons_succ, List.getElem_cons_zero, List.setIfInBounds_toArray, List.set_cons_zero, List.set_cons_succ]
              refine wpAnyH_ready (rs := [8]) (by kernel_rfl) (by simp) (AllReadyH.cons rfl (fun K hK => ?_) AllReadyH.nil)
              go_simp
              refine (pjoin_fits _ _ g 0 A _ n 1 c 1 wr.heap.size (g6 + 1) M [liveA (keyN t) a] _ (HFR.out.lies.2.1.below hHeld) RD.out hHeld.size HS6.out (by have := HNM.out; omega) HUP.out (one_up _ _ _) HTT.out (R ++ [liveR (keyN t) a]) HSN.out HLEN.out).mono ?_
              rintro e w8 ⟨M2, A2, n2, c2, rfl, hM2, hfr⟩
              rw [HMX.out]
              have CB := Lib.hid (hHeld.trans (hfr.below.mono hHeld.size))
              have HM2 := Lib.hid hM2
              have XZ := Lib.hid ((hfr.below.block _ (Array.getElem?_eq_some_iff.1 XZ.out).1).trans XZ.out)
              have HF8 := Lib.hid (hfr.lower (HBW.out.trans (hHeld.mono HBW.out.size)))
              clear hfr hM2
              try go_wp2_with fail
              refine hK.out _ _ ?_ (fun hHeld => ?_)
              · exact CB.out
              clear hK K
              try simp only [Act.put, List.getElem_toArray, List.getElem_cons_succ, List.getElem_cons_zero, List.setIfInBounds_toArray, List.set_cons_zero, List.set_cons_succ]
              refine wpAnyH_take (i := 9) (v := ?_) rfl (by kernel_rfl) (by kernel_rfl) (by kernel_rfl) (fun _ _ _ h => h) (Or.inl ⟨by rfl, ?_⟩) (by assumption) ?_
              rotate_left
              · (intro wx hSw; (try dsimp only at hSw); go_simp; try with_reducible rfl)
              try simp only [Act.put, List.getElem_toArray, List.getElem_cons_succ, List.getElem_cons_zero, List.setIfInBounds_toArray, List.set_cons_zero, List.set_cons_succ]
              refine wpAnyH_take (i := 10) (v := ?_) rfl (by kernel_rfl) (by kernel_rfl) (by kernel_rfl) (fun _ _ _ h => h) (Or.inl ⟨by rfl, ?_⟩) (by assumption) ?_
              rotate_left
              · (intro wx hSw; (try dsimp only at hSw); go_simp; try with_reducible rfl)
              try simp only [Act.put, List.getElem_toArray, List.getElem_cons_succ, List.getElem_cons_zero, List.setIfInBounds_toArray, List.set_cons_zero, List.set_cons_succ]
              refine wpAnyH_take (i := 11) (v := ?_) rfl (by kernel_rfl) (by kernel_rfl) (by kernel_rfl) (fun _ _ _ h => h) (Or.inl ⟨by rfl, ?_⟩) (by assumption) ?_
              rotate_left
              · (intro wx hSw; (try dsimp only at hSw); go_simp; try with_reducible rfl)
              try simp only [Act.put, List.getElem_toArray, List.getElem_cons_succ, List.getElem_cons_zero, List.setIfInBounds_toArray, List.set_cons_zero, List.set_cons_succ]
              refine wpAnyH_ready (rs := [13]) (by kernel_rfl) (by simp) (AllReadyH.cons rfl (fun K hK => ?_) AllReadyH.nil)
              have z0 := cell_at (i := 0) XZ.out rfl
              have z1 := cell_at (i := 1) XZ.out rfl
              have z2 := cell_at (i := 2) XZ.out rfl
              have y0 := thawed_at (i := 0) XZ.out
              have y1 := thawed_at (i := 1) XZ.out
              have y2 := thawed_at (i := 2) XZ.out
              have M9 := Lib.hid (set3_block XZ.out (.string ⟨#[107]⟩) (.int .i64 g) (.slice A2 n2 c2))
              have K9 := kept_set3h XZ.out (.string ⟨#[107]⟩) (.int .i64 g) (.slice A2 n2 c2)
              have HF9 := Lib.hid (HF8.out.kept K9 (e := 24) (fun j hj => by subst hj; exact ⟨Nat.le_of_lt HXQ.out.1, _, XZ.out⟩) (by decide) (by decide))
              have CB9 := Lib.hid (below_kept hHeld K9 fun j hj => by subst hj; exact HXQ.out.2)
              clear K9
              go_simp
              refine hK.out _ _ ?_ (fun hHeld => ?_)
              · exact CB9.out
              clear hK K
              try simp only [Act.put, List.getElem_toArray, List.getElem_cons_succ, List.getElem_cons_zero, List.setIfInBounds_toArray, List.set_cons_zero, List.set_cons_succ]
              refine wpAnyH_take (i := 14) (v := ?_) rfl (by kernel_rfl) (by kernel_rfl) (by kernel_rfl) (fun _ _ _ h => h) (Or.inl ⟨by rfl, ?_⟩) (by assumption) ?_
              rotate_left
              · (intro wx hSw; (try dsimp only at hSw); go_simp; try with_reducible rfl)
              try simp only [Act.put, List.getElem_toArray, List.getElem_cons_succ, List.getElem_cons_zero, List.setIfInBounds_toArray, List.set_cons_zero, List.set_cons_succ]
              refine wpAnyH_done (by kernel_rfl) ?_ _
              go_wp2_with fail
              go_meet
              exact ⟨_, M2, A2, n2, c2, rfl, rfl, M9.out, HM2.out, HF9.out, HXQ.out.2, hHeld⟩
          · go_simp
            have XZ := Lib.hid (heap_alloc_new (v2) (.cells #[.string ⟨#[]⟩, .int .i64 0, .slice none 0 0] 24))
            have CBX : Below wr.heap.size wr ((v2).alloc (.cells #[.string ⟨#[]⟩, .int .i64 0, .slice none 0 0] 24)) := hHeld.alloc hHeld.size _
            have HXQ : Hid (w.heap.size < (v2).heap.size ∧ wr.heap.size ≤ (v2).heap.size) := Lib.hid ⟨Nat.lt_of_lt_of_le HLT.out hHeld.size, hHeld.size⟩
            generalize (v2).alloc (.cells #[.string ⟨#[]⟩, .int .i64 0, .slice none 0 0] 24) = wx at *
            refine hK.out _ _ ?_ (fun hHeld => ?_)
            · exact CBX
            clear hK K
            try simp only [Act.put, List.getElem_toArray, List.getElem_cons_succ, List.getElem_cons_zero, List.setIfInBounds_toArray, List.set_cons_zero, List.set_cons_succ]
            refine wpAnyH_ready (rs := [6]) (by kernel_rfl) (by simp) (AllReadyH.cons rfl (fun K hK => ?_) AllReadyH.nil)
            go_simp
            have RD := Lib.hid (one_live (wx) (keyN t) a)
            have CB6 : Below wr.heap.size wr ((wx).alloc (.cells #[.string (keyN t), .string ⟨#[]⟩, .bool false, .int .i64 a, .int .i64 0, .int .i64 0, .int .i64 0, .slice none 0 0] 36)) := hHeld.alloc hHeld.size _
            obtain ⟨g6, hg6, hs6⟩ : ∃ g, g = (wx).heap.size ∧ g + 1 ≤ ((wx).alloc (.cells #[.string (keyN t), .string ⟨#[]⟩, .bool false, .int .i64 a, .int .i64 0, .int .i64 0, .int .i64 0, .slice none 0 0] 36)).heap.size := ⟨_, rfl, by simp⟩
            have HS6 := Lib.hid hs6
            have XZ := Lib.hid (new_at XZ.out (.cells #[.string (keyN t), .string ⟨#[]⟩, .bool false, .int .i64 a, .int .i64 0, .int .i64 0, .int .i64 0, .slice none 0 0] 36))
            rw [← hg6] at RD ⊢
            clear hg6 hs6
            generalize (wx).alloc (.cells #[.string (keyN t), .string ⟨#[]⟩, .bool false, .int .i64 a, .int .i64 0, .int .i64 0, .int .i64 0, .slice none 0 0] 36) = w6 at *
            refine hK.out _ _ ?_ (fun hHeld => ?_)
            · exact CB6
            clear hK K
            try simp only [Act.put, List.getElem_toArray, List.getElem_cons_succ, List.getElem_cons_zero, List.setIfInBounds_toArray, List.set_cons_zero, List.set_cons_succ]
            refine wpAnyH_take (i := 7) (v := ?_) rfl (by kernel_rfl) (by kernel_rfl) (by kernel_rfl) (fun _ _ _ h => h) (Or.inl ⟨by rfl, ?_⟩) (by assumption) ?_
            rotate_left
            · (intro wx hSw; (try dsimp only at hSw); go_simp; try with_reducible rfl)
            try simp only [Act.put, List.getElem_toArray, List.getElem_cons_succ, List.getElem_cons_zero, List.setIfInBounds_toArray, List.set_cons_zero, List.set_cons_succ]
            refine wpAnyH_ready (rs := [8]) (by kernel_rfl) (by simp) (AllReadyH.cons rfl (fun K hK => ?_) AllReadyH.nil)
            go_simp
            refine (pjoin_fits _ _ g 0 A _ n 1 c 1 wr.heap.size (g6 + 1) M [liveA (keyN t) a] _ (HFR.out.lies.2.1.below hHeld) RD.out hHeld.size HS6.out (by have := HNM.out; omega) HUP.out (one_up _ _ _) HTT.out (R ++ [liveR (keyN t) a]) HSN.out HLEN.out).mono ?_
            rintro e w8 ⟨M2, A2, n2, c2, rfl, hM2, hfr⟩
            rw [HMX.out]
            have CB := Lib.hid (hHeld.trans (hfr.below.mono hHeld.size))
            have HM2 := Lib.hid hM2
            have XZ := Lib.hid ((hfr.below.block _ (Array.getElem?_eq_some_iff.1 XZ.out).1).trans XZ.out)
            have HF8 := Lib.hid (hfr.lower (HBW.out.trans (hHeld.mono HBW.out.size)))
            clear hfr hM2
            try go_wp2_with fail
            refine hK.out _ _ ?_ (fun hHeld => ?_)
            · exact CB.out
            clear hK K
            try simp only [Act.put, List.getElem_toArray, List.getElem_cons_succ, List.getElem_cons_zero, List.setIfInBounds_toArray, List.set_cons_zero, List.set_cons_succ]
            refine wpAnyH_take (i := 9) (v := ?_) rfl (by kernel_rfl) (by kernel_rfl) (by kernel_rfl) (fun _ _ _ h => h) (Or.inl ⟨by rfl, ?_⟩) (by assumption) ?_
            rotate_left
            · (intro wx hSw; (try dsimp only at hSw); go_simp; try with_reducible rfl)
            try simp only [Act.put, List.getElem_toArray, List.getElem_cons_succ, List.getElem_cons_zero, List.setIfInBounds_toArray, List.set_cons_zero, List.set_cons_succ]
            refine wpAnyH_take (i := 10) (v := ?_) rfl (by kernel_rfl) (by kernel_rfl) (by kernel_rfl) (fun _ _ _ h => h) (Or.inl ⟨by rfl, ?_⟩) (by assumption) ?_
            rotate_left
            · (intro wx hSw; (try dsimp only at hSw); go_simp; try with_reducible rfl)
            try simp only [Act.put, List.getElem_toArray, List.getElem_cons_succ, List.getElem_cons_zero, List.setIfInBounds_toArray, List.set_cons_zero, List.set_cons_succ]
            refine wpAnyH_take (i := 11) (v := ?_) rfl (by kernel_rfl) (by kernel_rfl) (by kernel_rfl) (fun _ _ _ h => h) (Or.inl ⟨by rfl, ?_⟩) (by assumption) ?_
            rotate_left
            · (intro wx hSw; (try dsimp only at hSw); go_simp; try with_reducible rfl)
            try simp only [Act.put, List.getElem_toArray, List.getElem_cons_succ, List.getElem_cons_zero, List.setIfInBounds_toArray, List.set_cons_zero, List.set_cons_succ]
            refine wpAnyH_ready (rs := [13]) (by kernel_rfl) (by simp) (AllReadyH.cons rfl (fun K hK => ?_) AllReadyH.nil)
            have z0 := cell_at (i := 0) XZ.out rfl
            have z1 := cell_at (i := 1) XZ.out rfl
            have z2 := cell_at (i := 2) XZ.out rfl
            have y0 := thawed_at (i := 0) XZ.out
            have y1 := thawed_at (i := 1) XZ.out
            have y2 := thawed_at (i := 2) XZ.out
            have M9 := Lib.hid (set3_block XZ.out (.string ⟨#[107]⟩) (.int .i64 g) (.slice A2 n2 c2))
            have K9 := kept_set3h XZ.out (.string ⟨#[107]⟩) (.int .i64 g) (.slice A2 n2 c2)
            have HF9 := Lib.hid (HF8.out.kept K9 (e := 24) (fun j hj => by subst hj; exact ⟨Nat.le_of_lt HXQ.out.1, _, XZ.out⟩) (by decide) (by decide))
            have CB9 := Lib.hid (below_kept hHeld K9 fun j hj => by subst hj; exact HXQ.out.2)
            clear K9
            go_simp
            refine hK.out _ _ ?_ (fun hHeld => ?_)
            · exact CB9.out
            clear hK K
            try simp only [Act.put, List.getElem_toArray, List.getElem_cons_succ, List.getElem_cons_zero, List.setIfInBounds_toArray, List.set_cons_zero, List.set_cons_succ]
            refine wpAnyH_take (i := 14) (v := ?_) rfl (by kernel_rfl) (by kernel_rfl) (by kernel_rfl) (fun _ _ _ h => h) (Or.inl ⟨by rfl, ?_⟩) (by assumption) ?_
            rotate_left
            · (intro wx hSw; (try dsimp only at hSw); go_simp; try with_reducible rfl)
            try simp only [Act.put, List.getElem_toArray, List.getElem_cons_succ, List.getElem_cons_zero, List.setIfInBounds_toArray, List.set_cons_zero, List.set_cons_succ]
            refine wpAnyH_done (by kernel_rfl) ?_ _
            go_wp2_with fail
            go_meet
            exact ⟨_, M2, A2, n2, c2, rfl, rfl, M9.out, HM2.out, HF9.out, HXQ.out.2, hHeld⟩
        · go_simp
          have XZ : Hid (((wr.alloc (.cells #[.string ⟨#[]⟩, .int .i64 0, .slice none 0 0] 24)).drew).heap[wr.heap.size]? = some (.cells #[.string ⟨#[]⟩, .int .i64 0, .slice none 0 0] 24)) := Lib.hid (heap_alloc_new wr _)
          have CBX : Below wr.heap.size wr ((wr.alloc (.cells #[.string ⟨#[]⟩, .int .i64 0, .slice none 0 0] 24)).drew) := ((Below.refl wr.heap.size wr).alloc (Nat.le_refl _) _).drew
          have HXQ : Hid (w.heap.size < wr.heap.size ∧ wr.heap.size ≤ wr.heap.size) := Lib.hid ⟨HLT.out, Nat.le_refl _⟩
          generalize (wr.alloc (.cells #[.string ⟨#[]⟩, .int .i64 0, .slice none 0 0] 24)).drew = wx at *
          refine hK.out _ _ ?_ (fun hHeld => ?_)
          · exact CBX
          clear hK K
          try simp only [Act.put, List.getElem_toArray, List.getElem_cons_succ, List.getElem_cons_zero, List.setIfInBounds_toArray, List.set_cons_zero, List.set_cons_succ]
          refine wpAnyH_ready (rs := [2]) (by kernel_rfl) (by simp) (AllReadyH.cons rfl (fun K hK => ?_) AllReadyH.nil)
          go_simp
          refine (key_any t _ rfl HT.out _).mono ?_
          rintro e v2 ⟨rfl, b2⟩
          rw [show kb (t / 100 % 10) (t / 10 % 10) (t % 10) = keyN t from rfl]
          have CB := Lib.hid (hHeld.trans (b2.mono hHeld.size))
          have XZ := Lib.hid ((b2.block _ (Array.getElem?_eq_some_iff.1 XZ.out).1).trans XZ.out)
          clear b2
          try go_wp2_with fail
          refine hK.out _ _ ?_ (fun hHeld => ?_)
          · exact CB.out
          clear hK K
          try simp only [Act.put, List.getElem_toArray, List.getElem_cons_succ, List.getElem_cons_zero, List.setIfInBounds_toArray, List.set_cons_zero, List.set_cons_succ]
          refine wpAnyH_take (i := 5) (v := ?_) rfl (by kernel_rfl) (by kernel_rfl) (by kernel_rfl) (fun _ _ _ h => h) (Or.inl ⟨by rfl, ?_⟩) (by assumption) ?_
          rotate_left
          · (intro wx hSw; (try dsimp only at hSw); go_simp; try with_reducible rfl)
          try simp only [Act.put, List.getElem_toArray, List.getElem_cons_succ, List.getElem_cons_zero, List.setIfInBounds_toArray, List.set_cons_zero, List.set_cons_succ]
          refine wpAnyH_ready (rs := [6]) (by kernel_rfl) (by simp) (AllReadyH.cons rfl (fun K hK => ?_) AllReadyH.nil)
          go_simp
          have RD := Lib.hid (one_live (v2) (keyN t) a)
          have CB6 : Below wr.heap.size wr ((v2).alloc (.cells #[.string (keyN t), .string ⟨#[]⟩, .bool false, .int .i64 a, .int .i64 0, .int .i64 0, .int .i64 0, .slice none 0 0] 36)) := hHeld.alloc hHeld.size _
          obtain ⟨g6, hg6, hs6⟩ : ∃ g, g = (v2).heap.size ∧ g + 1 ≤ ((v2).alloc (.cells #[.string (keyN t), .string ⟨#[]⟩, .bool false, .int .i64 a, .int .i64 0, .int .i64 0, .int .i64 0, .slice none 0 0] 36)).heap.size := ⟨_, rfl, by simp⟩
          have HS6 := Lib.hid hs6
          have XZ := Lib.hid (new_at XZ.out (.cells #[.string (keyN t), .string ⟨#[]⟩, .bool false, .int .i64 a, .int .i64 0, .int .i64 0, .int .i64 0, .slice none 0 0] 36))
          rw [← hg6] at RD ⊢
          clear hg6 hs6
          generalize (v2).alloc (.cells #[.string (keyN t), .string ⟨#[]⟩, .bool false, .int .i64 a, .int .i64 0, .int .i64 0, .int .i64 0, .slice none 0 0] 36) = w6 at *
          refine hK.out _ _ ?_ (fun hHeld => ?_)
          · exact CB6
          clear hK K
          try simp only [Act.put, List.getElem_toArray, List.getElem_cons_succ, List.getElem_cons_zero, List.setIfInBounds_toArray, List.set_cons_zero, List.set_cons_succ]
          refine wpAnyH_take (i := 7) (v := ?_) rfl (by kernel_rfl) (by kernel_rfl) (by kernel_rfl) (fun _ _ _ h => h) (Or.inl ⟨by rfl, ?_⟩) (by assumption) ?_
          rotate_left
          · (intro wx hSw; (try dsimp only at hSw); go_simp; try with_reducible rfl)
          try simp only [Act.put, List.getElem_toArray, List.getElem_cons_succ, List.getElem_cons_zero, List.setIfInBounds_toArray, List.set_cons_zero, List.set_cons_succ]
          refine wpAnyH_ready (rs := [8]) (by kernel_rfl) (by simp) (AllReadyH.cons rfl (fun K hK => ?_) AllReadyH.nil)
          go_simp
          refine (pjoin_fits _ _ g 0 A _ n 1 c 1 wr.heap.size (g6 + 1) M [liveA (keyN t) a] _ (HFR.out.lies.2.1.below hHeld) RD.out hHeld.size HS6.out (by have := HNM.out; omega) HUP.out (one_up _ _ _) HTT.out (R ++ [liveR (keyN t) a]) HSN.out HLEN.out).mono ?_
          rintro e w8 ⟨M2, A2, n2, c2, rfl, hM2, hfr⟩
          rw [HMX.out]
          have CB := Lib.hid (hHeld.trans (hfr.below.mono hHeld.size))
          have HM2 := Lib.hid hM2
          have XZ := Lib.hid ((hfr.below.block _ (Array.getElem?_eq_some_iff.1 XZ.out).1).trans XZ.out)
          have HF8 := Lib.hid (hfr.lower (HBW.out.trans (hHeld.mono HBW.out.size)))
          clear hfr hM2
          try go_wp2_with fail
          refine hK.out _ _ ?_ (fun hHeld => ?_)
          · exact CB.out
          clear hK K
          try simp only [Act.put, List.getElem_toArray, List.getElem_cons_succ, List.getElem_cons_zero, List.setIfInBounds_toArray, List.set_cons_zero, List.set_cons_succ]
          refine wpAnyH_take (i := 9) (v := ?_) rfl (by kernel_rfl) (by kernel_rfl) (by kernel_rfl) (fun _ _ _ h => h) (Or.inl ⟨by rfl, ?_⟩) (by assumption) ?_
          rotate_left
          · (intro wx hSw; (try dsimp only at hSw); go_simp; try with_reducible rfl)
          try simp only [Act.put, List.getElem_toArray, List.getElem_cons_succ, List.getElem_cons_zero, List.setIfInBounds_toArray, List.set_cons_zero, List.set_cons_succ]
          refine wpAnyH_take (i := 10) (v := ?_) rfl (by kernel_rfl) (by kernel_rfl) (by kernel_rfl) (fun _ _ _ h => h) (Or.inl ⟨by rfl, ?_⟩) (by assumption) ?_
          rotate_left
          · (intro wx hSw; (try dsimp only at hSw); go_simp; try with_reducible rfl)
          try simp only [Act.put, List.getElem_toArray, List.getElem_cons_succ, List.getElem_cons_zero, List.setIfInBounds_toArray, List.set_cons_zero, List.set_cons_succ]
          refine wpAnyH_take (i := 11) (v := ?_) rfl (by kernel_rfl) (by kernel_rfl) (by kernel_rfl) (fun _ _ _ h => h) (Or.inl ⟨by rfl, ?_⟩) (by assumption) ?_
          rotate_left
          · (intro wx hSw; (try dsimp only at hSw); go_simp; try with_reducible rfl)
          try simp only [Act.put, List.getElem_toArray, List.getElem_cons_succ, List.getElem_cons_zero, List.setIfInBounds_toArray, List.set_cons_zero, List.set_cons_succ]
          refine wpAnyH_ready (rs := [13]) (by kernel_rfl) (by simp) (AllReadyH.cons rfl (fun K hK => ?_) AllReadyH.nil)
          have z0 := cell_at (i := 0) XZ.out rfl
          have z1 := cell_at (i := 1) XZ.out rfl
          have z2 := cell_at (i := 2) XZ.out rfl
          have y0 := thawed_at (i := 0) XZ.out
          have y1 := thawed_at (i := 1) XZ.out
          have y2 := thawed_at (i := 2) XZ.out
          have M9 := Lib.hid (set3_block XZ.out (.string ⟨#[107]⟩) (.int .i64 g) (.slice A2 n2 c2))
          have K9 := kept_set3h XZ.out (.string ⟨#[107]⟩) (.int .i64 g) (.slice A2 n2 c2)
          have HF9 := Lib.hid (HF8.out.kept K9 (e := 24) (fun j hj => by subst hj; exact ⟨Nat.le_of_lt HXQ.out.1, _, XZ.out⟩) (by decide) (by decide))
          have CB9 := Lib.hid (below_kept hHeld K9 fun j hj => by subst hj; exact HXQ.out.2)
          clear K9
          go_simp
          refine hK.out _ _ ?_ (fun hHeld => ?_)
          · exact CB9.out
          clear hK K
          try simp only [Act.put, List.getElem_toArray, List.getElem_cons_succ, List.getElem_cons_zero, List.setIfInBounds_toArray, List.set_cons_zero, List.set_cons_succ]
          refine wpAnyH_take (i := 14) (v := ?_) rfl (by kernel_rfl) (by kernel_rfl) (by kernel_rfl) (fun _ _ _ h => h) (Or.inl ⟨by rfl, ?_⟩) (by assumption) ?_
          rotate_left
          · (intro wx hSw; (try dsimp only at hSw); go_simp; try with_reducible rfl)
          try simp only [Act.put, List.getElem_toArray, List.getElem_cons_succ, List.getElem_cons_zero, List.setIfInBounds_toArray, List.set_cons_zero, List.set_cons_succ]
          refine wpAnyH_done (by kernel_rfl) ?_ _
          go_wp2_with fail
          go_meet
          exact ⟨_, M2, A2, n2, c2, rfl, rfl, M9.out, HM2.out, HF9.out, HXQ.out.2, hHeld⟩
      case rest =>
        obtain ⟨q, M2, A2, n2, c2, rfl, rfl, hq, hm2, hf2, hqs, hb2⟩ := hcut
        generalize wc = w3 at hq hf2 hb2 ⊢
        have hpw := (hb2.block w.heap.size HLT.out).trans HP.out
        obtain ⟨_, _, _⟩ := PtAt.of hq
        have z0 := cell_at (i := 0) hpw rfl
        have z1 := cell_at (i := 1) hpw rfl
        have z2 := cell_at (i := 2) hpw rfl
        have y0 := thawed_at (i := 0) hpw
        have y1 := thawed_at (i := 1) hpw
        have y2 := thawed_at (i := 2) hpw
        have m9 := set3_block hpw (.string ⟨#[107]⟩) (.int .i64 g) (.slice A2 n2 c2)
        have k9 := kept_set3 (w := w3) w.heap.size (.string ⟨#[107]⟩) (.int .i64 g) (.slice A2 n2 c2)
        have hf9 := hf2.kept k9 (e := 24) (fun j hj => by subst hj; exact ⟨Nat.le_refl _, _, hpw⟩) (by decide) (by decide)
        have M9 := Lib.hid m9; have HF9 := Lib.hid hf9; have HM2 := Lib.hid hm2
        clear hq hf2 hb2 hpw m9 k9 hf9 hm2
        have hmt := HMT.out
        by_cases hga : g < a
        · have d3 : decide (g < a) = true := decide_eq_true hga
          have hs := HSNO.out
          rw [if_pos hga] at hs
          have HS := Lib.hid hs
          clear hs
          go_wp2
          generalize (((w3.setCell ⟨w.heap.size, 0, none⟩ (.string ⟨#[107]⟩)).setCell ⟨w.heap.size, 1, none⟩ (.int .i64 g)).setCell ⟨w.heap.size, 2, none⟩ (.slice A2 n2 c2)) = w9 at M9 HF9 ⊢
          go_roundw
          case rel => exact ⟨t + 1, m + 1, _, M2, A2, n2, c2, by omega, by omega, by go_num, by go_num, by omega, HS.out, HM2.out, M9.out, HF9.out⟩
          case measure => simp [intOf]; omega
        · have d3 : decide (g < a) = false := decide_eq_false hga
          have hs := HSNO.out
          rw [if_neg hga] at hs
          have HS := Lib.hid hs
          clear hs
          go_wp2
          generalize (((w3.setCell ⟨w.heap.size, 0, none⟩ (.string ⟨#[107]⟩)).setCell ⟨w.heap.size, 1, none⟩ (.int .i64 g)).setCell ⟨w.heap.size, 2, none⟩ (.slice A2 n2 c2)) = w9 at M9 HF9 ⊢
          go_roundw
          case rel => exact ⟨t + 1, m, _, M2, A2, n2, c2, by omega, by omega, by go_num, by go_num, by omega, HS.out, HM2.out, M9.out, HF9.out⟩
          case measure => simp [intOf]; omega
    · have hd : (decide ((t : Int) < (na : Int)) && decide ((t : Int) < 20)) = false := by
        rw [Bool.and_eq_false_iff, decide_eq_false_iff_not, decide_eq_false_iff_not]
        omega
      have hls := HFR.out.lies
      have hnm : n = t := by rw [hls.1, ← List.length_map (f := RA.ro), show List.map RA.ro M = R from HM.out, HGR.out.len]
      have hcols : ∀ x ∈ M, x.ro.cols.length ≤ 1000 := fun x hx => by
        have := tot_mem hx
        rw [GRows.tot (HM.out.symm ▸ HGR.out : GRows g t m (ros M))] at this
        omega
      have HLS := Lib.hid hls.2.1; have HCO := Lib.hid hcols; have HNM := Lib.hid (show n ≤ 20 by omega)
      clear hls hcols hnm
      rcases (show (¬ t < na) ∨ (t < na ∧ ¬ t < 20) by omega) with h1 | ⟨h1, h2⟩
      · have d1 : decide ((t : Int) < (na : Int)) = false := by simp; omega
        have e1 : decide (t < na) = false := decide_eq_false h1
        clear hd h1 hlt
        go_wp2_with fail
        refine (place_any now 100 _ (by decide) (by decide) (bounds_i64 HNW.out)).mono ?_
        rintro e w' ⟨rfl, rfl⟩
        obtain ⟨tt, htt⟩ : ∃ b, now % 100 = b := ⟨_, rfl⟩
        rw [htt]
        clear htt
        go_wp2_with fail
        refine (pseen_any ⟨#[107]⟩ g tt true A n c wr.heap.size M _ HLS.out (Nat.le_refl _) (by have := HNM.out; omega) HCO.out).mono ?_
        rintro e w1 ⟨v1, M1, rfl, hM1, ho1⟩
        obtain ⟨A1, c1, rfl, _⟩ := ho1.slice
        have hm1 : M1.length = m := by rw [← List.length_map (f := RA.ro), show List.map RA.ro M1 = _ from hM1, HM.out, HGR.out.cnt]
        rw [hm1]
        have HP1 := Lib.hid ((ho1.below.block w.heap.size HLT.out).trans HP.out); have HLS1 := Lib.hid (HLS.out.below ho1.below); have HB1 := Lib.hid ho1.below
        obtain ⟨_, _, _⟩ := PtAt.of HP1.out
        clear hM1 ho1 hm1
        go_wp2_with fail
        refine (pseen_any ⟨#[107]⟩ g tt false A n c wr.heap.size M _ HLS1.out HB1.out.size (by have := HNM.out; omega) HCO.out).mono ?_
        rintro e w2 ⟨v2, M2, rfl, hM2, ho2⟩
        obtain ⟨A2, c2, rfl, _⟩ := ho2.slice
        have hm2 : M2.length = m := by rw [← List.length_map (f := RA.ro), show List.map RA.ro M2 = _ from hM2, HM.out, HGR.out.cnt]
        rw [hm2]
        have hb2 := next HB1.out ho2.below
        have HP2 := Lib.hid ((hb2.block w.heap.size HLT.out).trans HP.out); have HLS2 := Lib.hid (HLS.out.below hb2); have HB2 := Lib.hid hb2
        obtain ⟨_, _, _⟩ := PtAt.of HP2.out
        clear hM2 ho2 hm2 hb2
        go_wp2_with fail
        refine (pstampall_any ⟨#[107]⟩ g A n c wr.heap.size M _ HLS2.out HB2.out.size (by have := HNM.out; omega) HCO.out).mono ?_
        rintro e w3 ⟨rfl, b3⟩
        obtain ⟨s, hs⟩ : ∃ s, stampR g (ros M) = s := ⟨_, rfl⟩
        have hsg : g ≤ s := by rw [← hs]; exact stampR_ge _ _
        have dsg : decide (g ≤ s) = true := decide_eq_true hsg
        rw [hs]
        have HB3 := Lib.hid (next HB2.out b3)
        clear hs b3
        go_wp2_with fail
        refine (pawake_any _).mono ?_
        rintro e w4 ⟨rfl, b4⟩
        have HB4 := Lib.hid (next HFR.out.below (next HB3.out b4))
        clear b4
        go_wp2
        go_ret
        exact ⟨rfl, HB4.out⟩
      · have d1 : decide ((t : Int) < (na : Int)) = true := by simp; omega
        have e1 : decide (t < na) = true := decide_eq_true h1
        have d2 : decide ((t : Int) < 20) = false := by simp; omega
        have e2 : decide (t < 20) = false := decide_eq_false h2
        clear hd h1 h2 hlt
        go_wp2_with fail
        refine (place_any now 100 _ (by decide) (by decide) (bounds_i64 HNW.out)).mono ?_
        rintro e w' ⟨rfl, rfl⟩
        obtain ⟨tt, htt⟩ : ∃ b, now % 100 = b := ⟨_, rfl⟩
        rw [htt]
        clear htt
        go_wp2_with fail
        refine (pseen_any ⟨#[107]⟩ g tt true A n c wr.heap.size M _ HLS.out (Nat.le_refl _) (by have := HNM.out; omega) HCO.out).mono ?_
        rintro e w1 ⟨v1, M1, rfl, hM1, ho1⟩
        obtain ⟨A1, c1, rfl, _⟩ := ho1.slice
        have hm1 : M1.length = m := by rw [← List.length_map (f := RA.ro), show List.map RA.ro M1 = _ from hM1, HM.out, HGR.out.cnt]
        rw [hm1]
        have HP1 := Lib.hid ((ho1.below.block w.heap.size HLT.out).trans HP.out); have HLS1 := Lib.hid (HLS.out.below ho1.below); have HB1 := Lib.hid ho1.below
        obtain ⟨_, _, _⟩ := PtAt.of HP1.out
        clear hM1 ho1 hm1
        go_wp2_with fail
        refine (pseen_any ⟨#[107]⟩ g tt false A n c wr.heap.size M _ HLS1.out HB1.out.size (by have := HNM.out; omega) HCO.out).mono ?_
        rintro e w2 ⟨v2, M2, rfl, hM2, ho2⟩
        obtain ⟨A2, c2, rfl, _⟩ := ho2.slice
        have hm2 : M2.length = m := by rw [← List.length_map (f := RA.ro), show List.map RA.ro M2 = _ from hM2, HM.out, HGR.out.cnt]
        rw [hm2]
        have hb2 := next HB1.out ho2.below
        have HP2 := Lib.hid ((hb2.block w.heap.size HLT.out).trans HP.out); have HLS2 := Lib.hid (HLS.out.below hb2); have HB2 := Lib.hid hb2
        obtain ⟨_, _, _⟩ := PtAt.of HP2.out
        clear hM2 ho2 hm2 hb2
        go_wp2_with fail
        refine (pstampall_any ⟨#[107]⟩ g A n c wr.heap.size M _ HLS2.out HB2.out.size (by have := HNM.out; omega) HCO.out).mono ?_
        rintro e w3 ⟨rfl, b3⟩
        obtain ⟨s, hs⟩ : ∃ s, stampR g (ros M) = s := ⟨_, rfl⟩
        have hsg : g ≤ s := by rw [← hs]; exact stampR_ge _ _
        have dsg : decide (g ≤ s) = true := decide_eq_true hsg
        rw [hs]
        have HB3 := Lib.hid (next HB2.out b3)
        clear hs b3
        go_wp2_with fail
        refine (pawake_any _).mono ?_
        rintro e w4 ⟨rfl, b4⟩
        have HB4 := Lib.hid (next HFR.out.below (next HB3.out b4))
        clear b4
        go_wp2
        go_ret
        exact ⟨rfl, HB4.out⟩
end Go.Proofs.Ytafbbojfifcncaa
set_option linter.unusedVariables false
namespace Go.Proofs.Ytafbbojfifcncaa.lawPartGones
open Go Go.ChangeShapes Go.WideShapes Go.ChangeAt Go.RowKit
open Go.ChangeMaps (open_string shut_string)

theorem own : ownKnob Try.prog.godebug = none := by kernel_rfl
theorem laidOut : laidOutB Try.prog = true := by kernel_rfl

set_option maxRecDepth 100000 in
theorem lifted (os : Os) (started : os.Started) (H : Type) (enc : TypeId × Value → H) :
    ReturnsInHanded {} Try.checked os 7 .any (Rows.partGonesSpec.pre6 enc Try.prog Try.f7 Rows.partGonesRow.domain false) (Rows.partGonesSpec.post enc Try.prog Try.f7 false true false false) := by
  refine returnsInHanded_of_change (C := Try.checked) own started (by kernel_rfl) Try.func7
    (ChangeSpec.witness6 (enc := enc) (C := Try.checked) false ⟨#[], #[.int .i64 0, .slice none 0 0, .int .i64 0], []⟩ 8 (by kernel_rfl) (by kernel_rfl) (by kernel_rfl) (by kernel_rfl)) ?_
  intro W base args ds gs before hval0 hW hcnd _
  have hval : ∀ (j : Nat) t v, Try.f7.params[j]? = some t → args[j]? = some v → Value.okWide Try.prog W .any base t v := hval0
  have hW' := hW
  obtain ⟨p, q, hA0, hV, rfl, hfz, hnd⟩ := hW
  have hA : DataW.TrodAll enc Try.prog W 0 (fun _ => true) true Try.f7.params.toList args.toList ds p := hA0
  rw [Try.params7] at hA hval
  obtain ⟨v0, vs0, d0, ds0, p0, q0, hargs, rfl, rfl, h0, r0⟩ := trodAll_cons hA
  obtain ⟨v1, vs1, d1, ds1, p1, q1, rfl, rfl, rfl, h1, r1⟩ := trodAll_cons r0
  obtain ⟨v2, vs2, d2, ds2, p2, q2, rfl, rfl, rfl, h2, r2⟩ := trodAll_cons r1
  obtain ⟨rfl, rfl, rfl⟩ := trodAll_nil r2
  obtain rfl : args = #[v0, v1, v2] := by cases args; simp_all
  obtain ⟨rfl, rfl⟩ := trodVars_none hV
  obtain ⟨a0, rfl, rfl, rfl, w0⟩ := open_int Try.underlying3 (hval 0 3 v0 rfl rfl) h0
  have t1 := h1
  obtain ⟨A1, n1, c1, l1, rfl, wr1, wn1, wc1, ws1⟩ := open_rdz (hval 1 43 v1 rfl rfl) h1
  obtain ⟨a2, rfl, rfl, rfl, w2⟩ := open_int Try.underlying3 (hval 2 3 v2 rfl rfl) h2
  clear hA0 hval0
  refine (gones_law a0 A1 n1 c1 l1 a2 W w0 wr1 wn1 wc1 ws1 w2).mono fun e W' ⟨he, bel⟩ => ?_
  subst he
  exact ⟨_, rfl, _, _, _, [], _, [], hW', trodAll_mk1 (shut_bool Try.underlying4 _), (trodAll_cons_mk (shut_int Try.underlying3 w0) (trodAll_cons_mk (Below.trod laidOut (by kernel_rfl) (of_decide_eq_true (by kernel_rfl)) t1 bel (trod_lt1 t1)) (trodAll_cons_mk (shut_int Try.underlying3 w2) trodAll_mk0))), rfl, bel.frame _, fun h => by cases h⟩

theorem over : Rows.partGonesRow.holds Try.pinned (OpenSpec.ofChange Rows.partGonesSpec) :=
  OpenClaim.holds_of_wide 7 Try.f7 rfl rfl rfl rfl rfl rfl rfl ⟨rfl, rfl, rfl, rfl, rfl⟩ rfl rfl rfl rfl rfl (by kernel_rfl) Try.func7 (by kernel_rfl)
    (of_decide_eq_true (by kernel_rfl)) (by unfold Func.isWrapper; first | (rw [if_pos (by decide +kernel)]; kernel_rfl) | (rw [if_neg (by decide +kernel)]; exact ⟨rfl, rfl⟩))
    (fun os started H enc _ => lifted os started H enc)

theorem proved : Rows.PartGonesSaid := over
end Go.Proofs.Ytafbbojfifcncaa.lawPartGones
