/-
  Check of cells; the example of layer 6: awake; few.
-/
import Derived.Test.YtipkghchcacgiaaCe3
set_option linter.unusedVariables false
set_option linter.unusedSimpArgs false
namespace Go.Proofs.Ytipkghchcacgiaa
open Go Go.RowKit

def stm (n : Int) : Bool := decide (0 ≤ n) && decide (n ≤ 1099511627776)
def Ce.ok (c : Ce) : Bool :=
  if c.a = 0 then c.same ⟨⟨#[]⟩, false, 0, 0⟩ else if stm c.a = false then false else if c.d = true then c.same ⟨⟨#[]⟩, true, c.a, 0⟩ else decide (c.s.size ≤ 100) && stm c.e

set_option maxHeartbeats 2000000 in
theorem check_any (s : ByteArray) (d : Bool) (a e : Int) (w : World) (hs : s.size ≤ maxLen) :
    Calls Try.prog 13 #[.agg #[.string s, .bool d, .int .i64 a, .int .i64 e]] w fun x w' => x = .returned (.bool (Ce.ok ⟨s, d, a, e⟩)) ∧ Below w.heap.size w w' := by
  have bz := Lib.hid ((Below.refl w.heap.size w).alloc (Nat.le_refl _) (.cells #[.string s, .bool d, .int .i64 a, .int .i64 e] 23))
  have hm : Try.prog.eqGuardType Try.prog.depth 23 = false := by kernel_rfl
  by_cases h1 : a = 0
  · subst h1
    have hv : Ce.ok ⟨s, d, 0, e⟩ = Ce.same ⟨s, d, 0, e⟩ ⟨⟨#[]⟩, false, 0, 0⟩ := rfl
    rw [hv]
    have he := fun w => run_eqCe s ⟨#[]⟩ d false 0 0 e 0 w
    have hg := fun (w : World) (x y : Operand) => run_eqGuard_agg (P := Try.prog) w .eql 23 x y #[.string s, .bool d, .int .i64 0, .int .i64 e] #[.string ⟨#[]⟩, .bool false, .int .i64 0, .int .i64 0] hm
    clear hm hv
    go_enter Try.func13, Try.ntmps13
    go_wp2
    go_ret
    exact ⟨rfl, bz.out⟩
  · have hb : (a == 0) = false := by rw [beq_eq_false_iff_ne]; exact h1
    cases h2 : stm a
    · have hv : Ce.ok ⟨s, d, a, e⟩ = false := by unfold Ce.ok; rw [if_neg h1, if_pos h2]
      rw [hv]
      have H2 := Lib.hid h2
      clear h2 hv
      go_enter Try.func13, Try.ntmps13
      go_wp2_with fail
      refine (stamp_any a _).mono ?_
      rintro x w1 ⟨rfl, rfl⟩
      rw [show (decide (0 ≤ a) && decide (a ≤ 1099511627776)) = false from H2.out]
      go_wp2
      go_ret
      exact ⟨rfl, bz.out⟩
    · have hv : Ce.ok ⟨s, d, a, e⟩ = if d = true then Ce.same ⟨s, d, a, e⟩ ⟨⟨#[]⟩, true, a, 0⟩ else decide (s.size ≤ 100) && stm e := by unfold Ce.ok; rw [if_neg h1, if_neg (by rw [h2]; decide)]
      rw [hv]
      have H2 := Lib.hid h2
      clear h2 hv
      cases d
      · rw [if_neg (by decide)]
        by_cases h3 : s.size ≤ 100
        · have d3 : decide ((s.size : Int) ≤ 100) = true := by simp; omega
          rw [show decide (s.size ≤ 100) = true from decide_eq_true h3]
          go_enter Try.func13, Try.ntmps13
          go_wp2_with fail
          refine (stamp_any a _).mono ?_
          rintro x w1 ⟨rfl, rfl⟩
          rw [show (decide (0 ≤ a) && decide (a ≤ 1099511627776)) = true from H2.out]
          go_wp2_with fail
          refine (stamp_any e _).mono ?_
          rintro x w1 ⟨rfl, rfl⟩
          go_wp2
          go_ret
          exact ⟨rfl, bz.out⟩
        · have d3 : decide ((s.size : Int) ≤ 100) = false := by simp; omega
          rw [show decide (s.size ≤ 100) = false from decide_eq_false h3]
          go_enter Try.func13, Try.ntmps13
          go_wp2_with fail
          refine (stamp_any a _).mono ?_
          rintro x w1 ⟨rfl, rfl⟩
          rw [show (decide (0 ≤ a) && decide (a ≤ 1099511627776)) = true from H2.out]
          go_wp2
          go_ret
          exact ⟨rfl, bz.out⟩
      · rw [if_pos rfl]
        have he := fun w => run_eqCe s ⟨#[]⟩ true true a a e 0 w
        have hg := fun (w : World) (x y : Operand) => run_eqGuard_agg (P := Try.prog) w .eql 23 x y #[.string s, .bool true, .int .i64 a, .int .i64 e] #[.string ⟨#[]⟩, .bool true, .int .i64 a, .int .i64 0] hm
        clear hm
        go_enter Try.func13, Try.ntmps13
        go_wp2_with fail
        refine (stamp_any a _).mono ?_
        rintro x w1 ⟨rfl, rfl⟩
        rw [show (decide (0 ≤ a) && decide (a ≤ 1099511627776)) = true from H2.out]
        go_wp2
        go_ret
        exact ⟨rfl, bz.out⟩

set_option maxHeartbeats 2000000 in
theorem awake_any (w : World) :
    Calls Try.prog 9 #[] w fun x w' => x = .returned (.bool true) ∧ Below w.heap.size w w' := by
  have hj : (Ce.join ⟨⟨#[]⟩, true, 5, 0⟩ ⟨⟨#[120]⟩, false, 5, 0⟩).v = .agg #[.string ⟨#[]⟩, .bool true, .int .i64 5, .int .i64 0] := by
    have : Ce.join ⟨⟨#[]⟩, true, 5, 0⟩ ⟨⟨#[120]⟩, false, 5, 0⟩ = ⟨⟨#[]⟩, true, 5, 0⟩ := by unfold Ce.join; rw [if_neg (by simp [Ce.cmp, icmp, bcmp, lexI])]
    rw [this]; rfl
  have hs1 : Ce.seen ⟨⟨#[120]⟩, false, 5, 0⟩ 9 = true := by decide
  have hs2 : Ce.seen ⟨⟨#[]⟩, true, 5, 0⟩ 1 = false := by decide
  have HJ := Lib.hid hj; have S1 := Lib.hid hs1; have S2 := Lib.hid hs2
  clear hj hs1 hs2
  go_enter Try.func9, Try.ntmps9
  go_wp2_with fail
  refine (join_any ⟨#[]⟩ ⟨#[120]⟩ true false 5 5 0 0 _).mono ?_
  rintro x w1 ⟨rfl, b1⟩
  rw [HJ.out]
  have bz := b1.alloc b1.size (.cells #[.string ⟨#[]⟩, .bool true, .int .i64 5, .int .i64 0] 23)
  have p1 := CeAt.new w1 ⟨#[]⟩ true 5 0
  have BZ := Lib.hid bz
  have P1 := Lib.hid p1
  clear bz p1
  go_wp2_with fail
  refine (seen_any ⟨#[120]⟩ false 5 0 9 _).mono ?_
  rintro x w2 ⟨rfl, b2⟩
  rw [S1.out]
  obtain ⟨q0, q1, q2, q3⟩ := P1.out.below b2 (by simp)
  go_wp2_with fail
  refine (seen_any ⟨#[]⟩ true 5 0 1 _).mono ?_
  rintro x w3 ⟨rfl, b3⟩
  rw [S2.out]
  go_wp2
  go_ret
  have b12 := BZ.out.trans (b2.mono BZ.out.size)
  exact ⟨rfl, b12.trans (b3.mono b12.size)⟩

/-- A slice of cells. -/
def RdC (w : World) (B : Nat) (A : Option Addr) (n : Nat) (l : List Ce) : Prop :=
  l.length = n ∧ (0 < n → ∃ g o, A = some ⟨g, o, none⟩ ∧ g < B ∧ ∀ j (hj : j < l.length), w.cell? ⟨g, o + j * 4, none⟩ = some (.string l[j].s) ∧ w.cell? ⟨g, o + j * 4 + 1, none⟩ = some (.bool l[j].d) ∧ w.cell? ⟨g, o + j * 4 + 2, none⟩ = some (.int .i64 l[j].a) ∧ w.cell? ⟨g, o + j * 4 + 3, none⟩ = some (.int .i64 l[j].e))
theorem RdC.below {w w' : World} {B n : Nat} {A : Option Addr} {l : List Ce} (h : RdC w B A n l) (hb : Below B w w') : RdC w' B A n l :=
  ⟨h.1, fun hn => by
    obtain ⟨g, o, e, hg, hc⟩ := h.2 hn
    refine ⟨g, o, e, hg, fun j hj => ?_⟩
    obtain ⟨h0, h1, h2, h3⟩ := hc j hj
    exact ⟨(hb.cell (p := ⟨g, _, none⟩) hg).trans h0, (hb.cell (p := ⟨g, _, none⟩) hg).trans h1, (hb.cell (p := ⟨g, _, none⟩) hg).trans h2, (hb.cell (p := ⟨g, _, none⟩) hg).trans h3⟩⟩
def Ce.cs (c : Ce) : List Value := [.string c.s, .bool c.d, .int .i64 c.a, .int .i64 c.e]
theorem cs_at : ∀ (l : List Ce) (j i : Nat) (hj : j < l.length) (hi : i < 4), (l.flatMap Ce.cs)[j * 4 + i]? = (l[j].cs)[i]?
  | [], j, i, hj, hi => by cases hj
  | c :: l, 0, i, hj, hi => by
    simp only [List.flatMap_cons, Nat.zero_mul, Nat.zero_add, List.getElem_cons_zero]
    exact List.getElem?_append_left (by simpa [Ce.cs] using hi)
  | c :: l, j + 1, i, hj, hi => by
    simp only [List.flatMap_cons, List.getElem_cons_succ]
    rw [List.getElem?_append_right (by simp [Ce.cs]; omega), ← cs_at l j i (by simpa using hj) hi]
    congr 1
    simp [Ce.cs]
    omega
theorem RdC.lit (w : World) (l : List Ce) (g : Nat) (hg : g = w.heap.size) : RdC (w.alloc (.cells (l.flatMap Ce.cs).toArray 23)) (g + 1) (some ⟨g, 0, none⟩) l.length l := by
  subst hg
  have key : ∀ i, (w.alloc (.cells (l.flatMap Ce.cs).toArray 23)).cell? ⟨w.heap.size, i, none⟩ = (l.flatMap Ce.cs)[i]? := fun i => by simp
  refine ⟨rfl, fun _ => ⟨_, 0, rfl, by omega, fun j hj => ?_⟩⟩
  rw [Nat.zero_add, key, key, key, key]
  exact ⟨cs_at l j 0 hj (by omega), cs_at l j 1 hj (by omega), cs_at l j 2 hj (by omega), cs_at l j 3 hj (by omega)⟩

def few (l : List Ce) : Bool := l.all fun c => decide (c.s.size ≤ 300)
set_option maxHeartbeats 1000000 in
theorem few_any (A : Option Addr) (n c B : Nat) (l : List Ce) (w : World) (h : RdC w B A n l) (hB : B ≤ w.heap.size) (hn : n ≤ 1000000000000) :
    Calls Try.prog 8 #[.slice A n c] w fun e w' => e = .returned (.bool (few l)) ∧ Below w.heap.size w w' := by
  have hl := h.1
  obtain ⟨v, hv⟩ : ∃ v : Bool, few l = v := ⟨_, rfl⟩
  rw [hv]
  have HV := Lib.hid hv
  have HL := Lib.hid hl
  clear hv hl
  go_enter Try.func8, Try.ntmps8
  go_wp2
  go_loopw [3] (fun i wr => ∃ k : Nat, k ≤ n ∧ i = .int .i64 k ∧ few (l.drop k) = v ∧ Below w.heap.size w wr) (fun i _ => n - (intOf i).toNat)
  case atStart => exact ⟨0, Nat.zero_le _, rfl, HV.out, Below.refl _ _⟩
  case round =>
    obtain ⟨k, hk, rfl, hz, hb⟩ := hrel
    have HZ := Lib.hid hz
    clear hz
    by_cases hlt : k < n
    · have g1 := h.below (hb.mono hB)
      have i1 : (k : Int) < n := by omega
      have i0 : (0 : Int) ≤ k := by omega
      have hkl : k < l.length := by rw [HL.out]; exact hlt
      have hd : l.drop k = l[k] :: l.drop (k + 1) := List.drop_eq_getElem_cons hkl
      obtain ⟨g, o, rfl, _, hc⟩ := g1.2 (by omega)
      obtain ⟨hck, _, _, _⟩ := hc k hkl
      obtain ⟨x, hx⟩ : ∃ x, l[k] = x := ⟨_, rfl⟩
      rw [hx] at hck hd
      have HD := Lib.hid hd
      clear hd hc hx g1 h
      by_cases h0 : x.s.size ≤ 300
      · have d0 : decide ((300 : Int) < (x.s.size : Nat)) = false := by simp; omega
        have hz2 : few (l.drop (k + 1)) = v := by rw [← HZ.out, HD.out]; simp [few, h0]
        have HZ2 := Lib.hid hz2
        clear hz2
        go_wp2
        go_roundw
        case rel => exact ⟨k + 1, by omega, by go_num, HZ2.out, hb.trans ⟨rfl, rfl, rfl, Nat.le_refl _, fun _ _ => rfl⟩⟩
        case measure => simp [intOf]; omega
      · have d0 : decide ((300 : Int) < (x.s.size : Nat)) = true := by simp; omega
        have hv : v = false := by rw [← HZ.out, HD.out]; simp [few, h0]
        subst hv
        go_wp2
        go_ret
        exact ⟨rfl, hb.trans ⟨rfl, rfl, rfl, Nat.le_refl _, fun _ _ => rfl⟩⟩
    · obtain rfl : k = n := by omega
      have hf : v = true := by
        rw [← HZ.out, List.drop_of_length_le (by rw [HL.out]; exact Nat.le_refl _)]
        rfl
      subst hf
      go_wp2
      go_ret
      exact ⟨rfl, hb⟩
end Go.Proofs.Ytipkghchcacgiaa
