/-
  Law 11: the developers' notes, as far as they must be known (a HYPOTHESIS), and the document's own, side by side.
-/
import Derived.Test.YtfldlkdnjkaidaaNt4
import Derived.Test.YtfldlkdnjkaidaaNs
set_option linter.unusedVariables false
set_option linter.unusedSimpArgs false
namespace Go.Proofs.Ytfldlkdnjkaidaa
open Go Go.RowKit

/-- What is to be known of the developers' notes: P w F p S = at block p, with footprint F, they are S. -/
structure DevN (P : World → (Nat → Prop) → Nat → Fl → Prop) : Prop where
  kept : ∀ {w w' : World} {F G : Nat → Prop} {p : Nat} {S : Fl}, P w G p S → Kept F w w' → Off F G → In G w → P w' G p S
  new : ∀ w : World, Calls Try.prog 6 #[] w fun e w' => ∃ (p : Nat) (F : Nat → Prop), e = .returned (.pointer (some ⟨p, 0, none⟩)) ∧ P w' F p [] ∧ (∀ k, F k → w.heap.size ≤ k) ∧ In F w' ∧ Below w.heap.size w w'
  add : ∀ (F : Nat → Prop) (p : Nat) (S : Fl) (n : Int) (b : ByteArray) (w : World), P w F p S → In F w → NOk S → (Lit.int .i64 n).wf = true → b.size ≤ maxLen →
    Calls Try.prog 13 #[.pointer (some ⟨p, 0, none⟩), .agg #[.int .i64 n, .string b]] w fun e w' => e = .returned (.bool (addN S n b).2) ∧ ∃ F', P w' F' p (addN S n b).1 ∧ Step F w F' w'
  drop : ∀ (F : Nat → Prop) (p : Nat) (S : Fl) (n : Int) (w : World), P w F p S → In F w → NOk S → (Lit.int .i64 n).wf = true →
    Calls Try.prog 9 #[.pointer (some ⟨p, 0, none⟩), .int .i64 n] w fun e w' => e = .returned (.bool (hasF S n)) ∧ ∃ F', P w' F' p (delF S n) ∧ Step F w F' w'
  get : ∀ (F : Nat → Prop) (p : Nat) (S : Fl) (n : Int) (w : World), P w F p S → In F w → NOk S → (Lit.int .i64 n).wf = true →
    Calls Try.prog 15 #[.pointer (some ⟨p, 0, none⟩), .int .i64 n] w fun e w' => e = .returned (.tuple #[.string (getF S n), .bool (hasF S n)]) ∧ Below w.heap.size w w'
  all : ∀ (F : Nat → Prop) (p : Nat) (S : Fl) (w : World), P w F p S → In F w → NOk S →
    Calls Try.prog 18 #[.pointer (some ⟨p, 0, none⟩)] w fun e w' => ∃ (A : Option Addr) (n c : Nat), e = .returned (.slice A n c) ∧ RdT w' w'.heap.size A n S ∧ n ≤ c ∧ Below w.heap.size w w'
  fits : ∀ (F : Nat → Prop) (p : Nat) (S : Fl) (Aa Ad : Option Addr) (na ca nd cd B : Nat) (L : Fl) (D : List Int) (w : World), P w F p S → In F w → NOk S → RdT w B Aa na L → RdI w B Ad nd D → B ≤ w.heap.size →
    (∀ x ∈ L, (Lit.int .i64 x.1).wf = true ∧ x.2.size ≤ maxLen) → (∀ x ∈ D, (Lit.int .i64 x).wf = true) → na ≤ 1000 → nd ≤ 1000 → na ≤ ca → nd ≤ cd →
    Calls Try.prog 11 #[.pointer (some ⟨p, 0, none⟩), .slice Aa na ca, .slice Ad nd cd] w fun e w' => e = .returned (.bool (fitN (dropsN S D) L)) ∧ Below w.heap.size w w'

variable {P : World → (Nat → Prop) → Nat → Fl → Prop}
/-- Both side by side, all of it made behind W0. -/
structure TwoN (P : World → (Nat → Prop) → Nat → Fl → Prop) (W0 w : World) (F G : Nat → Prop) (p q : Nat) (S R : Fl) : Prop where
  s : P w F p S
  r : NtIs w G q R
  sin : In F w
  rin : In G w
  off : Off F G
  sab : ∀ k, F k → W0.heap.size ≤ k
  rab : ∀ k, G k → W0.heap.size ≤ k
  below : Below W0.heap.size W0 w
section
variable {W0 w w' : World} {F F' G G' : Nat → Prop} {p q : Nat} {S S' R R' : Fl}
theorem TwoN.turnS (h : TwoN P W0 w F G p q S R) (hs : P w' F' p S') (st : Step F w F' w') : TwoN P W0 w' F' G p q S' R :=
  ⟨hs, h.r.kept st.kept h.off h.rin, st.in_ h.sin, h.rin.up st.kept.size, st.off h.off h.rin, st.above h.sab h.below.size, h.rab, h.below.trans (st.below h.sab h.below.size)⟩
theorem TwoN.turnR (D : DevN P) (h : TwoN P W0 w F G p q S R) (hr : NtIs w' G' q R') (st : Step G w G' w') : TwoN P W0 w' F G' p q S R' :=
  ⟨D.kept h.s st.kept h.off.symm h.sin, hr, h.sin.up st.kept.size, st.in_ h.rin, (st.off h.off.symm h.sin).symm, h.sab, st.above h.rab h.below.size, h.below.trans (st.below h.rab h.below.size)⟩
theorem TwoN.read (D : DevN P) (h : TwoN P W0 w F G p q S R) (hb : Below w.heap.size w w') : TwoN P W0 w' F G p q S R :=
  ⟨D.kept (F := fun _ => False) h.s (Kept.of_below hb _) (fun _ hf => hf.elim) h.sin, h.r.below hb, h.sin.up hb.size, h.rin.up hb.size, h.off, h.sab, h.rab, h.below.trans (hb.mono h.below.size)⟩
theorem TwoN.drew (D : DevN P) (h : TwoN P W0 w F G p q S R) : TwoN P W0 w.drew F G p q S R := h.read D (Below.refl _ _).drew
end
set_option maxHeartbeats 1000000 in
theorem awake11 (D : DevN P) (w : World) : Calls Try.prog 7 #[] w fun x w' => x = .returned (.bool true) ∧ Below w.heap.size w w' := by
  have hN1 := NOk.nil
  have hb1 : addN ([] : Fl) 1 ⟨#[120]⟩ = ([(1, ⟨#[120]⟩)], true) := by
    unfold addN
    rw [if_neg (by unfold BadN; rintro (h | h | h | h); all_goals revert h; decide)]
    rfl
  have hN2 : NOk [(1, ⟨#[120]⟩)] := by have := hN1.add 1 ⟨#[120]⟩; rw [hb1] at this; exact this
  have hN3 : NOk ([] : Fl) := hN1
  have hd : delF [((1 : Int), (⟨#[120]⟩ : ByteArray))] 1 = [] := rfl
  have hh : hasF [((1 : Int), (⟨#[120]⟩ : ByteArray))] 1 = true := rfl
  have hg : getF [((1 : Int), (⟨#[120]⟩ : ByteArray))] 1 = ⟨#[120]⟩ := rfl
  have hh0 : hasF ([] : Fl) 1 = false := rfl
  have HB1 := Lib.hid hb1; have HD := Lib.hid hd; have HH := Lib.hid hh; have HG := Lib.hid hg; have HH0 := Lib.hid hh0; have H1 := Lib.hid hN1; have H2 := Lib.hid hN2
  clear hb1 hd hh hg hh0 hN1 hN2 hN3
  go_enter Try.func7, Try.ntmps7
  go_wp2_with fail
  refine (D.new w).mono ?_
  rintro e w1 ⟨p, F1, rfl, hp1, ha1, hi1, b1⟩
  have P1 := Lib.hid hp1; have A1 := Lib.hid ha1; have I1 := Lib.hid hi1; have B1 := Lib.hid b1
  clear hp1 ha1 hi1 b1
  go_wp2_with fail
  refine (D.add F1 p [] 1 ⟨#[120]⟩ w1 P1.out I1.out H1.out (by decide) (by decide)).mono ?_
  rintro e w2 ⟨rfl, F2, hp2, st2⟩
  rw [HB1.out] at hp2 ⊢
  dsimp only at hp2 ⊢
  have P2 := Lib.hid hp2; have I2 := Lib.hid (st2.in_ I1.out); have A2 := Lib.hid (st2.above A1.out B1.out.size); have B2 := Lib.hid (B1.out.trans (st2.below A1.out B1.out.size))
  clear hp2 st2
  go_wp2_with fail
  refine (D.get F2 p _ 1 w2 P2.out I2.out H2.out (by decide)).mono ?_
  rintro e w3 ⟨rfl, b3⟩
  rw [HG.out, HH.out]
  have P3 := Lib.hid (D.kept (F := fun _ => False) P2.out (Kept.of_below b3 _) (fun _ hf => hf.elim) I2.out); have I3 := Lib.hid (I2.out.up b3.size); have B3 := Lib.hid (B2.out.trans (b3.mono B2.out.size))
  clear b3
  go_wp2_with fail
  refine (D.drop F2 p _ 1 w3 P3.out I3.out H2.out (by decide)).mono ?_
  rintro e w4 ⟨rfl, F4, hp4, st4⟩
  rw [HD.out] at hp4
  rw [HH.out]
  have P4 := Lib.hid hp4; have I4 := Lib.hid (st4.in_ I3.out); have A4 := Lib.hid (st4.above A2.out B3.out.size); have B4 := Lib.hid (B3.out.trans (st4.below A2.out B3.out.size))
  clear hp4 st4
  go_wp2_with fail
  refine (D.drop F4 p _ 1 w4 P4.out I4.out H1.out (by decide)).mono ?_
  rintro e w5 ⟨rfl, F5, hp5, st5⟩
  rw [HH0.out]
  have B5 := Lib.hid (B4.out.trans (st5.below A4.out B4.out.size))
  clear hp5 st5
  go_wp2
  go_ret
  exact ⟨rfl, B5.out⟩
end Go.Proofs.Ytfldlkdnjkaidaa
