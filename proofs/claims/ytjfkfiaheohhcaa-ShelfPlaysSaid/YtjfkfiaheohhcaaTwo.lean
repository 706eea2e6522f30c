/-
  A shelf and the document's own, side by side; calls to both; whether they are the same.
-/
import Derived.Test.YtjfkfiaheohhcaaRh5
import Derived.Deep.QuietTactic
import Derived.BigQuiet
set_option linter.unusedVariables false
set_option linter.unusedSimpArgs false
namespace Go.Proofs.Ytjfkfiaheohhcaa
open Go Go.RowKit

def Un (F G : Nat → Prop) : Nat → Prop := fun k => F k ∨ G k
structure Two (W0 w : World) (F G : Nat → Prop) (p q : Nat) (S R : Sh) : Prop where
  s : My W0 w F p S
  r : RfIs w G q R
  rin : In G w
  rab : ∀ k, G k → W0.heap.size ≤ k
  off : Off F G
section
variable {W0 w w' : World} {F F' G G' H H' : Nat → Prop} {p q : Nat} {S S' R R' : Sh}
theorem Two.turnS (h : Two W0 w F G p q S R) (hs : My W0 w' F' p S') (st : Step F w F' w') : Two W0 w' F' G p q S' R :=
  ⟨hs, h.r.kept st.kept h.off h.rin, h.rin.up st.kept.size, h.rab, st.off h.off h.rin⟩
theorem Two.turnR (h : Two W0 w F G p q S R) (hr : RfIs w' G' q R') (st : Step G w G' w') : Two W0 w' F G' p q S R' :=
  ⟨⟨h.s.is.kept st.kept h.off.symm h.s.in_, h.s.in_.up st.kept.size, h.s.above, h.s.below.trans (st.below h.rab h.s.below.size)⟩, hr, st.in_ h.rin, st.above h.rab h.s.below.size, (st.off h.off.symm h.s.in_).symm⟩
theorem Two.read (h : Two W0 w F G p q S R) (hb : Below w.heap.size w w') : Two W0 w' F G p q S R :=
  ⟨h.s.read hb, h.r.below hb, h.rin.up hb.size, h.rab, h.off⟩
theorem Two.in_ (h : Two W0 w F G p q S R) : In (Un F G) w := fun k hk => hk.elim (h.s.in_ k) (h.rin k)
theorem Two.above (h : Two W0 w F G p q S R) : ∀ k, Un F G k → W0.heap.size ≤ k := fun k hk => hk.elim (h.s.above k) (h.rab k)
theorem Two.below (h : Two W0 w F G p q S R) : Below W0.heap.size W0 w := h.s.below
theorem Two.beside {a b : Nat} {T Q : Sh} (h : Two W0 w H H' a b T Q) (hm : Two W0 w F G p q S R) (st : Step (Un F G) w (Un F' G') w') (ho : Off (Un F G) (Un H H')) : Two W0 w' H H' a b T Q :=
  ⟨⟨h.s.is.kept st.kept (fun k hk hh => ho k hk (Or.inl hh)) h.s.in_, h.s.in_.up st.kept.size, h.s.above, hm.below.trans (st.below hm.above hm.below.size)⟩, h.r.kept st.kept (fun k hk hh => ho k hk (Or.inr hh)) h.rin, h.rin.up st.kept.size, h.rab, h.off⟩

/-- A call to the shelf. -/
theorem two_s (h : Two W0 w F G p q S R) {f : FuncId} {args : Array Value} {v : Value} (hc : Calls Try.prog f args w fun e w' => e = .returned v ∧ ∃ F', ShIs w' F' p S' ∧ Step F w F' w') :
    Calls Try.prog f args w fun e w' => e = .returned v ∧ ∃ F', Two W0 w' F' G p q S' R ∧ Step (Un F G) w (Un F' G) w' :=
  hc.mono fun e w' ⟨he, F', hs, st⟩ => ⟨he, F', h.turnS (h.s.step hs st) st, st.left G⟩
/-- A call to the document's own. -/
theorem two_r (h : Two W0 w F G p q S R) {f : FuncId} {args : Array Value} {v : Value} (hc : Calls Try.prog f args w fun e w' => e = .returned v ∧ ∃ G', RfIs w' G' q R' ∧ Step G w G' w') :
    Calls Try.prog f args w fun e w' => e = .returned v ∧ ∃ G', Two W0 w' F G' p q S R' ∧ Step (Un F G) w (Un F G') w' :=
  hc.mono fun e w' ⟨he, G', hr, st⟩ => ⟨he, G', h.turnR hr st, st.right F⟩
end

/-- The call's operation, in a block of its own. -/
structure OpAt (w : World) (F G : Nat → Prop) (b : Nat) (kind n : Int) (s : ByteArray) : Prop where
  at_ : w.heap[b]? = some (.cells #[.int .i64 kind, .int .i64 n, .string s] 31 (0, 0))
  not : ¬ Un F G b
theorem OpAt.step {w w' : World} {F G F' G' : Nat → Prop} {b : Nat} {kind n : Int} {s : ByteArray} (h : OpAt w F G b kind n s) (st : Step (Un F G) w (Un F' G') w') : OpAt w' F' G' b kind n s := by
  have hlt := (Array.getElem?_eq_some_iff.1 h.at_).1
  refine ⟨by rw [st.kept.block b hlt h.not]; exact h.at_, fun hb => ?_⟩
  rcases st.new b hb with h1 | h1
  · exact h.not h1
  · omega
theorem OpAt.cells {w : World} {F G : Nat → Prop} {b : Nat} {kind n : Int} {s : ByteArray} (h : OpAt w F G b kind n s) :
    w.cell? ⟨b, 0, none⟩ = some (.int .i64 kind) ∧ w.cell? ⟨b, 1, none⟩ = some (.int .i64 n) ∧ w.cell? ⟨b, 2, none⟩ = some (.string s) :=
  ⟨cell_at h.at_ rfl, cell_at h.at_ rfl, cell_at h.at_ rfl⟩

section
variable {W0 w : World} {F G : Nat → Prop} {p q : Nat} {S R : Sh}
theorem append2 (h : Two W0 w F G p q S R) (s : ByteArray) (hs : s.size ≤ 1099511627776) :
    Calls Try.prog 16 #[.pointer (some ⟨p, 0, none⟩), .string s] w fun e w' => e = .returned (.int .i64 (S.app s).2) ∧ ∃ F', Two W0 w' F' G p q (S.app s).1 R ∧ Step (Un F G) w (Un F' G) w' :=
  two_s h (append_any F p S s w h.s.is hs)
theorem rappend2 (h : Two W0 w F G p q S R) (s : ByteArray) (hs : s.size ≤ 1099511627776) :
    Calls Try.prog 34 #[.pointer (some ⟨q, 0, none⟩), .string s] w fun e w' => e = .returned (.int .i64 (R.app s).2) ∧ ∃ G', Two W0 w' F G' p q S (R.app s).1 ∧ Step (Un F G) w (Un F G') w' :=
  two_r h ((rappend_any G q R s w h.r hs).mono fun e w' ⟨he, hr, hk⟩ => ⟨he, G, hr, Step.same hk⟩)
theorem sync2 (h : Two W0 w F G p q S R)  :
    Calls Try.prog 17 #[.pointer (some ⟨p, 0, none⟩)] w fun e w' => e = .returned (.tuple #[]) ∧ ∃ F', Two W0 w' F' G p q S.sync R ∧ Step (Un F G) w (Un F' G) w' :=
  two_s h ((sync_any F p S w h.s.is).mono fun e w' ⟨he, hr, hk⟩ => ⟨he, F, hr, Step.same hk⟩)
theorem cut2 (h : Two W0 w F G p q S R) (n : Int) (hn : -9223372036854775808 ≤ n ∧ n ≤ 9223372036854775807) :
    Calls Try.prog 28 #[.pointer (some ⟨p, 0, none⟩), .int .i64 n] w fun e w' => e = .returned (.tuple #[]) ∧ ∃ F', Two W0 w' F' G p q (S.cut n) R ∧ Step (Un F G) w (Un F' G) w' :=
  two_s h ((cut_any F p S n w h.s.is hn).mono fun e w' ⟨he, hr, hk⟩ => ⟨he, F, hr, Step.same hk⟩)
theorem rcut2 (h : Two W0 w F G p q S R) (n : Int) (hn : -9223372036854775808 ≤ n ∧ n ≤ 9223372036854775807) :
    Calls Try.prog 29 #[.pointer (some ⟨q, 0, none⟩), .int .i64 n] w fun e w' => e = .returned (.tuple #[]) ∧ ∃ G', Two W0 w' F G' p q S (R.cut n) ∧ Step (Un F G) w (Un F G') w' :=
  two_r h ((rcut_any G q R n w h.r hn).mono fun e w' ⟨he, hr, hk⟩ => ⟨he, G, hr, Step.same hk⟩)
theorem put2 (h : Two W0 w F G p q S R) (n : Int) (s : ByteArray) (hn : (Lit.int .i64 n).wf = true) (hs : s.size ≤ 1099511627776) :
    Calls Try.prog 18 #[.pointer (some ⟨p, 0, none⟩), .int .i64 n, .string s] w fun e w' => e = .returned (.int .i64 (S.put n s).2) ∧ ∃ F', Two W0 w' F' G p q (S.put n s).1 R ∧ Step (Un F G) w (Un F' G) w' :=
  two_s h ((put_any F p S n s w h.s.is hn hs).mono fun e w' ⟨he, hr, hk⟩ => ⟨he, F, hr, Step.same hk⟩)
theorem rput2 (h : Two W0 w F G p q S R) (n : Int) (s : ByteArray) (hn : (Lit.int .i64 n).wf = true) (hs : s.size ≤ 1099511627776) :
    Calls Try.prog 30 #[.pointer (some ⟨q, 0, none⟩), .int .i64 n, .string s] w fun e w' => e = .returned (.int .i64 (R.put n s).2) ∧ ∃ G', Two W0 w' F G' p q S (R.put n s).1 ∧ Step (Un F G) w (Un F G') w' :=
  two_r h (rput_any G q R n s w h.r hn hs)
theorem drop2 (h : Two W0 w F G p q S R) (n : Int) (hn : (Lit.int .i64 n).wf = true) :
    Calls Try.prog 25 #[.pointer (some ⟨p, 0, none⟩), .int .i64 n] w fun e w' => e = .returned (.bool (hasF S.fs n)) ∧ ∃ F', Two W0 w' F' G p q (S.drop n) R ∧ Step (Un F G) w (Un F' G) w' :=
  two_s h ((drop_any F p S n w h.s.is hn).mono fun e w' ⟨he, hr, hk⟩ => ⟨he, F, hr, Step.same hk⟩)
theorem rdrop2 (h : Two W0 w F G p q S R) (n : Int) (hn : (Lit.int .i64 n).wf = true) :
    Calls Try.prog 31 #[.pointer (some ⟨q, 0, none⟩), .int .i64 n] w fun e w' => e = .returned (.bool (hasF R.fs n)) ∧ ∃ G', Two W0 w' F G' p q S (R.drop n) ∧ Step (Un F G) w (Un F G') w' :=
  two_r h (rdrop_any G q R n w h.r hn)
theorem turn2 (h : Two W0 w F G p q S R) (s : ByteArray) (hs : s.size ≤ 1099511627776) :
    Calls Try.prog 22 #[.pointer (some ⟨p, 0, none⟩), .string s] w fun e w' => e = .returned (.int .i64 (S.turn s).2) ∧ ∃ F', Two W0 w' F' G p q (S.turn s).1 R ∧ Step (Un F G) w (Un F' G) w' :=
  two_s h ((turn_any F p S s w h.s.is hs).mono fun e w' ⟨he, hr, hk⟩ => ⟨he, F, hr, Step.same hk⟩)
theorem rturn2 (h : Two W0 w F G p q S R) (s : ByteArray) (hs : s.size ≤ 1099511627776) :
    Calls Try.prog 32 #[.pointer (some ⟨q, 0, none⟩), .string s] w fun e w' => e = .returned (.int .i64 (R.turn s).2) ∧ ∃ G', Two W0 w' F G' p q S (R.turn s).1 ∧ Step (Un F G) w (Un F G') w' :=
  two_r h ((rturn_any G q R s w h.r hs).mono fun e w' ⟨he, hr, hk⟩ => ⟨he, G, hr, Step.same hk⟩)
theorem crash2 (h : Two W0 w F G p q S R) (n : Int) (hn : -9223372036854775808 ≤ n ∧ n ≤ 9223372036854775807) :
    Calls Try.prog 20 #[.pointer (some ⟨p, 0, none⟩), .int .i64 n] w fun e w' => e = .returned (.tuple #[]) ∧ ∃ F', Two W0 w' F' G p q (S.crash n) R ∧ Step (Un F G) w (Un F' G) w' :=
  two_s h ((crash_any F p S n w h.s.is hn).mono fun e w' ⟨he, hr, hk⟩ => ⟨he, F, hr, Step.same hk⟩)
theorem rcrash2 (h : Two W0 w F G p q S R) (n : Int) (hn : -9223372036854775808 ≤ n ∧ n ≤ 9223372036854775807) :
    Calls Try.prog 33 #[.pointer (some ⟨q, 0, none⟩), .int .i64 n] w fun e w' => e = .returned (.tuple #[]) ∧ ∃ G', Two W0 w' F G' p q S (R.crash n) ∧ Step (Un F G) w (Un F G') w' :=
  two_r h ((rcrash_any G q R n w h.r hn).mono fun e w' ⟨he, hr, hk⟩ => ⟨he, G, hr, Step.same hk⟩)
theorem wipe2 (h : Two W0 w F G p q S R)  :
    Calls Try.prog 26 #[.pointer (some ⟨p, 0, none⟩)] w fun e w' => e = .returned (.tuple #[]) ∧ ∃ F', Two W0 w' F' G p q Sh.new R ∧ Step (Un F G) w (Un F' G) w' :=
  two_s h (wipe_any F p S w h.s.is h.s.in_)
end

end Go.Proofs.Ytjfkfiaheohhcaa
