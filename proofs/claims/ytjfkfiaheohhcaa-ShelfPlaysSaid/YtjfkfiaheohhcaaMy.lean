/-
  A shelf of a call's own, from call to call; the example of layer 5: awake.
-/
import Derived.Test.YtjfkfiaheohhcaaSh4
set_option linter.unusedVariables false
set_option linter.unusedSimpArgs false
namespace Go.Proofs.Ytjfkfiaheohhcaa
open Go Go.RowKit

/-- A shelf that lies among the blocks which a call, begun in W0, has made. -/
structure My (W0 w : World) (F : Nat → Prop) (p : Nat) (S : Sh) : Prop where
  is : ShIs w F p S
  in_ : In F w
  above : ∀ k, F k → W0.heap.size ≤ k
  below : Below W0.heap.size W0 w

section
variable {W0 w w' : World} {F F' G : Nat → Prop} {p q : Nat} {S S' T : Sh}
theorem My.step (h : My W0 w F p S) (hs : ShIs w' F' p S') (st : Step F w F' w') : My W0 w' F' p S' :=
  ⟨hs, st.in_ h.in_, st.above h.above h.below.size, h.below.trans (st.below h.above h.below.size)⟩
theorem My.same (h : My W0 w F p S) (hs : ShIs w' F p S') (hk : Kept F w w') : My W0 w' F p S' := h.step hs (Step.same hk)
theorem My.read (h : My W0 w F p S) (hb : Below w.heap.size w w') : My W0 w' F p S := h.same (h.is.below hb) (Kept.of_below hb F)
theorem My.drew (h : My W0 w F p S) : My W0 w.drew F p S := h.read (Below.refl _ _).drew
theorem My.ok (h : My W0 w F p S) : S.Ok := h.is.ok
/-- What stands beside. -/
theorem My.beside (h : My W0 w G q T) (hm : My W0 w F p S) (st : Step F w F' w') (ho : Off F G) : My W0 w' G q T :=
  ⟨h.is.kept st.kept ho h.in_, h.in_.up st.kept.size, h.above, hm.below.trans (st.below hm.above hm.below.size)⟩
end

theorem new_my (W0 w : World) (hb : Below W0.heap.size W0 w) :
    Calls Try.prog 7 #[] w fun e w' => ∃ p F, e = .returned (.pointer (some ⟨p, 0, none⟩)) ∧ My W0 w' F p Sh.new ∧ Below w.heap.size w w' ∧ ∀ k, F k → w.heap.size ≤ k :=
  (new_any w).mono fun e w' ⟨p, F, he, hs, hb', hF⟩ => ⟨p, F, he, ⟨hs, fun k hk => (hF k hk).2, fun k hk => Nat.le_trans hb.size (hF k hk).1, hb.trans (hb'.mono hb.size)⟩, hb', fun k hk => (hF k hk).1⟩
theorem append_my {W0 w : World} {F : Nat → Prop} {p : Nat} {S : Sh} (h : My W0 w F p S) (s : ByteArray) (hs : s.size ≤ 1099511627776) (S' : Sh) (r : Int) (he : S.app s = (S', r)) :
    Calls Try.prog 16 #[.pointer (some ⟨p, 0, none⟩), .string s] w fun e w' => e = .returned (.int .i64 r) ∧ ∃ F', My W0 w' F' p S' ∧ Step F w F' w' :=
  (append_any F p S s w h.is hs).mono fun e w' ⟨h1, F', h2, h3⟩ => by
    rw [he] at h1 h2
    exact ⟨h1, F', h.step h2 h3, h3⟩
theorem sync_my {W0 w : World} {F : Nat → Prop} {p : Nat} {S : Sh} (h : My W0 w F p S) (S' : Sh) (he : S.sync = S') :
    Calls Try.prog 17 #[.pointer (some ⟨p, 0, none⟩)] w fun e w' => e = .returned (.tuple #[]) ∧ My W0 w' F p S' ∧ Step F w F w' :=
  (sync_any F p S w h.is).mono fun e w' ⟨h1, h2, h3⟩ => by
    rw [he] at h2
    exact ⟨h1, h.same h2 h3, Step.same h3⟩
theorem crash_my {W0 w : World} {F : Nat → Prop} {p : Nat} {S : Sh} (h : My W0 w F p S) (n : Int) (hn : -9223372036854775808 ≤ n ∧ n ≤ 9223372036854775807) (S' : Sh) (he : S.crash n = S') :
    Calls Try.prog 20 #[.pointer (some ⟨p, 0, none⟩), .int .i64 n] w fun e w' => e = .returned (.tuple #[]) ∧ My W0 w' F p S' ∧ Step F w F w' :=
  (crash_any F p S n w h.is hn).mono fun e w' ⟨h1, h2, h3⟩ => by
    rw [he] at h2
    exact ⟨h1, h.same h2 h3, Step.same h3⟩
theorem turn_my {W0 w : World} {F : Nat → Prop} {p : Nat} {S : Sh} (h : My W0 w F p S) (s : ByteArray) (hs : s.size ≤ 1099511627776) (S' : Sh) (r : Int) (he : S.turn s = (S', r)) :
    Calls Try.prog 22 #[.pointer (some ⟨p, 0, none⟩), .string s] w fun e w' => e = .returned (.int .i64 r) ∧ My W0 w' F p S' ∧ Step F w F w' :=
  (turn_any F p S s w h.is hs).mono fun e w' ⟨h1, h2, h3⟩ => by
    rw [he] at h1 h2
    exact ⟨h1, h.same h2 h3, Step.same h3⟩
theorem put_my {W0 w : World} {F : Nat → Prop} {p : Nat} {S : Sh} (h : My W0 w F p S) (n : Int) (s : ByteArray) (hn : (Lit.int .i64 n).wf = true) (hs : s.size ≤ 1099511627776) (S' : Sh) (r : Int) (he : S.put n s = (S', r)) :
    Calls Try.prog 18 #[.pointer (some ⟨p, 0, none⟩), .int .i64 n, .string s] w fun e w' => e = .returned (.int .i64 r) ∧ My W0 w' F p S' ∧ Step F w F w' :=
  (put_any F p S n s w h.is hn hs).mono fun e w' ⟨h1, h2, h3⟩ => by
    rw [he] at h1 h2
    exact ⟨h1, h.same h2 h3, Step.same h3⟩
theorem drop_my {W0 w : World} {F : Nat → Prop} {p : Nat} {S : Sh} (h : My W0 w F p S) (n : Int) (hn : (Lit.int .i64 n).wf = true) (S' : Sh) (b : Bool) (he : S.drop n = S') (hb : hasF S.fs n = b) :
    Calls Try.prog 25 #[.pointer (some ⟨p, 0, none⟩), .int .i64 n] w fun e w' => e = .returned (.bool b) ∧ My W0 w' F p S' ∧ Step F w F w' :=
  (drop_any F p S n w h.is hn).mono fun e w' ⟨h1, h2, h3⟩ => by
    rw [he] at h2
    rw [hb] at h1
    exact ⟨h1, h.same h2 h3, Step.same h3⟩
theorem wipe_my {W0 w : World} {F : Nat → Prop} {p : Nat} {S : Sh} (h : My W0 w F p S) :
    Calls Try.prog 26 #[.pointer (some ⟨p, 0, none⟩)] w fun e w' => e = .returned (.tuple #[]) ∧ ∃ F', My W0 w' F' p Sh.new ∧ Step F w F' w' :=
  (wipe_any F p S w h.is h.in_).mono fun e w' ⟨h1, F', h2, h3⟩ => ⟨h1, F', h.step h2 h3, h3⟩
theorem copy_my {W0 w : World} {F : Nat → Prop} {p : Nat} {S : Sh} (h : My W0 w F p S) :
    Calls Try.prog 14 #[.pointer (some ⟨p, 0, none⟩)] w fun e w' => ∃ q G, e = .returned (.pointer (some ⟨q, 0, none⟩)) ∧ My W0 w' F p S ∧ My W0 w' G q S ∧ Off F G ∧ Below w.heap.size w w' :=
  (copy_any F p S w h.is).mono fun e w' ⟨q, G, he, hs, hb, hG⟩ => ⟨q, G, he, h.read hb, ⟨hs, fun k hk => (hG k hk).2, fun k hk => Nat.le_trans h.below.size (hG k hk).1, h.below.trans (hb.mono h.below.size)⟩, fun k hk hg => by have := h.in_ k hk; have := (hG k hg).1; omega, hb⟩
theorem log_my {W0 w : World} {F : Nat → Prop} {p : Nat} {S : Sh} (h : My W0 w F p S) (s : ByteArray) (hs : s.data.toList = S.log) :
    Calls Try.prog 21 #[.pointer (some ⟨p, 0, none⟩)] w fun e w' => e = .returned (.string s) ∧ w = w' :=
  (log_any F p S w h.is).mono fun e w' ⟨h1, h2⟩ => ⟨by rw [h1, mk_eq _ s hs], h2⟩
theorem man_my {W0 w : World} {F : Nat → Prop} {p : Nat} {S : Sh} (h : My W0 w F p S) (s : ByteArray) (hs : S.man = s) :
    Calls Try.prog 23 #[.pointer (some ⟨p, 0, none⟩)] w fun e w' => e = .returned (.string s) ∧ w = w' :=
  (man_any F p S w h.is).mono fun e w' ⟨h1, h2⟩ => ⟨by rw [h1, hs], h2⟩
theorem unsynced_my {W0 w : World} {F : Nat → Prop} {p : Nat} {S : Sh} (h : My W0 w F p S) (n : Nat) (hn : S.log.length - S.syn = n) :
    Calls Try.prog 19 #[.pointer (some ⟨p, 0, none⟩)] w fun e w' => e = .returned (.int .i64 (n : Nat)) ∧ Below w.heap.size w w' :=
  (unsynced_any F p S w h.is).mono fun e w' ⟨h1, h2, h3⟩ => ⟨by rw [h1, hn], ⟨h2.os, h2.tape, h2.output, h2.size, fun k _ => by rw [h3]⟩⟩
theorem get_my {W0 w : World} {F : Nat → Prop} {p : Nat} {S : Sh} (h : My W0 w F p S) (n : Int) (hn : (Lit.int .i64 n).wf = true) (s : ByteArray) (r : Int) (hs : getF S.fs n = s) (hr : (if hasF S.fs n = true then 0 else 9) = r) :
    Calls Try.prog 10 #[.pointer (some ⟨p, 0, none⟩), .int .i64 n] w fun e w' => e = .returned (.tuple #[.string s, .int .i64 r]) ∧ Below w.heap.size w w' :=
  (get_any F p S n w h.is hn).mono fun e w' ⟨h1, h2⟩ => ⟨by rw [h1, hs, hr], h2⟩
theorem nums_my {W0 w : World} {F : Nat → Prop} {p : Nat} {S : Sh} (h : My W0 w F p S) (n : Nat) (hn : S.fs.length = n) :
    Calls Try.prog 24 #[.pointer (some ⟨p, 0, none⟩)] w fun e w' => ∃ A c, e = .returned (.slice A n c) ∧ w'.ownsRow w.heap.size 3 1 (.slice A n c) n (iRow (numsF S.fs)) ∧ Below w.heap.size w w' :=
  (nums_any F p S w h.is).mono fun e w' ⟨v, h1, h2, h3⟩ => by
    subst hn
    obtain ⟨A, c, rfl, _⟩ := own_slice h2
    exact ⟨A, c, h1, h2, h3⟩

set_option maxHeartbeats 1000000 in
theorem awake_any (w : World) :
    Calls Try.prog 9 #[] w fun e w' => e = .returned (.bool true) ∧ Below w.heap.size w w' := by
  go_enter Try.func9, Try.ntmps9
  go_wp2_with fail
  refine (new_my w _ (Below.refl _ _)).mono ?_
  rintro e w1 ⟨p, F, rfl, m1, _⟩
  go_wp2_with fail
  refine (append_my m1 ⟨#[97, 98, 99]⟩ (by decide) ⟨[97, 98, 99], 0, [], ⟨#[]⟩⟩ 0 (by rfl)).mono ?_
  rintro e w2 ⟨rfl, F2, m2, _⟩
  go_wp2_with fail
  refine (sync_my m2 ⟨[97, 98, 99], 3, [], ⟨#[]⟩⟩ (by rfl)).mono ?_
  rintro e w3 ⟨rfl, m3, _⟩
  go_wp2_with fail
  refine (append_my m3 ⟨#[100, 101]⟩ (by decide) ⟨[97, 98, 99, 100, 101], 3, [], ⟨#[]⟩⟩ 0 (by rfl)).mono ?_
  rintro e w4 ⟨rfl, F4, m4, _⟩
  go_wp2_with fail
  refine (crash_my m4 1 (by decide) ⟨[97, 98, 99, 100], 4, [], ⟨#[]⟩⟩ (by rfl)).mono ?_
  rintro e w5 ⟨rfl, m5, _⟩
  go_wp2_with fail
  refine (log_my m5 ⟨#[97, 98, 99, 100]⟩ rfl).mono ?_
  rintro e w6 ⟨rfl, rfl⟩
  go_wp2_with fail
  refine (unsynced_my m5 0 rfl).mono ?_
  rintro e w7 ⟨rfl, b7⟩
  go_wp2
  go_ret
  exact ⟨rfl, (m5.read b7).below⟩
end Go.Proofs.Ytjfkfiaheohhcaa
