/-
  The document's own reader of a text: how it lies; the code point that is next.
-/
import Derived.Test.YtdbdlgmejddbhaaDoorLx7
import Derived.Test.YtdbdlgmejddbhaaDoorRfL
import Derived.Test.YtdbdlgmejddbhaaDoorRfN
import Derived.Test.YtdbdlgmejddbhaaDoorKq
import Derived.Deep.QuietTactic
import Derived.BigQuiet
set_option linter.unusedVariables false
namespace Go.Proofs.YtdbdlgmejddbhaaDoor
open Go Go.RowKit Go.Proofs

/-- The I-th code point begins at byte p. -/
def Pos (s : ByteArray) (I p : Nat) : Prop := p ≤ s.size ∧ I ≤ (cps s).length ∧ ∃ f, s.size ≤ p + f ∧ (cps s).drop I = cpsF s f p
theorem Pos.start (s : ByteArray) : Pos s 0 0 := ⟨Nat.zero_le _, Nat.zero_le _, s.size, by omega, rfl⟩
theorem Pos.get {s : ByteArray} {I p : Nat} (h : Pos s I p) (hp : p < s.size) : I < (cps s).length ∧ (cps s)[I]? = some ((Utf8.decode s p).1, p, (Utf8.decode s p).2) ∧ Pos s (I + 1) (p + (Utf8.decode s p).2) := by
  obtain ⟨h1, h2, f, h3, h4⟩ := h
  obtain ⟨g, hg1, hg2, hg3⟩ := cpsF_step s f p hp h3
  rw [hg2] at h4
  have hlt : I < (cps s).length := by
    have := congrArg List.length h4
    rw [List.length_drop, List.length_cons] at this
    omega
  have hget : (cps s)[I]? = some ((Utf8.decode s p).1, p, (Utf8.decode s p).2) := by
    have := congrArg (fun l => l[0]?) h4
    simpa using this
  refine ⟨hlt, hget, decode_in s p hp, hlt, g, hg3, ?_⟩
  have := congrArg (List.drop 1) h4
  rw [List.drop_drop] at this
  simpa using this
theorem Pos.fin {s : ByteArray} {I p : Nat} (h : Pos s I p) (hp : ¬ p < s.size) : I = (cps s).length ∧ p = s.size := by
  obtain ⟨h1, h2, f, h3, h4⟩ := h
  rw [cpsF_end _ _ _ hp] at h4
  have := congrArg List.length h4
  rw [List.length_drop, List.length_nil] at this
  omega

theorem own_set {w w' : World} {b n size N : Nat} {T e : TypeId} {v : Value} {xs : List Value} {cs : Array Value} (h : w.ownsRow b T size v n xs) (hk : Kept (fun k => k = N) w w') (hN : w.heap[N]? = some (.cells cs e (0, 0))) (hT : T ≠ e) : w'.ownsRow b T size v n xs :=
  own_kept h fun g hg => hk.block g (own_block_lt h g hg) fun hf => by
    obtain ⟨cs', h2⟩ := own_tag h g hg
    subst hf
    rw [hN] at h2
    injection h2 with h2
    injection h2 with _ h3
    exact hT h3.symm

/-- The reader at block q: the text, its code points, where it is. -/
structure PSt (B : Nat) (w : World) (q : Nat) (s : ByteArray) (v : Value) (I p : Nat) : Prop where
  blk : w.heap[q]? = some (.cells #[.string s, v, .int .i64 (I : Nat)] 53 (0, 0))
  all : IsAll B v (cps s) w
  pos : Pos s I p
section
variable {B : Nat} {w w' : World} {q : Nat} {s : ByteArray} {v : Value} {I p : Nat}
theorem PSt.lt (h : PSt B w q s v I p) : q < w.heap.size := (Array.getElem?_eq_some_iff.1 h.blk).1
theorem PSt.below (h : PSt B w q s v I p) (hb : Below w.heap.size w w') : PSt B w' q s v I p := ⟨(hb.block _ h.lt).trans h.blk, owns_below h.all hb, h.pos⟩
theorem below_drewN2 (w : World) (n : Nat) : Below w.heap.size w (w.drewN n) := (Below.refl _ _).trans ⟨rfl, rfl, rfl, Nat.le_refl _, fun _ _ => rfl⟩
theorem PSt.drewN (h : PSt B w q s v I p) (n : Nat) : PSt B (w.drewN n) q s v I p := h.below (below_drewN2 w n)
/-- The reader goes on. -/
theorem PSt.step (h : PSt B w q s v I p) {J r : Nat} (hp : Pos s J r) : PSt B (w.setCell ⟨q, 2, none⟩ (.int .i64 (J : Nat))) q s v J r ∧ Kept (fun k => k = q) w (w.setCell ⟨q, 2, none⟩ (.int .i64 (J : Nat))) := by
  have hk := Kept.setCell (fun k => k = q) w ⟨q, 2, none⟩ (.int .i64 (J : Nat)) rfl
  refine ⟨⟨?_, own_set h.all hk h.blk (by decide), hp⟩, hk⟩
  rw [heap_setCell_same _ q 2 _ _ _ h.blk]
  rfl
end

/-- The code point at byte p; below 0: the end. -/
def rV (s : ByteArray) (p : Nat) : Int := if p < s.size then ((Utf8.decode s p).1 : Nat) else -1

set_option maxHeartbeats 4000000 in
set_option maxRecDepth 100000 in
theorem pr_any {B q I p J r m : Nat} {s : ByteArray} {v : Value} (w : World) (h : PSt B w q s v I p) (hs : s.size ≤ 1000) (hJ : J = I + m) (hr : Pos s J r) (hm : m ≤ 1) :
    Calls Tryd.prog 29 #[.pointer (some ⟨q, 0, none⟩), .int .i64 (m : Nat)] w fun e w' => e = .returned (.int .i32 (rV s r)) ∧ ∃ n, w' = w.drewN n := by
  subst hJ
  have hlen := cps_length s
  obtain ⟨A, cap, rfl, hcap, hmax, hform⟩ := h.all.form
  unfold maxLen at hmax
  have c0 := cell_at (i := 0) h.blk rfl
  have c1 := cell_at (i := 1) h.blk rfl
  have c2 := cell_at (i := 2) h.blk rfl
  have hI : I ≤ 1000 := by have := h.pos.2.1; omega
  by_cases hp : r < s.size
  · obtain ⟨g1, g2, g3⟩ := hr.get hp
    have hv : rV s r = ((Utf8.decode s r).1 : Nat) := if_pos hp
    rw [hv]
    obtain ⟨g, rfl, hcell⟩ : ∃ g, A = some ⟨g, 0, none⟩ ∧ _ := hform.resolve_left (fun h => by rw [h] at g1; simp at g1)
    obtain ⟨x0, x1, x2, x3⟩ := hcell _ _ g2
    have hd : decide (((cps s).length : Int) ≤ (I : Int) + (m : Int)) = false := by simp; omega
    have h0 : (0 : Int) ≤ (I : Int) + (m : Int) := by omega
    have hd2 : ((I : Int) + (m : Int)) < ((cps s).length : Int) := by omega
    clear hform hcell hr h g2 g3
    go_enter Tryd.func29, Tryd.ntmps29
    go_wp2_with fail
    go_quiet (fail)
    go_wp2_with fail
    go_quiet (fail)
    go_wp2
    go_ret
    exact ⟨rfl, _, World.drewN_drewN _ _ _⟩
  · obtain ⟨g1, _⟩ := hr.fin hp
    have hv : rV s r = -1 := if_neg hp
    rw [hv]
    have hd : decide (((cps s).length : Int) ≤ (I : Int) + (m : Int)) = true := by simp; omega
    clear hform hr h
    go_enter Tryd.func29, Tryd.ntmps29
    go_wp2_with fail
    go_quiet (fail)
    go_wp2
    go_ret
    exact ⟨rfl, _, rfl⟩
/-- The next one. -/
theorem pr0_any {B q I p : Nat} {s : ByteArray} {v : Value} (w : World) (h : PSt B w q s v I p) (hs : s.size ≤ 1000) :
    Calls Tryd.prog 29 #[.pointer (some ⟨q, 0, none⟩), .int .i64 0] w fun e w' => e = .returned (.int .i32 (rV s p)) ∧ ∃ n, w' = w.drewN n :=
  pr_any (J := I) (r := p) (m := 0) w h hs rfl h.pos (by omega)

theorem pdig_any (r : Int) (w : World) :
    Calls Tryd.prog 32 #[.int .i32 r] w fun e w' => e = .returned (.bool (decide (48 ≤ r) && decide (r ≤ 57))) ∧ w' = w := by
  by_cases h1 : (48 : Int) ≤ r
  · go_enter Tryd.func32, Tryd.ntmps32
    go_wp2
    go_ret
    exact ⟨ret_bool (by rw [decide_eq_true h1, Bool.true_and]), rfl⟩
  · go_enter Tryd.func32, Tryd.ntmps32
    go_wp2
    go_ret
    exact ⟨ret_bool (by rw [decide_eq_false (by omega), Bool.false_and]), rfl⟩
/-- Whether the next one is a digit. -/
theorem rV_dig (s : ByteArray) (p : Nat) : (decide (48 ≤ rV s p) && decide (rV s p ≤ 57)) = dgtC (Lib.decodeL (s.data.toList.drop p)) := by
  rw [Lib.decodeL_drop]
  unfold rV
  by_cases hp : p < s.size
  · rw [if_pos hp]
    unfold dgtC
    rw [Bool.eq_iff_iff]
    simp
    omega
  · rw [if_neg hp]
    have : s.data.toList.drop p = [] := List.drop_eq_nil_of_le (by rw [← Lib.size_eq]; omega)
    rw [← Lib.decodeL_drop, this]
    decide

/-! ### letters -/
set_option maxHeartbeats 4000000 in
set_option maxRecDepth 100000 in
theorem plet_end {B q I p : Nat} {s : ByteArray} {v : Value} (d : Bool) (w : World) (h : PSt B w q s v I p) (hs : s.size ≤ 1000) (hp : ¬ p < s.size) :
    Calls Tryd.prog 30 #[.pointer (some ⟨q, 0, none⟩), .bool d] w fun e w' => e = .returned (.bool false) ∧ Below w.heap.size w w' := by
  have hlen := cps_length s
  obtain ⟨A, cap, rfl, hcap, hmax, hform⟩ := h.all.form
  unfold maxLen at hmax
  have c0 := cell_at (i := 0) h.blk rfl
  have c1 := cell_at (i := 1) h.blk rfl
  have c2 := cell_at (i := 2) h.blk rfl
  obtain ⟨g1, _⟩ := h.pos.fin hp
  have hI : I ≤ 1000 := by omega
  have hd : decide (((cps s).length : Int) ≤ (I : Int)) = true := by simp; omega
  have hdn : decide ((cps s).length ≤ I) = true := by simp; omega
  clear hform h
  go_enter Tryd.func30, Tryd.ntmps30
  go_wp2_with fail
  go_quiet (fail)
  go_wp2
  go_ret
  exact ⟨rfl, below_drewN2 _ _⟩
end Go.Proofs.YtdbdlgmejddbhaaDoor
