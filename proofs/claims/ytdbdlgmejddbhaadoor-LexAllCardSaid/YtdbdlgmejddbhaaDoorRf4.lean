/-
  Contracts of the document's own answers of layer 1: All.
-/
import Derived.Test.YtdbdlgmejddbhaaDoorRf3
set_option linter.unusedVariables false
namespace Go.Proofs.YtdbdlgmejddbhaaDoor
open Go Go.RowKit

def rcells (c : Nat × Nat × Nat) : List Value := [.int .i32 (c.1 : Nat), .int .i64 (c.2.1 : Nat), .int .i64 (c.2.2 : Nat), .bool (rightB c)]
theorem rcells_length (l : List (Nat × Nat × Nat)) : (l.flatMap rcells).length = l.length * 4 := by
  induction l with
  | nil => rfl
  | cons c l ih => rw [List.flatMap_cons, List.length_append, ih, List.length_cons]; simp [rcells]; omega

theorem below_grown {w w' : World} (h : Below w.heap.size w w') : w.grownBy w' none := ⟨h.os, h.tape, h.output, h.size, fun k hk _ => h.block k hk⟩
theorem owns_below {w w' : World} {B : Nat} {e : TypeId} {sz : Nat} {v : Value} {n : Nat} {xs : List Value} (h : w.ownsRow B e sz v n xs) (hb : Below w.heap.size w w') : w'.ownsRow B e sz v n xs :=
  h.kept (below_grown hb) (by cases hv : v.ownBlock <;> simp)

theorem infoRune : (Tryd.prog.info? 60).map (fun i => (i.zero, i.size, i.bytes)) = some (some (.agg #[.int .i32 0, .int .i64 0, .int .i64 0, .bool false]), 4, 32) := by kernel_rfl

theorem news_list (w : World) (l : List Value) (T : TypeId) (g : Nat) (hg : g = w.heap.size) : ∀ j u, l[j]? = some u → (w.alloc (.cells l.toArray T)).cell? ((⟨g, 0, none⟩ : Addr).add j) = some u := by
  intro j u h
  subst hg
  rw [Addr.add_lit, Nat.zero_add, blk_cell (heap_alloc_new w _)]
  simpa using h

/-- What All answers: a slice of the call's own with the code points. -/
def IsAll (B : Nat) (v : Value) (l : List (Nat × Nat × Nat)) (w : World) : Prop := w.ownsRow B 60 4 v l.length (l.flatMap rcells)

set_option maxHeartbeats 3200000 in
set_option maxRecDepth 100000 in
theorem all_any (s : ByteArray) (w : World) (hs : s.size ≤ 1099511627776) :
    Calls Tryd.prog 17 #[.string s] w fun e w' => ∃ v, e = .returned v ∧ IsAll w.heap.size v (cps s) w' ∧ Below w.heap.size w w' := by
  have hlen := cps_length s
  obtain ⟨i0, hi, hz0, hz1, hz2⟩ := info_parts infoRune
  go_enter Tryd.func17, Tryd.ntmps17
  go_wp2
  go_loopw [3, 4] (fun l a wr => ∃ (v : Value) (pos f : Nat) (done : List (Nat × Nat × Nat)), v = l ∧ a = .int .i64 pos ∧ IsAll w.heap.size v done wr ∧ Below w.heap.size w wr ∧ done ++ cpsF s f pos = cps s ∧ s.size ≤ pos + f) (fun _ a _ => s.size - (intOf a).toNat)
  case atStart => exact ⟨_, 0, s.size, [], rfl, rfl, ⟨by simp, .inl ⟨rfl, rfl⟩⟩, Below.refl _ _, rfl, by omega⟩
  case round =>
    obtain ⟨v, pos, f, done, rfl, rfl, hown, hbw, hd, hf⟩ := hrel
    have hdl : done.length ≤ s.size := by
      have := congrArg List.length hd
      rw [List.length_append] at this
      omega
    have HD := Lib.hid hd
    clear hd
    by_cases hp : pos < s.size
    · obtain ⟨g, hg1, hg2, hg3⟩ := cpsF_step s f pos hp hf
      have H2 := Lib.hid hg2
      clear hg1 hg2
      have hwd := width_pos s pos hp
      have hin := decode_in s pos hp
      go_wp2_with fail
      refine (one_any s pos _ hs hp).mono ?_
      rintro e w1 ⟨rfl, b1⟩
      have hown1 : IsAll w.heap.size v done w1 := owns_below hown b1
      unfold IsAll at hown1
      have hw0 := hbw.size
      have hw1 := b1.size
      unfold oneV
      go_wp2_with (at_builtin; refine wpList_append_own _ rfl _ _ 50 rfl w.heap.size 60 i0 (.agg #[.int .i32 0, .int .i64 0, .int .i64 0, .bool false]) 4 32 Tryd.underlying50 hi hz0 hz1 hz2 rfl (by decide) _ _ _ rfl ((hown1.alloc _).alloc _) ⟨w1.heap.size + 1, 0, none⟩ 1 1 (rcells ((Utf8.decode s pos).1, pos, (Utf8.decode s pos).2)) rfl rfl ?c1 ?c2 ?c3 ?c4 ?c5 ?_)
      case c1 => exact news_list (w1.alloc _) (rcells ((Utf8.decode s pos).1, pos, (Utf8.decode s pos).2)) _ _ (by simp)
      case c2 => intro u hu; simp [rcells] at hu; rcases hu with rfl | rfl | rfl | rfl <;> rfl
      case c3 => unfold maxLen; omega
      case c4 => omega
      case c5 => simp; omega
      intro v' w2 hown' hgrow _
      have hx : v.ownBlock ≠ some w1.heap.size := fun e => by
        have := (hown1.lt _ e).2
        omega
      have hcell : w2.cell? ⟨w1.heap.size, 2, none⟩ = some (.int .i64 ((Utf8.decode s pos).2 : Nat)) := by
        have h1 := hgrow.block w1.heap.size (by simp; omega) (fun e => hx e.symm)
        rw [Below.heap_alloc _ _ _ (by simp), heap_alloc_new w1 _] at h1
        rw [blk_cell h1]
        rfl
      go_wp2
      go_roundw
      case rel =>
        refine ⟨v', pos + (Utf8.decode s pos).2, g, done ++ [((Utf8.decode s pos).1, pos, (Utf8.decode s pos).2)], rfl, by go_num, ?_, ?_, ?_, hg3⟩
        · unfold IsAll
          rw [List.length_append, List.flatMap_append]
          simpa using hown'
        · exact ((hbw.trans (b1.mono hw0)).alloc (by omega) _).alloc (by simp; omega) _ |>.grown hgrow (by simp; omega) (fun k hk => (hown1.lt k hk).1)
        · rw [List.append_assoc]
          have := HD.out
          rw [H2.out] at this
          exact this
      case measure => simp [intOf]; omega
    · have hnil : cpsF s f pos = [] := cpsF_end _ _ _ hp
      go_wp2
      go_ret
      refine ⟨v, rfl, ?_, hbw⟩
      have := HD.out
      rw [hnil, List.append_nil] at this
      rw [← this]
      exact hown
end Go.Proofs.YtdbdlgmejddbhaaDoor
