/-
  Bytes of one's own that grow (GENERAL); pack's putNum, putText.
-/
import Derived.Test.YthfanonjokpflaaTkl
import Derived.Test.YthfanonjokpflaaKf
import Derived.Test.YthfanonjokpflaaOr1
import Derived.Test.YthfanonjokpflaaSab
import Derived.Test.YthfanonjokpflaaKq
set_option linter.unusedVariables false
set_option linter.unusedSimpArgs false
namespace Go.Proofs.Ythfanonjokpflaa
open Go Go.RowKit

theorem ok_injB {α : Type} {a b : α} {w w' : World} (h : (Result.ok a w : Result α) = .ok b w') : a = b ∧ w = w' := by
  injection h with h1 h2
  exact ⟨h1, h2⟩
/-- Bytes of one's own, all of whose blocks lie at B or above it. -/
abbrev OwnY (B : Nat) (w : World) (v : Value) (l : Bs) : Prop := w.ownsRow B 5 1 v l.length (Lib.byteCells l)
/-- Where what has grown lies. -/
def Near (w : World) (v v' : Value) : Prop := v'.ownBlock = v.ownBlock ∨ ∀ k, v'.ownBlock = some k → w.heap.size ≤ k
theorem Near.on {w w1 : World} {v v1 v2 : Value} (h : Near w v v1) (hs : w.heap.size ≤ w1.heap.size) (h' : Near w1 v1 v2) : Near w v v2 := by
  rcases h' with h' | h'
  · rcases h with h | h
    · exact Or.inl (h'.trans h)
    · exact Or.inr fun k hk => h k (h'.symm.trans hk)
  · exact Or.inr fun k hk => Nat.le_trans hs (h' k hk)
/-- From v in w have come the bytes l1: v1 in w1. -/
structure Ly (B : Nat) (w : World) (v : Value) (w1 : World) (v1 : Value) (l1 : Bs) : Prop where
  own : OwnY B w1 v1 l1
  kept : Kept (fun k => v.ownBlock = some k) w w1
  near : Near w v v1
/-- A call that hands back the bytes l' in place of v. -/
def Lays (B : Nat) (w : World) (v : Value) (l' : Bs) (e : Ending) (w' : World) : Prop := ∃ v', e = .returned v' ∧ Ly B w v w' v' l'
theorem Ly.refl {B : Nat} {w : World} {v : Value} {l : Bs} (h : OwnY B w v l) : Ly B w v w v l := ⟨h, Kept.refl _ _, Or.inl rfl⟩
theorem Ly.size {B : Nat} {w w1 : World} {v v1 : Value} {l1 : Bs} (h : Ly B w v w1 v1 l1) : w.heap.size ≤ w1.heap.size := h.kept.size
theorem Ly.below {B : Nat} {w w1 w2 : World} {v v1 : Value} {l1 : Bs} (h : Ly B w v w1 v1 l1) (hb : Below w1.heap.size w1 w2) : Ly B w v w2 v1 l1 :=
  ⟨own_below h.own hb, Kept.trans h.kept (Kept.of_below hb (fun _ => False)) fun _ h => h.elim, h.near⟩
theorem Ly.drew {B : Nat} {w w1 : World} {v v1 : Value} {l1 : Bs} (h : Ly B w v w1 v1 l1) : Ly B w v w1.drew v1 l1 := h.below (Below.refl _ _).drew
theorem Ly.on {B : Nat} {w w1 w2 : World} {v v1 v2 : Value} {l1 l2 : Bs} (h : Ly B w v w1 v1 l1) (h' : Ly B w1 v1 w2 v2 l2) : Ly B w v w2 v2 l2 :=
  ⟨h'.own, Kept.trans h.kept h'.kept fun k hk => by
    rcases h.near with h | h
    · exact Or.inl (h.symm.trans hk)
    · exact Or.inr (h k hk), h.near.on h.size h'.near⟩
theorem Ly.grown {B n N : Nat} {w w1 : World} {v v1 : Value} {l1 : Bs} (ho : w1.ownsRow B 5 1 v1 n (Lib.byteCells l1)) (hn : l1.length = n) (hg : w.grownBy w1 v.ownBlock) (hl : v1.ownBlock = v.ownBlock ∨ v1.ownBlock = some N) (hN : w.heap.size ≤ N := by first | exact Nat.le_refl _ | simp) : Ly B w v w1 v1 l1 :=
  ⟨by unfold OwnY; rw [hn]; exact ho, Kept.of_grown hg fun k hk => hk, hl.imp id fun h k hk => by
    rw [h] at hk
    injection hk with hk
    omega⟩
/-- Another type's block stays. -/
theorem Ly.at_ {B q : Nat} {w w1 : World} {v v1 : Value} {l l1 : Bs} (h : Ly B w v w1 v1 l1) (h0 : OwnY B w v l) {cs : Array Value} {t : TypeId} (hq : w.heap[q]? = some (.cells cs t (0, 0))) (ht : 5 ≠ t) : w1.heap[q]? = some (.cells cs t (0, 0)) :=
  (h.kept.block q (Array.getElem?_eq_some_iff.1 hq).1 fun hf => by
    obtain ⟨cs', h2⟩ := own_tag h0 q hf
    rw [hq] at h2
    injection h2 with h2
    injection h2 with _ h3 _
    exact ht h3.symm).trans hq
/-- What lies below stays. -/
theorem Ly.base {B : Nat} {w w1 : World} {v v1 : Value} {l l1 : Bs} (h : Ly B w v w1 v1 l1) (h0 : OwnY B w v l) (hB : B ≤ w.heap.size) : Below B w w1 :=
  h.kept.below (fun k hk => by
    rcases h0.2 with ⟨e, _⟩ | ⟨g, cap, cur, e, h2, _⟩
    · rw [e] at hk; cases hk
    · rw [e] at hk
      injection hk with hk
      subst hk
      exact h2) hB
theorem Ly.same {B : Nat} {w w1 : World} {v v1 : Value} {l1 l2 : Bs} (h : Ly B w v w1 v1 l1) (e : l1 = l2) : Ly B w v w1 v1 l2 := e ▸ h
theorem OwnY.slice {B : Nat} {w : World} {v : Value} {l : Bs} (h : OwnY B w v l) : ∃ A n c, v = .slice A n c ∧ l.length = n ∧ n ≤ c ∧ c ≤ maxLen ∧ (A = none → c = 0) ∧ w.ownsRow B 5 1 (.slice A n c) n (Lib.byteCells l) := by
  obtain ⟨A, c, rfl, h1, h2, h3⟩ := own_slice h
  exact ⟨A, _, c, rfl, rfl, h1, h2, h3, h⟩
/-- append(own, bytes...): where the new slice lies. -/
theorem run_appB_at {w : World} (base : Nat) {v : Value} {n : Nat} {l : List UInt8} (hown : w.ownsRow base 5 1 v n (Lib.byteCells l)) {B m : Nat} (c : Nat) {A : Option Addr} {k : List UInt8} (hr : Rd w B A m k)
    (hsz : n + m ≤ 140737488355328) (hbase : base ≤ w.heap.size) (ty : TypeId) :
    ∃ v' w', (Builtin.append_ #[33, 33] ty #[v, .slice A m c]).run Try.prog w = .ok v' w' ∧ (w'.ownsRow base 5 1 v' (n + m) (Lib.byteCells (l ++ k)) ∧ (w.grownBy w' v.ownBlock ∧ (v'.ownBlock = v.ownBlock ∨ v'.ownBlock = some w.heap.size))) := by
  obtain ⟨i, hi, hz0, hz1, hz2⟩ := info_parts infoB
  cases A with
  | none =>
    have h0 : m = 0 := by
      rcases Nat.eq_zero_or_pos m with h1 | h1
      · exact h1
      · obtain ⟨ad, e, _⟩ := hr.2 h1; cases e
    subst h0
    obtain rfl : k = [] := List.eq_nil_of_length_eq_zero hr.1
    exact ⟨v, w, run_app_none base hown c, by simpa using hown, ⟨rfl, rfl, rfl, Nat.le_refl _, fun _ _ _ => rfl⟩, Or.inl rfl⟩
  | some ad =>
    obtain ⟨v', w', h1, h2, h3, _, h5⟩ := run_append_own_at (P := Try.prog) w base 33 ty 5 i (.int .u8 0) 1 1 Try.underlying33 hi hz0 hz1 hz2 rfl (by decide) v n (Lib.byteCells l) hown ad m c (Lib.byteCells k)
      (by rw [Lib.byteCells_length, hr.1]; omega) (hr.cells rfl) (Lib.byteCells_one k) (by unfold maxLen; omega) (by omega) hbase
    exact ⟨v', w', h1, by rw [Lib.byteCells_append]; exact h2, h3, h5⟩
/-- append(own, text...): where the new slice lies. -/
theorem run_appStrB_at {w : World} (base : Nat) {v : Value} {n : Nat} {l : List UInt8} (hown : w.ownsRow base 5 1 v n (Lib.byteCells l)) (s : ByteArray)
    (hsz : n + s.size ≤ 140737488355328) (hbase : base ≤ w.heap.size) (ty : TypeId) :
    ∃ v' w', (Builtin.append_ #[33, 9] ty #[v, .string s]).run Try.prog w = .ok v' w' ∧ (w'.ownsRow base 5 1 v' (n + s.size) (Lib.byteCells (l ++ s.data.toList)) ∧ (w.grownBy w' v.ownBlock ∧ (v'.ownBlock = v.ownBlock ∨ v'.ownBlock = some w.heap.size))) := by
  obtain ⟨i, hi, hz0, hz1, hz2⟩ := info_parts infoB
  obtain ⟨v', w', h1, h2, h3, h4⟩ := Lib.run_append_own_string (P := Try.prog) w base 33 9 ty 5 i Try.underlying33 Try.underlying9 hi hz0 hz1 hz2 v n (Lib.byteCells l) hown s (by unfold maxLen; omega) hsz hbase
  refine ⟨v', w', h1, by rw [Lib.byteCells_append]; exact h2, h3, ?_⟩
  rcases hown.2 with ⟨rfl, rfl⟩ | ⟨g, cap, cur, rfl, hbg, hg, hnc, hcm, hcs, htake⟩
  · by_cases h0 : s.size = 0
    · rw [h4.2 ⟨rfl, h0⟩]
      exact Or.inl rfl
    · have hr := run_append_nil_string (P := Try.prog) w 33 9 ty 5 i (.int .u8 0) Try.underlying33 Try.underlying9 hi hz0 s (by omega) (by omega) (by rw [hz2]; omega)
      rw [h1] at hr
      rw [(ok_injB hr).1]
      exact Or.inr rfl
  · by_cases hroom : n + s.size ≤ cap
    · have hr := Lib.run_append_room_string (P := Try.prog) w 33 9 ty 5 i Try.underlying33 Try.underlying9 hi hz1 g n cap cur hg s hroom (by omega)
      rw [h1] at hr
      rw [(ok_injB hr).1]
      exact Or.inl rfl
    · have holds : ∀ j u, (Lib.byteCells l)[j]? = some u → w.cell? ((⟨g, 0, none⟩ : Addr).add j) = some u := hown.cells (g := g) rfl
      have hr := Lib.run_append_grow_string (P := Try.prog) w 33 9 ty 5 i (.int .u8 0) Try.underlying33 Try.underlying9 hi hz0 ⟨g, 0, none⟩ n cap (Lib.byteCells l) (by rw [hz1]; exact hown.1) holds s (by omega) (by omega) (by rw [hz2]; exact growslice_fits (by omega) (by omega))
      rw [h1] at hr
      rw [(ok_injB hr).1]
      exact Or.inr rfl
theorem own_nilY (w : World) (b : Nat) : OwnY b w (.slice none 0 0) [] := World.ownsRow_nil w b _ _
theorem OwnY.below {B : Nat} {w w' : World} {v : Value} {l : Bs} (h : OwnY B w v l) (hb : Below w.heap.size w w') : OwnY B w' v l := own_below h hb
set_option maxHeartbeats 2000000 in
theorem putNum_any (B : Nat) (v : Value) (l : Bs) (x : Int) (w : World) (h : OwnY B w v l) (hB : B ≤ w.heap.size) (h0 : 0 ≤ x) (h1 : x < 9223372036854775808) (hs : l.length ≤ 100000000000) :
    Calls Try.prog 45 #[v, .int .i64 x] w (Lays B w v (l ++ numL x.toNat)) := by
  have hc : IntKind.u64.wrap x = x := by rw [IntKind.wrap_u64]; omega
  have hn : (numL x.toNat).length ≤ 9 := numL_le (by omega)
  obtain ⟨A, n, c, rfl, hln, g1, g2, g3, _⟩ := h.slice
  have N := num_any none 0 0 x.toNat w.heap.size [] w (Rd.nil _ _) (Nat.le_refl _) (Nat.le_refl _) (by unfold maxLen; omega) (by omega) (by omega)
  rw [Int.toNat_of_nonneg h0] at N
  rw [List.nil_append] at N
  have HO := Lib.hid h; have HN := Lib.hid N; have HNL := Lib.hid hn; have HB := Lib.hid hB; have HS := Lib.hid hs; have HL := Lib.hid hln
  clear h hn g1 g2 g3 hB hs N hln
  go_enter Try.func45, Try.ntmps45
  go_wp2_with fail
  refine (HN.out).mono ?_
  rintro e w1 ⟨A2, n2, c2, rfl, hl2, hc2, hc3, hA2, hr2, hb2⟩
  have ho := OwnY.below HO.out hb2
  unfold OwnY at ho
  rw [HL.out] at ho
  go_wp2_with (at_builtin; refine list_ex rfl (.tmp 5) (.tmp 8) _ _ rfl (.slice A n c) (.slice A2 n2 c2) rfl rfl (run_appB_at B ho c2 hr2 ?s1 ?s2) ?_)
  case s1 => have h1 := HNL.out; have := HS.out; have := HL.out; omega
  case s2 => have := HB.out; have := hb2.size; omega
  intro v3 w3 h3 hg hloc
  go_wp2
  go_ret
  exact ⟨v3, rfl, ((Ly.refl HO.out).below hb2).on (Ly.grown h3 (by rw [List.length_append, hl2, HL.out]) hg hloc)⟩
set_option maxHeartbeats 2000000 in
theorem putText_any (B : Nat) (v : Value) (l : Bs) (s : ByteArray) (w : World) (h : OwnY B w v l) (hB : B ≤ w.heap.size) (h1 : s.size ≤ 100000000000) (hs : l.length ≤ 10000000000) :
    Calls Try.prog 46 #[v, .string s] w (Lays B w v (l ++ tE s)) := by
  have hn : (numL s.size).length ≤ 9 := numL_le (by omega)
  have N := putNum_any B v l (s.size : Int) w h hB (by omega) (by omega) (by omega)
  rw [Int.toNat_natCast] at N
  have HN := Lib.hid N; have HNL := Lib.hid hn; have HB := Lib.hid hB; have HS := Lib.hid hs; have H1 := Lib.hid h1
  clear h hn hB hs N h1
  go_enter Try.func46, Try.ntmps46
  go_wp2_with fail
  refine (HN.out).mono ?_
  rintro e w1 ⟨v2, rfl, L2⟩
  obtain ⟨A2, n2, c2, rfl, hl2, _, _, _, ho2⟩ := L2.own.slice
  have HL2 := Lib.hid hl2
  clear hl2
  go_wp2_with (at_builtin; refine list_ex rfl (.tmp 8) (.tmp 9) _ _ rfl (.slice A2 n2 c2) (.string s) rfl rfl (run_appStrB_at B ho2 s ?s1 ?s2) ?_)
  case s1 => have h1 := HNL.out; have := HS.out; have := H1.out; have h2 := HL2.out; rw [List.length_append] at h2; omega
  case s2 => have := HB.out; have := L2.size; omega
  intro v3 w3 h3 hg hloc
  go_wp2
  go_ret
  refine ⟨v3, rfl, (L2.on (Ly.grown h3 ?_ hg hloc)).same ?_⟩
  · have h1 := HL2.out
    have h2 : s.data.toList.length = s.size := rfl
    simp only [List.length_append] at h1 ⊢
    omega
  · unfold tE; simp only [List.append_assoc]
end Go.Proofs.Ythfanonjokpflaa
