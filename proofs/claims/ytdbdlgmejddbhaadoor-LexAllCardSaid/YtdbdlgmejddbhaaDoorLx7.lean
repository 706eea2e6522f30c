/-
  Tokens in a slice; what All answers, where it is well and where it is not; the example of layer 13.
-/
import Derived.Test.YtdbdlgmejddbhaaDoorLx6
set_option linter.unusedVariables false
namespace Go.Proofs.YtdbdlgmejddbhaaDoor
open Go Go.RowKit Go.Proofs Go.Lib

theorem tflat_get : ∀ (l : List Tk4) (k j : Nat) (c : Tk4), l[k]? = some c → j < 4 → (l.flatMap tcells)[k * 4 + j]? = (tcells c)[j]?
  | [], k, j, c, h, _ => by simp at h
  | a :: l, 0, j, c, h, hj => by
    simp at h
    subst h
    rw [List.flatMap_cons, List.getElem?_append_left (by simp [tcells]; omega), Nat.zero_mul, Nat.zero_add]
  | a :: l, k + 1, j, c, h, hj => by
    rw [List.flatMap_cons, List.getElem?_append_right (by simp [tcells]; omega)]
    have : (k + 1) * 4 + j - (tcells a).length = k * 4 + j := by simp [tcells]; omega
    rw [this]
    exact tflat_get l k j c (by simpa using h) hj

/-- Tokens as they lie. -/
def TksAt (w : World) (B : Nat) (A : Option Addr) (L : List Tk4) : Prop :=
  ∀ k (t : Tk4), L[k]? = some t → ∃ g, A = some ⟨g, 0, none⟩ ∧ g < B ∧ w.cell? ⟨g, k * 4, none⟩ = some (.int .i64 (t.1 : Nat)) ∧ w.cell? ⟨g, k * 4 + 1, none⟩ = some (.string ⟨t.2.1.toArray⟩) ∧
    w.cell? ⟨g, k * 4 + 2, none⟩ = some (.int .i64 t.2.2.1) ∧ w.cell? ⟨g, k * 4 + 3, none⟩ = some (.int .i64 (t.2.2.2 : Nat))
theorem TksAt.below {w w' : World} {B : Nat} {A : Option Addr} {L : List Tk4} (h : TksAt w B A L) (hb : Below B w w') : TksAt w' B A L := by
  intro k t hk
  obtain ⟨g, h1, h2, h3, h4, h5, h6⟩ := h k t hk
  exact ⟨g, h1, h2, (hb.cell (p := ⟨g, k * 4, none⟩) h2).trans h3, (hb.cell (p := ⟨g, k * 4 + 1, none⟩) h2).trans h4, (hb.cell (p := ⟨g, k * 4 + 2, none⟩) h2).trans h5, (hb.cell (p := ⟨g, k * 4 + 3, none⟩) h2).trans h6⟩
theorem IsToks.form {B : Nat} {v : Value} {l : List Tk4} {w : World} (h : IsToks B v l w) :
    ∃ (A : Option Addr) (cap : Nat), v = .slice A l.length cap ∧ l.length ≤ cap ∧ cap ≤ maxLen ∧ TksAt w w.heap.size A l := by
  obtain ⟨h1, h2⟩ := h
  rcases h2 with ⟨rfl, h0⟩ | ⟨g, cap, cur, rfl, hg, hh, hn, hm, hs, ht⟩
  · refine ⟨none, 0, by rw [h0], by omega, by unfold maxLen; omega, fun k t hk => ?_⟩
    have hkl : k < l.length := (List.getElem?_eq_some_iff.1 hk).1
    omega
  · refine ⟨_, cap, rfl, hn, hm, fun k c hk => ?_⟩
    have hkl : k < l.length := (List.getElem?_eq_some_iff.1 hk).1
    have hgl : g < w.heap.size := (Array.getElem?_eq_some_iff.1 hh).1
    have key : ∀ j u, j < 4 → (tcells c)[j]? = some u → w.cell? ⟨g, k * 4 + j, none⟩ = some u := by
      intro j u hj hu
      rw [blk_cell hh, ← hu, ← tflat_get l k j c hk hj, ← ht, List.getElem?_take, if_pos (by omega)]
      simp
    exact ⟨g, rfl, hgl, key 0 _ (by omega) rfl, key 1 _ (by omega) rfl, key 2 _ (by omega) rfl, key 3 _ (by omega) rfl⟩

theorem lx_len (l : List UInt8) : ∀ (n k : Nat) (L : List Tk4), lx l n k = .ok L → L.length ≤ l.length := by
  induction l using len_ind with
  | h l ih =>
    intro n k L h
    by_cases h0 : l = []
    · subst h0
      rw [lx_nil] at h
      injection h with h
      subst h
      simp
    have hd := drop_lt h0
    rcases lx_ways h0 n k with hk | ⟨rfl, hb⟩ | ⟨rfl, hc⟩ | ⟨rfl, hb, hc, hn⟩ | ⟨rfl, hb, hc, x, hx⟩
    · rw [lx_skip h0 hk] at h
      have := ih h0 _ _ _ h
      omega
    · rw [lx_blank n hb] at h
      have := ih h0 _ _ _ h
      omega
    · have hl : 0 < lineLen l := by
        obtain ⟨_, r, rfl⟩ := dec45 hc
        simp [lineLen]
      rw [lx_line n hc, lx_skip h0 hl] at h
      have := ih h0 _ _ _ h
      omega
    · rw [lx_none n h0 hb hc hn] at h
      cases h
    · rw [lx_tok n h0 hb hc hx] at h
      obtain ⟨L', h', rfl⟩ := cons1_ok h
      rw [lx_skip h0 (tok_len hx)] at h'
      have := ih h0 _ _ _ h'
      simp only [List.length_cons]
      omega

theorem lall_ok (s : ByteArray) (w : World) (hs : s.size ≤ 1000) (hE : Two w) {L : List Tk4} (hL : lx s.data.toList 0 0 = .ok L) :
    Calls Tryd.prog 8 #[.string s] w fun e w' => ∃ A c, e = .returned (.tuple #[.slice A L.length c, .int .i64 0, .int .i64 0]) ∧ L.length ≤ c ∧ c ≤ maxLen ∧ TksAt w' w'.heap.size A L ∧ Below w.heap.size w w' := by
  refine (lall_any s w hs hE).mono ?_
  rintro e w1 ⟨⟨h, _⟩ | ⟨_, n, h, _⟩ | ⟨_, L', v, h, hv, rfl⟩, b1⟩
  · omega
  · rw [hL] at h; cases h
  · rw [hL] at h
    injection h with h
    subst h
    obtain ⟨A, c, rfl, h1, h2, h3⟩ := hv.form
    exact ⟨A, c, rfl, h1, h2, h3, b1⟩
theorem lall_err (s : ByteArray) (w : World) (hs : s.size ≤ 1000) (hE : Two w) {n : Nat} (hL : lx s.data.toList 0 0 = .error n) :
    Calls Tryd.prog 8 #[.string s] w fun e w' => e = .returned (.tuple #[.slice none 0 0, .int .i64 (n : Nat), .int .i64 3]) ∧ Below w.heap.size w w' := by
  refine (lall_any s w hs hE).mono ?_
  rintro e w1 ⟨⟨h, _⟩ | ⟨_, n', h, rfl⟩ | ⟨_, L', v, h, hv, rfl⟩, b1⟩
  · omega
  · rw [hL] at h
    injection h with h
    subst h
    exact ⟨rfl, b1⟩
  · rw [hL] at h; cases h

def isOk (r : Except Nat (List Tk4)) (L : List Tk4) : Bool := match r with
  | .ok L' => decide (L' = L)
  | .error _ => false
theorem ok_of {r : Except Nat (List Tk4)} {L : List Tk4} (h : isOk r L = true) : r = .ok L := by
  cases r with
  | ok L' => exact congrArg _ (of_decide_eq_true h)
  | error e => cases h
theorem awake_lx : lx [97, 61, 45, 53] 0 0 = .ok [(1, [97], 0, 0), (4, [61], 0, 1), (2, [], -5, 2)] := ok_of (by decide +kernel)

set_option maxHeartbeats 4000000 in
set_option maxRecDepth 100000 in
theorem awake13_any (w : World) (hE : Two w) :
    Calls Tryd.prog 7 #[] w fun e w' => e = .returned (.bool true) ∧ Below w.heap.size w w' := by
  go_enter Tryd.func7, Tryd.ntmps7
  go_wp2_with fail
  refine (lall_ok ⟨#[97, 61, 45, 53]⟩ _ (by decide) hE awake_lx).mono ?_
  rintro e w1 ⟨A, c, rfl, h1, h2, h3, b1⟩
  obtain ⟨g, rfl, hg, c0, c1, c2, c3⟩ := h3 0 _ rfl
  obtain ⟨g', hA, _, d0, d1, d2, d3⟩ := h3 1 _ rfl
  injection hA with hA
  injection hA with hA
  subst hA
  obtain ⟨g', hA, _, e0, e1, e2, e3⟩ := h3 2 _ rfl
  injection hA with hA
  injection hA with hA
  subst hA
  simp only [List.length_cons, List.length_nil] at *
  clear h3
  go_wp2
  go_ret
  exact ⟨rfl, b1⟩
end Go.Proofs.YtdbdlgmejddbhaaDoor
