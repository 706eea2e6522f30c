/-
  Contracts of lex: text, first.
-/
import Derived.Test.YtdbdlgmejddbhaaDoorLx3
set_option linter.unusedVariables false
namespace Go.Proofs.YtdbdlgmejddbhaaDoor
open Go Go.RowKit Go.Proofs Go.Lib

theorem head_quote {l : List UInt8} (h : (decodeL l).1 = 39) : ∃ r, l = 39 :: r := by
  have h0 : l ≠ [] := ne_of_dec (by omega)
  obtain ⟨a, r, rfl⟩ := List.exists_cons_of_ne_nil h0
  refine ⟨r, ?_⟩
  have hc : a.toNat = 39 := by
    rw [decodeL_N] at h
    have := decodeN_shape (a :: r).length ((a :: r).getD 0 0).toNat ((a :: r).getD 1 0).toNat ((a :: r).getD 2 0).toNat ((a :: r).getD 3 0).toNat
    have ha : ((a :: r).getD 0 0).toNat = a.toNat := rfl
    rw [ha] at this h
    rcases this with ⟨c, e⟩ | ⟨c1, c2, c3, cv, e⟩ | ⟨c1, c2, c3, c4, cv, cs, e⟩ | ⟨c1, c2, c3, c4, c5, cv, cw, e⟩ | e <;> rw [e] at h <;> dsimp only at h <;> omega
  congr 1
  apply UInt8.toNat_inj.1
  rw [hc]
  rfl
theorem unquote_head {l : List UInt8} (h : (decodeL l).1 = 39) : unquoteO l 0 = (unq (l.drop 1)).map (fun x => (x.1, 1 + x.2)) := by
  obtain ⟨r, rfl⟩ := head_quote h
  unfold unquoteO
  simp

theorem unq_short (l : List UInt8) : ∀ x, unq l = some x → x.1.length ≤ l.length := by
  induction l using unq.induct with
  | case1 => intro x h; simp [unq] at h
  | case2 => intro x h; simp [unq] at h; subst h; simp
  | case3 c hc => intro x h; simp [unq, hc] at h
  | case4 t ih =>
    intro x h
    rw [unq, if_pos rfl, if_pos rfl] at h
    cases hu : unq t with
    | none => rw [hu] at h; cases h
    | some y => rw [hu] at h; injection h with h; subst h; have := ih y hu; simp; omega
  | case5 d t hd =>
    intro x h
    rw [unq, if_pos rfl, if_neg hd] at h
    injection h with h
    subst h
    simp
  | case6 c d t hc ih =>
    intro x h
    rw [unq, if_neg hc] at h
    cases hu : unq (d :: t) with
    | none => rw [hu] at h; cases h
    | some y => rw [hu] at h; injection h with h; subst h; have := ih y hu; simp at this ⊢; omega

set_option maxHeartbeats 4000000 in
set_option maxRecDepth 100000 in
theorem ltext_any (s : ByteArray) (w : World) (hs : s.size ≤ 1099511627776) (hq : (decodeL s.data.toList).1 = 39) :
    Calls Tryd.prog 23 #[.string s] w fun e w' => e = .returned (tokV (textTok s.data.toList)) ∧ Below w.heap.size w w' := by
  have hu := unquote_head hq
  have hsz : s.data.toList.length = s.size := by rw [Lib.size_eq]
  cases hx : unq (s.data.toList.drop 1) with
  | none =>
    have ht : textTok s.data.toList = none := by unfold textTok; rw [hx]
    rw [hx] at hu
    rw [ht]
    have HU := Lib.hid hu
    clear hu hx ht hq hsz
    go_enter Tryd.func23, Tryd.ntmps23
    go_wp2_with fail
    refine (unquote_any s 0 _ hs).mono ?_
    rintro e w1 ⟨rfl, b1⟩
    rw [HU.out]
    have z1 : w1.heap[w.heap.size]? = some tokZ := (b1.block _ (by simp)).trans (heap_alloc_new w _)
    have b01 : Below w.heap.size w w1 := ((Below.refl _ _).alloc (Nat.le_refl _) _).trans (b1.mono (by simp))
    obtain ⟨y3, B3⟩ := tok_end (Nat.le_refl _) b01 z1 (.int .i64 0) (.string ⟨#[]⟩) (.int .i64 0) (.int .i64 0)
    have Y3 := Lib.hid y3
    have BB := Lib.hid B3
    have c0 := cell_at (i := 0) z1 rfl
    have c1 := cell_at (i := 1) z1 rfl
    have c2 := cell_at (i := 2) z1 rfl
    have c3 := cell_at (i := 3) z1 rfl
    have f0 := thawed_at (i := 0) z1
    have f1 := thawed_at (i := 1) z1
    have f2 := thawed_at (i := 2) z1
    have f3 := thawed_at (i := 3) z1
    clear y3 B3 z1 b01 b1
    simp only [Option.map_none, unquoteV]
    go_wp2
    exact bodyPost_ret (results_c3 rfl _ _ w.heap.size _ _ _ _ rfl Y3.out Tryd.underlying31 rfl (by kernel_rfl)) rfl ⟨rfl, BB.out⟩
  | some x =>
    have hxl := (unq_pos _ x hx).2
    rw [List.length_drop, hsz] at hxl
    have hxt : x.1.length ≤ s.size := by
      have := unq_short _ x hx
      rw [List.length_drop, hsz] at this
      omega
    rw [hx] at hu
    have ht : textTok s.data.toList = if x.1.length ≤ 100 ∧ validB ⟨x.1.toArray⟩ = true then some (3, x.1, 0, 1 + x.2) else none := by unfold textTok; rw [hx]
    generalize textTok s.data.toList = R at *
    obtain ⟨T, k⟩ := x
    dsimp only at hxl hxt hu ht
    obtain ⟨X, hX⟩ : ∃ X : ByteArray, X = ⟨T.toArray⟩ := ⟨_, rfl⟩
    have hXs : X.size = T.length := by rw [hX]; exact List.size_toArray
    rw [← hX] at ht
    have HT := Lib.hid ht
    have HU := Lib.hid hu
    have HX := Lib.hid hX
    have HXS := Lib.hid hXs
    have hXz : X.size ≤ 1099511627776 := by omega
    clear hu hx ht hq hsz hX hXs
    go_enter Tryd.func23, Tryd.ntmps23
    go_wp2_with fail
    refine (unquote_any s 0 _ hs).mono ?_
    rintro e w1 ⟨rfl, b1⟩
    rw [HU.out]
    simp only [Option.map_some, unquoteV]
    rw [← HX.out]
    have z1 : w1.heap[w.heap.size]? = some tokZ := (b1.block _ (by simp)).trans (heap_alloc_new w _)
    have b01 : Below w.heap.size w w1 := ((Below.refl _ _).alloc (Nat.le_refl _) _).trans (b1.mono (by simp))
    have s1 : w.heap.size + 1 ≤ w1.heap.size := by
      have := b1.size
      simpa using this
    clear b1
    by_cases h1 : (100 : Int) < (X.size : Nat)
    · have hno : ¬ (T.length ≤ 100 ∧ validB X = true) := by
        have := HXS.out
        omega
      have HNO := Lib.hid (HT.out.trans (if_neg hno))
      obtain ⟨y3, B3⟩ := tok_end (Nat.le_refl _) b01 z1 (.int .i64 0) (.string ⟨#[]⟩) (.int .i64 0) (.int .i64 0)
      have Y3 := Lib.hid y3
      have BB := Lib.hid B3
      have c0 := cell_at (i := 0) z1 rfl
      have c1 := cell_at (i := 1) z1 rfl
      have c2 := cell_at (i := 2) z1 rfl
      have c3 := cell_at (i := 3) z1 rfl
      have f0 := thawed_at (i := 0) z1
      have f1 := thawed_at (i := 1) z1
      have f2 := thawed_at (i := 2) z1
      have f3 := thawed_at (i := 3) z1
      clear y3 B3 z1 b01 hno
      go_wp2
      exact bodyPost_ret (results_c3 rfl _ _ w.heap.size _ _ _ _ rfl Y3.out Tryd.underlying31 rfl (by kernel_rfl)) rfl ⟨by rw [HNO.out]; rfl, BB.out⟩
    · have Z1 := Lib.hid z1
      have B1 := Lib.hid b01
      clear z1 b01
      go_wp2_with fail
      refine (valid_any X _ hXz).mono ?_
      rintro e w2 ⟨rfl, b2⟩
      have z2 : w2.heap[w.heap.size]? = some tokZ := (b2.block _ (by omega)).trans Z1.out
      have B2 : Below w.heap.size w w2 := B1.out.trans (b2.mono B1.out.size)
      have c0 := cell_at (i := 0) z2 rfl
      have c1 := cell_at (i := 1) z2 rfl
      have c2 := cell_at (i := 2) z2 rfl
      have c3 := cell_at (i := 3) z2 rfl
      have f0 := thawed_at (i := 0) z2
      have f1 := thawed_at (i := 1) z2
      have f2 := thawed_at (i := 2) z2
      have f3 := thawed_at (i := 3) z2
      cases hv : validB X with
      | false =>
        have hno : ¬ (T.length ≤ 100 ∧ validB X = true) := by rw [hv]; simp
        have HNO := Lib.hid (HT.out.trans (if_neg hno))
        obtain ⟨y3, B3⟩ := tok_end (Nat.le_refl _) B2 z2 (.int .i64 0) (.string ⟨#[]⟩) (.int .i64 0) (.int .i64 0)
        have Y3 := Lib.hid y3
        have BB := Lib.hid B3
        clear y3 B3 z2 B2 hno b2 hv
        go_wp2
        exact bodyPost_ret (results_c3 rfl _ _ w.heap.size _ _ _ _ rfl Y3.out Tryd.underlying31 rfl (by kernel_rfl)) rfl ⟨by rw [HNO.out]; rfl, BB.out⟩
      | true =>
        have hyes : T.length ≤ 100 ∧ validB X = true := by
          have := HXS.out
          exact ⟨by omega, hv⟩
        have HYES := Lib.hid (HT.out.trans (if_pos hyes))
        obtain ⟨y3, B3⟩ := tok_end (Nat.le_refl _) B2 z2 (.int .i64 3) (.string X) (.int .i64 0) (.int .i64 0)
        have Y3 := Lib.hid y3
        have BB := Lib.hid B3
        clear y3 B3 z2 B2 hyes b2 hv
        go_wp2
        exact bodyPost_ret (results_c3 rfl _ _ w.heap.size _ _ _ _ rfl Y3.out Tryd.underlying31 rfl (by kernel_rfl)) rfl ⟨by rw [HYES.out, HX.out]; rfl, BB.out⟩
end Go.Proofs.YtdbdlgmejddbhaaDoor
