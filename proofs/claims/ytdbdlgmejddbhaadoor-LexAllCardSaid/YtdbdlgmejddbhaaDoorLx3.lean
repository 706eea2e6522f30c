/-
  Contracts of lex: number, text, first.
-/
import Derived.Test.YtdbdlgmejddbhaaDoorLx2
import Derived.Test.YtdbdlgmejddbhaaDoorRn4
set_option linter.unusedVariables false
namespace Go.Proofs.YtdbdlgmejddbhaaDoor
open Go Go.RowKit Go.Proofs Go.Lib

theorem trim_eq (l : List UInt8) : Lib.trimPrefix l [45] = l.drop (if l.head? = some 45 then 1 else 0) := by
  unfold Lib.trimPrefix
  cases l with
  | nil => rfl
  | cons a r =>
    by_cases h : a = 45
    · subst h
      rfl
    · have h1 : Lib.hasPrefix (a :: r) [45] = false := by
        simp [Lib.hasPrefix, List.isPrefixOf]
        exact fun h' => h h'.symm
      rw [h1]
      have h2 : ¬ (a :: r).head? = some 45 := by simp [h]
      rw [if_neg h2]
      rfl

set_option maxHeartbeats 4000000 in
set_option maxRecDepth 100000 in
theorem lnum_any (s : ByteArray) (w : World) (hs : s.size ≤ 1099511627776) (hE : Two w) :
    Calls Tryd.prog 25 #[.string s] w fun e w' => e = .returned (tokV (numTok s.data.toList)) ∧ Below w.heap.size w w' := by
  have hl : s.data.toList.length = s.size := by rw [Lib.size_eq]
  have htr := trim_eq s.data.toList
  have hnt := numTok_fin s.data.toList
  have hm : (if s.data.toList.head? = some 45 then 1 else 0) ≤ s.size := by
    split
    · rename_i h
      rw [← hl]
      cases hc : s.data.toList with
      | nil => rw [hc] at h; cases h
      | cons a r => simp
    · omega
  have hrl := run_le (s.data.toList.drop (if s.data.toList.head? = some 45 then 1 else 0))
  rw [List.length_drop, hl] at hrl
  generalize (if s.data.toList.head? = some 45 then 1 else 0) = m at *
  generalize hn : run (s.data.toList.drop m) = n at *
  rw [hnt]
  obtain ⟨D, hD⟩ : ∃ D : ByteArray, D = ⟨(Lib.trimPrefix s.data.toList [45]).toArray⟩ := ⟨_, rfl⟩
  have hDl : D.data.toList = s.data.toList.drop m := by rw [hD, htr]
  have hDs : D.size = s.size - m := by rw [Lib.size_eq, hDl, List.length_drop, hl]
  have htp := Any.strings_TrimPrefix { tpLays with } s ⟨#[45]⟩
  have hDD := Lib.hid hD
  have HN := Lib.hid hn
  have HDL := Lib.hid hDl
  have HL := Lib.hid hl
  have hle1 : D.size ≤ s.size := by omega
  have hle2 : s.size - D.size = m := by omega
  have hds2 : D.size ≤ 1099511627776 := by omega
  have hnb : n ≤ D.size := by omega
  have hnb2 : (n : Int) ≤ (D.size : Int) := by omega
  have HDS := Lib.hid hDs
  have H2 := Lib.hid hle2
  clear htr hnt hn hDl hl hD hDs hle2
  go_enter Tryd.func25, Tryd.ntmps25
  go_wp2_with fail
  refine (htp _).mono ?_
  rintro e w0 ⟨rfl, rfl⟩
  rw [show (ByteArray.mk (Lib.trimPrefix s.data.toList (ByteArray.mk #[45]).data.toList).toArray) = D from hDD.out.symm]
  clear htp
  go_wp2_with fail
  refine (lrun_any _ _ hds2).mono ?_
  rintro e w1 ⟨rfl, b1⟩
  rw [HDL.out, HN.out]
  have z1 : w1.heap[w.heap.size]? = some tokZ := (b1.block _ (by simp)).trans (heap_alloc_new w _)
  have b01 : Below w.heap.size w w1 := ((Below.refl _ _).alloc (Nat.le_refl _) _).trans (b1.mono (by simp))
  have s1 := b1.size
  have E1 := hE.below b01
  have Z1 := Lib.hid z1
  have B1 := Lib.hid b01
  have HE1 := Lib.hid E1
  have hmn : m + n ≤ s.size := by omega
  have hx : (s.extract 0 (m + n)).data.toList = s.data.toList.take (m + n) := by rw [Lib.extract_data]; simp
  have hxs : (s.extract 0 (m + n)).size ≤ 1099511627776 := by rw [ByteArray.size_extract]; omega
  have HX := Lib.hid hx
  clear z1 b01 b1 E1 hE hx
  go_wp2_with fail
  have hk1 : s.size - D.size + n = m + n := by rw [H2.out]
  have hk2 : ((s.size : Int) - (D.size : Int) + (n : Int)) = ((m + n : Nat) : Int) := by
    have := H2.out
    omega
  rw [hk1, hk2]
  generalize s.extract 0 (m + n) = X at *
  generalize hk : m + n = k at *
  have HK := Lib.hid hk
  clear hk hk1 hk2
  refine (atoi_any X _ hxs HE1.out).mono ?_
  rintro e w2 ⟨hres, b2⟩
  rw [HX.out] at hres
  have z2 : w2.heap[w.heap.size]? = some tokZ := (b2.block _ (by simp at s1; omega)).trans Z1.out
  have B2 : Below w.heap.size w w2 := B1.out.trans (b2.mono B1.out.size)
  have c0 := cell_at (i := 0) z2 rfl
  have c1 := cell_at (i := 1) z2 rfl
  have c2 := cell_at (i := 2) z2 rfl
  have c3 := cell_at (i := 3) z2 rfl
  have f0 := thawed_at (i := 0) z2
  have f1 := thawed_at (i := 1) z2
  have f2 := thawed_at (i := 2) z2
  have f3 := thawed_at (i := 3) z2
  obtain ⟨y3, B3⟩ := tok_end (Nat.le_refl _) B2 z2 (.int .i64 0) (.string ⟨#[]⟩) (.int .i64 0) (.int .i64 0)
  have Y3 := Lib.hid y3
  have BB := Lib.hid B3
  have Z2 := Lib.hid z2
  have BZ := Lib.hid B2
  clear y3 B3 z2 B2 b2 s1
  rcases hres with ⟨v, hv, rfl⟩ | ⟨hv, nn, t, p, rfl⟩
  · by_cases h1 : v < -1099511627776
    · have hq := fin_out v k (by omega)
      rw [← hv] at hq
      have HQ := Lib.hid hq
      clear hq hv
      go_wp2
      refine bodyPost_ret (results_c3 rfl _ _ w.heap.size _ _ _ _ rfl Y3.out Tryd.underlying31 rfl (by kernel_rfl)) rfl ⟨by have hk := HK.out; subst hk; rw [HQ.out]; rfl, BB.out⟩
    · by_cases h2 : (1099511627776 : Int) < v
      · have hq := fin_out v k (by omega)
        rw [← hv] at hq
        have HQ := Lib.hid hq
        clear hq hv
        go_wp2
        refine bodyPost_ret (results_c3 rfl _ _ w.heap.size _ _ _ _ rfl Y3.out Tryd.underlying31 rfl (by kernel_rfl)) rfl ⟨by have hk := HK.out; subst hk; rw [HQ.out]; rfl, BB.out⟩
      · have hq := fin_ok v k (by omega)
        rw [← hv] at hq
        have HQ := Lib.hid hq
        obtain ⟨y4, B4⟩ := tok_end (Nat.le_refl _) BZ.out Z2.out (.int .i64 2) (.string ⟨#[]⟩) (.int .i64 v) (.int .i64 0)
        have Y4 := Lib.hid y4
        have BY := Lib.hid B4
        clear hq hv y4 B4
        go_wp2
        refine bodyPost_ret (results_c3 rfl _ _ w.heap.size _ _ _ _ rfl Y4.out Tryd.underlying31 rfl (by kernel_rfl)) rfl ⟨by have hk := HK.out; subst hk; rw [HQ.out]; rfl, BY.out⟩
  · have hq : numFin (atoiAll (s.data.toList.take k)) k = none := by
      cases ha : atoiAll (s.data.toList.take k) with
      | ok v => exact absurd ha (hv v)
      | _ => rfl
    have HQ := Lib.hid hq
    clear hq hv
    go_wp2
    refine bodyPost_ret (results_c3 rfl _ _ w.heap.size _ _ _ _ rfl Y3.out Tryd.underlying31 rfl (by kernel_rfl)) rfl ⟨by have hk := HK.out; subst hk; rw [HQ.out]; rfl, BB.out⟩
end Go.Proofs.YtdbdlgmejddbhaaDoor
