/-
  NoteLast.
-/
import Derived.Test.YtfldlkdnjkaidaaNd7
import Derived.Test.YtfldlkdnjkaidaaNl
import Derived.Test.YtfldlkdnjkaidaaCeZ
import Derived.Test.YtfldlkdnjkaidaaPlc
import Derived.Test.YtfldlkdnjkaidaaTkl
import Derived.Test.YtfldlkdnjkaidaaSab
import Derived.Deep.DeepCutAuto
import Derived.Deep.CutBlock
import Derived.WalkArith
set_option linter.unusedVariables false
set_option linter.unusedSimpArgs false
namespace Go.Proofs.Ytfldlkdnjkaidaa
open Go Go.RowKit

set_option maxRecDepth 8000 in
set_option maxHeartbeats 1200000 in
theorem nlast_law (A : Option Addr) (n c : Nat) (L : List Int) (w : World) (h : RdZ w w.heap.size A n L) (hc : n ≤ c) (hm : c ≤ maxLen) (hx : ∀ x ∈ L, (Lit.int .i64 x).wf = true) :
    Calls Try.prog 5 #[.slice A n c] w fun e w' => e = .returned (.bool true) ∧ Below w.heap.size w w' := by
  have HH := Lib.hid h; have HX := Lib.hid hx; have HLEN := Lib.hid h.1
  clear h hx hc hm
  go_enter Try.func5, Try.ntmps5
  go_wp2_with fail
  refine (dnew_any w).mono ?_
  rintro e w1 ⟨p, F1, rfl, hp1, ha1, hi1, b1⟩
  have hT1 : OneN w w1 F1 p [] := ⟨hp1, hi1, ha1, b1⟩
  have ba := (Below.refl w1.heap.size w1).alloc (Nat.le_refl _) (.cells (arrC fun _ => ⟨#[]⟩) 45)
  have hq := heap_alloc_new w1 (.cells (arrC fun _ => ⟨#[]⟩) 45)
  obtain ⟨U, hU⟩ : ∃ U, U = w1.alloc (.cells (arrC fun _ => ⟨#[]⟩) 45) := ⟨_, rfl⟩
  rw [← hU] at ba hq
  have T1 := Lib.hid (hT1.read ba)
  have Q1 := Lib.hid (show ArrAt U w1.heap.size (fun _ => ⟨#[]⟩) from hq)
  obtain ⟨q, hqe⟩ : ∃ q, w1.heap.size = q := ⟨_, rfl⟩
  have N1 := Lib.hid (show ¬ F1 q from fun hf => by have := hi1 _ hf; omega)
  rw [hqe] at Q1
  have HQE := Lib.hid hqe
  have HQW := Lib.hid (show w.heap.size ≤ q by have := b1.size; omega)
  rw [arrC_none] at hU
  clear hp1 ha1 hi1 b1 hT1 ba hq hqe
  go_upto_block 0 with fail
  rw [← hU, HQE.out]
  clear hU
  go_cut [] from 16 to 65 (fun wx => ∃ wy, wx = wy ∧ ∃ (S : Fl) (T : Nat → ByteArray), OneN w wy F1 p S ∧ LastI S T ∧ ArrAt wy q T)
  case first =>
    go_wp2_with fail
    go_loopw [5] (fun iv wr => ∃ (t : Nat) (S : Fl) (T : Nat → ByteArray), t ≤ n ∧ iv = .int .i64 (t : Nat) ∧ OneN w wr F1 p S ∧ LastI S T ∧ ArrAt wr q T) (fun iv _ => n - (intOf iv).toNat)
    case atStart => exact ⟨0, [], _, Nat.zero_le _, rfl, T1.out, LastI.start, Q1.out⟩
    case round =>
      obtain ⟨t, S, T, ht, rfl, h1, hl1, hq1⟩ := hrel
      have TT := Lib.hid h1; have LL := Lib.hid hl1; have QQ := Lib.hid hq1
      clear h1 hl1 hq1
      by_cases hgo : t < n ∧ t < 60
      · obtain ⟨hlt, h60⟩ := hgo
        have i1 : (t : Int) < n := by omega
        have i0 : (0 : Int) ≤ t := by omega
        have i6 : (t : Int) < 60 := by omega
        have htl : t < L.length := by rw [HLEN.out]; exact hlt
        have hqr := HH.out.below TT.out.below
        obtain ⟨g0, o0, rfl, hg0, hcs⟩ := hqr.2 (by omega)
        have z0 := hcs t htl
        have hwx := HX.out L[t] (List.getElem_mem htl)
        obtain ⟨x, hx⟩ : ∃ x, L[t] = x := ⟨_, rfl⟩
        rw [hx] at z0 hwx
        have HWX := Lib.hid hwx
        clear hqr hcs hwx hx hg0 htl
        go_wp2_with fail
        refine (place_any x 1048576 _ (by omega) (by omega) (bounds_i64 HWX.out)).mono ?_
        rintro e w6 ⟨rfl, rfl⟩
        obtain ⟨v, hv⟩ : ∃ v : Nat, x % 1048576 = (v : Int) := ⟨(x % 1048576).toNat, by have := Int.emod_nonneg x (show (1048576 : Int) ≠ 0 by decide); omega⟩
        have hv5 : v < 1048576 := by have := Int.emod_lt_of_pos x (show (0 : Int) < 1048576 by decide); omega
        rw [hv]
        clear hv z0
        go_upto_region 10 with fail
        obtain ⟨id, hid⟩ : ∃ id : Nat, 1 + (v : Int) % 19 = (id : Int) := ⟨1 + v % 19, by omega⟩
        have hid1 : 1 ≤ id := by omega
        have hid2 : id < 20 := by omega
        rw [hid]
        clear hid
        have j0 : (0 : Int) ≤ id := by omega
        have j1 : (id : Int) < 20 := by omega
        have HWI := Lib.hid (show (Lit.int .i64 (id : Int)).wf = true from WalkArith.wf_i64 ⟨by omega, by omega⟩)
        have hci := QQ.out.cell hid2
        have hfi := QQ.out.thaw id
        obtain ⟨s, hs⟩ : ∃ s, T id = s := ⟨_, rfl⟩
        rw [hs] at hci
        have hgs := LL.out.has id hid1 hid2
        rw [hs] at hgs
        obtain ⟨u, hu⟩ : ∃ u, hasF S (id : Int) = u := ⟨_, rfl⟩
        rw [hu] at hgs
        obtain ⟨hne, hne2⟩ := empty_bit hgs
        have HU := Lib.hid hu
        have HCI := Lib.hid hci
        have HS := Lib.hid hs
        clear hs hgs hu
        by_cases r0 : (v : Int) / 19 % 4 = 0
        · have e0 : ((v : Int) / 19 % 4 == 0) = true := by simpa using r0
          clear r0
          go_wp2_with fail
          refine wp_region_held_drew (S := fun w' => w'.cell? ⟨q, id, none⟩ = some (.string s)) (by kernel_rfl) ?_ (fun hHeld => ?_)
          · exact HCI.out
          refine takesH [0, 1, 3, 4, 5, 6] ?_
          repeat
            refine takesH_one (v := ?_) ?_ ?_
            rotate_left
            · first | (refine Or.inr ⟨by rfl, ?_⟩; with_reducible rfl) | (refine Or.inl ⟨by rfl, ?_⟩; intro wx hSw; (try dsimp only at hSw); first | (go_simp; first | done | with_reducible rfl))
            try simp only [Act.put, List.getElem_toArray, List.getElem_cons_succ, List.getElem_cons_zero, List.setIfInBounds_toArray, List.set_cons_zero, List.set_cons_succ]
          refine takesH_nil ?_
          refine wpAnyH_ready (rs := [2]) (by kernel_rfl) (by simp) (AllReadyH.cons rfl (fun K hK => ?_) AllReadyH.nil)
          go_simp
          refine (ddrop_any F1 p S (id : Int) wr.drew TT.out.drew.s TT.out.drew.sin HWI.out).mono ?_
          rintro e' v4 ⟨rfl, h4, st4⟩
          have T4 := Lib.hid (TT.out.drew.turn h4 st4)
          have hq4 : ArrAt v4 q T := ArrAt.kept (w := wr.drew) QQ.out st4.kept N1.out
          have Q4 := Lib.hid hq4
          have hc4 := hq4.cell hid2
          rw [HS.out] at hc4
          have HC4 := Lib.hid hc4
          rw [HU.out]
          clear h4 st4 hq4 hc4
          try go_wp2_with fail
          refine hK.out _ _ ?_ (fun hHeld => ?_)
          · exact HC4.out
          clear hK K
          try simp only [Act.put, List.getElem_toArray, List.getElem_cons_succ, List.getElem_cons_zero, List.setIfInBounds_toArray, List.set_cons_zero, List.set_cons_succ]
          have e9 : (u != u) = false := by simp
          refine takesH [7] ?_
          repeat
            refine takesH_one (v := ?_) ?_ ?_
            rotate_left
            · first | (refine Or.inr ⟨by rfl, ?_⟩; with_reducible rfl) | (refine Or.inl ⟨by rfl, ?_⟩; intro wx hSw; (try dsimp only at hSw); first | (go_simp; first | done | with_reducible rfl))
            try simp only [Act.put, List.getElem_toArray, List.getElem_cons_succ, List.getElem_cons_zero, List.setIfInBounds_toArray, List.set_cons_zero, List.set_cons_succ]
          refine takesH_nil ?_
          refine wpAnyH_done (by kernel_rfl) ?_ _
          clear hHeld hci hfi
          have hc5 := Q4.out.cell hid2
          have hf5 := Q4.out.thaw id
          have T5 := Lib.hid (T4.out.store (i := id) N1.out HQW.out (.string ⟨#[]⟩))
          have Q5 := Lib.hid (Q4.out.set id ⟨#[]⟩)
          have L5 := Lib.hid (LL.out.del hid1 hid2)
          go_wp2
          go_roundw
          case rel => exact ⟨t + 1, _, _, by omega, by go_num, T5.out, L5.out, Q5.out⟩
          case measure => simp [intOf]; omega
        · have e0 : ((v : Int) / 19 % 4 == 0) = false := by simpa using r0
          clear r0
          go_upto_region 15 with fail
          obtain ⟨s2, hs2⟩ : ∃ s2 : ByteArray, (ByteArray.mk #[97, 98, 99, 100]).extract (v / 80 % 4) (v / 80 % 4 + 1) = s2 := ⟨_, rfl⟩
          have hz2 : s2.size = 1 := by rw [← hs2, ByteArray.size_extract]; have : (ByteArray.mk #[97, 98, 99, 100]).size = 4 := rfl; omega
          rw [hs2]
          have T5 := Lib.hid (TT.out.store (i := id) N1.out HQW.out (.string s2))
          have Q5 := Lib.hid (QQ.out.set id s2)
          have L5 := Lib.hid (LL.out.put hid1 hid2 hz2)
          have HA5 := Lib.hid (LL.out.add hid1 hid2 hz2)
          have hc5 := Q5.out.cell hid2
          have hu5 : updT T id s2 id = s2 := by unfold updT; rw [if_pos rfl]
          rw [hu5] at hc5
          have HZ2 := Lib.hid hz2
          generalize wr.setCell ⟨q, id, none⟩ (.string s2) = W5 at T5 Q5 hc5 ⊢
          clear hs2 hci hfi hz2 hu5 hne hne2
          go_wp2_with fail
          refine (dadd_any F1 p S (id : Int) s2 W5 T5.out.s T5.out.sin LL.out.ok HWI.out (by have := HZ2.out; unfold maxLen; omega)).mono ?_
          rintro e w7 ⟨rfl, h7, st7⟩
          rw [HA5.out] at h7 ⊢
          dsimp only at h7 ⊢
          have T7 := Lib.hid (T5.out.turn h7 st7)
          have Q7 := Lib.hid (Q5.out.kept st7.kept N1.out)
          clear h7 st7 hc5
          go_wp2
          go_roundw
          case rel => exact ⟨t + 1, _, _, by omega, by go_num, T7.out, L5.out, Q7.out⟩
          case measure => simp [intOf]; omega
      · by_cases k1 : t < n
        · have h2 : ¬ t < 60 := fun h => hgo ⟨k1, h⟩
          have i1 : decide ((t : Int) < (n : Int)) = true := decide_eq_true (by omega)
          have i2 : decide ((t : Int) < 60) = false := decide_eq_false (by omega)
          have i3 : decide (t < n) = true := decide_eq_true k1
          have i4 : decide (t < 60) = false := decide_eq_false h2
          clear hgo k1 h2 ht
          go_wp2
          go_meet
          exact ⟨wr, rfl, S, T, TT.out, LL.out, QQ.out⟩
        · have i1 : decide ((t : Int) < (n : Int)) = false := decide_eq_false (by omega)
          have i3 : decide (t < n) = false := decide_eq_false k1
          clear hgo k1 ht
          go_wp2
          go_meet
          exact ⟨wr, rfl, S, T, TT.out, LL.out, QQ.out⟩
  case rest =>
    obtain ⟨wy, rfl, S, T, h1, hl1, hq1⟩ := hcut
    have TT := Lib.hid h1; have LL := Lib.hid hl1; have QQ := Lib.hid hq1
    have hS3 : S.length ≤ 300 := hl1.ok.len
    clear h1 hl1 hq1 T1 Q1
    go_wp2_with fail
    refine (dall_any F1 p S _ TT.out.s LL.out.ok).mono ?_
    rintro e w8 ⟨Al, m, cl, rfl, hrd, hmc, b8⟩
    have T8 := Lib.hid (TT.out.read b8)
    have Q8 := Lib.hid (QQ.out.below b8)
    have hml := hrd.1
    have HAT := Lib.hid hrd
    have HM := Lib.hid hml
    rw [hml] at hS3
    clear hrd b8 hml
    go_wp2_with fail
    go_loopw [8, 10] (fun kv iv wr => ∃ (k t : Nat), 1 ≤ t ∧ t ≤ 20 ∧ kv = .int .i64 (k : Nat) ∧ iv = .int .i64 (t : Nat) ∧ idxF S (t : Int) = k ∧ Below w8.heap.size w8 wr) (fun _ iv _ => 20 - (intOf iv).toNat)
    case atStart => exact ⟨0, 1, Nat.le_refl _, by omega, rfl, rfl, LL.out.none, Below.refl _ _⟩
    case round =>
      obtain ⟨k, t, ht1, ht2, rfl, rfl, hk, hbw⟩ := hrel
      have HK := Lib.hid hk; have HBW := Lib.hid hbw
      have hT8 : OneN w wr F1 p S := T8.out.read hbw
      have TW := Lib.hid hT8
      clear hbw hT8 hk
      by_cases hlt : t < 20
      · have i1 : (t : Int) < 20 := by omega
        have i0 : (0 : Int) ≤ t := by omega
        have HWI := Lib.hid (show (Lit.int .i64 (t : Int)).wf = true from WalkArith.wf_i64 ⟨by omega, by omega⟩)
        obtain ⟨s, hs⟩ : ∃ s, T t = s := ⟨_, rfl⟩
        have hgg := LL.out.get t ht1 hlt
        have hgs := LL.out.has t ht1 hlt
        rw [hs] at hgg hgs
        obtain ⟨u, hu⟩ : ∃ u, hasF S (t : Int) = u := ⟨_, rfl⟩
        rw [hu] at hgs
        obtain ⟨hne, hne2⟩ := empty_bit hgs
        have HGG := Lib.hid hgg; have HU := Lib.hid hu; have HS := Lib.hid hs
        clear hgg hu hgs hs
        go_wp2_with fail
        refine (dget_any F1 p S (t : Int) _ TW.out.s HWI.out).mono ?_
        rintro e w9 ⟨rfl, b9⟩
        rw [HGG.out, HU.out]
        have HB9 := Lib.hid (HBW.out.trans (b9.mono HBW.out.size))
        have hc9 := ((Q8.out.below HB9.out).cell hlt)
        rw [HS.out] at hc9
        have e5 : (s.toList != s.toList) = false := by simp
        have e6 : (s.toList == s.toList) = true := by simp
        have e9 : (u != u) = false := by simp
        clear b9
        cases u with
        | false =>
          have HKS := Lib.hid (show idxF S ((t + 1 : Nat) : Int) = k by rw [← HK.out]; exact idx_stay LL.out.ok.up (t : Int) HU.out)
          go_wp2
          go_roundw
          case rel => exact ⟨k, t + 1, by omega, by omega, rfl, by go_num, HKS.out, HB9.out⟩
          case measure => simp [intOf]; omega
        | true =>
          obtain ⟨hl, he1, he2, he3⟩ := idx_step LL.out.ok.up (t : Int) HU.out
          have HKS := Lib.hid (show idxF S ((t + 1 : Nat) : Int) = k + 1 by rw [← HK.out]; exact he3)
          have hr9 := HAT.out.below HB9.out
          have hkm : k < m := by rw [← HM.out, ← HK.out]; exact hl
          obtain ⟨g0, o0, rfl, hg0, hcs⟩ := hr9.2 (by omega)
          have z0 := hcs _ _ (tRow_get0 S _ hl)
          have z1 := hcs _ _ (tRow_get1 S _ hl)
          rw [he1] at z0
          rw [he2, HGG.out, ← Nat.add_assoc] at z1
          rw [HK.out] at z0 z1
          have k1 : (k : Int) < m := by omega
          have k0 : (0 : Int) ≤ k := by omega
          have k2 : decide ((m : Int) ≤ (k : Int)) = false := decide_eq_false (by omega)
          have k2' : decide (m ≤ k) = false := decide_eq_false (by omega)
          have k3 : ((t : Int) != (t : Int)) = false := by simp
          clear hl he1 he2 he3 hr9 hcs hg0
          go_wp2
          go_roundw
          case rel => exact ⟨k + 1, t + 1, by omega, by omega, by go_num, by go_num, HKS.out, HB9.out⟩
          case measure => simp [intOf]; omega
      · obtain rfl : t = 20 := by omega
        have hkm : k = m := by rw [← HK.out, ← HM.out]; exact LL.out.all
        subst hkm
        have e9 : ((k : Int) == (k : Int)) = true := by simp
        have HBAD0 := Lib.hid (show addN S 0 ⟨#[]⟩ = (S, false) by unfold addN; rw [if_pos]; unfold BadN; left; decide)
        obtain ⟨N, hN⟩ : ∃ N : Nat, N = 4097 := ⟨_, rfl⟩
        obtain ⟨big, hbig⟩ : ∃ big : ByteArray, (⟨(List.replicate N 0).toArray⟩ : ByteArray) = big := ⟨_, rfl⟩
        have hbs : big.size = N := by rw [← hbig, Lib.size_eq]; simp
        obtain ⟨CS, hCS⟩ : ∃ CS, madeCells (Value.int .u8 0).cells (N * 1) = CS := ⟨_, rfl⟩
        have hmk : ∀ wx : World, (Instr.makeSlice 46 (.int .i64 4097) (.int .i64 4097)).run Try.prog wx = .ok (.slice (some ⟨wx.heap.size, 0, none⟩) N N) (wx.alloc (.cells CS 5)) := fun wx => by
          have h := run_makeB wx N (by omega)
          have e : ((N : Nat) : Int) = 4097 := by omega
          rw [e, hCS] at h
          exact h
        have hcv : ∀ wx : World, (convert 46 9 (.slice (some ⟨wx.heap.size, 0, none⟩) N N)).run Try.prog (wx.alloc (.cells CS 5)) = .ok (.string big) (wx.alloc (.cells CS 5)) := fun wx => by
          rw [← hbig, ← hCS]
          exact cv_string (made_rd wx N) N
        have HBK := Lib.hid (show 4096 < big.size ∧ big.size ≤ maxLen by unfold maxLen; omega)
        have HBAD1 := Lib.hid (show addN S 1 big = (S, false) by unfold addN; rw [if_pos]; unfold BadN; have := HBK.out.1; right; right; left; exact this)
        clear hbs hN hbig hCS
        go_wp2_with fail
        refine (dadd_any F1 p S 0 ⟨#[]⟩ wr TW.out.s TW.out.sin LL.out.ok (by decide) (by decide)).mono ?_
        rintro e w10 ⟨rfl, h10, st10⟩
        rw [HBAD0.out] at h10 ⊢
        dsimp only at h10 ⊢
        have T10 := Lib.hid (TW.out.turn h10 st10)
        clear h10 st10
        go_wp2_with fail
        have ba := (Below.refl w10.heap.size w10).alloc (Nat.le_refl _) (.cells CS 5)
        have T11 := Lib.hid (T10.out.read ba)
        clear ba
        refine (dadd_any F1 p S 1 big _ T11.out.s T11.out.sin LL.out.ok (by decide) HBK.out.2).mono ?_
        rintro e w12 ⟨rfl, h12, st12⟩
        rw [HBAD1.out] at h12 ⊢
        dsimp only at h12 ⊢
        have T12 := Lib.hid (T11.out.turn h12 st12)
        clear h12 st12
        go_wp2_with fail
        refine (awake11z _).mono ?_
        rintro e w13 ⟨rfl, b13⟩
        have B13 := Lib.hid (T12.out.below.trans (b13.mono T12.out.below.size))
        clear b13
        go_wp2
        go_ret
        exact ⟨rfl, B13.out⟩
end Go.Proofs.Ytfldlkdnjkaidaa
