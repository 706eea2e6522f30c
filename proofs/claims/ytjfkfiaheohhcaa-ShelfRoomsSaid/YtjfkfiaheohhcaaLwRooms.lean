/-
  The walk of ShelfRooms.
-/
import Derived.Test.YtjfkfiaheohhcaaLwTurns
import Derived.Test.YtjfkfiaheohhcaaLwKeeps
set_option linter.unusedVariables false
set_option linter.unusedSimpArgs false
namespace Go.Proofs.Ytjfkfiaheohhcaa
open Go Go.RowKit

/-- Files 1 to j, all alike. -/
def xsF (X : ByteArray) (j : Nat) : Fl := (List.range j).map fun t => (((t + 1 : Nat) : Int), X)
theorem xsF_length (X : ByteArray) (j : Nat) : (xsF X j).length = j := by simp [xsF]
theorem xsF_succ (X : ByteArray) (j : Nat) : xsF X (j + 1) = xsF X j ++ [(((j + 1 : Nat) : Int), X)] := by
  unfold xsF
  rw [List.range_succ, List.map_append]
  rfl
theorem hasF_xsF (X : ByteArray) (j : Nat) (n : Int) : hasF (xsF X j) n = decide (1 ≤ n ∧ n ≤ j) := by
  rw [Bool.eq_iff_iff, decide_eq_true_iff]
  unfold hasF xsF
  rw [List.any_map, List.any_eq_true]
  constructor
  · rintro ⟨t, ht, he⟩
    rw [List.mem_range] at ht
    simp at he
    omega
  · rintro ⟨h1, h2⟩
    refine ⟨n.toNat - 1, List.mem_range.2 (by omega), ?_⟩
    simp
    omega
theorem insF_xsF (X : ByteArray) (j : Nat) : insF (xsF X j) ((j + 1 : Nat) : Int) X = xsF X (j + 1) := by
  have hi : idxF (xsF X j) ((j + 1 : Nat) : Int) = j := by
    refine idxF_eq (by rw [xsF_length]; exact Nat.le_refl _) (fun t ht => ?_) (fun h => ?_)
    · simp [xsF]
      omega
    · rw [xsF_length] at h
      omega
  unfold insF
  rw [hi, List.take_of_length_le (by rw [xsF_length]; exact Nat.le_refl _), List.drop_eq_nil_of_le (by rw [xsF_length]; exact Nat.le_refl _), xsF_succ]
def shX (L : List UInt8) (X : ByteArray) (j : Nat) : Sh := ⟨L, 0, xsF X j, ⟨#[]⟩⟩
theorem put_shX_ok (L : List UInt8) (X : ByteArray) (j : Nat) (hj : j < 40) (hX : X.size ≤ 1000) : (shX L X j).put ((j + 1 : Nat) : Int) X = (shX L X (j + 1), 0) := by
  unfold Sh.put shX
  rw [if_neg (by rw [hasF_xsF]; simp; omega), if_neg (by rw [xsF_length]; omega)]
  simp only [insF_xsF]
theorem put_shX_big (L : List UInt8) (X : ByteArray) (i : Nat) (h1 : 40 < i) (h2 : i ≤ 1000) : (shX L X 40).put (i : Nat) X = (shX L X 40, 2) := by
  unfold Sh.put shX
  rw [if_neg (by rw [hasF_xsF]; simp; omega), if_pos (by rw [xsF_length]; omega)]

theorem sl_strl (s : ByteArray) (a : Nat) (h : a ≤ s.size) (wx : World) :
    (Instr.slice 9 (.string s) (some (.int .i64 (a : Nat))) none none).run Try.prog wx = .ok (.string (s.extract a s.size)) wx := by
  rw [run_slice_string_l (P := Try.prog) (t := 9) (ht := Try.underlying9) (kl := .i64) (l := (a : Nat)) (h0 := by omega) (h1 := by omega), Int.toNat_natCast]
theorem ext_drop (s : ByteArray) (a : Nat) : (s.extract a s.size).data.toList = s.data.toList.drop a := by
  rw [Lib.extract_data, Lib.size_eq, List.take_of_length_le (by rw [List.length_drop]; exact Nat.le_refl _)]

set_option maxRecDepth 100000 in
set_option maxHeartbeats 8000000 in
theorem rooms_law (n more files : Int) (w : World) (hn : (Lit.int .i64 n).wf = true) (hm : (Lit.int .i64 more).wf = true) (hf : (Lit.int .i64 files).wf = true) :
    Calls Try.prog 5 #[.int .i64 n, .int .i64 more, .int .i64 files] w fun e w' => e = .returned (.bool true) ∧ Below w.heap.size w w' := by
  obtain ⟨nl, nh⟩ := bounds_i64 hn
  obtain ⟨ml, mh⟩ := bounds_i64 hm
  obtain ⟨fl, fh⟩ := bounds_i64 hf
  obtain ⟨k, hk⟩ : ∃ x : Nat, n % 5 = x := ⟨(n % 5).toNat, by omega⟩
  obtain ⟨m, hm'⟩ : ∃ x : Nat, more % 3 = x := ⟨(more % 3).toNat, by omega⟩
  obtain ⟨f, hf'⟩ : ∃ x : Nat, files % 44 = x := ⟨(files % 44).toNat, by omega⟩
  have hk5 : k < 5 := by omega
  have hm3 : m < 3 := by omega
  have hf44 : f < 44 := by omega
  obtain ⟨N, hN⟩ : ∃ N : Nat, N = 131072 := ⟨_, rfl⟩
  obtain ⟨half, hhalf⟩ : ∃ big : ByteArray, (⟨(List.replicate N 0).toArray⟩ : ByteArray) = big := ⟨_, rfl⟩
  have hbs : half.size = N := by rw [← hhalf, Lib.size_eq]; simp
  obtain ⟨CS, hCS⟩ : ∃ CS, madeCells (Value.int .u8 0).cells (N * 1) = CS := ⟨_, rfl⟩
  have hmk : ∀ wx : World, (Instr.makeSlice 48 (.int .i64 131072) (.int .i64 131072)).run Try.prog wx = .ok (.slice (some ⟨wx.heap.size, 0, none⟩) N N) (wx.alloc (.cells CS 5)) := fun wx => by
    have h := run_makeB wx N (by omega)
    have e : ((N : Nat) : Int) = 131072 := by omega
    rw [e, hCS] at h
    exact h
  have hcv : ∀ wx : World, (convert 48 9 (.slice (some ⟨wx.heap.size, 0, none⟩) N N)).run Try.prog (wx.alloc (.cells CS 5)) = .ok (.string half) (wx.alloc (.cells CS 5)) := fun wx => by
    rw [← hhalf, ← hCS]
    exact cv_string (made_rd wx N) N
  obtain ⟨h1, hh1⟩ : ∃ h1, half.extract k half.size = h1 := ⟨_, rfl⟩
  obtain ⟨h2, hh2⟩ : ∃ h2, half.extract 0 m = h2 := ⟨_, rfl⟩
  have hs1 : ∀ wx : World, (Instr.slice 9 (.string half) (some (.int .i64 (k : Nat))) none none).run Try.prog wx = .ok (.string h1) wx := fun wx => by rw [← hh1]; exact sl_strl half k (by omega) wx
  have hs2 : ∀ wx : World, (Instr.slice 9 (.string half) none (some (.int .i64 (m : Nat))) none).run Try.prog wx = .ok (.string h2) wx := fun wx => by rw [← hh2]; exact sl_strh half m (by omega) wx
  have hz1 : h1.size = N - k := by rw [Lib.size_eq, ← hh1, ext_drop, List.length_drop, ← Lib.size_eq, hbs]
  have hz2 : h2.size = m := by rw [Lib.size_eq, ← hh2, ext_take, List.length_take, ← Lib.size_eq, hbs]; omega
  obtain ⟨H, hH⟩ : ∃ H, half.data.toList = H := ⟨_, rfl⟩
  have hHl : H.length = N := by rw [← hH, ← Lib.size_eq, hbs]
  obtain ⟨H1, hH1⟩ : ∃ H, h1.data.toList = H := ⟨_, rfl⟩
  have hH1l : H1.length = N - k := by rw [← hH1, ← Lib.size_eq, hz1]
  have e1 : Sh.new.app half = (shX H ⟨#[120]⟩ 0, 0) := by
    unfold Sh.app
    rw [if_neg (by simp [Sh.new]; omega), hH]
    rfl
  have e2 : (shX H ⟨#[120]⟩ 0).app h1 = (shX (H ++ H1) ⟨#[120]⟩ 0, 0) := by
    unfold Sh.app shX
    rw [if_neg (by simp only; omega), hH1]
  obtain ⟨L, r, he3, hr⟩ : ∃ L r, (shX (H ++ H1) ⟨#[120]⟩ 0).app h2 = (shX L ⟨#[120]⟩ 0, r) ∧ (r = 0 ∧ m ≤ k ∨ r = 2 ∧ k < m) := by
    unfold Sh.app shX
    simp only [List.length_append]
    by_cases hmk : m ≤ k
    · rw [if_neg (by omega)]
      exact ⟨_, _, rfl, Or.inl ⟨rfl, hmk⟩⟩
    · rw [if_pos (by omega)]
      exact ⟨_, _, rfl, Or.inr ⟨rfl, by omega⟩⟩
  have hcmp : (r = 0 ∧ decide (m ≤ k) = true) ∨ (r = 2 ∧ decide (m ≤ k) = false) := by
    rcases hr with ⟨h, h'⟩ | ⟨h, h'⟩
    · exact Or.inl ⟨h, by simp; omega⟩
    · exact Or.inr ⟨h, by simp; omega⟩
  have hh : half.size ≤ 1099511627776 := by omega
  have hh' : h1.size ≤ 1099511627776 := by omega
  have hh'' : h2.size ≤ 1099511627776 := by omega
  have E1 := Lib.hid e1; have E2 := Lib.hid e2; have E3 := Lib.hid he3; have HK := Lib.hid hk; have HM := Lib.hid hm'; have HF := Lib.hid hf'
  have HS := Lib.hid hh; have HS1 := Lib.hid hh'; have HS2 := Lib.hid hh''
  clear e1 e2 he3 hk hm' hf' hr hN hhalf hbs hCS hh1 hh2 hz1 hz2 hH hHl hH1 hH1l hh hh' hh'' hn hm hf
  rcases hcmp with ⟨rfl, hd⟩ | ⟨rfl, hd⟩
  all_goals
    go_enter Try.func5, Try.ntmps5
    go_wp2_with fail
    refine (new_my w _ (Below.refl _ _)).mono ?_
    rintro e w1 ⟨p, F, rfl, m1, _⟩
    go_wp2_with fail
    refine (place_any n 5 _ (by omega) (by omega) ⟨nl, nh⟩).mono ?_
    rintro e w2 ⟨rfl, rfl⟩
    rw [HK.out]
    go_wp2_with fail
    refine (place_any more 3 _ (by omega) (by omega) ⟨ml, mh⟩).mono ?_
    rintro e w2 ⟨rfl, rfl⟩
    rw [HM.out]
    have m2 := m1.read ((Below.refl w1.heap.size w1).alloc (Nat.le_refl _) (.cells CS 5))
    have M2 := Lib.hid m2
    clear m2
    go_wp2_with fail
    refine (append_my M2.out half HS.out _ _ E1.out).mono ?_
    rintro e w3 ⟨rfl, F3, m3, _⟩
    go_wp2_with fail
    refine (append_my m3 h1 HS1.out _ _ E2.out).mono ?_
    rintro e w4 ⟨rfl, F4, m4, _⟩
    go_wp2_with fail
    refine (append_my m4 h2 HS2.out _ _ E3.out).mono ?_
    rintro e w5 ⟨rfl, F5, m5, _⟩
    go_wp2_with fail
    refine (place_any files 44 _ (by omega) (by omega) ⟨fl, fh⟩).mono ?_
    rintro e w6 ⟨rfl, rfl⟩
    rw [HF.out]
    go_wp2_with fail
    go_loopw [13] (fun v13 wr => ∃ (x : Nat) (G : Nat → Prop), v13 = .int .i64 (x : Nat) ∧ 1 ≤ x ∧ x ≤ f + 1 ∧ My w wr G p (shX L ⟨#[120]⟩ (min (x - 1) 40))) (fun v _ => (f + 1) - (intOf v).toNat)
    case atStart => exact ⟨1, F5, rfl, Nat.le_refl _, by omega, m5⟩
    case round =>
      obtain ⟨x, G, rfl, hx1, hxf, mr⟩ := hrel
      by_cases hlt : x ≤ f
      · have c1 : decide (x ≤ f) = true := by simpa using hlt
        have c2 : decide ((x : Int) ≤ (f : Nat)) = true := by simp; omega
        have hwx := wfI (x := ((x : Nat) : Int)) (by omega) (by omega)
        have HWX := Lib.hid hwx
        by_cases h40 : x ≤ 40
        · have c3 : decide (x ≤ 40) = true := by simpa using h40
          have c4 : decide ((x : Int) ≤ 40) = true := by simp; omega
          have he := put_shX_ok L ⟨#[120]⟩ (x - 1) (by omega) (by decide)
          rw [show x - 1 + 1 = x by omega] at he
          rw [show min (x - 1) 40 = x - 1 by omega] at mr
          have HE := Lib.hid he
          clear he hwx
          go_wp2_with fail
          refine (put_my mr (x : Nat) ⟨#[120]⟩ HWX.out (by decide) _ _ HE.out).mono ?_
          rintro e w7 ⟨rfl, m7, _⟩
          go_wp2
          go_roundw
          case rel => exact ⟨x + 1, G, by go_num, by omega, by omega, by rw [show min (x + 1 - 1) 40 = x by omega]; exact m7⟩
          case measure => simp [intOf]; omega
        · have c3 : decide (x ≤ 40) = false := by simpa using h40
          have c4 : decide ((x : Int) ≤ 40) = false := by simp; omega
          have he := put_shX_big L ⟨#[120]⟩ x (by omega) (by omega)
          rw [show min (x - 1) 40 = 40 by omega] at mr
          have HE := Lib.hid he
          clear he hwx
          go_wp2_with fail
          refine (put_my mr (x : Nat) ⟨#[120]⟩ HWX.out (by decide) _ _ HE.out).mono ?_
          rintro e w7 ⟨rfl, m7, _⟩
          go_wp2
          go_roundw
          case rel => exact ⟨x + 1, G, by go_num, by omega, by omega, by rw [show min (x + 1 - 1) 40 = 40 by omega]; exact m7⟩
          case measure => simp [intOf]; omega
      · obtain rfl : x = f + 1 := by omega
        have c1 : decide (f + 1 ≤ f) = false := by simp
        have c2 : decide ((f : Int) + 1 ≤ (f : Nat)) = false := by simp; omega
        rw [show f + 1 - 1 = f by omega] at mr
        obtain ⟨q, hq⟩ : ∃ q, min f 40 = q := ⟨_, rfl⟩
        rw [hq] at mr
        have hmin : min (f : Int) 40 = (q : Nat) := by omega
        have hlen : (shX L ⟨#[120]⟩ q).fs.length = q := xsF_length _ _
        have HL := Lib.hid hlen
        clear hlen
        by_cases h0 : f = 0
        · have hq0 : q = 0 := by omega
          have he : (shX L ⟨#[120]⟩ q).put 1 ⟨#[121]⟩ = (⟨L, 0, [(1, ⟨#[121]⟩)], ⟨#[]⟩⟩, 0) := by rw [hq0]; rfl
          have HE := Lib.hid he
          have c3 : decide (0 < f) = false := by simp; omega
          have c4 : decide ((0 : Int) < (f : Nat)) = false := by simp; omega
          have c5 : ((f : Int) == 0) = true := by rw [beq_iff_eq]; omega
          have c6 : (f == 0) = true := by rw [beq_iff_eq]; omega
          clear he hq hq0 h0
          go_wp2_with fail
          refine (nums_my mr q HL.out).mono ?_
          rintro e w8 ⟨A8, c8, rfl, _, b8⟩
          have m8 := mr.read b8
          go_wp2_with fail
          refine (put_my m8 1 ⟨#[121]⟩ (by decide) (by decide) _ _ HE.out).mono ?_
          rintro e w9 ⟨rfl, m9, _⟩
          go_wp2_with fail
          refine (awake_any _).mono ?_
          rintro e w10 ⟨rfl, b10⟩
          go_wp2
          go_ret
          exact ⟨rfl, m9.below.trans (b10.mono m9.below.size)⟩
        · have he : (shX L ⟨#[120]⟩ q).put 1 ⟨#[121]⟩ = (shX L ⟨#[120]⟩ q, 1) := by
            unfold Sh.put
            rw [if_pos (by unfold shX; rw [hasF_xsF]; simp; omega)]
          have HE := Lib.hid he
          have c3 : decide (0 < f) = true := by simp; omega
          have c4 : decide ((0 : Int) < (f : Nat)) = true := by simp; omega
          clear he hq h0
          go_wp2_with fail
          refine (nums_my mr q HL.out).mono ?_
          rintro e w8 ⟨A8, c8, rfl, _, b8⟩
          have m8 := mr.read b8
          go_wp2_with fail
          refine (put_my m8 1 ⟨#[121]⟩ (by decide) (by decide) _ _ HE.out).mono ?_
          rintro e w9 ⟨rfl, m9, _⟩
          go_wp2_with fail
          refine (awake_any _).mono ?_
          rintro e w10 ⟨rfl, b10⟩
          go_wp2
          go_ret
          exact ⟨rfl, m9.below.trans (b10.mono m9.below.size)⟩
end Go.Proofs.Ytjfkfiaheohhcaa
