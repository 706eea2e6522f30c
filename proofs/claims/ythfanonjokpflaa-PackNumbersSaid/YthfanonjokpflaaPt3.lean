/-
  pack's lists of columns, put.
-/
import Derived.Test.YthfanonjokpflaaTkl
import Derived.Test.YthfanonjokpflaaPt2
import Derived.Test.YthfanonjokpflaaRoK
set_option linter.unusedVariables false
set_option linter.unusedSimpArgs false
namespace Go.Proofs.Ythfanonjokpflaa
open Go Go.RowKit

/-- A column that is put. -/
def ColS (x : ByteArray × Ce) : Prop := x.1.size ≤ 1000000 ∧ x.2.Gd ∧ x.2.s.size ≤ 1000000
set_option maxRecDepth 8000 in
set_option maxHeartbeats 400000 in
theorem putCols_any (B : Nat) (v : Value) (l : Bs) (A : Option Addr) (n c Bk : Nat) (K : Cols) (w : World) (h : OwnY B w v l) (hB : B ≤ w.heap.size) (hr : RdK w Bk A n K) (hBk : Bk ≤ B) (hx : ∀ x ∈ K, ColS x) (hn : n ≤ 1000000) (htot : (l ++ (numL n ++ K.flatMap kE)).length ≤ 500000000) :
    Calls Try.prog 71 #[v, .slice A n c, .func (.func 72) #[] #[]] w (Lays B w v (l ++ (numL n ++ K.flatMap kE))) := by
  have hl := hr.1
  obtain ⟨P, hP⟩ : ∃ P, l ++ (numL n ++ K.flatMap kE) = P := ⟨_, rfl⟩
  obtain ⟨P0, hP0⟩ : ∃ X, l ++ numL n = X := ⟨_, rfl⟩
  rw [hP] at htot ⊢
  have hst : P0 ++ (K.drop 0).flatMap kE = P := by rw [← hP, ← hP0, List.drop_zero, List.append_assoc]
  have hl0 : l.length ≤ 500000000 := by have := congrArg List.length hP; rw [List.length_append] at this; omega
  have N := putNum_any B v l (n : Int) w h hB (by omega) (by omega) (by omega)
  rw [Int.toNat_natCast, hP0] at N
  have HN := Lib.hid N; have HB := Lib.hid hB; have HO := Lib.hid h; have HR := Lib.hid hr; have HX := Lib.hid hx; have HT := Lib.hid htot; have HL := Lib.hid hl; have HST := Lib.hid hst; have HBK := Lib.hid hBk; have HNN := Lib.hid hn
  clear N hB h hr hx htot hl hst hBk hP hP0 hl0 hn
  go_enter Try.func71, Try.ntmps71
  go_wp2_with fail
  refine (HN.out).mono ?_
  rintro e w1 ⟨v1, rfl, l1⟩
  have L1 := Lib.hid l1
  clear l1
  go_wp2_with fail
  go_loopw [0, 15] (fun b i wr => ∃ (t : Nat) (X : Bs) (b' : Value), t ≤ n ∧ i = .int .i64 t ∧ b' = b ∧ X ++ (K.drop t).flatMap kE = P ∧ Ly B w v wr b' X) (fun _ i _ => n - (intOf i).toNat)
  case atStart => exact ⟨0, P0, v1, Nat.zero_le _, rfl, rfl, HST.out, L1.out⟩
  case round =>
    obtain ⟨t, X, b, ht, rfl, rfl, hX, hly⟩ := hrel
    by_cases hlt : t < n
    · have i1 : (t : Int) < n := by omega
      have i0 : (0 : Int) ≤ t := by omega
      have i8 : n ≤ 1000000 := HNN.out
      have htl : t < K.length := by rw [HL.out]; exact hlt
      have hrd := HR.out.below ((hly.base HO.out HB.out).mono HBK.out)
      obtain ⟨g0, o0, rfl, hg0, hc⟩ := hrd.2 (by omega)
      have hcol := hc t htl
      have hs := HX.out K[t] (List.getElem_mem htl)
      rw [List.drop_eq_getElem_cons htl, List.flatMap_cons] at hX
      obtain ⟨⟨nm, ⟨cs, cd, ca, ce⟩⟩, hcx⟩ : ∃ y, K[t] = y := ⟨_, rfl⟩
      rw [hcx] at hcol hs hX
      dsimp only at hcol hs hX
      have hxl : X.length ≤ 500000000 := by have := congrArg List.length hX; rw [List.length_append] at this; have := HT.out; omega
      obtain ⟨s1, s2, s3⟩ := hs
      dsimp only at s1 s2 s3
      obtain ⟨_, _, _, _, _⟩ := hcol
      have ba := (Below.refl wr.heap.size wr).alloc (Nat.le_refl _) (.cells #[.string nm, .string cs, .bool cd, .int .i64 ca, .int .i64 ce] 90)
      have lb := hly.below ba
      have HLB := Lib.hid lb; have HX3 := Lib.hid hX; have S1 := Lib.hid s1; have S2 := Lib.hid s2; have S3 := Lib.hid s3; have HXL := Lib.hid hxl
      clear hrd hc hX hxl s1 s2 s3 ba lb hly hcx
      go_wp2_with fail
      refine (putCol_any B b X nm cs cd ca ce _ HLB.out.own (Nat.le_trans HB.out HLB.out.size) S2.out (by have := S1.out; omega) (by have := S3.out; omega) (by have := HXL.out; omega)).mono ?_
      rintro x w2 ⟨v2, rfl, l2⟩
      have L2 := Lib.hid (HLB.out.on l2)
      clear l2
      go_wp2
      go_roundw
      case rel => exact ⟨t + 1, X ++ kE (nm, ⟨cs, cd, ca, ce⟩), v2, by omega, by go_num, rfl, by rw [List.append_assoc]; exact HX3.out, L2.out⟩
      case measure => simp [intOf]; omega
    · obtain rfl : t = n := by omega
      rw [List.drop_of_length_le (by rw [HL.out]; exact Nat.le_refl _), List.flatMap_nil, List.append_nil] at hX
      have HLY := Lib.hid (hly.same hX)
      clear hX hly
      go_wp2
      go_ret
      exact ⟨b, rfl, HLY.out⟩
end Go.Proofs.Ythfanonjokpflaa
