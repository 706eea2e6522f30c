/-
  GetPart.
-/
import Derived.Test.YthfanonjokpflaaGreatTkl
import Derived.Test.YthfanonjokpflaaGreatLawPkAllA
import Derived.Test.YthfanonjokpflaaGreatPd3
import Derived.Test.YthfanonjokpflaaGreatRnN
import Derived.Test.YthfanonjokpflaaGreatKg3
import Derived.Test.YthfanonjokpflaaGreatKe
import Derived.Test.YthfanonjokpflaaGreatOr3
import Derived.Test.YthfanonjokpflaaGreatKq
import Derived.Lib.SmallJoins
import Derived.Test.YthfanonjokpflaaGreatRoK
import Derived.Test.YthfanonjokpflaaGreatPo
import Derived.Test.YthfanonjokpflaaGreatCeA
set_option linter.unusedVariables false
set_option linter.unusedSimpArgs false
namespace Go.Proofs.YthfanonjokpflaaGreat
open Go Go.RowKit

/-- What is joined to partitions, that can be read, down to the columns. -/
structure LiesM (w : World) (B : Nat) (A : Option Addr) (n c : Nat) (L : List MA) : Prop where
  rd : RdM w B A n L
  parts : ∀ x ∈ L, Lies w B x.p.A x.p.L.length x.p.c x.p.L
  cap : n ≤ c
theorem LiesM.below {w w' : World} {B n c : Nat} {A : Option Addr} {L : List MA} (h : LiesM w B A n c L) (hb : Below B w w') : LiesM w' B A n c L := ⟨h.rd.below hb, fun x hx => (h.parts x hx).below hb, h.cap⟩
theorem LiesM.up {w : World} {B B' n c : Nat} {A : Option Addr} {L : List MA} (h : LiesM w B A n c L) (hB : B ≤ B') : LiesM w B' A n c L := ⟨h.rd.up hB, fun x hx => (h.parts x hx).up hB, h.cap⟩
def mutOf (x : MA) : ByteArray × Pa := (x.tb, ⟨x.p.k, x.p.g, ros x.p.L⟩)
abbrev muts (L : List MA) : List (ByteArray × Pa) := L.map mutOf
theorem drop_muts {L : List MA} {t : Nat} (h : t < L.length) : muts (L.drop t) = mutOf L[t] :: muts (L.drop (t + 1)) := by rw [List.drop_eq_getElem_cons h]; rfl
def MuS (x : MA) : Prop := x.tb.size ≤ 1000000 ∧ PaS x.p.k x.p.g x.p.L
def NoS (x : NA) : Prop := Stm x.1 ∧ x.2.size ≤ 1000000
set_option maxRecDepth 8000 in
set_option maxHeartbeats 600000 in
theorem putMuts_any (B : Nat) (v : Value) (l : Bs) (A : Option Addr) (n c Bk : Nat) (L : List MA) (w : World) (h : OwnY B w v l) (hB : B ≤ w.heap.size) (hr : LiesM w Bk A n c L) (hBk : Bk ≤ B) (hx : ∀ x ∈ L, MuS x) (hn : n ≤ 1000000) (htot : (l ++ (numL n ++ (muts L).flatMap mE)).length ≤ 400000000) :
    Calls Tryz.prog 66 #[v, .slice A n c, .func (.func 67) #[] #[]] w (Lays B w v (l ++ (numL n ++ (muts L).flatMap mE))) := by
  have hl := hr.rd.1
  obtain ⟨P, hP⟩ : ∃ P, l ++ (numL n ++ (muts L).flatMap mE) = P := ⟨_, rfl⟩
  obtain ⟨P0, hP0⟩ : ∃ X, l ++ numL n = X := ⟨_, rfl⟩
  rw [hP] at htot ⊢
  have hst : P0 ++ (muts (L.drop 0)).flatMap mE = P := by rw [← hP, ← hP0, List.drop_zero, List.append_assoc]
  have hl0 : l.length ≤ 400000000 := by have := congrArg List.length hP; rw [List.length_append] at this; omega
  have N := putNum_any B v l (n : Int) w h hB (by omega) (by omega) (by omega)
  rw [Int.toNat_natCast, hP0] at N
  have HN := Lib.hid N; have HB := Lib.hid hB; have HO := Lib.hid h; have HR := Lib.hid hr; have HX := Lib.hid hx; have HT := Lib.hid htot; have HL := Lib.hid hl; have HST := Lib.hid hst; have HBK := Lib.hid hBk; have HNN := Lib.hid hn
  clear N hB h hr hx htot hl hst hBk hP hP0 hl0 hn
  go_enter Tryz.func66, Tryz.ntmps66
  go_wp2_with fail
  refine (HN.out).mono ?_
  rintro e w1 ⟨v1, rfl, l1⟩
  have L1 := Lib.hid l1
  clear l1
  go_wp2_with fail
  go_loopw [0, 15] (fun b i wr => ∃ (t : Nat) (X : Bs) (b' : Value), t ≤ n ∧ i = .int .i64 t ∧ b' = b ∧ X ++ (muts (L.drop t)).flatMap mE = P ∧ Ly B w v wr b' X) (fun _ i _ => n - (intOf i).toNat)
  case atStart => exact ⟨0, P0, v1, Nat.zero_le _, rfl, rfl, HST.out, L1.out⟩
  case round =>
    obtain ⟨t, X, b, ht, rfl, rfl, hX, hly⟩ := hrel
    by_cases hlt : t < n
    · have i1 : (t : Int) < n := by omega
      have i0 : (0 : Int) ≤ t := by omega
      have i8 : n ≤ 1000000 := HNN.out
      have htl : t < L.length := by rw [HL.out]; exact hlt
      have hrd := HR.out.below ((hly.base HO.out HB.out).mono HBK.out)
      obtain ⟨g0, o0, rfl, hg0⟩ := hrd.rd.ex (by omega)
      have hcol := hrd.rd.part htl
      have hs := HX.out L[t] (List.getElem_mem htl)
      have hin := hrd.parts L[t] (List.getElem_mem htl)
      rw [drop_muts htl, List.flatMap_cons] at hX
      obtain ⟨x, hcx⟩ : ∃ y, L[t] = y := ⟨_, rfl⟩
      rw [hcx] at hcol hs hX hin
      have hxl : (X ++ mE (mutOf x)).length ≤ 400000000 := by have := congrArg List.length hX; rw [← List.append_assoc, List.length_append] at this; have := HT.out; omega
      obtain ⟨_, _, _, _⟩ := hcol
      have ba := (Below.refl wr.heap.size wr).alloc (Nat.le_refl _) (.cells #[.string x.tb, .string x.p.k, .int .i64 x.p.g, .slice x.p.A x.p.L.length x.p.c] 91)
      have lb := hly.below ba
      have HLB := Lib.hid lb; have HX3 := Lib.hid hX; have S1 := Lib.hid hs; have HXL := Lib.hid hxl
      have HIN := Lib.hid (Lies.below hin (ba.mono (by have := HBK.out; have := HB.out; have := hly.size; omega)))
      clear hrd hX hxl hs lb hly hcx hin ba
      go_wp2_with fail
      refine (putMut_any B b X x.tb x.p.k x.p.g x.p.A x.p.L.length x.p.c Bk x.p.L _ HLB.out.own (Nat.le_trans HB.out HLB.out.size) HIN.out HBK.out S1.out.1 S1.out.2 HXL.out).mono ?_
      rintro e w2 ⟨v2, rfl, l2⟩
      have L2 := Lib.hid (HLB.out.on l2)
      clear l2
      go_wp2
      go_roundw
      case rel => exact ⟨t + 1, X ++ mE (mutOf x), v2, by omega, by go_num, rfl, by rw [List.append_assoc]; exact HX3.out, L2.out⟩
      case measure => simp [intOf]; omega
    · obtain rfl : t = n := by omega
      rw [List.drop_of_length_le (by rw [HL.out]; exact Nat.le_refl _)] at hX
      have HLY := Lib.hid (hly.same (by rw [← hX]; simp [muts] : X = P))
      clear hX hly
      go_wp2
      go_ret
      exact ⟨b, rfl, HLY.out⟩

set_option maxRecDepth 8000 in
set_option maxHeartbeats 600000 in
theorem putNotes_any (B : Nat) (v : Value) (l : Bs) (A : Option Addr) (n c Bk : Nat) (L : List NA) (w : World) (h : OwnY B w v l) (hB : B ≤ w.heap.size) (hr : RdN w Bk A n L) (hBk : Bk ≤ B) (hx : ∀ x ∈ L, NoS x) (hn : n ≤ 1000000) (htot : (l ++ (numL n ++ L.flatMap aE)).length ≤ 400000000) :
    Calls Tryz.prog 69 #[v, .slice A n c, .func (.func 70) #[] #[]] w (Lays B w v (l ++ (numL n ++ L.flatMap aE))) := by
  have hl := hr.1
  obtain ⟨P, hP⟩ : ∃ P, l ++ (numL n ++ L.flatMap aE) = P := ⟨_, rfl⟩
  obtain ⟨P0, hP0⟩ : ∃ X, l ++ numL n = X := ⟨_, rfl⟩
  rw [hP] at htot ⊢
  have hst : P0 ++ (L.drop 0).flatMap aE = P := by rw [← hP, ← hP0, List.drop_zero, List.append_assoc]
  have hl0 : l.length ≤ 400000000 := by have := congrArg List.length hP; rw [List.length_append] at this; omega
  have N := putNum_any B v l (n : Int) w h hB (by omega) (by omega) (by omega)
  rw [Int.toNat_natCast, hP0] at N
  have HN := Lib.hid N; have HB := Lib.hid hB; have HO := Lib.hid h; have HR := Lib.hid hr; have HX := Lib.hid hx; have HT := Lib.hid htot; have HL := Lib.hid hl; have HST := Lib.hid hst; have HBK := Lib.hid hBk; have HNN := Lib.hid hn
  clear N hB h hr hx htot hl hst hBk hP hP0 hl0 hn
  go_enter Tryz.func69, Tryz.ntmps69
  go_wp2_with fail
  refine (HN.out).mono ?_
  rintro e w1 ⟨v1, rfl, l1⟩
  have L1 := Lib.hid l1
  clear l1
  go_wp2_with fail
  go_loopw [0, 15] (fun b i wr => ∃ (t : Nat) (X : Bs) (b' : Value), t ≤ n ∧ i = .int .i64 t ∧ b' = b ∧ X ++ (L.drop t).flatMap aE = P ∧ Ly B w v wr b' X) (fun _ i _ => n - (intOf i).toNat)
  case atStart => exact ⟨0, P0, v1, Nat.zero_le _, rfl, rfl, HST.out, L1.out⟩
  case round =>
    obtain ⟨t, X, b, ht, rfl, rfl, hX, hly⟩ := hrel
    by_cases hlt : t < n
    · have i1 : (t : Int) < n := by omega
      have i0 : (0 : Int) ≤ t := by omega
      have i8 : n ≤ 1000000 := HNN.out
      have htl : t < L.length := by rw [HL.out]; exact hlt
      have hrd := HR.out.below ((hly.base HO.out HB.out).mono HBK.out)
      obtain ⟨g0, o0, rfl, hg0⟩ := hrd.ex (by omega)
      have hcol := hrd.part htl
      have hs := HX.out L[t] (List.getElem_mem htl)
      rw [List.drop_eq_getElem_cons htl, List.flatMap_cons] at hX
      obtain ⟨x, hcx⟩ : ∃ y, L[t] = y := ⟨_, rfl⟩
      rw [hcx] at hcol hs hX
      have hxl : (X ++ aE x).length ≤ 400000000 := by have := congrArg List.length hX; rw [← List.append_assoc, List.length_append] at this; have := HT.out; omega
      obtain ⟨_, _⟩ := hcol
      have ba := (Below.refl wr.heap.size wr).alloc (Nat.le_refl _) (.cells #[.int .i64 x.1, .string x.2] 60)
      have lb := hly.below ba
      have HLB := Lib.hid lb; have HX3 := Lib.hid hX; have S1 := Lib.hid hs; have HXL := Lib.hid hxl
      clear hrd hX hxl hs lb hly hcx ba
      go_wp2_with fail
      refine (putNote_any B b X x.1 x.2 _ HLB.out.own (Nat.le_trans HB.out HLB.out.size) S1.out.1 S1.out.2 (by have := HXL.out; rw [List.length_append] at this; omega)).mono ?_
      rintro e w2 ⟨v2, rfl, l2⟩
      have L2 := Lib.hid (HLB.out.on l2)
      clear l2
      go_wp2
      go_roundw
      case rel => exact ⟨t + 1, X ++ aE x, v2, by omega, by go_num, rfl, by rw [List.append_assoc]; exact HX3.out, L2.out⟩
      case measure => simp [intOf]; omega
    · obtain rfl : t = n := by omega
      rw [List.drop_of_length_le (by rw [HL.out]; exact Nat.le_refl _)] at hX
      have HLY := Lib.hid (hly.same (by rw [← hX]; simp : X = P))
      clear hX hly
      go_wp2
      go_ret
      exact ⟨b, rfl, HLY.out⟩

set_option maxRecDepth 8000 in
set_option maxHeartbeats 600000 in
theorem putInts_any (B : Nat) (v : Value) (l : Bs) (A : Option Addr) (n c Bk : Nat) (L : List Int) (w : World) (h : OwnY B w v l) (hB : B ≤ w.heap.size) (hr : RdZ w Bk A n L) (hBk : Bk ≤ B) (hx : ∀ x ∈ L, Stm x) (hn : n ≤ 1000000) (htot : (l ++ (numL n ++ L.flatMap (fun v : Int => numL v.toNat))).length ≤ 400000000) :
    Calls Tryz.prog 68 #[v, .slice A n c, .func (.func 60) #[] #[]] w (Lays B w v (l ++ (numL n ++ L.flatMap (fun v : Int => numL v.toNat)))) := by
  have hl := hr.1
  obtain ⟨P, hP⟩ : ∃ P, l ++ (numL n ++ L.flatMap (fun v : Int => numL v.toNat)) = P := ⟨_, rfl⟩
  obtain ⟨P0, hP0⟩ : ∃ X, l ++ numL n = X := ⟨_, rfl⟩
  rw [hP] at htot ⊢
  have hst : P0 ++ (L.drop 0).flatMap (fun v : Int => numL v.toNat) = P := by rw [← hP, ← hP0, List.drop_zero, List.append_assoc]
  have hl0 : l.length ≤ 400000000 := by have := congrArg List.length hP; rw [List.length_append] at this; omega
  have N := putNum_any B v l (n : Int) w h hB (by omega) (by omega) (by omega)
  rw [Int.toNat_natCast, hP0] at N
  have HN := Lib.hid N; have HB := Lib.hid hB; have HO := Lib.hid h; have HR := Lib.hid hr; have HX := Lib.hid hx; have HT := Lib.hid htot; have HL := Lib.hid hl; have HST := Lib.hid hst; have HBK := Lib.hid hBk; have HNN := Lib.hid hn
  clear N hB h hr hx htot hl hst hBk hP hP0 hl0 hn
  go_enter Tryz.func68, Tryz.ntmps68
  go_wp2_with fail
  refine (HN.out).mono ?_
  rintro e w1 ⟨v1, rfl, l1⟩
  have L1 := Lib.hid l1
  clear l1
  go_wp2_with fail
  go_loopw [0, 15] (fun b i wr => ∃ (t : Nat) (X : Bs) (b' : Value), t ≤ n ∧ i = .int .i64 t ∧ b' = b ∧ X ++ (L.drop t).flatMap (fun v : Int => numL v.toNat) = P ∧ Ly B w v wr b' X) (fun _ i _ => n - (intOf i).toNat)
  case atStart => exact ⟨0, P0, v1, Nat.zero_le _, rfl, rfl, HST.out, L1.out⟩
  case round =>
    obtain ⟨t, X, b, ht, rfl, rfl, hX, hly⟩ := hrel
    by_cases hlt : t < n
    · have i1 : (t : Int) < n := by omega
      have i0 : (0 : Int) ≤ t := by omega
      have i8 : n ≤ 1000000 := HNN.out
      have htl : t < L.length := by rw [HL.out]; exact hlt
      have hrd := HR.out.below ((hly.base HO.out HB.out).mono HBK.out)
      obtain ⟨g0, o0, rfl, hg0, hc⟩ := hrd.2 (by omega)
      have hcol := hc t htl
      have hs := HX.out L[t] (List.getElem_mem htl)
      rw [List.drop_eq_getElem_cons htl, List.flatMap_cons] at hX
      obtain ⟨x, hcx⟩ : ∃ y, L[t] = y := ⟨_, rfl⟩
      rw [hcx] at hcol hs hX
      have hxl : (X ++ numL x.toNat).length ≤ 400000000 := by have := congrArg List.length hX; rw [← List.append_assoc, List.length_append] at this; have := HT.out; omega
      have lb := hly
      have HLB := Lib.hid lb; have HX3 := Lib.hid hX; have S1 := Lib.hid hs; have HXL := Lib.hid hxl
      clear hrd hX hxl hs lb hly hcx hc
      go_wp2_with fail
      refine (putNum_any B b X x _ HLB.out.own (Nat.le_trans HB.out HLB.out.size) S1.out.1 (by have := S1.out.2; omega) (by have := HXL.out; rw [List.length_append] at this; omega)).mono ?_
      rintro e w2 ⟨v2, rfl, l2⟩
      have L2 := Lib.hid (HLB.out.on l2)
      clear l2
      go_wp2
      go_roundw
      case rel => exact ⟨t + 1, X ++ numL x.toNat, v2, by omega, by go_num, rfl, by rw [List.append_assoc]; exact HX3.out, L2.out⟩
      case measure => simp [intOf]; omega
    · obtain rfl : t = n := by omega
      rw [List.drop_of_length_le (by rw [HL.out]; exact Nat.le_refl _)] at hX
      have HLY := Lib.hid (hly.same (by rw [← hX]; simp : X = P))
      clear hX hly
      go_wp2
      go_ret
      exact ⟨b, rfl, HLY.out⟩

/-- A batch that can be read. -/
structure BA where
  AM : Option Addr
  cM : Nat
  M : List MA
  AN : Option Addr
  cN : Nat
  N : List NA
  AD : Option Addr
  cD : Nat
  D : List Int
def BA.bt (x : BA) : Bt := ⟨muts x.M, x.N, x.D⟩
structure LiesB (w : World) (B : Nat) (x : BA) : Prop where
  muts : LiesM w B x.AM x.M.length x.cM x.M
  notes : RdN w B x.AN x.N.length x.N
  drops : RdZ w B x.AD x.D.length x.D
  capN : x.N.length ≤ x.cN
  capD : x.D.length ≤ x.cD
theorem LiesB.below {w w' : World} {B : Nat} {x : BA} (h : LiesB w B x) (hb : Below B w w') : LiesB w' B x := ⟨h.muts.below hb, h.notes.below hb, h.drops.below hb, h.capN, h.capD⟩
structure BtS (x : BA) : Prop where
  muts : ∀ y ∈ x.M, MuS y
  notes : ∀ y ∈ x.N, NoS y
  drops : ∀ y ∈ x.D, Stm y
  lm : x.M.length ≤ 1000000
  ln : x.N.length ≤ 1000000
  ld : x.D.length ≤ 1000000
set_option maxRecDepth 8000 in
set_option maxHeartbeats 600000 in
theorem putBatch_any (B : Nat) (v : Value) (l : Bs) (AM AN AD : Option Addr) (m cM n cN d cD Bk : Nat) (M : List MA) (N : List NA) (D : List Int) (w : World) (h : OwnY B w v l) (hB : B ≤ w.heap.size) (hr : LiesM w Bk AM m cM M ∧ RdN w Bk AN n N ∧ RdZ w Bk AD d D) (hBk : Bk ≤ B)
    (hs : (∀ y ∈ M, MuS y) ∧ (∀ y ∈ N, NoS y) ∧ ∀ y ∈ D, Stm y) (hln : m ≤ 1000000 ∧ n ≤ 1000000 ∧ d ≤ 1000000) (htot : (l ++ bE ⟨muts M, N, D⟩).length ≤ 400000000) :
    Calls Tryz.prog 30 #[v, .agg #[.slice AM m cM, .slice AN n cN, .slice AD d cD]] w (Lays B w v (l ++ bE ⟨muts M, N, D⟩)) := by
  have e1 : (muts M).length = m := by rw [List.length_map]; exact hr.1.rd.1
  have e2 : N.length = n := hr.2.1.1
  have e3 : D.length = d := hr.2.2.1
  have hE : l ++ bE ⟨muts M, N, D⟩ = l ++ (numL m ++ (muts M).flatMap mE) ++ (numL n ++ N.flatMap aE) ++ (numL d ++ D.flatMap fun v => numL v.toNat) := by
    unfold bE
    dsimp only
    rw [e1, e2, e3]
    simp only [List.append_assoc]
  rw [hE] at htot ⊢
  have ht4 := htot
  simp only [List.length_append] at ht4
  have HT2 := Lib.hid htot
  have HT1 : Hid ((l ++ (numL m ++ (muts M).flatMap mE) ++ (numL n ++ N.flatMap aE)).length ≤ 400000000) := Lib.hid (by simp only [List.length_append]; omega)
  have HT0 : Hid ((l ++ (numL m ++ (muts M).flatMap mE)).length ≤ 400000000) := Lib.hid (by simp only [List.length_append]; omega)
  have bz := (Below.refl w.heap.size w).alloc (Nat.le_refl _) (.cells #[.slice AM m cM, .slice AN n cN, .slice AD d cD] 29)
  have hz := heap_alloc_new w (.cells #[.slice AM m cM, .slice AN n cN, .slice AD d cD] 29)
  have l0 := (Ly.refl h).below bz
  obtain ⟨V, hV⟩ : ∃ V, V = w.alloc (.cells #[.slice AM m cM, .slice AN n cN, .slice AD d cD] 29) := ⟨_, rfl⟩
  rw [← hV] at bz hz l0
  have hc0 := cell_at (i := 0) hz rfl
  have L0 := Lib.hid l0; have HZ := Lib.hid hz; have HB := Lib.hid hB; have HO := Lib.hid h; have HR := Lib.hid hr; have HBK := Lib.hid hBk; have HS := Lib.hid hs; have HLN := Lib.hid hln
  clear bz hz l0 hB hs h htot ht4 hE hr hBk hln e1 e2 e3
  go_enter Tryz.func30, Tryz.ntmps30
  go_wp2_with fail
  rw [← hV]
  clear hV
  refine (putMuts_any B v l AM m cM Bk M V L0.out.own (Nat.le_trans HB.out L0.out.size) (HR.out.1.below ((L0.out.base HO.out HB.out).mono HBK.out)) HBK.out HS.out.1 HLN.out.1 HT0.out).mono ?_
  rintro e w1 ⟨v1, rfl, l1⟩
  have HZ1 := Lib.hid (l1.at_ L0.out.own HZ.out (by decide))
  have L1 := Lib.hid (L0.out.on l1)
  clear l1 hc0
  go_wp2_with fail
  refine wp_region_held_drew (S := fun w' => w'.heap[w.heap.size]? = some (.cells #[.slice AM m cM, .slice AN n cN, .slice AD d cD] 29 (0, 0))) (by kernel_rfl) ?_ (fun hHeld => ?_)
  · exact HZ1.out
  refine takesH [0, 1, 2, 4, 5] ?_
  repeat
    refine takesH_one (v := ?_) ?_ ?_
    rotate_left
    · first | (refine Or.inr ⟨by rfl, ?_⟩; with_reducible rfl) | (refine Or.inl ⟨by rfl, ?_⟩; intro wx hSw; (try dsimp only at hSw); first | (go_simp; first | done | with_reducible rfl) | (have hc1 := cell_at (i := 1) hSw rfl; go_simp; first | done | with_reducible rfl) | (have hc2 := cell_at (i := 2) hSw rfl; go_simp; first | done | with_reducible rfl))
    try simp only [Act.put, List.getElem_toArray, List.getElem_cons_succ, List.getElem_cons_zero, List.setIfInBounds_toArray, List.set_cons_zero, List.set_cons_succ]
  refine takesH_nil ?_
  refine wpAnyH_ready (rs := [3]) (by kernel_rfl) (by simp) (AllReadyH.cons rfl (fun K hK => ?_) AllReadyH.nil)
  go_simp
  refine (putNotes_any B v1 (l ++ (numL m ++ (Go.Proofs.YthfanonjokpflaaGreat.muts M).flatMap mE)) AN n cN Bk N w1.drew L1.out.drew.own (Nat.le_trans HB.out L1.out.size) (HR.out.2.1.below ((L1.out.drew.base HO.out HB.out).mono HBK.out)) HBK.out HS.out.2.1 HLN.out.2.1 HT1.out).mono ?_
  rintro x w2 ⟨v2, rfl, l2⟩
  have HZ2 := Lib.hid (l2.at_ L1.out.drew.own HZ1.out (by decide))
  have L2 := Lib.hid (L1.out.step l2)
  clear l2
  try go_wp2_with fail
  refine hK.out _ _ ?_ (fun hHeld => ?_)
  · first | exact HZ3.out | exact HZ2.out
  clear hK K
  try simp only [Act.put, List.getElem_toArray, List.getElem_cons_succ, List.getElem_cons_zero, List.setIfInBounds_toArray, List.set_cons_zero, List.set_cons_succ]
  refine wpAnyH_ready (rs := [6]) (by kernel_rfl) (by simp) (AllReadyH.cons rfl (fun K hK => ?_) AllReadyH.nil)
  go_simp
  refine (putInts_any B v2 (l ++ (numL m ++ (Go.Proofs.YthfanonjokpflaaGreat.muts M).flatMap mE) ++ (numL n ++ N.flatMap aE)) AD d cD Bk D w2 L2.out.own (Nat.le_trans HB.out L2.out.size) (HR.out.2.2.below ((L2.out.base HO.out HB.out).mono HBK.out)) HBK.out HS.out.2.2 HLN.out.2.2 HT2.out).mono ?_
  rintro x w3 ⟨v3, rfl, l3⟩
  have HZ3 := Lib.hid (l3.at_ L2.out.own HZ2.out (by decide))
  have L3 := Lib.hid (L2.out.on l3)
  clear l3
  try go_wp2_with fail
  refine hK.out _ _ ?_ (fun hHeld => ?_)
  · first | exact HZ3.out | exact HZ2.out
  clear hK K
  try simp only [Act.put, List.getElem_toArray, List.getElem_cons_succ, List.getElem_cons_zero, List.setIfInBounds_toArray, List.set_cons_zero, List.set_cons_succ]
  refine takesH [7] ?_
  repeat
    refine takesH_one (v := ?_) ?_ ?_
    rotate_left
    · first | (refine Or.inr ⟨by rfl, ?_⟩; with_reducible rfl) | (refine Or.inl ⟨by rfl, ?_⟩; intro wx hSw; (try dsimp only at hSw); first | (go_simp; first | done | with_reducible rfl))
    try simp only [Act.put, List.getElem_toArray, List.getElem_cons_succ, List.getElem_cons_zero, List.setIfInBounds_toArray, List.set_cons_zero, List.set_cons_succ]
  refine takesH_nil ?_
  refine wpAnyH_done (by kernel_rfl) ?_ _
  go_wp2
  go_ret
  exact ⟨v3, rfl, L3.out⟩
end Go.Proofs.YthfanonjokpflaaGreat
set_option linter.unusedVariables false
set_option linter.unusedSimpArgs false
namespace Go.Proofs.YthfanonjokpflaaGreat
open Go Go.RowKit

set_option maxRecDepth 8000 in
set_option maxHeartbeats 4000000 in
theorem pcheck_any (k : ByteArray) (g : Int) (A : Option Addr) (n c B : Nat) (L : List RA) (w : World) (h : Lies w B A n c L) (hB : B ≤ w.heap.size) (hn : n ≤ 1000000000) (hf : FewR L) :
    Calls Tryz.prog 24 #[.agg #[.string k, .int .i64 g, .slice A n c]] w fun x w' => x = .returned (.bool (Pa.ok ⟨k, g, ros L⟩)) ∧ Below w.heap.size w w' := by
  obtain ⟨r, hrr⟩ : ∃ r, Pa.ok ⟨k, g, ros L⟩ = r := ⟨_, rfl⟩
  rw [hrr]
  unfold Pa.ok at hrr
  simp only at hrr
  rw [List.length_map, h.len] at hrr
  obtain ⟨u1, hu1⟩ : ∃ u, decide (k.size ≤ 100) = u := ⟨_, rfl⟩
  have hu1i : decide (((k.size : Nat) : Int) ≤ 100) = u1 := by rw [← hu1]; simp; omega
  obtain ⟨u2, hu2⟩ : ∃ u, stm g = u := ⟨_, rfl⟩
  obtain ⟨u3, hu3⟩ : ∃ u, (decide (n ≤ 100) && rowsB (ros L)) = u := ⟨_, rfl⟩
  rw [hu1, hu2, hu3] at hrr
  have RR := Lib.hid hrr; have U2 := Lib.hid hu2; have U3 := Lib.hid hu3
  have bz := (Below.refl w.heap.size w).alloc (Nat.le_refl _) (.cells #[.string k, .int .i64 g, .slice A n c] 24)
  have hz := heap_alloc_new w (.cells #[.string k, .int .i64 g, .slice A n c] 24)
  have HL := Lib.hid (h.below (bz.mono hB)); have HF := Lib.hid hf; have BZ := Lib.hid bz
  obtain ⟨_, _, _⟩ := PtAt.of hz
  clear hrr hu2 hu3 bz hz h hf
  go_enter Tryz.func24, Tryz.ntmps24
  cases u1
  · have hv : r = false := by rw [← RR.out]; rfl
    subst hv
    go_wp2
    go_ret
    exact ⟨rfl, BZ.out⟩
  · go_wp2_with fail
    refine (pstamp_any g _).mono ?_
    rintro e w1 ⟨rfl, rfl⟩
    rw [U2.out]
    cases u2
    · have hv : r = false := by rw [← RR.out]; rfl
      subst hv
      go_wp2
      go_ret
      exact ⟨rfl, BZ.out⟩
    · go_wp2_with fail
      refine (rows_any A n c B L _ HL.out (by simp; omega) hn HF.out).mono ?_
      rintro e w2 ⟨rfl, b2⟩
      rw [U3.out]
      have hv : u3 = r := by rw [← RR.out]; rfl
      subst hv
      go_wp2
      go_ret
      exact ⟨rfl, next BZ.out b2⟩
end Go.Proofs.YthfanonjokpflaaGreat
set_option linter.unusedVariables false
set_option linter.unusedSimpArgs false
namespace Go.Proofs.YthfanonjokpflaaGreat
open Go Go.RowKit

theorem ce_sizeD {c : Ce} (h : c.ok = true) : c.s.size ≤ 100 := by
  unfold Ce.ok at h
  split at h
  · rw [(same_iff _ _).1 h]; simp [ByteArray.size]
  · split at h
    · cases h
    · split at h
      · rw [(same_iff _ _).1 h]; simp [ByteArray.size]
      · simp only [Bool.and_eq_true, decide_eq_true_iff] at h
        exact h.1
theorem roS_of {r : Ro} (h : r.ok = true) : RoS r := by
  have hg := Ro.gd_of h
  have hc := cols_each h
  unfold Ro.ok liveB at h
  simp only [Bool.and_eq_true, decide_eq_true_iff] at h
  refine ⟨by omega, hg.2.1, ?_, hg.2.2.1, hg.2.2.2.1, by omega, fun x hx => ?_⟩
  · have := ce_sizeD h.2.1.1; omega
  · have h1 := hc x hx
    unfold colB nameB at h1
    simp only [Bool.and_eq_true, decide_eq_true_iff] at h1
    have := ce_sizeD h1.2.1
    exact ⟨by omega, Ce.gd_of h1.2.1, by omega⟩
theorem paS_of {k : ByteArray} {g : Int} {L : List RA} (h : Pa.ok ⟨k, g, ros L⟩ = true) : PaS k g L := by
  obtain ⟨hk1, hk2, hk3, hk4⟩ := Pa.ok_of h
  have hgd := Pa.gd_of h
  simp only [List.length_map] at hk3
  dsimp only at hk1
  exact ⟨by omega, hgd.2.1, by omega, fun x hx => roS_of (rowsB_each hk4 x.ro (List.mem_map.2 ⟨x, hx, rfl⟩))⟩
/-- A call that hands back bytes, or what is wrong. -/
def GivesP (w : World) (r : Except Int Bs) (e : Ending) (w' : World) : Prop := match r with
  | .ok b => ∃ A n c, e = .returned (.tuple #[.slice A n c, .int .i64 0]) ∧ b.length = n ∧ n ≤ c ∧ c ≤ maxLen ∧ (A = none → c = 0) ∧ w'.ownsRow w.heap.size 5 1 (.slice A n c) n (Lib.byteCells b) ∧ Below w.heap.size w w'
  | .error x => e = .returned (.tuple #[.slice none 0 0, .int .i64 x]) ∧ Below w.heap.size w w'
theorem OwnY.base {b b' : Nat} {w : World} {v : Value} {l : Bs} (h : OwnY b w v l) (hb : b' ≤ b) : OwnY b' w v l := own_down h hb
set_option maxRecDepth 8000 in
set_option maxHeartbeats 4000000 in
theorem put_part (k : ByteArray) (g : Int) (A : Option Addr) (n c B : Nat) (L : List RA) (w : World) (hr : Lies w B A n c L) (hB : B ≤ w.heap.size) (hn : n ≤ 1000000) (hf : FewR L) :
    Calls Tryz.prog 23 #[.agg #[.string k, .int .i64 g, .slice A n c], .func (.func 24) #[] #[], .func (.func 25) #[] #[]] w (GivesP w (putPart ⟨k, g, ros L⟩)) := by
  have bz := (Below.refl w.heap.size w).alloc (Nat.le_refl _) (.cells #[.string k, .int .i64 g, .slice A n c] 24)
  have hz := heap_alloc_new w (.cells #[.string k, .int .i64 g, .slice A n c] 24)
  obtain ⟨V, hV⟩ : ∃ V, V = w.alloc (.cells #[.string k, .int .i64 g, .slice A n c] 24) := ⟨_, rfl⟩
  rw [← hV] at bz hz
  have hVs := bz.size
  have hc0 := cell_at (i := 0) hz rfl
  have hc1 := cell_at (i := 1) hz rfl
  have hc2 := cell_at (i := 2) hz rfl
  obtain ⟨u, hu⟩ : ∃ u, Pa.ok ⟨k, g, ros L⟩ = u := ⟨_, rfl⟩
  have C1 := pcheck_any k g A n c B L V (hr.below (bz.mono hB)) (by omega) (by omega) hf
  rw [hu] at C1
  have HU := Lib.hid hu; have HZ := Lib.hid hz; have BZ := Lib.hid bz; have HC1 := Lib.hid C1; have HR := Lib.hid hr; have HB := Lib.hid hB; have HVS := Lib.hid hVs
  clear hu hz bz C1 hr hf hVs
  go_enter Tryz.func23, Tryz.ntmps23
  go_wp2_with fail
  rw [← hV]
  clear hV
  refine (HC1.out).mono ?_
  rintro e w1 ⟨rfl, b1⟩
  have hz1 := (b1.block _ (Array.getElem?_eq_some_iff.1 HZ.out).1).trans HZ.out
  have B1 := Lib.hid b1
  clear hc0 hc1 hc2 b1
  have hc0 := cell_at (i := 0) hz1 rfl
  have hc1 := cell_at (i := 1) hz1 rfl
  have hc2 := cell_at (i := 2) hz1 rfl
  have HZ1 := Lib.hid hz1
  clear hz1
  cases u with
  | false =>
    go_wp2
    go_ret2
    rw [putPart_no HU.out]
    exact ⟨rfl, next BZ.out B1.out⟩
  | true =>
    have hps := paS_of HU.out
    have hle := pa_len HU.out
    have HP := putPart_ok HU.out
    obtain ⟨P, hP⟩ : ∃ P, pE ⟨k, g, ros L⟩ = P := ⟨_, rfl⟩
    have hb1 := next BZ.out B1.out
    have N := putPart_any w1.heap.size (.slice none 0 0) [] k g A n c B L w1 (own_nilY _ _) (Nat.le_refl _) (HR.out.below (hb1.mono HB.out)) (by have := hb1.size; have := HB.out; omega) hps (by rw [List.nil_append]; omega)
    rw [List.nil_append] at N
    rw [hP] at N HP hle
    have HN := Lib.hid N; have HPP := Lib.hid HP; have HB1 := Lib.hid hb1; have HLE := Lib.hid hle
    clear hps hle HP hP hb1 N
    go_wp2_with fail
    refine (HN.out).mono ?_
    rintro e w2 ⟨v2, rfl, l2⟩
    have hb2 := l2.base (own_nilY _ _) (Nat.le_refl _)
    obtain ⟨A2, n2, c2, rfl, hl2, g1, g2, g3, ho⟩ := l2.own.slice
    have d1 : decide ((262144 : Int) < (n2 : Int)) = false := by have := HLE.out; simp; omega
    have d2 : decide (262144 < n2) = false := by have := HLE.out; simp; omega
    have HG : Hid (P.length = n2 ∧ n2 ≤ c2 ∧ c2 ≤ maxLen ∧ (A2 = none → c2 = 0) ∧ w2.ownsRow w.heap.size 5 1 (.slice A2 n2 c2) n2 (Lib.byteCells P) ∧ Below w.heap.size w w2) := Lib.hid ⟨hl2, g1, g2, g3, own_down ho HB1.out.size, next HB1.out hb2⟩
    clear hl2 g1 g2 g3 ho hb2 l2 hc0 hc1 hc2
    go_wp2
    go_ret2
    rw [HPP.out]
    exact ⟨A2, n2, c2, rfl, HG.out⟩
set_option maxRecDepth 8000 in
set_option maxHeartbeats 4000000 in
theorem pack_part (k : ByteArray) (g : Int) (A : Option Addr) (n c B : Nat) (L : List RA) (w : World) (hr : Lies w B A n c L) (hB : B ≤ w.heap.size) (hn : n ≤ 1000000) (hf : FewR L) :
    Calls Tryz.prog 7 #[.agg #[.string k, .int .i64 g, .slice A n c]] w (GivesP w (putPart ⟨k, g, ros L⟩)) := by
  have bz := (Below.refl w.heap.size w).alloc (Nat.le_refl _) (.cells #[.string k, .int .i64 g, .slice A n c] 24)
  have hz := heap_alloc_new w (.cells #[.string k, .int .i64 g, .slice A n c] 24)
  obtain ⟨V, hV⟩ : ∃ V, V = w.alloc (.cells #[.string k, .int .i64 g, .slice A n c] 24) := ⟨_, rfl⟩
  rw [← hV] at bz hz
  have hVs := bz.size
  have hc0 := cell_at (i := 0) hz rfl
  have hc1 := cell_at (i := 1) hz rfl
  have hc2 := cell_at (i := 2) hz rfl
  have N := put_part k g A n c B L V (hr.below (bz.mono hB)) (by omega) hn hf
  have BZ := Lib.hid bz; have HN := Lib.hid N
  obtain ⟨R, hR⟩ : ∃ R, putPart ⟨k, g, ros L⟩ = R := ⟨_, rfl⟩
  rw [hR] at HN ⊢
  clear hz bz hr hf hVs N hR hB
  go_enter Tryz.func7, Tryz.ntmps7
  go_wp2_with fail
  rw [← hV]
  clear hV
  refine (HN.out).mono ?_
  intro e w1 hg
  cases R with
  | error x =>
    obtain ⟨rfl, b1⟩ := hg
    have B1 := Lib.hid b1
    clear b1
    go_wp2
    go_ret2
    exact ⟨rfl, next BZ.out B1.out⟩
  | ok b =>
    obtain ⟨A2, n2, c2, rfl, h1, h2, h3, h4, h5, h6⟩ := hg
    have HG : Hid (b.length = n2 ∧ n2 ≤ c2 ∧ c2 ≤ maxLen ∧ (A2 = none → c2 = 0) ∧ w1.ownsRow w.heap.size 5 1 (.slice A2 n2 c2) n2 (Lib.byteCells b) ∧ Below w.heap.size w w1) := Lib.hid ⟨h1, h2, h3, h4, own_down h5 BZ.out.size, next BZ.out h6⟩
    clear h1 h2 h3 h4 h5 h6
    go_wp2
    go_ret2
    exact ⟨A2, n2, c2, rfl, HG.out⟩
end Go.Proofs.YthfanonjokpflaaGreat
set_option linter.unusedVariables false
set_option linter.unusedSimpArgs false
namespace Go.Proofs.YthfanonjokpflaaGreat
open Go Go.RowKit

theorem id_any (x : Int) (w : World) : Calls Tryz.prog 55 #[.int .i64 x] w fun e w' => e = .returned (.bool (dropB x)) ∧ Below w.heap.size w w' := by
  by_cases h1 : 1 ≤ x
  · have e1 : decide (1 ≤ x) = true := decide_eq_true h1
    by_cases h2 : x ≤ 1099511627776
    · have e2 : decide (x ≤ 1099511627776) = true := decide_eq_true h2
      have hv : dropB x = true := by unfold dropB; rw [e1, e2]; rfl
      rw [hv]
      clear hv
      go_enter Tryz.func55, Tryz.ntmps55
      go_wp2
      go_ret
      exact ⟨rfl, Below.refl _ _⟩
    · have e2 : decide (x ≤ 1099511627776) = false := decide_eq_false h2
      have hv : dropB x = false := by unfold dropB; rw [e1, e2]; rfl
      rw [hv]
      clear hv
      go_enter Tryz.func55, Tryz.ntmps55
      go_wp2
      go_ret
      exact ⟨rfl, Below.refl _ _⟩
  · have e1 : decide (1 ≤ x) = false := decide_eq_false h1
    have hv : dropB x = false := by unfold dropB; rw [e1]; rfl
    rw [hv]
    clear hv
    go_enter Tryz.func55, Tryz.ntmps55
    go_wp2
    go_ret
    exact ⟨rfl, Below.refl _ _⟩
theorem note_any (i : Int) (s : ByteArray) (w : World) (hs : s.size ≤ maxLen) : Calls Tryz.prog 53 #[.agg #[.int .i64 i, .string s]] w fun e w' => e = .returned (.bool (addB (i, s))) ∧ Below w.heap.size w w' := by
  have hv : addB (i, s) = (dropB i && decide (s.size ≤ 4096)) := by unfold addB dropB; rw [Bool.and_assoc]
  rw [hv]
  have bz := (Below.refl w.heap.size w).alloc (Nat.le_refl _) (.cells #[.int .i64 i, .string s] 60)
  have hz := heap_alloc_new w (.cells #[.int .i64 i, .string s] 60)
  obtain ⟨V, hV⟩ : ∃ V, V = w.alloc (.cells #[.int .i64 i, .string s] 60) := ⟨_, rfl⟩
  rw [← hV] at bz hz
  have hc0 := cell_at (i := 0) hz rfl
  have HZ := Lib.hid hz; have BZ := Lib.hid bz
  obtain ⟨u, hu⟩ : ∃ u, dropB i = u := ⟨_, rfl⟩
  have HU := Lib.hid hu
  rw [hu]
  clear hz bz hv hu
  go_enter Tryz.func53, Tryz.ntmps53
  go_wp2_with fail
  rw [← hV]
  clear hV
  refine (id_any i V).mono ?_
  rintro e w1 ⟨rfl, b1⟩
  rw [HU.out]
  have hz1 := (b1.block _ (Array.getElem?_eq_some_iff.1 HZ.out).1).trans HZ.out
  have B1 := Lib.hid (next BZ.out b1)
  have hc1 := cell_at (i := 1) hz1 rfl
  clear hz1 b1 hc0
  cases u with
  | false =>
    go_wp2
    go_ret
    exact ⟨rfl, B1.out⟩
  | true =>
    by_cases h4 : s.size ≤ 4096
    · have e1 : decide (s.size ≤ 4096) = true := decide_eq_true h4
      have e2 : decide ((s.size : Int) ≤ 4096) = true := decide_eq_true (by omega)
      go_wp2
      go_ret
      exact ⟨by rw [e1]; rfl, B1.out⟩
    · have e1 : decide (s.size ≤ 4096) = false := decide_eq_false h4
      have e2 : decide ((s.size : Int) ≤ 4096) = false := decide_eq_false (by omega)
      go_wp2
      go_ret
      exact ⟨by rw [e1]; rfl, B1.out⟩
set_option maxHeartbeats 600000 in
theorem mut_any (tb k : ByteArray) (g : Int) (A : Option Addr) (n c B : Nat) (L : List RA) (w : World) (hr : Lies w B A n c L) (hB : B ≤ w.heap.size) (htb : tb.size ≤ 1099511627776) (hn : n ≤ 1000000000) (hf : FewR L) :
    Calls Tryz.prog 51 #[.agg #[.string tb, .string k, .int .i64 g, .slice A n c]] w fun e w' => e = .returned (.bool (mutB (tb, ⟨k, g, ros L⟩))) ∧ Below w.heap.size w w' := by
  have bz := (Below.refl w.heap.size w).alloc (Nat.le_refl _) (.cells #[.string tb, .string k, .int .i64 g, .slice A n c] 91)
  have hz := heap_alloc_new w (.cells #[.string tb, .string k, .int .i64 g, .slice A n c] 91)
  obtain ⟨V, hV⟩ : ∃ V, V = w.alloc (.cells #[.string tb, .string k, .int .i64 g, .slice A n c] 91) := ⟨_, rfl⟩
  rw [← hV] at bz hz
  have hc0 := cell_at (i := 0) hz rfl
  have HZ := Lib.hid hz; have BZ := Lib.hid bz; have HR := Lib.hid hr; have HF := Lib.hid hf; have HB := Lib.hid hB; have HN := Lib.hid hn
  obtain ⟨u, hu⟩ : ∃ u, nameB tb = u := ⟨_, rfl⟩
  obtain ⟨u2, hu2⟩ : ∃ u, Pa.ok ⟨k, g, ros L⟩ = u := ⟨_, rfl⟩
  have hv : mutB (tb, ⟨k, g, ros L⟩) = (u && u2) := by unfold mutB; rw [hu, hu2]
  have HU := Lib.hid hu; have HU2 := Lib.hid hu2
  rw [hv]
  clear hz bz hv hu hu2 hr hf hB hn
  go_enter Tryz.func51, Tryz.ntmps51
  go_wp2_with fail
  rw [← hV]
  clear hV
  refine (name_any tb V htb).mono ?_
  rintro e w1 ⟨rfl, b1⟩
  rw [HU.out]
  have hz1 := (b1.block _ (Array.getElem?_eq_some_iff.1 HZ.out).1).trans HZ.out
  have B1 := Lib.hid (next BZ.out b1)
  have hc1 := cell_at (i := 1) hz1 rfl
  have hc2 := cell_at (i := 2) hz1 rfl
  have hc3 := cell_at (i := 3) hz1 rfl
  clear hz1 b1 hc0
  cases u with
  | false =>
    go_wp2
    go_ret
    exact ⟨rfl, B1.out⟩
  | true =>
    go_wp2_with fail
    refine (pcheck_any k g A n c B L w1 (HR.out.below (B1.out.mono HB.out)) (Nat.le_trans HB.out B1.out.size) HN.out HF.out).mono ?_
    rintro e w2 ⟨rfl, b2⟩
    rw [HU2.out]
    have B2 := Lib.hid (next B1.out b2)
    clear b2
    go_wp2
    go_ret
    exact ⟨rfl, B2.out⟩
end Go.Proofs.YthfanonjokpflaaGreat
set_option linter.unusedVariables false
set_option linter.unusedSimpArgs false
namespace Go.Proofs.YthfanonjokpflaaGreat
open Go Go.RowKit

theorem all_no {α : Type} {p : α → Bool} {L : List α} {t : Nat} (h : t < L.length) : p L[t] = false → L.all p = false := fun hp => by
  rw [List.all_eq_false]
  exact ⟨L[t], List.getElem_mem h, by rw [hp]; simp⟩
theorem all_yes {α : Type} {p : α → Bool} {L : List α} {t : Nat} (h : t < L.length) (ha : (L.take t).all p = true) : p L[t] = true → (L.take (t + 1)).all p = true := fun hp => by
  rw [List.take_succ_eq_append_getElem h, List.all_append, ha, Bool.true_and]
  simp [hp]
/-- What is joined, not too much of it. -/
def MuF (x : MA) : Prop := x.tb.size ≤ 1099511627776 ∧ x.p.L.length ≤ 1000000000 ∧ FewR x.p.L
set_option maxRecDepth 8000 in
set_option maxHeartbeats 600000 in
theorem list_muts (A : Option Addr) (n c B m : Nat) (L : List MA) (w : World) (hr : LiesM w B A n c L) (hB : B ≤ w.heap.size) (hx : ∀ x ∈ L, MuF x) (hn : n ≤ 1000000) (hm : m ≤ 1000000) :
    Calls Tryz.prog 50 #[.slice A n c, .int .i64 (m : Nat), .func (.func 51) #[] #[]] w fun e w' => e = .returned (.bool (decide (n ≤ m) && L.all (fun x : MA => mutB (mutOf x)))) ∧ Below w.heap.size w w' := by
  have hl := hr.rd.1
  by_cases h0 : n ≤ m
  · have d1 : decide ((m : Int) < (n : Int)) = false := by simp; omega
    have d2 : decide (m < n) = false := by simp; omega
    obtain ⟨r, hr0⟩ : ∃ r, L.all (fun x : MA => mutB (mutOf x)) = r := ⟨_, rfl⟩
    rw [decide_eq_true h0, Bool.true_and, hr0]
    have HR0 := Lib.hid hr0; have HR := Lib.hid hr; have HB := Lib.hid hB; have HX := Lib.hid hx; have HL := Lib.hid hl; have HNN := Lib.hid hn
    clear hr0 hr hB hx hl hn hm h0
    go_enter Tryz.func50, Tryz.ntmps50
    go_wp2_with fail
    go_loopw [15] (fun i wr => ∃ (t : Nat), t ≤ n ∧ i = .int .i64 t ∧ (L.take t).all (fun x : MA => mutB (mutOf x)) = true ∧ Below w.heap.size w wr) (fun i _ => n - (intOf i).toNat)
    case atStart => exact ⟨0, Nat.zero_le _, rfl, rfl, Below.refl _ _⟩
    case round =>
      obtain ⟨t, ht, rfl, hall, hb⟩ := hrel
      by_cases hlt : t < n
      · have i1 : (t : Int) < n := by omega
        have i0 : (0 : Int) ≤ t := by omega
        have i8 : n ≤ 1000000 := HNN.out
        have htl : t < L.length := by rw [HL.out]; exact hlt
        have hrd := HR.out.below (hb.mono HB.out)
        obtain ⟨g0, o0, rfl, hg0⟩ := hrd.rd.ex (by omega)
        have hcol := hrd.rd.part htl
        have hs := HX.out L[t] (List.getElem_mem htl)
        have hin := hrd.parts L[t] (List.getElem_mem htl)
        have hno := all_no (p := (fun x : MA => mutB (mutOf x))) htl
        have hyes := all_yes (p := (fun x : MA => mutB (mutOf x))) htl hall
        obtain ⟨x, hcx⟩ : ∃ y, L[t] = y := ⟨_, rfl⟩
        rw [hcx] at hcol hno hyes hin
        try rw [hcx] at hs
        obtain ⟨u, hu⟩ : ∃ u, mutB (x.tb, ⟨x.p.k, x.p.g, ros x.p.L⟩) = u := ⟨_, rfl⟩
        have hno : u = false → L.all (fun x : MA => mutB (mutOf x)) = false := fun e => hno (hu.trans e)
        have hyes : u = true → (L.take (t + 1)).all (fun x : MA => mutB (mutOf x)) = true := fun e => hyes (hu.trans e)
        obtain ⟨_, _, _, _⟩ := hcol
        have ba := (Below.refl wr.heap.size wr).alloc (Nat.le_refl _) (.cells #[.string x.tb, .string x.p.k, .int .i64 x.p.g, .slice x.p.A x.p.L.length x.p.c] 91)
        have hb2 := hb.trans (ba.mono hb.size)
        have HB2 := Lib.hid hb2; have S1 := Lib.hid hs; have HU : Hid (mutB (x.tb, ⟨x.p.k, x.p.g, ros x.p.L⟩) = u) := Lib.hid hu; have HNO := Lib.hid hno; have HYES := Lib.hid hyes
        have HIN := Lib.hid (Lies.below hin (ba.mono (by have := HB.out; have := hb.size; omega)))
        clear hrd hs hb hall hb2 hno hyes hu hcx hin ba
        go_wp2_with fail
        refine (mut_any x.tb x.p.k x.p.g x.p.A x.p.L.length x.p.c B x.p.L _ HIN.out (Nat.le_trans HB.out HB2.out.size) S1.out.1 S1.out.2.1 S1.out.2.2).mono ?_
        rintro e w2 ⟨rfl, b2⟩
        rw [HU.out]
        have B2 := Lib.hid (next HB2.out b2)
        clear b2
        cases u with
        | false =>
          have hrf : r = false := HR0.out.symm.trans (HNO.out rfl)
          subst hrf
          go_wp2
          go_ret
          exact ⟨rfl, B2.out⟩
        | true =>
          go_wp2
          go_roundw
          case rel => exact ⟨t + 1, by omega, by go_num, HYES.out (by simp), B2.out⟩
          case measure => simp [intOf]; omega
      · obtain rfl : t = n := by omega
        rw [List.take_of_length_le (by rw [HL.out]; exact Nat.le_refl _)] at hall
        have hrt : r = true := HR0.out.symm.trans hall
        subst hrt
        have HBB := Lib.hid hb
        clear hall hb
        go_wp2
        go_ret
        exact ⟨rfl, HBB.out⟩
  · have d1 : decide ((m : Int) < (n : Int)) = true := by simp; omega
    have d2 : decide (m < n) = true := by simp; omega
    rw [decide_eq_false h0, Bool.false_and]
    clear hr hB hx hl hn hm h0
    go_enter Tryz.func50, Tryz.ntmps50
    go_wp2
    go_ret
    exact ⟨rfl, Below.refl _ _⟩

set_option maxRecDepth 8000 in
set_option maxHeartbeats 600000 in
theorem list_notes (A : Option Addr) (n c B m : Nat) (L : List NA) (w : World) (hr : RdN w B A n L) (hB : B ≤ w.heap.size) (hx : ∀ x ∈ L, x.2.size ≤ maxLen) (hn : n ≤ 1000000) (hm : m ≤ 1000000) :
    Calls Tryz.prog 52 #[.slice A n c, .int .i64 (m : Nat), .func (.func 53) #[] #[]] w fun e w' => e = .returned (.bool (decide (n ≤ m) && L.all addB)) ∧ Below w.heap.size w w' := by
  have hl := hr.1
  by_cases h0 : n ≤ m
  · have d1 : decide ((m : Int) < (n : Int)) = false := by simp; omega
    have d2 : decide (m < n) = false := by simp; omega
    obtain ⟨r, hr0⟩ : ∃ r, L.all addB = r := ⟨_, rfl⟩
    rw [decide_eq_true h0, Bool.true_and, hr0]
    have HR0 := Lib.hid hr0; have HR := Lib.hid hr; have HB := Lib.hid hB; have HX := Lib.hid hx; have HL := Lib.hid hl; have HNN := Lib.hid hn
    clear hr0 hr hB hx hl hn hm h0
    go_enter Tryz.func52, Tryz.ntmps52
    go_wp2_with fail
    go_loopw [15] (fun i wr => ∃ (t : Nat), t ≤ n ∧ i = .int .i64 t ∧ (L.take t).all addB = true ∧ Below w.heap.size w wr) (fun i _ => n - (intOf i).toNat)
    case atStart => exact ⟨0, Nat.zero_le _, rfl, rfl, Below.refl _ _⟩
    case round =>
      obtain ⟨t, ht, rfl, hall, hb⟩ := hrel
      by_cases hlt : t < n
      · have i1 : (t : Int) < n := by omega
        have i0 : (0 : Int) ≤ t := by omega
        have i8 : n ≤ 1000000 := HNN.out
        have htl : t < L.length := by rw [HL.out]; exact hlt
        have hrd := HR.out.below (hb.mono HB.out)
        obtain ⟨g0, o0, rfl, hg0⟩ := hrd.ex (by omega)
        have hcol := hrd.part htl
        have hs := HX.out L[t] (List.getElem_mem htl)
        have hno := all_no (p := addB) htl
        have hyes := all_yes (p := addB) htl hall
        obtain ⟨x, hcx⟩ : ∃ y, L[t] = y := ⟨_, rfl⟩
        rw [hcx] at hcol hno hyes
        try rw [hcx] at hs
        obtain ⟨u, hu⟩ : ∃ u, addB (x.1, x.2) = u := ⟨_, rfl⟩
        have hno : u = false → L.all addB = false := fun e => hno (hu.trans e)
        have hyes : u = true → (L.take (t + 1)).all addB = true := fun e => hyes (hu.trans e)
        obtain ⟨_, _⟩ := hcol
        have ba := (Below.refl wr.heap.size wr).alloc (Nat.le_refl _) (.cells #[.int .i64 x.1, .string x.2] 60)
        have hb2 := hb.trans (ba.mono hb.size)
        have HB2 := Lib.hid hb2; have S1 := Lib.hid hs; have HU : Hid (addB (x.1, x.2) = u) := Lib.hid hu; have HNO := Lib.hid hno; have HYES := Lib.hid hyes
        clear hrd hs hb hall hb2 hno hyes hu hcx ba
        go_wp2_with fail
        refine (note_any x.1 x.2 _ S1.out).mono ?_
        rintro e w2 ⟨rfl, b2⟩
        rw [HU.out]
        have B2 := Lib.hid (next HB2.out b2)
        clear b2
        cases u with
        | false =>
          have hrf : r = false := HR0.out.symm.trans (HNO.out rfl)
          subst hrf
          go_wp2
          go_ret
          exact ⟨rfl, B2.out⟩
        | true =>
          go_wp2
          go_roundw
          case rel => exact ⟨t + 1, by omega, by go_num, HYES.out (by simp), B2.out⟩
          case measure => simp [intOf]; omega
      · obtain rfl : t = n := by omega
        rw [List.take_of_length_le (by rw [HL.out]; exact Nat.le_refl _)] at hall
        have hrt : r = true := HR0.out.symm.trans hall
        subst hrt
        have HBB := Lib.hid hb
        clear hall hb
        go_wp2
        go_ret
        exact ⟨rfl, HBB.out⟩
  · have d1 : decide ((m : Int) < (n : Int)) = true := by simp; omega
    have d2 : decide (m < n) = true := by simp; omega
    rw [decide_eq_false h0, Bool.false_and]
    clear hr hB hx hl hn hm h0
    go_enter Tryz.func52, Tryz.ntmps52
    go_wp2
    go_ret
    exact ⟨rfl, Below.refl _ _⟩

set_option maxRecDepth 8000 in
set_option maxHeartbeats 600000 in
theorem list_ints (A : Option Addr) (n c B m : Nat) (L : List Int) (w : World) (hr : RdZ w B A n L) (hB : B ≤ w.heap.size) (hx : ∀ x ∈ L, True) (hn : n ≤ 1000000) (hm : m ≤ 1000000) :
    Calls Tryz.prog 54 #[.slice A n c, .int .i64 (m : Nat), .func (.func 55) #[] #[]] w fun e w' => e = .returned (.bool (decide (n ≤ m) && L.all dropB)) ∧ Below w.heap.size w w' := by
  have hl := hr.1
  by_cases h0 : n ≤ m
  · have d1 : decide ((m : Int) < (n : Int)) = false := by simp; omega
    have d2 : decide (m < n) = false := by simp; omega
    obtain ⟨r, hr0⟩ : ∃ r, L.all dropB = r := ⟨_, rfl⟩
    rw [decide_eq_true h0, Bool.true_and, hr0]
    have HR0 := Lib.hid hr0; have HR := Lib.hid hr; have HB := Lib.hid hB; have HX := Lib.hid hx; have HL := Lib.hid hl; have HNN := Lib.hid hn
    clear hr0 hr hB hx hl hn hm h0
    go_enter Tryz.func54, Tryz.ntmps54
    go_wp2_with fail
    go_loopw [15] (fun i wr => ∃ (t : Nat), t ≤ n ∧ i = .int .i64 t ∧ (L.take t).all dropB = true ∧ Below w.heap.size w wr) (fun i _ => n - (intOf i).toNat)
    case atStart => exact ⟨0, Nat.zero_le _, rfl, rfl, Below.refl _ _⟩
    case round =>
      obtain ⟨t, ht, rfl, hall, hb⟩ := hrel
      by_cases hlt : t < n
      · have i1 : (t : Int) < n := by omega
        have i0 : (0 : Int) ≤ t := by omega
        have i8 : n ≤ 1000000 := HNN.out
        have htl : t < L.length := by rw [HL.out]; exact hlt
        have hrd := HR.out.below (hb.mono HB.out)
        obtain ⟨g0, o0, rfl, hg0, hc⟩ := hrd.2 (by omega)
        have hcol := hc t htl
        have hs := HX.out L[t] (List.getElem_mem htl)
        have hno := all_no (p := dropB) htl
        have hyes := all_yes (p := dropB) htl hall
        obtain ⟨x, hcx⟩ : ∃ y, L[t] = y := ⟨_, rfl⟩
        rw [hcx] at hcol hno hyes
        try rw [hcx] at hs
        obtain ⟨u, hu⟩ : ∃ u, dropB x = u := ⟨_, rfl⟩
        have hno : u = false → L.all dropB = false := fun e => hno (hu.trans e)
        have hyes : u = true → (L.take (t + 1)).all dropB = true := fun e => hyes (hu.trans e)
        have hb2 := hb
        have HB2 := Lib.hid hb2; have S1 := Lib.hid hs; have HU : Hid (dropB x = u) := Lib.hid hu; have HNO := Lib.hid hno; have HYES := Lib.hid hyes
        clear hrd hs hb hall hb2 hno hyes hu hcx hc
        go_wp2_with fail
        refine (id_any x _).mono ?_
        rintro e w2 ⟨rfl, b2⟩
        rw [HU.out]
        have B2 := Lib.hid (next HB2.out b2)
        clear b2
        cases u with
        | false =>
          have hrf : r = false := HR0.out.symm.trans (HNO.out rfl)
          subst hrf
          go_wp2
          go_ret
          exact ⟨rfl, B2.out⟩
        | true =>
          go_wp2
          go_roundw
          case rel => exact ⟨t + 1, by omega, by go_num, HYES.out (by simp), B2.out⟩
          case measure => simp [intOf]; omega
      · obtain rfl : t = n := by omega
        rw [List.take_of_length_le (by rw [HL.out]; exact Nat.le_refl _)] at hall
        have hrt : r = true := HR0.out.symm.trans hall
        subst hrt
        have HBB := Lib.hid hb
        clear hall hb
        go_wp2
        go_ret
        exact ⟨rfl, HBB.out⟩
  · have d1 : decide ((m : Int) < (n : Int)) = true := by simp; omega
    have d2 : decide (m < n) = true := by simp; omega
    rw [decide_eq_false h0, Bool.false_and]
    clear hr hB hx hl hn hm h0
    go_enter Tryz.func54, Tryz.ntmps54
    go_wp2
    go_ret
    exact ⟨rfl, Below.refl _ _⟩

theorem bt_ok (x : BA) : x.bt.ok = (decide (x.M.length ≤ 64) && x.M.all (fun x : MA => mutB (mutOf x)) && (decide (x.N.length ≤ 300) && x.N.all addB) && (decide (x.D.length ≤ 300) && x.D.all dropB)) := by
  unfold Bt.ok BA.bt muts
  dsimp only
  rw [List.length_map, List.all_map]
  simp only [Bool.and_assoc]
  rfl
/-- A batch, not too much of it. -/
structure BtF (x : BA) : Prop where
  muts : ∀ y ∈ x.M, MuF y
  notes : ∀ y ∈ x.N, y.2.size ≤ maxLen
  lm : x.M.length ≤ 1000000
  ln : x.N.length ≤ 1000000
  ld : x.D.length ≤ 1000000
abbrev bV (x : BA) : Value := .agg #[.slice x.AM x.M.length x.cM, .slice x.AN x.N.length x.cN, .slice x.AD x.D.length x.cD]
abbrev bO (x : BA) : Obj := .cells #[.slice x.AM x.M.length x.cM, .slice x.AN x.N.length x.cN, .slice x.AD x.D.length x.cD] 29
set_option maxRecDepth 8000 in
set_option maxHeartbeats 600000 in
theorem checkBatch_any (x : BA) (B : Nat) (w : World) (hr : LiesB w B x) (hB : B ≤ w.heap.size) (hf : BtF x) :
    Calls Tryz.prog 19 #[bV x] w fun e w' => e = .returned (.bool x.bt.ok) ∧ Below w.heap.size w w' := by
  have bz := (Below.refl w.heap.size w).alloc (Nat.le_refl _) (bO x)
  have hz := heap_alloc_new w (bO x)
  obtain ⟨V, hV⟩ : ∃ V, V = w.alloc (bO x) := ⟨_, rfl⟩
  rw [← hV] at bz hz
  have hc0 := cell_at (i := 0) hz rfl
  have N1 := list_muts x.AM x.M.length x.cM B 64 x.M V (hr.muts.below (bz.mono hB)) (Nat.le_trans hB bz.size) hf.muts hf.lm (by omega)
  obtain ⟨u1, hu1⟩ : ∃ u, (decide (x.M.length ≤ 64) && x.M.all (fun x : MA => mutB (mutOf x))) = u := ⟨_, rfl⟩
  obtain ⟨u2, hu2⟩ : ∃ u, (decide (x.N.length ≤ 300) && x.N.all addB) = u := ⟨_, rfl⟩
  obtain ⟨u3, hu3⟩ : ∃ u, (decide (x.D.length ≤ 300) && x.D.all dropB) = u := ⟨_, rfl⟩
  have hv : x.bt.ok = (u1 && u2 && u3) := by rw [bt_ok, hu1, hu2, hu3]
  rw [hu1] at N1
  have HZ := Lib.hid hz; have BZ := Lib.hid bz; have HR := Lib.hid hr; have HF := Lib.hid hf; have HB := Lib.hid hB; have HN1 := Lib.hid N1; have HV := Lib.hid hv; have U2 := Lib.hid hu2; have U3 := Lib.hid hu3
  obtain ⟨r, hrr⟩ : ∃ r, x.bt.ok = r := ⟨_, rfl⟩
  rw [hrr] at HV ⊢
  clear hz bz hv hu1 hu2 hu3 hr hf hB N1 hrr
  go_enter Tryz.func19, Tryz.ntmps19
  go_wp2_with fail
  try unfold bO at hV
  rw [← hV]
  clear hV
  refine (HN1.out).mono ?_
  rintro e w1 ⟨rfl, b1⟩
  have hz1 := (b1.block _ (Array.getElem?_eq_some_iff.1 HZ.out).1).trans HZ.out
  have B1 := Lib.hid (next BZ.out b1)
  have hc1 := cell_at (i := 1) hz1 rfl
  have HZ1 := Lib.hid hz1
  clear hz1 b1 hc0
  cases u1 with
  | false =>
    have hrf : r = false := HV.out
    subst hrf
    go_wp2
    go_ret
    exact ⟨rfl, B1.out⟩
  | true =>
    have N2 := list_notes x.AN x.N.length x.cN B 300 x.N w1 (HR.out.notes.below (B1.out.mono HB.out)) (Nat.le_trans HB.out B1.out.size) HF.out.notes HF.out.ln (by omega)
    rw [U2.out] at N2
    have HN2 := Lib.hid N2
    clear N2
    go_wp2_with fail
    refine (HN2.out).mono ?_
    rintro e w2 ⟨rfl, b2⟩
    have hz2 := (b2.block _ (Array.getElem?_eq_some_iff.1 HZ1.out).1).trans HZ1.out
    have B2 := Lib.hid (next B1.out b2)
    have hc2 := cell_at (i := 2) hz2 rfl
    clear hz2 b2 hc1
    cases u2 with
    | false =>
      have hrf : r = false := HV.out
      subst hrf
      go_wp2
      go_ret
      exact ⟨rfl, B2.out⟩
    | true =>
      have N3 := list_ints x.AD x.D.length x.cD B 300 x.D w2 (HR.out.drops.below (B2.out.mono HB.out)) (Nat.le_trans HB.out B2.out.size) (fun _ _ => trivial) HF.out.ld (by omega)
      rw [U3.out] at N3
      have HN3 := Lib.hid N3
      clear N3
      go_wp2_with fail
      refine (HN3.out).mono ?_
      rintro e w3 ⟨rfl, b3⟩
      have B3 := Lib.hid (next B2.out b3)
      have hrf : r = u3 := by rw [HV.out]; cases u3 <;> rfl
      subst hrf
      clear b3
      go_wp2
      go_ret
      exact ⟨rfl, B3.out⟩
end Go.Proofs.YthfanonjokpflaaGreat
set_option linter.unusedVariables false
set_option linter.unusedSimpArgs false
namespace Go.Proofs.YthfanonjokpflaaGreat
open Go Go.RowKit

/-- A text, or what is wrong. -/
def GivesX9 (w : World) (r : Except Int Bs) (e : Ending) (w' : World) : Prop := match r with
  | .ok b => e = .returned (.tuple #[.string (bs b), .int .i64 0]) ∧ Below w.heap.size w w'
  | .error x => e = .returned (.tuple #[.string ⟨#[]⟩, .int .i64 x]) ∧ Below w.heap.size w w'
set_option maxRecDepth 8000 in
set_option maxHeartbeats 1600000 in
theorem rpart9 (k : ByteArray) (g : Int) (A : Option Addr) (n c B : Nat) (L : List RA) (w : World) (h : Lies w B A n c L) (hB : B ≤ w.heap.size) (hn : n ≤ 1000000000) (hf : FewR L) :
    Calls Tryz.prog 9 #[.agg #[.string k, .int .i64 g, .slice A n c]] w (GivesX9 w (putPart ⟨k, g, ros L⟩)) := by
  have bz := (Below.refl w.heap.size w).alloc (Nat.le_refl _) (.cells #[.string k, .int .i64 g, .slice A n c] 24)
  have hz := heap_alloc_new w (.cells #[.string k, .int .i64 g, .slice A n c] 24)
  obtain ⟨V, hV⟩ : ∃ V, V = w.alloc (.cells #[.string k, .int .i64 g, .slice A n c] 24) := ⟨_, rfl⟩
  rw [← hV] at bz hz
  obtain ⟨u, hu⟩ : ∃ u, Pa.ok ⟨k, g, ros L⟩ = u := ⟨_, rfl⟩
  have N := rpcheck_any k g A n c B L V (h.below (bz.mono hB)) (Nat.le_trans hB bz.size) hn hf
  rw [hu] at N
  have HZ := Lib.hid hz; have BZ := Lib.hid bz; have HN := Lib.hid N; have HU := Lib.hid hu; have HH := Lib.hid h; have HB := Lib.hid hB
  clear hz bz N hu h hB hn hf
  have z0 := cell_at (i := 0) HZ.out rfl
  have z1 := cell_at (i := 1) HZ.out rfl
  have z2 := cell_at (i := 2) HZ.out rfl
  obtain ⟨R, hR⟩ : ∃ R, putPart ⟨k, g, ros L⟩ = R := ⟨_, rfl⟩
  rw [hR]
  have HRR := Lib.hid hR
  clear hR
  go_enter Tryz.func9, Tryz.ntmps9
  go_wp2_with fail
  rw [← hV]
  clear hV
  refine HN.out.mono ?_
  rintro e w1 ⟨rfl, b1⟩
  have HZ1 := Lib.hid ((b1.block _ (Array.getElem?_eq_some_iff.1 HZ.out).1).trans HZ.out)
  have B1 := Lib.hid (next BZ.out b1)
  clear z0 z1 z2 b1
  have z0 := cell_at (i := 0) HZ1.out rfl
  have z1 := cell_at (i := 1) HZ1.out rfl
  have z2 := cell_at (i := 2) HZ1.out rfl
  cases u with
  | false =>
    have hRe : R = .error 1 := by rw [← HRR.out, putPart_no HU.out]
    subst hRe
    go_wp2
    go_ret2
    exact ⟨rfl, B1.out⟩
  | true =>
    have hRe : R = .ok (pE ⟨k, g, ros L⟩) := by rw [← HRR.out, putPart_ok HU.out]
    have N2 := rbytes9 k g A n c B L w1 (HH.out.below (B1.out.mono HB.out)) (Nat.le_trans HB.out B1.out.size) HU.out
    have hl := pa_len HU.out
    obtain ⟨P, hP⟩ : ∃ P, pE ⟨k, g, ros L⟩ = P := ⟨_, rfl⟩
    rw [hP] at N2 hl hRe
    subst hRe
    have HN2 := Lib.hid N2
    obtain ⟨T, hT⟩ : ∃ T, bs P = T := ⟨_, rfl⟩
    have hts : T.size = P.length := by rw [← hT]; rfl
    have HT := Lib.hid hT
    rw [hT] at HN2
    have d1 : decide ((262144 : Int) < (T.size : Int)) = false := by simp; omega
    have d2 : decide (262144 < T.size) = false := by simp; omega
    clear N2 hl hts hP hT
    go_wp2_with fail
    refine HN2.out.mono ?_
    rintro e w2 ⟨rfl, b2⟩
    have B2 := Lib.hid (next B1.out b2)
    clear z0 z1 z2 b2
    go_wp2
    go_ret2
    obtain rfl := HT.out
    exact ⟨rfl, B2.out⟩
set_option maxRecDepth 8000 in
set_option maxHeartbeats 1600000 in
theorem rcheckmuts (A : Option Addr) (n c B m : Nat) (L : List MA) (w : World) (hr : LiesM w B A n c L) (hB : B ≤ w.heap.size) (hx : ∀ x ∈ L, MuF x) (hn : n ≤ 1000000) (hm : m ≤ 1000000) :
    Calls Tryz.prog 56 #[.slice A n c, .int .i64 (m : Nat)] w fun e w' => e = .returned (.bool (decide (n ≤ m) && L.all (fun x : MA => mutB (mutOf x)))) ∧ Below w.heap.size w w' := by
  have hl := hr.rd.1
  obtain ⟨r, hr0⟩ : ∃ r, L.all (fun x : MA => mutB (mutOf x)) = r := ⟨_, rfl⟩
  rw [hr0]
  obtain ⟨z, hz⟩ : ∃ z, (decide (n ≤ m) && r) = z := ⟨_, rfl⟩
  rw [hz]
  have HZ := Lib.hid hz
  clear hz
  have HR0 := Lib.hid hr0; have HR := Lib.hid hr; have HB := Lib.hid hB; have HX := Lib.hid hx; have HL := Lib.hid hl; have HNN := Lib.hid hn
  clear hr0 hr hB hx hl hn hm
  go_enter Tryz.func56, Tryz.ntmps56
  go_wp2_with fail
  go_loopw [5] (fun i wr => ∃ (t : Nat), t ≤ n ∧ i = .int .i64 t ∧ (L.take t).all (fun x : MA => mutB (mutOf x)) = true ∧ Below w.heap.size w wr) (fun i _ => n - (intOf i).toNat)
  case atStart => exact ⟨0, Nat.zero_le _, rfl, rfl, Below.refl _ _⟩
  case round =>
    obtain ⟨t, ht, rfl, hall, hb⟩ := hrel
    by_cases hlt : t < n
    · have i1 : (t : Int) < n := by omega
      have i0 : (0 : Int) ≤ t := by omega
      have i8 : n ≤ 1000000 := HNN.out
      have htl : t < L.length := by rw [HL.out]; exact hlt
      have hrd := HR.out.below (hb.mono HB.out)
      obtain ⟨g0, o0, rfl, hg0⟩ := hrd.rd.ex (by omega)
      have hwr : B ≤ wr.heap.size := Nat.le_trans HB.out hb.size
      have hcolf := fun (w' : World) (hb' : Below wr.heap.size wr w') => (hrd.rd.below (hb'.mono hwr)).part htl
      have hs := HX.out L[t] (List.getElem_mem htl)
      have hin := hrd.parts L[t] (List.getElem_mem htl)
      have hno := all_no (p := (fun x : MA => mutB (mutOf x))) htl
      have hyes := all_yes (p := (fun x : MA => mutB (mutOf x))) htl hall
      obtain ⟨x, hcx⟩ : ∃ y, L[t] = y := ⟨_, rfl⟩
      rw [hcx] at hno hyes hin hs
      simp only [hcx] at hcolf
      obtain ⟨u1, hu1⟩ : ∃ u, nameB x.tb = u := ⟨_, rfl⟩
      obtain ⟨u2, hu2⟩ : ∃ u, Pa.ok ⟨x.p.k, x.p.g, ros x.p.L⟩ = u := ⟨_, rfl⟩
      have hu : mutB (mutOf x) = (u1 && u2) := by rw [← hu1, ← hu2]; rfl
      have hno : (u1 && u2) = false → L.all (fun x : MA => mutB (mutOf x)) = false := fun e => hno (hu.trans e)
      have hyes : (u1 && u2) = true → (L.take (t + 1)).all (fun x : MA => mutB (mutOf x)) = true := fun e => hyes (hu.trans e)
      obtain ⟨_, _, _, _⟩ := hcolf wr (Below.refl _ _)
      have HB2 := Lib.hid hb; have S1 := Lib.hid hs; have HU1 := Lib.hid hu1; have HU2 := Lib.hid hu2; have HNO := Lib.hid hno; have HYES := Lib.hid hyes; have HCOL := Lib.hid hcolf; have HIN := Lib.hid hin; have HWR := Lib.hid hwr
      clear hrd hs hb hall hno hyes hu hu1 hu2 hcx hin hcolf hwr
      go_wp2_with fail
      refine (rname_any x.tb _ S1.out.1).mono ?_
      rintro e w2 ⟨rfl, b2⟩
      rw [HU1.out]
      obtain ⟨_, _, _, _⟩ := HCOL.out w2 b2
      have B2 := Lib.hid (next HB2.out b2)
      have HIN2 := Lib.hid (Lies.below HIN.out (b2.mono HWR.out))
      have hw2 := b2.size
      have HW2 := Lib.hid hw2
      clear b2 hw2
      cases u1 with
      | false =>
        have hrf : r = false := HR0.out.symm.trans (HNO.out rfl)
        have hzf : z = false := by rw [← HZ.out, hrf, Bool.and_false]
        subst hzf
        go_wp2
        go_ret
        exact ⟨rfl, B2.out⟩
      | true =>
        go_wp2_with fail
        refine (rpcheck_any x.p.k x.p.g x.p.A x.p.L.length x.p.c B x.p.L _ HIN2.out (Nat.le_trans HWR.out HW2.out) S1.out.2.1 S1.out.2.2).mono ?_
        rintro e w3 ⟨rfl, b3⟩
        rw [HU2.out]
        have B3 := Lib.hid (next B2.out b3)
        clear b3
        cases u2 with
        | false =>
          have hrf : r = false := HR0.out.symm.trans (HNO.out rfl)
          have hzf : z = false := by rw [← HZ.out, hrf, Bool.and_false]
          subst hzf
          go_wp2
          go_ret
          exact ⟨rfl, B3.out⟩
        | true =>
          go_wp2
          go_roundw
          case rel => exact ⟨t + 1, by omega, by go_num, HYES.out rfl, B3.out⟩
          case measure => simp [intOf]; omega
    · obtain rfl : t = n := by omega
      rw [List.take_of_length_le (by rw [HL.out]; exact Nat.le_refl _)] at hall
      have hrt : r = true := HR0.out.symm.trans hall
      have hzt : z = decide (t ≤ m) := by rw [← HZ.out, hrt, Bool.and_true]
      have HZT := Lib.hid hzt
      clear hzt
      have HBB := Lib.hid hb
      have j1 : decide ((t : Int) < (t : Int)) = false := decide_eq_false (by omega)
      clear hall hb
      by_cases hc : t ≤ m
      · have j5 : decide ((t : Int) ≤ (m : Int)) = true := decide_eq_true (by omega)
        have j6 : decide (t ≤ m) = true := decide_eq_true (by omega)
        have hzb := HZT.out.trans j6
        subst hzb
        go_wp2
        go_ret
        exact ⟨rfl, HBB.out⟩
      · have j5 : decide ((t : Int) ≤ (m : Int)) = false := decide_eq_false (by omega)
        have j6 : decide (t ≤ m) = false := decide_eq_false (by omega)
        have hzb := HZT.out.trans j6
        subst hzb
        go_wp2
        go_ret
        exact ⟨rfl, HBB.out⟩
end Go.Proofs.YthfanonjokpflaaGreat
set_option linter.unusedVariables false
set_option linter.unusedSimpArgs false
namespace Go.Proofs.YthfanonjokpflaaGreat
open Go

section
variable {P : Program} {ops : Array Oper} {Q : Exit → Act → World → Prop} {md : Region.Mode} {S : World → Prop} {z : Nat}
def selfB (ops : Array Oper) (oi : Oper) : Bool := match oi.dst with | some d => !(oi.looksAt ops).contains d | none => true
theorem wpAnyZ_takeT {i : Nat} {oi : Oper} {v : Value} {fuel : Nat} {listed : Array Bool} {a : Act} {w : World} (hi : ops[i]? = some oi)
    (hs : Region.noSelect ops = true) (hf : Region.free md ops listed i = true) (hr : (Region.ready md ops listed).contains i = true) (hz : (decide (i ≠ z) && selfB ops oi) = true)
    (hQ : ∀ c a w, Q (.panic c) (a.put oi.dst v) w → Q (.panic c) a w) (hy : YieldsIf P ops (fun _ => True) oi v a) (hS : listed.getD z true = false → S w)
    (h : wpAnyZ P md ops Q S z fuel (listed.setIfInBounds i true) (a.put oi.dst v) w) : wpAnyZ P md ops Q S z (fuel + 1) listed a w := by
  rw [Bool.and_eq_true, decide_eq_true_iff] at hz
  obtain ⟨hz1, hz2⟩ := hz
  have hself : ∀ d, oi.dst = some d → d ∉ oi.looksAt ops := fun d hd => by
    unfold selfB at hz2
    rw [hd] at hz2
    simpa using hz2
  have hready : i ∈ Region.ready md ops listed := by simpa using hr
  exact goes_first (D := fun _ => True) (R := Eq) (T := knownZ S z) ⟨hi, Region.noSelect_spec hs, hself, hQ⟩ (fun _ => rfl) (fun h h' => h.trans h') (fun _ => True)
    (fun _ _ _ _ _ _ => trivial) (fun _ _ _ _ _ => trivial) (fun L a w w' _ hT e => e ▸ hT) (fun L a w _ => by unfold knownZ; rw [getD_set_ne true hz1])
    fuel listed a w trivial (Region.free_spec hi hf) hready (hy.imp (fun h => ⟨h.1, fun w hw => Or.inl (h.2 w hw)⟩) id) hS (fun w' e _ => by subst e; exact h)
theorem takesZ_oneT {z i : Nat} {is : List Nat} {oi : Oper} {v : Value} {fuel : Nat} {listed : Array Bool} {a : Act} {w : World} (hy : YieldsIf P ops (fun _ => True) oi v a)
    (h : TakeZ P md ops Q S z is fuel (listed.setIfInBounds i true) (a.put oi.dst v) w) (hS : listed.getD z true = false → S w) (hi : ops[i]? = some oi := by rfl)
    (hs : Region.noSelect ops = true := by kernel_rfl) (hf : Region.free md ops listed i = true := by kernel_rfl) (hr : (Region.ready md ops listed).contains i = true := by kernel_rfl) (hz : (decide (i ≠ z) && selfB ops oi) = true := by kernel_rfl)
    (hQ : ∀ c a w, Q (.panic c) (a.put oi.dst v) w → Q (.panic c) a w := by exact fun _ _ _ h => h) : TakeZ P md ops Q S z (i :: is) (fuel + 1) listed a w :=
  ⟨wpAnyZ_takeT hi hs hf hr hz hQ hy hS h.run⟩
/-- Behind z: one alone may come up. -/
theorem wpAnyZ_past {fuel : Nat} {listed : Array Bool} {a : Act} {w : World} {i : Nat} {o : Oper} (hr : Region.ready md ops listed = [i]) (ho : ops[i]? = some o) (hz : listed.getD z true = true)
    (h : ∀ K' : Act → World → Prop, Shut (∀ a w, wpAnyZ P md ops Q S z fuel (listed.setIfInBounds i true) a w → K' a w) → if Region.wanted o (yielded ops a.tmps) = true then Oper.wp P o a w K' Q else K' (a.put o.dst undef) w) :
    wpAnyZ P md ops Q S z (fuel + 1) listed a w := by
  refine ⟨fun e => (by rw [hr] at e; cases e), fun j hj => ?_⟩
  rw [hr] at hj
  rw [List.mem_singleton.1 hj]
  refine wpOp_step ho fun K' hK => h K' fun a' w' hgo => hK a' w' ⟨fun e => ?_, fun w'' e _ => by subst e; exact hgo⟩
  rcases Nat.decEq z i with hne | heq
  · rw [getD_set_ne true (fun e => hne e.symm)] at e
    rw [hz] at e
    cases e
  · subst heq
    rcases Nat.lt_or_ge z listed.size with hs | hs
    · simp [hs] at e
    · simp [Array.getElem?_eq_none hs] at e
end
end Go.Proofs.YthfanonjokpflaaGreat
set_option linter.unusedVariables false
set_option linter.unusedSimpArgs false
namespace Go.Proofs.YthfanonjokpflaaGreat
open Go

/-- From place 'i', 'e' wrong so far, 'p' has read x and is at 'j', 'f' wrong. -/
structure Went {α : Type} (p : Pz α) (l : Bs) (i : Nat) (e : Int) (x : α) (j : Nat) (f : Int) : Prop where
  le : f = 0 → i ≤ j
  len : j ≤ l.length
  stays : e ≠ 0 → f = e
  ok : e = 0 → f = 0 → p (l.drop i) = .ok (x, l.drop j)
  no : e = 0 → f ≠ 0 → p (l.drop i) = .error f
section
variable {α β : Type} {p : Pz α} {l : Bs} {i j k : Nat} {e f g : Int} {x : α} {y : β}
theorem Went.bind {q : α → Pz β} (h : Went p l i e x j f) (h' : Went (q x) l j f y k g) : Went (bindP p q) l i e y k g where
  le := fun hg => by
    have hf : f = 0 := by
      refine Decidable.byContradiction fun hf => ?_
      exact hf (by rw [← h'.stays hf]; exact hg)
    exact Nat.le_trans (h.le hf) (h'.le hg)
  len := h'.len
  stays := fun he => by
    have := h.stays he
    rw [h'.stays (by rw [this]; exact he), this]
  ok := fun he hg => by
    have hf : f = 0 := by
      refine Decidable.byContradiction fun hf => ?_
      exact hf (by rw [← h'.stays hf]; exact hg)
    rw [bind_ok (h.ok he hf)]
    exact h'.ok hf hg
  no := fun he hg => by
    by_cases hf : f = 0
    · rw [bind_ok (h.ok he hf)]
      exact h'.no hf hg
    · rw [h'.stays hf]
      exact bind_err (h.no he hf)
theorem Went.ret (x : α) (hi : i ≤ l.length) (e : Int) : Went (retP x) l i e x i e := ⟨fun _ => Nat.le_refl _, hi, fun _ => rfl, fun _ _ => rfl, fun h h' => absurd h h'⟩
theorem Went.map {q : α → β} (h : Went p l i e x j f) : Went (bindP p fun x => retP (q x)) l i e (q x) j f := h.bind (Went.ret (q x) h.len f)
/-- Something is wrong here. -/
theorem Went.wrong (x : α) (c : Int) (hc : c ≠ 0) (hi : i ≤ l.length) (hp : e = 0 → p (l.drop i) = .error c) : Went p l i e x i (if e = 0 then c else e) := by
  refine ⟨fun _ => Nat.le_refl _, hi, fun he => if_neg he, fun he hf => ?_, fun he hf => ?_⟩
  · rw [if_pos he] at hf; exact absurd hf hc
  · rw [if_pos he]; exact hp he
/-- Where something is wrong a reader may be anywhere. -/
theorem Went.bad (x : α) (c : Int) (hc : c ≠ 0) (hj : j ≤ l.length) (hp : p (l.drop i) = .error c) : Went p l i 0 x j c := ⟨fun h => absurd h hc, hj, fun h => absurd rfl h, fun _ h => absurd h hc, fun _ _ => hp⟩
theorem Went.lost (x : α) (he : e ≠ 0) (hj : j ≤ l.length) : Went p l i e x j e := ⟨fun h => absurd h he, hj, fun _ => rfl, fun h => absurd h he, fun h => absurd h he⟩
/-- Nothing more is read where something is wrong. -/
theorem Went.off (x : α) (he : e ≠ 0) (hi : i ≤ j) (hj : j ≤ l.length) : Went p l i e x j e := ⟨fun _ => hi, hj, fun _ => rfl, fun h => absurd h he, fun h => absurd h he⟩
end
theorem Went.same {α : Type} {p q : Pz α} {l : Bs} {i j : Nat} {e f : Int} {x : α} (h : Went p l i e x j f) (hq : e = 0 → q (l.drop i) = p (l.drop i)) : Went q l i e x j f :=
  ⟨h.le, h.len, h.stays, fun he hf => (hq he).trans (h.ok he hf), fun he hf => (hq he).trans (h.no he hf)⟩
theorem gnum_raw (l : Bs) (i : Nat) (h : i ≤ l.length) : gnum l i = match rawP (l.drop i) with
    | .error c => (0, 0, c)
    | .ok x => (x.1, ((l.length - x.2.length : Nat) : Int), 0) := by
  unfold gnum
  rw [if_neg (by omega), Int.toNat_natCast]
  cases hd : l.drop i with
  | nil => rfl
  | cons c r =>
    have hl : r.length + 1 + i = l.length := by
      have := congrArg List.length hd
      rw [List.length_drop, List.length_cons] at this
      omega
    rw [rawP_cons]
    dsimp only
    split
    · rfl
    · split
      · rfl
      · rename_i h1 h2
        dsimp only
        rw [List.length_drop]
        have : i + 1 + c.toNat = l.length - (r.length - c.toNat) := by omega
        rw [this]
theorem raw_at {l : Bs} {i v : Nat} {r : Bs} (h : i ≤ l.length) (hr : rawP (l.drop i) = .ok (v, r)) : i ≤ l.length - r.length ∧ l.length - r.length ≤ l.length ∧ r = l.drop (l.length - r.length) := by
  have h1 := (raw_canon hr).1
  have h2 := congrArg List.length h1
  rw [List.length_drop, List.length_append] at h2
  refine ⟨by omega, by omega, ?_⟩
  have h3 : l.length - r.length = i + (numL v).length := by omega
  rw [h3, ← List.drop_drop, h1, List.drop_left' rfl]
end Go.Proofs.YthfanonjokpflaaGreat
set_option linter.unusedVariables false
set_option linter.unusedSimpArgs false
namespace Go.Proofs.YthfanonjokpflaaGreat
open Go

/-- From place 'i', 'e' wrong so far, of n readings by 'p' K have been read; the reader is at 'j', 'f' wrong. -/
structure Loops {α : Type} (p : Pz α) (l : Bs) (n i : Nat) (e : Int) (K : List α) (j : Nat) (f : Int) : Prop where
  le : f = 0 → i ≤ j
  len : j ≤ l.length
  many : K.length ≤ n
  stays : e ≠ 0 → f = e
  ok : e = 0 → f = 0 → manyP p n (l.drop i) = (match manyP p (n - K.length) (l.drop j) with | .error c => .error c | .ok x => .ok (K ++ x.1, x.2))
  no : e = 0 → f ≠ 0 → manyP p n (l.drop i) = .error f
section
variable {α : Type} {p : Pz α} {l : Bs} {n i j k : Nat} {e f g : Int} {K : List α} {x : α}
theorem Loops.start (p : Pz α) (n : Nat) (hi : i ≤ l.length) (e : Int) : Loops p l n i e [] i e where
  le := fun _ => Nat.le_refl _
  len := hi
  many := Nat.zero_le _
  stays := fun _ => rfl
  ok := fun _ _ => by
    show manyP p n (l.drop i) = (match manyP p n (l.drop i) with | .error c => .error c | .ok x => .ok ([] ++ x.1, x.2))
    cases manyP p n (l.drop i) <;> rfl
  no := fun h h' => absurd h h'
theorem Loops.step (h : Loops p l n i e K j 0) (hn : K.length < n) (hw : Went p l j 0 x k g) : Loops p l n i e (K ++ [x]) k g where
  le := fun hg => Nat.le_trans (h.le rfl) (hw.le hg)
  len := hw.len
  many := by rw [List.length_append]; exact hn
  stays := fun he => absurd (h.stays he).symm he
  ok := fun he hg => by
    rw [h.ok he rfl, List.length_append]
    obtain ⟨m, hm⟩ : ∃ m, n - K.length = m + 1 := ⟨n - K.length - 1, by omega⟩
    have hm2 : n - (K.length + [x].length) = m := by simp; omega
    rw [hm, hm2]
    have h1 : manyP p (m + 1) (l.drop j) = (bindP (manyP p m) fun xs => retP (x :: xs)) (l.drop k) := by
      show (bindP p fun y => bindP (manyP p m) fun xs => retP (y :: xs)) (l.drop j) = _
      rw [bind_ok (hw.ok rfl hg)]
    rw [h1]
    unfold bindP
    cases manyP p m (l.drop k) with
    | error c => rfl
    | ok z => simp [retP]
  no := fun he hg => by
    rw [h.ok he rfl]
    obtain ⟨m, hm⟩ : ∃ m, n - K.length = m + 1 := ⟨n - K.length - 1, by omega⟩
    rw [hm]
    have h1 : manyP p (m + 1) (l.drop j) = .error g := by
      show (bindP p fun y => bindP (manyP p m) fun xs => retP (y :: xs)) (l.drop j) = _
      exact bind_err (hw.no rfl hg)
    rw [h1]
theorem Loops.done (h : Loops p l n i e K j f) (hd : f = 0 → K.length = n) : Went (manyP p n) l i e K j f where
  le := h.le
  len := h.len
  stays := h.stays
  ok := fun he hf => by
    rw [h.ok he hf, hd hf, Nat.sub_self]
    show Except.ok (K ++ [], l.drop j) = _
    rw [List.append_nil]
  no := h.no
/-- How many, then they. -/
theorem Loops.list (hc : Went cntP l i e n j f) (h : Loops p l n j f K k g) (hd : g = 0 → K.length = n) : Went (listP p) l i e K k g := hc.bind (h.done hd)
end
end Go.Proofs.YthfanonjokpflaaGreat
set_option linter.unusedVariables false
set_option linter.unusedSimpArgs false
namespace Go.Proofs.YthfanonjokpflaaGreat
open Go Go.RowKit

/-- A reader at block q: the bytes lie below it. -/
structure RY (w : World) (q : Nat) (A : Option Addr) (n c : Nat) (l : Bs) (i : Nat) (e : Int) : Prop where
  blk : w.heap[q]? = some (.cells #[.slice A n c, .int .i64 i, .int .i64 e] 115 (0, 0))
  rd : Rd w q A n l
  cap : n ≤ c
  max : c ≤ maxLen
  nil : A = none → c = 0
section
variable {w w' w'' : World} {q n c i : Nat} {A : Option Addr} {l : Bs} {e : Int}
theorem RY.lt (h : RY w q A n c l i e) : q < w.heap.size := (Array.getElem?_eq_some_iff.1 h.blk).1
theorem RY.len (h : RY w q A n c l i e) : l.length = n := h.rd.1
theorem RY.cells (h : RY w q A n c l i e) : w.cell? ⟨q, 0, none⟩ = some (.slice A n c) ∧ w.cell? ⟨q, 1, none⟩ = some (.int .i64 i) ∧ w.cell? ⟨q, 2, none⟩ = some (.int .i64 e) := ⟨cell_at h.blk rfl, cell_at h.blk rfl, cell_at h.blk rfl⟩
theorem RY.thaw (h : RY w q A n c l i e) (j : Nat) : w.frozen? ⟨q, j, none⟩ = false := thawed_at h.blk
abbrev KeptQ (q : Nat) (w w' : World) : Prop := Kept (fun k => k = q) w w'
theorem KeptQ.on (h : KeptQ q w w') (h' : KeptQ q w' w'') : KeptQ q w w'' := Kept.trans h h' fun _ h => Or.inl h
theorem KeptQ.low (h : KeptQ q w w') (hq : q < w.heap.size) : Below q w w' := h.below (fun k hk => by omega) (by omega)
theorem RY.below (h : RY w q A n c l i e) (hb : Below w.heap.size w w') : RY w' q A n c l i e := ⟨(hb.block q h.lt).trans h.blk, h.rd.below (hb.mono (Nat.le_of_lt h.lt)), h.cap, h.max, h.nil⟩
theorem RY.drew (h : RY w q A n c l i e) : RY w.drew q A n c l i e := ⟨h.blk, h.rd, h.cap, h.max, h.nil⟩
theorem RY.put1 (h : RY w q A n c l i e) (j : Nat) : RY (w.setCell ⟨q, 1, none⟩ (.int .i64 j)) q A n c l j e := by
  have m := Joins.block_setCell (i := 1) h.blk (.int .i64 (j : Int))
  simp only [List.setIfInBounds_toArray, List.set_cons_zero, List.set_cons_succ] at m
  exact ⟨m, h.rd.below ((Below.refl q w).setCell (p := ⟨q, 1, none⟩) (Nat.le_refl _) _), h.cap, h.max, h.nil⟩
theorem RY.put2 (h : RY w q A n c l i e) (f : Int) : RY (w.setCell ⟨q, 2, none⟩ (.int .i64 f)) q A n c l i f := by
  have m := Joins.block_setCell (i := 2) h.blk (.int .i64 f)
  simp only [List.setIfInBounds_toArray, List.set_cons_zero, List.set_cons_succ] at m
  exact ⟨m, h.rd.below ((Below.refl q w).setCell (p := ⟨q, 2, none⟩) (Nat.le_refl _) _), h.cap, h.max, h.nil⟩
/-- Another block may change. -/
theorem RY.other {r : Nat} (h : RY w q A n c l i e) (hk : KeptQ r w w') (hr : q < r) : RY w' q A n c l i e :=
  ⟨(hk.block q h.lt (fun e => by omega)).trans h.blk, h.rd.keep fun p hp => by
    have := hk.block p.block (by have := h.lt; omega) (fun e => by omega)
    unfold World.cell?
    rw [this], h.cap, h.max, h.nil⟩
end
set_option maxRecDepth 8000 in
set_option maxHeartbeats 1000000 in
theorem ynum (q i n c : Nat) (e : Int) (A : Option Addr) (l : Bs) (w : World) (h : RY w q A n c l i e) (hi : i ≤ n) (hs : n ≤ 1000000000) :
    Calls Tryz.prog 95 #[.pointer (some ⟨q, 0, none⟩)] w fun x w' => ∃ (v j : Nat) (f : Int), x = .returned (.int .u64 v) ∧ v < 18446744073709551616 ∧ (f ≠ 0 → v = 0) ∧ j ≤ n ∧ RY w' q A n c l j f ∧ KeptQ q w w' ∧ Went rawP l i e v j f := by
  have hl := h.len
  by_cases he : e = 0
  · subst he
    have hg := gnum_raw l i (by omega)
    obtain ⟨gv, gj, gc, hgn⟩ : ∃ gv gj gc, gnum l i = (gv, gj, gc) := ⟨_, _, _, rfl⟩
    have hres : ∃ (v j : Nat) (f : Int), numV (gnum l i) = .tuple #[.int .u64 (v : Nat), .int .i64 (j : Nat), .int .i64 f] ∧ v < 18446744073709551616 ∧ (f ≠ 0 → v = 0) ∧ j ≤ n ∧ Went rawP l i 0 v j f := by
      cases hr : rawP (l.drop i) with
      | error c =>
        rw [hr] at hg
        have hc0 : c ≠ 0 := by rcases raw_errs hr with rfl | rfl <;> decide
        exact ⟨0, 0, c, by rw [hg]; rfl, by omega, fun _ => rfl, by omega, Went.bad 0 c hc0 (by omega) hr⟩
      | ok z =>
        obtain ⟨v, r⟩ := z
        rw [hr] at hg
        have hat := raw_at (by omega : i ≤ l.length) hr
        exact ⟨v, l.length - r.length, 0, by rw [hg]; rfl, (raw_canon hr).2, fun h => absurd rfl h, by omega, ⟨fun _ => hat.1, hat.2.1, fun h => absurd rfl h, fun _ _ => by rw [hr, ← hat.2.2], fun _ h => absurd rfl h⟩⟩
    obtain ⟨v, j, f, hgv, hv, hf0, hj, hw⟩ := hres
    obtain ⟨c0, c1, c2⟩ := h.cells
    have HGV := Lib.hid hgv; have HV := Lib.hid hv; have HJ := Lib.hid hj; have HW := Lib.hid hw; have H := Lib.hid h; have HS := Lib.hid hs; have HF0 := Lib.hid hf0
    have HC := Lib.hid (⟨c0, c1, c2⟩ : w.cell? ⟨q, 0, none⟩ = some (.slice A n c) ∧ w.cell? ⟨q, 1, none⟩ = some (.int .i64 i) ∧ w.cell? ⟨q, 2, none⟩ = some (.int .i64 0))
    clear hg hgn hgv hv hj hw h hs hi hl c0 c1 hf0 gv gj gc
    go_enter Tryz.func95, Tryz.ntmps95
    go_wp2_with fail
    clear c2
    refine wp_region_z (S := fun w' => w' = w.drew) 18 (by kernel_rfl) ?_ (fun hHeld => ?_)
    · rfl
    refine takesZ [0, 2, 3, 4, 5, 6, 7, 8, 9] ?_
    repeat
      refine takesZ_one (v := ?_) ?_ ?_
      rotate_left
      · first | (refine Or.inr ⟨by rfl, ?_⟩; with_reducible rfl) | (refine Or.inl ⟨by rfl, ?_⟩; intro wx hSw; (try dsimp only at hSw); subst hSw; first | (go_simp; first | done | with_reducible rfl) | (obtain ⟨_, _, _⟩ := HC.out; go_simp; first | done | with_reducible rfl))
      try simp only [Act.put, List.getElem_toArray, List.getElem_cons_succ, List.getElem_cons_zero, List.setIfInBounds_toArray, List.set_cons_zero, List.set_cons_succ]
    refine takesZ_nil ?_
    refine takesZ [1] ?_
    refine takesZ_oneT (v := ?_) ?_ ?_ (fun _ => hHeld)
    rotate_left
    · refine Or.inl ⟨by rfl, ?_⟩; intro wx _; go_simp; first | done | with_reducible rfl
    try simp only [Act.put, List.getElem_toArray, List.getElem_cons_succ, List.getElem_cons_zero, List.setIfInBounds_toArray, List.set_cons_zero, List.set_cons_succ]
    refine takesZ_nil ?_
    refine wpAnyZ_one (i := 10) (by kernel_rfl) rfl (fun K hK => ?_)
    go_simp
    refine (getNum_any A n c q l i w.drew H.out.drew.rd H.out.cap H.out.max (by have := HS.out; omega)).mono ?_
    rintro x w1 ⟨rfl, hw1⟩
    rw [HGV.out]
    subst hw1
    try go_wp2_with fail
    refine hK.out _ _ rfl (fun hHeld => ?_)
    clear hK K
    try simp only [Act.put, List.getElem_toArray, List.getElem_cons_succ, List.getElem_cons_zero, List.setIfInBounds_toArray, List.set_cons_zero, List.set_cons_succ]
    refine takesZ [11, 12, 13, 14, 15, 16, 17] ?_
    repeat
      refine takesZ_oneT (v := ?_) ?_ ?_ (fun _ => hHeld)
      rotate_left
      · refine Or.inl ⟨by rfl, ?_⟩; intro wx _; go_simp; first | done | with_reducible rfl
      try simp only [Act.put, List.getElem_toArray, List.getElem_cons_succ, List.getElem_cons_zero, List.setIfInBounds_toArray, List.set_cons_zero, List.set_cons_succ]
    refine takesZ_nil ?_
    have h1 : RY w.drew q A n c l i 0 := H.out.drew
    obtain ⟨U, hU⟩ : ∃ U, U = w.drew := ⟨_, rfl⟩
    have hkU : KeptQ q w U := by rw [hU]; exact (Kept.refl _ _).drew
    rw [← hU] at h1 ⊢
    clear hU hHeld H HC
    obtain ⟨_, c1, c2⟩ := h1.cells
    have f1 := h1.thaw 1
    have h2 := h1.put1 j
    have c2' := h2.cells.2.2
    have f2 := h2.thaw 2
    have h3 := h2.put2 f
    have hk3 := (hkU.on (Kept.setCell (fun k => k = q) U ⟨q, 1, none⟩ (.int .i64 (j : Int)) rfl)).on (Kept.setCell (fun k => k = q) _ ⟨q, 2, none⟩ (.int .i64 f) rfl)
    have H3 := Lib.hid h3; have K3 := Lib.hid hk3
    clear h1 h2 h3 hk3 hkU
    refine wpAnyZ_last (by kernel_rfl) rfl (fun K hK => ?_)
    go_simp
    refine hK.out _ _ ?_
    clear hK K c1 f1 c2
    try simp only [Act.put, List.getElem_toArray, List.getElem_cons_succ, List.getElem_cons_zero, List.setIfInBounds_toArray, List.set_cons_zero, List.set_cons_succ]
    refine takesZ [19, 20] ?_
    repeat
      refine takesZ_oneT (v := ?_) ?_ ?_ (fun h => by cases h)
      rotate_left
      · refine Or.inl ⟨by rfl, ?_⟩; intro wx _; go_simp; first | done | with_reducible rfl
      try simp only [Act.put, List.getElem_toArray, List.getElem_cons_succ, List.getElem_cons_zero, List.setIfInBounds_toArray, List.set_cons_zero, List.set_cons_succ]
    refine takesZ_nil ?_
    refine wpAnyZ_past (i := 21) (by kernel_rfl) rfl rfl (fun K hK => ?_)
    go_simp
    refine hK.out _ _ ?_
    clear hK K c2' f2
    try simp only [Act.put, List.getElem_toArray, List.getElem_cons_succ, List.getElem_cons_zero, List.setIfInBounds_toArray, List.set_cons_zero, List.set_cons_succ]
    refine wpAnyZ_done (by kernel_rfl) ?_ _
    go_wp2
    go_ret
    exact ⟨v, j, f, rfl, HV.out, HF0.out, HJ.out, H3.out, K3.out, HW.out⟩
  · have e0 : (e == 0) = false := by simp; exact he
    obtain ⟨c0, c1, c2⟩ := h.cells
    have HE := Lib.hid he; have H := Lib.hid h; have HI := Lib.hid hi
    clear he h hi hs hl c0 c1
    go_enter Tryz.func95, Tryz.ntmps95
    go_wp2
    go_ret
    exact ⟨0, i, e, rfl, by omega, fun _ => rfl, HI.out, H.out, Kept.refl _ _, Went.off 0 HE.out (Nat.le_refl _) (by rw [H.out.len]; exact HI.out)⟩
end Go.Proofs.YthfanonjokpflaaGreat
set_option linter.unusedVariables false
set_option linter.unusedSimpArgs false
namespace Go.Proofs.YthfanonjokpflaaGreat
open Go Go.RowKit

set_option maxHeartbeats 1000000 in
theorem ystamp (q i n c : Nat) (e : Int) (A : Option Addr) (l : Bs) (w : World) (h : RY w q A n c l i e) (hi : i ≤ n) (hs : n ≤ 1000000000) :
    Calls Tryz.prog 74 #[.pointer (some ⟨q, 0, none⟩)] w fun x w' => ∃ (v : Int) (j : Nat) (f : Int), x = .returned (.int .i64 v) ∧ Stm v ∧ (f ≠ 0 → v = 0) ∧ j ≤ n ∧ RY w' q A n c l j f ∧ KeptQ q w w' ∧ Went numP l i e v j f := by
  have hl := h.len
  go_enter Tryz.func74, Tryz.ntmps74
  go_wp2_with fail
  refine (ynum q i n c e A l w h hi hs).mono ?_
  rintro x w1 ⟨v, j, f, rfl, hv, hf0, hj, h1, k1, hw⟩
  by_cases hb : 1099511627776 < v
  · have hf : f = 0 := Decidable.byContradiction fun hf => by have := hf0 hf; omega
    subst hf
    have d1 : decide ((1099511627776 : Int) < (v : Int)) = true := by simp; omega
    have d2 : decide (1099511627776 < v) = true := by simp; omega
    have hw2 : Went numP l i e (0 : Int) j 6 := by
      have h2 := hw.bind (q := fun (v : Nat) (l : Bs) => if 1099511627776 < v then (.error 6 : Except Int (Int × Bs)) else .ok ((v : Int), l)) (Went.wrong (0 : Int) 6 (by decide) hw.len fun _ => if_pos hb)
      rw [if_pos rfl] at h2
      exact h2
    obtain ⟨_, _, c2⟩ := h1.cells
    have f2 := h1.thaw 2
    have HW := Lib.hid hw2; have H2 := Lib.hid (h1.put2 6); have K2 := Lib.hid (k1.on (Kept.setCell (fun k => k = q) w1 ⟨q, 2, none⟩ (.int .i64 6) rfl)); have HJ := Lib.hid hj
    clear hw hw2 h1 k1 h hi hs hl hf0 hj hb
    go_wp2
    go_ret
    exact ⟨0, j, 6, rfl, ⟨by omega, by omega⟩, fun _ => rfl, HJ.out, H2.out, K2.out, HW.out⟩
  · have d1 : decide ((1099511627776 : Int) < (v : Int)) = false := by simp; omega
    have d2 : decide (1099511627776 < v) = false := by simp; omega
    have hc : IntKind.i64.wrap (v : Int) = (v : Int) := by rw [IntKind.wrap_i64]; omega
    have hw2 : Went numP l i e (v : Int) j f := by
      have h3 := hw.bind (q := fun (v : Nat) (l : Bs) => if 1099511627776 < v then (.error 6 : Except Int (Int × Bs)) else .ok ((v : Int), l)) (y := (v : Int)) (k := j) (g := f) ⟨fun _ => Nat.le_refl _, hw.len, fun _ => rfl, fun _ _ => if_neg hb, fun h h' => absurd h h'⟩
      exact h3
    have HW := Lib.hid hw2; have H1 := Lib.hid h1; have K1 := Lib.hid k1; have HJ := Lib.hid hj
    have HF : Hid (f ≠ 0 → (v : Int) = 0) := Lib.hid fun h => by have := hf0 h; omega
    clear hw hw2 h1 k1 h hi hs hl hf0 hj
    go_wp2
    go_ret
    exact ⟨v, j, f, rfl, ⟨by omega, by omega⟩, HF.out, HJ.out, H1.out, K1.out, HW.out⟩
set_option maxHeartbeats 1000000 in
theorem ycount (q i n c : Nat) (e : Int) (A : Option Addr) (l : Bs) (w : World) (h : RY w q A n c l i e) (hi : i ≤ n) (hs : n ≤ 1000000000) :
    Calls Tryz.prog 96 #[.pointer (some ⟨q, 0, none⟩)] w fun x w' => ∃ (v j : Nat) (f : Int), x = .returned (.int .i64 v) ∧ v ≤ n - j ∧ (f ≠ 0 → v = 0) ∧ j ≤ n ∧ RY w' q A n c l j f ∧ KeptQ q w w' ∧ Went cntP l i e v j f := by
  have hl := h.len
  go_enter Tryz.func96, Tryz.ntmps96
  go_wp2_with fail
  refine (ynum q i n c e A l w h hi hs).mono ?_
  rintro x w1 ⟨v, j, f, rfl, hv, hf0, hj, h1, k1, hw⟩
  obtain ⟨m, hm⟩ : ∃ m, j + m = n := ⟨n - j, by omega⟩
  have hdl : (l.drop j).length = m := by rw [List.length_drop]; omega
  have x1 : IntKind.i64.wrap ((n : Int) - (j : Int)) = (m : Int) := by rw [IntKind.wrap_i64]; omega
  have x2 : IntKind.u64.wrap (m : Int) = (m : Int) := by rw [IntKind.wrap_u64]; omega
  have hc : ∀ w', Below w1.heap.size w1 w' → w'.cell? ⟨q, 0, none⟩ = some (.slice A n c) ∧ w'.cell? ⟨q, 1, none⟩ = some (.int .i64 j) ∧ w'.cell? ⟨q, 2, none⟩ = some (.int .i64 f) := fun w' hb => (h1.below hb).cells
  have HC := Lib.hid hc; have H1 := Lib.hid h1; have K1 := Lib.hid k1; have HM := Lib.hid hm; have HJ := Lib.hid hj
  by_cases hb : m < v
  · have hf : f = 0 := Decidable.byContradiction fun hf => by have := hf0 hf; omega
    subst hf
    have d1 : decide ((m : Int) < (v : Int)) = true := by simp; omega
    have d2 : decide (m < v) = true := by simp; omega
    have hw2 : Went cntP l i e (0 : Nat) j 8 := by
      have h2 := hw.bind (q := fun (v : Nat) (l : Bs) => if l.length < v then (.error 8 : Except Int (Nat × Bs)) else .ok (v, l)) (Went.wrong (0 : Nat) 8 (by decide) hw.len fun _ => by rw [hdl, if_pos hb])
      rw [if_pos rfl] at h2
      exact h2
    have HW := Lib.hid hw2
    clear hw hw2 h1 k1 h hi hs hc hm hdl hj hb hl hf0
    go_wp2_with fail
    refine wp_region_held_drew (S := fun w' => Below w1.heap.size w1 w') (by kernel_rfl) ?_ (fun hHeld => ?_)
    · exact (Below.refl _ _).drew
    refine takesH [0, 1, 2, 3, 4, 5, 6, 7, 8, 9, 10, 11, 12] ?_
    repeat
      refine takesH_one (v := ?_) ?_ ?_
      rotate_left
      · first | (refine Or.inr ⟨by rfl, ?_⟩; with_reducible rfl) | (refine Or.inl ⟨by rfl, ?_⟩; intro wx hSw; (try dsimp only at hSw); first | (go_simp; first | done | with_reducible rfl) | (obtain ⟨_, _, _⟩ := HC.out _ hSw; go_simp; first | done | with_reducible rfl))
      try simp only [Act.put, List.getElem_toArray, List.getElem_cons_succ, List.getElem_cons_zero, List.setIfInBounds_toArray, List.set_cons_zero, List.set_cons_succ]
    refine takesH_nil ?_
    refine wpAnyH_done (by kernel_rfl) ?_ _
    have h2 := H1.out.below hHeld
    obtain ⟨U, hU⟩ : ∃ U, U = w1.drew := ⟨_, rfl⟩
    have hkU : KeptQ q w1 U := by rw [hU]; exact (Kept.refl _ _).drew
    have h2 : RY U q A n c l j 0 := by rw [hU]; exact H1.out.drew
    rw [← hU]
    obtain ⟨_, _, c2⟩ := h2.cells
    have f2 := h2.thaw 2
    have H3 := Lib.hid (h2.put2 8)
    have K3 := Lib.hid ((K1.out.on hkU).on (Kept.setCell (fun k => k = q) U ⟨q, 2, none⟩ (.int .i64 8) rfl))
    clear hHeld h2 hU hkU
    go_wp2
    go_ret
    exact ⟨0, j, 8, rfl, Nat.zero_le _, fun _ => rfl, HJ.out, H3.out, K3.out, HW.out⟩
  · have d1 : decide ((m : Int) < (v : Int)) = false := by simp; omega
    have d2 : decide (m < v) = false := by simp; omega
    have x3 : IntKind.i64.wrap (v : Int) = (v : Int) := by rw [IntKind.wrap_i64]; omega
    have hw2 : Went cntP l i e v j f := by
      have h3 := hw.bind (q := fun (v : Nat) (l : Bs) => if l.length < v then (.error 8 : Except Int (Nat × Bs)) else .ok (v, l)) (y := v) (k := j) (g := f) ⟨fun _ => Nat.le_refl _, hw.len, fun _ => rfl, fun _ _ => by rw [hdl]; exact if_neg hb, fun h h' => absurd h h'⟩
      exact h3
    have HW := Lib.hid hw2
    have HV : Hid (v ≤ n - j) := Lib.hid (by omega)
    have HF := Lib.hid hf0
    clear hw hw2 h1 k1 h hi hs hc hm hdl hj hb hl hf0
    go_wp2_with fail
    refine wp_region_held_drew (S := fun w' => Below w1.heap.size w1 w') (by kernel_rfl) ?_ (fun hHeld => ?_)
    · exact (Below.refl _ _).drew
    refine takesH [0, 1, 2, 3, 4, 5, 6, 7, 8, 9, 10, 11, 12] ?_
    repeat
      refine takesH_one (v := ?_) ?_ ?_
      rotate_left
      · first | (refine Or.inr ⟨by rfl, ?_⟩; with_reducible rfl) | (refine Or.inl ⟨by rfl, ?_⟩; intro wx hSw; (try dsimp only at hSw); first | (go_simp; first | done | with_reducible rfl) | (obtain ⟨_, _, _⟩ := HC.out _ hSw; go_simp; first | done | with_reducible rfl))
      try simp only [Act.put, List.getElem_toArray, List.getElem_cons_succ, List.getElem_cons_zero, List.setIfInBounds_toArray, List.set_cons_zero, List.set_cons_succ]
    refine takesH_nil ?_
    refine wpAnyH_done (by kernel_rfl) ?_ _
    have H2 := Lib.hid (H1.out.below hHeld)
    have K2 := Lib.hid (K1.out.on (show KeptQ q w1 w1.drew from Kept.of_below hHeld _))
    clear hHeld
    go_wp2
    go_ret
    exact ⟨v, j, f, rfl, HV.out, HF.out, HJ.out, H2.out, K2.out, HW.out⟩
theorem sl_lhm {w : World} {B n : Nat} {A : Option Addr} {l : List UInt8} (h : Rd w B A n l) {c : Nat} (hn : n ≤ c) (x y z : Int) (lo hi : Nat) (ex : x = (lo : Nat)) (ey : y = (hi : Nat)) (ez : z = (hi : Nat)) (h1 : lo ≤ hi) (h2 : hi ≤ n) :
    ∃ A', (∀ wx : World, (Instr.slice 33 (.slice A n c) (some (.int .i64 x)) (some (.int .i64 y)) (some (.int .i64 z))).run Tryz.prog wx = .ok (.slice A' (hi - lo) (hi - lo)) wx) ∧ Rd w B A' (hi - lo) ((l.take hi).drop lo) ∧ (A' = none → hi - lo = 0 ∨ A = none) := by
  refine ⟨if hi = lo then A else A.map (·.add lo), fun wx => ?_, h.cut h1 h2 (Nat.le_refl _), fun hA => ?_⟩
  · obtain ⟨i, hi', hz0, hz1, hz2⟩ := info_parts infoB
    subst ex
    subst ey
    subst ez
    rw [run_slice_lhm (P := Tryz.prog) (t := 33) (ht := by rw [sizeB]; exact Tryz.underlying33) (h0 := by omega) (h1 := by omega) (h2 := by omega) (h3 := by omega), sizeB]
    simp [sizeOf, typeInfo, hi', hz1, sliced, Result.andThen]
  · split at hA
    · exact Or.inr hA
    · cases A with
      | none => exact Or.inr rfl
      | some a => cases hA
end Go.Proofs.YthfanonjokpflaaGreat
set_option linter.unusedVariables false
set_option linter.unusedSimpArgs false
namespace Go.Proofs.YthfanonjokpflaaGreat
open Go Go.RowKit

set_option maxHeartbeats 1600000 in
theorem ybytes (q i n c : Nat) (e : Int) (A : Option Addr) (l : Bs) (w : World) (h : RY w q A n c l i e) (hi : i ≤ n) (hs : n ≤ 1000000000) :
    Calls Tryz.prog 94 #[.pointer (some ⟨q, 0, none⟩)] w fun x w' => ∃ (A' : Option Addr) (m : Nat) (k : Bs) (j : Nat) (f : Int), x = .returned (.slice A' m m) ∧ m ≤ n ∧ Rd w' q A' m k ∧ (A' = none → m = 0) ∧ (f ≠ 0 → m = 0) ∧ j ≤ n ∧ RY w' q A n c l j f ∧ KeptQ q w w' ∧ Went bodyP l i e k j f := by
  have hl := h.len
  go_enter Tryz.func94, Tryz.ntmps94
  go_wp2_with fail
  refine (ycount q i n c e A l w h hi hs).mono ?_
  rintro x w1 ⟨v, j, f, rfl, hv, hf0, hj, h1, k1, hw⟩
  have hjv : j + v ≤ n := by omega
  have x1 : IntKind.i64.wrap ((j : Int) + (v : Int)) = (j : Int) + (v : Int) := by rw [IntKind.wrap_i64]; omega
  obtain ⟨c0, c1, c2⟩ := h1.cells
  have f1 := h1.thaw 1
  have h2 := h1.put1 (j + v)
  have D1 := Lib.hid (show (j : Int) + (v : Int) = ((j + v : Nat) : Int) by omega)
  have h2 : RY (w1.setCell ⟨q, 1, none⟩ (.int .i64 ((j : Int) + (v : Int)))) q A n c l (j + v) f := by rw [D1.out]; exact h2
  have k2 : KeptQ q w (w1.setCell ⟨q, 1, none⟩ (.int .i64 ((j : Int) + (v : Int)))) := k1.on (Kept.setCell (fun k => k = q) w1 _ _ rfl)
  have hw2 : Went bodyP l i e ((l.drop j).take v) (j + v) f := by
    by_cases hf : f = 0
    · subst hf
      exact hw.bind (q := fun (n : Nat) (l : Bs) => (.ok (l.take n, l.drop n) : Except Int (Bs × Bs))) (y := (l.drop j).take v) (k := j + v) (g := 0) ⟨fun _ => by omega, by omega, fun h => absurd rfl h, fun _ _ => by rw [List.drop_drop], fun _ h => absurd rfl h⟩
    · exact hw.bind (Went.lost _ hf (by omega))
  have H2 := Lib.hid h2; have K2 := Lib.hid k2; have HW := Lib.hid hw2; have HJV := Lib.hid hjv; have HV := Lib.hid hv; have HF := Lib.hid hf0
  clear h1 k1 hw hv hf0 hj h hi hs hl h2 k2 hw2 hjv
  go_wp2_with fail
  obtain ⟨U, hU⟩ : ∃ U, U = w1.setCell ⟨q, 1, none⟩ (.int .i64 ((j : Int) + (v : Int))) := ⟨_, rfl⟩
  rw [← hU] at H2 K2 ⊢
  clear hU c0 c1 c2 f1
  obtain ⟨A', hsl, hrd, hA⟩ := sl_lhm H2.out.rd H2.out.cap (j : Int) ((j : Int) + (v : Int)) ((j : Int) + (v : Int)) j (j + v) rfl D1.out D1.out (by omega) HJV.out
  have hvv : j + v - j = v := by omega
  rw [hvv] at hsl hrd hA
  rw [List.take_add, List.drop_append_of_le_length (by rw [List.length_take]; have := H2.out.len; have := HJV.out; omega)] at hrd
  have hcells : ∀ w', Below U.heap.size U w' → w'.cell? ⟨q, 0, none⟩ = some (.slice A n c) ∧ w'.cell? ⟨q, 1, none⟩ = some (.int .i64 ((j : Int) + (v : Int))) ∧ w'.cell? ⟨q, 2, none⟩ = some (.int .i64 f) := fun w' hb => by
    have h := (H2.out.below hb).cells
    rw [← D1.out] at h
    exact h
  have hnl : (List.drop j (List.take j l)) = [] := List.drop_eq_nil_of_le (by rw [List.length_take]; omega)
  rw [hnl, List.nil_append] at hrd
  have HC := Lib.hid hcells; have HRD := Lib.hid hrd; have HA := Lib.hid hA
  clear hcells hrd hA hvv hnl x1
  refine wp_region_held_drew (S := fun w' => Below U.heap.size U w') (by kernel_rfl) ?_ (fun hHeld => ?_)
  · exact (Below.refl _ _).drew
  refine takesH [0, 1, 2, 3, 4, 5, 6, 7, 8, 9, 10, 11, 12, 13, 14] ?_
  repeat
    refine takesH_one (v := ?_) ?_ ?_
    rotate_left
    · first | (refine Or.inr ⟨by rfl, ?_⟩; with_reducible rfl) | (refine Or.inl ⟨by rfl, ?_⟩; intro wx hSw; (try dsimp only at hSw); first | (go_simp; first | done | with_reducible rfl) | (obtain ⟨_, _, _⟩ := HC.out _ hSw; go_simp; first | done | with_reducible rfl))
    try simp only [Act.put, List.getElem_toArray, List.getElem_cons_succ, List.getElem_cons_zero, List.setIfInBounds_toArray, List.set_cons_zero, List.set_cons_succ]
  refine takesH_nil ?_
  refine wpAnyH_done (by kernel_rfl) ?_ _
  have H3 := Lib.hid (H2.out.below hHeld)
  have HRD3 := Lib.hid (HRD.out.below (hHeld.mono (Nat.le_of_lt H2.out.lt)))
  have K3 := Lib.hid (K2.out.on (show KeptQ q U U.drew from Kept.of_below hHeld _))
  clear hHeld hsl
  go_wp2
  go_ret
  refine ⟨A', v, (l.drop j).take v, j + v, f, rfl, by have := HJV.out; omega, HRD3.out, fun hn => ?_, HF.out, HJV.out, H3.out, K3.out, HW.out⟩
  rcases HA.out hn with h | h
  · exact h
  · have h1 := H2.out.nil h
    have h2 := H2.out.cap
    have h3 := HJV.out
    omega
set_option maxHeartbeats 1600000 in
theorem ytext (q i n c : Nat) (e : Int) (A : Option Addr) (l : Bs) (w : World) (h : RY w q A n c l i e) (hi : i ≤ n) (hs : n ≤ 1000000000) :
    Calls Tryz.prog 73 #[.pointer (some ⟨q, 0, none⟩)] w fun x w' => ∃ (v : ByteArray) (j : Nat) (f : Int), x = .returned (.string v) ∧ v.size ≤ n ∧ j ≤ n ∧ RY w' q A n c l j f ∧ KeptQ q w w' ∧ Went txtP l i e v j f := by
  go_enter Tryz.func73, Tryz.ntmps73
  go_wp2_with fail
  refine (ybytes q i n c e A l w h hi hs).mono ?_
  rintro x w1 ⟨A', m, k, j, f, rfl, hm, hrd, hA, hf0, hj, h1, k1, hw⟩
  have hcv := cv_string hrd m
  have hsz : (⟨k.toArray⟩ : ByteArray).size = m := by
    have := hrd.1
    show k.toArray.size = m
    simpa using this
  have hw2 : Went txtP l i e (⟨k.toArray⟩ : ByteArray) j f := hw.map (q := bsB)
  obtain ⟨T, hT⟩ : ∃ T : ByteArray, (⟨k.toArray⟩ : ByteArray) = T := ⟨_, rfl⟩
  rw [hT] at hcv hsz hw2
  have H1 := Lib.hid h1; have K1 := Lib.hid k1; have HW := Lib.hid hw2; have HJ := Lib.hid hj; have HSZ := Lib.hid (show T.size ≤ n by omega)
  clear hrd hA hf0 hj h1 k1 hw hw2 hT hsz h hi hs hm
  go_wp2
  go_ret
  exact ⟨T, j, f, rfl, HSZ.out, HJ.out, H1.out, K1.out, HW.out⟩
set_option maxHeartbeats 1600000 in
theorem yend (q i n c : Nat) (e : Int) (A : Option Addr) (l : Bs) (w : World) (h : RY w q A n c l i e) (hi : i ≤ n) :
    Calls Tryz.prog 72 #[.pointer (some ⟨q, 0, none⟩)] w fun x w' => x = .returned (.tuple #[]) ∧ RY w' q A n c l i (if e = 0 ∧ i < n then 6 else e) ∧ KeptQ q w w' := by
  have hc : ∀ w', Below w.heap.size w w' → w'.cell? ⟨q, 0, none⟩ = some (.slice A n c) ∧ w'.cell? ⟨q, 1, none⟩ = some (.int .i64 i) ∧ w'.cell? ⟨q, 2, none⟩ = some (.int .i64 e) := fun w' hb => (h.below hb).cells
  have HC := Lib.hid hc; have H := Lib.hid h
  clear hc h
  by_cases he : e = 0
  · subst he
    by_cases hlt : i < n
    · rw [if_pos ⟨rfl, hlt⟩]
      have d1 : decide ((i : Int) < (n : Int)) = true := by simp; omega
      have d2 : decide (i < n) = true := by simp; omega
      clear hi hlt
      go_enter Tryz.func72, Tryz.ntmps72
      go_wp2_with fail
      refine wp_region_held_drew (S := fun w' => Below w.heap.size w w') (by kernel_rfl) ?_ (fun hHeld => ?_)
      · exact (Below.refl _ _).drew
      refine takesH [0, 1, 2, 3, 4, 5, 6, 7, 8, 9, 10, 11, 12, 13, 14, 15, 16] ?_
      repeat
        refine takesH_one (v := ?_) ?_ ?_
        rotate_left
        · first | (refine Or.inr ⟨by rfl, ?_⟩; with_reducible rfl) | (refine Or.inl ⟨by rfl, ?_⟩; intro wx hSw; (try dsimp only at hSw); first | (go_simp; first | done | with_reducible rfl) | (obtain ⟨_, _, _⟩ := HC.out _ hSw; go_simp; first | done | with_reducible rfl))
        try simp only [Act.put, List.getElem_toArray, List.getElem_cons_succ, List.getElem_cons_zero, List.setIfInBounds_toArray, List.set_cons_zero, List.set_cons_succ]
      refine takesH_nil ?_
      refine wpAnyH_done (by kernel_rfl) ?_ _
      obtain ⟨U, hU⟩ : ∃ U, U = w.drew := ⟨_, rfl⟩
      have hkU : KeptQ q w U := by rw [hU]; exact (Kept.refl _ _).drew
      have h2 : RY U q A n c l i 0 := by rw [hU]; exact H.out.drew
      rw [← hU]
      obtain ⟨_, _, c2⟩ := h2.cells
      have f2 := h2.thaw 2
      have H3 := Lib.hid (h2.put2 6)
      have K3 := Lib.hid (hkU.on (Kept.setCell (fun k => k = q) U ⟨q, 2, none⟩ (.int .i64 6) rfl))
      clear hHeld h2 hU hkU
      go_wp2
      go_end0
      exact ⟨rfl, H3.out, K3.out⟩
    · rw [if_neg (fun h => hlt h.2)]
      have d1 : decide ((i : Int) < (n : Int)) = false := by simp; omega
      have d2 : decide (i < n) = false := by simp; omega
      clear hi hlt
      go_enter Tryz.func72, Tryz.ntmps72
      go_wp2_with fail
      refine wp_region_held_drew (S := fun w' => Below w.heap.size w w') (by kernel_rfl) ?_ (fun hHeld => ?_)
      · exact (Below.refl _ _).drew
      refine takesH [0, 1, 2, 3, 4, 5, 6, 7, 8, 9, 10, 11, 12, 13, 14, 15, 16] ?_
      repeat
        refine takesH_one (v := ?_) ?_ ?_
        rotate_left
        · first | (refine Or.inr ⟨by rfl, ?_⟩; with_reducible rfl) | (refine Or.inl ⟨by rfl, ?_⟩; intro wx hSw; (try dsimp only at hSw); first | (go_simp; first | done | with_reducible rfl) | (obtain ⟨_, _, _⟩ := HC.out _ hSw; go_simp; first | done | with_reducible rfl))
        try simp only [Act.put, List.getElem_toArray, List.getElem_cons_succ, List.getElem_cons_zero, List.setIfInBounds_toArray, List.set_cons_zero, List.set_cons_succ]
      refine takesH_nil ?_
      refine wpAnyH_done (by kernel_rfl) ?_ _
      have H3 := Lib.hid (H.out.below hHeld)
      have K3 := Lib.hid (show KeptQ q w w.drew from Kept.of_below hHeld _)
      clear hHeld
      go_wp2
      go_end0
      exact ⟨rfl, H3.out, K3.out⟩
  · rw [if_neg (fun h => he h.1)]
    have e0 : (e == 0) = false := by simp; exact he
    have e1 : decide (e = 0) = false := by simp; exact he
    clear hi
    go_enter Tryz.func72, Tryz.ntmps72
    go_wp2_with fail
    refine wp_region_held_drew (S := fun w' => Below w.heap.size w w') (by kernel_rfl) ?_ (fun hHeld => ?_)
    · exact (Below.refl _ _).drew
    refine takesH [0, 1, 2, 3, 4, 5, 6, 7, 8, 9, 10, 11, 12, 13, 14, 15, 16] ?_
    repeat
      refine takesH_one (v := ?_) ?_ ?_
      rotate_left
      · first | (refine Or.inr ⟨by rfl, ?_⟩; with_reducible rfl) | (refine Or.inl ⟨by rfl, ?_⟩; intro wx hSw; (try dsimp only at hSw); first | (go_simp; first | done | with_reducible rfl) | (obtain ⟨_, _, _⟩ := HC.out _ hSw; go_simp; first | done | with_reducible rfl))
      try simp only [Act.put, List.getElem_toArray, List.getElem_cons_succ, List.getElem_cons_zero, List.setIfInBounds_toArray, List.set_cons_zero, List.set_cons_succ]
    refine takesH_nil ?_
    refine wpAnyH_done (by kernel_rfl) ?_ _
    have H3 := Lib.hid (H.out.below hHeld)
    have K3 := Lib.hid (show KeptQ q w w.drew from Kept.of_below hHeld _)
    clear hHeld
    go_wp2
    go_end0
    exact ⟨rfl, H3.out, K3.out⟩
/-- What 'dead' tells of the byte at hand. -/
def deadF (b : UInt8) : Int := if b = 0 ∨ b = 1 then 0 else 6
set_option maxHeartbeats 1600000 in
theorem ydead (q i n c : Nat) (A : Option Addr) (l : Bs) (w : World) (h : RY w q A n c l i 0) (hi : i ≤ n) (hs : n ≤ 1000000000) :
    Calls Tryz.prog 115 #[.pointer (some ⟨q, 0, none⟩)] w fun x w' => ∃ (d : Bool) (j : Nat) (f : Int), x = .returned (.bool d) ∧ j ≤ n ∧ RY w' q A n c l j f ∧ KeptQ q w w' ∧ ((l.drop i = [] ∧ d = false ∧ f = 8 ∧ j = i) ∨ (∃ b r, l.drop i = b :: r ∧ j = i + 1 ∧ d = decide (b = 1) ∧ f = deadF b)) := by
  have hl := h.len
  have hc : ∀ w', Below w.heap.size w w' → w'.cell? ⟨q, 0, none⟩ = some (.slice A n c) ∧ w'.cell? ⟨q, 1, none⟩ = some (.int .i64 i) ∧ w'.cell? ⟨q, 2, none⟩ = some (.int .i64 0) := fun w' hb => (h.below hb).cells
  obtain ⟨_, _, _⟩ := h.cells
  have HC := Lib.hid hc; have H := Lib.hid h; have HL := Lib.hid hl
  clear hc
  by_cases hin : i = n
  · subst hin
    have hd : l.drop i = [] := List.drop_eq_nil_of_le (by omega)
    have HD := Lib.hid hd
    have d1 : ((i : Int) == (i : Int)) = true := by simp
    clear hd hi hl h
    go_enter Tryz.func115, Tryz.ntmps115
    go_wp2_with fail
    refine wp_region_held_drew (S := fun w' => Below w.heap.size w w') (by kernel_rfl) ?_ (fun hHeld => ?_)
    · exact (Below.refl _ _).drew
    refine takesH [0, 1, 2, 3, 4, 5, 6, 7, 8, 9] ?_
    repeat
      refine takesH_one (v := ?_) ?_ ?_
      rotate_left
      · first | (refine Or.inr ⟨by rfl, ?_⟩; with_reducible rfl) | (refine Or.inl ⟨by rfl, ?_⟩; intro wx hSw; (try dsimp only at hSw); first | (go_simp; first | done | with_reducible rfl) | (obtain ⟨_, _, _⟩ := HC.out _ hSw; go_simp; first | done | with_reducible rfl))
      try simp only [Act.put, List.getElem_toArray, List.getElem_cons_succ, List.getElem_cons_zero, List.setIfInBounds_toArray, List.set_cons_zero, List.set_cons_succ]
    refine takesH_nil ?_
    refine wpAnyH_done (by kernel_rfl) ?_ _
    obtain ⟨U, hU⟩ : ∃ U, U = w.drew := ⟨_, rfl⟩
    have hkU : KeptQ q w U := by rw [hU]; exact (Kept.refl _ _).drew
    have h2 : RY U q A i c l i 0 := by rw [hU]; exact H.out.drew
    rw [← hU]
    obtain ⟨_, _, c2⟩ := h2.cells
    have f2 := h2.thaw 2
    have H3 := Lib.hid (h2.put2 8)
    have K3 := Lib.hid (hkU.on (Kept.setCell (fun k => k = q) U ⟨q, 2, none⟩ (.int .i64 8) rfl))
    clear hHeld h2 hU hkU
    go_wp2
    go_ret
    exact ⟨false, i, 8, rfl, Nat.le_refl _, H3.out, K3.out, Or.inl ⟨HD.out, rfl, rfl, rfl⟩⟩
  · have hlt : i < n := by omega
    have hil : i < l.length := by omega
    have i0 : (0 : Int) ≤ i := by omega
    have i1 : (i : Int) < n := by omega
    have d1 : ((i : Int) == (n : Int)) = false := by simp; omega
    have d2 : decide ((i : Int) = (n : Int)) = false := by simp; omega
    have d3 : (i == n) = false := by simp; omega
    have wi : IntKind.i64.wrap ((i : Int) + 1) = (i : Int) + 1 := by rw [IntKind.wrap_i64]; omega
    have hcons := List.drop_eq_getElem_cons hil
    obtain ⟨g, o, hA, hg, hcb⟩ := h.rd.at2 hlt
    have hby := hcb i hil
    obtain ⟨b, hb⟩ : ∃ b, l[i] = b := ⟨_, rfl⟩
    rw [hb] at hby hcons
    obtain ⟨x, hx⟩ : ∃ x : Int, ((b.toNat : Nat) : Int) = x := ⟨_, rfl⟩
    rw [hx] at hby
    have HX := Lib.hid hx
    subst hA
    have hc6 : ∀ w', Below w.heap.size w w' → (w'.cell? ⟨q, 0, none⟩ = some (.slice (some ⟨g, o, none⟩) n c) ∧ w'.cell? ⟨q, 1, none⟩ = some (.int .i64 i) ∧ w'.cell? ⟨q, 2, none⟩ = some (.int .i64 0)) ∧ w'.cell? ⟨g, o + i, none⟩ = some (.int .u8 x) := fun w' hb => ⟨(h.below hb).cells, (hb.cell (p := ⟨g, o + i, none⟩) (by have := h.lt; show g < w.heap.size; omega)).trans hby⟩
    have HC6 := Lib.hid hc6; have HCONS := Lib.hid hcons; have HIN := Lib.hid (show i + 1 ≤ n by omega)
    clear hc6 hcons hby hcb hb hl h hi hin hlt hil hg hx
    go_enter Tryz.func115, Tryz.ntmps115
    go_wp2_with fail
    refine wp_region_held_drew (S := fun w' => Below w.heap.size w w') (by kernel_rfl) ?_ (fun hHeld => ?_)
    · exact (Below.refl _ _).drew
    refine takesH [0, 1, 2, 3, 4, 5, 6, 7, 8, 9] ?_
    repeat
      refine takesH_one (v := ?_) ?_ ?_
      rotate_left
      · first | (refine Or.inr ⟨by rfl, ?_⟩; with_reducible rfl) | (refine Or.inl ⟨by rfl, ?_⟩; intro wx hSw; (try dsimp only at hSw); first | (go_simp; first | done | with_reducible rfl) | (obtain ⟨_, _, _⟩ := HC.out _ hSw; go_simp; first | done | with_reducible rfl))
      try simp only [Act.put, List.getElem_toArray, List.getElem_cons_succ, List.getElem_cons_zero, List.setIfInBounds_toArray, List.set_cons_zero, List.set_cons_succ]
    refine takesH_nil ?_
    refine wpAnyH_done (by kernel_rfl) ?_ _
    by_cases h0 : x = 0
    · subst h0
      have hb0 : b = 0 := UInt8.toNat_inj.1 (by have := HX.out; show b.toNat = 0; omega)
      subst hb0
      go_wp2_with fail
      refine wp_region_held_drew (S := fun w' => Below w.heap.size w w') (by kernel_rfl) ?_ (fun hHeld => ?_)
      · exact hHeld.drew
      refine takesH [0, 1, 2, 3, 4, 5, 6, 7, 8, 9, 10] ?_
      repeat
        refine takesH_one (v := ?_) ?_ ?_
        rotate_left
        · first | (refine Or.inr ⟨by rfl, ?_⟩; with_reducible rfl) | (refine Or.inl ⟨by rfl, ?_⟩; intro wx hSw; (try dsimp only at hSw); first | (go_simp; first | done | with_reducible rfl) | (obtain ⟨⟨_, _, _⟩, _⟩ := HC6.out _ hSw; go_simp; first | done | with_reducible rfl))
        try simp only [Act.put, List.getElem_toArray, List.getElem_cons_succ, List.getElem_cons_zero, List.setIfInBounds_toArray, List.set_cons_zero, List.set_cons_succ]
      refine takesH_nil ?_
      refine wpAnyH_done (by kernel_rfl) ?_ _
      obtain ⟨U, hU⟩ : ∃ U, U = w.drew.drew := ⟨_, rfl⟩
      have hkU : KeptQ q w U := by rw [hU]; exact (Kept.refl _ _).drew.drew
      have h2 : RY U q (some ⟨g, o, none⟩) n c l i 0 := by rw [hU]; exact H.out.drew.drew
      try rw [← hU]
      obtain ⟨_, c1, c2⟩ := h2.cells
      have f1 := h2.thaw 1
      have h3 : RY (U.setCell ⟨q, 1, none⟩ (.int .i64 ((i : Int) + 1))) q (some ⟨g, o, none⟩) n c l (i + 1) 0 := h2.put1 (i + 1)
      have k3 := hkU.on (Kept.setCell (fun k => k = q) U ⟨q, 1, none⟩ (.int .i64 ((i : Int) + 1)) rfl)
      have c5 := h3.cells.2.2
      have f5 := h3.thaw 2
      have H3 := Lib.hid h3; have K3 := Lib.hid k3
      clear hHeld h2 h3 k3 hU hkU
      go_wp2
      go_ret
      exact ⟨false, i + 1, 0, rfl, HIN.out, H3.out, K3.out, Or.inr ⟨0, _, HCONS.out, rfl, rfl, rfl⟩⟩
    · by_cases h1 : x = 1
      · subst h1
        have hb0 : b = 1 := UInt8.toNat_inj.1 (by have := HX.out; show b.toNat = 1; omega)
        subst hb0
        clear h0
        go_wp2_with fail
        refine wp_region_held_drew (S := fun w' => Below w.heap.size w w') (by kernel_rfl) ?_ (fun hHeld => ?_)
        · exact hHeld.drew
        refine takesH [0, 1, 2, 3, 4, 5, 6, 7, 8, 9, 10] ?_
        repeat
          refine takesH_one (v := ?_) ?_ ?_
          rotate_left
          · first | (refine Or.inr ⟨by rfl, ?_⟩; with_reducible rfl) | (refine Or.inl ⟨by rfl, ?_⟩; intro wx hSw; (try dsimp only at hSw); first | (go_simp; first | done | with_reducible rfl) | (obtain ⟨⟨_, _, _⟩, _⟩ := HC6.out _ hSw; go_simp; first | done | with_reducible rfl))
          try simp only [Act.put, List.getElem_toArray, List.getElem_cons_succ, List.getElem_cons_zero, List.setIfInBounds_toArray, List.set_cons_zero, List.set_cons_succ]
        refine takesH_nil ?_
        refine wpAnyH_done (by kernel_rfl) ?_ _
        obtain ⟨U, hU⟩ : ∃ U, U = w.drew.drew := ⟨_, rfl⟩
        have hkU : KeptQ q w U := by rw [hU]; exact (Kept.refl _ _).drew.drew
        have h2 : RY U q (some ⟨g, o, none⟩) n c l i 0 := by rw [hU]; exact H.out.drew.drew
        try rw [← hU]
        obtain ⟨_, c1, c2⟩ := h2.cells
        have f1 := h2.thaw 1
        have h3 : RY (U.setCell ⟨q, 1, none⟩ (.int .i64 ((i : Int) + 1))) q (some ⟨g, o, none⟩) n c l (i + 1) 0 := h2.put1 (i + 1)
        have k3 := hkU.on (Kept.setCell (fun k => k = q) U ⟨q, 1, none⟩ (.int .i64 ((i : Int) + 1)) rfl)
        have c5 := h3.cells.2.2
        have f5 := h3.thaw 2
        have H3 := Lib.hid h3; have K3 := Lib.hid k3
        clear hHeld h2 h3 k3 hU hkU
        go_wp2
        go_ret
        exact ⟨true, i + 1, 0, rfl, HIN.out, H3.out, K3.out, Or.inr ⟨1, _, HCONS.out, rfl, rfl, rfl⟩⟩
      · have e0 : (x == 0) = false := by simp; exact h0
        have e1 : (x == 1) = false := by simp; exact h1
        have n0 : (x != 0) = true := by simp; exact h0
        have n1 : (x != 1) = true := by simp; exact h1
        have nb0 : b ≠ 0 := fun e => h0 (by rw [← HX.out, e]; rfl)
        have nb1 : b ≠ 1 := fun e => h1 (by rw [← HX.out, e]; rfl)
        have HNB : Hid (false = decide (b = 1) ∧ (6 : Int) = deadF b) := Lib.hid ⟨(decide_eq_false nb1).symm, by unfold deadF; rw [if_neg (fun h => h.elim nb0 nb1)]⟩
        clear nb0 nb1
        go_wp2_with fail
        refine wp_region_held_drew (S := fun w' => Below w.heap.size w w') (by kernel_rfl) ?_ (fun hHeld => ?_)
        · exact hHeld.drew
        refine takesH [0, 1, 2, 3, 4, 5, 6, 7, 8, 9, 10] ?_
        repeat
          refine takesH_one (v := ?_) ?_ ?_
          rotate_left
          · first | (refine Or.inr ⟨by rfl, ?_⟩; with_reducible rfl) | (refine Or.inl ⟨by rfl, ?_⟩; intro wx hSw; (try dsimp only at hSw); first | (go_simp; first | done | with_reducible rfl) | (obtain ⟨⟨_, _, _⟩, _⟩ := HC6.out _ hSw; go_simp; first | done | with_reducible rfl))
          try simp only [Act.put, List.getElem_toArray, List.getElem_cons_succ, List.getElem_cons_zero, List.setIfInBounds_toArray, List.set_cons_zero, List.set_cons_succ]
        refine takesH_nil ?_
        refine wpAnyH_done (by kernel_rfl) ?_ _
        obtain ⟨U, hU⟩ : ∃ U, U = w.drew.drew := ⟨_, rfl⟩
        have hkU : KeptQ q w U := by rw [hU]; exact (Kept.refl _ _).drew.drew
        have h2 : RY U q (some ⟨g, o, none⟩) n c l i 0 := by rw [hU]; exact H.out.drew.drew
        try rw [← hU]
        obtain ⟨_, c1, c2⟩ := h2.cells
        have f1 := h2.thaw 1
        have h3 : RY (U.setCell ⟨q, 1, none⟩ (.int .i64 ((i : Int) + 1))) q (some ⟨g, o, none⟩) n c l (i + 1) 0 := h2.put1 (i + 1)
        have k3 := hkU.on (Kept.setCell (fun k => k = q) U ⟨q, 1, none⟩ (.int .i64 ((i : Int) + 1)) rfl)
        have c5 := h3.cells.2.2
        have f5 := h3.thaw 2
        have H3 := Lib.hid h3; have K3 := Lib.hid k3
        clear hHeld h2 h3 k3 hU hkU
        have H4 := Lib.hid (H3.out.put2 6)
        have K4 := Lib.hid (K3.out.on (Kept.setCell (fun k => k = q) _ ⟨q, 2, none⟩ (.int .i64 6) rfl))
        go_wp2
        go_ret
        exact ⟨false, i + 1, 6, rfl, HIN.out, H4.out, K4.out, Or.inr ⟨b, _, HCONS.out, rfl, HNB.out.1, HNB.out.2⟩⟩
end Go.Proofs.YthfanonjokpflaaGreat
set_option linter.unusedVariables false
set_option linter.unusedSimpArgs false
namespace Go.Proofs.YthfanonjokpflaaGreat
open Go Go.RowKit

theorem KeptQ.own {q p : Nat} {w w1 w2 : World} (h : KeptQ q w w1) (h' : Kept (fun k => k = p) w1 w2) (hp : w.heap.size ≤ p) : KeptQ q w w2 := Kept.trans h h' fun k hk => Or.inr (by subst hk; exact hp)
theorem KeptQ.new {q : Nat} {w w1 w2 : World} (h : KeptQ q w w1) (h' : Below w1.heap.size w1 w2) : KeptQ q w w2 := h.on (Kept.of_below h' _)
theorem Kept.atQ {F : Nat → Prop} {w w' : World} {k : Nat} {o : Obj} (h : Kept F w w') (hk : w.heap[k]? = some o) (hf : ¬ F k) : w'.heap[k]? = some o := (h.block k (Array.getElem?_eq_some_iff.1 hk).1 hf).trans hk
theorem Went.skipQ {α : Type} {p : Pz α} {q : Pz α} {l : Bs} {i k : Nat} {f : Int} {x : α} (h : Went q l (i + 1) 0 x k f) (hp : p (l.drop i) = q (l.drop (i + 1))) : Went p l i 0 x k f :=
  ⟨fun e => Nat.le_of_succ_le (h.le e), h.len, fun h => absurd rfl h, fun a b => hp.trans (h.ok a b), fun a b => hp.trans (h.no a b)⟩
theorem set4q_block {w : World} {q : Nat} {v0 v1 v2 v3 : Value} (h : w.heap[q]? = some (.cells #[v0, v1, v2, v3] 54 (0, 0))) (u0 u1 u2 u3 : Value) :
    ((((w.setCell ⟨q, 0, none⟩ u0).setCell ⟨q, 1, none⟩ u1).setCell ⟨q, 2, none⟩ u2).setCell ⟨q, 3, none⟩ u3).heap[q]? = some (.cells #[u0, u1, u2, u3] 54 (0, 0)) := by
  have m := Joins.block_setCell (i := 0) h u0
  simp only [List.setIfInBounds_toArray, List.set_cons_zero, List.set_cons_succ] at m
  have m1 := Joins.block_setCell (i := 1) m u1
  simp only [List.setIfInBounds_toArray, List.set_cons_zero, List.set_cons_succ] at m1
  have m2 := Joins.block_setCell (i := 2) m1 u2
  simp only [List.setIfInBounds_toArray, List.set_cons_zero, List.set_cons_succ] at m2
  have m3 := Joins.block_setCell (i := 3) m2 u3
  simp only [List.setIfInBounds_toArray, List.set_cons_zero, List.set_cons_succ] at m3
  exact m3
theorem one4q {w : World} {q : Nat} {v0 v1 v2 v3 : Value} (h : w.heap[q]? = some (.cells #[v0, v1, v2, v3] 54 (0, 0))) (u : Value) :
    (w.setCell ⟨q, 0, none⟩ u).heap[q]? = some (.cells #[u, v1, v2, v3] 54 (0, 0)) ∧ (w.setCell ⟨q, 1, none⟩ u).heap[q]? = some (.cells #[v0, u, v2, v3] 54 (0, 0)) ∧ (w.setCell ⟨q, 3, none⟩ u).heap[q]? = some (.cells #[v0, v1, v2, u] 54 (0, 0)) := by
  have m := Joins.block_setCell (i := 0) h u
  have m1 := Joins.block_setCell (i := 1) h u
  have m3 := Joins.block_setCell (i := 3) h u
  simp only [List.setIfInBounds_toArray, List.set_cons_zero, List.set_cons_succ] at m m1 m3
  exact ⟨m, m1, m3⟩
theorem kept_set4q {w : World} (q : Nat) (u0 u1 u2 u3 : Value) : Kept (fun k => k = q) w ((((w.setCell ⟨q, 0, none⟩ u0).setCell ⟨q, 1, none⟩ u1).setCell ⟨q, 2, none⟩ u2).setCell ⟨q, 3, none⟩ u3) :=
  (((Kept.setCell (fun k => k = q) w ⟨q, 0, none⟩ u0 rfl).trans (Kept.setCell (fun k => k = q) _ ⟨q, 1, none⟩ u1 rfl) fun _ h => Or.inl h).trans (Kept.setCell (fun k => k = q) _ ⟨q, 2, none⟩ u2 rfl) fun _ h => Or.inl h).trans (Kept.setCell (fun k => k = q) _ ⟨q, 3, none⟩ u3 rfl) fun _ h => Or.inl h
theorem tail_went {a ev : Int} (ha : a ≠ 0) {l : Bs} {j j2 j3 j4 : Nat} {f2 f3 f4 : Int} {v : ByteArray} (hj4 : j4 ≤ l.length)
    (hd : (l.drop j = [] ∧ false = false ∧ f2 = 8 ∧ j2 = j) ∨ (∃ b r, l.drop j = b :: r ∧ j2 = j + 1 ∧ false = decide (b = 1) ∧ f2 = deadF b))
    (h1 : Went txtP l j2 f2 v j3 f3) (h2 : Went numP l j3 f3 ev j4 f4) : Went (tailP a) l j 0 (⟨v, false, a, ev⟩ : Ce) j4 f4 := by
  have hcons : ∀ b r, l.drop j = b :: r → r = l.drop (j + 1) := fun b r hb => by
    rw [← List.drop_drop, hb]
    rfl
  rcases hd with ⟨h0, _, rfl, rfl⟩ | ⟨b, r, hb, rfl, hb1, rfl⟩
  · have e3 := h1.stays (by decide)
    have e4 := h2.stays (by rw [e3]; decide)
    rw [e4, e3]
    refine Went.bad _ 8 (by decide) hj4 ?_
    unfold tailP
    rw [if_neg ha, h0]
  · have hn1 : b ≠ 1 := fun e => by rw [e] at hb1; cases hb1
    by_cases h0 : b = 0
    · subst h0
      have hf : deadF 0 = 0 := rfl
      rw [hf] at h1
      have h3 := h1.bind (q := fun s => bindP numP fun e => retP (⟨s, false, a, e⟩ : Ce)) (h2.bind (q := fun e => retP (⟨v, false, a, e⟩ : Ce)) (Went.ret (⟨v, false, a, ev⟩ : Ce) h2.len f4))
      refine h3.skipQ ?_
      unfold tailP
      rw [if_neg ha, hb]
      dsimp only
      rw [if_pos rfl, hcons _ _ hb]
    · have hf : deadF b = 6 := by unfold deadF; rw [if_neg (fun h => h.elim h0 hn1)]
      rw [hf] at h1
      have e3 := h1.stays (by decide)
      have e4 := h2.stays (by rw [e3]; decide)
      rw [e4, e3]
      refine Went.bad _ 6 (by decide) hj4 ?_
      unfold tailP
      rw [if_neg ha, hb]
      dsimp only
      rw [if_neg h0, if_neg hn1]
set_option maxRecDepth 8000 in
set_option maxHeartbeats 2000000 in
theorem ycell (q i n c : Nat) (e : Int) (A : Option Addr) (l : Bs) (w : World) (h : RY w q A n c l i e) (hi : i ≤ n) (hs : n ≤ 1000000000) :
    Calls Tryz.prog 97 #[.pointer (some ⟨q, 0, none⟩)] w fun x w' => ∃ (y : Ce) (j : Nat) (f : Int), x = .returned (.agg #[.string y.s, .bool y.d, .int .i64 y.a, .int .i64 y.e]) ∧ y.s.size ≤ n ∧ j ≤ n ∧ RY w' q A n c l j f ∧ KeptQ q w w' ∧ Went cellP l i e y j f := by
  have hqw := h.lt
  have hl := h.len
  have bz := (Below.refl w.heap.size w).alloc (Nat.le_refl _) (.cells #[.string ⟨#[]⟩, .bool false, .int .i64 0, .int .i64 0] 54)
  have hz := heap_alloc_new w (.cells #[.string ⟨#[]⟩, .bool false, .int .i64 0, .int .i64 0] 54)
  have h0 := h.below bz
  obtain ⟨V, hV⟩ : ∃ V, V = w.alloc (.cells #[.string ⟨#[]⟩, .bool false, .int .i64 0, .int .i64 0] 54) := ⟨_, rfl⟩
  have hVs : V.heap.size = w.heap.size + 1 := by rw [hV]; simp
  rw [← hV] at bz hz h0
  have H0 := Lib.hid h0; have HZ0 := Lib.hid hz; have BZ := Lib.hid bz; have HVS := Lib.hid hVs; have HQ := Lib.hid hqw; have HS := Lib.hid hs; have HL := Lib.hid hl
  clear h bz hz h0 hVs hqw hs hl
  go_enter Tryz.func97, Tryz.ntmps97
  go_wp2_with fail
  rw [← hV]
  clear hV
  refine (ystamp q i n c e A l _ H0.out hi HS.out).mono ?_
  rintro x w1 ⟨a, j, f, rfl, ha, hf0, hj, h1, k1, hw⟩
  have hw1s : V.heap.size ≤ w1.heap.size := k1.size
  have hz1 := Kept.atQ k1 HZ0.out (by have := HQ.out; omega)
  have ba := (Below.refl w1.heap.size w1).alloc (Nat.le_refl _) (.cells #[.string ⟨#[]⟩, .bool false, .int .i64 a, .int .i64 0] 54)
  have hpu := heap_alloc_new w1 (.cells #[.string ⟨#[]⟩, .bool false, .int .i64 a, .int .i64 0] 54)
  have hzu := (ba.block w.heap.size (by have := HVS.out; omega)).trans hz1
  have hru := h1.below ba
  have hku : KeptQ q w (w1.alloc (.cells #[.string ⟨#[]⟩, .bool false, .int .i64 a, .int .i64 0] 54)) := KeptQ.new (KeptQ.on (Kept.of_below BZ.out _) k1) ba
  have hus : (w1.alloc (.cells #[.string ⟨#[]⟩, .bool false, .int .i64 a, .int .i64 0] 54)).heap.size = w1.heap.size + 1 := by simp
  have HSZ : Hid ((⟨#[]⟩ : ByteArray).size ≤ n) := Lib.hid (Nat.zero_le _)
  have l2 := cell_at (i := 2) hpu rfl
  by_cases ha0 : a = 0
  · have e1 : (a == 0) = true := by rw [ha0]; rfl
    have hw2 : Went cellP l i e (⟨⟨#[]⟩, false, a, 0⟩ : Ce) j f := hw.bind ((Went.ret (⟨⟨#[]⟩, false, a, 0⟩ : Ce) hw.len f).same fun _ => by rw [ha0]; rfl)
    have HW := Lib.hid hw2; have HP := Lib.hid hpu; have HZ := Lib.hid hzu; have HRB := Lib.hid hru; have HK := Lib.hid hku; have HJN := Lib.hid hj
    clear hw hw2 hpu hzu hru hku hus h1 k1 hz1 ba hi hw1s ha0 hf0
    have k0 := cell_at (i := 0) HP.out rfl
    have k1 := cell_at (i := 1) HP.out rfl
    have k2 := cell_at (i := 2) HP.out rfl
    have k3 := cell_at (i := 3) HP.out rfl
    have z0 := cell_at (i := 0) HZ.out rfl
    have z1 := cell_at (i := 1) HZ.out rfl
    have z2 := cell_at (i := 2) HZ.out rfl
    have z3 := cell_at (i := 3) HZ.out rfl
    have y0 := thawed_at (i := 0) HZ.out
    have y1 := thawed_at (i := 1) HZ.out
    have y2 := thawed_at (i := 2) HZ.out
    have y3 := thawed_at (i := 3) HZ.out
    have m9 := set4q_block HZ.out (.string (⟨#[]⟩ : ByteArray)) (.bool false) (.int .i64 a) (.int .i64 0)
    have n9 := kept_set4q (w := (w1.alloc (.cells #[.string ⟨#[]⟩, .bool false, .int .i64 a, .int .i64 0] 54))) w.heap.size (.string (⟨#[]⟩ : ByteArray)) (.bool false) (.int .i64 a) (.int .i64 0)
    have K9 := Lib.hid (HK.out.own n9 (Nat.le_refl _))
    have R9 := Lib.hid (RY.other HRB.out n9 HQ.out)
    clear n9
    go_wp2
    generalize (((World.setCell (w1.alloc (.cells #[.string ⟨#[]⟩, .bool false, .int .i64 a, .int .i64 0] 54)) ⟨w.heap.size, 0, none⟩ (.string (⟨#[]⟩ : ByteArray))).setCell ⟨w.heap.size, 1, none⟩ (.bool false)).setCell ⟨w.heap.size, 2, none⟩ (.int .i64 a)).setCell ⟨w.heap.size, 3, none⟩ (.int .i64 0) = w9 at m9 K9 R9 ⊢
    clear z0 z1 z2 z3 y0 y1 y2 y3 k0 k1 k2 k3
    have q0 := cell_at (i := 0) m9 rfl
    have q1 := cell_at (i := 1) m9 rfl
    have q2 := cell_at (i := 2) m9 rfl
    have q3 := cell_at (i := 3) m9 rfl
    refine bodyPost_ret (v := .agg #[.string (⟨#[]⟩ : ByteArray), .bool false, .int .i64 a, .int .i64 0]) ?_ rfl ?_
    · simp [results, Tryz.results97, go_sem, q0, q1, q2, q3]
    · exact ⟨⟨(⟨#[]⟩ : ByteArray), false, a, 0⟩, _, _, rfl, HSZ.out, HJN.out, R9.out, K9.out, HW.out⟩
  · have e1 : (a == 0) = false := by simp; exact ha0
    have hf : f = 0 := Decidable.byContradiction fun hf => ha0 (hf0 hf)
    subst hf
    obtain ⟨U, hU⟩ : ∃ U, U = w1.alloc (.cells #[.string ⟨#[]⟩, .bool false, .int .i64 a, .int .i64 0] 54) := ⟨_, rfl⟩
    rw [← hU] at hpu hzu hru hku hus
    have HPU := Lib.hid hpu; have HZU := Lib.hid hzu; have HRU := Lib.hid hru; have HKU := Lib.hid hku; have HUS := Lib.hid hus; have HWN := Lib.hid hw; have HA := Lib.hid ha; have HA0 := Lib.hid ha0
    have HWQ : Hid (w.heap.size < w1.heap.size ∧ q < w1.heap.size) := Lib.hid ⟨by have := HVS.out; omega, h1.lt⟩
    have HJ := Lib.hid hj
    clear hw hpu hzu hru hku hus h1 k1 hz1 ba hi hw1s ha hj hf0
    go_wp2_with fail
    try rw [← hU]
    clear hU l2
    refine (ydead q j n c A l U HRU.out HJ.out HS.out).mono ?_
    rintro x w2 ⟨d, j2, f2, rfl, hj2, h2, k2, hd⟩
    have hp2 := Kept.atQ k2 HPU.out (by have := HWQ.out; omega)
    have hz2 := Kept.atQ k2 HZU.out (by have := HQ.out; omega)
    have hc1 := cell_at (i := 1) hp2 rfl
    have hf1 := thawed_at (i := 1) hp2
    have m1 := (one4q hp2 (.bool d)).2.1
    have n1 := Kept.setCell (fun k => k = w1.heap.size) w2 ⟨w1.heap.size, 1, none⟩ (.bool d) rfl
    have HP3 := Lib.hid m1
    have HZ3 := Lib.hid (Kept.atQ n1 hz2 (by have := HWQ.out; omega))
    have HR3 := Lib.hid (RY.other h2 n1 HWQ.out.2)
    have HK3 := Lib.hid ((HKU.out.on k2).own n1 (by have := HWQ.out; omega))
    have HD := Lib.hid hd; have HJ2 := Lib.hid hj2
    clear hp2 hz2 m1 n1 h2 k2 hd hj2 HPU HZU HRU HKU
    cases d with
    | true =>
      have hw2 : Went cellP l i e (⟨⟨#[]⟩, true, a, 0⟩ : Ce) j2 f2 := by
        refine HWN.out.bind ?_
        rcases HD.out with ⟨_, h, _⟩ | ⟨b, r, hb, rfl, hb1, rfl⟩
        · cases h
        · have hb1 : b = 1 := of_decide_eq_true hb1.symm
          subst hb1
          have hf : deadF 1 = 0 := rfl
          rw [hf]
          refine ⟨fun _ => Nat.le_succ _, by have := HL.out; have := HJ2.out; omega, fun h => absurd rfl h, fun _ _ => ?_, fun _ h => absurd rfl h⟩
          have hr : r = l.drop (j + 1) := by rw [← List.drop_drop, hb]; rfl
          unfold tailP
          rw [if_neg HA0.out, hb]
          dsimp only
          rw [if_neg (by decide), if_pos rfl, hr]
      have HW := Lib.hid hw2
      clear hw2 HD
      have HP := HP3; have HZ := HZ3; have HRB := HR3; have HK := HK3; have HJN := HJ2
      have k0 := cell_at (i := 0) HP.out rfl
      have k1 := cell_at (i := 1) HP.out rfl
      have k2 := cell_at (i := 2) HP.out rfl
      have k3 := cell_at (i := 3) HP.out rfl
      have z0 := cell_at (i := 0) HZ.out rfl
      have z1 := cell_at (i := 1) HZ.out rfl
      have z2 := cell_at (i := 2) HZ.out rfl
      have z3 := cell_at (i := 3) HZ.out rfl
      have y0 := thawed_at (i := 0) HZ.out
      have y1 := thawed_at (i := 1) HZ.out
      have y2 := thawed_at (i := 2) HZ.out
      have y3 := thawed_at (i := 3) HZ.out
      have m9 := set4q_block HZ.out (.string (⟨#[]⟩ : ByteArray)) (.bool true) (.int .i64 a) (.int .i64 0)
      have n9 := kept_set4q (w := (w2.setCell ⟨w1.heap.size, 1, none⟩ (.bool true))) w.heap.size (.string (⟨#[]⟩ : ByteArray)) (.bool true) (.int .i64 a) (.int .i64 0)
      have K9 := Lib.hid (HK.out.own n9 (Nat.le_refl _))
      have R9 := Lib.hid (RY.other HRB.out n9 HQ.out)
      clear n9
      go_wp2
      generalize (((World.setCell (w2.setCell ⟨w1.heap.size, 1, none⟩ (.bool true)) ⟨w.heap.size, 0, none⟩ (.string (⟨#[]⟩ : ByteArray))).setCell ⟨w.heap.size, 1, none⟩ (.bool true)).setCell ⟨w.heap.size, 2, none⟩ (.int .i64 a)).setCell ⟨w.heap.size, 3, none⟩ (.int .i64 0) = w9 at m9 K9 R9 ⊢
      clear z0 z1 z2 z3 y0 y1 y2 y3 k0 k1 k2 k3
      have q0 := cell_at (i := 0) m9 rfl
      have q1 := cell_at (i := 1) m9 rfl
      have q2 := cell_at (i := 2) m9 rfl
      have q3 := cell_at (i := 3) m9 rfl
      refine bodyPost_ret (v := .agg #[.string (⟨#[]⟩ : ByteArray), .bool true, .int .i64 a, .int .i64 0]) ?_ rfl ?_
      · simp [results, Tryz.results97, go_sem, q0, q1, q2, q3]
      · exact ⟨⟨(⟨#[]⟩ : ByteArray), true, a, 0⟩, _, _, rfl, HSZ.out, HJN.out, R9.out, K9.out, HW.out⟩
    | false =>
      go_wp2_with fail
      clear hc1 hf1
      obtain ⟨X, hX⟩ : ∃ X, X = w2.setCell ⟨w1.heap.size, 1, none⟩ (.bool false) := ⟨_, rfl⟩
      rw [← hX] at HP3 HZ3 HR3 HK3 ⊢
      clear hX
      refine (ytext q j2 n c f2 A l X HR3.out HJ2.out HS.out).mono ?_
      rintro x w3 ⟨v, j3, f3, rfl, hvs, hj3, h3, k3, hw3⟩
      have hp4 := Kept.atQ k3 HP3.out (by have := HWQ.out; omega)
      have hz4 := Kept.atQ k3 HZ3.out (by have := HQ.out; omega)
      have hc0 := cell_at (i := 0) hp4 rfl
      have hf0 := thawed_at (i := 0) hp4
      have m0 := (one4q hp4 (.string v)).1
      have n0 := Kept.setCell (fun k => k = w1.heap.size) w3 ⟨w1.heap.size, 0, none⟩ (.string v) rfl
      have HP4 := Lib.hid m0
      have HZ4 := Lib.hid (Kept.atQ n0 hz4 (by have := HWQ.out; omega))
      have HR4 := Lib.hid (RY.other h3 n0 HWQ.out.2)
      have HK4 := Lib.hid ((HK3.out.on k3).own n0 (by have := HWQ.out; omega))
      have HW3 := Lib.hid hw3; have HJ3 := Lib.hid hj3
      have HSZ2 := Lib.hid hvs
      clear hp4 hz4 m0 n0 h3 k3 hw3 hj3 hvs HP3 HZ3 HR3 HK3
      go_wp2_with fail
      clear hc0 hf0
      obtain ⟨Y, hY⟩ : ∃ Y, Y = w3.setCell ⟨w1.heap.size, 0, none⟩ (.string v) := ⟨_, rfl⟩
      rw [← hY] at HP4 HZ4 HR4 HK4 ⊢
      clear hY
      refine (ystamp q j3 n c f3 A l Y HR4.out HJ3.out HS.out).mono ?_
      rintro x w4 ⟨ev, j4, f4, rfl, _, _, hj4, h4, k4, hw4⟩
      have hp5 := Kept.atQ k4 HP4.out (by have := HWQ.out; omega)
      have hz5 := Kept.atQ k4 HZ4.out (by have := HQ.out; omega)
      have hc3 := cell_at (i := 3) hp5 rfl
      have hf3 := thawed_at (i := 3) hp5
      have m3 := (one4q hp5 (.int .i64 ev)).2.2
      have n3 := Kept.setCell (fun k => k = w1.heap.size) w4 ⟨w1.heap.size, 3, none⟩ (.int .i64 ev) rfl
      have HP := Lib.hid m3
      have HZ := Lib.hid (Kept.atQ n3 hz5 (by have := HWQ.out; omega))
      have HRB := Lib.hid (RY.other h4 n3 HWQ.out.2)
      have HK := Lib.hid ((HK4.out.on k4).own n3 (by have := HWQ.out; omega))
      have HW : Hid (Went cellP l i e (⟨v, false, a, ev⟩ : Ce) j4 f4) := Lib.hid (HWN.out.bind (tail_went HA0.out (by have := HL.out; omega) (HD.out.imp (fun h => ⟨h.1, rfl, h.2.2⟩) id) HW3.out hw4))
      have HJN := Lib.hid hj4
      clear hp5 hz5 m3 n3 h4 k4 hw4 hj4 HP4 HZ4 HR4 HK4 HW3 HWN HD HSZ
      have HSZ := HSZ2
      have k0 := cell_at (i := 0) HP.out rfl
      have k1 := cell_at (i := 1) HP.out rfl
      have k2 := cell_at (i := 2) HP.out rfl
      have k3 := cell_at (i := 3) HP.out rfl
      have z0 := cell_at (i := 0) HZ.out rfl
      have z1 := cell_at (i := 1) HZ.out rfl
      have z2 := cell_at (i := 2) HZ.out rfl
      have z3 := cell_at (i := 3) HZ.out rfl
      have y0 := thawed_at (i := 0) HZ.out
      have y1 := thawed_at (i := 1) HZ.out
      have y2 := thawed_at (i := 2) HZ.out
      have y3 := thawed_at (i := 3) HZ.out
      have m9 := set4q_block HZ.out (.string v) (.bool false) (.int .i64 a) (.int .i64 ev)
      have n9 := kept_set4q (w := (w4.setCell ⟨w1.heap.size, 3, none⟩ (.int .i64 ev))) w.heap.size (.string v) (.bool false) (.int .i64 a) (.int .i64 ev)
      have K9 := Lib.hid (HK.out.own n9 (Nat.le_refl _))
      have R9 := Lib.hid (RY.other HRB.out n9 HQ.out)
      clear n9
      go_wp2
      generalize (((World.setCell (w4.setCell ⟨w1.heap.size, 3, none⟩ (.int .i64 ev)) ⟨w.heap.size, 0, none⟩ (.string v)).setCell ⟨w.heap.size, 1, none⟩ (.bool false)).setCell ⟨w.heap.size, 2, none⟩ (.int .i64 a)).setCell ⟨w.heap.size, 3, none⟩ (.int .i64 ev) = w9 at m9 K9 R9 ⊢
      clear z0 z1 z2 z3 y0 y1 y2 y3 k0 k1 k2 k3
      have q0 := cell_at (i := 0) m9 rfl
      have q1 := cell_at (i := 1) m9 rfl
      have q2 := cell_at (i := 2) m9 rfl
      have q3 := cell_at (i := 3) m9 rfl
      refine bodyPost_ret (v := .agg #[.string v, .bool false, .int .i64 a, .int .i64 ev]) ?_ rfl ?_
      · simp [results, Tryz.results97, go_sem, q0, q1, q2, q3]
      · exact ⟨⟨v, false, a, ev⟩, _, _, rfl, HSZ.out, HJN.out, R9.out, K9.out, HW.out⟩
end Go.Proofs.YthfanonjokpflaaGreat
set_option linter.unusedVariables false
set_option linter.unusedSimpArgs false
namespace Go.Proofs.YthfanonjokpflaaGreat
open Go Go.RowKit

theorem Went.any {α : Type} {p : Pz α} {l : Bs} {i j : Nat} {e f : Int} {x : α} (h : Went p l i e x j f) (hf : f ≠ 0) (y : α) : Went p l i e y j f := ⟨fun e => absurd e hf, h.len, h.stays, fun _ e => absurd e hf, h.no⟩
theorem own_geQ {w : World} {b n size : Nat} {e : TypeId} {v : Value} {xs : List Value} (h : w.ownsRow b e size v n xs) : ∀ g, v.ownBlock = some g → b ≤ g := fun g hg => (World.ownsRow.lt h g hg).1
theorem KeptQ.grown {q : Nat} {w w1 w2 : World} {n size : Nat} {e : TypeId} {v : Value} {xs : List Value} (h : KeptQ q w w1) (ho : w1.ownsRow w.heap.size e size v n xs) (hg : w1.grownBy w2 v.ownBlock) : KeptQ q w w2 :=
  Kept.trans h (Kept.of_grown (F := fun k => v.ownBlock = some k) hg fun k hk => hk) fun k hk => Or.inr (own_geQ ho k hk)
theorem own_neQ {w : World} {b n size : Nat} {e e' : TypeId} {v : Value} {xs : List Value} {r : Nat} {cs : Array Value} (h : w.ownsRow b e size v n xs) (hr : w.heap[r]? = some (.cells cs e' (0, 0))) (he : e ≠ e') : ∀ g, v.ownBlock = some g → g ≠ r := fun g hg hgr => by
  subst hgr
  obtain ⟨cs', h1⟩ := own_tag h g hg
  rw [h1] at hr
  injection hr with hr
  injection hr with _ h2
  exact he h2
/-- Own rows stay when another type's block is written. -/
theorem own_keptQ {w w' : World} {b n size : Nat} {e e' : TypeId} {v : Value} {xs : List Value} {r : Nat} {cs : Array Value} (h : w.ownsRow b e size v n xs) (hk : Kept (fun k => k = r) w w') (hr : w.heap[r]? = some (.cells cs e' (0, 0))) (he : e ≠ e') : w'.ownsRow b e size v n xs :=
  own_kept h fun g hg => hk.block g (own_block_lt h g hg) fun hf => own_neQ h hr he g hg hf
/-- A reader stays when own rows grow. -/
theorem RY.grown {w w' : World} {q n c i m size : Nat} {A : Option Addr} {l : Bs} {e : Int} {ty : TypeId} {v : Value} {xs : List Value} {B : Nat} (h : RY w q A n c l i e) (ho : w.ownsRow B ty size v m xs) (hq : q < B) (hg : w.grownBy w' v.ownBlock) : RY w' q A n c l i e :=
  have hk : ∀ k, k ≤ q → w'.heap[k]? = w.heap[k]? := fun k hk => hg.block k (by have := h.lt; omega) fun hp => by
    have := own_geQ ho k hp.symm
    omega
  ⟨(hk q (Nat.le_refl _)).trans h.blk, h.rd.keep fun p hp => by
    have := hk p.block (by omega)
    unfold World.cell?
    rw [this], h.cap, h.max, h.nil⟩
theorem set5_block {w : World} {q : Nat} {v0 v1 v2 v3 v4 : Value} {T : TypeId} (h : w.heap[q]? = some (.cells #[v0, v1, v2, v3, v4] T (0, 0))) (u0 u1 u2 u3 u4 : Value) :
    (((((w.setCell ⟨q, 0, none⟩ u0).setCell ⟨q, 1, none⟩ u1).setCell ⟨q, 2, none⟩ u2).setCell ⟨q, 3, none⟩ u3).setCell ⟨q, 4, none⟩ u4).heap[q]? = some (.cells #[u0, u1, u2, u3, u4] T (0, 0)) := by
  have m := Joins.block_setCell (i := 0) h u0
  simp only [List.setIfInBounds_toArray, List.set_cons_zero, List.set_cons_succ] at m
  have m1 := Joins.block_setCell (i := 1) m u1
  simp only [List.setIfInBounds_toArray, List.set_cons_zero, List.set_cons_succ] at m1
  have m2 := Joins.block_setCell (i := 2) m1 u2
  simp only [List.setIfInBounds_toArray, List.set_cons_zero, List.set_cons_succ] at m2
  have m3 := Joins.block_setCell (i := 3) m2 u3
  simp only [List.setIfInBounds_toArray, List.set_cons_zero, List.set_cons_succ] at m3
  have m4 := Joins.block_setCell (i := 4) m3 u4
  simp only [List.setIfInBounds_toArray, List.set_cons_zero, List.set_cons_succ] at m4
  exact m4
theorem kept_set5 {w : World} (q : Nat) (u0 u1 u2 u3 u4 : Value) : Kept (fun k => k = q) w (((((w.setCell ⟨q, 0, none⟩ u0).setCell ⟨q, 1, none⟩ u1).setCell ⟨q, 2, none⟩ u2).setCell ⟨q, 3, none⟩ u3).setCell ⟨q, 4, none⟩ u4) :=
  (kept_set4q q u0 u1 u2 u3).trans (Kept.setCell (fun k => k = q) _ ⟨q, 4, none⟩ u4 rfl) fun _ h => Or.inl h
set_option maxRecDepth 8000 in
set_option maxHeartbeats 2000000 in
theorem ycol (q i n c : Nat) (e : Int) (A : Option Addr) (l : Bs) (w : World) (h : RY w q A n c l i e) (hi : i ≤ n) (hs : n ≤ 1000000000) :
    Calls Tryz.prog 99 #[.pointer (some ⟨q, 0, none⟩)] w fun x w' => ∃ (y : ByteArray × Ce) (j : Nat) (f : Int), x = .returned (.agg #[.string y.1, .string y.2.s, .bool y.2.d, .int .i64 y.2.a, .int .i64 y.2.e]) ∧ y.1.size ≤ n ∧ y.2.s.size ≤ n ∧ j ≤ n ∧ RY w' q A n c l j f ∧ KeptQ q w w' ∧ Went colP l i e y j f := by
  have hqw := h.lt
  have bz := (Below.refl w.heap.size w).alloc (Nat.le_refl _) (.cells #[.string ⟨#[]⟩, .string ⟨#[]⟩, .bool false, .int .i64 0, .int .i64 0] 99)
  have hz := heap_alloc_new w (.cells #[.string ⟨#[]⟩, .string ⟨#[]⟩, .bool false, .int .i64 0, .int .i64 0] 99)
  have h0 := h.below bz
  obtain ⟨V, hV⟩ : ∃ V, V = w.alloc (.cells #[.string ⟨#[]⟩, .string ⟨#[]⟩, .bool false, .int .i64 0, .int .i64 0] 99) := ⟨_, rfl⟩
  rw [← hV] at bz hz h0
  have H0 := Lib.hid h0; have HZ0 := Lib.hid hz; have BZ := Lib.hid bz; have HQ := Lib.hid hqw; have HS := Lib.hid hs
  clear h bz hz h0 hqw hs
  go_enter Tryz.func99, Tryz.ntmps99
  go_wp2_with fail
  rw [← hV]
  clear hV
  refine (ytext q i n c e A l _ H0.out hi HS.out).mono ?_
  rintro x w1 ⟨v, j1, f1, rfl, hv, hj1, h1, k1, hw1⟩
  have H1 := Lib.hid h1; have HZ1 := Lib.hid (Kept.atQ k1 HZ0.out (by have := HQ.out; omega)); have K1 := Lib.hid (KeptQ.on (Kept.of_below BZ.out _) k1); have HW1 := Lib.hid hw1; have HV := Lib.hid hv; have HJ1 := Lib.hid hj1
  clear h1 k1 hw1 hv hj1 hi
  go_wp2_with fail
  refine (ycell q j1 n c f1 A l _ H1.out HJ1.out HS.out).mono ?_
  rintro x w2 ⟨⟨cs, cd, ca, ce⟩, j2, f2, rfl, hcs, hj2, h2, k2, hw2⟩
  have HZ2 := Lib.hid (Kept.atQ k2 HZ1.out (by have := HQ.out; omega))
  have z0 := cell_at (i := 0) HZ2.out rfl
  have z1 := cell_at (i := 1) HZ2.out rfl
  have z2 := cell_at (i := 2) HZ2.out rfl
  have z3 := cell_at (i := 3) HZ2.out rfl
  have z4 := cell_at (i := 4) HZ2.out rfl
  have y0 := thawed_at (i := 0) HZ2.out
  have y1 := thawed_at (i := 1) HZ2.out
  have y2 := thawed_at (i := 2) HZ2.out
  have y3 := thawed_at (i := 3) HZ2.out
  have y4 := thawed_at (i := 4) HZ2.out
  have m9 := set5_block HZ2.out (.string v) (.string cs) (.bool cd) (.int .i64 ca) (.int .i64 ce)
  have n9 := kept_set5 (w := w2) w.heap.size (.string v) (.string cs) (.bool cd) (.int .i64 ca) (.int .i64 ce)
  have R9 := Lib.hid (RY.other h2 n9 HQ.out)
  have K9 := Lib.hid ((K1.out.on k2).own n9 (Nat.le_refl _))
  have HW : Hid (Went colP l i e ((v, ⟨cs, cd, ca, ce⟩) : ByteArray × Ce) j2 f2) := Lib.hid (HW1.out.bind (hw2.bind (Went.ret _ hw2.len f2)))
  have HC := Lib.hid hcs; have HJ := Lib.hid hj2
  clear n9 h2 k2 hw2 hcs hj2
  go_wp2
  generalize ((((World.setCell w2 ⟨w.heap.size, 0, none⟩ (.string v)).setCell ⟨w.heap.size, 1, none⟩ (.string cs)).setCell ⟨w.heap.size, 2, none⟩ (.bool cd)).setCell ⟨w.heap.size, 3, none⟩ (.int .i64 ca)).setCell ⟨w.heap.size, 4, none⟩ (.int .i64 ce) = w9 at m9 K9 R9 ⊢
  clear z0 z1 z2 z3 z4 y0 y1 y2 y3 y4
  have q0 := cell_at (i := 0) m9 rfl
  have q1 := cell_at (i := 1) m9 rfl
  have q2 := cell_at (i := 2) m9 rfl
  have q3 := cell_at (i := 3) m9 rfl
  have q4 := cell_at (i := 4) m9 rfl
  refine bodyPost_ret (v := .agg #[.string v, .string cs, .bool cd, .int .i64 ca, .int .i64 ce]) ?_ rfl ?_
  · simp [results, Tryz.results99, go_sem, q0, q1, q2, q3, q4]
  · exact ⟨(v, ⟨cs, cd, ca, ce⟩), j2, f2, rfl, HV.out, HC.out, HJ.out, R9.out, K9.out, HW.out⟩
end Go.Proofs.YthfanonjokpflaaGreat
set_option linter.unusedVariables false
set_option linter.unusedSimpArgs false
namespace Go.Proofs.YthfanonjokpflaaGreat
open Go Go.RowKit

/-- Columns of one's own. -/
def OwnKQ (w0 w : World) (A : Option Addr) (t c : Nat) (K : Cols) : Prop := w.ownsRow w0.heap.size 99 5 (.slice A t c) t (kRow K)
theorem OwnKQ.on {w0 w w' : World} {A : Option Addr} {t c : Nat} {K : Cols} (h : OwnKQ w0 w A t c K) (hb : Below w.heap.size w w') : OwnKQ w0 w' A t c K := own_below h hb
theorem OwnKQ.kept1 {w0 w w' : World} {A : Option Addr} {t c r : Nat} {K : Cols} {cs : Array Value} {e : TypeId} (h : OwnKQ w0 w A t c K) (hk : Kept (fun k => k = r) w w') (hr : w.heap[r]? = some (.cells cs e (0, 0))) (he : 99 ≠ e) : OwnKQ w0 w' A t c K := own_keptQ h hk hr he
set_option maxRecDepth 8000 in
set_option maxHeartbeats 2000000 in
theorem ycols (q i n c : Nat) (e : Int) (A : Option Addr) (l : Bs) (w : World) (h : RY w q A n c l i e) (hi : i ≤ n) (hs : n ≤ 900000) :
    Calls Tryz.prog 98 #[.pointer (some ⟨q, 0, none⟩), .func (.func 99) #[] #[]] w fun x w' => ∃ (Ks : List (ByteArray × Ce)) (A' : Option Addr) (m c' j : Nat) (f : Int), x = .returned (.slice A' m c') ∧ OwnKQ w w' A' m c' Ks ∧ Ks.length = m ∧ m ≤ n ∧ j ≤ n ∧ RY w' q A n c l j f ∧ KeptQ q w w' ∧ Went (listP colP) l i e (Ks) j f := by
  have hqw := h.lt
  have HQ := Lib.hid hqw; have HS := Lib.hid hs
  go_enter Tryz.func98, Tryz.ntmps98
  go_wp2_with fail
  refine (ycount q i n c e A l w h hi (by omega)).mono ?_
  rintro x w1 ⟨m, j0, f0, rfl, hm, hf00, hj0, h1, k1, hw1⟩
  have hmn : m ≤ n := by omega
  have HM := Lib.hid hmn; have HF0 := Lib.hid hf00; have HJ0 := Lib.hid hj0; have H1 := Lib.hid h1; have K1 := Lib.hid k1; have HW1 := Lib.hid hw1
  clear hm hf00 hj0 h1 k1 hw1 h hi hs hqw hmn
  go_wp2_with fail
  go_loopw [5, 9] (fun a i' wr => ∃ (t : Nat) (Ks : List (ByteArray × Ce)) (A' : Option Addr) (c' j : Nat) (f : Int), a = .slice A' t c' ∧ i' = .int .i64 t ∧ Ks.length = t ∧ t ≤ m ∧ (f ≠ 0 → m = 0) ∧ j ≤ n ∧ RY wr q A n c l j f ∧ KeptQ q w wr ∧ (OwnKQ w wr A' t c' Ks) ∧ Loops colP l m j0 f0 (Ks) j f) (fun _ i' _ => m - (intOf i').toNat)
  case atStart => exact ⟨0, [], none, 0, j0, f0, rfl, rfl, rfl, Nat.zero_le _, HF0.out, HJ0.out, H1.out, K1.out, own_nilK _ _, Loops.start _ _ HW1.out.len _⟩
  case round =>
    obtain ⟨t, Ks, A3, c3, j, f, rfl, rfl, ht, htm, hfm, hj, hr, hk, hmine, hl⟩ := hrel
    have i8 : m ≤ 900000 := by have := HM.out; have := HS.out; omega
    have HRY := Lib.hid hr; have HKR := Lib.hid hk; have HLR := Lib.hid hl; have HT := Lib.hid ht; have HJ := Lib.hid hj; have HFM := Lib.hid hfm
    clear hr hk hl ht hj hfm
    by_cases hlt : t < m
    · have i1 : (t : Int) < m := by omega
      have hf : f = 0 := Decidable.byContradiction fun hf => by have := HFM.out hf; omega
      subst hf
      have HMI := Lib.hid hmine
      clear hmine
      go_wp2_with fail
      refine (ycol q j n c 0 A l wr HRY.out HJ.out (by have := HS.out; omega)).mono ?_
      rintro x w2 ⟨y, j2, f2, rfl, hy1, hy2, hj2, h2, k2, hw2⟩
      have hmine := HMI.out
      have hm2 := hmine.kept1 k2 HRY.out.blk (by decide)
      have hk2 := HKR.out.on k2
      have ba := (Below.refl w2.heap.size w2).alloc (Nat.le_refl _) (.cells #[.string y.1, .string y.2.s, .bool y.2.d, .int .i64 y.2.a, .int .i64 y.2.e] 99)
      have hstep := HLR.out.step (by rw [HT.out]; exact hlt) hw2
      by_cases hf2 : f2 = 0
      · subst hf2
        obtain ⟨U, hU⟩ : ∃ U, U = w2.alloc (.cells #[.string y.1, .string y.2.s, .bool y.2.d, .int .i64 y.2.a, .int .i64 y.2.e] 99) := ⟨_, rfl⟩
        have ba2 := (Below.refl (w2.alloc (.cells #[.string y.1, .string y.2.s, .bool y.2.d, .int .i64 y.2.a, .int .i64 y.2.e] 99)).heap.size (w2.alloc (.cells #[.string y.1, .string y.2.s, .bool y.2.d, .int .i64 y.2.a, .int .i64 y.2.e] 99))).alloc (Nat.le_refl _) (.cells #[.string y.1, .string y.2.s, .bool y.2.d, .int .i64 y.2.a, .int .i64 y.2.e] 99)
        have hm8 := (hm2.on ba).on ba2
        have h8 := (h2.below ba).below ba2
        have hk8 := (hk2.new ba).new ba2
        have hsz8 : (w2.alloc (.cells #[.string y.1, .string y.2.s, .bool y.2.d, .int .i64 y.2.a, .int .i64 y.2.e] 99)).heap.size = w2.heap.size + 1 := by simp
        have hrd8 := RdK.one (w2.alloc (.cells #[.string y.1, .string y.2.s, .bool y.2.d, .int .i64 y.2.a, .int .i64 y.2.e] 99)) y (w2.heap.size + 1) (by simp)
        try rw [hsz8] at hrd8
        have HRD8 := Lib.hid hrd8
        clear hU hsz8 hrd8
        have HM8 := Lib.hid hm8; have H8 := Lib.hid h8; have HK8 := Lib.hid hk8; have HST := Lib.hid hstep; have HJ2 := Lib.hid hj2
        obtain ⟨_, _, _⟩ := (h2.below ba).cells
        clear hm8 h8 hk8 hstep hj2 hw2 h2 k2 hm2 hk2 hmine hy1 hy2 ba ba2
        go_wp2_with (at_builtin; refine list_ex rfl (.tmp 19) (.tmp 21) _ _ rfl (.slice A3 t c3) (.slice (some ⟨w2.heap.size + 1, 0, none⟩) 1 1) rfl rfl (run_appK w.heap.size HM8.out HRD8.out ?s3 ?s4) ?_)
        case s3 => omega
        case s4 => exact HK8.out.size
        intro v9 w9 ho9 hg9 _
        obtain ⟨A9, c9, rfl, _⟩ := own_slice ho9
        have h9 := H8.out.grown HM8.out HQ.out hg9
        have hk9 := HK8.out.grown HM8.out hg9
        have hm9 : OwnKQ w w9 A9 (t + 1) c9 (Ks ++ [y]) := ho9
        have H9 := Lib.hid h9; have HK9 := Lib.hid hk9; have HM9 := Lib.hid hm9
        clear h9 hk9 hm9 ho9 hg9
        go_wp2
        go_roundw
        case rel => exact ⟨t + 1, Ks ++ [y], A9, c9, j2, 0, rfl, by go_num, by rw [List.length_append, HT.out]; rfl, by omega, fun h => absurd rfl h, HJ2.out, H9.out, HK9.out, HM9.out, by exact HST.out⟩
        case measure => simp [intOf]; omega
      · have e0 : (f2 == 0) = false := by simp; exact hf2
        have hw := (Loops.list HW1.out hstep (fun e => absurd e hf2)).any hf2 ([] : List (ByteArray × Ce))
        have HW := Lib.hid hw; have HJ2 := Lib.hid hj2; have HH := Lib.hid (h2.below ba); have HKK := Lib.hid (hk2.new ba)
        obtain ⟨_, _, _⟩ := HH.out.cells
        clear hw hstep hw2 h2 k2 hm2 hk2 hmine hj2 hf2 hy1 hy2 ba
        go_wp2
        go_ret
        exact ⟨[], none, 0, 0, j2, f2, rfl, own_nilK _ _, rfl, Nat.zero_le _, HJ2.out, HH.out, HKK.out, HW.out⟩
    · obtain rfl : t = m := by omega
      have hw := Loops.list HW1.out HLR.out (fun _ => by rw [HT.out])
      have HW := Lib.hid hw; have HMI := Lib.hid hmine
      clear hw hmine
      go_wp2
      go_ret
      exact ⟨Ks, A3, t, c3, j, f, rfl, HMI.out, HT.out, HM.out, HJ.out, HRY.out, HKR.out, HW.out⟩

end Go.Proofs.YthfanonjokpflaaGreat
set_option linter.unusedVariables false
set_option linter.unusedSimpArgs false
namespace Go.Proofs.YthfanonjokpflaaGreat
open Go Go.RowKit

theorem Went.rowL {l : Bs} {i j1 j2 j3 j4 j : Nat} {e f1 f2 f3 f4 f : Int} {k : ByteArray} {c : Ce} {g h : Int} {K : Cols} (H1 : Went txtP l i e k j1 f1) (H2 : Went cellP l j1 f1 c j2 f2) (H3 : Went numP l j2 f2 g j3 f3) (H4 : Went numP l j3 f3 h j4 f4)
    (H6 : Went (listP colP) l j4 f4 K j f) : Went rowP l i e (⟨k, c, g, h, K⟩ : Ro) j f := by
  have W1 : Went (bindP numP fun h => bindP (listP colP) fun l => retP (h, l)) l j3 f3 (h, K) j f := H4.bind (H6.bind (Went.ret (h, K) H6.len f))
  have W2 : Went (bindP numP fun g => bindP (bindP numP fun h => bindP (listP colP) fun l => retP (h, l)) fun y => retP (g, y)) l j2 f2 (g, (h, K)) j f := H3.bind (W1.bind (Went.ret (g, (h, K)) H6.len f))
  have W3 : Went (bindP cellP fun c => bindP (bindP numP fun g => bindP (bindP numP fun h => bindP (listP colP) fun l => retP (h, l)) fun y => retP (g, y)) fun y => retP (c, y)) l j1 f1 (c, (g, (h, K))) j f := H2.bind (W2.bind (Went.ret (c, (g, (h, K))) H6.len f))
  have W4 : Went rowT l i e (k, (c, (g, (h, K)))) j f := H1.bind (W3.bind (Went.ret (k, (c, (g, (h, K)))) H6.len f))
  exact W4.map (q := fun z => (⟨z.1, z.2.1, z.2.2.1, z.2.2.2.1, z.2.2.2.2⟩ : Ro))
theorem Went.partL {l : Bs} {i j1 j2 j : Nat} {e f1 f2 f : Int} {k : ByteArray} {g : Int} {R : List Ro} (H1 : Went txtP l i e k j1 f1) (H2 : Went numP l j1 f1 g j2 f2) (H6 : Went (listP rowP) l j2 f2 R j f) : Went partP l i e (⟨k, g, R⟩ : Pa) j f := by
  have W1 : Went (bindP numP fun g => bindP (listP rowP) fun l => retP (g, l)) l j1 f1 (g, R) j f := H2.bind (H6.bind (Went.ret (g, R) H6.len f))
  have W2 : Went partT l i e (k, (g, R)) j f := H1.bind (W1.bind (Went.ret (k, (g, R)) H6.len f))
  exact W2.map (q := fun z => (⟨z.1, z.2.1, z.2.2⟩ : Pa))
theorem kept_set8Q {w : World} (q : Nat) (u0 u1 u2 u3 u4 u5 u6 u7 : Value) : Kept (fun k => k = q) w ((((((((w.setCell ⟨q, 0, none⟩ u0).setCell ⟨q, 1, none⟩ u1).setCell ⟨q, 2, none⟩ u2).setCell ⟨q, 3, none⟩ u3).setCell ⟨q, 4, none⟩ u4).setCell ⟨q, 5, none⟩ u5).setCell ⟨q, 6, none⟩ u6).setCell ⟨q, 7, none⟩ u7) :=
  (((kept_set5 q u0 u1 u2 u3 u4).trans (Kept.setCell (fun k => k = q) _ ⟨q, 5, none⟩ u5 rfl) fun _ h => Or.inl h).trans (Kept.setCell (fun k => k = q) _ ⟨q, 6, none⟩ u6 rfl) fun _ h => Or.inl h).trans (Kept.setCell (fun k => k = q) _ ⟨q, 7, none⟩ u7 rfl) fun _ h => Or.inl h
theorem set8Q_block {w : World} {q : Nat} {v0 v1 v2 v3 v4 v5 v6 v7 : Value} {T : TypeId} (h : w.heap[q]? = some (.cells #[v0, v1, v2, v3, v4, v5, v6, v7] T (0, 0))) (u0 u1 u2 u3 u4 u5 u6 u7 : Value) :
    ((((((((w.setCell ⟨q, 0, none⟩ u0).setCell ⟨q, 1, none⟩ u1).setCell ⟨q, 2, none⟩ u2).setCell ⟨q, 3, none⟩ u3).setCell ⟨q, 4, none⟩ u4).setCell ⟨q, 5, none⟩ u5).setCell ⟨q, 6, none⟩ u6).setCell ⟨q, 7, none⟩ u7).heap[q]? = some (.cells #[u0, u1, u2, u3, u4, u5, u6, u7] T (0, 0)) := by
  have m := Joins.block_setCell (i := 0) h u0
  simp only [List.setIfInBounds_toArray, List.set_cons_zero, List.set_cons_succ] at m
  have m1 := Joins.block_setCell (i := 1) m u1
  simp only [List.setIfInBounds_toArray, List.set_cons_zero, List.set_cons_succ] at m1
  have m2 := Joins.block_setCell (i := 2) m1 u2
  simp only [List.setIfInBounds_toArray, List.set_cons_zero, List.set_cons_succ] at m2
  have m3 := Joins.block_setCell (i := 3) m2 u3
  simp only [List.setIfInBounds_toArray, List.set_cons_zero, List.set_cons_succ] at m3
  have m4 := Joins.block_setCell (i := 4) m3 u4
  simp only [List.setIfInBounds_toArray, List.set_cons_zero, List.set_cons_succ] at m4
  have m5 := Joins.block_setCell (i := 5) m4 u5
  simp only [List.setIfInBounds_toArray, List.set_cons_zero, List.set_cons_succ] at m5
  have m6 := Joins.block_setCell (i := 6) m5 u6
  simp only [List.setIfInBounds_toArray, List.set_cons_zero, List.set_cons_succ] at m6
  have m7 := Joins.block_setCell (i := 7) m6 u7
  simp only [List.setIfInBounds_toArray, List.set_cons_zero, List.set_cons_succ] at m7
  exact m7
theorem OwnC.grownQ {w0 w w' : World} {x : RA} {b n size : Nat} {T : TypeId} {v : Value} {xs : List Value} (h : OwnC w0 w x) (ho : w.ownsRow b T size v n xs) (hT : 99 ≠ T) (hg : w.grownBy w' v.ownBlock) : OwnC w0 w' x :=
  own_kept h fun g hg2 => hg.block g (own_block_lt h g hg2) fun hp => by
    obtain ⟨cs, h1⟩ := own_tag h g hg2
    obtain ⟨cs', h2⟩ := own_tag ho g hp.symm
    rw [h1] at h2
    injection h2 with h2
    injection h2 with _ h3 _
    exact hT h3
/-- Rows of one's own, whose columns are one's own. -/
structure RowsQ (w0 w : World) (A : Option Addr) (m c : Nat) (M : List RA) : Prop where
  own : w.ownsRow w0.heap.size 57 8 (.slice A m c) m (rRow M)
  cols : ∀ x ∈ M, OwnC w0 w x
theorem RowsQ.nil (w0 w : World) : RowsQ w0 w none 0 0 [] := ⟨own_nilR _ _, fun x hx => by cases hx⟩
theorem RowsQ.on {w0 w w' : World} {A : Option Addr} {m c : Nat} {M : List RA} (h : RowsQ w0 w A m c M) (hb : Below w.heap.size w w') : RowsQ w0 w' A m c M := ⟨own_below h.own hb, fun x hx => (h.cols x hx).on hb⟩
theorem RowsQ.kept1 {w0 w w' : World} {A : Option Addr} {m c r : Nat} {M : List RA} {cs : Array Value} {e : TypeId} (h : RowsQ w0 w A m c M) (hk : Kept (fun k => k = r) w w') (hr : w.heap[r]? = some (.cells cs e (0, 0))) (he : 99 ≠ e) (he' : 57 ≠ e) : RowsQ w0 w' A m c M :=
  ⟨own_keptQ h.own hk hr he', fun x hx => own_keptQ (h.cols x hx) hk hr he⟩
theorem RowsQ.snoc {w0 w w' : World} {A A' : Option Addr} {m c c' : Nat} {M : List RA} {y : RA} (h : RowsQ w0 w A m c M) (hy : OwnC w0 w y) (ho : w'.ownsRow w0.heap.size 57 8 (.slice A' (m + 1) c') (m + 1) (rRow (M ++ [y]))) (hg : w.grownBy w' (Value.slice A m c).ownBlock) : RowsQ w0 w' A' (m + 1) c' (M ++ [y]) :=
  ⟨ho, fun x hx => by
    rcases List.mem_append.1 hx with h1 | h1
    · exact (h.cols x h1).grownQ h.own (by decide) hg
    · rw [List.mem_singleton.1 h1]; exact hy.grownQ h.own (by decide) hg⟩
theorem RowsQ.lower {w0 w1 w : World} {A : Option Addr} {m c : Nat} {M : List RA} (h : RowsQ w1 w A m c M) (hb : w0.heap.size ≤ w1.heap.size) : RowsQ w0 w A m c M := ⟨own_down h.own hb, fun x hx => own_down (h.cols x hx) hb⟩
theorem RowsQ.lies {w0 w : World} {A : Option Addr} {m c : Nat} {M : List RA} (h : RowsQ w0 w A m c M) : Lies w w.heap.size A m c M := by
  obtain ⟨_, _, e, h1, _⟩ := own_slice h.own
  injection e with _ _ e3
  subst e3
  exact ⟨RdR.of_own h.own, fun x hx => ⟨RdK.of_own (h.cols x hx), by
    obtain ⟨_, _, e, h2, _⟩ := own_slice (h.cols x hx)
    injection e with _ _ e3
    subst e3
    exact h2⟩, h1⟩
set_option maxRecDepth 8000 in
set_option maxHeartbeats 2000000 in
theorem yrow (q i n c : Nat) (e : Int) (A : Option Addr) (l : Bs) (w : World) (h : RY w q A n c l i e) (hi : i ≤ n) (hs : n ≤ 900000) :
    Calls Tryz.prog 76 #[.pointer (some ⟨q, 0, none⟩)] w fun x w' => ∃ (z : RA) (j : Nat) (f : Int), x = .returned (.agg #[.string z.ro.key, .string z.ro.live.s, .bool z.ro.live.d, .int .i64 z.ro.live.a, .int .i64 z.ro.live.e, .int .i64 z.ro.gone, .int .i64 z.ro.shade, .slice z.A z.ro.cols.length z.c]) ∧ OwnC w w' z ∧ z.ro.cols.length ≤ n ∧ j ≤ n ∧ RY w' q A n c l j f ∧ KeptQ q w w' ∧ Went rowP l i e z.ro j f := by
  have hqw := h.lt
  have bz := (Below.refl w.heap.size w).alloc (Nat.le_refl _) (.cells #[.string ⟨#[]⟩, .string ⟨#[]⟩, .bool false, .int .i64 0, .int .i64 0, .int .i64 0, .int .i64 0, .slice none 0 0] 57)
  have hz := heap_alloc_new w (.cells #[.string ⟨#[]⟩, .string ⟨#[]⟩, .bool false, .int .i64 0, .int .i64 0, .int .i64 0, .int .i64 0, .slice none 0 0] 57)
  have h0 := h.below bz
  obtain ⟨V, hV⟩ : ∃ V, V = w.alloc (.cells #[.string ⟨#[]⟩, .string ⟨#[]⟩, .bool false, .int .i64 0, .int .i64 0, .int .i64 0, .int .i64 0, .slice none 0 0] 57) := ⟨_, rfl⟩
  rw [← hV] at bz hz h0
  have H0 := Lib.hid h0; have HZ0 := Lib.hid hz; have BZ := Lib.hid bz; have HQ := Lib.hid hqw; have HS := Lib.hid hs
  clear h bz hz h0 hqw hs
  go_enter Tryz.func76, Tryz.ntmps76
  go_wp2_with fail
  rw [← hV]
  clear hV
  refine (ytext q i n c e A l _ H0.out hi (by have := HS.out; omega)).mono ?_
  rintro x w1 ⟨v, j1, f1, rfl, hv, hj1, h1, k1, hw1⟩
  have H1 := Lib.hid h1; have HZ1 := Lib.hid (Kept.atQ k1 HZ0.out (by have := HQ.out; omega)); have K1 := Lib.hid (KeptQ.on (Kept.of_below BZ.out _) k1); have HW1 := Lib.hid hw1; have HJ1 := Lib.hid hj1
  clear h1 k1 hw1 hv hj1 hi
  go_wp2_with fail
  refine (ycell q j1 n c f1 A l _ H1.out HJ1.out (by have := HS.out; omega)).mono ?_
  rintro x w2 ⟨⟨cs, cd, ca, ce⟩, j2, f2, rfl, hcs, hj2, h2, k2, hw2⟩
  have H2 := Lib.hid h2; have HZ2 := Lib.hid (Kept.atQ k2 HZ1.out (by have := HQ.out; omega)); have K2 := Lib.hid (K1.out.on k2); have HW2 := Lib.hid hw2; have HJ2 := Lib.hid hj2
  clear h2 k2 hw2 hcs hj2
  go_wp2_with fail
  refine (ystamp q j2 n c f2 A l _ H2.out HJ2.out (by have := HS.out; omega)).mono ?_
  rintro x w3 ⟨g, j3, f3, rfl, _, _, hj3, h3, k3, hw3⟩
  have H3 := Lib.hid h3; have HZ3 := Lib.hid (Kept.atQ k3 HZ2.out (by have := HQ.out; omega)); have K3 := Lib.hid (K2.out.on k3); have HW3 := Lib.hid hw3; have HJ3 := Lib.hid hj3
  clear h3 k3 hw3 hj3
  go_wp2_with fail
  refine (ystamp q j3 n c f3 A l _ H3.out HJ3.out (by have := HS.out; omega)).mono ?_
  rintro x w4 ⟨sh, j4, f4, rfl, _, _, hj4, h4, k4, hw4⟩
  have H4 := Lib.hid h4; have HZ4 := Lib.hid (Kept.atQ k4 HZ3.out (by have := HQ.out; omega)); have K4 := Lib.hid (K3.out.on k4); have HW4 := Lib.hid hw4; have HJ4 := Lib.hid hj4
  clear h4 k4 hw4 hj4
  go_wp2_with fail
  refine (ycols q j4 n c f4 A l _ H4.out HJ4.out HS.out).mono ?_
  rintro x w5 ⟨Ks, A5, m5, c5, j5, f5, rfl, ho5, hlen, hm5, hj5, h5, k5, hw5⟩
  have HZ5 := Lib.hid (Kept.atQ k5 HZ4.out (by have := HQ.out; omega))
  have z0 := cell_at (i := 0) HZ5.out rfl
  have z1 := cell_at (i := 1) HZ5.out rfl
  have z2 := cell_at (i := 2) HZ5.out rfl
  have z3 := cell_at (i := 3) HZ5.out rfl
  have z4 := cell_at (i := 4) HZ5.out rfl
  have z5 := cell_at (i := 5) HZ5.out rfl
  have z6 := cell_at (i := 6) HZ5.out rfl
  have z7 := cell_at (i := 7) HZ5.out rfl
  have y0 := thawed_at (i := 0) HZ5.out
  have y1 := thawed_at (i := 1) HZ5.out
  have y2 := thawed_at (i := 2) HZ5.out
  have y3 := thawed_at (i := 3) HZ5.out
  have y4 := thawed_at (i := 4) HZ5.out
  have y5 := thawed_at (i := 5) HZ5.out
  have y6 := thawed_at (i := 6) HZ5.out
  have y7 := thawed_at (i := 7) HZ5.out
  have m9 := set8Q_block HZ5.out (.string v) (.string cs) (.bool cd) (.int .i64 ca) (.int .i64 ce) (.int .i64 g) (.int .i64 sh) (.slice A5 m5 c5)
  have n9 := kept_set8Q (w := w5) w.heap.size (.string v) (.string cs) (.bool cd) (.int .i64 ca) (.int .i64 ce) (.int .i64 g) (.int .i64 sh) (.slice A5 m5 c5)
  have R9 := Lib.hid (RY.other h5 n9 HQ.out)
  have K9 := Lib.hid ((K4.out.on k5).own n9 (Nat.le_refl _))
  have ho6 := own_down (show w5.ownsRow w4.heap.size 99 5 (.slice A5 m5 c5) m5 (kRow Ks) from ho5) (show w.heap.size ≤ w4.heap.size from K4.out.size)
  have O9 := Lib.hid (own_keptQ ho6 n9 HZ5.out (by decide))
  have HW : Hid (Went rowP l i e (⟨v, ⟨cs, cd, ca, ce⟩, g, sh, Ks⟩ : Ro) j5 f5) := Lib.hid (HW1.out.rowL HW2.out HW3.out HW4.out hw5)
  have HM := Lib.hid hm5; have HJ := Lib.hid hj5; have HLEN := Lib.hid hlen
  clear n9 h5 k5 hw5 hm5 hj5 ho5 ho6 hlen
  go_wp2
  generalize World.setCell (World.setCell (World.setCell (World.setCell (World.setCell (World.setCell (World.setCell (World.setCell w5 ⟨w.heap.size, 0, none⟩ (.string v)) ⟨w.heap.size, 1, none⟩ (.string cs)) ⟨w.heap.size, 2, none⟩ (.bool cd)) ⟨w.heap.size, 3, none⟩ (.int .i64 ca)) ⟨w.heap.size, 4, none⟩ (.int .i64 ce)) ⟨w.heap.size, 5, none⟩ (.int .i64 g)) ⟨w.heap.size, 6, none⟩ (.int .i64 sh)) ⟨w.heap.size, 7, none⟩ (.slice A5 m5 c5) = w9 at m9 K9 R9 O9 ⊢
  clear z0 z1 z2 z3 z4 z5 z6 z7 y0 y1 y2 y3 y4 y5 y6 y7
  have q0 := cell_at (i := 0) m9 rfl
  have q1 := cell_at (i := 1) m9 rfl
  have q2 := cell_at (i := 2) m9 rfl
  have q3 := cell_at (i := 3) m9 rfl
  have q4 := cell_at (i := 4) m9 rfl
  have q5 := cell_at (i := 5) m9 rfl
  have q6 := cell_at (i := 6) m9 rfl
  have q7 := cell_at (i := 7) m9 rfl
  refine bodyPost_ret (v := .agg #[.string v, .string cs, .bool cd, .int .i64 ca, .int .i64 ce, .int .i64 g, .int .i64 sh, .slice A5 m5 c5]) ?_ rfl ?_
  · simp [results, Tryz.results76, go_sem, q0, q1, q2, q3, q4, q5, q6, q7]
  · have hl := HLEN.out
    subst hl
    exact ⟨⟨⟨v, ⟨cs, cd, ca, ce⟩, g, sh, Ks⟩, A5, c5⟩, j5, f5, rfl, O9.out, HM.out, HJ.out, R9.out, K9.out, HW.out⟩
set_option maxRecDepth 8000 in
set_option maxHeartbeats 2000000 in
theorem yrows (q i n c : Nat) (e : Int) (A : Option Addr) (l : Bs) (w : World) (h : RY w q A n c l i e) (hi : i ≤ n) (hs : n ≤ 900000) :
    Calls Tryz.prog 75 #[.pointer (some ⟨q, 0, none⟩), .func (.func 76) #[] #[]] w fun x w' => ∃ (Ks : List RA) (A' : Option Addr) (m c' j : Nat) (f : Int), x = .returned (.slice A' m c') ∧ RowsQ w w' A' m c' Ks ∧ Ks.length = m ∧ m ≤ n ∧ j ≤ n ∧ RY w' q A n c l j f ∧ KeptQ q w w' ∧ Went (listP rowP) l i e (ros Ks) j f := by
  have hqw := h.lt
  have HQ := Lib.hid hqw; have HS := Lib.hid hs
  go_enter Tryz.func75, Tryz.ntmps75
  go_wp2_with fail
  refine (ycount q i n c e A l w h hi (by omega)).mono ?_
  rintro x w1 ⟨m, j0, f0, rfl, hm, hf00, hj0, h1, k1, hw1⟩
  have hmn : m ≤ n := by omega
  have HM := Lib.hid hmn; have HF0 := Lib.hid hf00; have HJ0 := Lib.hid hj0; have H1 := Lib.hid h1; have K1 := Lib.hid k1; have HW1 := Lib.hid hw1
  clear hm hf00 hj0 h1 k1 hw1 h hi hs hqw hmn
  go_wp2_with fail
  go_loopw [5, 9] (fun a i' wr => ∃ (t : Nat) (Ks : List RA) (A' : Option Addr) (c' j : Nat) (f : Int), a = .slice A' t c' ∧ i' = .int .i64 t ∧ Ks.length = t ∧ t ≤ m ∧ (f ≠ 0 → m = 0) ∧ j ≤ n ∧ RY wr q A n c l j f ∧ KeptQ q w wr ∧ (RowsQ w wr A' t c' Ks) ∧ Loops rowP l m j0 f0 (ros Ks) j f) (fun _ i' _ => m - (intOf i').toNat)
  case atStart => exact ⟨0, [], none, 0, j0, f0, rfl, rfl, rfl, Nat.zero_le _, HF0.out, HJ0.out, H1.out, K1.out, RowsQ.nil _ _, Loops.start _ _ HW1.out.len _⟩
  case round =>
    obtain ⟨t, Ks, A3, c3, j, f, rfl, rfl, ht, htm, hfm, hj, hr, hk, hmine, hl⟩ := hrel
    have i8 : m ≤ 900000 := by have := HM.out; have := HS.out; omega
    have HRY := Lib.hid hr; have HKR := Lib.hid hk; have HLR := Lib.hid hl; have HT := Lib.hid ht; have HJ := Lib.hid hj; have HFM := Lib.hid hfm
    clear hr hk hl ht hj hfm
    by_cases hlt : t < m
    · have i1 : (t : Int) < m := by omega
      have hf : f = 0 := Decidable.byContradiction fun hf => by have := HFM.out hf; omega
      subst hf
      have HMI := Lib.hid hmine
      clear hmine
      go_wp2_with fail
      refine (yrow q j n c 0 A l wr HRY.out HJ.out (by have := HS.out; omega)).mono ?_
      rintro x w2 ⟨y, j2, f2, rfl, hoc, hyl, hj2, h2, k2, hw2⟩
      have hmine := HMI.out
      have hm2 := hmine.kept1 k2 HRY.out.blk (by decide) (by decide)
      have hk2 := HKR.out.on k2
      have ba := (Below.refl w2.heap.size w2).alloc (Nat.le_refl _) (.cells #[.string y.ro.key, .string y.ro.live.s, .bool y.ro.live.d, .int .i64 y.ro.live.a, .int .i64 y.ro.live.e, .int .i64 y.ro.gone, .int .i64 y.ro.shade, .slice y.A y.ro.cols.length y.c] 57)
      have hstep := HLR.out.step (by rw [List.length_map, HT.out]; exact hlt) hw2
      by_cases hf2 : f2 = 0
      · subst hf2
        obtain ⟨U, hU⟩ : ∃ U, U = w2.alloc (.cells #[.string y.ro.key, .string y.ro.live.s, .bool y.ro.live.d, .int .i64 y.ro.live.a, .int .i64 y.ro.live.e, .int .i64 y.ro.gone, .int .i64 y.ro.shade, .slice y.A y.ro.cols.length y.c] 57) := ⟨_, rfl⟩
        have ba2 := (Below.refl (w2.alloc (.cells #[.string y.ro.key, .string y.ro.live.s, .bool y.ro.live.d, .int .i64 y.ro.live.a, .int .i64 y.ro.live.e, .int .i64 y.ro.gone, .int .i64 y.ro.shade, .slice y.A y.ro.cols.length y.c] 57)).heap.size (w2.alloc (.cells #[.string y.ro.key, .string y.ro.live.s, .bool y.ro.live.d, .int .i64 y.ro.live.a, .int .i64 y.ro.live.e, .int .i64 y.ro.gone, .int .i64 y.ro.shade, .slice y.A y.ro.cols.length y.c] 57))).alloc (Nat.le_refl _) (.cells #[.string y.ro.key, .string y.ro.live.s, .bool y.ro.live.d, .int .i64 y.ro.live.a, .int .i64 y.ro.live.e, .int .i64 y.ro.gone, .int .i64 y.ro.shade, .slice y.A y.ro.cols.length y.c] 57)
        have hm8 := (hm2.on ba).on ba2
        have h8 := (h2.below ba).below ba2
        have hk8 := (hk2.new ba).new ba2
        have hsz8 : (w2.alloc (.cells #[.string y.ro.key, .string y.ro.live.s, .bool y.ro.live.d, .int .i64 y.ro.live.a, .int .i64 y.ro.live.e, .int .i64 y.ro.gone, .int .i64 y.ro.shade, .slice y.A y.ro.cols.length y.c] 57)).heap.size = w2.heap.size + 1 := by simp
        have hrd8 := RdR.one (w2.alloc (.cells #[.string y.ro.key, .string y.ro.live.s, .bool y.ro.live.d, .int .i64 y.ro.live.a, .int .i64 y.ro.live.e, .int .i64 y.ro.gone, .int .i64 y.ro.shade, .slice y.A y.ro.cols.length y.c] 57)) y (w2.heap.size + 1) (by simp)
        try rw [hsz8] at hrd8
        have HRD8 := Lib.hid hrd8
        clear hU hsz8 hrd8
        have HOC := Lib.hid (((show OwnC w w2 y from own_base hoc HKR.out.size).on ba).on ba2)
        have HM8 := Lib.hid hm8; have H8 := Lib.hid h8; have HK8 := Lib.hid hk8; have HST := Lib.hid hstep; have HJ2 := Lib.hid hj2
        obtain ⟨_, _, _⟩ := (h2.below ba).cells
        clear hm8 h8 hk8 hstep hj2 hw2 h2 k2 hm2 hk2 hmine hyl hoc ba ba2
        go_wp2_with (at_builtin; refine list_ex rfl (.tmp 19) (.tmp 21) _ _ rfl (.slice A3 t c3) (.slice (some ⟨w2.heap.size + 1, 0, none⟩) 1 1) rfl rfl (run_appR w.heap.size HM8.out.own HRD8.out ?s3 ?s4) ?_)
        case s3 => omega
        case s4 => exact HK8.out.size
        intro v9 w9 ho9 hg9 _
        obtain ⟨A9, c9, rfl, _⟩ := own_slice ho9
        have h9 := H8.out.grown HM8.out.own HQ.out hg9
        have hk9 := HK8.out.grown HM8.out.own hg9
        have hm9 : RowsQ w w9 A9 (t + 1) c9 (Ks ++ [y]) := HM8.out.snoc HOC.out ho9 hg9
        have H9 := Lib.hid h9; have HK9 := Lib.hid hk9; have HM9 := Lib.hid hm9
        clear h9 hk9 hm9 ho9 hg9
        go_wp2
        go_roundw
        case rel => exact ⟨t + 1, Ks ++ [y], A9, c9, j2, 0, rfl, by go_num, by rw [List.length_append, HT.out]; rfl, by omega, fun h => absurd rfl h, HJ2.out, H9.out, HK9.out, HM9.out, by have := HST.out; simpa using this⟩
        case measure => simp [intOf]; omega
      · have e0 : (f2 == 0) = false := by simp; exact hf2
        have hw := (Loops.list HW1.out hstep (fun e => absurd e hf2)).any hf2 ([] : List Ro)
        have HW := Lib.hid hw; have HJ2 := Lib.hid hj2; have HH := Lib.hid (h2.below ba); have HKK := Lib.hid (hk2.new ba)
        obtain ⟨_, _, _⟩ := HH.out.cells
        clear hw hstep hw2 h2 k2 hm2 hk2 hmine hj2 hf2 hyl hoc ba
        go_wp2
        go_ret
        exact ⟨[], none, 0, 0, j2, f2, rfl, RowsQ.nil _ _, rfl, Nat.zero_le _, HJ2.out, HH.out, HKK.out, HW.out⟩
    · obtain rfl : t = m := by omega
      have hw := Loops.list HW1.out HLR.out (fun _ => by rw [List.length_map, HT.out])
      have HW := Lib.hid hw; have HMI := Lib.hid hmine
      clear hw hmine
      go_wp2
      go_ret
      exact ⟨Ks, A3, t, c3, j, f, rfl, HMI.out, HT.out, HM.out, HJ.out, HRY.out, HKR.out, HW.out⟩

end Go.Proofs.YthfanonjokpflaaGreat
set_option linter.unusedVariables false
set_option linter.unusedSimpArgs false
namespace Go.Proofs.YthfanonjokpflaaGreat
open Go Go.RowKit

theorem at_newQ {W : World} {r : Nat} {cs : Array Value} {t : TypeId} (h : W.heap[r]? = some (.cells cs t (0, 0))) (o : Obj) : (W.alloc o).heap[r]? = some (.cells cs t (0, 0)) :=
  (((Below.refl W.heap.size W).alloc (Nat.le_refl _) o).block r (Array.getElem?_eq_some_iff.1 h).1).trans h
theorem set3Q_block {w : World} {q : Nat} {v0 v1 v2 : Value} {T : TypeId} (h : w.heap[q]? = some (.cells #[v0, v1, v2] T (0, 0))) (u0 u1 u2 : Value) :
    (((w.setCell ⟨q, 0, none⟩ u0).setCell ⟨q, 1, none⟩ u1).setCell ⟨q, 2, none⟩ u2).heap[q]? = some (.cells #[u0, u1, u2] T (0, 0)) := by
  have h0 := Joins.block_setCell (i := 0) h u0
  simp only [List.setIfInBounds_toArray, List.set_cons_zero, List.set_cons_succ] at h0
  have h1 := Joins.block_setCell (i := 1) h0 u1
  simp only [List.setIfInBounds_toArray, List.set_cons_zero, List.set_cons_succ] at h1
  have h2 := Joins.block_setCell (i := 2) h1 u2
  simpa only [List.setIfInBounds_toArray, List.set_cons_zero, List.set_cons_succ] using h2
theorem kept_set3Q {w : World} (q : Nat) (u0 u1 u2 : Value) : Kept (fun k => k = q) w (((w.setCell ⟨q, 0, none⟩ u0).setCell ⟨q, 1, none⟩ u1).setCell ⟨q, 2, none⟩ u2) :=
  (((Kept.refl (fun k => k = q) w).trans (Kept.setCell (fun k => k = q) _ ⟨q, 0, none⟩ u0 rfl) fun _ h => Or.inl h).trans (Kept.setCell (fun k => k = q) _ ⟨q, 1, none⟩ u1 rfl) fun _ h => Or.inl h).trans (Kept.setCell (fun k => k = q) _ ⟨q, 2, none⟩ u2 rfl) fun _ h => Or.inl h
set_option maxRecDepth 8000 in
set_option maxHeartbeats 2000000 in
theorem ypart (q i n c : Nat) (e : Int) (A : Option Addr) (l : Bs) (w : World) (h : RY w q A n c l i e) (hi : i ≤ n) (hs : n ≤ 900000) :
    Calls Tryz.prog 36 #[.pointer (some ⟨q, 0, none⟩)] w fun x w' => ∃ (z : PA) (j : Nat) (f : Int), x = .returned (.agg #[.string z.k, .int .i64 z.g, .slice z.A z.L.length z.c]) ∧ RowsQ w w' z.A z.L.length z.c z.L ∧ j ≤ n ∧ RY w' q A n c l j f ∧ KeptQ q w w' ∧ Went partP l i e ⟨z.k, z.g, ros z.L⟩ j f := by
  have hqw := h.lt
  have bz := (Below.refl w.heap.size w).alloc (Nat.le_refl _) (.cells #[.string ⟨#[]⟩, .int .i64 0, .slice none 0 0] 24)
  have hz := heap_alloc_new w (.cells #[.string ⟨#[]⟩, .int .i64 0, .slice none 0 0] 24)
  have h0 := h.below bz
  obtain ⟨V, hV⟩ : ∃ V, V = w.alloc (.cells #[.string ⟨#[]⟩, .int .i64 0, .slice none 0 0] 24) := ⟨_, rfl⟩
  rw [← hV] at bz hz h0
  have H0 := Lib.hid h0; have HZ0 := Lib.hid hz; have BZ := Lib.hid bz; have HQ := Lib.hid hqw; have HS := Lib.hid hs
  clear h bz hz h0 hqw hs
  go_enter Tryz.func36, Tryz.ntmps36
  go_wp2_with fail
  rw [← hV]
  clear hV
  refine (ytext q i n c e A l _ H0.out hi (by have := HS.out; omega)).mono ?_
  rintro x w1 ⟨v, j1, f1, rfl, hv, hj1, h1, k1, hw1⟩
  have H1 := Lib.hid h1; have HZ1 := Lib.hid (Kept.atQ k1 HZ0.out (by have := HQ.out; omega)); have K1 := Lib.hid (KeptQ.on (Kept.of_below BZ.out _) k1); have HW1 := Lib.hid hw1; have HJ1 := Lib.hid hj1
  clear h1 k1 hw1 hv hj1 hi
  go_wp2_with fail
  refine (ystamp q j1 n c f1 A l _ H1.out HJ1.out (by have := HS.out; omega)).mono ?_
  rintro x w3 ⟨g, j3, f3, rfl, _, _, hj3, h3, k3, hw3⟩
  have H3 := Lib.hid h3; have HZ3 := Lib.hid (Kept.atQ k3 HZ1.out (by have := HQ.out; omega)); have K3 := Lib.hid (K1.out.on k3); have HW3 := Lib.hid hw3; have HJ3 := Lib.hid hj3
  clear h3 k3 hw3 hj3
  go_wp2_with fail
  refine (yrows q j3 n c f3 A l _ H3.out HJ3.out HS.out).mono ?_
  rintro x w5 ⟨Ks, A5, m5, c5, j5, f5, rfl, ho5, hlen, hm5, hj5, h5, k5, hw5⟩
  have HZ5 := Lib.hid (Kept.atQ k5 HZ3.out (by have := HQ.out; omega))
  have z0 := cell_at (i := 0) HZ5.out rfl
  have z1 := cell_at (i := 1) HZ5.out rfl
  have z2 := cell_at (i := 2) HZ5.out rfl
  have y0 := thawed_at (i := 0) HZ5.out
  have y1 := thawed_at (i := 1) HZ5.out
  have y2 := thawed_at (i := 2) HZ5.out
  have m9 := set3Q_block HZ5.out (.string v) (.int .i64 g) (.slice A5 m5 c5)
  have n9 := kept_set3Q (w := w5) w.heap.size (.string v) (.int .i64 g) (.slice A5 m5 c5)
  have R9 := Lib.hid (RY.other h5 n9 HQ.out)
  have K9 := Lib.hid ((K3.out.on k5).own n9 (Nat.le_refl _))
  have O9 := Lib.hid ((ho5.lower (w0 := w) K3.out.size).kept1 n9 HZ5.out (by decide) (by decide))
  have HW : Hid (Went partP l i e (⟨v, g, ros Ks⟩ : Pa) j5 f5) := Lib.hid (HW1.out.partL HW3.out hw5)
  have HJ := Lib.hid hj5; have HLEN := Lib.hid hlen
  clear n9 h5 k5 hw5 hm5 hj5 ho5 hlen
  go_wp2
  generalize World.setCell (World.setCell (World.setCell w5 ⟨w.heap.size, 0, none⟩ (.string v)) ⟨w.heap.size, 1, none⟩ (.int .i64 g)) ⟨w.heap.size, 2, none⟩ (.slice A5 m5 c5) = w9 at m9 K9 R9 O9 ⊢
  clear z0 z1 z2 y0 y1 y2
  have q0 := cell_at (i := 0) m9 rfl
  have q1 := cell_at (i := 1) m9 rfl
  have q2 := cell_at (i := 2) m9 rfl
  refine bodyPost_ret (v := .agg #[.string v, .int .i64 g, .slice A5 m5 c5]) ?_ rfl ?_
  · simp [results, Tryz.results36, go_sem, q0, q1, q2]
  · have hl := HLEN.out
    subst hl
    exact ⟨⟨v, g, Ks, A5, c5⟩, j5, f5, rfl, O9.out, HJ.out, R9.out, K9.out, HW.out⟩
/-- A call that hands back a partition, or what is wrong. -/
def GivesG (w : World) (r : Except Int Pa) (x : Ending) (w' : World) : Prop := match r with
  | .ok p => ∃ z : PA, (⟨z.k, z.g, ros z.L⟩ : Pa) = p ∧ x = .returned (.tuple #[.agg #[.string z.k, .int .i64 z.g, .slice z.A z.L.length z.c], .int .i64 0]) ∧ RowsQ w w' z.A z.L.length z.c z.L ∧ Below w.heap.size w w'
  | .error e => x = .returned (.tuple #[.agg #[.string ⟨#[]⟩, .int .i64 0, .slice none 0 0], .int .i64 e]) ∧ Below w.heap.size w w'
theorem few_of_sizes {p : Pa} (h : p.Gd) {N : Nat} (hN : N ≤ 900000) (hn : (pE p).length ≤ N) {M : List RA} (hM : ros M = p.rows) : FewR M := fun x hx => by
  obtain ⟨_, _, h3⟩ := pa_sizes h hn
  have hr := h3 x.ro (by rw [← hM]; exact List.mem_map.2 ⟨x, hx, rfl⟩)
  refine ⟨fun y hy => ?_, by have := hr.val; unfold maxLen; omega, by have := hr.len; omega⟩
  have := hr.cols y hy
  exact ⟨by omega, by unfold maxLen; omega⟩
set_option maxRecDepth 8000 in
set_option maxHeartbeats 2000000 in
theorem get_part (A : Option Addr) (n c B : Nat) (l : Bs) (w : World) (hr : Rd w B A n l) (hB : B ≤ w.heap.size) (hnc : n ≤ c) (hc : c ≤ maxLen) (hA : A = none → c = 0) :
    Calls Tryz.prog 35 #[.slice A n c, .func (.func 36) #[] #[], .func (.func 24) #[] #[]] w (GivesG w (getPart l)) := by
  have hl := hr.1
  have bz := (Below.refl w.heap.size w).alloc (Nat.le_refl _) (.cells #[.string ⟨#[]⟩, .int .i64 0, .slice none 0 0] 24)
  have hz := heap_alloc_new w (.cells #[.string ⟨#[]⟩, .int .i64 0, .slice none 0 0] 24)
  obtain ⟨V1, hV1⟩ : ∃ V, V = w.alloc (.cells #[.string ⟨#[]⟩, .int .i64 0, .slice none 0 0] 24) := ⟨_, rfl⟩
  rw [← hV1] at bz hz
  have hs1 : V1.heap.size = w.heap.size + 1 := by rw [hV1]; simp
  have bz2 := (Below.refl V1.heap.size V1).alloc (Nat.le_refl _) (.cells #[.string ⟨#[]⟩, .int .i64 0, .slice none 0 0] 24)
  have hy := heap_alloc_new V1 (.cells #[.string ⟨#[]⟩, .int .i64 0, .slice none 0 0] 24)
  have hz2 := at_newQ hz (.cells #[.string ⟨#[]⟩, .int .i64 0, .slice none 0 0] 24)
  obtain ⟨V2, hV2⟩ : ∃ V, V = V1.alloc (.cells #[.string ⟨#[]⟩, .int .i64 0, .slice none 0 0] 24) := ⟨_, rfl⟩
  rw [← hV2] at bz2 hy hz2
  rw [hs1] at hy
  have hs2 : V2.heap.size = w.heap.size + 1 + 1 := by rw [hV2, ← hs1]; simp
  have hb2 : Below w.heap.size w V2 := bz.trans (bz2.mono bz.size)
  have HS2 := Lib.hid hs2
  by_cases hbig : 262144 < n
  · have hres : getPart l = .error 2 := by unfold getPart getP; rw [if_pos (by omega)]
    rw [hres]
    have d1 : decide ((262144 : Int) < (n : Int)) = true := by simp; omega
    have d2 : decide (262144 < n) = true := by simp; omega
    have HB2 := Lib.hid hb2
    clear hbig hres hs1 bz bz2 hb2 hl hr hB hnc hc hA hs2 hz HS2
    subst hV2
    subst hV1
    have k0 := cell_at (i := 0) hy rfl
    have k1 := cell_at (i := 1) hy rfl
    have k2 := cell_at (i := 2) hy rfl
    have z0 := cell_at (i := 0) hz2 rfl
    have z1 := cell_at (i := 1) hz2 rfl
    have z2 := cell_at (i := 2) hz2 rfl
    have y0 := thawed_at (i := 0) hz2
    have y1 := thawed_at (i := 1) hz2
    have y2 := thawed_at (i := 2) hz2
    clear hz2 hy
    go_enter Tryz.func35, Tryz.ntmps35
    go_wp2
    refine bodyPost_ret (v := .tuple #[.agg #[.string ⟨#[]⟩, .int .i64 0, .slice none 0 0], .int .i64 2]) ?_ rfl ?_
    · simp [results, Tryz.results35, go_sem, z0, z1, z2]
    · exact ⟨rfl, HB2.out⟩
  · have d1 : decide ((262144 : Int) < (n : Int)) = false := by simp; omega
    have d2 : decide (262144 < n) = false := by simp; omega
    have bz3 := (Below.refl V2.heap.size V2).alloc (Nat.le_refl _) (.cells #[.slice A n c, .int .i64 0, .int .i64 0] 115)
    have hrb := heap_alloc_new V2 (.cells #[.slice A n c, .int .i64 0, .int .i64 0] 115)
    have hz3 := at_newQ hz2 (.cells #[.slice A n c, .int .i64 0, .int .i64 0] 115)
    have hy3 := at_newQ hy (.cells #[.slice A n c, .int .i64 0, .int .i64 0] 115)
    obtain ⟨V3, hV3⟩ : ∃ V, V = V2.alloc (.cells #[.slice A n c, .int .i64 0, .int .i64 0] 115) := ⟨_, rfl⟩
    rw [← hV3] at bz3 hrb hz3 hy3
    rw [hs2] at hrb
    have hb3 : Below w.heap.size w V3 := hb2.trans (bz3.mono hb2.size)
    have hry : RY V3 (w.heap.size + 1 + 1) A n c l 0 0 := ⟨hrb, (hr.below (hb3.mono hB)).up (by omega), hnc, hc, hA⟩
    have HRY := Lib.hid hry; have HZ3' := Lib.hid hz3; have HY3' := Lib.hid hy3; have B3' := Lib.hid hb3; have HN := Lib.hid (show n ≤ 262144 by omega); have HL := Lib.hid hl
    clear hry hz3 hy3 hb3 hbig hs1 bz bz2 bz3 hb2 hl hr hB hnc hc hA hs2 hz hz2 hy hrb
    go_enter Tryz.func35, Tryz.ntmps35
    go_wp2_with fail
    rw [← hV1, ← hV2, ← hV3]
    clear hV1 hV2 hV3
    refine (ypart (w.heap.size + 1 + 1) 0 n c 0 A l V3 HRY.out (Nat.zero_le _) (by have := HN.out; omega)).mono ?_
    rintro x w1 ⟨⟨zk, zg, zL, zA, zc⟩, j, f, rfl, hrows, hj, h1, k1, hw⟩
    dsimp only at hrows hw
    have ba := (Below.refl w1.heap.size w1).alloc (Nat.le_refl _) (.cells #[.string zk, .int .i64 zg, .slice zA zL.length zc] 24)
    have hp1 := heap_alloc_new w1 (.cells #[.string zk, .int .i64 zg, .slice zA zL.length zc] 24)
    have hz1 := at_newQ (Kept.atQ k1 HZ3'.out (by omega)) (.cells #[.string zk, .int .i64 zg, .slice zA zL.length zc] 24)
    have hy1 := at_newQ (Kept.atQ k1 HY3'.out (by omega)) (.cells #[.string zk, .int .i64 zg, .slice zA zL.length zc] 24)
    have h1' := h1.below ba
    have hrows1 := hrows.on ba
    have hb1 := B3'.out.trans ((k1.new ba).below (fun k hk => by subst hk; exact Nat.le_trans (Nat.le_add_right _ 2) (Nat.le_refl _)) (Nat.le_trans (Nat.le_refl _) B3'.out.size) : Below w.heap.size V3 _)
    obtain ⟨U1, hU1⟩ : ∃ U, U = w1.alloc (.cells #[.string zk, .int .i64 zg, .slice zA zL.length zc] 24) := ⟨_, rfl⟩
    rw [← hU1] at hp1 hz1 hy1 h1' hrows1 hb1
    have HQW : Hid (w.heap.size + 1 + 1 < w1.heap.size) := Lib.hid h1.lt
    have HP1 := Lib.hid hp1; have HZ1 := Lib.hid hz1; have HY1 := Lib.hid hy1; have H1 := Lib.hid h1'; have HR1 := Lib.hid hrows1; have HB1 := Lib.hid hb1; have HW := Lib.hid hw; have HJ := Lib.hid hj
    clear hp1 hz1 hy1 h1' hrows1 hb1 hw hj h1 k1 hrows ba
    go_wp2_with fail
    rw [← hU1]
    clear hU1
    refine (yend (w.heap.size + 1 + 1) j n c f A l U1 H1.out HJ.out).mono ?_
    rintro x w3 ⟨rfl, h3, k3⟩
    obtain ⟨F, hF⟩ : ∃ F, (if f = 0 ∧ j < n then (6 : Int) else f) = F := ⟨_, rfl⟩
    rw [hF] at h3
    have R3 := Lib.hid h3
    have HZ3 := Lib.hid (Kept.atQ k3 HZ1.out (by omega)); have HY3 := Lib.hid (Kept.atQ k3 HY1.out (by omega)); have HP3 := Lib.hid (Kept.atQ k3 HP1.out (by have := HQW.out; omega))
    have HR3 := Lib.hid (HR1.out.kept1 k3 H1.out.blk (by decide) (by decide))
    have B3 := Lib.hid (HB1.out.trans (k3.below (fun k hk => by subst hk; omega) HB1.out.size))
    have hres : F ≠ 0 → getPart l = .error F := fun h => by
      have hlen := HL.out
      have hnn := HN.out
      unfold getPart getP
      rw [if_neg (by omega)]
      by_cases hf : f = 0
      · subst hf
        have h5 := HW.out.ok rfl rfl
        rw [List.drop_zero] at h5
        rw [h5]
        dsimp only
        by_cases hjn : j < n
        · rw [if_pos ⟨rfl, hjn⟩] at hF
          rw [if_neg (fun h => by have := congrArg List.length h; rw [List.length_drop, List.length_nil] at this; omega), ← hF]
        · rw [if_neg (fun h => hjn h.2)] at hF
          exact absurd hF.symm h
      · rw [if_neg (fun h => hf h.1)] at hF
        have h5 := HW.out.no rfl hf
        rw [List.drop_zero] at h5
        rw [h5, ← hF]
    have hres0 : F = 0 → partP l = .ok (⟨zk, zg, ros zL⟩, []) := fun h => by
      have hlen := HL.out
      subst h
      have hf : f = 0 := by
        refine Decidable.byContradiction fun hf => ?_
        rw [if_neg (fun h => hf h.1)] at hF
        exact hf hF
      subst hf
      have hjn : ¬ j < n := fun hjn => by
        rw [if_pos ⟨rfl, hjn⟩] at hF
        cases hF
      have h5 := HW.out.ok rfl rfl
      rw [List.drop_zero, List.drop_eq_nil_of_le (by omega)] at h5
      exact h5
    have HRES := Lib.hid hres; have HRES0 := Lib.hid hres0
    clear hres hres0 h3 k3 hF HZ1 HY1 HP1 H1 HR1 HB1
    obtain ⟨_, _, c2⟩ := R3.out.cells
    by_cases hF0 : F = 0
    · subst hF0
      have hpp := HRES0.out rfl
      have hcn := part_codec.canon hpp
      rw [List.append_nil] at hcn
      have hfew : FewR zL := few_of_sizes hcn.2 (N := n) (by have := HN.out; omega) (by rw [← hcn.1, HL.out]; exact Nat.le_refl _) rfl
      have hzl : zL.length ≤ 900000 := by
        have h4 := (pa_sizes hcn.2 (N := n) (by rw [← hcn.1, HL.out]; exact Nat.le_refl _)).2.1
        dsimp only at h4
        rw [List.length_map] at h4
        have := HN.out
        omega
      obtain ⟨u, hu⟩ : ∃ u, Pa.ok ⟨zk, zg, ros zL⟩ = u := ⟨_, rfl⟩
      have hgp : getPart l = (if u = true then .ok ⟨zk, zg, ros zL⟩ else .error 1) := by
        unfold getPart getP
        rw [if_neg (by have := HN.out; have := HL.out; omega), hpp]
        dsimp only
        rw [if_pos rfl, hu]
      have N := pcheck_any zk zg zA zL.length zc w3.heap.size zL w3 HR3.out.lies (Nat.le_refl _) (by omega) hfew
      rw [hu] at N
      have HNC := Lib.hid N; have HGP := Lib.hid hgp
      have k0 := cell_at (i := 0) HP3.out rfl
      have k1 := cell_at (i := 1) HP3.out rfl
      have k2 := cell_at (i := 2) HP3.out rfl
      clear hpp hcn hfew hzl hu hgp N HRES HRES0
      go_wp2_with fail
      clear c2
      refine HNC.out.mono ?_
      rintro x w4 ⟨rfl, b4⟩
      have HZ9 := Lib.hid ((b4.block _ (Array.getElem?_eq_some_iff.1 HZ3.out).1).trans HZ3.out)
      have HY9 := Lib.hid ((b4.block _ (Array.getElem?_eq_some_iff.1 HY3.out).1).trans HY3.out)
      have HP9 := Lib.hid ((b4.block _ (Array.getElem?_eq_some_iff.1 HP3.out).1).trans HP3.out)
      have HR9 := Lib.hid (HR3.out.on b4)
      have B4 := Lib.hid (B3.out.trans (b4.mono B3.out.size))
      clear b4 k0 k1 k2
      cases u with
      | false =>
        have k0 := cell_at (i := 0) HY9.out rfl
        have k1 := cell_at (i := 1) HY9.out rfl
        have k2 := cell_at (i := 2) HY9.out rfl
        have m9 := set3Q_block HZ9.out (.string ⟨#[]⟩) (.int .i64 0) (.slice none 0 0)
        have b9 := kept_set3Q (w := w4) w.heap.size (.string ⟨#[]⟩) (.int .i64 0) (.slice none 0 0)
        have z0 := cell_at (i := 0) HZ9.out rfl
        have z1 := cell_at (i := 1) HZ9.out rfl
        have z2 := cell_at (i := 2) HZ9.out rfl
        have y0 := thawed_at (i := 0) HZ9.out
        have y1 := thawed_at (i := 1) HZ9.out
        have y2 := thawed_at (i := 2) HZ9.out
        have B9 := Lib.hid (B4.out.trans (b9.below (fun k hk => by subst hk; exact Nat.le_refl _) B4.out.size))
        clear b9
        go_wp2
        generalize World.setCell (World.setCell (World.setCell w4 ⟨w.heap.size, 0, none⟩ (.string ⟨#[]⟩)) ⟨w.heap.size, 1, none⟩ (.int .i64 0)) ⟨w.heap.size, 2, none⟩ (.slice none 0 0) = w9 at m9 B9 ⊢
        clear z0 z1 z2 y0 y1 y2
        have q0 := cell_at (i := 0) m9 rfl
        have q1 := cell_at (i := 1) m9 rfl
        have q2 := cell_at (i := 2) m9 rfl
        refine bodyPost_ret (v := .tuple #[.agg #[.string ⟨#[]⟩, .int .i64 0, .slice none 0 0], .int .i64 1]) ?_ rfl ?_
        · simp [results, Tryz.results35, go_sem, q0, q1, q2]
        · rw [HGP.out]
          exact ⟨rfl, B9.out⟩
      | true =>
        have k0 := cell_at (i := 0) HP9.out rfl
        have k1 := cell_at (i := 1) HP9.out rfl
        have k2 := cell_at (i := 2) HP9.out rfl
        have m9 := set3Q_block HZ9.out (.string zk) (.int .i64 zg) (.slice zA zL.length zc)
        have b9 := kept_set3Q (w := w4) w.heap.size (.string zk) (.int .i64 zg) (.slice zA zL.length zc)
        have z0 := cell_at (i := 0) HZ9.out rfl
        have z1 := cell_at (i := 1) HZ9.out rfl
        have z2 := cell_at (i := 2) HZ9.out rfl
        have y0 := thawed_at (i := 0) HZ9.out
        have y1 := thawed_at (i := 1) HZ9.out
        have y2 := thawed_at (i := 2) HZ9.out
        have B9 := Lib.hid (show _ ∧ _ from ⟨B4.out.trans (b9.below (fun k hk => by subst hk; exact Nat.le_refl _) B4.out.size), (HR9.out.lower (w0 := w) B3'.out.size).kept1 b9 HZ9.out (by decide) (by decide)⟩)
        clear b9
        go_wp2
        generalize World.setCell (World.setCell (World.setCell w4 ⟨w.heap.size, 0, none⟩ (.string zk)) ⟨w.heap.size, 1, none⟩ (.int .i64 zg)) ⟨w.heap.size, 2, none⟩ (.slice zA zL.length zc) = w9 at m9 B9 ⊢
        clear z0 z1 z2 y0 y1 y2
        have q0 := cell_at (i := 0) m9 rfl
        have q1 := cell_at (i := 1) m9 rfl
        have q2 := cell_at (i := 2) m9 rfl
        refine bodyPost_ret (v := .tuple #[.agg #[.string zk, .int .i64 zg, .slice zA zL.length zc], .int .i64 0]) ?_ rfl ?_
        · simp [results, Tryz.results35, go_sem, q0, q1, q2]
        · rw [HGP.out]
          exact ⟨⟨zk, zg, zL, zA, zc⟩, rfl, rfl, B9.out.2, B9.out.1⟩
    · have e0 : (F == 0) = false := by simp; exact hF0
      have HRR := Lib.hid (HRES.out hF0)
      have HS8 := Lib.hid (show _ ∧ _ ∧ _ ∧ _ from ⟨cell_at (i := 0) HY3.out rfl, cell_at (i := 1) HY3.out rfl, cell_at (i := 2) HY3.out rfl, c2⟩)
      clear hF0 HRES HRES0
      go_wp2_with fail
      clear c2
      refine wp_region_held_drew (S := fun w' => w'.cell? ⟨w.heap.size + 1, 0, none⟩ = some (.string ⟨#[]⟩) ∧ w'.cell? ⟨w.heap.size + 1, 1, none⟩ = some (.int .i64 0) ∧ w'.cell? ⟨w.heap.size + 1, 2, none⟩ = some (.slice none 0 0) ∧ w'.cell? ⟨w.heap.size + 1 + 1, 2, none⟩ = some (.int .i64 F)) (by kernel_rfl) ?_ (fun hHeld => ?_)
      · exact HS8.out
      refine takesH [0, 1, 2] ?_
      repeat
        refine takesH_one (v := ?_) ?_ ?_
        rotate_left
        · first | (refine Or.inr ⟨by rfl, ?_⟩; with_reducible rfl) | (refine Or.inl ⟨by rfl, ?_⟩; intro wx hSw; (try dsimp only at hSw); first | (go_simp; first | done | with_reducible rfl) | (obtain ⟨_, _, _, _⟩ := hSw; go_simp; first | done | with_reducible rfl))
        try simp only [Act.put, List.getElem_toArray, List.getElem_cons_succ, List.getElem_cons_zero, List.setIfInBounds_toArray, List.set_cons_zero, List.set_cons_succ]
      refine takesH_nil ?_
      refine wpAnyH_ready (rs := [3]) (by kernel_rfl) (by simp) (AllReadyH.cons rfl (fun K hK => ?_) AllReadyH.nil)
      obtain ⟨U, hU⟩ : ∃ U, U = w3.drew := ⟨_, rfl⟩
      rw [← hU]
      have HZ : Hid (U.heap[w.heap.size]? = some (.cells #[.string ⟨#[]⟩, .int .i64 0, .slice none 0 0] 24)) := Lib.hid (by rw [hU]; exact HZ3.out)
      have hz4 : U.heap[w.heap.size + 1]? = some (.cells #[.string ⟨#[]⟩, .int .i64 0, .slice none 0 0] 24) := by rw [hU]; exact HY3.out
      have hr4 : RY U (w.heap.size + 1 + 1) A n c l j F := by rw [hU]; exact R3.out.drew
      have hbU : Below w.heap.size w U := by rw [hU]; exact B3.out.drew
      clear hU
      have z0 := cell_at (i := 0) HZ.out rfl
      have z1 := cell_at (i := 1) HZ.out rfl
      have z2 := cell_at (i := 2) HZ.out rfl
      have y0 := thawed_at (i := 0) HZ.out
      have y1 := thawed_at (i := 1) HZ.out
      have y2 := thawed_at (i := 2) HZ.out
      have m9 := set3Q_block HZ.out (.string ⟨#[]⟩) (.int .i64 0) (.slice none 0 0)
      have b9 := (kept_set3Q (w := U) w.heap.size (.string ⟨#[]⟩) (.int .i64 0) (.slice none 0 0))
      have B9 := Lib.hid (hbU.trans (b9.below (fun k hk => by subst hk; exact Nat.le_refl _) hbU.size))
      have hy9 := Kept.atQ b9 hz4 (by omega)
      have hb9 := Kept.atQ b9 hr4.blk (by omega)
      have S9 := Lib.hid (show _ ∧ _ ∧ _ ∧ _ from ⟨cell_at (i := 0) hy9 rfl, cell_at (i := 1) hy9 rfl, cell_at (i := 2) hy9 rfl, cell_at (i := 2) hb9 rfl⟩)
      clear hz4 hr4 hbU b9 hy9 hb9
      go_simp
      refine hK.out _ _ ?_ (fun hHeld => ?_)
      · exact S9.out
      clear hK K
      try simp only [Act.put, List.getElem_toArray, List.getElem_cons_succ, List.getElem_cons_zero, List.setIfInBounds_toArray, List.set_cons_zero, List.set_cons_succ]
      clear z0 z1 z2 y0 y1 y2
      refine takesH [4] ?_
      repeat
        refine takesH_one (v := ?_) ?_ ?_
        rotate_left
        · first | (refine Or.inr ⟨by rfl, ?_⟩; with_reducible rfl) | (refine Or.inl ⟨by rfl, ?_⟩; intro wx hSw; (try dsimp only at hSw); first | (go_simp; first | done | with_reducible rfl))
        try simp only [Act.put, List.getElem_toArray, List.getElem_cons_succ, List.getElem_cons_zero, List.setIfInBounds_toArray, List.set_cons_zero, List.set_cons_succ]
      refine takesH_nil ?_
      refine wpAnyH_done (by kernel_rfl) ?_ _
      generalize World.setCell (World.setCell (World.setCell U ⟨w.heap.size, 0, none⟩ (.string ⟨#[]⟩)) ⟨w.heap.size, 1, none⟩ (.int .i64 0)) ⟨w.heap.size, 2, none⟩ (.slice none 0 0) = w9 at m9 B9 S9 hHeld ⊢
      go_wp2
      have q0 := cell_at (i := 0) m9 rfl
      have q1 := cell_at (i := 1) m9 rfl
      have q2 := cell_at (i := 2) m9 rfl
      refine bodyPost_ret (v := .tuple #[.agg #[.string ⟨#[]⟩, .int .i64 0, .slice none 0 0], .int .i64 F]) ?_ rfl ?_
      · simp [results, Tryz.results35, go_sem, q0, q1, q2]
      · rw [HRR.out]
        exact ⟨rfl, B9.out⟩
end Go.Proofs.YthfanonjokpflaaGreat
set_option linter.unusedVariables false
set_option linter.unusedSimpArgs false
namespace Go.Proofs.YthfanonjokpflaaGreat
open Go Go.RowKit

theorem btS_of {x : BA} (h : x.bt.ok = true) : BtS x := by
  have hg := Bt.gd_of h
  rw [bt_ok] at h
  simp only [Bool.and_eq_true, decide_eq_true_iff, List.all_eq_true] at h
  obtain ⟨⟨⟨h1, h2⟩, h3, h4⟩, h5, h6⟩ := h
  refine ⟨fun y hy => ?_, fun y hy => ?_, fun y hy => ?_, by omega, by omega, by omega⟩
  · have h7 := h2 y hy
    unfold mutB nameB mutOf at h7
    simp only [Bool.and_eq_true, decide_eq_true_iff] at h7
    exact ⟨by omega, paS_of h7.2⟩
  · have h7 := h4 y hy
    unfold addB at h7
    simp only [Bool.and_eq_true, decide_eq_true_iff] at h7
    exact ⟨⟨by omega, h7.2.1⟩, by omega⟩
  · have h7 := h6 y hy
    unfold dropB at h7
    simp only [Bool.and_eq_true, decide_eq_true_iff] at h7
    exact ⟨by omega, by omega⟩
theorem bt_len {b : Bt} (h : b.ok = true) : (bE b).length ≤ 30000000 := by
  unfold Bt.ok at h
  simp only [Bool.and_eq_true, decide_eq_true_iff, List.all_eq_true] at h
  obtain ⟨h1, h2, h3, h4, h5, h6⟩ := h
  have l1 : (b.muts.flatMap mE).length ≤ b.muts.length * 246300 := flat_le fun m hm => by
    have h7 := h2 m hm
    unfold mutB nameB at h7
    simp only [Bool.and_eq_true, decide_eq_true_iff] at h7
    have := pa_len h7.2
    have h8 : (tE m.1).length ≤ 9 + 100 := tE_le h7.1.1.2 (by omega)
    have h9 : (numL (pE m.2).length).length ≤ 9 := numL_le (by omega)
    unfold mE
    simp only [List.length_append]
    omega
  have l2 : (b.add.flatMap aE).length ≤ b.add.length * 4200 := flat_le fun m hm => by
    have h7 := h4 m hm
    unfold addB at h7
    simp only [Bool.and_eq_true, decide_eq_true_iff] at h7
    have h8 : (tE m.2).length ≤ 9 + 4096 := tE_le h7.2.2 (by omega)
    have h9 : (numL m.1.toNat).length ≤ 9 := numL_le (by omega)
    unfold aE
    simp only [List.length_append]
    omega
  have l3 : (b.drop.flatMap fun v => numL v.toNat).length ≤ b.drop.length * 9 := flat_le fun m hm => by
    have h7 := h6 m hm
    unfold dropB at h7
    simp only [Bool.and_eq_true, decide_eq_true_iff] at h7
    exact numL_le (by omega)
  have n1 : (numL b.muts.length).length ≤ 9 := numL_le (by omega)
  have n2 : (numL b.add.length).length ≤ 9 := numL_le (by omega)
  have n3 : (numL b.drop.length).length ≤ 9 := numL_le (by omega)
  have m1 : b.muts.length * 246300 ≤ 64 * 246300 := Nat.mul_le_mul_right _ h1
  have m2 : b.add.length * 4200 ≤ 300 * 4200 := Nat.mul_le_mul_right _ h3
  have m3 : b.drop.length * 9 ≤ 300 * 9 := Nat.mul_le_mul_right _ h5
  unfold bE
  simp only [List.length_append]
  omega
theorem putBatch_no {b : Bt} (h : b.ok = false) : putBatch b = .error 1 := by
  unfold putBatch putP
  rw [if_neg (by rw [h]; simp)]
set_option maxRecDepth 8000 in
set_option maxHeartbeats 600000 in
theorem put_batch (x : BA) (B : Nat) (w : World) (hr : LiesB w B x) (hB : B ≤ w.heap.size) (hf : BtF x) :
    Calls Tryz.prog 29 #[bV x, .func (.func 19) #[] #[], .func (.func 30) #[] #[]] w (GivesP w (putBatch x.bt)) := by
  have bz := (Below.refl w.heap.size w).alloc (Nat.le_refl _) (bO x)
  have hz := heap_alloc_new w (bO x)
  obtain ⟨V, hV⟩ : ∃ V, V = w.alloc (bO x) := ⟨_, rfl⟩
  rw [← hV] at bz hz
  have hVs := bz.size
  have hc0 := cell_at (i := 0) hz rfl
  have hc1 := cell_at (i := 1) hz rfl
  have hc2 := cell_at (i := 2) hz rfl
  obtain ⟨u, hu⟩ : ∃ u, x.bt.ok = u := ⟨_, rfl⟩
  have C1 := checkBatch_any x B V (hr.below (bz.mono hB)) (by omega) hf
  rw [hu] at C1
  have HU := Lib.hid hu; have HZ := Lib.hid hz; have BZ := Lib.hid bz; have HC1 := Lib.hid C1; have HR := Lib.hid hr; have HB := Lib.hid hB; have HVS := Lib.hid hVs
  obtain ⟨R, hR⟩ : ∃ R, putBatch x.bt = R := ⟨_, rfl⟩
  rw [hR]
  have HRR := Lib.hid hR
  clear hu hz bz C1 hr hf hVs hR
  go_enter Tryz.func29, Tryz.ntmps29
  go_wp2_with fail
  try unfold bO at hV
  rw [← hV]
  clear hV
  refine (HC1.out).mono ?_
  rintro e w1 ⟨rfl, b1⟩
  have hz1 := (b1.block _ (Array.getElem?_eq_some_iff.1 HZ.out).1).trans HZ.out
  have B1 := Lib.hid b1
  clear hc0 hc1 hc2 b1
  have hc0 := cell_at (i := 0) hz1 rfl
  have hc1 := cell_at (i := 1) hz1 rfl
  have hc2 := cell_at (i := 2) hz1 rfl
  have HZ1 := Lib.hid hz1
  clear hz1
  cases u with
  | false =>
    go_wp2
    go_ret2
    rw [← HRR.out, putBatch_no HU.out]
    exact ⟨rfl, next BZ.out B1.out⟩
  | true =>
    have hps := btS_of HU.out
    have hle := bt_len HU.out
    obtain ⟨P, hP⟩ : ∃ P, bE x.bt = P := ⟨_, rfl⟩
    have hb1 := next BZ.out B1.out
    have N := putBatch_any w1.heap.size (.slice none 0 0) [] x.AM x.AN x.AD x.M.length x.cM x.N.length x.cN x.D.length x.cD B x.M x.N x.D w1 (own_nilY _ _) (Nat.le_refl _) (by have h := HR.out.below (hb1.mono HB.out); exact ⟨h.muts, h.notes, h.drops⟩) (by have := hb1.size; have := HB.out; omega) ⟨hps.muts, hps.notes, hps.drops⟩ ⟨hps.lm, hps.ln, hps.ld⟩ (by rw [List.nil_append]; show (bE x.bt).length ≤ _; omega)
    rw [List.nil_append] at N
    have e : bE ⟨muts x.M, x.N, x.D⟩ = P := hP
    rw [e] at N
    rw [hP] at hle
    have HP : putBatch x.bt = (if 262144 < P.length then .error 2 else .ok P) := by
      unfold putBatch putP
      rw [if_pos HU.out, hP]
    rw [HRR.out] at HP
    have HN := Lib.hid N; have HPP := Lib.hid HP; have HB1 := Lib.hid hb1; have HLE := Lib.hid hle
    clear hps hle HP hP hb1 N e
    go_wp2_with fail
    refine (HN.out).mono ?_
    rintro e w2 ⟨v2, rfl, l2⟩
    have hb2 := l2.base (own_nilY _ _) (Nat.le_refl _)
    obtain ⟨A2, n2, c2, rfl, hl2, g1, g2, g3, ho⟩ := l2.own.slice
    have hn2 : n2 ≤ 30000000 := by have := HLE.out; omega
    have HG : Hid (P.length = n2 ∧ n2 ≤ c2 ∧ c2 ≤ maxLen ∧ (A2 = none → c2 = 0) ∧ w2.ownsRow w.heap.size 5 1 (.slice A2 n2 c2) n2 (Lib.byteCells P) ∧ Below w.heap.size w w2) := Lib.hid ⟨hl2, g1, g2, g3, own_down ho HB1.out.size, next HB1.out hb2⟩
    clear hl2 g1 g2 g3 ho hb2 l2 hc0 hc1 hc2
    by_cases h8 : 262144 < n2
    · have d1 : decide ((262144 : Int) < (n2 : Int)) = true := by simp; omega
      have d2 : decide (262144 < n2) = true := by simp; omega
      have hRe : R = .error 2 := by rw [HPP.out, HG.out.1, if_pos h8]
      subst hRe
      clear h8
      go_wp2
      go_ret2
      exact ⟨rfl, HG.out.2.2.2.2.2⟩
    · have d1 : decide ((262144 : Int) < (n2 : Int)) = false := by simp; omega
      have d2 : decide (262144 < n2) = false := by simp; omega
      have hRe : R = .ok P := by rw [HPP.out, HG.out.1, if_neg h8]
      subst hRe
      clear h8
      go_wp2
      go_ret2
      exact ⟨A2, n2, c2, rfl, HG.out⟩
set_option maxRecDepth 8000 in
set_option maxHeartbeats 600000 in
theorem pack_batch (x : BA) (B : Nat) (w : World) (hr : LiesB w B x) (hB : B ≤ w.heap.size) (hf : BtF x) :
    Calls Tryz.prog 10 #[bV x] w (GivesP w (putBatch x.bt)) := by
  have bz := (Below.refl w.heap.size w).alloc (Nat.le_refl _) (bO x)
  have hz := heap_alloc_new w (bO x)
  obtain ⟨V, hV⟩ : ∃ V, V = w.alloc (bO x) := ⟨_, rfl⟩
  rw [← hV] at bz hz
  have hVs := bz.size
  have hc0 := cell_at (i := 0) hz rfl
  have hc1 := cell_at (i := 1) hz rfl
  have hc2 := cell_at (i := 2) hz rfl
  have N := put_batch x B V (hr.below (bz.mono hB)) (by omega) hf
  have BZ := Lib.hid bz; have HN := Lib.hid N
  obtain ⟨R, hR⟩ : ∃ R, putBatch x.bt = R := ⟨_, rfl⟩
  rw [hR] at HN ⊢
  clear hz bz hr hf hVs N hR hB
  go_enter Tryz.func10, Tryz.ntmps10
  go_wp2_with fail
  try unfold bO at hV
  rw [← hV]
  clear hV
  refine (HN.out).mono ?_
  intro e w1 hg
  cases R with
  | error y =>
    obtain ⟨rfl, b1⟩ := hg
    have B1 := Lib.hid b1
    clear b1
    go_wp2
    go_ret2
    exact ⟨rfl, next BZ.out B1.out⟩
  | ok b =>
    obtain ⟨A2, n2, c2, rfl, h1, h2, h3, h4, h5, h6⟩ := hg
    have HG : Hid (b.length = n2 ∧ n2 ≤ c2 ∧ c2 ≤ maxLen ∧ (A2 = none → c2 = 0) ∧ w1.ownsRow w.heap.size 5 1 (.slice A2 n2 c2) n2 (Lib.byteCells b) ∧ Below w.heap.size w w1) := Lib.hid ⟨h1, h2, h3, h4, own_down h5 BZ.out.size, next BZ.out h6⟩
    clear h1 h2 h3 h4 h5 h6
    go_wp2
    go_ret2
    exact ⟨A2, n2, c2, rfl, HG.out⟩
end Go.Proofs.YthfanonjokpflaaGreat
set_option linter.unusedVariables false
set_option linter.unusedSimpArgs false
namespace Go.Proofs.YthfanonjokpflaaGreat
open Go Go.RowKit

abbrev zRow (l : List Int) : List Value := l.map (Value.int .i64)
theorem RdZ.ofOwn {w : World} {base n : Nat} {A : Option Addr} {c : Nat} {l : List Int} (h : w.ownsRow base 3 1 (.slice A n c) n (zRow l)) : RdZ w w.heap.size A n l := by
  have hl : l.length = n := by have := h.1; rw [List.length_map] at this; omega
  rcases h.2 with ⟨e, rfl⟩ | ⟨g, cap, cur, e, hb, hh, hn, hm, hs, ht⟩
  · exact ⟨hl, fun h => absurd h (by omega)⟩
  · injection e with e1 e2 e3
    subst e1
    refine ⟨hl, fun _ => ⟨g, 0, rfl, (Array.getElem?_eq_some_iff.1 hh).1, fun j hj => ?_⟩⟩
    have := h.cells (g := g) rfl j (.int .i64 l[j]) (by simp [zRow, hj])
    rw [Addr.add_lit] at this
    exact this
theorem RdZ.lay1 (w : World) (x : Int) : RdZ (w.alloc (.cells #[.int .i64 x] 3)) (w.heap.size + 1) (some ⟨w.heap.size, 0, none⟩) 1 [x] := by
  refine ⟨rfl, fun _ => ⟨_, 0, rfl, by omega, fun j hj => ?_⟩⟩
  have : j = 0 := by simpa using hj
  subst this
  exact cell_at (i := 0) (heap_alloc_new w _) rfl
theorem RdZ.up {w : World} {B B' n : Nat} {A : Option Addr} {l : List Int} (h : RdZ w B A n l) (hB : B ≤ B') : RdZ w B' A n l :=
  ⟨h.1, fun hn => by
    obtain ⟨g, o, e, hg, hc⟩ := h.2 hn
    exact ⟨g, o, e, by omega, hc⟩⟩
theorem infoZi : (Tryz.prog.info? 3).map (fun i => (i.zero, i.size, i.bytes)) = some (some (.int .i64 0), 1, 8) := by kernel_rfl
end Go.Proofs.YthfanonjokpflaaGreat
set_option linter.unusedVariables false
set_option linter.unusedSimpArgs false
namespace Go.Proofs.YthfanonjokpflaaGreat
open Go Go.RowKit

theorem own_nilZ (w : World) (b : Nat) : w.ownsRow b 3 1 (.slice none 0 0) 0 (zRow []) := World.ownsRow_nil w b _ _
theorem zRow_one' (l : List Int) : ∀ u ∈ zRow l, u.oneCell' = true := fun u hu => by
  obtain ⟨x, _, rfl⟩ := List.mem_map.1 hu
  rfl
theorem RdZ.allZ {w : World} {B n : Nat} {ad : Addr} {l : List Int} (h : RdZ w B (some ad) n l) : ∀ j u, (zRow l)[j]? = some u → w.cell? (ad.add j) = some u := by
  intro j u hu
  have hj : j < l.length := by
    rcases Nat.lt_or_ge j l.length with h1 | h1
    · exact h1
    · rw [List.getElem?_eq_none (by rw [List.length_map]; exact h1)] at hu; cases hu
  obtain ⟨g, o, e, _, hc⟩ := h.2 (by have := h.1; omega)
  injection e with e
  subst e
  rw [Addr.add_lit]
  have : u = .int .i64 l[j] := by
    rw [List.getElem?_map, List.getElem?_eq_getElem hj] at hu
    injection hu with hu
    exact hu.symm
  rw [this]
  exact hc j hj
/-- append(own, whole numbers...). -/
theorem run_appZ {w : World} (base : Nat) {v : Value} {n : Nat} {l : List Int} (hown : w.ownsRow base 3 1 v n (zRow l)) {B m c : Nat} {A : Option Addr} {k : List Int} (hr : RdZ w B A m k)
    (hsz : n + m ≤ 1000000) (hbase : base ≤ w.heap.size) (ty : TypeId) :
    ∃ v' w', (Builtin.append_ #[27, 27] ty #[v, .slice A m c]).run Tryz.prog w = .ok v' w' ∧ (w'.ownsRow base 3 1 v' (n + m) (zRow (l ++ k)) ∧ (w.grownBy w' v.ownBlock ∧ (v'.ownBlock = v.ownBlock ∨ v'.ownBlock = some w.heap.size))) := by
  obtain ⟨i, hi, hz0, hz1, hz2⟩ := info_parts infoZi
  cases A with
  | none =>
    have h0 : m = 0 := by
      rcases Nat.eq_zero_or_pos m with h1 | h1
      · exact h1
      · obtain ⟨g, o, e, _⟩ := hr.2 h1; cases e
    subst h0
    obtain rfl : k = [] := List.eq_nil_of_length_eq_zero hr.1
    refine ⟨v, w, ?_, by simpa using hown, ⟨rfl, rfl, rfl, Nat.le_refl _, fun _ _ _ => rfl⟩, Or.inl rfl⟩
    rcases hown.2 with ⟨rfl, rfl⟩ | ⟨g, cap, cur, rfl, _, _, hnc, _⟩
    · simp [Builtin.append_, run_underlying Tryz.underlying27, sizeOf, typeInfo, hi, Builtin.lenOf, Builtin.firstCells]
    · simp [Builtin.append_, run_underlying Tryz.underlying27, sizeOf, typeInfo, hi, Builtin.lenOf, Builtin.firstCells, hnc, storeCells]
  | some ad =>
    obtain ⟨v', w', h1, h2, h3, _, h5⟩ := run_append_own_at (P := Tryz.prog) w base 27 ty 3 i (.int .i64 0) 1 8 Tryz.underlying27 hi hz0 hz1 hz2 rfl (by decide) v n (zRow l) hown ad m c (zRow k)
      (by rw [List.length_map, hr.1]; omega) hr.allZ (zRow_one' k) (by unfold maxLen; omega) (by omega) hbase
    exact ⟨v', w', h1, by unfold zRow; rw [List.map_append]; exact h2, h3, h5⟩
theorem set2Q_block {w : World} {q : Nat} {v0 v1 : Value} {T : TypeId} (h : w.heap[q]? = some (.cells #[v0, v1] T (0, 0))) (u0 u1 : Value) :
    ((w.setCell ⟨q, 0, none⟩ u0).setCell ⟨q, 1, none⟩ u1).heap[q]? = some (.cells #[u0, u1] T (0, 0)) := by
  have h0 := Joins.block_setCell (i := 0) h u0
  simp only [List.setIfInBounds_toArray, List.set_cons_zero, List.set_cons_succ] at h0
  have h1 := Joins.block_setCell (i := 1) h0 u1
  simpa only [List.setIfInBounds_toArray, List.set_cons_zero, List.set_cons_succ] using h1
theorem kept_set2Q {w : World} (q : Nat) (u0 u1 : Value) : Kept (fun k => k = q) w ((w.setCell ⟨q, 0, none⟩ u0).setCell ⟨q, 1, none⟩ u1) :=
  (Kept.setCell (fun k => k = q) w ⟨q, 0, none⟩ u0 rfl).trans (Kept.setCell (fun k => k = q) _ ⟨q, 1, none⟩ u1 rfl) fun _ h => Or.inl h
theorem set4T_block {w : World} {q : Nat} {v0 v1 v2 v3 : Value} {T : TypeId} (h : w.heap[q]? = some (.cells #[v0, v1, v2, v3] T (0, 0))) (u0 u1 u2 u3 : Value) :
    ((((w.setCell ⟨q, 0, none⟩ u0).setCell ⟨q, 1, none⟩ u1).setCell ⟨q, 2, none⟩ u2).setCell ⟨q, 3, none⟩ u3).heap[q]? = some (.cells #[u0, u1, u2, u3] T (0, 0)) := by
  have m := Joins.block_setCell (i := 0) h u0
  simp only [List.setIfInBounds_toArray, List.set_cons_zero, List.set_cons_succ] at m
  have m1 := Joins.block_setCell (i := 1) m u1
  simp only [List.setIfInBounds_toArray, List.set_cons_zero, List.set_cons_succ] at m1
  have m2 := Joins.block_setCell (i := 2) m1 u2
  simp only [List.setIfInBounds_toArray, List.set_cons_zero, List.set_cons_succ] at m2
  have m3 := Joins.block_setCell (i := 3) m2 u3
  simp only [List.setIfInBounds_toArray, List.set_cons_zero, List.set_cons_succ] at m3
  exact m3
set_option maxRecDepth 8000 in
set_option maxHeartbeats 2000000 in
theorem ynote (q i n c : Nat) (e : Int) (A : Option Addr) (l : Bs) (w : World) (h : RY w q A n c l i e) (hi : i ≤ n) (hs : n ≤ 1000000000) :
    Calls Tryz.prog 81 #[.pointer (some ⟨q, 0, none⟩)] w fun x w' => ∃ (y : NA) (j : Nat) (f : Int), x = .returned (.agg #[.int .i64 y.1, .string y.2]) ∧ y.2.size ≤ n ∧ j ≤ n ∧ RY w' q A n c l j f ∧ KeptQ q w w' ∧ Went addP l i e y j f := by
  have hqw := h.lt
  have bz := (Below.refl w.heap.size w).alloc (Nat.le_refl _) (.cells #[.int .i64 0, .string ⟨#[]⟩] 60)
  have hz := heap_alloc_new w (.cells #[.int .i64 0, .string ⟨#[]⟩] 60)
  have h0 := h.below bz
  obtain ⟨V, hV⟩ : ∃ V, V = w.alloc (.cells #[.int .i64 0, .string ⟨#[]⟩] 60) := ⟨_, rfl⟩
  rw [← hV] at bz hz h0
  have H0 := Lib.hid h0; have HZ0 := Lib.hid hz; have BZ := Lib.hid bz; have HQ := Lib.hid hqw; have HS := Lib.hid hs
  clear h bz hz h0 hqw hs
  go_enter Tryz.func81, Tryz.ntmps81
  go_wp2_with fail
  rw [← hV]
  clear hV
  refine (ystamp q i n c e A l _ H0.out hi HS.out).mono ?_
  rintro x w1 ⟨g, j1, f1, rfl, _, _, hj1, h1, k1, hw1⟩
  have H1 := Lib.hid h1; have HZ1 := Lib.hid (Kept.atQ k1 HZ0.out (by have := HQ.out; omega)); have K1 := Lib.hid (KeptQ.on (Kept.of_below BZ.out _) k1); have HW1 := Lib.hid hw1; have HJ1 := Lib.hid hj1
  clear h1 k1 hw1 hj1 hi
  go_wp2_with fail
  refine (ytext q j1 n c f1 A l _ H1.out HJ1.out HS.out).mono ?_
  rintro x w2 ⟨v, j2, f2, rfl, hv, hj2, h2, k2, hw2⟩
  have HZ2 := Lib.hid (Kept.atQ k2 HZ1.out (by have := HQ.out; omega))
  have z0 := cell_at (i := 0) HZ2.out rfl
  have z1 := cell_at (i := 1) HZ2.out rfl
  have y0 := thawed_at (i := 0) HZ2.out
  have y1 := thawed_at (i := 1) HZ2.out
  have m9 := set2Q_block HZ2.out (.int .i64 g) (.string v)
  have n9 := kept_set2Q (w := w2) w.heap.size (.int .i64 g) (.string v)
  have R9 := Lib.hid (RY.other h2 n9 HQ.out)
  have K9 := Lib.hid ((K1.out.on k2).own n9 (Nat.le_refl _))
  have HW : Hid (Went addP l i e ((g, v) : Int × ByteArray) j2 f2) := Lib.hid (HW1.out.bind (hw2.bind (Went.ret _ hw2.len f2)))
  have HV := Lib.hid hv; have HJ := Lib.hid hj2
  clear n9 h2 k2 hw2 hv hj2
  go_wp2
  generalize (World.setCell w2 ⟨w.heap.size, 0, none⟩ (.int .i64 g)).setCell ⟨w.heap.size, 1, none⟩ (.string v) = w9 at m9 K9 R9 ⊢
  clear z0 z1 y0 y1
  have q0 := cell_at (i := 0) m9 rfl
  have q1 := cell_at (i := 1) m9 rfl
  refine bodyPost_ret (v := .agg #[.int .i64 g, .string v]) ?_ rfl ?_
  · simp [results, Tryz.results81, go_sem, q0, q1]
  · exact ⟨(g, v), j2, f2, rfl, HV.out, HJ.out, R9.out, K9.out, HW.out⟩
/-- What is to be known of the reader of inner partitions. -/
def InnerOk : Prop := ∀ (q i n c : Nat) (e : Int) (A : Option Addr) (l : Bs) (w : World), RY w q A n c l i e → i ≤ n → n ≤ 900000 →
    Calls Tryz.prog 101 #[.pointer (some ⟨q, 0, none⟩)] w fun x w' => ∃ (z : PA) (j : Nat) (f : Int), x = .returned (.agg #[.string z.k, .int .i64 z.g, .slice z.A z.L.length z.c]) ∧ RowsQ w w' z.A z.L.length z.c z.L ∧ j ≤ n ∧ RY w' q A n c l j f ∧ KeptQ q w w' ∧ Went (nestP partP) l i e ⟨z.k, z.g, ros z.L⟩ j f
theorem RowsQ.grown {w0 w w' : World} {A : Option Addr} {m c b n size : Nat} {T : TypeId} {v : Value} {xs : List Value} {M : List RA} (h : RowsQ w0 w A m c M) (ho : w.ownsRow b T size v n xs) (hT : 99 ≠ T) (hT' : 57 ≠ T) (hg : w.grownBy w' v.ownBlock) : RowsQ w0 w' A m c M :=
  ⟨own_kept h.own fun g hg2 => hg.block g (own_block_lt h.own g hg2) fun hp => by
    obtain ⟨cs, h1⟩ := own_tag h.own g hg2
    obtain ⟨cs', h2⟩ := own_tag ho g hp.symm
    rw [h1] at h2
    injection h2 with h2
    injection h2 with _ h3 _
    exact hT' h3, fun x hx => (h.cols x hx).grownQ ho hT hg⟩
/-- What is joined to partitions, of one's own, down to the columns. -/
structure MutsQ (w0 w : World) (A : Option Addr) (m c : Nat) (M : List MA) : Prop where
  own : w.ownsRow w0.heap.size 91 4 (.slice A m c) m (mRow M)
  parts : ∀ x ∈ M, RowsQ w0 w x.p.A x.p.L.length x.p.c x.p.L
theorem MutsQ.nil (w0 w : World) : MutsQ w0 w none 0 0 [] := ⟨own_nilM _ _, fun x hx => by cases hx⟩
theorem MutsQ.on {w0 w w' : World} {A : Option Addr} {m c : Nat} {M : List MA} (h : MutsQ w0 w A m c M) (hb : Below w.heap.size w w') : MutsQ w0 w' A m c M := ⟨own_below h.own hb, fun x hx => (h.parts x hx).on hb⟩
theorem MutsQ.kept3 {w0 w w' : World} {A : Option Addr} {m c r : Nat} {M : List MA} {cs : Array Value} {e : TypeId} (h : MutsQ w0 w A m c M) (hk : Kept (fun k => k = r) w w') (hr : w.heap[r]? = some (.cells cs e (0, 0))) (h1 : 99 ≠ e) (h2 : 57 ≠ e) (h3 : 91 ≠ e) : MutsQ w0 w' A m c M :=
  ⟨own_keptQ h.own hk hr h3, fun x hx => (h.parts x hx).kept1 hk hr h1 h2⟩
theorem MutsQ.kept1 {w0 w w' : World} {A : Option Addr} {m c r : Nat} {M : List MA} {cs : Array Value} (h : MutsQ w0 w A m c M) (hk : Kept (fun k => k = r) w w') (hr : w.heap[r]? = some (.cells cs 115 (0, 0))) : MutsQ w0 w' A m c M := h.kept3 hk hr (by decide) (by decide) (by decide)
theorem MutsQ.snoc {w0 w w' : World} {A A' : Option Addr} {m c c' : Nat} {M : List MA} {y : MA} (h : MutsQ w0 w A m c M) (hy : RowsQ w0 w y.p.A y.p.L.length y.p.c y.p.L) (ho : w'.ownsRow w0.heap.size 91 4 (.slice A' (m + 1) c') (m + 1) (mRow (M ++ [y]))) (hg : w.grownBy w' (Value.slice A m c).ownBlock) : MutsQ w0 w' A' (m + 1) c' (M ++ [y]) :=
  ⟨ho, fun x hx => by
    rcases List.mem_append.1 hx with h1 | h1
    · exact (h.parts x h1).grown h.own (by decide) (by decide) hg
    · rw [List.mem_singleton.1 h1]; exact hy.grown h.own (by decide) (by decide) hg⟩
theorem MutsQ.lower {w0 w1 w : World} {A : Option Addr} {m c : Nat} {M : List MA} (h : MutsQ w1 w A m c M) (hb : w0.heap.size ≤ w1.heap.size) : MutsQ w0 w A m c M := ⟨own_down h.own hb, fun x hx => (h.parts x hx).lower hb⟩
theorem MutsQ.lies {w0 w : World} {A : Option Addr} {m c : Nat} {M : List MA} (h : MutsQ w0 w A m c M) : LiesM w w.heap.size A m c M := by
  obtain ⟨_, _, e, h1, _⟩ := own_slice h.own
  injection e with _ _ e3
  subst e3
  exact ⟨RdM.of_own h.own, fun x hx => (h.parts x hx).lies, h1⟩
set_option maxRecDepth 8000 in
set_option maxHeartbeats 2000000 in
theorem ymut (YI : InnerOk) (q i n c : Nat) (e : Int) (A : Option Addr) (l : Bs) (w : World) (h : RY w q A n c l i e) (hi : i ≤ n) (hs : n ≤ 900000) :
    Calls Tryz.prog 79 #[.pointer (some ⟨q, 0, none⟩)] w fun x w' => ∃ (y : MA) (j : Nat) (f : Int), x = .returned (.agg #[.string y.tb, .string y.p.k, .int .i64 y.p.g, .slice y.p.A y.p.L.length y.p.c]) ∧ RowsQ w w' y.p.A y.p.L.length y.p.c y.p.L ∧ j ≤ n ∧ RY w' q A n c l j f ∧ KeptQ q w w' ∧ Went mutP l i e (mutOf y) j f := by
  have hqw := h.lt
  have bz := (Below.refl w.heap.size w).alloc (Nat.le_refl _) (.cells #[.string ⟨#[]⟩, .string ⟨#[]⟩, .int .i64 0, .slice none 0 0] 91)
  have hz := heap_alloc_new w (.cells #[.string ⟨#[]⟩, .string ⟨#[]⟩, .int .i64 0, .slice none 0 0] 91)
  have h0 := h.below bz
  obtain ⟨V, hV⟩ : ∃ V, V = w.alloc (.cells #[.string ⟨#[]⟩, .string ⟨#[]⟩, .int .i64 0, .slice none 0 0] 91) := ⟨_, rfl⟩
  rw [← hV] at bz hz h0
  have H0 := Lib.hid h0; have HZ0 := Lib.hid hz; have BZ := Lib.hid bz; have HQ := Lib.hid hqw; have HS := Lib.hid hs
  clear h bz hz h0 hqw hs
  go_enter Tryz.func79, Tryz.ntmps79
  go_wp2_with fail
  rw [← hV]
  clear hV
  refine (ytext q i n c e A l _ H0.out hi (by have := HS.out; omega)).mono ?_
  rintro x w1 ⟨v, j1, f1, rfl, hv, hj1, h1, k1, hw1⟩
  have H1 := Lib.hid h1; have HZ1 := Lib.hid (Kept.atQ k1 HZ0.out (by have := HQ.out; omega)); have K1 := Lib.hid (KeptQ.on (Kept.of_below BZ.out _) k1); have HW1 := Lib.hid hw1; have HJ1 := Lib.hid hj1
  clear h1 k1 hw1 hv hj1 hi
  go_wp2_with fail
  refine (YI q j1 n c f1 A l _ H1.out HJ1.out HS.out).mono ?_
  rintro x w5 ⟨⟨zk, zg, zL, zA, zc⟩, j5, f5, rfl, ho5, hj5, h5, k5, hw5⟩
  dsimp only at ho5 hw5
  have HZ5 := Lib.hid (Kept.atQ k5 HZ1.out (by have := HQ.out; omega))
  have z0 := cell_at (i := 0) HZ5.out rfl
  have z1 := cell_at (i := 1) HZ5.out rfl
  have z2 := cell_at (i := 2) HZ5.out rfl
  have z3 := cell_at (i := 3) HZ5.out rfl
  have y0 := thawed_at (i := 0) HZ5.out
  have y1 := thawed_at (i := 1) HZ5.out
  have y2 := thawed_at (i := 2) HZ5.out
  have y3 := thawed_at (i := 3) HZ5.out
  have m9 := set4T_block HZ5.out (.string v) (.string zk) (.int .i64 zg) (.slice zA zL.length zc)
  have n9 := kept_set4q (w := w5) w.heap.size (.string v) (.string zk) (.int .i64 zg) (.slice zA zL.length zc)
  have R9 := Lib.hid (RY.other h5 n9 HQ.out)
  have K9 := Lib.hid ((K1.out.on k5).own n9 (Nat.le_refl _))
  have O9 := Lib.hid ((ho5.lower (w0 := w) K1.out.size).kept1 n9 HZ5.out (by decide) (by decide))
  have HW : Hid (Went mutP l i e ((v, ⟨zk, zg, ros zL⟩) : ByteArray × Pa) j5 f5) := Lib.hid (HW1.out.bind (hw5.bind (Went.ret _ hw5.len f5)))
  have HJ := Lib.hid hj5
  clear n9 h5 k5 hw5 hj5 ho5
  go_wp2
  generalize World.setCell (World.setCell (World.setCell (World.setCell w5 ⟨w.heap.size, 0, none⟩ (.string v)) ⟨w.heap.size, 1, none⟩ (.string zk)) ⟨w.heap.size, 2, none⟩ (.int .i64 zg)) ⟨w.heap.size, 3, none⟩ (.slice zA zL.length zc) = w9 at m9 K9 R9 O9 ⊢
  clear z0 z1 z2 z3 y0 y1 y2 y3
  have q0 := cell_at (i := 0) m9 rfl
  have q1 := cell_at (i := 1) m9 rfl
  have q2 := cell_at (i := 2) m9 rfl
  have q3 := cell_at (i := 3) m9 rfl
  refine bodyPost_ret (v := .agg #[.string v, .string zk, .int .i64 zg, .slice zA zL.length zc]) ?_ rfl ?_
  · simp [results, Tryz.results79, go_sem, q0, q1, q2, q3]
  · exact ⟨⟨v, ⟨zk, zg, zL, zA, zc⟩⟩, j5, f5, rfl, O9.out, HJ.out, R9.out, K9.out, HW.out⟩
set_option maxRecDepth 8000 in
set_option maxHeartbeats 2000000 in
theorem ymuts (YI : InnerOk) (q i n c : Nat) (e : Int) (A : Option Addr) (l : Bs) (w : World) (h : RY w q A n c l i e) (hi : i ≤ n) (hs : n ≤ 900000) :
    Calls Tryz.prog 78 #[.pointer (some ⟨q, 0, none⟩), .func (.func 79) #[] #[]] w fun x w' => ∃ (Ks : List MA) (A' : Option Addr) (m c' j : Nat) (f : Int), x = .returned (.slice A' m c') ∧ MutsQ w w' A' m c' Ks ∧ Ks.length = m ∧ m ≤ n ∧ j ≤ n ∧ RY w' q A n c l j f ∧ KeptQ q w w' ∧ Went (listP mutP) l i e (muts Ks) j f := by
  have hqw := h.lt
  have HQ := Lib.hid hqw; have HS := Lib.hid hs
  go_enter Tryz.func78, Tryz.ntmps78
  go_wp2_with fail
  refine (ycount q i n c e A l w h hi (by omega)).mono ?_
  rintro x w1 ⟨m, j0, f0, rfl, hm, hf00, hj0, h1, k1, hw1⟩
  have hmn : m ≤ n := by omega
  have HM := Lib.hid hmn; have HF0 := Lib.hid hf00; have HJ0 := Lib.hid hj0; have H1 := Lib.hid h1; have K1 := Lib.hid k1; have HW1 := Lib.hid hw1
  clear hm hf00 hj0 h1 k1 hw1 h hi hs hqw hmn
  go_wp2_with fail
  go_loopw [5, 9] (fun a i' wr => ∃ (t : Nat) (Ks : List MA) (A' : Option Addr) (c' j : Nat) (f : Int), a = .slice A' t c' ∧ i' = .int .i64 t ∧ Ks.length = t ∧ t ≤ m ∧ (f ≠ 0 → m = 0) ∧ j ≤ n ∧ RY wr q A n c l j f ∧ KeptQ q w wr ∧ (MutsQ w wr A' t c' Ks) ∧ Loops mutP l m j0 f0 (muts Ks) j f) (fun _ i' _ => m - (intOf i').toNat)
  case atStart => exact ⟨0, [], none, 0, j0, f0, rfl, rfl, rfl, Nat.zero_le _, HF0.out, HJ0.out, H1.out, K1.out, MutsQ.nil _ _, Loops.start _ _ HW1.out.len _⟩
  case round =>
    obtain ⟨t, Ks, A3, c3, j, f, rfl, rfl, ht, htm, hfm, hj, hr, hk, hmine, hl⟩ := hrel
    have i8 : m ≤ 900000 := by have := HM.out; have := HS.out; omega
    have HRY := Lib.hid hr; have HKR := Lib.hid hk; have HLR := Lib.hid hl; have HT := Lib.hid ht; have HJ := Lib.hid hj; have HFM := Lib.hid hfm
    clear hr hk hl ht hj hfm
    by_cases hlt : t < m
    · have i1 : (t : Int) < m := by omega
      have hf : f = 0 := Decidable.byContradiction fun hf => by have := HFM.out hf; omega
      subst hf
      have HMI := Lib.hid hmine
      clear hmine
      go_wp2_with fail
      refine (ymut YI q j n c 0 A l wr HRY.out HJ.out (by have := HS.out; omega)).mono ?_
      rintro x w2 ⟨y, j2, f2, rfl, hoc, hj2, h2, k2, hw2⟩
      have hmine := HMI.out
      have hm2 := hmine.kept1 k2 HRY.out.blk
      have hk2 := HKR.out.on k2
      have ba := (Below.refl w2.heap.size w2).alloc (Nat.le_refl _) (.cells #[.string y.tb, .string y.p.k, .int .i64 y.p.g, .slice y.p.A y.p.L.length y.p.c] 91)
      have hstep := HLR.out.step (by rw [List.length_map, HT.out]; exact hlt) hw2
      by_cases hf2 : f2 = 0
      · subst hf2
        obtain ⟨U, hU⟩ : ∃ U, U = w2.alloc (.cells #[.string y.tb, .string y.p.k, .int .i64 y.p.g, .slice y.p.A y.p.L.length y.p.c] 91) := ⟨_, rfl⟩
        have ba2 := (Below.refl (w2.alloc (.cells #[.string y.tb, .string y.p.k, .int .i64 y.p.g, .slice y.p.A y.p.L.length y.p.c] 91)).heap.size (w2.alloc (.cells #[.string y.tb, .string y.p.k, .int .i64 y.p.g, .slice y.p.A y.p.L.length y.p.c] 91))).alloc (Nat.le_refl _) (.cells #[.string y.tb, .string y.p.k, .int .i64 y.p.g, .slice y.p.A y.p.L.length y.p.c] 91)
        have hm8 := (hm2.on ba).on ba2
        have h8 := (h2.below ba).below ba2
        have hk8 := (hk2.new ba).new ba2
        have hsz8 : (w2.alloc (.cells #[.string y.tb, .string y.p.k, .int .i64 y.p.g, .slice y.p.A y.p.L.length y.p.c] 91)).heap.size = w2.heap.size + 1 := by simp
        have hrd8 := RdM.laid (w2.alloc (.cells #[.string y.tb, .string y.p.k, .int .i64 y.p.g, .slice y.p.A y.p.L.length y.p.c] 91)) y
        try rw [hsz8] at hrd8
        have HRD8 := Lib.hid hrd8
        clear hU hsz8 hrd8
        have HOC := Lib.hid (((hoc.lower HKR.out.size).on ba).on ba2)
        have HM8 := Lib.hid hm8; have H8 := Lib.hid h8; have HK8 := Lib.hid hk8; have HST := Lib.hid hstep; have HJ2 := Lib.hid hj2
        obtain ⟨_, _, _⟩ := (h2.below ba).cells
        clear hm8 h8 hk8 hstep hj2 hw2 h2 k2 hm2 hk2 hmine hoc ba ba2
        go_wp2_with (at_builtin; refine list_ex rfl (.tmp 19) (.tmp 21) _ _ rfl (.slice A3 t c3) (.slice (some ⟨w2.heap.size + 1, 0, none⟩) 1 1) rfl rfl (run_appM w.heap.size HM8.out.own HRD8.out ?s3 ?s4) ?_)
        case s3 => omega
        case s4 => exact HK8.out.size
        intro v9 w9 ho9 hg9 _
        obtain ⟨A9, c9, rfl, _⟩ := own_slice ho9
        have h9 := H8.out.grown HM8.out.own HQ.out hg9
        have hk9 := HK8.out.grown HM8.out.own hg9
        have hm9 : MutsQ w w9 A9 (t + 1) c9 (Ks ++ [y]) := HM8.out.snoc HOC.out ho9 hg9
        have H9 := Lib.hid h9; have HK9 := Lib.hid hk9; have HM9 := Lib.hid hm9
        clear h9 hk9 hm9 ho9 hg9
        go_wp2
        go_roundw
        case rel => exact ⟨t + 1, Ks ++ [y], A9, c9, j2, 0, rfl, by go_num, by rw [List.length_append, HT.out]; rfl, by omega, fun h => absurd rfl h, HJ2.out, H9.out, HK9.out, HM9.out, by have := HST.out; simpa using this⟩
        case measure => simp [intOf]; omega
      · have e0 : (f2 == 0) = false := by simp; exact hf2
        have hw := (Loops.list HW1.out hstep (fun e => absurd e hf2)).any hf2 ([] : List (ByteArray × Pa))
        have HW := Lib.hid hw; have HJ2 := Lib.hid hj2; have HH := Lib.hid (h2.below ba); have HKK := Lib.hid (hk2.new ba)
        obtain ⟨_, _, _⟩ := HH.out.cells
        clear hw hstep hw2 h2 k2 hm2 hk2 hmine hj2 hf2 hoc ba
        go_wp2
        go_ret
        exact ⟨[], none, 0, 0, j2, f2, rfl, MutsQ.nil _ _, rfl, Nat.zero_le _, HJ2.out, HH.out, HKK.out, HW.out⟩
    · obtain rfl : t = m := by omega
      have hw := Loops.list HW1.out HLR.out (fun _ => by rw [List.length_map, HT.out])
      have HW := Lib.hid hw; have HMI := Lib.hid hmine
      clear hw hmine
      go_wp2
      go_ret
      exact ⟨Ks, A3, t, c3, j, f, rfl, HMI.out, HT.out, HM.out, HJ.out, HRY.out, HKR.out, HW.out⟩

set_option maxRecDepth 8000 in
set_option maxHeartbeats 2000000 in
theorem ynotes (q i n c : Nat) (e : Int) (A : Option Addr) (l : Bs) (w : World) (h : RY w q A n c l i e) (hi : i ≤ n) (hs : n ≤ 900000) :
    Calls Tryz.prog 80 #[.pointer (some ⟨q, 0, none⟩), .func (.func 81) #[] #[]] w fun x w' => ∃ (Ks : List NA) (A' : Option Addr) (m c' j : Nat) (f : Int), x = .returned (.slice A' m c') ∧ w'.ownsRow w.heap.size 60 2 (.slice A' m c') m (nRow Ks) ∧ Ks.length = m ∧ m ≤ n ∧ j ≤ n ∧ RY w' q A n c l j f ∧ KeptQ q w w' ∧ Went (listP addP) l i e (Ks) j f := by
  have hqw := h.lt
  have HQ := Lib.hid hqw; have HS := Lib.hid hs
  go_enter Tryz.func80, Tryz.ntmps80
  go_wp2_with fail
  refine (ycount q i n c e A l w h hi (by omega)).mono ?_
  rintro x w1 ⟨m, j0, f0, rfl, hm, hf00, hj0, h1, k1, hw1⟩
  have hmn : m ≤ n := by omega
  have HM := Lib.hid hmn; have HF0 := Lib.hid hf00; have HJ0 := Lib.hid hj0; have H1 := Lib.hid h1; have K1 := Lib.hid k1; have HW1 := Lib.hid hw1
  clear hm hf00 hj0 h1 k1 hw1 h hi hs hqw hmn
  go_wp2_with fail
  go_loopw [5, 9] (fun a i' wr => ∃ (t : Nat) (Ks : List NA) (A' : Option Addr) (c' j : Nat) (f : Int), a = .slice A' t c' ∧ i' = .int .i64 t ∧ Ks.length = t ∧ t ≤ m ∧ (f ≠ 0 → m = 0) ∧ j ≤ n ∧ RY wr q A n c l j f ∧ KeptQ q w wr ∧ (wr.ownsRow w.heap.size 60 2 (.slice A' t c') t (nRow Ks)) ∧ Loops addP l m j0 f0 (Ks) j f) (fun _ i' _ => m - (intOf i').toNat)
  case atStart => exact ⟨0, [], none, 0, j0, f0, rfl, rfl, rfl, Nat.zero_le _, HF0.out, HJ0.out, H1.out, K1.out, own_nilN _ _, Loops.start _ _ HW1.out.len _⟩
  case round =>
    obtain ⟨t, Ks, A3, c3, j, f, rfl, rfl, ht, htm, hfm, hj, hr, hk, hmine, hl⟩ := hrel
    have i8 : m ≤ 900000 := by have := HM.out; have := HS.out; omega
    have HRY := Lib.hid hr; have HKR := Lib.hid hk; have HLR := Lib.hid hl; have HT := Lib.hid ht; have HJ := Lib.hid hj; have HFM := Lib.hid hfm
    clear hr hk hl ht hj hfm
    by_cases hlt : t < m
    · have i1 : (t : Int) < m := by omega
      have hf : f = 0 := Decidable.byContradiction fun hf => by have := HFM.out hf; omega
      subst hf
      have HMI := Lib.hid hmine
      clear hmine
      go_wp2_with fail
      refine (ynote q j n c 0 A l wr HRY.out HJ.out (by have := HS.out; omega)).mono ?_
      rintro x w2 ⟨y, j2, f2, rfl, hy1, hj2, h2, k2, hw2⟩
      have hmine := HMI.out
      have hm2 := own_keptQ hmine k2 HRY.out.blk (by decide)
      have hk2 := HKR.out.on k2
      have ba := (Below.refl w2.heap.size w2).alloc (Nat.le_refl _) (.cells #[.int .i64 y.1, .string y.2] 60)
      have hstep := HLR.out.step (by rw [HT.out]; exact hlt) hw2
      by_cases hf2 : f2 = 0
      · subst hf2
        obtain ⟨U, hU⟩ : ∃ U, U = w2.alloc (.cells #[.int .i64 y.1, .string y.2] 60) := ⟨_, rfl⟩
        have ba2 := (Below.refl (w2.alloc (.cells #[.int .i64 y.1, .string y.2] 60)).heap.size (w2.alloc (.cells #[.int .i64 y.1, .string y.2] 60))).alloc (Nat.le_refl _) (.cells #[.int .i64 y.1, .string y.2] 60)
        have hm8 := own_below (own_below hm2 ba) ba2
        have h8 := (h2.below ba).below ba2
        have hk8 := (hk2.new ba).new ba2
        have hsz8 : (w2.alloc (.cells #[.int .i64 y.1, .string y.2] 60)).heap.size = w2.heap.size + 1 := by simp
        have hrd8 := RdN.laid (w2.alloc (.cells #[.int .i64 y.1, .string y.2] 60)) y
        try rw [hsz8] at hrd8
        have HRD8 := Lib.hid hrd8
        clear hU hsz8 hrd8
        have HM8 := Lib.hid hm8; have H8 := Lib.hid h8; have HK8 := Lib.hid hk8; have HST := Lib.hid hstep; have HJ2 := Lib.hid hj2
        obtain ⟨_, _, _⟩ := (h2.below ba).cells
        clear hm8 h8 hk8 hstep hj2 hw2 h2 k2 hm2 hk2 hmine hy1 ba ba2
        go_wp2_with (at_builtin; refine list_ex rfl (.tmp 19) (.tmp 21) _ _ rfl (.slice A3 t c3) (.slice (some ⟨w2.heap.size + 1, 0, none⟩) 1 1) rfl rfl (run_appN w.heap.size HM8.out HRD8.out ?s3 ?s4) ?_)
        case s3 => omega
        case s4 => exact HK8.out.size
        intro v9 w9 ho9 hg9 _
        obtain ⟨A9, c9, rfl, _⟩ := own_slice ho9
        have h9 := H8.out.grown HM8.out HQ.out hg9
        have hk9 := HK8.out.grown HM8.out hg9
        have hm9 : w9.ownsRow w.heap.size 60 2 (.slice A9 (t + 1) c9) (t + 1) (nRow (Ks ++ [y])) := ho9
        have H9 := Lib.hid h9; have HK9 := Lib.hid hk9; have HM9 := Lib.hid hm9
        clear h9 hk9 hm9 ho9 hg9
        go_wp2
        go_roundw
        case rel => exact ⟨t + 1, Ks ++ [y], A9, c9, j2, 0, rfl, by go_num, by rw [List.length_append, HT.out]; rfl, by omega, fun h => absurd rfl h, HJ2.out, H9.out, HK9.out, HM9.out, by exact HST.out⟩
        case measure => simp [intOf]; omega
      · have e0 : (f2 == 0) = false := by simp; exact hf2
        have hw := (Loops.list HW1.out hstep (fun e => absurd e hf2)).any hf2 ([] : List NA)
        have HW := Lib.hid hw; have HJ2 := Lib.hid hj2; have HH := Lib.hid (h2.below ba); have HKK := Lib.hid (hk2.new ba)
        obtain ⟨_, _, _⟩ := HH.out.cells
        clear hw hstep hw2 h2 k2 hm2 hk2 hmine hj2 hf2 hy1 ba
        go_wp2
        go_ret
        exact ⟨[], none, 0, 0, j2, f2, rfl, own_nilN _ _, rfl, Nat.zero_le _, HJ2.out, HH.out, HKK.out, HW.out⟩
    · obtain rfl : t = m := by omega
      have hw := Loops.list HW1.out HLR.out (fun _ => by rw [HT.out])
      have HW := Lib.hid hw; have HMI := Lib.hid hmine
      clear hw hmine
      go_wp2
      go_ret
      exact ⟨Ks, A3, t, c3, j, f, rfl, HMI.out, HT.out, HM.out, HJ.out, HRY.out, HKR.out, HW.out⟩

set_option maxRecDepth 8000 in
set_option maxHeartbeats 2000000 in
theorem yints (q i n c : Nat) (e : Int) (A : Option Addr) (l : Bs) (w : World) (h : RY w q A n c l i e) (hi : i ≤ n) (hs : n ≤ 900000) :
    Calls Tryz.prog 82 #[.pointer (some ⟨q, 0, none⟩), .func (.func 74) #[] #[]] w fun x w' => ∃ (Ks : List Int) (A' : Option Addr) (m c' j : Nat) (f : Int), x = .returned (.slice A' m c') ∧ w'.ownsRow w.heap.size 3 1 (.slice A' m c') m (zRow Ks) ∧ Ks.length = m ∧ m ≤ n ∧ j ≤ n ∧ RY w' q A n c l j f ∧ KeptQ q w w' ∧ Went (listP numP) l i e (Ks) j f := by
  have hqw := h.lt
  have HQ := Lib.hid hqw; have HS := Lib.hid hs
  go_enter Tryz.func82, Tryz.ntmps82
  go_wp2_with fail
  refine (ycount q i n c e A l w h hi (by omega)).mono ?_
  rintro x w1 ⟨m, j0, f0, rfl, hm, hf00, hj0, h1, k1, hw1⟩
  have hmn : m ≤ n := by omega
  have HM := Lib.hid hmn; have HF0 := Lib.hid hf00; have HJ0 := Lib.hid hj0; have H1 := Lib.hid h1; have K1 := Lib.hid k1; have HW1 := Lib.hid hw1
  clear hm hf00 hj0 h1 k1 hw1 h hi hs hqw hmn
  go_wp2_with fail
  go_loopw [5, 9] (fun a i' wr => ∃ (t : Nat) (Ks : List Int) (A' : Option Addr) (c' j : Nat) (f : Int), a = .slice A' t c' ∧ i' = .int .i64 t ∧ Ks.length = t ∧ t ≤ m ∧ (f ≠ 0 → m = 0) ∧ j ≤ n ∧ RY wr q A n c l j f ∧ KeptQ q w wr ∧ (wr.ownsRow w.heap.size 3 1 (.slice A' t c') t (zRow Ks)) ∧ Loops numP l m j0 f0 (Ks) j f) (fun _ i' _ => m - (intOf i').toNat)
  case atStart => exact ⟨0, [], none, 0, j0, f0, rfl, rfl, rfl, Nat.zero_le _, HF0.out, HJ0.out, H1.out, K1.out, own_nilZ _ _, Loops.start _ _ HW1.out.len _⟩
  case round =>
    obtain ⟨t, Ks, A3, c3, j, f, rfl, rfl, ht, htm, hfm, hj, hr, hk, hmine, hl⟩ := hrel
    have i8 : m ≤ 900000 := by have := HM.out; have := HS.out; omega
    have HRY := Lib.hid hr; have HKR := Lib.hid hk; have HLR := Lib.hid hl; have HT := Lib.hid ht; have HJ := Lib.hid hj; have HFM := Lib.hid hfm
    clear hr hk hl ht hj hfm
    by_cases hlt : t < m
    · have i1 : (t : Int) < m := by omega
      have hf : f = 0 := Decidable.byContradiction fun hf => by have := HFM.out hf; omega
      subst hf
      have HMI := Lib.hid hmine
      clear hmine
      go_wp2_with fail
      refine (ystamp q j n c 0 A l wr HRY.out HJ.out (by have := HS.out; omega)).mono ?_
      rintro x w2 ⟨y, j2, f2, rfl, hy1, hy2, hj2, h2, k2, hw2⟩
      have hmine := HMI.out
      have hm2 := own_keptQ hmine k2 HRY.out.blk (by decide)
      have hk2 := HKR.out.on k2
      have hstep := HLR.out.step (by rw [HT.out]; exact hlt) hw2
      by_cases hf2 : f2 = 0
      · subst hf2
        have ba := (Below.refl w2.heap.size w2).alloc (Nat.le_refl _) (.cells #[.int .i64 y] 3)
        have hm8 := own_below hm2 ba
        have h8 := h2.below ba
        have hk8 := hk2.new ba
        have HRD8 := Lib.hid (RdZ.lay1 w2 y)
        have HM8 := Lib.hid hm8; have H8 := Lib.hid h8; have HK8 := Lib.hid hk8; have HST := Lib.hid hstep; have HJ2 := Lib.hid hj2
        obtain ⟨_, _, _⟩ := h2.cells
        clear hm8 h8 hk8 hstep hj2 hw2 h2 k2 hm2 hk2 hmine hy1 hy2 ba
        go_wp2_with (at_builtin; refine list_ex rfl (.tmp 19) (.tmp 21) _ _ rfl (.slice A3 t c3) (.slice (some ⟨w2.heap.size, 0, none⟩) 1 1) rfl rfl (run_appZ w.heap.size HM8.out HRD8.out ?s3 ?s4) ?_)
        case s3 => omega
        case s4 => exact HK8.out.size
        intro v9 w9 ho9 hg9 _
        obtain ⟨A9, c9, rfl, _⟩ := own_slice ho9
        have h9 := H8.out.grown HM8.out HQ.out hg9
        have hk9 := HK8.out.grown HM8.out hg9
        have hm9 : w9.ownsRow w.heap.size 3 1 (.slice A9 (t + 1) c9) (t + 1) (zRow (Ks ++ [y])) := (by unfold zRow; rw [List.map_append]; exact ho9)
        have H9 := Lib.hid h9; have HK9 := Lib.hid hk9; have HM9 := Lib.hid hm9
        clear h9 hk9 hm9 ho9 hg9
        go_wp2
        go_roundw
        case rel => exact ⟨t + 1, Ks ++ [y], A9, c9, j2, 0, rfl, by go_num, by rw [List.length_append, HT.out]; rfl, by omega, fun h => absurd rfl h, HJ2.out, H9.out, HK9.out, HM9.out, by exact HST.out⟩
        case measure => simp [intOf]; omega
      · have e0 : (f2 == 0) = false := by simp; exact hf2
        have hw := (Loops.list HW1.out hstep (fun e => absurd e hf2)).any hf2 ([] : List Int)
        have HW := Lib.hid hw; have HJ2 := Lib.hid hj2; have HH := Lib.hid (h2); have HKK := Lib.hid (hk2)
        obtain ⟨_, _, _⟩ := HH.out.cells
        clear hw hstep hw2 h2 k2 hm2 hk2 hmine hj2 hf2 hy1 hy2 
        go_wp2
        go_ret
        exact ⟨[], none, 0, 0, j2, f2, rfl, own_nilZ _ _, rfl, Nat.zero_le _, HJ2.out, HH.out, HKK.out, HW.out⟩
    · obtain rfl : t = m := by omega
      have hw := Loops.list HW1.out HLR.out (fun _ => by rw [HT.out])
      have HW := Lib.hid hw; have HMI := Lib.hid hmine
      clear hw hmine
      go_wp2
      go_ret
      exact ⟨Ks, A3, t, c3, j, f, rfl, HMI.out, HT.out, HM.out, HJ.out, HRY.out, HKR.out, HW.out⟩

end Go.Proofs.YthfanonjokpflaaGreat
set_option linter.unusedVariables false
set_option linter.unusedSimpArgs false
namespace Go.Proofs.YthfanonjokpflaaGreat
open Go Go.RowKit

def Bt.Tr (b : Bt) : Prop := (b.muts.length < 18446744073709551616 ∧ ∀ m ∈ b.muts, m.1.size < 18446744073709551616 ∧ m.2.Gd) ∧ ((b.add.length < 18446744073709551616 ∧ ∀ x ∈ b.add, Stm x.1 ∧ x.2.size < 18446744073709551616) ∧ (b.drop.length < 18446744073709551616 ∧ ∀ v ∈ b.drop, Stm v))
theorem batch_codecT : Codec batchP bE Bt.Gd Bt.Tr :=
  batchT_codec.map (fun z => (⟨z.1, z.2.1, z.2.2⟩ : Bt)) (fun b => (b.muts, b.add, b.drop)) Bt.Gd Bt.Tr (fun _ _ => rfl) (fun _ h => h) (fun _ _ => rfl) (fun _ h => h)
theorem Went.batchL {l : Bs} {i j1 j2 j : Nat} {e f1 f2 f : Int} {M : List (ByteArray × Pa)} {N : List (Int × ByteArray)} {D : List Int} (H1 : Went (listP mutP) l i e M j1 f1) (H2 : Went (listP addP) l j1 f1 N j2 f2) (H6 : Went (listP numP) l j2 f2 D j f) : Went batchP l i e (⟨M, N, D⟩ : Bt) j f := by
  have W1 : Went (bindP (listP addP) fun a => bindP (listP numP) fun d => retP (a, d)) l j1 f1 (N, D) j f := H2.bind (H6.bind (Went.ret (N, D) H6.len f))
  have W2 : Went batchT l i e (M, (N, D)) j f := H1.bind (W1.bind (Went.ret (M, (N, D)) H6.len f))
  exact W2.map (q := fun z => (⟨z.1, z.2.1, z.2.2⟩ : Bt))
/-- A batch of one's own. -/
structure BatQ (w0 w : World) (z : BA) : Prop where
  muts : MutsQ w0 w z.AM z.M.length z.cM z.M
  notes : w.ownsRow w0.heap.size 60 2 (.slice z.AN z.N.length z.cN) z.N.length (nRow z.N)
  drops : w.ownsRow w0.heap.size 3 1 (.slice z.AD z.D.length z.cD) z.D.length (zRow z.D)
theorem BatQ.on {w0 w w' : World} {z : BA} (h : BatQ w0 w z) (hb : Below w.heap.size w w') : BatQ w0 w' z := ⟨h.muts.on hb, own_below h.notes hb, own_below h.drops hb⟩
theorem BatQ.lower {w0 w1 w : World} {z : BA} (h : BatQ w1 w z) (hb : w0.heap.size ≤ w1.heap.size) : BatQ w0 w z := ⟨h.muts.lower hb, own_down h.notes hb, own_down h.drops hb⟩
theorem BatQ.keptB {w0 w w' : World} {z : BA} {r : Nat} {cs : Array Value} (h : BatQ w0 w z) (hk : Kept (fun k => k = r) w w') (hr : w.heap[r]? = some (.cells cs 29 (0, 0))) : BatQ w0 w' z :=
  ⟨h.muts.kept3 hk hr (by decide) (by decide) (by decide), own_keptQ h.notes hk hr (by decide), own_keptQ h.drops hk hr (by decide)⟩
theorem BatQ.keptR {w0 w w' : World} {z : BA} {r : Nat} {cs : Array Value} (h : BatQ w0 w z) (hk : Kept (fun k => k = r) w w') (hr : w.heap[r]? = some (.cells cs 115 (0, 0))) : BatQ w0 w' z :=
  ⟨h.muts.kept1 hk hr, own_keptQ h.notes hk hr (by decide), own_keptQ h.drops hk hr (by decide)⟩
theorem own_capQ {w : World} {b n c size : Nat} {T : TypeId} {A : Option Addr} {xs : List Value} (h : w.ownsRow b T size (.slice A n c) n xs) : n ≤ c := by
  obtain ⟨_, _, e, h1, _⟩ := own_slice h
  injection e with _ _ e3
  subst e3
  exact h1
theorem BatQ.lies {w0 w : World} {z : BA} (h : BatQ w0 w z) : LiesB w w.heap.size z := ⟨h.muts.lies, RdN.of_own h.notes, RdZ.ofOwn h.drops, own_capQ h.notes, own_capQ h.drops⟩
set_option maxRecDepth 8000 in
set_option maxHeartbeats 2000000 in
theorem ybatch (YI : InnerOk) (q i n c : Nat) (e : Int) (A : Option Addr) (l : Bs) (w : World) (h : RY w q A n c l i e) (hi : i ≤ n) (hs : n ≤ 900000) :
    Calls Tryz.prog 41 #[.pointer (some ⟨q, 0, none⟩)] w fun x w' => ∃ (z : BA) (j : Nat) (f : Int), x = .returned (bV z) ∧ BatQ w w' z ∧ j ≤ n ∧ RY w' q A n c l j f ∧ KeptQ q w w' ∧ Went batchP l i e z.bt j f := by
  have hqw := h.lt
  have bz := (Below.refl w.heap.size w).alloc (Nat.le_refl _) (.cells #[.slice none 0 0, .slice none 0 0, .slice none 0 0] 29)
  have hz := heap_alloc_new w (.cells #[.slice none 0 0, .slice none 0 0, .slice none 0 0] 29)
  have h0 := h.below bz
  obtain ⟨V, hV⟩ : ∃ V, V = w.alloc (.cells #[.slice none 0 0, .slice none 0 0, .slice none 0 0] 29) := ⟨_, rfl⟩
  rw [← hV] at bz hz h0
  have H0 := Lib.hid h0; have HZ0 := Lib.hid hz; have BZ := Lib.hid bz; have HQ := Lib.hid hqw; have HS := Lib.hid hs
  clear h bz hz h0 hqw hs
  go_enter Tryz.func41, Tryz.ntmps41
  go_wp2_with fail
  rw [← hV]
  clear hV
  refine (ymuts YI q i n c e A l _ H0.out hi HS.out).mono ?_
  rintro x w1 ⟨M, A1, m1, c1, j1, f1, rfl, ho1, hl1, _, hj1, h1, k1, hw1⟩
  have H1 := Lib.hid h1; have HZ1 := Lib.hid (Kept.atQ k1 HZ0.out (by have := HQ.out; omega)); have K1 := Lib.hid (KeptQ.on (Kept.of_below BZ.out _) k1); have HW1 := Lib.hid hw1; have HJ1 := Lib.hid hj1; have HL1 := Lib.hid hl1
  have HO1 := Lib.hid (ho1.lower (w0 := w) BZ.out.size)
  clear h1 k1 hw1 hj1 hi ho1 hl1
  go_wp2_with fail
  refine (ynotes q j1 n c f1 A l _ H1.out HJ1.out HS.out).mono ?_
  rintro x w3 ⟨N, A3, m3, c3, j3, f3, rfl, ho3, hl3, _, hj3, h3, k3, hw3⟩
  have H3 := Lib.hid h3; have HZ3 := Lib.hid (Kept.atQ k3 HZ1.out (by have := HQ.out; omega)); have HO13 := Lib.hid (HO1.out.kept1 k3 H1.out.blk); have HO3 := Lib.hid (own_down ho3 K1.out.size); have K3 := Lib.hid (K1.out.on k3); have HW3 := Lib.hid hw3; have HJ3 := Lib.hid hj3; have HL3 := Lib.hid hl3
  clear h3 k3 hw3 hj3 ho3 hl3
  go_wp2_with fail
  refine (yints q j3 n c f3 A l _ H3.out HJ3.out HS.out).mono ?_
  rintro x w5 ⟨D, A5, m5, c5, j5, f5, rfl, ho5, hl5, _, hj5, h5, k5, hw5⟩
  have HZ5 := Lib.hid (Kept.atQ k5 HZ3.out (by have := HQ.out; omega))
  have hb5 : BatQ w w5 ⟨A1, c1, M, A3, c3, N, A5, c5, D⟩ := by
    have e1 := HL1.out
    have e3 := HL3.out
    subst e1
    subst e3
    subst hl5
    exact ⟨HO13.out.kept1 k5 H3.out.blk, own_keptQ HO3.out k5 H3.out.blk (by decide), own_down ho5 K3.out.size⟩
  have z0 := cell_at (i := 0) HZ5.out rfl
  have z1 := cell_at (i := 1) HZ5.out rfl
  have z2 := cell_at (i := 2) HZ5.out rfl
  have y0 := thawed_at (i := 0) HZ5.out
  have y1 := thawed_at (i := 1) HZ5.out
  have y2 := thawed_at (i := 2) HZ5.out
  have m9 := set3Q_block HZ5.out (.slice A1 m1 c1) (.slice A3 m3 c3) (.slice A5 m5 c5)
  have n9 := kept_set3Q (w := w5) w.heap.size (.slice A1 m1 c1) (.slice A3 m3 c3) (.slice A5 m5 c5)
  have R9 := Lib.hid (RY.other h5 n9 HQ.out)
  have K9 := Lib.hid ((K3.out.on k5).own n9 (Nat.le_refl _))
  have O9 := Lib.hid (hb5.keptB n9 HZ5.out)
  have HW : Hid (Went batchP l i e (⟨muts M, N, D⟩ : Bt) j5 f5) := Lib.hid (HW1.out.batchL HW3.out hw5)
  have HJ := Lib.hid hj5; have HL5 := Lib.hid hl5
  clear n9 h5 k5 hw5 hj5 ho5 hb5 hl5
  go_wp2
  generalize World.setCell (World.setCell (World.setCell w5 ⟨w.heap.size, 0, none⟩ (.slice A1 m1 c1)) ⟨w.heap.size, 1, none⟩ (.slice A3 m3 c3)) ⟨w.heap.size, 2, none⟩ (.slice A5 m5 c5) = w9 at m9 K9 R9 O9 ⊢
  clear z0 z1 z2 y0 y1 y2
  have q0 := cell_at (i := 0) m9 rfl
  have q1 := cell_at (i := 1) m9 rfl
  have q2 := cell_at (i := 2) m9 rfl
  refine bodyPost_ret (v := .agg #[.slice A1 m1 c1, .slice A3 m3 c3, .slice A5 m5 c5]) ?_ rfl ?_
  · simp [results, Tryz.results41, go_sem, q0, q1, q2]
  · have e1 := HL1.out
    have e3 := HL3.out
    have e5 := HL5.out
    subst e1
    subst e3
    subst e5
    exact ⟨⟨A1, c1, M, A3, c3, N, A5, c5, D⟩, j5, f5, rfl, O9.out, HJ.out, R9.out, K9.out, HW.out⟩
/-- A call that hands back a batch, or what is wrong. -/
def GivesH (w : World) (r : Except Int Bt) (x : Ending) (w' : World) : Prop := match r with
  | .ok p => ∃ z : BA, z.bt = p ∧ x = .returned (.tuple #[bV z, .int .i64 0]) ∧ BatQ w w' z ∧ Below w.heap.size w w'
  | .error e => x = .returned (.tuple #[.agg #[.slice none 0 0, .slice none 0 0, .slice none 0 0], .int .i64 e]) ∧ Below w.heap.size w w'
theorem btF_of {z : BA} (h : z.bt.Tr) {n : Nat} (hN : n ≤ 900000) (hn : (bE z.bt).length ≤ n) : BtF z := by
  obtain ⟨⟨h1, h2⟩, ⟨h3, h4⟩, h5, h6⟩ := h
  unfold bE at hn
  simp only [List.length_append] at hn
  have l1 : (muts z.M).length ≤ ((muts z.M).flatMap mE).length := flat_length fun x _ => tE_pos x.1 _
  have l2 : z.N.length ≤ (z.N.flatMap aE).length := flat_length fun x _ => by unfold aE; rw [List.length_append]; have := numL_pos x.1.toNat; omega
  have l3 : z.D.length ≤ (z.D.flatMap fun v => numL v.toNat).length := flat_length fun x _ => numL_pos x.toNat
  have e1 : (z.bt.muts.flatMap mE).length = ((muts z.M).flatMap mE).length := rfl
  have e2 : (z.bt.add.flatMap aE).length = (z.N.flatMap aE).length := rfl
  have e3 : (z.bt.drop.flatMap fun v => numL v.toNat).length = (z.D.flatMap fun v => numL v.toNat).length := rfl
  rw [List.length_map] at l1
  refine ⟨fun y hy => ?_, fun y hy => ?_, by omega, by omega, by omega⟩
  · have hm : mutOf y ∈ z.bt.muts := List.mem_map.2 ⟨y, hy, rfl⟩
    have l4 : (mE (mutOf y)).length ≤ ((muts z.M).flatMap mE).length := flat_in hm
    have l5 : (mE (mutOf y)).length = (tE y.tb).length + ((numL (pE (mutOf y).2).length).length + (pE (mutOf y).2).length) := by
      unfold mE
      simp only [List.length_append]
      rfl
    have l6 := tE_size y.tb
    have hgd := (h2 _ hm).2
    have hpn : (pE (mutOf y).2).length ≤ n := by omega
    have hp := pa_sizes hgd hpn
    have hpl : y.p.L.length ≤ n := by
      have := hp.2.1
      unfold mutOf at this
      dsimp only at this
      rw [List.length_map] at this
      exact this
    exact ⟨by omega, by omega, few_of_sizes hgd hN hpn rfl⟩
  · have l4 : (aE y).length ≤ (z.N.flatMap aE).length := flat_in hy
    have l5 : (aE y).length = (numL y.1.toNat).length + (tE y.2).length := by unfold aE; rw [List.length_append]
    have l6 := tE_size y.2
    unfold maxLen
    omega
set_option maxRecDepth 8000 in
set_option maxHeartbeats 2000000 in
theorem get_batch (YI : InnerOk) (A : Option Addr) (n c B : Nat) (l : Bs) (w : World) (hr : Rd w B A n l) (hB : B ≤ w.heap.size) (hnc : n ≤ c) (hc : c ≤ maxLen) (hA : A = none → c = 0) :
    Calls Tryz.prog 40 #[.slice A n c, .func (.func 41) #[] #[], .func (.func 19) #[] #[]] w (GivesH w (getBatch l)) := by
  have hl := hr.1
  have bz := (Below.refl w.heap.size w).alloc (Nat.le_refl _) (.cells #[.slice none 0 0, .slice none 0 0, .slice none 0 0] 29)
  have hz := heap_alloc_new w (.cells #[.slice none 0 0, .slice none 0 0, .slice none 0 0] 29)
  obtain ⟨V1, hV1⟩ : ∃ V, V = w.alloc (.cells #[.slice none 0 0, .slice none 0 0, .slice none 0 0] 29) := ⟨_, rfl⟩
  rw [← hV1] at bz hz
  have hs1 : V1.heap.size = w.heap.size + 1 := by rw [hV1]; simp
  have bz2 := (Below.refl V1.heap.size V1).alloc (Nat.le_refl _) (.cells #[.slice none 0 0, .slice none 0 0, .slice none 0 0] 29)
  have hy := heap_alloc_new V1 (.cells #[.slice none 0 0, .slice none 0 0, .slice none 0 0] 29)
  have hz2 := at_newQ hz (.cells #[.slice none 0 0, .slice none 0 0, .slice none 0 0] 29)
  obtain ⟨V2, hV2⟩ : ∃ V, V = V1.alloc (.cells #[.slice none 0 0, .slice none 0 0, .slice none 0 0] 29) := ⟨_, rfl⟩
  rw [← hV2] at bz2 hy hz2
  rw [hs1] at hy
  have hs2 : V2.heap.size = w.heap.size + 1 + 1 := by rw [hV2, ← hs1]; simp
  have hb2 : Below w.heap.size w V2 := bz.trans (bz2.mono bz.size)
  have HS2 := Lib.hid hs2
  by_cases hbig : 262144 < n
  · have hres : getBatch l = .error 2 := by unfold getBatch getP; rw [if_pos (by omega)]
    rw [hres]
    have d1 : decide ((262144 : Int) < (n : Int)) = true := by simp; omega
    have d2 : decide (262144 < n) = true := by simp; omega
    have HB2 := Lib.hid hb2
    clear hbig hres hs1 bz bz2 hb2 hl hr hB hnc hc hA hs2 hz HS2
    subst hV2
    subst hV1
    have k0 := cell_at (i := 0) hy rfl
    have k1 := cell_at (i := 1) hy rfl
    have k2 := cell_at (i := 2) hy rfl
    have z0 := cell_at (i := 0) hz2 rfl
    have z1 := cell_at (i := 1) hz2 rfl
    have z2 := cell_at (i := 2) hz2 rfl
    have y0 := thawed_at (i := 0) hz2
    have y1 := thawed_at (i := 1) hz2
    have y2 := thawed_at (i := 2) hz2
    clear hz2 hy
    go_enter Tryz.func40, Tryz.ntmps40
    go_wp2
    refine bodyPost_ret (v := .tuple #[.agg #[.slice none 0 0, .slice none 0 0, .slice none 0 0], .int .i64 2]) ?_ rfl ?_
    · simp [results, Tryz.results40, go_sem, z0, z1, z2]
    · exact ⟨rfl, HB2.out⟩
  · have d1 : decide ((262144 : Int) < (n : Int)) = false := by simp; omega
    have d2 : decide (262144 < n) = false := by simp; omega
    have bz3 := (Below.refl V2.heap.size V2).alloc (Nat.le_refl _) (.cells #[.slice A n c, .int .i64 0, .int .i64 0] 115)
    have hrb := heap_alloc_new V2 (.cells #[.slice A n c, .int .i64 0, .int .i64 0] 115)
    have hz3 := at_newQ hz2 (.cells #[.slice A n c, .int .i64 0, .int .i64 0] 115)
    have hy3 := at_newQ hy (.cells #[.slice A n c, .int .i64 0, .int .i64 0] 115)
    obtain ⟨V3, hV3⟩ : ∃ V, V = V2.alloc (.cells #[.slice A n c, .int .i64 0, .int .i64 0] 115) := ⟨_, rfl⟩
    rw [← hV3] at bz3 hrb hz3 hy3
    rw [hs2] at hrb
    have hb3 : Below w.heap.size w V3 := hb2.trans (bz3.mono hb2.size)
    have hry : RY V3 (w.heap.size + 1 + 1) A n c l 0 0 := ⟨hrb, (hr.below (hb3.mono hB)).up (by omega), hnc, hc, hA⟩
    have HRY := Lib.hid hry; have HZ3' := Lib.hid hz3; have HY3' := Lib.hid hy3; have B3' := Lib.hid hb3; have HN := Lib.hid (show n ≤ 262144 by omega); have HL := Lib.hid hl
    clear hry hz3 hy3 hb3 hbig hs1 bz bz2 bz3 hb2 hl hr hB hnc hc hA hs2 hz hz2 hy hrb
    go_enter Tryz.func40, Tryz.ntmps40
    go_wp2_with fail
    rw [← hV1, ← hV2, ← hV3]
    clear hV1 hV2 hV3
    refine (ybatch YI (w.heap.size + 1 + 1) 0 n c 0 A l V3 HRY.out (Nat.zero_le _) (by have := HN.out; omega)).mono ?_
    rintro x w1 ⟨z, j, f, rfl, hrows, hj, h1, k1, hw⟩
    have ba := (Below.refl w1.heap.size w1).alloc (Nat.le_refl _) (bO z)
    have hp1 := heap_alloc_new w1 (bO z)
    have hz1 := at_newQ (Kept.atQ k1 HZ3'.out (by omega)) (bO z)
    have hy1 := at_newQ (Kept.atQ k1 HY3'.out (by omega)) (bO z)
    have h1' := h1.below ba
    have hrows1 := hrows.on ba
    have hb1 := B3'.out.trans ((k1.new ba).below (fun k hk => by subst hk; exact Nat.le_trans (Nat.le_add_right _ 2) (Nat.le_refl _)) (Nat.le_trans (Nat.le_refl _) B3'.out.size) : Below w.heap.size V3 _)
    obtain ⟨U1, hU1⟩ : ∃ U, U = w1.alloc (bO z) := ⟨_, rfl⟩
    rw [← hU1] at hp1 hz1 hy1 h1' hrows1 hb1
    have HQW : Hid (w.heap.size + 1 + 1 < w1.heap.size) := Lib.hid h1.lt
    have HP1 := Lib.hid hp1; have HZ1 := Lib.hid hz1; have HY1 := Lib.hid hy1; have H1 := Lib.hid h1'; have HR1 := Lib.hid hrows1; have HB1 := Lib.hid hb1; have HW := Lib.hid hw; have HJ := Lib.hid hj
    clear hp1 hz1 hy1 h1' hrows1 hb1 hw hj h1 k1 hrows ba
    go_wp2_with fail
    rw [← hU1]
    clear hU1
    refine (yend (w.heap.size + 1 + 1) j n c f A l U1 H1.out HJ.out).mono ?_
    rintro x w3 ⟨rfl, h3, k3⟩
    obtain ⟨F, hF⟩ : ∃ F, (if f = 0 ∧ j < n then (6 : Int) else f) = F := ⟨_, rfl⟩
    rw [hF] at h3
    have R3 := Lib.hid h3
    have HZ3 := Lib.hid (Kept.atQ k3 HZ1.out (by omega)); have HY3 := Lib.hid (Kept.atQ k3 HY1.out (by omega)); have HP3 := Lib.hid (Kept.atQ k3 HP1.out (by have := HQW.out; omega))
    have HR3 := Lib.hid (HR1.out.keptR k3 H1.out.blk)
    have B3 := Lib.hid (HB1.out.trans (k3.below (fun k hk => by subst hk; omega) HB1.out.size))
    have hres : F ≠ 0 → getBatch l = .error F := fun h => by
      have hlen := HL.out
      have hnn := HN.out
      unfold getBatch getP
      rw [if_neg (by omega)]
      by_cases hf : f = 0
      · subst hf
        have h5 := HW.out.ok rfl rfl
        rw [List.drop_zero] at h5
        rw [h5]
        dsimp only
        by_cases hjn : j < n
        · rw [if_pos ⟨rfl, hjn⟩] at hF
          rw [if_neg (fun h => by have := congrArg List.length h; rw [List.length_drop, List.length_nil] at this; omega), ← hF]
        · rw [if_neg (fun h => hjn h.2)] at hF
          exact absurd hF.symm h
      · rw [if_neg (fun h => hf h.1)] at hF
        have h5 := HW.out.no rfl hf
        rw [List.drop_zero] at h5
        rw [h5, ← hF]
    have hres0 : F = 0 → batchP l = .ok (z.bt, []) := fun h => by
      have hlen := HL.out
      subst h
      have hf : f = 0 := by
        refine Decidable.byContradiction fun hf => ?_
        rw [if_neg (fun h => hf h.1)] at hF
        exact hf hF
      subst hf
      have hjn : ¬ j < n := fun hjn => by
        rw [if_pos ⟨rfl, hjn⟩] at hF
        cases hF
      have h5 := HW.out.ok rfl rfl
      rw [List.drop_zero, List.drop_eq_nil_of_le (by omega)] at h5
      exact h5
    have HRES := Lib.hid hres; have HRES0 := Lib.hid hres0
    clear hres hres0 h3 k3 hF HZ1 HY1 HP1 H1 HR1 HB1
    obtain ⟨_, _, c2⟩ := R3.out.cells
    by_cases hF0 : F = 0
    · subst hF0
      have hpp := HRES0.out rfl
      have hcn := batch_codecT.canon hpp
      rw [List.append_nil] at hcn
      have hfew : BtF z := btF_of hcn.2 (n := n) (by have := HN.out; omega) (by rw [← hcn.1, HL.out]; exact Nat.le_refl _)
      obtain ⟨u, hu⟩ : ∃ u, z.bt.ok = u := ⟨_, rfl⟩
      have hgp : getBatch l = (if u = true then .ok z.bt else .error 1) := by
        unfold getBatch getP
        rw [if_neg (by have := HN.out; have := HL.out; omega), hpp]
        dsimp only
        rw [if_pos rfl, hu]
      have N := checkBatch_any z w3.heap.size w3 HR3.out.lies (Nat.le_refl _) hfew
      rw [hu] at N
      have HNC := Lib.hid N; have HGP := Lib.hid hgp
      have k0 := cell_at (i := 0) HP3.out rfl
      have k1 := cell_at (i := 1) HP3.out rfl
      have k2 := cell_at (i := 2) HP3.out rfl
      clear hpp hcn hfew hu hgp N HRES HRES0
      go_wp2_with fail
      clear c2
      refine HNC.out.mono ?_
      rintro x w4 ⟨rfl, b4⟩
      have HZ9 := Lib.hid ((b4.block _ (Array.getElem?_eq_some_iff.1 HZ3.out).1).trans HZ3.out)
      have HY9 := Lib.hid ((b4.block _ (Array.getElem?_eq_some_iff.1 HY3.out).1).trans HY3.out)
      have HP9 := Lib.hid ((b4.block _ (Array.getElem?_eq_some_iff.1 HP3.out).1).trans HP3.out)
      have HR9 := Lib.hid (HR3.out.on b4)
      have B4 := Lib.hid (B3.out.trans (b4.mono B3.out.size))
      clear b4 k0 k1 k2
      cases u with
      | false =>
        have k0 := cell_at (i := 0) HY9.out rfl
        have k1 := cell_at (i := 1) HY9.out rfl
        have k2 := cell_at (i := 2) HY9.out rfl
        have m9 := set3Q_block HZ9.out (.slice none 0 0) (.slice none 0 0) (.slice none 0 0)
        have b9 := kept_set3Q (w := w4) w.heap.size (.slice none 0 0) (.slice none 0 0) (.slice none 0 0)
        have z0 := cell_at (i := 0) HZ9.out rfl
        have z1 := cell_at (i := 1) HZ9.out rfl
        have z2 := cell_at (i := 2) HZ9.out rfl
        have y0 := thawed_at (i := 0) HZ9.out
        have y1 := thawed_at (i := 1) HZ9.out
        have y2 := thawed_at (i := 2) HZ9.out
        have B9 := Lib.hid (B4.out.trans (b9.below (fun k hk => by subst hk; exact Nat.le_refl _) B4.out.size))
        clear b9
        go_wp2
        generalize World.setCell (World.setCell (World.setCell w4 ⟨w.heap.size, 0, none⟩ (.slice none 0 0)) ⟨w.heap.size, 1, none⟩ (.slice none 0 0)) ⟨w.heap.size, 2, none⟩ (.slice none 0 0) = w9 at m9 B9 ⊢
        clear z0 z1 z2 y0 y1 y2
        have q0 := cell_at (i := 0) m9 rfl
        have q1 := cell_at (i := 1) m9 rfl
        have q2 := cell_at (i := 2) m9 rfl
        refine bodyPost_ret (v := .tuple #[.agg #[.slice none 0 0, .slice none 0 0, .slice none 0 0], .int .i64 1]) ?_ rfl ?_
        · simp [results, Tryz.results40, go_sem, q0, q1, q2]
        · rw [HGP.out]
          exact ⟨rfl, B9.out⟩
      | true =>
        have k0 := cell_at (i := 0) HP9.out rfl
        have k1 := cell_at (i := 1) HP9.out rfl
        have k2 := cell_at (i := 2) HP9.out rfl
        have m9 := set3Q_block HZ9.out (.slice z.AM z.M.length z.cM) (.slice z.AN z.N.length z.cN) (.slice z.AD z.D.length z.cD)
        have b9 := kept_set3Q (w := w4) w.heap.size (.slice z.AM z.M.length z.cM) (.slice z.AN z.N.length z.cN) (.slice z.AD z.D.length z.cD)
        have z0 := cell_at (i := 0) HZ9.out rfl
        have z1 := cell_at (i := 1) HZ9.out rfl
        have z2 := cell_at (i := 2) HZ9.out rfl
        have y0 := thawed_at (i := 0) HZ9.out
        have y1 := thawed_at (i := 1) HZ9.out
        have y2 := thawed_at (i := 2) HZ9.out
        have B9 := Lib.hid (show _ ∧ _ from ⟨B4.out.trans (b9.below (fun k hk => by subst hk; exact Nat.le_refl _) B4.out.size), (HR9.out.lower (w0 := w) B3'.out.size).keptB b9 HZ9.out⟩)
        clear b9
        go_wp2
        generalize World.setCell (World.setCell (World.setCell w4 ⟨w.heap.size, 0, none⟩ (.slice z.AM z.M.length z.cM)) ⟨w.heap.size, 1, none⟩ (.slice z.AN z.N.length z.cN)) ⟨w.heap.size, 2, none⟩ (.slice z.AD z.D.length z.cD) = w9 at m9 B9 ⊢
        clear z0 z1 z2 y0 y1 y2
        have q0 := cell_at (i := 0) m9 rfl
        have q1 := cell_at (i := 1) m9 rfl
        have q2 := cell_at (i := 2) m9 rfl
        refine bodyPost_ret (v := .tuple #[.agg #[.slice z.AM z.M.length z.cM, .slice z.AN z.N.length z.cN, .slice z.AD z.D.length z.cD], .int .i64 0]) ?_ rfl ?_
        · simp [results, Tryz.results40, go_sem, q0, q1, q2]
        · rw [HGP.out]
          exact ⟨z, rfl, rfl, B9.out.2, B9.out.1⟩
    · have e0 : (F == 0) = false := by simp; exact hF0
      have HRR := Lib.hid (HRES.out hF0)
      have HS8 := Lib.hid (show _ ∧ _ ∧ _ ∧ _ from ⟨cell_at (i := 0) HY3.out rfl, cell_at (i := 1) HY3.out rfl, cell_at (i := 2) HY3.out rfl, c2⟩)
      clear hF0 HRES HRES0
      go_wp2_with fail
      clear c2
      refine wp_region_held_drew (S := fun w' => w'.cell? ⟨w.heap.size + 1, 0, none⟩ = some (.slice none 0 0) ∧ w'.cell? ⟨w.heap.size + 1, 1, none⟩ = some (.slice none 0 0) ∧ w'.cell? ⟨w.heap.size + 1, 2, none⟩ = some (.slice none 0 0) ∧ w'.cell? ⟨w.heap.size + 1 + 1, 2, none⟩ = some (.int .i64 F)) (by kernel_rfl) ?_ (fun hHeld => ?_)
      · exact HS8.out
      refine takesH [0, 1, 2] ?_
      repeat
        refine takesH_one (v := ?_) ?_ ?_
        rotate_left
        · first | (refine Or.inr ⟨by rfl, ?_⟩; with_reducible rfl) | (refine Or.inl ⟨by rfl, ?_⟩; intro wx hSw; (try dsimp only at hSw); first | (go_simp; first | done | with_reducible rfl) | (obtain ⟨_, _, _, _⟩ := hSw; go_simp; first | done | with_reducible rfl))
        try simp only [Act.put, List.getElem_toArray, List.getElem_cons_succ, List.getElem_cons_zero, List.setIfInBounds_toArray, List.set_cons_zero, List.set_cons_succ]
      refine takesH_nil ?_
      refine wpAnyH_ready (rs := [3]) (by kernel_rfl) (by simp) (AllReadyH.cons rfl (fun K hK => ?_) AllReadyH.nil)
      obtain ⟨U, hU⟩ : ∃ U, U = w3.drew := ⟨_, rfl⟩
      rw [← hU]
      have HZ : Hid (U.heap[w.heap.size]? = some (.cells #[.slice none 0 0, .slice none 0 0, .slice none 0 0] 29)) := Lib.hid (by rw [hU]; exact HZ3.out)
      have hz4 : U.heap[w.heap.size + 1]? = some (.cells #[.slice none 0 0, .slice none 0 0, .slice none 0 0] 29) := by rw [hU]; exact HY3.out
      have hr4 : RY U (w.heap.size + 1 + 1) A n c l j F := by rw [hU]; exact R3.out.drew
      have hbU : Below w.heap.size w U := by rw [hU]; exact B3.out.drew
      clear hU
      have z0 := cell_at (i := 0) HZ.out rfl
      have z1 := cell_at (i := 1) HZ.out rfl
      have z2 := cell_at (i := 2) HZ.out rfl
      have y0 := thawed_at (i := 0) HZ.out
      have y1 := thawed_at (i := 1) HZ.out
      have y2 := thawed_at (i := 2) HZ.out
      have m9 := set3Q_block HZ.out (.slice none 0 0) (.slice none 0 0) (.slice none 0 0)
      have b9 := (kept_set3Q (w := U) w.heap.size (.slice none 0 0) (.slice none 0 0) (.slice none 0 0))
      have B9 := Lib.hid (hbU.trans (b9.below (fun k hk => by subst hk; exact Nat.le_refl _) hbU.size))
      have hy9 := Kept.atQ b9 hz4 (by omega)
      have hb9 := Kept.atQ b9 hr4.blk (by omega)
      have S9 := Lib.hid (show _ ∧ _ ∧ _ ∧ _ from ⟨cell_at (i := 0) hy9 rfl, cell_at (i := 1) hy9 rfl, cell_at (i := 2) hy9 rfl, cell_at (i := 2) hb9 rfl⟩)
      clear hz4 hr4 hbU b9 hy9 hb9
      go_simp
      refine hK.out _ _ ?_ (fun hHeld => ?_)
      · exact S9.out
      clear hK K
      try simp only [Act.put, List.getElem_toArray, List.getElem_cons_succ, List.getElem_cons_zero, List.setIfInBounds_toArray, List.set_cons_zero, List.set_cons_succ]
      clear z0 z1 z2 y0 y1 y2
      refine takesH [4] ?_
      repeat
        refine takesH_one (v := ?_) ?_ ?_
        rotate_left
        · first | (refine Or.inr ⟨by rfl, ?_⟩; with_reducible rfl) | (refine Or.inl ⟨by rfl, ?_⟩; intro wx hSw; (try dsimp only at hSw); first | (go_simp; first | done | with_reducible rfl))
        try simp only [Act.put, List.getElem_toArray, List.getElem_cons_succ, List.getElem_cons_zero, List.setIfInBounds_toArray, List.set_cons_zero, List.set_cons_succ]
      refine takesH_nil ?_
      refine wpAnyH_done (by kernel_rfl) ?_ _
      generalize World.setCell (World.setCell (World.setCell U ⟨w.heap.size, 0, none⟩ (.slice none 0 0)) ⟨w.heap.size, 1, none⟩ (.slice none 0 0)) ⟨w.heap.size, 2, none⟩ (.slice none 0 0) = w9 at m9 B9 S9 hHeld ⊢
      go_wp2
      have q0 := cell_at (i := 0) m9 rfl
      have q1 := cell_at (i := 1) m9 rfl
      have q2 := cell_at (i := 2) m9 rfl
      refine bodyPost_ret (v := .tuple #[.agg #[.slice none 0 0, .slice none 0 0, .slice none 0 0], .int .i64 F]) ?_ rfl ?_
      · simp [results, Tryz.results40, go_sem, q0, q1, q2]
      · rw [HRR.out]
        exact ⟨rfl, B9.out⟩
set_option maxRecDepth 8000 in
set_option maxHeartbeats 4000000 in
theorem getBatch_any (YI : InnerOk) (A : Option Addr) (n c B : Nat) (l : Bs) (w : World) (hr : Rd w B A n l) (hB : B ≤ w.heap.size) (hnc : n ≤ c) (hc : c ≤ maxLen) (hA : A = none → c = 0) :
    Calls Tryz.prog 15 #[.slice A n c] w (GivesH w (getBatch l)) := by
  have bz := (Below.refl w.heap.size w).alloc (Nat.le_refl _) (.cells #[.slice none 0 0, .slice none 0 0, .slice none 0 0] 29)
  have hz := heap_alloc_new w (.cells #[.slice none 0 0, .slice none 0 0, .slice none 0 0] 29)
  obtain ⟨V, hV⟩ : ∃ V, V = w.alloc (.cells #[.slice none 0 0, .slice none 0 0, .slice none 0 0] 29) := ⟨_, rfl⟩
  rw [← hV] at bz hz
  have N := get_batch YI A n c B l V (hr.below (bz.mono hB)) (Nat.le_trans hB bz.size) hnc hc hA
  obtain ⟨R, hR⟩ : ∃ R, getBatch l = R := ⟨_, rfl⟩
  rw [hR] at N ⊢
  have HZ := Lib.hid hz; have BZ := Lib.hid bz; have HN := Lib.hid N
  clear bz hz N hr hB hnc hc hA hR
  go_enter Tryz.func15, Tryz.ntmps15
  go_wp2_with fail
  rw [← hV]
  clear hV
  refine HN.out.mono ?_
  intro x w1 hg
  cases R with
  | error e =>
    obtain ⟨rfl, b1⟩ := hg
    have HZ1 := Lib.hid ((b1.block _ (Array.getElem?_eq_some_iff.1 HZ.out).1).trans HZ.out)
    have B1 := Lib.hid (next BZ.out b1)
    have z0 := cell_at (i := 0) HZ1.out rfl
    have z1 := cell_at (i := 1) HZ1.out rfl
    have z2 := cell_at (i := 2) HZ1.out rfl
    have y0 := thawed_at (i := 0) HZ1.out
    have y1 := thawed_at (i := 1) HZ1.out
    have y2 := thawed_at (i := 2) HZ1.out
    have m9 := set3Q_block HZ1.out (.slice none 0 0) (.slice none 0 0) (.slice none 0 0)
    have b9 := (kept_set3Q (w := w1) w.heap.size (.slice none 0 0) (.slice none 0 0) (.slice none 0 0)).below (B := w.heap.size) (fun k hk => by subst hk; exact Nat.le_refl _) B1.out.size
    have B9 := Lib.hid (B1.out.trans b9)
    clear b1 b9
    go_wp2
    generalize World.setCell (World.setCell (World.setCell w1 ⟨w.heap.size, 0, none⟩ (.slice none 0 0)) ⟨w.heap.size, 1, none⟩ (.slice none 0 0)) ⟨w.heap.size, 2, none⟩ (.slice none 0 0) = w9 at m9 B9 ⊢
    clear z0 z1 z2 y0 y1 y2
    have q0 := cell_at (i := 0) m9 rfl
    have q1 := cell_at (i := 1) m9 rfl
    have q2 := cell_at (i := 2) m9 rfl
    refine bodyPost_ret (v := .tuple #[.agg #[.slice none 0 0, .slice none 0 0, .slice none 0 0], .int .i64 e]) ?_ rfl ?_
    · simp [results, Tryz.results15, go_sem, q0, q1, q2]
    · exact ⟨rfl, B9.out⟩
  | ok p =>
    obtain ⟨z, hp, rfl, hrows, b1⟩ := hg
    have HZ1 := Lib.hid ((b1.block _ (Array.getElem?_eq_some_iff.1 HZ.out).1).trans HZ.out)
    have B1 := Lib.hid (next BZ.out b1)
    have z0 := cell_at (i := 0) HZ1.out rfl
    have z1 := cell_at (i := 1) HZ1.out rfl
    have z2 := cell_at (i := 2) HZ1.out rfl
    have y0 := thawed_at (i := 0) HZ1.out
    have y1 := thawed_at (i := 1) HZ1.out
    have y2 := thawed_at (i := 2) HZ1.out
    have m9 := set3Q_block HZ1.out (.slice z.AM z.M.length z.cM) (.slice z.AN z.N.length z.cN) (.slice z.AD z.D.length z.cD)
    have k9 := kept_set3Q (w := w1) w.heap.size (.slice z.AM z.M.length z.cM) (.slice z.AN z.N.length z.cN) (.slice z.AD z.D.length z.cD)
    have b9 := k9.below (B := w.heap.size) (fun k hk => by subst hk; exact Nat.le_refl _) B1.out.size
    have B9 := Lib.hid (show _ ∧ _ from ⟨B1.out.trans b9, (hrows.lower (w0 := w) BZ.out.size).keptB k9 HZ1.out⟩)
    have HP := Lib.hid hp
    clear b1 b9 k9 hrows hp
    go_wp2
    generalize World.setCell (World.setCell (World.setCell w1 ⟨w.heap.size, 0, none⟩ (.slice z.AM z.M.length z.cM)) ⟨w.heap.size, 1, none⟩ (.slice z.AN z.N.length z.cN)) ⟨w.heap.size, 2, none⟩ (.slice z.AD z.D.length z.cD) = w9 at m9 B9 ⊢
    clear z0 z1 z2 y0 y1 y2
    have q0 := cell_at (i := 0) m9 rfl
    have q1 := cell_at (i := 1) m9 rfl
    have q2 := cell_at (i := 2) m9 rfl
    refine bodyPost_ret (v := .tuple #[.agg #[.slice z.AM z.M.length z.cM, .slice z.AN z.N.length z.cN, .slice z.AD z.D.length z.cD], .int .i64 0]) ?_ rfl ?_
    · simp [results, Tryz.results15, go_sem, q0, q1, q2]
    · exact ⟨z, HP.out, rfl, B9.out.2, B9.out.1⟩
end Go.Proofs.YthfanonjokpflaaGreat
set_option linter.unusedVariables false
set_option linter.unusedSimpArgs false
namespace Go.Proofs.YthfanonjokpflaaGreat
open Go Go.RowKit

set_option maxRecDepth 8000 in
set_option maxHeartbeats 2000000 in
theorem getPart_any (A : Option Addr) (n c B : Nat) (l : Bs) (w : World) (hr : Rd w B A n l) (hB : B ≤ w.heap.size) (hnc : n ≤ c) (hc : c ≤ maxLen) (hA : A = none → c = 0) :
    Calls Tryz.prog 13 #[.slice A n c] w (GivesG w (getPart l)) := by
  have bz := (Below.refl w.heap.size w).alloc (Nat.le_refl _) (.cells #[.string ⟨#[]⟩, .int .i64 0, .slice none 0 0] 24)
  have hz := heap_alloc_new w (.cells #[.string ⟨#[]⟩, .int .i64 0, .slice none 0 0] 24)
  obtain ⟨V, hV⟩ : ∃ V, V = w.alloc (.cells #[.string ⟨#[]⟩, .int .i64 0, .slice none 0 0] 24) := ⟨_, rfl⟩
  rw [← hV] at bz hz
  have N := get_part A n c B l V (hr.below (bz.mono hB)) (Nat.le_trans hB bz.size) hnc hc hA
  obtain ⟨R, hR⟩ : ∃ R, getPart l = R := ⟨_, rfl⟩
  rw [hR] at N ⊢
  have HZ := Lib.hid hz; have BZ := Lib.hid bz; have HN := Lib.hid N
  clear bz hz N hr hB hnc hc hA hR
  go_enter Tryz.func13, Tryz.ntmps13
  go_wp2_with fail
  rw [← hV]
  clear hV
  refine HN.out.mono ?_
  intro x w1 hg
  cases R with
  | error e =>
    obtain ⟨rfl, b1⟩ := hg
    have HZ1 := Lib.hid ((b1.block _ (Array.getElem?_eq_some_iff.1 HZ.out).1).trans HZ.out)
    have B1 := Lib.hid (next BZ.out b1)
    have z0 := cell_at (i := 0) HZ1.out rfl
    have z1 := cell_at (i := 1) HZ1.out rfl
    have z2 := cell_at (i := 2) HZ1.out rfl
    have y0 := thawed_at (i := 0) HZ1.out
    have y1 := thawed_at (i := 1) HZ1.out
    have y2 := thawed_at (i := 2) HZ1.out
    have m9 := set3Q_block HZ1.out (.string ⟨#[]⟩) (.int .i64 0) (.slice none 0 0)
    have b9 := (kept_set3Q (w := w1) w.heap.size (.string ⟨#[]⟩) (.int .i64 0) (.slice none 0 0)).below (B := w.heap.size) (fun k hk => by subst hk; exact Nat.le_refl _) B1.out.size
    have B9 := Lib.hid (B1.out.trans b9)
    clear b1 b9
    go_wp2
    generalize World.setCell (World.setCell (World.setCell w1 ⟨w.heap.size, 0, none⟩ (.string ⟨#[]⟩)) ⟨w.heap.size, 1, none⟩ (.int .i64 0)) ⟨w.heap.size, 2, none⟩ (.slice none 0 0) = w9 at m9 B9 ⊢
    clear z0 z1 z2 y0 y1 y2
    have q0 := cell_at (i := 0) m9 rfl
    have q1 := cell_at (i := 1) m9 rfl
    have q2 := cell_at (i := 2) m9 rfl
    refine bodyPost_ret (v := .tuple #[.agg #[.string ⟨#[]⟩, .int .i64 0, .slice none 0 0], .int .i64 e]) ?_ rfl ?_
    · simp [results, Tryz.results13, go_sem, q0, q1, q2]
    · exact ⟨rfl, B9.out⟩
  | ok p =>
    obtain ⟨⟨zk, zg, zL, zA, zc⟩, hp, rfl, hrows, b1⟩ := hg
    dsimp only at hp hrows
    have HZ1 := Lib.hid ((b1.block _ (Array.getElem?_eq_some_iff.1 HZ.out).1).trans HZ.out)
    have B1 := Lib.hid (next BZ.out b1)
    have z0 := cell_at (i := 0) HZ1.out rfl
    have z1 := cell_at (i := 1) HZ1.out rfl
    have z2 := cell_at (i := 2) HZ1.out rfl
    have y0 := thawed_at (i := 0) HZ1.out
    have y1 := thawed_at (i := 1) HZ1.out
    have y2 := thawed_at (i := 2) HZ1.out
    have m9 := set3Q_block HZ1.out (.string zk) (.int .i64 zg) (.slice zA zL.length zc)
    have k9 := kept_set3Q (w := w1) w.heap.size (.string zk) (.int .i64 zg) (.slice zA zL.length zc)
    have b9 := k9.below (B := w.heap.size) (fun k hk => by subst hk; exact Nat.le_refl _) B1.out.size
    have B9 := Lib.hid (show _ ∧ _ from ⟨B1.out.trans b9, (hrows.lower (w0 := w) BZ.out.size).kept1 k9 HZ1.out (by decide) (by decide)⟩)
    have HP := Lib.hid hp
    clear b1 b9 k9 hrows hp
    go_wp2
    generalize World.setCell (World.setCell (World.setCell w1 ⟨w.heap.size, 0, none⟩ (.string zk)) ⟨w.heap.size, 1, none⟩ (.int .i64 zg)) ⟨w.heap.size, 2, none⟩ (.slice zA zL.length zc) = w9 at m9 B9 ⊢
    clear z0 z1 z2 y0 y1 y2
    have q0 := cell_at (i := 0) m9 rfl
    have q1 := cell_at (i := 1) m9 rfl
    have q2 := cell_at (i := 2) m9 rfl
    refine bodyPost_ret (v := .tuple #[.agg #[.string zk, .int .i64 zg, .slice zA zL.length zc], .int .i64 0]) ?_ rfl ?_
    · simp [results, Tryz.results13, go_sem, q0, q1, q2]
    · exact ⟨⟨zk, zg, zL, zA, zc⟩, HP.out, rfl, B9.out.2, B9.out.1⟩
end Go.Proofs.YthfanonjokpflaaGreat
