/-
  pack's lists of muts, notes, numbers, put; putBatch.
-/
import Derived.Test.YtbfkbfbcaileoaaTkl
import Derived.Test.YtbfkbfbcaileoaaPt6
set_option linter.unusedVariables false
set_option linter.unusedSimpArgs false
namespace Go.Proofs.Ytbfkbfbcaileoaa
open Go Go.RowKit

/-- What is joined to partitions, that can be read, down to the columns. -/
structure LiesM (w : World) (B : Nat) (A : Option Addr) (n c : Nat) (L : List MA) : Prop where
  rd : RdM w B A n L
  parts : ∀ x ∈ L, Lies w B x.p.A x.p.L.length x.p.c x.p.L
  cap : n ≤ c
theorem LiesM.below {w w' : World} {B n c : Nat} {A : Option Addr} {L : List MA} (h : LiesM w B A n c L) (hb : Below B w w') : LiesM w' B A n c L := ⟨h.rd.below hb, fun x hx => (h.parts x hx).below hb, h.cap⟩
theorem LiesM.up {w : World} {B B' n c : Nat} {A : Option Addr} {L : List MA} (h : LiesM w B A n c L) (hB : B ≤ B') : LiesM w B' A n c L := ⟨h.rd.up hB, fun x hx => (h.parts x hx).up hB, h.cap⟩
def mutOf (x : MA) : ByteArray × Pa := (x.tb, ⟨x.p.k, x.p.g, ros x.p.L⟩)
abbrev muts (L : List MA) : List (ByteArray × Pa) := L.map mutOf
theorem drop_muts {L : List MA} {t : Nat} (h : t < L.length) : muts (L.drop t) = mutOf L[t] :: muts (L.drop (t + 1)) := by rw [List.drop_eq_getElem_cons h]; rfl
def MuS (x : MA) : Prop := x.tb.size ≤ 1000000 ∧ PaS x.p.k x.p.g x.p.L
def NoS (x : NA) : Prop := Stm x.1 ∧ x.2.size ≤ 1000000
set_option maxRecDepth 8000 in
set_option maxHeartbeats 600000 in
theorem putMuts_any (B : Nat) (v : Value) (l : Bs) (A : Option Addr) (n c Bk : Nat) (L : List MA) (w : World) (h : OwnY B w v l) (hB : B ≤ w.heap.size) (hr : LiesM w Bk A n c L) (hBk : Bk ≤ B) (hx : ∀ x ∈ L, MuS x) (hn : n ≤ 1000000) (htot : (l ++ (numL n ++ (muts L).flatMap mE)).length ≤ 400000000) :
    Calls Try.prog 54 #[v, .slice A n c, .func (.func 55) #[] #[]] w (Lays B w v (l ++ (numL n ++ (muts L).flatMap mE))) := by
  have hl := hr.rd.1
  obtain ⟨P, hP⟩ : ∃ P, l ++ (numL n ++ (muts L).flatMap mE) = P := ⟨_, rfl⟩
  obtain ⟨P0, hP0⟩ : ∃ X, l ++ numL n = X := ⟨_, rfl⟩
  rw [hP] at htot ⊢
  have hst : P0 ++ (muts (L.drop 0)).flatMap mE = P := by rw [← hP, ← hP0, List.drop_zero, List.append_assoc]
  have hl0 : l.length ≤ 400000000 := by have := congrArg List.length hP; rw [List.length_append] at this; omega
  have N := putNum_any B v l (n : Int) w h hB (by omega) (by omega) (by omega)
  rw [Int.toNat_natCast, hP0] at N
  have HN := Lib.hid N; have HB := Lib.hid hB; have HO := Lib.hid h; have HR := Lib.hid hr; have HX := Lib.hid hx; have HT := Lib.hid htot; have HL := Lib.hid hl; have HST := Lib.hid hst; have HBK := Lib.hid hBk; have HNN := Lib.hid hn
  clear N hB h hr hx htot hl hst hBk hP hP0 hl0 hn
  go_enter Try.func54, Try.ntmps54
  go_wp2_with fail
  refine (HN.out).mono ?_
  rintro e w1 ⟨v1, rfl, l1⟩
  have L1 := Lib.hid l1
  clear l1
  go_wp2_with fail
  go_loopw [0, 15] (fun b i wr => ∃ (t : Nat) (X : Bs) (b' : Value), t ≤ n ∧ i = .int .i64 t ∧ b' = b ∧ X ++ (muts (L.drop t)).flatMap mE = P ∧ Ly B w v wr b' X) (fun _ i _ => n - (intOf i).toNat)
  case atStart => exact ⟨0, P0, v1, Nat.zero_le _, rfl, rfl, HST.out, L1.out⟩
  case round =>
    obtain ⟨t, X, b, ht, rfl, rfl, hX, hly⟩ := hrel
    by_cases hlt : t < n
    · have i1 : (t : Int) < n := by omega
      have i0 : (0 : Int) ≤ t := by omega
      have i8 : n ≤ 1000000 := HNN.out
      have htl : t < L.length := by rw [HL.out]; exact hlt
      have hrd := HR.out.below ((hly.base HO.out HB.out).mono HBK.out)
      obtain ⟨g0, o0, rfl, hg0⟩ := hrd.rd.ex (by omega)
      have hcol := hrd.rd.part htl
      have hs := HX.out L[t] (List.getElem_mem htl)
      have hin := hrd.parts L[t] (List.getElem_mem htl)
      rw [drop_muts htl, List.flatMap_cons] at hX
      obtain ⟨x, hcx⟩ : ∃ y, L[t] = y := ⟨_, rfl⟩
      rw [hcx] at hcol hs hX hin
      have hxl : (X ++ mE (mutOf x)).length ≤ 400000000 := by have := congrArg List.length hX; rw [← List.append_assoc, List.length_append] at this; have := HT.out; omega
      obtain ⟨_, _, _, _⟩ := hcol
      have ba := (Below.refl wr.heap.size wr).alloc (Nat.le_refl _) (.cells #[.string x.tb, .string x.p.k, .int .i64 x.p.g, .slice x.p.A x.p.L.length x.p.c] 49)
      have lb := hly.below ba
      have HLB := Lib.hid lb; have HX3 := Lib.hid hX; have S1 := Lib.hid hs; have HXL := Lib.hid hxl
      have HIN := Lib.hid (Lies.below hin (ba.mono (by have := HBK.out; have := HB.out; have := hly.size; omega)))
      clear hrd hX hxl hs lb hly hcx hin ba
      go_wp2_with fail
      refine (putMut_any B b X x.tb x.p.k x.p.g x.p.A x.p.L.length x.p.c Bk x.p.L _ HLB.out.own (Nat.le_trans HB.out HLB.out.size) HIN.out HBK.out S1.out.1 S1.out.2 HXL.out).mono ?_
      rintro e w2 ⟨v2, rfl, l2⟩
      have L2 := Lib.hid (HLB.out.on l2)
      clear l2
      go_wp2
      go_roundw
      case rel => exact ⟨t + 1, X ++ mE (mutOf x), v2, by omega, by go_num, rfl, by rw [List.append_assoc]; exact HX3.out, L2.out⟩
      case measure => simp [intOf]; omega
    · obtain rfl : t = n := by omega
      rw [List.drop_of_length_le (by rw [HL.out]; exact Nat.le_refl _)] at hX
      have HLY := Lib.hid (hly.same (by rw [← hX]; simp [muts] : X = P))
      clear hX hly
      go_wp2
      go_ret
      exact ⟨b, rfl, HLY.out⟩

set_option maxRecDepth 8000 in
set_option maxHeartbeats 600000 in
theorem putNotes_any (B : Nat) (v : Value) (l : Bs) (A : Option Addr) (n c Bk : Nat) (L : List NA) (w : World) (h : OwnY B w v l) (hB : B ≤ w.heap.size) (hr : RdN w Bk A n L) (hBk : Bk ≤ B) (hx : ∀ x ∈ L, NoS x) (hn : n ≤ 1000000) (htot : (l ++ (numL n ++ L.flatMap aE)).length ≤ 400000000) :
    Calls Try.prog 57 #[v, .slice A n c, .func (.func 58) #[] #[]] w (Lays B w v (l ++ (numL n ++ L.flatMap aE))) := by
  have hl := hr.1
  obtain ⟨P, hP⟩ : ∃ P, l ++ (numL n ++ L.flatMap aE) = P := ⟨_, rfl⟩
  obtain ⟨P0, hP0⟩ : ∃ X, l ++ numL n = X := ⟨_, rfl⟩
  rw [hP] at htot ⊢
  have hst : P0 ++ (L.drop 0).flatMap aE = P := by rw [← hP, ← hP0, List.drop_zero, List.append_assoc]
  have hl0 : l.length ≤ 400000000 := by have := congrArg List.length hP; rw [List.length_append] at this; omega
  have N := putNum_any B v l (n : Int) w h hB (by omega) (by omega) (by omega)
  rw [Int.toNat_natCast, hP0] at N
  have HN := Lib.hid N; have HB := Lib.hid hB; have HO := Lib.hid h; have HR := Lib.hid hr; have HX := Lib.hid hx; have HT := Lib.hid htot; have HL := Lib.hid hl; have HST := Lib.hid hst; have HBK := Lib.hid hBk; have HNN := Lib.hid hn
  clear N hB h hr hx htot hl hst hBk hP hP0 hl0 hn
  go_enter Try.func57, Try.ntmps57
  go_wp2_with fail
  refine (HN.out).mono ?_
  rintro e w1 ⟨v1, rfl, l1⟩
  have L1 := Lib.hid l1
  clear l1
  go_wp2_with fail
  go_loopw [0, 15] (fun b i wr => ∃ (t : Nat) (X : Bs) (b' : Value), t ≤ n ∧ i = .int .i64 t ∧ b' = b ∧ X ++ (L.drop t).flatMap aE = P ∧ Ly B w v wr b' X) (fun _ i _ => n - (intOf i).toNat)
  case atStart => exact ⟨0, P0, v1, Nat.zero_le _, rfl, rfl, HST.out, L1.out⟩
  case round =>
    obtain ⟨t, X, b, ht, rfl, rfl, hX, hly⟩ := hrel
    by_cases hlt : t < n
    · have i1 : (t : Int) < n := by omega
      have i0 : (0 : Int) ≤ t := by omega
      have i8 : n ≤ 1000000 := HNN.out
      have htl : t < L.length := by rw [HL.out]; exact hlt
      have hrd := HR.out.below ((hly.base HO.out HB.out).mono HBK.out)
      obtain ⟨g0, o0, rfl, hg0⟩ := hrd.ex (by omega)
      have hcol := hrd.part htl
      have hs := HX.out L[t] (List.getElem_mem htl)
      rw [List.drop_eq_getElem_cons htl, List.flatMap_cons] at hX
      obtain ⟨x, hcx⟩ : ∃ y, L[t] = y := ⟨_, rfl⟩
      rw [hcx] at hcol hs hX
      have hxl : (X ++ aE x).length ≤ 400000000 := by have := congrArg List.length hX; rw [← List.append_assoc, List.length_append] at this; have := HT.out; omega
      obtain ⟨_, _⟩ := hcol
      have ba := (Below.refl wr.heap.size wr).alloc (Nat.le_refl _) (.cells #[.int .i64 x.1, .string x.2] 51)
      have lb := hly.below ba
      have HLB := Lib.hid lb; have HX3 := Lib.hid hX; have S1 := Lib.hid hs; have HXL := Lib.hid hxl
      clear hrd hX hxl hs lb hly hcx ba
      go_wp2_with fail
      refine (putNote_any B b X x.1 x.2 _ HLB.out.own (Nat.le_trans HB.out HLB.out.size) S1.out.1 S1.out.2 (by have := HXL.out; rw [List.length_append] at this; omega)).mono ?_
      rintro e w2 ⟨v2, rfl, l2⟩
      have L2 := Lib.hid (HLB.out.on l2)
      clear l2
      go_wp2
      go_roundw
      case rel => exact ⟨t + 1, X ++ aE x, v2, by omega, by go_num, rfl, by rw [List.append_assoc]; exact HX3.out, L2.out⟩
      case measure => simp [intOf]; omega
    · obtain rfl : t = n := by omega
      rw [List.drop_of_length_le (by rw [HL.out]; exact Nat.le_refl _)] at hX
      have HLY := Lib.hid (hly.same (by rw [← hX]; simp : X = P))
      clear hX hly
      go_wp2
      go_ret
      exact ⟨b, rfl, HLY.out⟩

set_option maxRecDepth 8000 in
set_option maxHeartbeats 600000 in
theorem putInts_any (B : Nat) (v : Value) (l : Bs) (A : Option Addr) (n c Bk : Nat) (L : List Int) (w : World) (h : OwnY B w v l) (hB : B ≤ w.heap.size) (hr : RdZ w Bk A n L) (hBk : Bk ≤ B) (hx : ∀ x ∈ L, Stm x) (hn : n ≤ 1000000) (htot : (l ++ (numL n ++ L.flatMap (fun v : Int => numL v.toNat))).length ≤ 400000000) :
    Calls Try.prog 56 #[v, .slice A n c, .func (.func 45) #[] #[]] w (Lays B w v (l ++ (numL n ++ L.flatMap (fun v : Int => numL v.toNat)))) := by
  have hl := hr.1
  obtain ⟨P, hP⟩ : ∃ P, l ++ (numL n ++ L.flatMap (fun v : Int => numL v.toNat)) = P := ⟨_, rfl⟩
  obtain ⟨P0, hP0⟩ : ∃ X, l ++ numL n = X := ⟨_, rfl⟩
  rw [hP] at htot ⊢
  have hst : P0 ++ (L.drop 0).flatMap (fun v : Int => numL v.toNat) = P := by rw [← hP, ← hP0, List.drop_zero, List.append_assoc]
  have hl0 : l.length ≤ 400000000 := by have := congrArg List.length hP; rw [List.length_append] at this; omega
  have N := putNum_any B v l (n : Int) w h hB (by omega) (by omega) (by omega)
  rw [Int.toNat_natCast, hP0] at N
  have HN := Lib.hid N; have HB := Lib.hid hB; have HO := Lib.hid h; have HR := Lib.hid hr; have HX := Lib.hid hx; have HT := Lib.hid htot; have HL := Lib.hid hl; have HST := Lib.hid hst; have HBK := Lib.hid hBk; have HNN := Lib.hid hn
  clear N hB h hr hx htot hl hst hBk hP hP0 hl0 hn
  go_enter Try.func56, Try.ntmps56
  go_wp2_with fail
  refine (HN.out).mono ?_
  rintro e w1 ⟨v1, rfl, l1⟩
  have L1 := Lib.hid l1
  clear l1
  go_wp2_with fail
  go_loopw [0, 15] (fun b i wr => ∃ (t : Nat) (X : Bs) (b' : Value), t ≤ n ∧ i = .int .i64 t ∧ b' = b ∧ X ++ (L.drop t).flatMap (fun v : Int => numL v.toNat) = P ∧ Ly B w v wr b' X) (fun _ i _ => n - (intOf i).toNat)
  case atStart => exact ⟨0, P0, v1, Nat.zero_le _, rfl, rfl, HST.out, L1.out⟩
  case round =>
    obtain ⟨t, X, b, ht, rfl, rfl, hX, hly⟩ := hrel
    by_cases hlt : t < n
    · have i1 : (t : Int) < n := by omega
      have i0 : (0 : Int) ≤ t := by omega
      have i8 : n ≤ 1000000 := HNN.out
      have htl : t < L.length := by rw [HL.out]; exact hlt
      have hrd := HR.out.below ((hly.base HO.out HB.out).mono HBK.out)
      obtain ⟨g0, o0, rfl, hg0, hc⟩ := hrd.2 (by omega)
      have hcol := hc t htl
      have hs := HX.out L[t] (List.getElem_mem htl)
      rw [List.drop_eq_getElem_cons htl, List.flatMap_cons] at hX
      obtain ⟨x, hcx⟩ : ∃ y, L[t] = y := ⟨_, rfl⟩
      rw [hcx] at hcol hs hX
      have hxl : (X ++ numL x.toNat).length ≤ 400000000 := by have := congrArg List.length hX; rw [← List.append_assoc, List.length_append] at this; have := HT.out; omega
      have lb := hly
      have HLB := Lib.hid lb; have HX3 := Lib.hid hX; have S1 := Lib.hid hs; have HXL := Lib.hid hxl
      clear hrd hX hxl hs lb hly hcx hc
      go_wp2_with fail
      refine (putNum_any B b X x _ HLB.out.own (Nat.le_trans HB.out HLB.out.size) S1.out.1 (by have := S1.out.2; omega) (by have := HXL.out; rw [List.length_append] at this; omega)).mono ?_
      rintro e w2 ⟨v2, rfl, l2⟩
      have L2 := Lib.hid (HLB.out.on l2)
      clear l2
      go_wp2
      go_roundw
      case rel => exact ⟨t + 1, X ++ numL x.toNat, v2, by omega, by go_num, rfl, by rw [List.append_assoc]; exact HX3.out, L2.out⟩
      case measure => simp [intOf]; omega
    · obtain rfl : t = n := by omega
      rw [List.drop_of_length_le (by rw [HL.out]; exact Nat.le_refl _)] at hX
      have HLY := Lib.hid (hly.same (by rw [← hX]; simp : X = P))
      clear hX hly
      go_wp2
      go_ret
      exact ⟨b, rfl, HLY.out⟩

/-- A batch that can be read. -/
structure BA where
  AM : Option Addr
  cM : Nat
  M : List MA
  AN : Option Addr
  cN : Nat
  N : List NA
  AD : Option Addr
  cD : Nat
  D : List Int
def BA.bt (x : BA) : Bt := ⟨muts x.M, x.N, x.D⟩
structure LiesB (w : World) (B : Nat) (x : BA) : Prop where
  muts : LiesM w B x.AM x.M.length x.cM x.M
  notes : RdN w B x.AN x.N.length x.N
  drops : RdZ w B x.AD x.D.length x.D
  capN : x.N.length ≤ x.cN
  capD : x.D.length ≤ x.cD
theorem LiesB.below {w w' : World} {B : Nat} {x : BA} (h : LiesB w B x) (hb : Below B w w') : LiesB w' B x := ⟨h.muts.below hb, h.notes.below hb, h.drops.below hb, h.capN, h.capD⟩
structure BtS (x : BA) : Prop where
  muts : ∀ y ∈ x.M, MuS y
  notes : ∀ y ∈ x.N, NoS y
  drops : ∀ y ∈ x.D, Stm y
  lm : x.M.length ≤ 1000000
  ln : x.N.length ≤ 1000000
  ld : x.D.length ≤ 1000000
set_option maxRecDepth 8000 in
set_option maxHeartbeats 600000 in
theorem putBatch_any (B : Nat) (v : Value) (l : Bs) (AM AN AD : Option Addr) (m cM n cN d cD Bk : Nat) (M : List MA) (N : List NA) (D : List Int) (w : World) (h : OwnY B w v l) (hB : B ≤ w.heap.size) (hr : LiesM w Bk AM m cM M ∧ RdN w Bk AN n N ∧ RdZ w Bk AD d D) (hBk : Bk ≤ B)
    (hs : (∀ y ∈ M, MuS y) ∧ (∀ y ∈ N, NoS y) ∧ ∀ y ∈ D, Stm y) (hln : m ≤ 1000000 ∧ n ≤ 1000000 ∧ d ≤ 1000000) (htot : (l ++ bE ⟨muts M, N, D⟩).length ≤ 400000000) :
    Calls Try.prog 29 #[v, .agg #[.slice AM m cM, .slice AN n cN, .slice AD d cD]] w (Lays B w v (l ++ bE ⟨muts M, N, D⟩)) := by
  have e1 : (muts M).length = m := by rw [List.length_map]; exact hr.1.rd.1
  have e2 : N.length = n := hr.2.1.1
  have e3 : D.length = d := hr.2.2.1
  have hE : l ++ bE ⟨muts M, N, D⟩ = l ++ (numL m ++ (muts M).flatMap mE) ++ (numL n ++ N.flatMap aE) ++ (numL d ++ D.flatMap fun v => numL v.toNat) := by
    unfold bE
    dsimp only
    rw [e1, e2, e3]
    simp only [List.append_assoc]
  rw [hE] at htot ⊢
  have ht4 := htot
  simp only [List.length_append] at ht4
  have HT2 := Lib.hid htot
  have HT1 : Hid ((l ++ (numL m ++ (muts M).flatMap mE) ++ (numL n ++ N.flatMap aE)).length ≤ 400000000) := Lib.hid (by simp only [List.length_append]; omega)
  have HT0 : Hid ((l ++ (numL m ++ (muts M).flatMap mE)).length ≤ 400000000) := Lib.hid (by simp only [List.length_append]; omega)
  have bz := (Below.refl w.heap.size w).alloc (Nat.le_refl _) (.cells #[.slice AM m cM, .slice AN n cN, .slice AD d cD] 29)
  have hz := heap_alloc_new w (.cells #[.slice AM m cM, .slice AN n cN, .slice AD d cD] 29)
  have l0 := (Ly.refl h).below bz
  obtain ⟨V, hV⟩ : ∃ V, V = w.alloc (.cells #[.slice AM m cM, .slice AN n cN, .slice AD d cD] 29) := ⟨_, rfl⟩
  rw [← hV] at bz hz l0
  have hc0 := cell_at (i := 0) hz rfl
  have L0 := Lib.hid l0; have HZ := Lib.hid hz; have HB := Lib.hid hB; have HO := Lib.hid h; have HR := Lib.hid hr; have HBK := Lib.hid hBk; have HS := Lib.hid hs; have HLN := Lib.hid hln
  clear bz hz l0 hB hs h htot ht4 hE hr hBk hln e1 e2 e3
  go_enter Try.func29, Try.ntmps29
  go_wp2_with fail
  rw [← hV]
  clear hV
  refine (putMuts_any B v l AM m cM Bk M V L0.out.own (Nat.le_trans HB.out L0.out.size) (HR.out.1.below ((L0.out.base HO.out HB.out).mono HBK.out)) HBK.out HS.out.1 HLN.out.1 HT0.out).mono ?_
  rintro e w1 ⟨v1, rfl, l1⟩
  have HZ1 := Lib.hid (l1.at_ L0.out.own HZ.out (by decide))
  have L1 := Lib.hid (L0.out.on l1)
  clear l1 hc0
  go_wp2_with fail
  refine wp_region_held_drew (S := fun w' => w'.heap[w.heap.size]? = some (.cells #[.slice AM m cM, .slice AN n cN, .slice AD d cD] 29 (0, 0))) (by kernel_rfl) ?_ (fun hHeld => ?_)
  · exact HZ1.out
  refine takesH [0, 1, 2, 4, 5] ?_
  repeat
    refine takesH_one (v := ?_) ?_ ?_
    rotate_left
    · first | (refine Or.inr ⟨by rfl, ?_⟩; with_reducible rfl) | (refine Or.inl ⟨by rfl, ?_⟩; intro wx hSw; (try dsimp only at hSw); first | (go_simp; first | done | with_reducible rfl) | (have hc1 := cell_at (i := 1) hSw rfl; go_simp; first | done | with_reducible rfl) | (have hc2 := cell_at (i := 2) hSw rfl; go_simp; first | done | with_reducible rfl))
    try simp only [Act.put, List.getElem_toArray, List.getElem_cons_succ, List.getElem_cons_zero, List.setIfInBounds_toArray, List.set_cons_zero, List.set_cons_succ]
  refine takesH_nil ?_
  refine wpAnyH_ready (rs := [3]) (by kernel_rfl) (by simp) (AllReadyH.cons rfl (fun K hK => ?_) AllReadyH.nil)
  go_simp
  refine (putNotes_any B v1 (l ++ (numL m ++ (Go.Proofs.Ytbfkbfbcaileoaa.muts M).flatMap mE)) AN n cN Bk N w1.drew L1.out.drew.own (Nat.le_trans HB.out L1.out.size) (HR.out.2.1.below ((L1.out.drew.base HO.out HB.out).mono HBK.out)) HBK.out HS.out.2.1 HLN.out.2.1 HT1.out).mono ?_
  rintro x w2 ⟨v2, rfl, l2⟩
  have HZ2 := Lib.hid (l2.at_ L1.out.drew.own HZ1.out (by decide))
  have L2 := Lib.hid (L1.out.step l2)
  clear l2
  try go_wp2_with fail
  refine hK.out _ _ ?_ (fun hHeld => ?_)
  · first | exact HZ3.out | exact HZ2.out
  clear hK K
  try simp only [Act.put, List.getElem_toArray, List.getElem_cons_succ, List.getElem_cons_zero, List.setIfInBounds_toArray, List.set_cons_zero, List.set_cons_succ]
  refine wpAnyH_ready (rs := [6]) (by kernel_rfl) (by simp) (AllReadyH.cons rfl (fun K hK => ?_) AllReadyH.nil)
  go_simp
  refine (putInts_any B v2 (l ++ (numL m ++ (Go.Proofs.Ytbfkbfbcaileoaa.muts M).flatMap mE) ++ (numL n ++ N.flatMap aE)) AD d cD Bk D w2 L2.out.own (Nat.le_trans HB.out L2.out.size) (HR.out.2.2.below ((L2.out.base HO.out HB.out).mono HBK.out)) HBK.out HS.out.2.2 HLN.out.2.2 HT2.out).mono ?_
  rintro x w3 ⟨v3, rfl, l3⟩
  have HZ3 := Lib.hid (l3.at_ L2.out.own HZ2.out (by decide))
  have L3 := Lib.hid (L2.out.on l3)
  clear l3
  try go_wp2_with fail
  refine hK.out _ _ ?_ (fun hHeld => ?_)
  · first | exact HZ3.out | exact HZ2.out
  clear hK K
  try simp only [Act.put, List.getElem_toArray, List.getElem_cons_succ, List.getElem_cons_zero, List.setIfInBounds_toArray, List.set_cons_zero, List.set_cons_succ]
  refine takesH [7] ?_
  repeat
    refine takesH_one (v := ?_) ?_ ?_
    rotate_left
    · first | (refine Or.inr ⟨by rfl, ?_⟩; with_reducible rfl) | (refine Or.inl ⟨by rfl, ?_⟩; intro wx hSw; (try dsimp only at hSw); first | (go_simp; first | done | with_reducible rfl))
    try simp only [Act.put, List.getElem_toArray, List.getElem_cons_succ, List.getElem_cons_zero, List.setIfInBounds_toArray, List.set_cons_zero, List.set_cons_succ]
  refine takesH_nil ?_
  refine wpAnyH_done (by kernel_rfl) ?_ _
  go_wp2
  go_ret
  exact ⟨v3, rfl, L3.out⟩
end Go.Proofs.Ytbfkbfbcaileoaa
