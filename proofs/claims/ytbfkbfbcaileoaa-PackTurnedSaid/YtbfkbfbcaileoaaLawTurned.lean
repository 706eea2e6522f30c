/-
  PackTurned: for every input the law returns true, and each argument reads as it read. No condition.
-/
import Derived.Test.YtbfkbfbcaileoaaTkl
import Derived.Test.YtbfkbfbcaileoaaLawTurnedA
import Derived.Test.YtbfkbfbcaileoaaPt6
import Derived.Test.YtbfkbfbcaileoaaRnN
import Derived.Deep.DeepCutAuto
import Derived.Deep.CutBlock
import Derived.Test.YtbfkbfbcaileoaaPa
import Derived.Test.YtbfkbfbcaileoaaPp
import Derived.Test.YtbfkbfbcaileoaaPlc
import Derived.Test.YtbfkbfbcaileoaaProg
import Derived.ProofKit
import Derived.OpenShut
import Derived.ChangeOld
import Derived.Carry
import Derived.Test.YtbfkbfbcaileoaaCeZ
import Derived.Lib.SmallJoins
import Derived.Test.YtbfkbfbcaileoaaRows
import Derived.WalkKit
import Derived.ShutString
import Derived.Below
set_option linter.unusedVariables false
set_option linter.unusedSimpArgs false
namespace Go.Proofs.Ytbfkbfbcaileoaa
open Go Go.RowKit

set_option maxRecDepth 8000 in
set_option maxHeartbeats 2000000 in
theorem getPart_any (A : Option Addr) (n c B : Nat) (l : Bs) (w : World) (hr : Rd w B A n l) (hB : B ≤ w.heap.size) (hnc : n ≤ c) (hc : c ≤ maxLen) (hA : A = none → c = 0) :
    Calls Try.prog 11 #[.slice A n c] w (GivesG w (getPart l)) := by
  have bz := (Below.refl w.heap.size w).alloc (Nat.le_refl _) (.cells #[.string ⟨#[]⟩, .int .i64 0, .slice none 0 0] 24)
  have hz := heap_alloc_new w (.cells #[.string ⟨#[]⟩, .int .i64 0, .slice none 0 0] 24)
  obtain ⟨V, hV⟩ : ∃ V, V = w.alloc (.cells #[.string ⟨#[]⟩, .int .i64 0, .slice none 0 0] 24) := ⟨_, rfl⟩
  rw [← hV] at bz hz
  have N := get_part A n c B l V (hr.below (bz.mono hB)) (Nat.le_trans hB bz.size) hnc hc hA
  obtain ⟨R, hR⟩ : ∃ R, getPart l = R := ⟨_, rfl⟩
  rw [hR] at N ⊢
  have HZ := Lib.hid hz; have BZ := Lib.hid bz; have HN := Lib.hid N
  clear bz hz N hr hB hnc hc hA hR
  go_enter Try.func11, Try.ntmps11
  go_wp2_with fail
  rw [← hV]
  clear hV
  refine HN.out.mono ?_
  intro x w1 hg
  cases R with
  | error e =>
    obtain ⟨rfl, b1⟩ := hg
    have HZ1 := Lib.hid ((b1.block _ (Array.getElem?_eq_some_iff.1 HZ.out).1).trans HZ.out)
    have B1 := Lib.hid (next BZ.out b1)
    have z0 := cell_at (i := 0) HZ1.out rfl
    have z1 := cell_at (i := 1) HZ1.out rfl
    have z2 := cell_at (i := 2) HZ1.out rfl
    have y0 := thawed_at (i := 0) HZ1.out
    have y1 := thawed_at (i := 1) HZ1.out
    have y2 := thawed_at (i := 2) HZ1.out
    have m9 := set3Q_block HZ1.out (.string ⟨#[]⟩) (.int .i64 0) (.slice none 0 0)
    have b9 := (kept_set3Q (w := w1) w.heap.size (.string ⟨#[]⟩) (.int .i64 0) (.slice none 0 0)).below (B := w.heap.size) (fun k hk => by subst hk; exact Nat.le_refl _) B1.out.size
    have B9 := Lib.hid (B1.out.trans b9)
    clear b1 b9
    go_wp2
    generalize World.setCell (World.setCell (World.setCell w1 ⟨w.heap.size, 0, none⟩ (.string ⟨#[]⟩)) ⟨w.heap.size, 1, none⟩ (.int .i64 0)) ⟨w.heap.size, 2, none⟩ (.slice none 0 0) = w9 at m9 B9 ⊢
    clear z0 z1 z2 y0 y1 y2
    have q0 := cell_at (i := 0) m9 rfl
    have q1 := cell_at (i := 1) m9 rfl
    have q2 := cell_at (i := 2) m9 rfl
    refine bodyPost_ret (v := .tuple #[.agg #[.string ⟨#[]⟩, .int .i64 0, .slice none 0 0], .int .i64 e]) ?_ rfl ?_
    · simp [results, Try.results11, go_sem, q0, q1, q2]
    · exact ⟨rfl, B9.out⟩
  | ok p =>
    obtain ⟨⟨zk, zg, zL, zA, zc⟩, hp, rfl, hrows, b1⟩ := hg
    dsimp only at hp hrows
    have HZ1 := Lib.hid ((b1.block _ (Array.getElem?_eq_some_iff.1 HZ.out).1).trans HZ.out)
    have B1 := Lib.hid (next BZ.out b1)
    have z0 := cell_at (i := 0) HZ1.out rfl
    have z1 := cell_at (i := 1) HZ1.out rfl
    have z2 := cell_at (i := 2) HZ1.out rfl
    have y0 := thawed_at (i := 0) HZ1.out
    have y1 := thawed_at (i := 1) HZ1.out
    have y2 := thawed_at (i := 2) HZ1.out
    have m9 := set3Q_block HZ1.out (.string zk) (.int .i64 zg) (.slice zA zL.length zc)
    have k9 := kept_set3Q (w := w1) w.heap.size (.string zk) (.int .i64 zg) (.slice zA zL.length zc)
    have b9 := k9.below (B := w.heap.size) (fun k hk => by subst hk; exact Nat.le_refl _) B1.out.size
    have B9 := Lib.hid (show _ ∧ _ from ⟨B1.out.trans b9, (hrows.lower (w0 := w) BZ.out.size).kept1 k9 HZ1.out (by decide) (by decide)⟩)
    have HP := Lib.hid hp
    clear b1 b9 k9 hrows hp
    go_wp2
    generalize World.setCell (World.setCell (World.setCell w1 ⟨w.heap.size, 0, none⟩ (.string zk)) ⟨w.heap.size, 1, none⟩ (.int .i64 zg)) ⟨w.heap.size, 2, none⟩ (.slice zA zL.length zc) = w9 at m9 B9 ⊢
    clear z0 z1 z2 y0 y1 y2
    have q0 := cell_at (i := 0) m9 rfl
    have q1 := cell_at (i := 1) m9 rfl
    have q2 := cell_at (i := 2) m9 rfl
    refine bodyPost_ret (v := .tuple #[.agg #[.string zk, .int .i64 zg, .slice zA zL.length zc], .int .i64 0]) ?_ rfl ?_
    · simp [results, Try.results11, go_sem, q0, q1, q2]
    · exact ⟨⟨zk, zg, zL, zA, zc⟩, HP.out, rfl, B9.out.2, B9.out.1⟩
set_option maxRecDepth 8000 in
set_option maxHeartbeats 2000000 in
theorem made_any (A : Option Addr) (n c : Nat) (l : List Int) (key : ByteArray) (w : World) (hr : RdZ w w.heap.size A n l) (hnc : n ≤ c) (hc : c ≤ maxLen) (hx : ∀ x ∈ l, (Lit.int .i64 x).wf = true) (hkey : key.size ≤ 100) :
    Calls Try.prog 19 #[.slice A n c, .string key] w fun e w' => ∃ (g : Int) (M : List RA) (A' : Option Addr) (c' : Nat), e = .returned (.agg #[.string key, .int .i64 g, .slice A' M.length c']) ∧ PartIn ⟨key, g, ros M⟩ ∧ RowsQ w w' A' M.length c' M ∧ Below w.heap.size w w' := by
  have bz := (Below.refl w.heap.size w).alloc (Nat.le_refl _) (.cells #[.string ⟨#[]⟩, .int .i64 0, .slice none 0 0] 24)
  have hz := heap_alloc_new w (.cells #[.string ⟨#[]⟩, .int .i64 0, .slice none 0 0] 24)
  obtain ⟨V1, hV1⟩ : ∃ V, V = w.alloc (.cells #[.string ⟨#[]⟩, .int .i64 0, .slice none 0 0] 24) := ⟨_, rfl⟩
  rw [← hV1] at bz hz
  have hs1 : V1.heap.size = w.heap.size + 1 := by rw [hV1]; simp
  have bz2 := (Below.refl V1.heap.size V1).alloc (Nat.le_refl _) (.cells #[.slice A n c] 81)
  have hL := heap_alloc_new V1 (.cells #[.slice A n c] 81)
  have hz2 := at_newQ hz (.cells #[.slice A n c] 81)
  obtain ⟨V2, hV2⟩ : ∃ V, V = V1.alloc (.cells #[.slice A n c] 81) := ⟨_, rfl⟩
  rw [← hV2] at bz2 hL hz2
  rw [hs1] at hL
  have hb2 : Below w.heap.size w V2 := bz.trans (bz2.mono bz.size)
  have hlq : LQ V2 (w.heap.size + 1) w.heap.size := ⟨A, n, c, l, hL, hr.below hb2, hnc, hc, fun x hx' => bounds_i64 (hx x hx')⟩
  have HLQ := Lib.hid hlq; have HZ2 := Lib.hid hz2; have HB2 := Lib.hid hb2; have HK := Lib.hid hkey
  clear bz hz bz2 hL hz2 hb2 hlq hr hx hnc hc hs1 hkey
  go_enter Try.func19, Try.ntmps19
  go_wp2_with fail
  rw [← hV1, ← hV2]
  clear hV1 hV2
  refine (part_gen (w.heap.size + 1) w.heap.size key _ HLQ.out (by omega)).mono ?_
  rintro e w1 ⟨g, M, A1, c1, rfl, hg, hrt, hor, hoc, hlq, hkp⟩
  have hz1 := Kept.atQ hkp HZ2.out (by omega)
  have hrows : RowsQ V2 w1 A1 M.length c1 M := ⟨hor, hoc⟩
  have hb1 : Below w.heap.size w w1 := HB2.out.trans (hkp.below (fun j hj => by omega) HB2.out.size)
  have HZ1 := Lib.hid hz1
  have z0 := cell_at (i := 0) HZ1.out rfl
  have z1 := cell_at (i := 1) HZ1.out rfl
  have z2 := cell_at (i := 2) HZ1.out rfl
  have y0 := thawed_at (i := 0) HZ1.out
  have y1 := thawed_at (i := 1) HZ1.out
  have y2 := thawed_at (i := 2) HZ1.out
  have m9 := set3Q_block HZ1.out (.string key) (.int .i64 g) (.slice A1 M.length c1)
  have k9 := kept_set3Q (w := w1) w.heap.size (.string key) (.int .i64 g) (.slice A1 M.length c1)
  have b9 := k9.below (B := w.heap.size) (fun k hk => by subst hk; exact Nat.le_refl _) hb1.size
  have B9 := Lib.hid (show _ ∧ _ from ⟨hb1.trans b9, (hrows.lower (w0 := w) HB2.out.size).kept1 k9 HZ1.out (by decide) (by decide)⟩)
  have HPI := Lib.hid (show PartIn ⟨key, g, ros M⟩ from hrt.part HK.out hg)
  clear hz1 hrows hb1 k9 b9 hlq hkp hor hoc hrt hg
  go_wp2
  generalize World.setCell (World.setCell (World.setCell w1 ⟨w.heap.size, 0, none⟩ (.string key)) ⟨w.heap.size, 1, none⟩ (.int .i64 g)) ⟨w.heap.size, 2, none⟩ (.slice A1 M.length c1) = w9 at m9 B9 ⊢
  clear z0 z1 z2 y0 y1 y2
  have q0 := cell_at (i := 0) m9 rfl
  have q1 := cell_at (i := 1) m9 rfl
  have q2 := cell_at (i := 2) m9 rfl
  refine bodyPost_ret (v := .agg #[.string key, .int .i64 g, .slice A1 M.length c1]) ?_ rfl ?_
  · simp [results, Try.results19, go_sem, q0, q1, q2]
  · exact ⟨g, M, A1, c1, rfl, HPI.out, B9.out.2, B9.out.1⟩
end Go.Proofs.Ytbfkbfbcaileoaa
set_option linter.unusedVariables false
set_option linter.unusedSimpArgs false
namespace Go.Proofs.Ytbfkbfbcaileoaa
open Go Go.RowKit

/-- What is joined to partitions, that can be read, down to the columns. -/
structure LiesM (w : World) (B : Nat) (A : Option Addr) (n c : Nat) (L : List MA) : Prop where
  rd : RdM w B A n L
  parts : ∀ x ∈ L, Lies w B x.p.A x.p.L.length x.p.c x.p.L
  cap : n ≤ c
theorem LiesM.below {w w' : World} {B n c : Nat} {A : Option Addr} {L : List MA} (h : LiesM w B A n c L) (hb : Below B w w') : LiesM w' B A n c L := ⟨h.rd.below hb, fun x hx => (h.parts x hx).below hb, h.cap⟩
theorem LiesM.up {w : World} {B B' n c : Nat} {A : Option Addr} {L : List MA} (h : LiesM w B A n c L) (hB : B ≤ B') : LiesM w B' A n c L := ⟨h.rd.up hB, fun x hx => (h.parts x hx).up hB, h.cap⟩
def mutOf (x : MA) : ByteArray × Pa := (x.tb, ⟨x.p.k, x.p.g, ros x.p.L⟩)
abbrev muts (L : List MA) : List (ByteArray × Pa) := L.map mutOf
theorem drop_muts {L : List MA} {t : Nat} (h : t < L.length) : muts (L.drop t) = mutOf L[t] :: muts (L.drop (t + 1)) := by rw [List.drop_eq_getElem_cons h]; rfl
def MuS (x : MA) : Prop := x.tb.size ≤ 1000000 ∧ PaS x.p.k x.p.g x.p.L
def NoS (x : NA) : Prop := Stm x.1 ∧ x.2.size ≤ 1000000
set_option maxRecDepth 8000 in
set_option maxHeartbeats 600000 in
theorem putMuts_any (B : Nat) (v : Value) (l : Bs) (A : Option Addr) (n c Bk : Nat) (L : List MA) (w : World) (h : OwnY B w v l) (hB : B ≤ w.heap.size) (hr : LiesM w Bk A n c L) (hBk : Bk ≤ B) (hx : ∀ x ∈ L, MuS x) (hn : n ≤ 1000000) (htot : (l ++ (numL n ++ (muts L).flatMap mE)).length ≤ 400000000) :
    Calls Try.prog 54 #[v, .slice A n c, .func (.func 55) #[] #[]] w (Lays B w v (l ++ (numL n ++ (muts L).flatMap mE))) := by
  have hl := hr.rd.1
  obtain ⟨P, hP⟩ : ∃ P, l ++ (numL n ++ (muts L).flatMap mE) = P := ⟨_, rfl⟩
  obtain ⟨P0, hP0⟩ : ∃ X, l ++ numL n = X := ⟨_, rfl⟩
  rw [hP] at htot ⊢
  have hst : P0 ++ (muts (L.drop 0)).flatMap mE = P := by rw [← hP, ← hP0, List.drop_zero, List.append_assoc]
  have hl0 : l.length ≤ 400000000 := by have := congrArg List.length hP; rw [List.length_append] at this; omega
  have N := putNum_any B v l (n : Int) w h hB (by omega) (by omega) (by omega)
  rw [Int.toNat_natCast, hP0] at N
  have HN := Lib.hid N; have HB := Lib.hid hB; have HO := Lib.hid h; have HR := Lib.hid hr; have HX := Lib.hid hx; have HT := Lib.hid htot; have HL := Lib.hid hl; have HST := Lib.hid hst; have HBK := Lib.hid hBk; have HNN := Lib.hid hn
  clear N hB h hr hx htot hl hst hBk hP hP0 hl0 hn
  go_enter Try.func54, Try.ntmps54
  go_wp2_with fail
  refine (HN.out).mono ?_
  rintro e w1 ⟨v1, rfl, l1⟩
  have L1 := Lib.hid l1
  clear l1
  go_wp2_with fail
  go_loopw [0, 15] (fun b i wr => ∃ (t : Nat) (X : Bs) (b' : Value), t ≤ n ∧ i = .int .i64 t ∧ b' = b ∧ X ++ (muts (L.drop t)).flatMap mE = P ∧ Ly B w v wr b' X) (fun _ i _ => n - (intOf i).toNat)
  case atStart => exact ⟨0, P0, v1, Nat.zero_le _, rfl, rfl, HST.out, L1.out⟩
  case round =>
    obtain ⟨t, X, b, ht, rfl, rfl, hX, hly⟩ := hrel
    by_cases hlt : t < n
    · have i1 : (t : Int) < n := by omega
      have i0 : (0 : Int) ≤ t := by omega
      have i8 : n ≤ 1000000 := HNN.out
      have htl : t < L.length := by rw [HL.out]; exact hlt
      have hrd := HR.out.below ((hly.base HO.out HB.out).mono HBK.out)
      obtain ⟨g0, o0, rfl, hg0⟩ := hrd.rd.ex (by omega)
      have hcol := hrd.rd.part htl
      have hs := HX.out L[t] (List.getElem_mem htl)
      have hin := hrd.parts L[t] (List.getElem_mem htl)
      rw [drop_muts htl, List.flatMap_cons] at hX
      obtain ⟨x, hcx⟩ : ∃ y, L[t] = y := ⟨_, rfl⟩
      rw [hcx] at hcol hs hX hin
      have hxl : (X ++ mE (mutOf x)).length ≤ 400000000 := by have := congrArg List.length hX; rw [← List.append_assoc, List.length_append] at this; have := HT.out; omega
      obtain ⟨_, _, _, _⟩ := hcol
      have ba := (Below.refl wr.heap.size wr).alloc (Nat.le_refl _) (.cells #[.string x.tb, .string x.p.k, .int .i64 x.p.g, .slice x.p.A x.p.L.length x.p.c] 49)
      have lb := hly.below ba
      have HLB := Lib.hid lb; have HX3 := Lib.hid hX; have S1 := Lib.hid hs; have HXL := Lib.hid hxl
      have HIN := Lib.hid (Lies.below hin (ba.mono (by have := HBK.out; have := HB.out; have := hly.size; omega)))
      clear hrd hX hxl hs lb hly hcx hin ba
      go_wp2_with fail
      refine (putMut_any B b X x.tb x.p.k x.p.g x.p.A x.p.L.length x.p.c Bk x.p.L _ HLB.out.own (Nat.le_trans HB.out HLB.out.size) HIN.out HBK.out S1.out.1 S1.out.2 HXL.out).mono ?_
      rintro e w2 ⟨v2, rfl, l2⟩
      have L2 := Lib.hid (HLB.out.on l2)
      clear l2
      go_wp2
      go_roundw
      case rel => exact ⟨t + 1, X ++ mE (mutOf x), v2, by omega, by go_num, rfl, by rw [List.append_assoc]; exact HX3.out, L2.out⟩
      case measure => simp [intOf]; omega
    · obtain rfl : t = n := by omega
      rw [List.drop_of_length_le (by rw [HL.out]; exact Nat.le_refl _)] at hX
      have HLY := Lib.hid (hly.same (by rw [← hX]; simp [muts] : X = P))
      clear hX hly
      go_wp2
      go_ret
      exact ⟨b, rfl, HLY.out⟩

set_option maxRecDepth 8000 in
set_option maxHeartbeats 600000 in
theorem putNotes_any (B : Nat) (v : Value) (l : Bs) (A : Option Addr) (n c Bk : Nat) (L : List NA) (w : World) (h : OwnY B w v l) (hB : B ≤ w.heap.size) (hr : RdN w Bk A n L) (hBk : Bk ≤ B) (hx : ∀ x ∈ L, NoS x) (hn : n ≤ 1000000) (htot : (l ++ (numL n ++ L.flatMap aE)).length ≤ 400000000) :
    Calls Try.prog 57 #[v, .slice A n c, .func (.func 58) #[] #[]] w (Lays B w v (l ++ (numL n ++ L.flatMap aE))) := by
  have hl := hr.1
  obtain ⟨P, hP⟩ : ∃ P, l ++ (numL n ++ L.flatMap aE) = P := ⟨_, rfl⟩
  obtain ⟨P0, hP0⟩ : ∃ X, l ++ numL n = X := ⟨_, rfl⟩
  rw [hP] at htot ⊢
  have hst : P0 ++ (L.drop 0).flatMap aE = P := by rw [← hP, ← hP0, List.drop_zero, List.append_assoc]
  have hl0 : l.length ≤ 400000000 := by have := congrArg List.length hP; rw [List.length_append] at this; omega
  have N := putNum_any B v l (n : Int) w h hB (by omega) (by omega) (by omega)
  rw [Int.toNat_natCast, hP0] at N
  have HN := Lib.hid N; have HB := Lib.hid hB; have HO := Lib.hid h; have HR := Lib.hid hr; have HX := Lib.hid hx; have HT := Lib.hid htot; have HL := Lib.hid hl; have HST := Lib.hid hst; have HBK := Lib.hid hBk; have HNN := Lib.hid hn
  clear N hB h hr hx htot hl hst hBk hP hP0 hl0 hn
  go_enter Try.func57, Try.ntmps57
  go_wp2_with fail
  refine (HN.out).mono ?_
  rintro e w1 ⟨v1, rfl, l1⟩
  have L1 := Lib.hid l1
  clear l1
  go_wp2_with fail
  go_loopw [0, 15] (fun b i wr => ∃ (t : Nat) (X : Bs) (b' : Value), t ≤ n ∧ i = .int .i64 t ∧ b' = b ∧ X ++ (L.drop t).flatMap aE = P ∧ Ly B w v wr b' X) (fun _ i _ => n - (intOf i).toNat)
  case atStart => exact ⟨0, P0, v1, Nat.zero_le _, rfl, rfl, HST.out, L1.out⟩
  case round =>
    obtain ⟨t, X, b, ht, rfl, rfl, hX, hly⟩ := hrel
    by_cases hlt : t < n
    · have i1 : (t : Int) < n := by omega
      have i0 : (0 : Int) ≤ t := by omega
      have i8 : n ≤ 1000000 := HNN.out
      have htl : t < L.length := by rw [HL.out]; exact hlt
      have hrd := HR.out.below ((hly.base HO.out HB.out).mono HBK.out)
      obtain ⟨g0, o0, rfl, hg0⟩ := hrd.ex (by omega)
      have hcol := hrd.part htl
      have hs := HX.out L[t] (List.getElem_mem htl)
      rw [List.drop_eq_getElem_cons htl, List.flatMap_cons] at hX
      obtain ⟨x, hcx⟩ : ∃ y, L[t] = y := ⟨_, rfl⟩
      rw [hcx] at hcol hs hX
      have hxl : (X ++ aE x).length ≤ 400000000 := by have := congrArg List.length hX; rw [← List.append_assoc, List.length_append] at this; have := HT.out; omega
      obtain ⟨_, _⟩ := hcol
      have ba := (Below.refl wr.heap.size wr).alloc (Nat.le_refl _) (.cells #[.int .i64 x.1, .string x.2] 51)
      have lb := hly.below ba
      have HLB := Lib.hid lb; have HX3 := Lib.hid hX; have S1 := Lib.hid hs; have HXL := Lib.hid hxl
      clear hrd hX hxl hs lb hly hcx ba
      go_wp2_with fail
      refine (putNote_any B b X x.1 x.2 _ HLB.out.own (Nat.le_trans HB.out HLB.out.size) S1.out.1 S1.out.2 (by have := HXL.out; rw [List.length_append] at this; omega)).mono ?_
      rintro e w2 ⟨v2, rfl, l2⟩
      have L2 := Lib.hid (HLB.out.on l2)
      clear l2
      go_wp2
      go_roundw
      case rel => exact ⟨t + 1, X ++ aE x, v2, by omega, by go_num, rfl, by rw [List.append_assoc]; exact HX3.out, L2.out⟩
      case measure => simp [intOf]; omega
    · obtain rfl : t = n := by omega
      rw [List.drop_of_length_le (by rw [HL.out]; exact Nat.le_refl _)] at hX
      have HLY := Lib.hid (hly.same (by rw [← hX]; simp : X = P))
      clear hX hly
      go_wp2
      go_ret
      exact ⟨b, rfl, HLY.out⟩

set_option maxRecDepth 8000 in
set_option maxHeartbeats 600000 in
theorem putInts_any (B : Nat) (v : Value) (l : Bs) (A : Option Addr) (n c Bk : Nat) (L : List Int) (w : World) (h : OwnY B w v l) (hB : B ≤ w.heap.size) (hr : RdZ w Bk A n L) (hBk : Bk ≤ B) (hx : ∀ x ∈ L, Stm x) (hn : n ≤ 1000000) (htot : (l ++ (numL n ++ L.flatMap (fun v : Int => numL v.toNat))).length ≤ 400000000) :
    Calls Try.prog 56 #[v, .slice A n c, .func (.func 45) #[] #[]] w (Lays B w v (l ++ (numL n ++ L.flatMap (fun v : Int => numL v.toNat)))) := by
  have hl := hr.1
  obtain ⟨P, hP⟩ : ∃ P, l ++ (numL n ++ L.flatMap (fun v : Int => numL v.toNat)) = P := ⟨_, rfl⟩
  obtain ⟨P0, hP0⟩ : ∃ X, l ++ numL n = X := ⟨_, rfl⟩
  rw [hP] at htot ⊢
  have hst : P0 ++ (L.drop 0).flatMap (fun v : Int => numL v.toNat) = P := by rw [← hP, ← hP0, List.drop_zero, List.append_assoc]
  have hl0 : l.length ≤ 400000000 := by have := congrArg List.length hP; rw [List.length_append] at this; omega
  have N := putNum_any B v l (n : Int) w h hB (by omega) (by omega) (by omega)
  rw [Int.toNat_natCast, hP0] at N
  have HN := Lib.hid N; have HB := Lib.hid hB; have HO := Lib.hid h; have HR := Lib.hid hr; have HX := Lib.hid hx; have HT := Lib.hid htot; have HL := Lib.hid hl; have HST := Lib.hid hst; have HBK := Lib.hid hBk; have HNN := Lib.hid hn
  clear N hB h hr hx htot hl hst hBk hP hP0 hl0 hn
  go_enter Try.func56, Try.ntmps56
  go_wp2_with fail
  refine (HN.out).mono ?_
  rintro e w1 ⟨v1, rfl, l1⟩
  have L1 := Lib.hid l1
  clear l1
  go_wp2_with fail
  go_loopw [0, 15] (fun b i wr => ∃ (t : Nat) (X : Bs) (b' : Value), t ≤ n ∧ i = .int .i64 t ∧ b' = b ∧ X ++ (L.drop t).flatMap (fun v : Int => numL v.toNat) = P ∧ Ly B w v wr b' X) (fun _ i _ => n - (intOf i).toNat)
  case atStart => exact ⟨0, P0, v1, Nat.zero_le _, rfl, rfl, HST.out, L1.out⟩
  case round =>
    obtain ⟨t, X, b, ht, rfl, rfl, hX, hly⟩ := hrel
    by_cases hlt : t < n
    · have i1 : (t : Int) < n := by omega
      have i0 : (0 : Int) ≤ t := by omega
      have i8 : n ≤ 1000000 := HNN.out
      have htl : t < L.length := by rw [HL.out]; exact hlt
      have hrd := HR.out.below ((hly.base HO.out HB.out).mono HBK.out)
      obtain ⟨g0, o0, rfl, hg0, hc⟩ := hrd.2 (by omega)
      have hcol := hc t htl
      have hs := HX.out L[t] (List.getElem_mem htl)
      rw [List.drop_eq_getElem_cons htl, List.flatMap_cons] at hX
      obtain ⟨x, hcx⟩ : ∃ y, L[t] = y := ⟨_, rfl⟩
      rw [hcx] at hcol hs hX
      have hxl : (X ++ numL x.toNat).length ≤ 400000000 := by have := congrArg List.length hX; rw [← List.append_assoc, List.length_append] at this; have := HT.out; omega
      have lb := hly
      have HLB := Lib.hid lb; have HX3 := Lib.hid hX; have S1 := Lib.hid hs; have HXL := Lib.hid hxl
      clear hrd hX hxl hs lb hly hcx hc
      go_wp2_with fail
      refine (putNum_any B b X x _ HLB.out.own (Nat.le_trans HB.out HLB.out.size) S1.out.1 (by have := S1.out.2; omega) (by have := HXL.out; rw [List.length_append] at this; omega)).mono ?_
      rintro e w2 ⟨v2, rfl, l2⟩
      have L2 := Lib.hid (HLB.out.on l2)
      clear l2
      go_wp2
      go_roundw
      case rel => exact ⟨t + 1, X ++ numL x.toNat, v2, by omega, by go_num, rfl, by rw [List.append_assoc]; exact HX3.out, L2.out⟩
      case measure => simp [intOf]; omega
    · obtain rfl : t = n := by omega
      rw [List.drop_of_length_le (by rw [HL.out]; exact Nat.le_refl _)] at hX
      have HLY := Lib.hid (hly.same (by rw [← hX]; simp : X = P))
      clear hX hly
      go_wp2
      go_ret
      exact ⟨b, rfl, HLY.out⟩

/-- A batch that can be read. -/
structure BA where
  AM : Option Addr
  cM : Nat
  M : List MA
  AN : Option Addr
  cN : Nat
  N : List NA
  AD : Option Addr
  cD : Nat
  D : List Int
def BA.bt (x : BA) : Bt := ⟨muts x.M, x.N, x.D⟩
structure LiesB (w : World) (B : Nat) (x : BA) : Prop where
  muts : LiesM w B x.AM x.M.length x.cM x.M
  notes : RdN w B x.AN x.N.length x.N
  drops : RdZ w B x.AD x.D.length x.D
  capN : x.N.length ≤ x.cN
  capD : x.D.length ≤ x.cD
theorem LiesB.below {w w' : World} {B : Nat} {x : BA} (h : LiesB w B x) (hb : Below B w w') : LiesB w' B x := ⟨h.muts.below hb, h.notes.below hb, h.drops.below hb, h.capN, h.capD⟩
structure BtS (x : BA) : Prop where
  muts : ∀ y ∈ x.M, MuS y
  notes : ∀ y ∈ x.N, NoS y
  drops : ∀ y ∈ x.D, Stm y
  lm : x.M.length ≤ 1000000
  ln : x.N.length ≤ 1000000
  ld : x.D.length ≤ 1000000
set_option maxRecDepth 8000 in
set_option maxHeartbeats 600000 in
theorem putBatch_any (B : Nat) (v : Value) (l : Bs) (AM AN AD : Option Addr) (m cM n cN d cD Bk : Nat) (M : List MA) (N : List NA) (D : List Int) (w : World) (h : OwnY B w v l) (hB : B ≤ w.heap.size) (hr : LiesM w Bk AM m cM M ∧ RdN w Bk AN n N ∧ RdZ w Bk AD d D) (hBk : Bk ≤ B)
    (hs : (∀ y ∈ M, MuS y) ∧ (∀ y ∈ N, NoS y) ∧ ∀ y ∈ D, Stm y) (hln : m ≤ 1000000 ∧ n ≤ 1000000 ∧ d ≤ 1000000) (htot : (l ++ bE ⟨muts M, N, D⟩).length ≤ 400000000) :
    Calls Try.prog 29 #[v, .agg #[.slice AM m cM, .slice AN n cN, .slice AD d cD]] w (Lays B w v (l ++ bE ⟨muts M, N, D⟩)) := by
  have e1 : (muts M).length = m := by rw [List.length_map]; exact hr.1.rd.1
  have e2 : N.length = n := hr.2.1.1
  have e3 : D.length = d := hr.2.2.1
  have hE : l ++ bE ⟨muts M, N, D⟩ = l ++ (numL m ++ (muts M).flatMap mE) ++ (numL n ++ N.flatMap aE) ++ (numL d ++ D.flatMap fun v => numL v.toNat) := by
    unfold bE
    dsimp only
    rw [e1, e2, e3]
    simp only [List.append_assoc]
  rw [hE] at htot ⊢
  have ht4 := htot
  simp only [List.length_append] at ht4
  have HT2 := Lib.hid htot
  have HT1 : Hid ((l ++ (numL m ++ (muts M).flatMap mE) ++ (numL n ++ N.flatMap aE)).length ≤ 400000000) := Lib.hid (by simp only [List.length_append]; omega)
  have HT0 : Hid ((l ++ (numL m ++ (muts M).flatMap mE)).length ≤ 400000000) := Lib.hid (by simp only [List.length_append]; omega)
  have bz := (Below.refl w.heap.size w).alloc (Nat.le_refl _) (.cells #[.slice AM m cM, .slice AN n cN, .slice AD d cD] 29)
  have hz := heap_alloc_new w (.cells #[.slice AM m cM, .slice AN n cN, .slice AD d cD] 29)
  have l0 := (Ly.refl h).below bz
  obtain ⟨V, hV⟩ : ∃ V, V = w.alloc (.cells #[.slice AM m cM, .slice AN n cN, .slice AD d cD] 29) := ⟨_, rfl⟩
  rw [← hV] at bz hz l0
  have hc0 := cell_at (i := 0) hz rfl
  have L0 := Lib.hid l0; have HZ := Lib.hid hz; have HB := Lib.hid hB; have HO := Lib.hid h; have HR := Lib.hid hr; have HBK := Lib.hid hBk; have HS := Lib.hid hs; have HLN := Lib.hid hln
  clear bz hz l0 hB hs h htot ht4 hE hr hBk hln e1 e2 e3
  go_enter Try.func29, Try.ntmps29
  go_wp2_with fail
  rw [← hV]
  clear hV
  refine (putMuts_any B v l AM m cM Bk M V L0.out.own (Nat.le_trans HB.out L0.out.size) (HR.out.1.below ((L0.out.base HO.out HB.out).mono HBK.out)) HBK.out HS.out.1 HLN.out.1 HT0.out).mono ?_
  rintro e w1 ⟨v1, rfl, l1⟩
  have HZ1 := Lib.hid (l1.at_ L0.out.own HZ.out (by decide))
  have L1 := Lib.hid (L0.out.on l1)
  clear l1 hc0
  go_wp2_with fail
  refine wp_region_held_drew (S := fun w' => w'.heap[w.heap.size]? = some (.cells #[.slice AM m cM, .slice AN n cN, .slice AD d cD] 29 (0, 0))) (by kernel_rfl) ?_ (fun hHeld => ?_)
  · exact HZ1.out
  refine takesH [0, 1, 2, 4, 5] ?_
  repeat
    refine takesH_one (v := ?_) ?_ ?_
    rotate_left
    · first | (refine Or.inr ⟨by rfl, ?_⟩; with_reducible rfl) | (refine Or.inl ⟨by rfl, ?_⟩; intro wx hSw; (try dsimp only at hSw); first | (go_simp; first | done | with_reducible rfl) | (have hc1 := cell_at (i := 1) hSw rfl; go_simp; first | done | with_reducible rfl) | (have hc2 := cell_at (i := 2) hSw rfl; go_simp; first | done | with_reducible rfl))
    try simp only [Act.put, List.getElem_toArray, List.getElem_cons_succ, List.getElem_cons_zero, List.setIfInBounds_toArray, List.set_cons_zero, List.set_cons_succ]
  refine takesH_nil ?_
  refine wpAnyH_ready (rs := [3]) (by kernel_rfl) (by simp) (AllReadyH.cons rfl (fun K hK => ?_) AllReadyH.nil)
  go_simp
  refine (putNotes_any B v1 (l ++ (numL m ++ (Go.Proofs.Ytbfkbfbcaileoaa.muts M).flatMap mE)) AN n cN Bk N w1.drew L1.out.drew.own (Nat.le_trans HB.out L1.out.size) (HR.out.2.1.below ((L1.out.drew.base HO.out HB.out).mono HBK.out)) HBK.out HS.out.2.1 HLN.out.2.1 HT1.out).mono ?_
  rintro x w2 ⟨v2, rfl, l2⟩
  have HZ2 := Lib.hid (l2.at_ L1.out.drew.own HZ1.out (by decide))
  have L2 := Lib.hid (L1.out.step l2)
  clear l2
  try go_wp2_with fail
  refine hK.out _ _ ?_ (fun hHeld => ?_)
  · first | exact HZ3.out | exact HZ2.out
  clear hK K
  try simp only [Act.put, List.getElem_toArray, List.getElem_cons_succ, List.getElem_cons_zero, List.setIfInBounds_toArray, List.set_cons_zero, List.set_cons_succ]
  refine wpAnyH_ready (rs := [6]) (by kernel_rfl) (by simp) (AllReadyH.cons rfl (fun K hK => ?_) AllReadyH.nil)
  go_simp
  refine (putInts_any B v2 (l ++ (numL m ++ (Go.Proofs.Ytbfkbfbcaileoaa.muts M).flatMap mE) ++ (numL n ++ N.flatMap aE)) AD d cD Bk D w2 L2.out.own (Nat.le_trans HB.out L2.out.size) (HR.out.2.2.below ((L2.out.base HO.out HB.out).mono HBK.out)) HBK.out HS.out.2.2 HLN.out.2.2 HT2.out).mono ?_
  rintro x w3 ⟨v3, rfl, l3⟩
  have HZ3 := Lib.hid (l3.at_ L2.out.own HZ2.out (by decide))
  have L3 := Lib.hid (L2.out.on l3)
  clear l3
  try go_wp2_with fail
  refine hK.out _ _ ?_ (fun hHeld => ?_)
  · first | exact HZ3.out | exact HZ2.out
  clear hK K
  try simp only [Act.put, List.getElem_toArray, List.getElem_cons_succ, List.getElem_cons_zero, List.setIfInBounds_toArray, List.set_cons_zero, List.set_cons_succ]
  refine takesH [7] ?_
  repeat
    refine takesH_one (v := ?_) ?_ ?_
    rotate_left
    · first | (refine Or.inr ⟨by rfl, ?_⟩; with_reducible rfl) | (refine Or.inl ⟨by rfl, ?_⟩; intro wx hSw; (try dsimp only at hSw); first | (go_simp; first | done | with_reducible rfl))
    try simp only [Act.put, List.getElem_toArray, List.getElem_cons_succ, List.getElem_cons_zero, List.setIfInBounds_toArray, List.set_cons_zero, List.set_cons_succ]
  refine takesH_nil ?_
  refine wpAnyH_done (by kernel_rfl) ?_ _
  go_wp2
  go_ret
  exact ⟨v3, rfl, L3.out⟩
end Go.Proofs.Ytbfkbfbcaileoaa
set_option linter.unusedVariables false
set_option linter.unusedSimpArgs false
namespace Go.Proofs.Ytbfkbfbcaileoaa
open Go Go.RowKit

theorem id_any (x : Int) (w : World) : Calls Try.prog 41 #[.int .i64 x] w fun e w' => e = .returned (.bool (dropB x)) ∧ Below w.heap.size w w' := by
  by_cases h1 : 1 ≤ x
  · have e1 : decide (1 ≤ x) = true := decide_eq_true h1
    by_cases h2 : x ≤ 1099511627776
    · have e2 : decide (x ≤ 1099511627776) = true := decide_eq_true h2
      have hv : dropB x = true := by unfold dropB; rw [e1, e2]; rfl
      rw [hv]
      clear hv
      go_enter Try.func41, Try.ntmps41
      go_wp2
      go_ret
      exact ⟨rfl, Below.refl _ _⟩
    · have e2 : decide (x ≤ 1099511627776) = false := decide_eq_false h2
      have hv : dropB x = false := by unfold dropB; rw [e1, e2]; rfl
      rw [hv]
      clear hv
      go_enter Try.func41, Try.ntmps41
      go_wp2
      go_ret
      exact ⟨rfl, Below.refl _ _⟩
  · have e1 : decide (1 ≤ x) = false := decide_eq_false h1
    have hv : dropB x = false := by unfold dropB; rw [e1]; rfl
    rw [hv]
    clear hv
    go_enter Try.func41, Try.ntmps41
    go_wp2
    go_ret
    exact ⟨rfl, Below.refl _ _⟩
theorem note_any (i : Int) (s : ByteArray) (w : World) (hs : s.size ≤ maxLen) : Calls Try.prog 39 #[.agg #[.int .i64 i, .string s]] w fun e w' => e = .returned (.bool (addB (i, s))) ∧ Below w.heap.size w w' := by
  have hv : addB (i, s) = (dropB i && decide (s.size ≤ 4096)) := by unfold addB dropB; rw [Bool.and_assoc]
  rw [hv]
  have bz := (Below.refl w.heap.size w).alloc (Nat.le_refl _) (.cells #[.int .i64 i, .string s] 51)
  have hz := heap_alloc_new w (.cells #[.int .i64 i, .string s] 51)
  obtain ⟨V, hV⟩ : ∃ V, V = w.alloc (.cells #[.int .i64 i, .string s] 51) := ⟨_, rfl⟩
  rw [← hV] at bz hz
  have hc0 := cell_at (i := 0) hz rfl
  have HZ := Lib.hid hz; have BZ := Lib.hid bz
  obtain ⟨u, hu⟩ : ∃ u, dropB i = u := ⟨_, rfl⟩
  have HU := Lib.hid hu
  rw [hu]
  clear hz bz hv hu
  go_enter Try.func39, Try.ntmps39
  go_wp2_with fail
  rw [← hV]
  clear hV
  refine (id_any i V).mono ?_
  rintro e w1 ⟨rfl, b1⟩
  rw [HU.out]
  have hz1 := (b1.block _ (Array.getElem?_eq_some_iff.1 HZ.out).1).trans HZ.out
  have B1 := Lib.hid (next BZ.out b1)
  have hc1 := cell_at (i := 1) hz1 rfl
  clear hz1 b1 hc0
  cases u with
  | false =>
    go_wp2
    go_ret
    exact ⟨rfl, B1.out⟩
  | true =>
    by_cases h4 : s.size ≤ 4096
    · have e1 : decide (s.size ≤ 4096) = true := decide_eq_true h4
      have e2 : decide ((s.size : Int) ≤ 4096) = true := decide_eq_true (by omega)
      go_wp2
      go_ret
      exact ⟨by rw [e1]; rfl, B1.out⟩
    · have e1 : decide (s.size ≤ 4096) = false := decide_eq_false h4
      have e2 : decide ((s.size : Int) ≤ 4096) = false := decide_eq_false (by omega)
      go_wp2
      go_ret
      exact ⟨by rw [e1]; rfl, B1.out⟩
set_option maxHeartbeats 600000 in
theorem mut_any (tb k : ByteArray) (g : Int) (A : Option Addr) (n c B : Nat) (L : List RA) (w : World) (hr : Lies w B A n c L) (hB : B ≤ w.heap.size) (htb : tb.size ≤ 1099511627776) (hn : n ≤ 1000000000) (hf : FewR L) :
    Calls Try.prog 37 #[.agg #[.string tb, .string k, .int .i64 g, .slice A n c]] w fun e w' => e = .returned (.bool (mutB (tb, ⟨k, g, ros L⟩))) ∧ Below w.heap.size w w' := by
  have bz := (Below.refl w.heap.size w).alloc (Nat.le_refl _) (.cells #[.string tb, .string k, .int .i64 g, .slice A n c] 49)
  have hz := heap_alloc_new w (.cells #[.string tb, .string k, .int .i64 g, .slice A n c] 49)
  obtain ⟨V, hV⟩ : ∃ V, V = w.alloc (.cells #[.string tb, .string k, .int .i64 g, .slice A n c] 49) := ⟨_, rfl⟩
  rw [← hV] at bz hz
  have hc0 := cell_at (i := 0) hz rfl
  have HZ := Lib.hid hz; have BZ := Lib.hid bz; have HR := Lib.hid hr; have HF := Lib.hid hf; have HB := Lib.hid hB; have HN := Lib.hid hn
  obtain ⟨u, hu⟩ : ∃ u, nameB tb = u := ⟨_, rfl⟩
  obtain ⟨u2, hu2⟩ : ∃ u, Pa.ok ⟨k, g, ros L⟩ = u := ⟨_, rfl⟩
  have hv : mutB (tb, ⟨k, g, ros L⟩) = (u && u2) := by unfold mutB; rw [hu, hu2]
  have HU := Lib.hid hu; have HU2 := Lib.hid hu2
  rw [hv]
  clear hz bz hv hu hu2 hr hf hB hn
  go_enter Try.func37, Try.ntmps37
  go_wp2_with fail
  rw [← hV]
  clear hV
  refine (name_any tb V htb).mono ?_
  rintro e w1 ⟨rfl, b1⟩
  rw [HU.out]
  have hz1 := (b1.block _ (Array.getElem?_eq_some_iff.1 HZ.out).1).trans HZ.out
  have B1 := Lib.hid (next BZ.out b1)
  have hc1 := cell_at (i := 1) hz1 rfl
  have hc2 := cell_at (i := 2) hz1 rfl
  have hc3 := cell_at (i := 3) hz1 rfl
  clear hz1 b1 hc0
  cases u with
  | false =>
    go_wp2
    go_ret
    exact ⟨rfl, B1.out⟩
  | true =>
    go_wp2_with fail
    refine (pcheck_any k g A n c B L w1 (HR.out.below (B1.out.mono HB.out)) (Nat.le_trans HB.out B1.out.size) HN.out HF.out).mono ?_
    rintro e w2 ⟨rfl, b2⟩
    rw [HU2.out]
    have B2 := Lib.hid (next B1.out b2)
    clear b2
    go_wp2
    go_ret
    exact ⟨rfl, B2.out⟩
end Go.Proofs.Ytbfkbfbcaileoaa
set_option linter.unusedVariables false
set_option linter.unusedSimpArgs false
namespace Go.Proofs.Ytbfkbfbcaileoaa
open Go Go.RowKit

theorem all_no {α : Type} {p : α → Bool} {L : List α} {t : Nat} (h : t < L.length) : p L[t] = false → L.all p = false := fun hp => by
  rw [List.all_eq_false]
  exact ⟨L[t], List.getElem_mem h, by rw [hp]; simp⟩
theorem all_yes {α : Type} {p : α → Bool} {L : List α} {t : Nat} (h : t < L.length) (ha : (L.take t).all p = true) : p L[t] = true → (L.take (t + 1)).all p = true := fun hp => by
  rw [List.take_succ_eq_append_getElem h, List.all_append, ha, Bool.true_and]
  simp [hp]
/-- What is joined, not too much of it. -/
def MuF (x : MA) : Prop := x.tb.size ≤ 1099511627776 ∧ x.p.L.length ≤ 1000000000 ∧ FewR x.p.L
set_option maxRecDepth 8000 in
set_option maxHeartbeats 600000 in
theorem list_muts (A : Option Addr) (n c B m : Nat) (L : List MA) (w : World) (hr : LiesM w B A n c L) (hB : B ≤ w.heap.size) (hx : ∀ x ∈ L, MuF x) (hn : n ≤ 1000000) (hm : m ≤ 1000000) :
    Calls Try.prog 36 #[.slice A n c, .int .i64 (m : Nat), .func (.func 37) #[] #[]] w fun e w' => e = .returned (.bool (decide (n ≤ m) && L.all (fun x : MA => mutB (mutOf x)))) ∧ Below w.heap.size w w' := by
  have hl := hr.rd.1
  by_cases h0 : n ≤ m
  · have d1 : decide ((m : Int) < (n : Int)) = false := by simp; omega
    have d2 : decide (m < n) = false := by simp; omega
    obtain ⟨r, hr0⟩ : ∃ r, L.all (fun x : MA => mutB (mutOf x)) = r := ⟨_, rfl⟩
    rw [decide_eq_true h0, Bool.true_and, hr0]
    have HR0 := Lib.hid hr0; have HR := Lib.hid hr; have HB := Lib.hid hB; have HX := Lib.hid hx; have HL := Lib.hid hl; have HNN := Lib.hid hn
    clear hr0 hr hB hx hl hn hm h0
    go_enter Try.func36, Try.ntmps36
    go_wp2_with fail
    go_loopw [15] (fun i wr => ∃ (t : Nat), t ≤ n ∧ i = .int .i64 t ∧ (L.take t).all (fun x : MA => mutB (mutOf x)) = true ∧ Below w.heap.size w wr) (fun i _ => n - (intOf i).toNat)
    case atStart => exact ⟨0, Nat.zero_le _, rfl, rfl, Below.refl _ _⟩
    case round =>
      obtain ⟨t, ht, rfl, hall, hb⟩ := hrel
      by_cases hlt : t < n
      · have i1 : (t : Int) < n := by omega
        have i0 : (0 : Int) ≤ t := by omega
        have i8 : n ≤ 1000000 := HNN.out
        have htl : t < L.length := by rw [HL.out]; exact hlt
        have hrd := HR.out.below (hb.mono HB.out)
        obtain ⟨g0, o0, rfl, hg0⟩ := hrd.rd.ex (by omega)
        have hcol := hrd.rd.part htl
        have hs := HX.out L[t] (List.getElem_mem htl)
        have hin := hrd.parts L[t] (List.getElem_mem htl)
        have hno := all_no (p := (fun x : MA => mutB (mutOf x))) htl
        have hyes := all_yes (p := (fun x : MA => mutB (mutOf x))) htl hall
        obtain ⟨x, hcx⟩ : ∃ y, L[t] = y := ⟨_, rfl⟩
        rw [hcx] at hcol hno hyes hin
        try rw [hcx] at hs
        obtain ⟨u, hu⟩ : ∃ u, mutB (x.tb, ⟨x.p.k, x.p.g, ros x.p.L⟩) = u := ⟨_, rfl⟩
        have hno : u = false → L.all (fun x : MA => mutB (mutOf x)) = false := fun e => hno (hu.trans e)
        have hyes : u = true → (L.take (t + 1)).all (fun x : MA => mutB (mutOf x)) = true := fun e => hyes (hu.trans e)
        obtain ⟨_, _, _, _⟩ := hcol
        have ba := (Below.refl wr.heap.size wr).alloc (Nat.le_refl _) (.cells #[.string x.tb, .string x.p.k, .int .i64 x.p.g, .slice x.p.A x.p.L.length x.p.c] 49)
        have hb2 := hb.trans (ba.mono hb.size)
        have HB2 := Lib.hid hb2; have S1 := Lib.hid hs; have HU : Hid (mutB (x.tb, ⟨x.p.k, x.p.g, ros x.p.L⟩) = u) := Lib.hid hu; have HNO := Lib.hid hno; have HYES := Lib.hid hyes
        have HIN := Lib.hid (Lies.below hin (ba.mono (by have := HB.out; have := hb.size; omega)))
        clear hrd hs hb hall hb2 hno hyes hu hcx hin ba
        go_wp2_with fail
        refine (mut_any x.tb x.p.k x.p.g x.p.A x.p.L.length x.p.c B x.p.L _ HIN.out (Nat.le_trans HB.out HB2.out.size) S1.out.1 S1.out.2.1 S1.out.2.2).mono ?_
        rintro e w2 ⟨rfl, b2⟩
        rw [HU.out]
        have B2 := Lib.hid (next HB2.out b2)
        clear b2
        cases u with
        | false =>
          have hrf : r = false := HR0.out.symm.trans (HNO.out rfl)
          subst hrf
          go_wp2
          go_ret
          exact ⟨rfl, B2.out⟩
        | true =>
          go_wp2
          go_roundw
          case rel => exact ⟨t + 1, by omega, by go_num, HYES.out (by simp), B2.out⟩
          case measure => simp [intOf]; omega
      · obtain rfl : t = n := by omega
        rw [List.take_of_length_le (by rw [HL.out]; exact Nat.le_refl _)] at hall
        have hrt : r = true := HR0.out.symm.trans hall
        subst hrt
        have HBB := Lib.hid hb
        clear hall hb
        go_wp2
        go_ret
        exact ⟨rfl, HBB.out⟩
  · have d1 : decide ((m : Int) < (n : Int)) = true := by simp; omega
    have d2 : decide (m < n) = true := by simp; omega
    rw [decide_eq_false h0, Bool.false_and]
    clear hr hB hx hl hn hm h0
    go_enter Try.func36, Try.ntmps36
    go_wp2
    go_ret
    exact ⟨rfl, Below.refl _ _⟩

set_option maxRecDepth 8000 in
set_option maxHeartbeats 600000 in
theorem list_notes (A : Option Addr) (n c B m : Nat) (L : List NA) (w : World) (hr : RdN w B A n L) (hB : B ≤ w.heap.size) (hx : ∀ x ∈ L, x.2.size ≤ maxLen) (hn : n ≤ 1000000) (hm : m ≤ 1000000) :
    Calls Try.prog 38 #[.slice A n c, .int .i64 (m : Nat), .func (.func 39) #[] #[]] w fun e w' => e = .returned (.bool (decide (n ≤ m) && L.all addB)) ∧ Below w.heap.size w w' := by
  have hl := hr.1
  by_cases h0 : n ≤ m
  · have d1 : decide ((m : Int) < (n : Int)) = false := by simp; omega
    have d2 : decide (m < n) = false := by simp; omega
    obtain ⟨r, hr0⟩ : ∃ r, L.all addB = r := ⟨_, rfl⟩
    rw [decide_eq_true h0, Bool.true_and, hr0]
    have HR0 := Lib.hid hr0; have HR := Lib.hid hr; have HB := Lib.hid hB; have HX := Lib.hid hx; have HL := Lib.hid hl; have HNN := Lib.hid hn
    clear hr0 hr hB hx hl hn hm h0
    go_enter Try.func38, Try.ntmps38
    go_wp2_with fail
    go_loopw [15] (fun i wr => ∃ (t : Nat), t ≤ n ∧ i = .int .i64 t ∧ (L.take t).all addB = true ∧ Below w.heap.size w wr) (fun i _ => n - (intOf i).toNat)
    case atStart => exact ⟨0, Nat.zero_le _, rfl, rfl, Below.refl _ _⟩
    case round =>
      obtain ⟨t, ht, rfl, hall, hb⟩ := hrel
      by_cases hlt : t < n
      · have i1 : (t : Int) < n := by omega
        have i0 : (0 : Int) ≤ t := by omega
        have i8 : n ≤ 1000000 := HNN.out
        have htl : t < L.length := by rw [HL.out]; exact hlt
        have hrd := HR.out.below (hb.mono HB.out)
        obtain ⟨g0, o0, rfl, hg0⟩ := hrd.ex (by omega)
        have hcol := hrd.part htl
        have hs := HX.out L[t] (List.getElem_mem htl)
        have hno := all_no (p := addB) htl
        have hyes := all_yes (p := addB) htl hall
        obtain ⟨x, hcx⟩ : ∃ y, L[t] = y := ⟨_, rfl⟩
        rw [hcx] at hcol hno hyes
        try rw [hcx] at hs
        obtain ⟨u, hu⟩ : ∃ u, addB (x.1, x.2) = u := ⟨_, rfl⟩
        have hno : u = false → L.all addB = false := fun e => hno (hu.trans e)
        have hyes : u = true → (L.take (t + 1)).all addB = true := fun e => hyes (hu.trans e)
        obtain ⟨_, _⟩ := hcol
        have ba := (Below.refl wr.heap.size wr).alloc (Nat.le_refl _) (.cells #[.int .i64 x.1, .string x.2] 51)
        have hb2 := hb.trans (ba.mono hb.size)
        have HB2 := Lib.hid hb2; have S1 := Lib.hid hs; have HU : Hid (addB (x.1, x.2) = u) := Lib.hid hu; have HNO := Lib.hid hno; have HYES := Lib.hid hyes
        clear hrd hs hb hall hb2 hno hyes hu hcx ba
        go_wp2_with fail
        refine (note_any x.1 x.2 _ S1.out).mono ?_
        rintro e w2 ⟨rfl, b2⟩
        rw [HU.out]
        have B2 := Lib.hid (next HB2.out b2)
        clear b2
        cases u with
        | false =>
          have hrf : r = false := HR0.out.symm.trans (HNO.out rfl)
          subst hrf
          go_wp2
          go_ret
          exact ⟨rfl, B2.out⟩
        | true =>
          go_wp2
          go_roundw
          case rel => exact ⟨t + 1, by omega, by go_num, HYES.out (by simp), B2.out⟩
          case measure => simp [intOf]; omega
      · obtain rfl : t = n := by omega
        rw [List.take_of_length_le (by rw [HL.out]; exact Nat.le_refl _)] at hall
        have hrt : r = true := HR0.out.symm.trans hall
        subst hrt
        have HBB := Lib.hid hb
        clear hall hb
        go_wp2
        go_ret
        exact ⟨rfl, HBB.out⟩
  · have d1 : decide ((m : Int) < (n : Int)) = true := by simp; omega
    have d2 : decide (m < n) = true := by simp; omega
    rw [decide_eq_false h0, Bool.false_and]
    clear hr hB hx hl hn hm h0
    go_enter Try.func38, Try.ntmps38
    go_wp2
    go_ret
    exact ⟨rfl, Below.refl _ _⟩

set_option maxRecDepth 8000 in
set_option maxHeartbeats 600000 in
theorem list_ints (A : Option Addr) (n c B m : Nat) (L : List Int) (w : World) (hr : RdZ w B A n L) (hB : B ≤ w.heap.size) (hx : ∀ x ∈ L, True) (hn : n ≤ 1000000) (hm : m ≤ 1000000) :
    Calls Try.prog 40 #[.slice A n c, .int .i64 (m : Nat), .func (.func 41) #[] #[]] w fun e w' => e = .returned (.bool (decide (n ≤ m) && L.all dropB)) ∧ Below w.heap.size w w' := by
  have hl := hr.1
  by_cases h0 : n ≤ m
  · have d1 : decide ((m : Int) < (n : Int)) = false := by simp; omega
    have d2 : decide (m < n) = false := by simp; omega
    obtain ⟨r, hr0⟩ : ∃ r, L.all dropB = r := ⟨_, rfl⟩
    rw [decide_eq_true h0, Bool.true_and, hr0]
    have HR0 := Lib.hid hr0; have HR := Lib.hid hr; have HB := Lib.hid hB; have HX := Lib.hid hx; have HL := Lib.hid hl; have HNN := Lib.hid hn
    clear hr0 hr hB hx hl hn hm h0
    go_enter Try.func40, Try.ntmps40
    go_wp2_with fail
    go_loopw [15] (fun i wr => ∃ (t : Nat), t ≤ n ∧ i = .int .i64 t ∧ (L.take t).all dropB = true ∧ Below w.heap.size w wr) (fun i _ => n - (intOf i).toNat)
    case atStart => exact ⟨0, Nat.zero_le _, rfl, rfl, Below.refl _ _⟩
    case round =>
      obtain ⟨t, ht, rfl, hall, hb⟩ := hrel
      by_cases hlt : t < n
      · have i1 : (t : Int) < n := by omega
        have i0 : (0 : Int) ≤ t := by omega
        have i8 : n ≤ 1000000 := HNN.out
        have htl : t < L.length := by rw [HL.out]; exact hlt
        have hrd := HR.out.below (hb.mono HB.out)
        obtain ⟨g0, o0, rfl, hg0, hc⟩ := hrd.2 (by omega)
        have hcol := hc t htl
        have hs := HX.out L[t] (List.getElem_mem htl)
        have hno := all_no (p := dropB) htl
        have hyes := all_yes (p := dropB) htl hall
        obtain ⟨x, hcx⟩ : ∃ y, L[t] = y := ⟨_, rfl⟩
        rw [hcx] at hcol hno hyes
        try rw [hcx] at hs
        obtain ⟨u, hu⟩ : ∃ u, dropB x = u := ⟨_, rfl⟩
        have hno : u = false → L.all dropB = false := fun e => hno (hu.trans e)
        have hyes : u = true → (L.take (t + 1)).all dropB = true := fun e => hyes (hu.trans e)
        have hb2 := hb
        have HB2 := Lib.hid hb2; have S1 := Lib.hid hs; have HU : Hid (dropB x = u) := Lib.hid hu; have HNO := Lib.hid hno; have HYES := Lib.hid hyes
        clear hrd hs hb hall hb2 hno hyes hu hcx hc
        go_wp2_with fail
        refine (id_any x _).mono ?_
        rintro e w2 ⟨rfl, b2⟩
        rw [HU.out]
        have B2 := Lib.hid (next HB2.out b2)
        clear b2
        cases u with
        | false =>
          have hrf : r = false := HR0.out.symm.trans (HNO.out rfl)
          subst hrf
          go_wp2
          go_ret
          exact ⟨rfl, B2.out⟩
        | true =>
          go_wp2
          go_roundw
          case rel => exact ⟨t + 1, by omega, by go_num, HYES.out (by simp), B2.out⟩
          case measure => simp [intOf]; omega
      · obtain rfl : t = n := by omega
        rw [List.take_of_length_le (by rw [HL.out]; exact Nat.le_refl _)] at hall
        have hrt : r = true := HR0.out.symm.trans hall
        subst hrt
        have HBB := Lib.hid hb
        clear hall hb
        go_wp2
        go_ret
        exact ⟨rfl, HBB.out⟩
  · have d1 : decide ((m : Int) < (n : Int)) = true := by simp; omega
    have d2 : decide (m < n) = true := by simp; omega
    rw [decide_eq_false h0, Bool.false_and]
    clear hr hB hx hl hn hm h0
    go_enter Try.func40, Try.ntmps40
    go_wp2
    go_ret
    exact ⟨rfl, Below.refl _ _⟩

theorem bt_ok (x : BA) : x.bt.ok = (decide (x.M.length ≤ 64) && x.M.all (fun x : MA => mutB (mutOf x)) && (decide (x.N.length ≤ 300) && x.N.all addB) && (decide (x.D.length ≤ 300) && x.D.all dropB)) := by
  unfold Bt.ok BA.bt muts
  dsimp only
  rw [List.length_map, List.all_map]
  simp only [Bool.and_assoc]
  rfl
/-- A batch, not too much of it. -/
structure BtF (x : BA) : Prop where
  muts : ∀ y ∈ x.M, MuF y
  notes : ∀ y ∈ x.N, y.2.size ≤ maxLen
  lm : x.M.length ≤ 1000000
  ln : x.N.length ≤ 1000000
  ld : x.D.length ≤ 1000000
abbrev bV (x : BA) : Value := .agg #[.slice x.AM x.M.length x.cM, .slice x.AN x.N.length x.cN, .slice x.AD x.D.length x.cD]
abbrev bO (x : BA) : Obj := .cells #[.slice x.AM x.M.length x.cM, .slice x.AN x.N.length x.cN, .slice x.AD x.D.length x.cD] 29
set_option maxRecDepth 8000 in
set_option maxHeartbeats 600000 in
theorem checkBatch_any (x : BA) (B : Nat) (w : World) (hr : LiesB w B x) (hB : B ≤ w.heap.size) (hf : BtF x) :
    Calls Try.prog 18 #[bV x] w fun e w' => e = .returned (.bool x.bt.ok) ∧ Below w.heap.size w w' := by
  have bz := (Below.refl w.heap.size w).alloc (Nat.le_refl _) (bO x)
  have hz := heap_alloc_new w (bO x)
  obtain ⟨V, hV⟩ : ∃ V, V = w.alloc (bO x) := ⟨_, rfl⟩
  rw [← hV] at bz hz
  have hc0 := cell_at (i := 0) hz rfl
  have N1 := list_muts x.AM x.M.length x.cM B 64 x.M V (hr.muts.below (bz.mono hB)) (Nat.le_trans hB bz.size) hf.muts hf.lm (by omega)
  obtain ⟨u1, hu1⟩ : ∃ u, (decide (x.M.length ≤ 64) && x.M.all (fun x : MA => mutB (mutOf x))) = u := ⟨_, rfl⟩
  obtain ⟨u2, hu2⟩ : ∃ u, (decide (x.N.length ≤ 300) && x.N.all addB) = u := ⟨_, rfl⟩
  obtain ⟨u3, hu3⟩ : ∃ u, (decide (x.D.length ≤ 300) && x.D.all dropB) = u := ⟨_, rfl⟩
  have hv : x.bt.ok = (u1 && u2 && u3) := by rw [bt_ok, hu1, hu2, hu3]
  rw [hu1] at N1
  have HZ := Lib.hid hz; have BZ := Lib.hid bz; have HR := Lib.hid hr; have HF := Lib.hid hf; have HB := Lib.hid hB; have HN1 := Lib.hid N1; have HV := Lib.hid hv; have U2 := Lib.hid hu2; have U3 := Lib.hid hu3
  obtain ⟨r, hrr⟩ : ∃ r, x.bt.ok = r := ⟨_, rfl⟩
  rw [hrr] at HV ⊢
  clear hz bz hv hu1 hu2 hu3 hr hf hB N1 hrr
  go_enter Try.func18, Try.ntmps18
  go_wp2_with fail
  try unfold bO at hV
  rw [← hV]
  clear hV
  refine (HN1.out).mono ?_
  rintro e w1 ⟨rfl, b1⟩
  have hz1 := (b1.block _ (Array.getElem?_eq_some_iff.1 HZ.out).1).trans HZ.out
  have B1 := Lib.hid (next BZ.out b1)
  have hc1 := cell_at (i := 1) hz1 rfl
  have HZ1 := Lib.hid hz1
  clear hz1 b1 hc0
  cases u1 with
  | false =>
    have hrf : r = false := HV.out
    subst hrf
    go_wp2
    go_ret
    exact ⟨rfl, B1.out⟩
  | true =>
    have N2 := list_notes x.AN x.N.length x.cN B 300 x.N w1 (HR.out.notes.below (B1.out.mono HB.out)) (Nat.le_trans HB.out B1.out.size) HF.out.notes HF.out.ln (by omega)
    rw [U2.out] at N2
    have HN2 := Lib.hid N2
    clear N2
    go_wp2_with fail
    refine (HN2.out).mono ?_
    rintro e w2 ⟨rfl, b2⟩
    have hz2 := (b2.block _ (Array.getElem?_eq_some_iff.1 HZ1.out).1).trans HZ1.out
    have B2 := Lib.hid (next B1.out b2)
    have hc2 := cell_at (i := 2) hz2 rfl
    clear hz2 b2 hc1
    cases u2 with
    | false =>
      have hrf : r = false := HV.out
      subst hrf
      go_wp2
      go_ret
      exact ⟨rfl, B2.out⟩
    | true =>
      have N3 := list_ints x.AD x.D.length x.cD B 300 x.D w2 (HR.out.drops.below (B2.out.mono HB.out)) (Nat.le_trans HB.out B2.out.size) (fun _ _ => trivial) HF.out.ld (by omega)
      rw [U3.out] at N3
      have HN3 := Lib.hid N3
      clear N3
      go_wp2_with fail
      refine (HN3.out).mono ?_
      rintro e w3 ⟨rfl, b3⟩
      have B3 := Lib.hid (next B2.out b3)
      have hrf : r = u3 := by rw [HV.out]; cases u3 <;> rfl
      subst hrf
      clear b3
      go_wp2
      go_ret
      exact ⟨rfl, B3.out⟩
end Go.Proofs.Ytbfkbfbcaileoaa
set_option linter.unusedVariables false
set_option linter.unusedSimpArgs false
namespace Go.Proofs.Ytbfkbfbcaileoaa
open Go Go.RowKit

theorem btS_of {x : BA} (h : x.bt.ok = true) : BtS x := by
  have hg := Bt.gd_of h
  rw [bt_ok] at h
  simp only [Bool.and_eq_true, decide_eq_true_iff, List.all_eq_true] at h
  obtain ⟨⟨⟨h1, h2⟩, h3, h4⟩, h5, h6⟩ := h
  refine ⟨fun y hy => ?_, fun y hy => ?_, fun y hy => ?_, by omega, by omega, by omega⟩
  · have h7 := h2 y hy
    unfold mutB nameB mutOf at h7
    simp only [Bool.and_eq_true, decide_eq_true_iff] at h7
    exact ⟨by omega, paS_of h7.2⟩
  · have h7 := h4 y hy
    unfold addB at h7
    simp only [Bool.and_eq_true, decide_eq_true_iff] at h7
    exact ⟨⟨by omega, h7.2.1⟩, by omega⟩
  · have h7 := h6 y hy
    unfold dropB at h7
    simp only [Bool.and_eq_true, decide_eq_true_iff] at h7
    exact ⟨by omega, by omega⟩
theorem bt_len {b : Bt} (h : b.ok = true) : (bE b).length ≤ 30000000 := by
  unfold Bt.ok at h
  simp only [Bool.and_eq_true, decide_eq_true_iff, List.all_eq_true] at h
  obtain ⟨h1, h2, h3, h4, h5, h6⟩ := h
  have l1 : (b.muts.flatMap mE).length ≤ b.muts.length * 246300 := flat_le fun m hm => by
    have h7 := h2 m hm
    unfold mutB nameB at h7
    simp only [Bool.and_eq_true, decide_eq_true_iff] at h7
    have := pa_len h7.2
    have h8 : (tE m.1).length ≤ 9 + 100 := tE_le h7.1.1.2 (by omega)
    have h9 : (numL (pE m.2).length).length ≤ 9 := numL_le (by omega)
    unfold mE
    simp only [List.length_append]
    omega
  have l2 : (b.add.flatMap aE).length ≤ b.add.length * 4200 := flat_le fun m hm => by
    have h7 := h4 m hm
    unfold addB at h7
    simp only [Bool.and_eq_true, decide_eq_true_iff] at h7
    have h8 : (tE m.2).length ≤ 9 + 4096 := tE_le h7.2.2 (by omega)
    have h9 : (numL m.1.toNat).length ≤ 9 := numL_le (by omega)
    unfold aE
    simp only [List.length_append]
    omega
  have l3 : (b.drop.flatMap fun v => numL v.toNat).length ≤ b.drop.length * 9 := flat_le fun m hm => by
    have h7 := h6 m hm
    unfold dropB at h7
    simp only [Bool.and_eq_true, decide_eq_true_iff] at h7
    exact numL_le (by omega)
  have n1 : (numL b.muts.length).length ≤ 9 := numL_le (by omega)
  have n2 : (numL b.add.length).length ≤ 9 := numL_le (by omega)
  have n3 : (numL b.drop.length).length ≤ 9 := numL_le (by omega)
  have m1 : b.muts.length * 246300 ≤ 64 * 246300 := Nat.mul_le_mul_right _ h1
  have m2 : b.add.length * 4200 ≤ 300 * 4200 := Nat.mul_le_mul_right _ h3
  have m3 : b.drop.length * 9 ≤ 300 * 9 := Nat.mul_le_mul_right _ h5
  unfold bE
  simp only [List.length_append]
  omega
theorem putBatch_no {b : Bt} (h : b.ok = false) : putBatch b = .error 1 := by
  unfold putBatch putP
  rw [if_neg (by rw [h]; simp)]
set_option maxRecDepth 8000 in
set_option maxHeartbeats 600000 in
theorem put_batch (x : BA) (B : Nat) (w : World) (hr : LiesB w B x) (hB : B ≤ w.heap.size) (hf : BtF x) :
    Calls Try.prog 28 #[bV x, .func (.func 18) #[] #[], .func (.func 29) #[] #[]] w (GivesP w (putBatch x.bt)) := by
  have bz := (Below.refl w.heap.size w).alloc (Nat.le_refl _) (bO x)
  have hz := heap_alloc_new w (bO x)
  obtain ⟨V, hV⟩ : ∃ V, V = w.alloc (bO x) := ⟨_, rfl⟩
  rw [← hV] at bz hz
  have hVs := bz.size
  have hc0 := cell_at (i := 0) hz rfl
  have hc1 := cell_at (i := 1) hz rfl
  have hc2 := cell_at (i := 2) hz rfl
  obtain ⟨u, hu⟩ : ∃ u, x.bt.ok = u := ⟨_, rfl⟩
  have C1 := checkBatch_any x B V (hr.below (bz.mono hB)) (by omega) hf
  rw [hu] at C1
  have HU := Lib.hid hu; have HZ := Lib.hid hz; have BZ := Lib.hid bz; have HC1 := Lib.hid C1; have HR := Lib.hid hr; have HB := Lib.hid hB; have HVS := Lib.hid hVs
  obtain ⟨R, hR⟩ : ∃ R, putBatch x.bt = R := ⟨_, rfl⟩
  rw [hR]
  have HRR := Lib.hid hR
  clear hu hz bz C1 hr hf hVs hR
  go_enter Try.func28, Try.ntmps28
  go_wp2_with fail
  try unfold bO at hV
  rw [← hV]
  clear hV
  refine (HC1.out).mono ?_
  rintro e w1 ⟨rfl, b1⟩
  have hz1 := (b1.block _ (Array.getElem?_eq_some_iff.1 HZ.out).1).trans HZ.out
  have B1 := Lib.hid b1
  clear hc0 hc1 hc2 b1
  have hc0 := cell_at (i := 0) hz1 rfl
  have hc1 := cell_at (i := 1) hz1 rfl
  have hc2 := cell_at (i := 2) hz1 rfl
  have HZ1 := Lib.hid hz1
  clear hz1
  cases u with
  | false =>
    go_wp2
    go_ret2
    rw [← HRR.out, putBatch_no HU.out]
    exact ⟨rfl, next BZ.out B1.out⟩
  | true =>
    have hps := btS_of HU.out
    have hle := bt_len HU.out
    obtain ⟨P, hP⟩ : ∃ P, bE x.bt = P := ⟨_, rfl⟩
    have hb1 := next BZ.out B1.out
    have N := putBatch_any w1.heap.size (.slice none 0 0) [] x.AM x.AN x.AD x.M.length x.cM x.N.length x.cN x.D.length x.cD B x.M x.N x.D w1 (own_nilY _ _) (Nat.le_refl _) (by have h := HR.out.below (hb1.mono HB.out); exact ⟨h.muts, h.notes, h.drops⟩) (by have := hb1.size; have := HB.out; omega) ⟨hps.muts, hps.notes, hps.drops⟩ ⟨hps.lm, hps.ln, hps.ld⟩ (by rw [List.nil_append]; show (bE x.bt).length ≤ _; omega)
    rw [List.nil_append] at N
    have e : bE ⟨muts x.M, x.N, x.D⟩ = P := hP
    rw [e] at N
    rw [hP] at hle
    have HP : putBatch x.bt = (if 262144 < P.length then .error 2 else .ok P) := by
      unfold putBatch putP
      rw [if_pos HU.out, hP]
    rw [HRR.out] at HP
    have HN := Lib.hid N; have HPP := Lib.hid HP; have HB1 := Lib.hid hb1; have HLE := Lib.hid hle
    clear hps hle HP hP hb1 N e
    go_wp2_with fail
    refine (HN.out).mono ?_
    rintro e w2 ⟨v2, rfl, l2⟩
    have hb2 := l2.base (own_nilY _ _) (Nat.le_refl _)
    obtain ⟨A2, n2, c2, rfl, hl2, g1, g2, g3, ho⟩ := l2.own.slice
    have hn2 : n2 ≤ 30000000 := by have := HLE.out; omega
    have HG : Hid (P.length = n2 ∧ n2 ≤ c2 ∧ c2 ≤ maxLen ∧ (A2 = none → c2 = 0) ∧ w2.ownsRow w.heap.size 5 1 (.slice A2 n2 c2) n2 (Lib.byteCells P) ∧ Below w.heap.size w w2) := Lib.hid ⟨hl2, g1, g2, g3, own_down ho HB1.out.size, next HB1.out hb2⟩
    clear hl2 g1 g2 g3 ho hb2 l2 hc0 hc1 hc2
    by_cases h8 : 262144 < n2
    · have d1 : decide ((262144 : Int) < (n2 : Int)) = true := by simp; omega
      have d2 : decide (262144 < n2) = true := by simp; omega
      have hRe : R = .error 2 := by rw [HPP.out, HG.out.1, if_pos h8]
      subst hRe
      clear h8
      go_wp2
      go_ret2
      exact ⟨rfl, HG.out.2.2.2.2.2⟩
    · have d1 : decide ((262144 : Int) < (n2 : Int)) = false := by simp; omega
      have d2 : decide (262144 < n2) = false := by simp; omega
      have hRe : R = .ok P := by rw [HPP.out, HG.out.1, if_neg h8]
      subst hRe
      clear h8
      go_wp2
      go_ret2
      exact ⟨A2, n2, c2, rfl, HG.out⟩
set_option maxRecDepth 8000 in
set_option maxHeartbeats 600000 in
theorem pack_batch (x : BA) (B : Nat) (w : World) (hr : LiesB w B x) (hB : B ≤ w.heap.size) (hf : BtF x) :
    Calls Try.prog 14 #[bV x] w (GivesP w (putBatch x.bt)) := by
  have bz := (Below.refl w.heap.size w).alloc (Nat.le_refl _) (bO x)
  have hz := heap_alloc_new w (bO x)
  obtain ⟨V, hV⟩ : ∃ V, V = w.alloc (bO x) := ⟨_, rfl⟩
  rw [← hV] at bz hz
  have hVs := bz.size
  have hc0 := cell_at (i := 0) hz rfl
  have hc1 := cell_at (i := 1) hz rfl
  have hc2 := cell_at (i := 2) hz rfl
  have N := put_batch x B V (hr.below (bz.mono hB)) (by omega) hf
  have BZ := Lib.hid bz; have HN := Lib.hid N
  obtain ⟨R, hR⟩ : ∃ R, putBatch x.bt = R := ⟨_, rfl⟩
  rw [hR] at HN ⊢
  clear hz bz hr hf hVs N hR hB
  go_enter Try.func14, Try.ntmps14
  go_wp2_with fail
  try unfold bO at hV
  rw [← hV]
  clear hV
  refine (HN.out).mono ?_
  intro e w1 hg
  cases R with
  | error y =>
    obtain ⟨rfl, b1⟩ := hg
    have B1 := Lib.hid b1
    clear b1
    go_wp2
    go_ret2
    exact ⟨rfl, next BZ.out B1.out⟩
  | ok b =>
    obtain ⟨A2, n2, c2, rfl, h1, h2, h3, h4, h5, h6⟩ := hg
    have HG : Hid (b.length = n2 ∧ n2 ≤ c2 ∧ c2 ≤ maxLen ∧ (A2 = none → c2 = 0) ∧ w1.ownsRow w.heap.size 5 1 (.slice A2 n2 c2) n2 (Lib.byteCells b) ∧ Below w.heap.size w w1) := Lib.hid ⟨h1, h2, h3, h4, own_down h5 BZ.out.size, next BZ.out h6⟩
    clear h1 h2 h3 h4 h5 h6
    go_wp2
    go_ret2
    exact ⟨A2, n2, c2, rfl, HG.out⟩
end Go.Proofs.Ytbfkbfbcaileoaa
set_option linter.unusedVariables false
set_option linter.unusedSimpArgs false
namespace Go.Proofs.Ytbfkbfbcaileoaa
open Go Go.RowKit

theorem lies_nil (w : World) (B : Nat) : Lies w B none 0 0 [] := ⟨RdR.nil _ _ _, fun x hx => (by cases hx), Nat.le_refl _⟩
def bt0 : BA := ⟨none, 0, [], none, 0, [], none, 0, []⟩
theorem bt0_lies (w : World) (B : Nat) : LiesB w B bt0 := ⟨⟨⟨rfl, fun h => absurd h (by simp [bt0])⟩, fun x hx => (by cases hx), Nat.le_refl _⟩, ⟨rfl, fun h => absurd h (by simp [bt0])⟩, ⟨rfl, fun h => absurd h (by simp [bt0])⟩, Nat.le_refl _, Nat.le_refl _⟩
theorem bt0_few : BtF bt0 := ⟨fun y hy => (by cases hy), fun y hy => (by cases hy), by simp [bt0], by simp [bt0], by simp [bt0]⟩
theorem put_a : putPart ⟨⟨#[97]⟩, 0, ros []⟩ = .ok [1, 1, 97, 0, 0] := by kernel_rfl
theorem bt0_ok : bt0.bt.ok = true := by rfl
set_option maxHeartbeats 1000000 in
theorem awake9_any (w : World) : Calls Try.prog 9 #[] w fun x w' => x = .returned (.bool true) ∧ Below w.heap.size w w' := by
  have N := pack_part ⟨#[97]⟩ 0 none 0 0 0 [] w (lies_nil _ _) (Nat.zero_le _) (by omega) (fun x hx => by cases hx)
  rw [put_a] at N
  have HN := Lib.hid N
  clear N
  go_enter Try.func9, Try.ntmps9
  go_wp2_with fail
  refine (HN.out).mono ?_
  rintro e w1 ⟨A, n, c, rfl, h1, h2, h3, h4, h5, h6⟩
  obtain ⟨_, _, e, _, _, _, hrd⟩ := Rd.of_own h5
  injection e with e1 e2 e3
  subst e1; subst e3
  have hcv := cv_string hrd c
  have B1 := Lib.hid h6
  clear h1 h2 h3 h4 h5 h6 hrd
  have hcv : (convert 33 9 (.slice A n c)).run Try.prog w1 = .ok (.string ⟨#[1, 1, 97, 0, 0]⟩) w1 := hcv
  go_wp2_with fail
  refine (checkBatch_any bt0 0 w1 (bt0_lies _ _) (Nat.zero_le _) bt0_few).mono ?_
  rintro e w2 ⟨rfl, b2⟩
  rw [bt0_ok]
  have B2 := Lib.hid (next B1.out b2)
  clear b2 hcv
  go_wp2
  go_ret
  exact ⟨rfl, B2.out⟩
end Go.Proofs.Ytbfkbfbcaileoaa
set_option linter.unusedVariables false
set_option linter.unusedSimpArgs false
namespace Go.Proofs.Ytbfkbfbcaileoaa
open Go Go.RowKit

/-- The merge under way. -/
structure MSt (w wr : World) (B B' : Nat) (R : List Ro) (A1 A2 : Option Addr) (n1 n2 c1 c2 : Nat) (la lb M : List RA) (vm : Value) : Prop where
  a : Lies w B A1 n1 c1 la
  b : Lies w B' A2 n2 c2 lb
  sum : M.length + (n1 + n2) ≤ 1000
  run : runK Ro.key Ro.join (ros M) (ros la) (ros lb) = R
  ua : ∀ x ∈ la, x.ro.Up
  ub : ∀ x ∈ lb, x.ro.Up
  um : ∀ x ∈ M, x.ro.Up
  tt : tot M + (tot la + tot lb) ≤ 1000
  own : Own w wr vm M
/-- .. with x taken off a list. -/
structure MPd (w : World) (B B' : Nat) (R : List Ro) (A1 A2 : Option Addr) (n1 n2 c1 c2 : Nat) (la lb M : List RA) (x : RA) : Prop where
  a : Lies w B A1 n1 c1 la
  b : Lies w B' A2 n2 c2 lb
  sum : M.length + 1 + (n1 + n2) ≤ 1000
  run : runK Ro.key Ro.join (pushK Ro.key Ro.join (ros M) x.ro) (ros la) (ros lb) = R
  ua : ∀ x ∈ la, x.ro.Up
  ub : ∀ x ∈ lb, x.ro.Up
  um : ∀ x ∈ M, x.ro.Up
  ux : x.ro.Up
  tt : tot M + x.ro.cols.length + (tot la + tot lb) ≤ 1000
section
variable {w wr w' : World} {B B' : Nat} {R : List Ro} {A1 A2 : Option Addr} {n1 n2 c1 c2 : Nat} {la lb M L : List RA} {vm v' : Value} {x y z : RA}
theorem MPd.put (h : MPd w B B' R A1 A2 n1 n2 c1 c2 la lb M x) (hM : M = L ++ [y]) (hk : y.ro.key = x.ro.key) (hz : z.ro = y.ro.join x.ro) (ho : Own w w' v' (M.set L.length z)) : MSt w w' B B' R A1 A2 n1 n2 c1 c2 la lb (L ++ [z]) v' where
  a := h.a
  b := h.b
  sum := by have := h.sum; rw [hM] at this; simp at this ⊢; omega
  run := by
    have := h.run
    rw [hM, show ros (L ++ [y]) = ros L ++ [y.ro] by simp [ros], pushK_last, if_pos hk] at this
    rw [show ros (L ++ [z]) = ros L ++ [z.ro] by simp [ros], hz]
    exact this
  ua := h.ua
  ub := h.ub
  um := fun t ht => by
    rcases List.mem_append.1 ht with h1 | h1
    · exact h.um t (by rw [hM]; exact List.mem_append_left _ h1)
    · rw [List.mem_singleton.1 h1, hz]; exact (h.um y (by rw [hM]; simp)).join h.ux
  tt := by
    have := h.tt
    rw [hM, tot_app, tot_cons, tot_nil] at this
    rw [tot_app, tot_cons, tot_nil, hz]
    have := len_join y.ro x.ro
    omega
  own := by
    have e : M.set L.length z = L ++ [z] := by rw [hM]; simp
    rw [← e]
    exact ho
end

end Go.Proofs.Ytbfkbfbcaileoaa
set_option linter.unusedVariables false
set_option linter.unusedSimpArgs false
namespace Go.Proofs.Ytbfkbfbcaileoaa
open Go Go.RowKit

theorem set3_block {w : World} {q : Nat} {v0 v1 v2 : Value} (h : w.heap[q]? = some (.cells #[v0, v1, v2] 24 (0, 0))) (u0 u1 u2 : Value) :
    (((w.setCell ⟨q, 0, none⟩ u0).setCell ⟨q, 1, none⟩ u1).setCell ⟨q, 2, none⟩ u2).heap[q]? = some (.cells #[u0, u1, u2] 24 (0, 0)) := by
  have h0 := Joins.block_setCell (i := 0) h u0
  simp only [List.setIfInBounds_toArray, List.set_cons_zero, List.set_cons_succ] at h0
  have h1 := Joins.block_setCell (i := 1) h0 u1
  simp only [List.setIfInBounds_toArray, List.set_cons_zero, List.set_cons_succ] at h1
  have h2 := Joins.block_setCell (i := 2) h1 u2
  simpa only [List.setIfInBounds_toArray, List.set_cons_zero, List.set_cons_succ] using h2
theorem kept_set3 {w : World} (q : Nat) (u0 u1 u2 : Value) : Kept (fun k => k = q) w (((w.setCell ⟨q, 0, none⟩ u0).setCell ⟨q, 1, none⟩ u1).setCell ⟨q, 2, none⟩ u2) :=
  (((Kept.refl (fun k => k = q) w).trans (Kept.setCell (fun k => k = q) _ ⟨q, 0, none⟩ u0 rfl) fun _ h => Or.inl h).trans (Kept.setCell (fun k => k = q) _ ⟨q, 1, none⟩ u1 rfl) fun _ h => Or.inl h).trans (Kept.setCell (fun k => k = q) _ ⟨q, 2, none⟩ u2 rfl) fun _ h => Or.inl h

end Go.Proofs.Ytbfkbfbcaileoaa
set_option linter.unusedVariables false
set_option linter.unusedSimpArgs false
namespace Go.Proofs.Ytbfkbfbcaileoaa
open Go Go.RowKit Go.Joins

/-- Rows and columns that are own. -/
structure Own3 (b : Nat) (w : World) (x : PA) : Prop where
  rows : w.ownsRow b 61 8 (.slice x.A x.L.length x.c) x.L.length (rRow x.L)
  cols : OwnR w b x.L
theorem Own3.kept {b : Nat} {w w' : World} {x : PA} {F : Nat → Prop} (h : Own3 b w x) (hk : Kept F w w') (hF : ∀ k, F k → ∃ cs e, w.heap[k]? = some (.cells cs e (0, 0)) ∧ e ≠ 61 ∧ e ≠ 90) : Own3 b w' x := by
  have key : ∀ {g : Nat} {cs : Array Value} {e : TypeId}, w.heap[g]? = some (.cells cs e (0, 0)) → (e = 61 ∨ e = 90) → ¬ F g := fun {g cs e} h1 he hf => by
    obtain ⟨cs', e', h2, h3, h4⟩ := hF g hf
    rw [h1] at h2
    injection h2 with h2
    injection h2 with _ h5 _
    subst h5
    exact he.elim h3 h4
  refine ⟨own_kept h.rows fun g hg => hk.block g (own_block_lt h.rows g hg) ?_, fun y hy => own_kept (h.cols y hy) fun g hg => hk.block g (own_block_lt (h.cols y hy) g hg) ?_⟩
  · obtain ⟨cs, h1⟩ := own_tag h.rows g hg
    exact key h1 (Or.inl rfl)
  · obtain ⟨cs, h1⟩ := own_tag (h.cols y hy) g hg
    exact key h1 (Or.inr rfl)
theorem Own3.on {b : Nat} {w w' : World} {x : PA} (h : Own3 b w x) (hb : Below w.heap.size w w') : Own3 b w' x := ⟨own_below h.rows hb, h.cols.below hb⟩
theorem Own3.lies {b : Nat} {w : World} {x : PA} (h : Own3 b w x) : Lies w w.heap.size x.A x.L.length x.c x.L := by
  obtain ⟨A', c', e, h1, _⟩ := own_slice h.rows
  injection e with e1 e2 e3
  subst e3
  refine ⟨RdR.of_own h.rows, fun y hy => ?_, h1⟩
  obtain ⟨A'', c'', e, h2, _⟩ := own_slice (h.cols y hy)
  injection e with e1 e2 e3
  subst e3
  exact ⟨RdK.of_own (h.cols y hy), h2⟩
end Go.Proofs.Ytbfkbfbcaileoaa
set_option linter.unusedVariables false
set_option linter.unusedSimpArgs false
namespace Go.Proofs.Ytbfkbfbcaileoaa
open Go Go.RowKit

theorem tot_le {M : List RA} {b : Nat} (h : ∀ x ∈ M, x.ro.cols.length ≤ b) : tot M ≤ M.length * b := by
  induction M with
  | nil => exact Nat.zero_le _
  | cons y M ih =>
    have h1 := h y (List.mem_cons_self ..)
    have h2 := ih fun x hx => h x (List.mem_cons_of_mem _ hx)
    rw [tot_cons, List.length_cons, Nat.succ_mul]
    omega
section
variable {k : ByteArray} {g : Int} {M : List RA}
theorem PartIn.rowin (h : PartIn ⟨k, g, ros M⟩) : ∀ x ∈ M, RowIn x.ro := fun x hx => (h.rows x.ro (List.mem_map.2 ⟨x, hx, rfl⟩)).1
theorem PartIn.mlen (h : PartIn ⟨k, g, ros M⟩) : M.length ≤ 4 := by
  have h1 := h.len
  rwa [List.length_map] at h1
theorem PartIn.tot (h : PartIn ⟨k, g, ros M⟩) : tot M ≤ 16 := by
  have h1 := tot_le (M := M) (b := 4) fun x hx => (h.rowin x hx).cols.len
  have h2 := h.mlen
  omega
theorem PartIn.colsle (h : PartIn ⟨k, g, ros M⟩) : ∀ x ∈ M, x.ro.cols.length ≤ 1000 := fun x hx => Nat.le_trans (h.rowin x hx).cols.len (by omega)
theorem RowIn.live {r : Ro} (h : RowIn r) : r.live.s.size = 0 := by
  have h1 := h.ok
  unfold Ro.ok liveB at h1
  simp only [Bool.and_eq_true] at h1
  have h2 := h1.2.1.2.1
  rw [Lib.toList_data, List.isEmpty_iff] at h2
  rw [ByteArray.size, ← Array.length_toList, h2]
  rfl
theorem PartIn.few (h : PartIn ⟨k, g, ros M⟩) : FewR M := fun x hx => ⟨fun y hy => by
  have h1 := (h.rowin x hx).cols.all y hy
  refine ⟨by omega, by unfold maxLen; omega⟩, by rw [(h.rowin x hx).live]; exact Nat.zero_le _, Nat.le_trans (h.colsle x hx) (by omega)⟩
end
/-- Rows that were there, or that are new. -/
def Held3 (W0 w : World) (A : Option Addr) (n c : Nat) (M : List RA) : Prop := Lies W0 W0.heap.size A n c M ∨ Fresh W0 w (.slice A n c) M
section
variable {W0 w w' : World} {A : Option Addr} {n c : Nat} {M : List RA}
theorem Held3.lies (h : Held3 W0 w A n c M) (hb : Below W0.heap.size W0 w) : Lies w w.heap.size A n c M := by
  rcases h with h | h
  · exact (h.below hb).up hb.size
  · exact h.lies.2.1
theorem Held3.on (h : Held3 W0 w A n c M) (hb : Below w.heap.size w w') : Held3 W0 w' A n c M := h.imp id fun h => h.on hb
theorem Held3.kept {F : Nat → Prop} (h : Held3 W0 w A n c M) (hk : Kept F w w') (hF : ∀ k, F k → W0.heap.size ≤ k ∧ ∃ cs, w.heap[k]? = some (.cells cs 24 (0, 0))) : Held3 W0 w' A n c M :=
  h.imp id fun h => h.kept hk hF (by decide) (by decide)
end
/-- A partition at block q. -/
structure AtP (W0 w : World) (q : Nat) (g : Int) (M : List RA) (A : Option Addr) (n c : Nat) : Prop where
  pt : w.heap[q]? = some (.cells #[.string ⟨#[107]⟩, .int .i64 g, .slice A n c] 24)
  held : Held3 W0 w A n c M
  up : W0.heap.size ≤ q
section
variable {W0 w w' : World} {q n c : Nat} {g : Int} {A : Option Addr} {M : List RA}
theorem AtP.lt (h : AtP W0 w q g M A n c) : q < w.heap.size := (Array.getElem?_eq_some_iff.1 h.pt).1
theorem AtP.on (h : AtP W0 w q g M A n c) (hb : Below w.heap.size w w') : AtP W0 w' q g M A n c := ⟨(hb.block q h.lt).trans h.pt, h.held.on hb, h.up⟩
theorem AtP.kept (h : AtP W0 w q g M A n c) {r : Nat} (hk : Kept (fun k => k = r) w w') (hr : W0.heap.size ≤ r ∧ ∃ cs, w.heap[r]? = some (.cells cs 24 (0, 0))) (hne : r ≠ q) : AtP W0 w' q g M A n c :=
  ⟨(hk.block q h.lt (fun e => hne e.symm)).trans h.pt, h.held.kept hk fun j hj => by subst hj; exact hr, h.up⟩
/-- Another one laid in its place. -/
theorem AtP.put (h : AtP W0 w q g M A n c) {g' : Int} {M' : List RA} {A' : Option Addr} {n' c' : Nat} (hf : Fresh W0 w (.slice A' n' c') M') :
    AtP W0 (((w.setCell ⟨q, 0, none⟩ (.string ⟨#[107]⟩)).setCell ⟨q, 1, none⟩ (.int .i64 g')).setCell ⟨q, 2, none⟩ (.slice A' n' c')) q g' M' A' n' c' :=
  ⟨set3_block h.pt _ _ _, Or.inr (hf.kept (e := 24) (kept_set3 q _ _ _) (fun j hj => by rw [hj]; exact ⟨h.up, _, h.pt⟩) (by decide) (by decide)), h.up⟩
end
end Go.Proofs.Ytbfkbfbcaileoaa
set_option linter.unusedVariables false
set_option linter.unusedSimpArgs false
namespace Go.Proofs.Ytbfkbfbcaileoaa
open Go Go.RowKit

theorem xor_u8_nat (a b : UInt8) : bits BinOp.xor IntKind.u8 (a.toNat : Int) (b.toNat : Int) = ((a ^^^ b).toNat : Nat) := by
  have ha := a.toNat_lt
  have hb := b.toNat_lt
  have hx : a.toNat ^^^ b.toNat < 2 ^ 8 := Nat.xor_lt_two_pow (by omega) (by omega)
  have h1 : (BitVec.ofInt 8 (a.toNat : Int)).toNat = a.toNat := by
    rw [BitVec.ofInt_natCast, BitVec.toNat_ofNat]; exact Nat.mod_eq_of_lt (by omega)
  have h2 : (BitVec.ofInt 8 (b.toNat : Int)).toNat = b.toNat := by
    rw [BitVec.ofInt_natCast, BitVec.toNat_ofNat]; exact Nat.mod_eq_of_lt (by omega)
  show IntKind.u8.wrap ((BitVec.ofInt 8 (a.toNat : Int) ^^^ BitVec.ofInt 8 (b.toNat : Int)).toNat : Int) = _
  have hw : ∀ n : Int, IntKind.u8.wrap n = n % 256 := fun n => by simp [IntKind.wrap, IntKind.bits, IntKind.signed]
  rw [BitVec.toNat_xor, h1, h2, UInt8.toNat_xor, hw]
  omega
theorem byteCells_set (l : Bs) (i : Nat) (x : UInt8) : (Lib.byteCells l).set i (.int .u8 (x.toNat : Nat)) = Lib.byteCells (l.set i x) := by
  unfold Lib.byteCells
  rw [List.map_set]
theorem pE_len4 (p : Pa) (h : 1 ≤ p.key.size) : 4 ≤ (pE p).length := by
  unfold pE tE
  simp only [List.length_append]
  have h1 := numL_pos p.gone.toNat
  have h2 := numL_pos p.rows.length
  have h3 : p.key.data.toList.length = p.key.size := rfl
  have h4 := numL_pos p.key.size
  omega
theorem turned_long (A : Option Addr) (n c : Nat) (v y : Int) (w : World) (hn : 40 < n) :
    Calls Try.prog 6 #[.slice A n c, .int .i64 v, .int .u8 y] w fun e w' => e = .returned (.bool true) ∧ Below w.heap.size w w' := by
  have d0 : decide ((40 : Int) < (n : Nat)) = true := by simp; omega
  have d1 : decide (40 < n) = true := decide_eq_true hn
  go_enter Try.func6, Try.ntmps6
  go_wp2_with fail
  refine (awake9_any _).mono ?_
  rintro x w1 ⟨rfl, b1⟩
  have B1 := Lib.hid b1
  clear b1
  go_wp2
  go_ret
  exact ⟨rfl, B1.out⟩
set_option maxRecDepth 8000 in
set_option maxHeartbeats 2000000 in
theorem turned_short (A : Option Addr) (n c : Nat) (l : List Int) (v y : Int) (w : World) (hr : RdZ w w.heap.size A n l) (hnc : n ≤ c) (hc : c ≤ maxLen) (hx : ∀ x ∈ l, (Lit.int .i64 x).wf = true) (h1 : (Lit.int .i64 v).wf = true) (h2 : 0 ≤ y ∧ y < 256) (hn : ¬ 40 < n) :
    Calls Try.prog 6 #[.slice A n c, .int .i64 v, .int .u8 y] w fun e w' => e = .returned (.bool true) ∧ Below w.heap.size w w' := by
  have d0 : decide ((40 : Int) < (n : Nat)) = false := by simp; omega
  have d1 : decide (40 < n) = false := decide_eq_false hn
  have M0 := made_any A n c l ⟨#[107]⟩ w hr hnc hc hx (by decide)
  obtain ⟨y8, hy8⟩ : ∃ y8 : UInt8, (y8.toNat : Int) = y := ⟨UInt8.ofNat y.toNat, by rw [UInt8.toNat_ofNat', Nat.mod_eq_of_lt (by omega)]; omega⟩
  have HM0 := Lib.hid M0; have V1 := Lib.hid h1; have HY8 := Lib.hid hy8
  clear M0 hr hnc hc hx h1 h2 hy8 hn
  go_enter Try.func6, Try.ntmps6
  go_wp2_with fail
  refine HM0.out.mono ?_
  rintro e w1 ⟨g, M, A1, c1, rfl, hpi, hrows, b1⟩
  have hok := hpi.ok
  have N1 := pack_part ⟨#[107]⟩ g A1 M.length c1 w1.heap.size M w1 hrows.lies (Nat.le_refl _) (by have := hpi.mlen; omega) hpi.few
  rw [putPart_ok hok] at N1
  have hp4 := pE_len4 ⟨⟨#[107]⟩, g, ros M⟩ (show 1 ≤ (⟨#[107]⟩ : ByteArray).size by decide)
  have hpl := pa_len hok
  have hput := putPart_ok hok
  obtain ⟨P, hP⟩ : ∃ P, pE ⟨⟨#[107]⟩, g, ros M⟩ = P := ⟨_, rfl⟩
  rw [hP] at N1 hp4 hpl hput
  have HN1 := Lib.hid N1; have HP4 := Lib.hid hp4; have HPL := Lib.hid hpl; have B1 := Lib.hid b1
  clear hok N1 hp4 hpl hput hP hpi hrows b1
  go_wp2_with fail
  refine HN1.out.mono ?_
  rintro e w2 ⟨A2, n2, c2, rfl, hl2, g1, g2, g3, ho2, b2⟩
  have hn4 : 4 ≤ n2 := by have := HP4.out; omega
  obtain ⟨gb, cap, hform, hgb, hgw⟩ := ho2.form (by omega)
  injection hform with e1 e2 e3
  subst e1
  subst e3
  have B2 := Lib.hid (next B1.out b2)
  have hn26 : n2 ≤ 250000 := by have := HPL.out; omega
  have d4 : decide ((n2 : Int) < 4) = false := by simp; omega
  have d5 : decide (n2 < 4) = false := by simp; omega
  have HO2 := Lib.hid ho2; have HN4 := Lib.hid hn4; have HN26 := Lib.hid hn26; have HL2 := Lib.hid hl2; have HG1 := Lib.hid g1; have HG2 := Lib.hid g2; have HGB := Lib.hid (show w.heap.size ≤ gb by have := B1.out.size; omega); have HGW := Lib.hid hgw
  clear ho2 hn4 hn26 hl2 g1 g2 g3 b2 hgb hgw
  go_wp2_with fail
  refine (place_any v (n2 : Int) _ (by have := HN4.out; omega) (by have := HN26.out; omega) (bounds_i64 V1.out)).mono ?_
  rintro x w4 ⟨rfl, rfl⟩
  obtain ⟨i, hi, hin⟩ : ∃ i : Nat, v % (n2 : Int) = i ∧ i < n2 := ⟨(v % (n2 : Int)).toNat, by rw [Int.toNat_of_nonneg (Int.emod_nonneg _ (by have := HN4.out; omega))], by have h1 := Int.emod_nonneg v (show (n2 : Int) ≠ 0 by have := HN4.out; omega); have h2 := Int.emod_lt_of_pos v (show (0 : Int) < n2 by have := HN4.out; omega); omega⟩
  rw [hi]
  have i0 : (0 : Int) ≤ i := by omega
  have i1 : (i : Int) < n2 := by omega
  have hil : i < P.length := by have := HL2.out; omega
  obtain ⟨b0, hb0⟩ : ∃ b0, P[i] = b0 := ⟨_, rfl⟩
  have hcell := HO2.out.cells (g := gb) rfl i (.int .u8 (b0.toNat : Nat)) (by unfold Lib.byteCells; simp [hil, hb0])
  rw [Addr.add_lit, Nat.zero_add] at hcell
  have hfz := HO2.out.frozenAt i
  have hxor : bits BinOp.xor IntKind.u8 (b0.toNat : Int) y = ((b0 ^^^ y8).toNat : Nat) := by rw [← HY8.out]; exact xor_u8_nat b0 y8
  have hst := (HO2.out.stored i (.int .u8 ((b0 ^^^ y8).toNat : Nat))).1
  rw [byteCells_set] at hst
  obtain ⟨Z, hZ⟩ : ∃ Z, P.set i (b0 ^^^ y8) = Z := ⟨_, rfl⟩
  rw [hZ] at hst
  have hzl : Z.length = n2 := by rw [← hZ, List.length_set]; exact HL2.out
  obtain ⟨z8, hz8⟩ : ∃ z8 : Int, (((b0 ^^^ y8).toNat : Nat) : Int) = z8 := ⟨_, rfl⟩
  rw [hz8] at hxor hst
  have hb5 : Below w.heap.size w (w2.setCell ⟨gb, i, none⟩ (.int .u8 z8)) := B2.out.setCell (p := ⟨gb, i, none⟩) HGB.out _
  have HST := Lib.hid hst; have HZL := Lib.hid hzl; have HB5 := Lib.hid hb5
  clear hst hZ hzl hz8 hb5 hi hin hil hb0
  go_wp2_with (at_builtin; refine list_ex rfl (.const (.slice none 0 0)) (.tmp 45) _ _ rfl (.slice none 0 0) (.slice (some ⟨gb, 0, none⟩) n2 c2) rfl rfl (run_appB_at (w2.setCell ⟨gb, i, none⟩ (.int .u8 z8)).heap.size (own_nilY (w2.setCell ⟨gb, i, none⟩ (.int .u8 z8)) _) c2 (Rd.of_own1 HST.out) ?s1 ?s2) ?_)
  case s1 => have := HN26.out; simp; omega
  case s2 => exact Nat.le_refl _
  intro v3 w3 h3 hg hloc
  have hb3 : Below (w2.setCell ⟨gb, i, none⟩ (.int .u8 z8)).heap.size (w2.setCell ⟨gb, i, none⟩ (.int .u8 z8)) w3 := (Below.refl _ _).grown hg (Nat.le_refl _) (fun g hg => by cases hg)
  have hst3 := own_below HST.out hb3
  have B3 := Lib.hid (next HB5.out hb3)
  try rw [Nat.zero_add] at h3
  try rw [List.nil_append] at h3
  obtain ⟨A3, c3, rfl, g4, g5, g6⟩ := own_slice h3
  have hrd3 := Rd.of_own1 h3
  have N3 := getPart_any A3 n2 c3 w3.heap.size Z w3 hrd3 (Nat.le_refl _) g4 g5 g6
  have HN3 := Lib.hid N3; have HST3 := Lib.hid hst3
  clear h3 hg hloc hb3 hst3 g4 g5 g6 hrd3 N3 HST HB5 hcell hfz hxor
  generalize w2.setCell ⟨gb, i, none⟩ (.int .u8 z8) = W5 at *
  go_wp2_with fail
  refine HN3.out.mono ?_
  intro e w4 hg4
  cases hR : getPart Z with
  | error ec =>
    rw [hR] at hg4
    obtain ⟨rfl, b4⟩ := hg4
    have hw := part_codec.wrong (ok := Pa.ok) (b := Z) (by have := HZL.out; have := HN26.out; omega) hR
    have B4 := Lib.hid (next B3.out b4)
    have B5 := Lib.hid (next B4.out ((Below.refl w4.heap.size w4).alloc (Nat.le_refl _) (.cells #[.string ⟨#[]⟩, .int .i64 0, .slice none 0 0] 24)))
    clear hR b4
    rcases hw with rfl | rfl | rfl
    all_goals
      go_wp2_with fail
      refine (awake9_any _).mono ?_
      rintro e w6 ⟨rfl, b6⟩
      have B6 := Lib.hid (next B5.out b6)
      clear b6
      go_wp2
      go_ret
      exact ⟨rfl, B6.out⟩
  | ok p =>
    rw [hR] at hg4
    obtain ⟨⟨zk, zg, zL, zA, zc⟩, hp, rfl, hrows, b4⟩ := hg4
    dsimp only at hp hrows
    have hsame := part_codec.same (ok := Pa.ok) hR
    rw [← hp] at hsame
    obtain ⟨hput, hgd⟩ := hsame
    have hEZ : pE ⟨zk, zg, ros zL⟩ = Z := by
      have := put_ok hput
      exact this.2.2.symm
    have hlen : (pE ⟨zk, zg, ros zL⟩).length ≤ n2 := by rw [hEZ]; exact Nat.le_of_eq HZL.out
    have hfew : FewR zL := few_of_sizes hgd (N := n2) (by have := HN26.out; omega) hlen rfl
    have hzl2 : zL.length ≤ 900000 := by
      have h4 := (pa_sizes hgd (N := n2) hlen).2.1
      dsimp only at h4
      rw [List.length_map] at h4
      have := HN26.out
      omega
    have ba := (Below.refl w4.heap.size w4).alloc (Nat.le_refl _) (.cells #[.string zk, .int .i64 zg, .slice zA zL.length zc] 24)
    have hzz := heap_alloc_new w4 (.cells #[.string zk, .int .i64 zg, .slice zA zL.length zc] 24)
    have B4 := Lib.hid (next B3.out b4)
    have hrow5 := hrows.on ba
    have hst5 := own_below (own_below HST3.out b4) ba
    obtain ⟨U, hU⟩ : ∃ U, U = w4.alloc (.cells #[.string zk, .int .i64 zg, .slice zA zL.length zc] 24) := ⟨_, rfl⟩
    rw [← hU] at ba hzz hrow5 hst5
    have N5 := pack_part zk zg zA zL.length zc U.heap.size zL U hrow5.lies (Nat.le_refl _) (by omega) hfew
    have hput' : putPart ⟨zk, zg, ros zL⟩ = .ok Z := hput
    rw [hput'] at N5
    have HN5 := Lib.hid N5; have HST5 := Lib.hid hst5; have B5 := Lib.hid (next B4.out ba)
    have q0 := cell_at (i := 0) hzz rfl
    have q1 := cell_at (i := 1) hzz rfl
    have q2 := cell_at (i := 2) hzz rfl
    clear hR hp hrows b4 hput hgd hEZ hlen hfew hzl2 ba hzz hrow5 hst5 N5 hput'
    go_wp2_with fail
    rw [← hU]
    clear hU
    refine HN5.out.mono ?_
    rintro e w6 ⟨A6, n6, c6, rfl, _, _, _, _, ho6, b6⟩
    have hcv1 := cv_string (Rd.of_own1 ho6) c6
    have hcv2 := cv_string (Rd.of_own1 (own_below HST5.out b6)) c2
    obtain ⟨T, hT⟩ : ∃ T : ByteArray, (⟨Z.toArray⟩ : ByteArray) = T := ⟨_, rfl⟩
    rw [hT] at hcv1 hcv2
    have B6 := Lib.hid (next B5.out b6)
    clear ho6 b6 hT q0 q1 q2
    go_wp2_with fail
    refine (awake9_any _).mono ?_
    rintro e w7 ⟨rfl, b7⟩
    have B7 := Lib.hid (next B6.out b7)
    clear b7 hcv1 hcv2
    go_wp2
    go_ret
    exact ⟨rfl, B7.out⟩
theorem turned_law (A : Option Addr) (n c : Nat) (l : List Int) (v y : Int) (w : World) (hr : RdZ w w.heap.size A n l) (hnc : n ≤ c) (hc : c ≤ maxLen) (hx : ∀ x ∈ l, (Lit.int .i64 x).wf = true) (h1 : (Lit.int .i64 v).wf = true) (h2 : (Lit.int .u8 y).wf = true) :
    Calls Try.prog 6 #[.slice A n c, .int .i64 v, .int .u8 y] w fun e w' => e = .returned (.bool true) ∧ Below w.heap.size w w' := by
  by_cases h : 40 < n
  · exact turned_long A n c v y w h
  · refine turned_short A n c l v y w hr hnc hc hx h1 ?_ h
    have := bounds_u8 h2
    omega
end Go.Proofs.Ytbfkbfbcaileoaa
set_option linter.unusedVariables false
namespace Go.Proofs.Ytbfkbfbcaileoaa
open Go Go.ChangeShapes Go.WideShapes Go.ChangeAt Go.RowKit

theorem trod_lt1 {H : Type} {enc : TypeId × Value → H} {P : Program} {w : World} {base : Nat} {sp : Nat → Bool} {held : Bool} {t : TypeId} {v : Value} {d : DataW H} {ps : List MemPlace} (h : DataW.Trod enc P w base sp held t v d ps) : ∀ p ∈ ps, p.block < w.heap.size := by
  obtain ⟨f, hf⟩ := h
  exact DataW.trod_lt f t _ _ hf
end Go.Proofs.Ytbfkbfbcaileoaa
set_option linter.unusedVariables false
namespace Go.Proofs.Ytbfkbfbcaileoaa
open Go Go.ChangeShapes Go.WideShapes Go.ChangeAt Go.RowKit Go.Joins

theorem cellsI : Try.prog.cellsOf 3 = 1 := by kernel_rfl
set_option maxRecDepth 8000 in
theorem open_rdz {H : Type} {enc : TypeId × Value → H} {W : World} {base : Nat} {v : Value} {d : DataW H} {p : List MemPlace} (hval : Value.okWide Try.prog W .any base 27 v) (h : DataW.Trod enc Try.prog W 0 (fun _ => true) true 27 v d p) :
    ∃ A n c l, v = .slice A n c ∧ RdZ W W.heap.size A n l ∧ n ≤ c ∧ c ≤ maxLen ∧ (∀ x ∈ l, (Lit.int .i64 x).wf = true) := by
  obtain ⟨a1, len, cap, rfl⟩ := okWide_slice Try.underlying27 hval
  obtain ⟨fuel, hf⟩ := h
  rcases open_ints Try.underlying27 Try.underlying3 cellsI hf with ⟨hcs, hx⟩ | ⟨a, len', cap', zs, hcs, _, hl, hm, hz, hx, hcell, hwz⟩
  · simp [Value.cells] at hcs
    obtain ⟨rfl, rfl, rfl⟩ := hcs
    exact ⟨none, 0, 0, [], rfl, ⟨rfl, fun h => absurd h (by omega)⟩, Nat.le_refl _, Nat.zero_le _, fun x hx => by cases hx⟩
  · simp [Value.cells] at hcs
    obtain ⟨rfl, rfl, rfl⟩ := hcs
    simp only [if_true] at hz
    refine ⟨some a, len, cap, zs.take len, rfl, ⟨by simp; omega, fun hn => ?_⟩, hl, hm, fun x hx => ?_⟩
    · have h0 := hcell 0 (by omega)
      have hs : a.spot = none := by simpa [Addr.add] using World.cell?_spot h0
      obtain ⟨g, o, sp⟩ := a
      simp only at hs
      subst hs
      refine ⟨g, o, rfl, World.block_lt_of_cell? W ⟨g, o, none⟩ (by simpa [Addr.add] using h0), fun j hj => ?_⟩
      have hj2 : j < zs.length := by simp at hj; omega
      have e : zs.getD j 0 = zs[j] := by simp [List.getD, hj2]
      have := hcell j hj2
      rw [e] at this
      simp only [Addr.add_lit] at this
      rw [this, List.getElem_take]
    · exact hwz x (List.mem_of_mem_take hx)
end Go.Proofs.Ytbfkbfbcaileoaa
set_option linter.unusedVariables false
namespace Go.Proofs.Ytbfkbfbcaileoaa.lawPackTurned
open Go Go.ChangeShapes Go.WideShapes Go.ChangeAt Go.RowKit
open Go.ChangeMaps (open_string shut_string)

theorem own : ownKnob Try.prog.godebug = none := by kernel_rfl
theorem laidOut : laidOutB Try.prog = true := by kernel_rfl

set_option maxRecDepth 100000 in
theorem lifted (os : Os) (started : os.Started) (H : Type) (enc : TypeId × Value → H) :
    ReturnsInHanded {} Try.checked os 6 .any (Rows.packTurnedSpec.pre6 enc Try.prog Try.f6 Rows.packTurnedRow.domain false) (Rows.packTurnedSpec.post enc Try.prog Try.f6 false true false false) := by
  refine returnsInHanded_of_change (C := Try.checked) own started (by kernel_rfl) Try.func6
    (ChangeSpec.witness6 (enc := enc) (C := Try.checked) false ⟨#[], #[.slice none 0 0, .int .i64 0, .int .u8 0], []⟩ 8 (by kernel_rfl) (by kernel_rfl) (by kernel_rfl) (by kernel_rfl)) ?_
  intro W base args ds gs before hval0 hW hcnd _
  have hval : ∀ (j : Nat) t v, Try.f6.params[j]? = some t → args[j]? = some v → Value.okWide Try.prog W .any base t v := hval0
  have hW' := hW
  obtain ⟨p, q, hA0, hV, rfl, hfz, hnd⟩ := hW
  have hA : DataW.TrodAll enc Try.prog W 0 (fun _ => true) true Try.f6.params.toList args.toList ds p := hA0
  rw [Try.params6] at hA hval
  obtain ⟨v0, vs0, d0, ds0, p0, q0, hargs, rfl, rfl, h0, r0⟩ := trodAll_cons hA
  obtain ⟨v1, vs1, d1, ds1, p1, q1, rfl, rfl, rfl, h1, r1⟩ := trodAll_cons r0
  obtain ⟨v2, vs2, d2, ds2, p2, q2, rfl, rfl, rfl, h2, r2⟩ := trodAll_cons r1
  obtain ⟨rfl, rfl, rfl⟩ := trodAll_nil r2
  obtain rfl : args = #[v0, v1, v2] := by cases args; simp_all
  obtain ⟨rfl, rfl⟩ := trodVars_none hV
  have t0 := h0
  obtain ⟨A0, n0, c0, l0, rfl, wr0, wn0, wc0, ws0⟩ := open_rdz (hval 0 27 v0 rfl rfl) h0
  obtain ⟨a1, rfl, rfl, rfl, w1⟩ := open_int Try.underlying3 (hval 1 3 v1 rfl rfl) h1
  obtain ⟨a2, rfl, rfl, rfl, w2⟩ := open_int Try.underlying5 (hval 2 5 v2 rfl rfl) h2
  clear hA0 hval0
  refine (turned_law A0 n0 c0 l0 a1 a2 W wr0 wn0 wc0 ws0 w1 w2).mono fun e W' ⟨he, bel⟩ => ?_
  subst he
  exact ⟨_, rfl, _, _, _, [], _, [], hW', trodAll_mk1 (shut_bool Try.underlying4 _), (trodAll_cons_mk (Below.trod laidOut (by kernel_rfl) (of_decide_eq_true (by kernel_rfl)) t0 bel (trod_lt1 t0)) (trodAll_cons_mk (shut_int Try.underlying3 w1) (trodAll_cons_mk (shut_int Try.underlying5 w2) trodAll_mk0))), rfl, bel.frame _, fun h => by cases h⟩

theorem over : Rows.packTurnedRow.holds Try.pinned (OpenSpec.ofChange Rows.packTurnedSpec) :=
  OpenClaim.holds_of_wide 6 Try.f6 rfl rfl rfl rfl rfl rfl rfl ⟨rfl, rfl, rfl, rfl, rfl⟩ rfl rfl rfl rfl rfl (by kernel_rfl) Try.func6 (by kernel_rfl)
    (of_decide_eq_true (by kernel_rfl)) (by unfold Func.isWrapper; first | (rw [if_pos (by decide +kernel)]; kernel_rfl) | (rw [if_neg (by decide +kernel)]; exact ⟨rfl, rfl⟩))
    (fun os started H enc _ => lifted os started H enc)

theorem proved : Rows.PackTurnedSaid := over
end Go.Proofs.Ytbfkbfbcaileoaa.lawPackTurned
