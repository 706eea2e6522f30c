/-
  LexWords: the walk.
-/
import Derived.Test.YtdbdlgmejddbhaaDoorLxr
import Derived.Test.YtdbdlgmejddbhaaDoorPlc
import Derived.Test.YtdbdlgmejddbhaaDoorCeZ
set_option linter.unusedVariables false
namespace Go.Proofs.YtdbdlgmejddbhaaDoor
open Go Go.RowKit Go.Proofs

def lkOf (vs : List Nat) : List Int := vs.map fun v => ((1 + v % 4 : Nat) : Int)
def ltOf (vs : List Nat) : List ByteArray := vs.map fun v => ⟨(itT v).toArray⟩
def lnOf (vs : List Nat) : List Int := vs.map itN
def laOf (vs : List Nat) : List Int := (itsL 0 vs).map fun t => ((t.2.2.2 : Nat) : Int)
theorem laOf_snoc (vs : List Nat) (v : Nat) : laOf (vs ++ [v]) = laOf vs ++ [((itsB vs).length : Int)] := by
  unfold laOf
  rw [itsL_snoc]
  simp
theorem its_k : ∀ (l : List Nat) (n : Nat), (itsL n l).map (fun t => ((t.1 : Nat) : Int)) = lkOf l
  | [], n => rfl
  | v :: l, n => by
    have := its_k l (n + (itB v).length)
    unfold lkOf at *
    simp only [itsL, List.map_cons, this]
theorem its_t : ∀ (l : List Nat) (n : Nat), (itsL n l).map (fun t => (⟨t.2.1.toArray⟩ : ByteArray)) = ltOf l
  | [], n => rfl
  | v :: l, n => by
    have := its_t l (n + (itB v).length)
    unfold ltOf at *
    simp only [itsL, List.map_cons, this]
theorem its_n : ∀ (l : List Nat) (n : Nat), (itsL n l).map (fun t => t.2.2.1) = lnOf l
  | [], n => rfl
  | v :: l, n => by
    have := its_n l (n + (itB v).length)
    unfold lnOf at *
    simp only [itsL, List.map_cons, this]
theorem its_get {vs : List Nat} {j : Nat} {t : Tk4} (h : (itsL 0 vs)[j]? = some t) :
    (iRow (lkOf vs))[j]? = some (.int .i64 (t.1 : Nat)) ∧ (strRow (ltOf vs))[j]? = some (.string ⟨t.2.1.toArray⟩) ∧ (iRow (lnOf vs))[j]? = some (.int .i64 t.2.2.1) ∧ (iRow (laOf vs))[j]? = some (.int .i64 (t.2.2.2 : Nat)) := by
  unfold iRow strRow
  rw [← its_k vs 0, ← its_t vs 0, ← its_n vs 0, laOf]
  simp [h]

set_option maxRecDepth 100000 in
theorem idx4 (a b c d R : ByteArray) (p : Nat) (hR : (match p / 4 % 4 with | 0 => a | 1 => b | 2 => c | _ => d) = R) (wx : World) :
    (Instr.index 34 (.agg #[.string a, .string b, .string c, .string d]) (.int .i64 ((p : Int) / 4 % 4))).run Tryd.prog wx = .ok (.string R) wx := by
  have hq : (p : Int) / 4 % 4 = ((p / 4 % 4 : Nat) : Int) := by omega
  rw [hq]
  have h4 : p / 4 % 4 < 4 := Nat.mod_lt _ (by omega)
  generalize p / 4 % 4 = q at *
  match q, h4 with
  | 0, _ => subst hR; go_simp; rfl
  | 1, _ => subst hR; go_simp; rfl
  | 2, _ => subst hR; go_simp; rfl
  | 3, _ => subst hR; go_simp; rfl
set_option maxRecDepth 100000 in
theorem idx3 (a b c R : ByteArray) (p : Nat) (hR : (match p / 100 % 3 with | 0 => a | 1 => b | _ => c) = R) (wx : World) :
    (Instr.index 41 (.agg #[.string a, .string b, .string c]) (.int .i64 ((p : Int) / 100 % 3))).run Tryd.prog wx = .ok (.string R) wx := by
  have hq : (p : Int) / 100 % 3 = ((p / 100 % 3 : Nat) : Int) := by omega
  rw [hq]
  have h4 : p / 100 % 3 < 3 := Nat.mod_lt _ (by omega)
  generalize p / 100 % 3 = q at *
  match q, h4 with
  | 0, _ => subst hR; go_simp; rfl
  | 1, _ => subst hR; go_simp; rfl
  | 2, _ => subst hR; go_simp; rfl
theorem laOf_length (vs : List Nat) : (laOf vs).length = vs.length := by simp [laOf, itsL_length]

set_option maxHeartbeats 4000000 in
set_option maxRecDepth 100000 in
theorem lxwords_law (A : Option Addr) (n c : Nat) (l : List Int) (w : World) (h : RdZ w w.heap.size A n l) (hn : n ≤ c) (hc : c ≤ maxLen) (hwf : ∀ x ∈ l, (Lit.int .i64 x).wf = true) (hE : Two w) :
    Calls Tryd.prog 6 #[.slice A n c] w fun e w' => e = .returned (.bool true) ∧ Below w.heap.size w w' := by
  have HE := Lib.hid hE
  have HR := Lib.hid h
  have HWF := Lib.hid hwf
  have HL := Lib.hid h.1
  unfold maxLen at hc
  clear h hwf hE
  go_enter Tryd.func6, Tryd.ntmps6
  go_wp2_with fail
  go_loopw [3, 4, 5, 6, 7, 8] (fun ss kk aa nn tt ii wr => ∃ (vs : List Nat) (S : ByteArray) (K T N P : Value), ss = .string S ∧ K = kk ∧ P = aa ∧ N = nn ∧ T = tt ∧ ii = .int .i64 (vs.length : Nat) ∧ vs.length ≤ n ∧ vs.length ≤ 40 ∧ S.data.toList = itsB vs ∧
      Fo w.heap.size wr K T N P (lkOf vs) (ltOf vs) (lnOf vs) (laOf vs) ∧ Below w.heap.size w wr) (fun _ _ _ _ _ ii _ => n - (intOf ii).toNat)
  case atStart =>
    refine ⟨[], ⟨#[]⟩, _, _, _, _, rfl, rfl, rfl, rfl, rfl, rfl, Nat.zero_le _, Nat.zero_le _, rfl, ⟨⟨rfl, .inl ⟨rfl, rfl⟩⟩, ⟨rfl, .inl ⟨rfl, rfl⟩⟩, ⟨rfl, .inl ⟨rfl, rfl⟩⟩, ⟨rfl, .inl ⟨rfl, rfl⟩⟩, .inl rfl, .inl rfl, .inl rfl⟩, Below.refl _ _⟩
  case round =>
    obtain ⟨vs, S, K, T, N, P, rfl, rfl, rfl, rfl, rfl, rfl, hi, h40, hS, hF, hb⟩ := hrel
    have hSs : S.size ≤ 320 := by
      have := itsB_len vs
      rw [← hS, ← Lib.size_eq] at this
      omega
    have HS := Lib.hid hS
    have HF := Lib.hid hF
    have HB := Lib.hid hb
    have hwz := hb.size
    obtain ⟨i, hie⟩ : ∃ i, i = vs.length := ⟨_, rfl⟩
    rw [← hie] at hi h40 ⊢
    have HI := Lib.hid hie
    clear hS hF hb hie
    by_cases hlt : i < n ∧ i < 40
    · obtain ⟨h1, h2⟩ := hlt
      have h1i : (i : Int) < (n : Int) := by omega
      have h2i : (i : Int) < 40 := by omega
      obtain ⟨g, o, rfl, hg, hcell⟩ := HR.out.2 (by omega)
      have hil : i < l.length := by rw [HL.out]; exact h1
      have hc0 := (HB.out.cell (p := ⟨g, o + i, none⟩) hg).trans (hcell i hil)
      have hx := bounds_i64 (HWF.out l[i] (List.getElem_mem _))
      obtain ⟨p, hp⟩ : ∃ p : Nat, l[i] % 1048576 = p := ⟨(l[i] % 1048576).toNat, by omega⟩
      have hp2 : p < 1048576 := by omega
      generalize l[i] = x at *
      have HP := Lib.hid hp
      have i0 : (0 : Int) ≤ (i : Int) := by omega
      have hd0 : decide ((n : Int) ≤ (i : Int)) = false := by simp; omega
      clear hcell hp
      go_wp2_with fail
      refine (place_any x 1048576 _ (by omega) (by omega) hx).mono ?_
      rintro e w1 ⟨rfl, rfl⟩
      rw [HP.out]
      go_wp2_with (at_builtin; refine list_ex rfl (.tmp 33) (.tmp 36) _ _ rfl P (.slice (some ⟨wr.heap.size, 0, none⟩) 1 1) rfl rfl (Fo.appA (w := wr.alloc _) (HF.out.below ((Below.refl _ _).alloc (Nat.le_refl _) _)) ((S.size : Nat) : Int) (cell_at (i := 0) (heap_alloc_new wr _) rfl) ?l1 ?b1) ?_)
      case l1 => rw [laOf_length, ← HI.out]; omega
      case b1 => simp; omega
      intro P2 w2 F2 b2
      have hb2 : Below w.heap.size w w2 := HB.out.trans (((Below.refl _ _).alloc hwz _).trans b2)
      rw [show laOf vs ++ [((S.size : Nat) : Int)] = laOf (vs ++ [p]) from by rw [laOf_snoc, ← HS.out, Lib.size_eq]] at F2
      have HF2 := Lib.hid F2
      have HB2 := Lib.hid hb2
      have hw2z := hb2.size
      clear F2 b2 hb2 hc0
      obtain ⟨SP, hSP⟩ : ∃ SP : ByteArray, SP = ⟨(spW (p / 100 % 3)).toArray⟩ := ⟨_, rfl⟩
      have hsx := idx3 ⟨#[32]⟩ ⟨#[10]⟩ ⟨#[32, 9]⟩ SP p (by
        rw [hSP]
        have h3 : p / 100 % 3 < 3 := Nat.mod_lt _ (by omega)
        generalize p / 100 % 3 = q at *
        match q, h3 with
        | 0, _ => rfl
        | 1, _ => rfl
        | 2, _ => rfl)
      have hSPs : SP.size ≤ 2 := by
        have a4 : ∀ j : Fin 3, (spW j.val).length ≤ 2 := by decide
        have := a4 ⟨p / 100 % 3, Nat.mod_lt _ (by omega)⟩
        rw [hSP]
        show (spW (p / 100 % 3)).toArray.size ≤ 2
        rw [List.size_toArray]
        exact this
      have HSP := Lib.hid (show SP.data.toList = spW (p / 100 % 3) from by rw [hSP])
      obtain ⟨WW, hWW⟩ : ∃ WW : ByteArray, WW = ⟨(itW p).toArray⟩ := ⟨_, rfl⟩
      have HWW := Lib.hid (show WW.data.toList = itW p from by rw [hWW])
      have hWWs : WW.size ≤ 8 := by
        have := itB_len p
        rw [itB, List.length_append] at this
        rw [hWW]
        show (itW p).toArray.size ≤ 8
        rw [List.size_toArray]
        omega
      obtain ⟨TT, hTT⟩ : ∃ TT : ByteArray, TT = ⟨(itT p).toArray⟩ := ⟨_, rfl⟩
      have HTT := Lib.hid hTT
      clear hSP
      have h4 : p % 4 = 0 ∨ p % 4 = 1 ∨ p % 4 = 2 ∨ p % 4 = 3 := by omega
      rcases h4 with h4 | h4 | h4 | h4
      · -- kind 1
        have e1 : (1 + (p : Int) % 4 == 1) = true := by
          rw [show (p : Int) % 4 = 0 from by omega]; rfl
        have e2 : (1 + (p : Int) % 4 == 2) = false := by
          rw [show (p : Int) % 4 = 0 from by omega]; rfl
        have e3 : (1 + (p : Int) % 4 == 3) = false := by
          rw [show (p : Int) % 4 = 0 from by omega]; rfl
        have hW4 := idx4 ⟨#[97]⟩ ⟨#[83, 101, 108, 101, 99, 116]⟩ ⟨#[95, 57, 120]⟩ ⟨#[84, 84]⟩ WW p (by
          rw [hWW]
          unfold itW
          simp only [h4]
          have h3 : p / 4 % 4 < 4 := Nat.mod_lt _ (by omega)
          generalize p / 4 % 4 = q at *
          match q, h3 with
          | 0, _ => rfl
          | 1, _ => rfl
          | 2, _ => rfl
          | 3, _ => rfl)
        have hT4 := idx4 ⟨#[97]⟩ ⟨#[115, 101, 108, 101, 99, 116]⟩ ⟨#[95, 57, 120]⟩ ⟨#[116, 116]⟩ TT p (by
          rw [hTT]
          unfold itT
          simp only [h4]
          have h3 : p / 4 % 4 < 4 := Nat.mod_lt _ (by omega)
          generalize p / 4 % 4 = q at *
          match q, h3 with
          | 0, _ => rfl
          | 1, _ => rfl
          | 2, _ => rfl
          | 3, _ => rfl)
        have HNN := Lib.hid (show (0 : Int) = itN p from by unfold itN; rw [if_neg (by omega)])
        have HFt := HF2
        have HBt := HB2
        clear hWW hTT h4
        have hw4z := HBt.out.size
        go_wp2_with (at_builtin; refine list_ex rfl (.tmp 83) (.tmp 85) _ _ rfl K (.slice (some ⟨w2.heap.size, 0, none⟩) 1 1) rfl rfl (Fo.appK (w := w2.alloc _) (HFt.out.below ((Below.refl _ _).alloc (Nat.le_refl _) _)) (1 + (p : Int) % 4) (cell_at (i := 0) (heap_alloc_new w2 _) rfl) ?l1 ?b1) ?_)
        case l1 => rw [lkOf, List.length_map, ← HI.out]; omega
        case b1 => simp; omega
        intro K4 w4 F4 b4
        have hb4 : Below w.heap.size w w4 := HBt.out.trans (((Below.refl _ _).alloc hw4z _).trans b4)
        have HF4 := Lib.hid F4
        have HB4 := Lib.hid hb4
        have hw5z := hb4.size
        clear F4 b4 hb4
        go_wp2_with (at_builtin; refine list_ex rfl (.tmp 87) (.tmp 89) _ _ rfl T (.slice (some ⟨w4.heap.size, 0, none⟩) 1 1) rfl rfl (Fo.appT (w := w4.alloc _) (HF4.out.below ((Below.refl _ _).alloc (Nat.le_refl _) _)) TT (cell_at (i := 0) (heap_alloc_new w4 _) rfl) ?l1 ?b1) ?_)
        case l1 => rw [ltOf, List.length_map, ← HI.out]; omega
        case b1 => simp; omega
        intro T4 w5 F5 b5
        have hb5 : Below w.heap.size w w5 := HB4.out.trans (((Below.refl _ _).alloc hw5z _).trans b5)
        have HF5 := Lib.hid F5
        have HB5 := Lib.hid hb5
        have hw6z := hb5.size
        clear F5 b5 hb5
        go_wp2_with (at_builtin; refine list_ex rfl (.tmp 91) (.tmp 93) _ _ rfl N (.slice (some ⟨w5.heap.size, 0, none⟩) 1 1) rfl rfl (Fo.appN (w := w5.alloc _) (HF5.out.below ((Below.refl _ _).alloc (Nat.le_refl _) _)) (0 : Int) (cell_at (i := 0) (heap_alloc_new w5 _) rfl) ?l1 ?b1) ?_)
        case l1 => rw [lnOf, List.length_map, ← HI.out]; omega
        case b1 => simp; omega
        intro N4 w6 F6 b6
        have hb6 : Below w.heap.size w w6 := HB5.out.trans (((Below.refl _ _).alloc hw6z _).trans b6)
        rw [show lkOf vs ++ [1 + (p : Int) % 4] = lkOf (vs ++ [p]) from by simp [lkOf], show ltOf vs ++ [TT] = ltOf (vs ++ [p]) from by rw [HTT.out]; simp [ltOf], show lnOf vs ++ [(0 : Int)] = lnOf (vs ++ [p]) from by rw [HNN.out]; simp [lnOf]] at F6
        have HF6 := Lib.hid F6
        have HB6 := Lib.hid hb6
        clear F6 b6 hb6
        go_wp2_with fail
        refine ⟨⟨vs ++ [p], _, K4, T4, N4, P2, rfl, rfl, rfl, rfl, rfl, ?_, ?_, ?_, ?_, HF6.out, HB6.out⟩, ?_⟩
        · have := HI.out
          rw [List.length_append, List.length_singleton, ← this]
          exact congrArg _ (by omega)
        · have := HI.out
          rw [List.length_append, List.length_singleton, ← this]
          omega
        · have := HI.out
          rw [List.length_append, List.length_singleton, ← this]
          omega
        · rw [itsB_snoc, ← HS.out, itB, ← HWW.out, ← HSP.out]
          simp
        · simp [intOf]
          omega
      · -- a number
        have e1 : (1 + (p : Int) % 4 == 1) = false := by
          rw [show (p : Int) % 4 = 1 from by omega]; rfl
        have e2 : (1 + (p : Int) % 4 == 2) = true := by
          rw [show (p : Int) % 4 = 1 from by omega]; rfl
        have e3 : (1 + (p : Int) % 4 == 3) = false := by
          rw [show (p : Int) % 4 = 1 from by omega]; rfl
        have hit := fun w => itoa_any (p / 4 % 100) w (Nat.mod_lt _ (by omega))
        rw [show (nuW (p / 4 % 100)) = itW p from by unfold itW; rw [if_neg (by omega), if_pos h4], ← hWW] at hit
        rw [show ((p / 4 % 100 : Nat) : Int) = (p : Int) / 4 % 100 from by omega] at hit
        have hT0 : TT = ⟨#[]⟩ := by rw [hTT, itT, if_neg (by omega), if_pos h4]
        have HIT := Lib.hid hit
        have HNN := Lib.hid (show (p : Int) / 4 % 100 - 50 = itN p from by unfold itN; rw [if_pos h4]; omega)
        clear hWW hTT h4 hit
        subst hT0
        go_wp2_with fail
        refine (HIT.out _).mono ?_
        rintro e w3 ⟨rfl, b3⟩
        have HFt := Lib.hid (HF2.out.below b3)
        have HBt := Lib.hid (HB2.out.trans (b3.mono HB2.out.size))
        clear b3
        obtain ⟨TT, hTT⟩ : ∃ TT : ByteArray, TT = ⟨#[]⟩ := ⟨_, rfl⟩
        rw [← hTT] at HTT ⊢
        clear hTT
        have hw4z := HBt.out.size
        go_wp2_with (at_builtin; refine list_ex rfl (.tmp 83) (.tmp 85) _ _ rfl K (.slice (some ⟨w3.heap.size, 0, none⟩) 1 1) rfl rfl (Fo.appK (w := w3.alloc _) (HFt.out.below ((Below.refl _ _).alloc (Nat.le_refl _) _)) (1 + (p : Int) % 4) (cell_at (i := 0) (heap_alloc_new w3 _) rfl) ?l1 ?b1) ?_)
        case l1 => rw [lkOf, List.length_map, ← HI.out]; omega
        case b1 => simp; omega
        intro K4 w4 F4 b4
        have hb4 : Below w.heap.size w w4 := HBt.out.trans (((Below.refl _ _).alloc hw4z _).trans b4)
        have HF4 := Lib.hid F4
        have HB4 := Lib.hid hb4
        have hw5z := hb4.size
        clear F4 b4 hb4
        go_wp2_with (at_builtin; refine list_ex rfl (.tmp 87) (.tmp 89) _ _ rfl T (.slice (some ⟨w4.heap.size, 0, none⟩) 1 1) rfl rfl (Fo.appT (w := w4.alloc _) (HF4.out.below ((Below.refl _ _).alloc (Nat.le_refl _) _)) TT (cell_at (i := 0) (heap_alloc_new w4 _) rfl) ?l1 ?b1) ?_)
        case l1 => rw [ltOf, List.length_map, ← HI.out]; omega
        case b1 => simp; omega
        intro T4 w5 F5 b5
        have hb5 : Below w.heap.size w w5 := HB4.out.trans (((Below.refl _ _).alloc hw5z _).trans b5)
        have HF5 := Lib.hid F5
        have HB5 := Lib.hid hb5
        have hw6z := hb5.size
        clear F5 b5 hb5
        go_wp2_with (at_builtin; refine list_ex rfl (.tmp 91) (.tmp 93) _ _ rfl N (.slice (some ⟨w5.heap.size, 0, none⟩) 1 1) rfl rfl (Fo.appN (w := w5.alloc _) (HF5.out.below ((Below.refl _ _).alloc (Nat.le_refl _) _)) ((p : Int) / 4 % 100 - 50) (cell_at (i := 0) (heap_alloc_new w5 _) rfl) ?l1 ?b1) ?_)
        case l1 => rw [lnOf, List.length_map, ← HI.out]; omega
        case b1 => simp; omega
        intro N4 w6 F6 b6
        have hb6 : Below w.heap.size w w6 := HB5.out.trans (((Below.refl _ _).alloc hw6z _).trans b6)
        rw [show lkOf vs ++ [1 + (p : Int) % 4] = lkOf (vs ++ [p]) from by simp [lkOf], show ltOf vs ++ [TT] = ltOf (vs ++ [p]) from by rw [HTT.out]; simp [ltOf], show lnOf vs ++ [((p : Int) / 4 % 100 - 50)] = lnOf (vs ++ [p]) from by rw [HNN.out]; simp [lnOf]] at F6
        have HF6 := Lib.hid F6
        have HB6 := Lib.hid hb6
        clear F6 b6 hb6
        go_wp2_with fail
        refine ⟨⟨vs ++ [p], _, K4, T4, N4, P2, rfl, rfl, rfl, rfl, rfl, ?_, ?_, ?_, ?_, HF6.out, HB6.out⟩, ?_⟩
        · have := HI.out
          rw [List.length_append, List.length_singleton, ← this]
          exact congrArg _ (by omega)
        · have := HI.out
          rw [List.length_append, List.length_singleton, ← this]
          omega
        · have := HI.out
          rw [List.length_append, List.length_singleton, ← this]
          omega
        · rw [itsB_snoc, ← HS.out, itB, ← HWW.out, ← HSP.out]
          simp
        · simp [intOf]
          omega
      · -- kind 3
        have e1 : (1 + (p : Int) % 4 == 1) = false := by
          rw [show (p : Int) % 4 = 2 from by omega]; rfl
        have e2 : (1 + (p : Int) % 4 == 2) = false := by
          rw [show (p : Int) % 4 = 2 from by omega]; rfl
        have e3 : (1 + (p : Int) % 4 == 3) = true := by
          rw [show (p : Int) % 4 = 2 from by omega]; rfl
        have hW4 := idx4 ⟨#[39, 39]⟩ ⟨#[39, 97, 39, 39, 98, 39]⟩ ⟨#[39, 45, 45, 39]⟩ ⟨#[39, 65, 32, 98, 39]⟩ WW p (by
          rw [hWW]
          unfold itW
          simp only [h4]
          have h3 : p / 4 % 4 < 4 := Nat.mod_lt _ (by omega)
          generalize p / 4 % 4 = q at *
          match q, h3 with
          | 0, _ => rfl
          | 1, _ => rfl
          | 2, _ => rfl
          | 3, _ => rfl)
        have hT4 := idx4 ⟨#[]⟩ ⟨#[97, 39, 98]⟩ ⟨#[45, 45]⟩ ⟨#[65, 32, 98]⟩ TT p (by
          rw [hTT]
          unfold itT
          simp only [h4]
          have h3 : p / 4 % 4 < 4 := Nat.mod_lt _ (by omega)
          generalize p / 4 % 4 = q at *
          match q, h3 with
          | 0, _ => rfl
          | 1, _ => rfl
          | 2, _ => rfl
          | 3, _ => rfl)
        have HNN := Lib.hid (show (0 : Int) = itN p from by unfold itN; rw [if_neg (by omega)])
        have HFt := HF2
        have HBt := HB2
        clear hWW hTT h4
        have hw4z := HBt.out.size
        go_wp2_with (at_builtin; refine list_ex rfl (.tmp 83) (.tmp 85) _ _ rfl K (.slice (some ⟨w2.heap.size, 0, none⟩) 1 1) rfl rfl (Fo.appK (w := w2.alloc _) (HFt.out.below ((Below.refl _ _).alloc (Nat.le_refl _) _)) (1 + (p : Int) % 4) (cell_at (i := 0) (heap_alloc_new w2 _) rfl) ?l1 ?b1) ?_)
        case l1 => rw [lkOf, List.length_map, ← HI.out]; omega
        case b1 => simp; omega
        intro K4 w4 F4 b4
        have hb4 : Below w.heap.size w w4 := HBt.out.trans (((Below.refl _ _).alloc hw4z _).trans b4)
        have HF4 := Lib.hid F4
        have HB4 := Lib.hid hb4
        have hw5z := hb4.size
        clear F4 b4 hb4
        go_wp2_with (at_builtin; refine list_ex rfl (.tmp 87) (.tmp 89) _ _ rfl T (.slice (some ⟨w4.heap.size, 0, none⟩) 1 1) rfl rfl (Fo.appT (w := w4.alloc _) (HF4.out.below ((Below.refl _ _).alloc (Nat.le_refl _) _)) TT (cell_at (i := 0) (heap_alloc_new w4 _) rfl) ?l1 ?b1) ?_)
        case l1 => rw [ltOf, List.length_map, ← HI.out]; omega
        case b1 => simp; omega
        intro T4 w5 F5 b5
        have hb5 : Below w.heap.size w w5 := HB4.out.trans (((Below.refl _ _).alloc hw5z _).trans b5)
        have HF5 := Lib.hid F5
        have HB5 := Lib.hid hb5
        have hw6z := hb5.size
        clear F5 b5 hb5
        go_wp2_with (at_builtin; refine list_ex rfl (.tmp 91) (.tmp 93) _ _ rfl N (.slice (some ⟨w5.heap.size, 0, none⟩) 1 1) rfl rfl (Fo.appN (w := w5.alloc _) (HF5.out.below ((Below.refl _ _).alloc (Nat.le_refl _) _)) (0 : Int) (cell_at (i := 0) (heap_alloc_new w5 _) rfl) ?l1 ?b1) ?_)
        case l1 => rw [lnOf, List.length_map, ← HI.out]; omega
        case b1 => simp; omega
        intro N4 w6 F6 b6
        have hb6 : Below w.heap.size w w6 := HB5.out.trans (((Below.refl _ _).alloc hw6z _).trans b6)
        rw [show lkOf vs ++ [1 + (p : Int) % 4] = lkOf (vs ++ [p]) from by simp [lkOf], show ltOf vs ++ [TT] = ltOf (vs ++ [p]) from by rw [HTT.out]; simp [ltOf], show lnOf vs ++ [(0 : Int)] = lnOf (vs ++ [p]) from by rw [HNN.out]; simp [lnOf]] at F6
        have HF6 := Lib.hid F6
        have HB6 := Lib.hid hb6
        clear F6 b6 hb6
        go_wp2_with fail
        refine ⟨⟨vs ++ [p], _, K4, T4, N4, P2, rfl, rfl, rfl, rfl, rfl, ?_, ?_, ?_, ?_, HF6.out, HB6.out⟩, ?_⟩
        · have := HI.out
          rw [List.length_append, List.length_singleton, ← this]
          exact congrArg _ (by omega)
        · have := HI.out
          rw [List.length_append, List.length_singleton, ← this]
          omega
        · have := HI.out
          rw [List.length_append, List.length_singleton, ← this]
          omega
        · rw [itsB_snoc, ← HS.out, itB, ← HWW.out, ← HSP.out]
          simp
        · simp [intOf]
          omega
      · -- a sign
        have e1 : (1 + (p : Int) % 4 == 1) = false := by
          rw [show (p : Int) % 4 = 3 from by omega]; rfl
        have e2 : (1 + (p : Int) % 4 == 2) = false := by
          rw [show (p : Int) % 4 = 3 from by omega]; rfl
        have e3 : (1 + (p : Int) % 4 == 3) = false := by
          rw [show (p : Int) % 4 = 3 from by omega]; rfl
        have hq6 : p / 4 % 6 < 6 := Nat.mod_lt _ (by omega)
        have hT1 : TT = WW := by
          rw [hTT, hWW]
          congr 1
          unfold itT itW
          rw [if_neg (by omega), if_neg (by omega), if_neg (by omega), if_neg (by omega), if_neg (by omega), if_neg (by omega)]
        have hTx : ((⟨#[40, 41, 44, 59, 61, 42]⟩ : ByteArray).extract (p / 4 % 6) (p / 4 % 6 + 1)) = TT := by
          rw [hT1, hWW]
          refine ba_ext ?_
          rw [Lib.extract_data]
          unfold itW
          rw [if_neg (by omega), if_neg (by omega), if_neg (by omega)]
          generalize p / 4 % 6 = q at *
          match q, hq6 with
          | 0, _ => rfl
          | 1, _ => rfl
          | 2, _ => rfl
          | 3, _ => rfl
          | 4, _ => rfl
          | 5, _ => rfl
        have hsl : ∀ wx : World, (Instr.slice 9 (.string ⟨#[40, 41, 44, 59, 61, 42]⟩) (some (.int .i64 ((p : Int) / 4 % 6))) (some (.int .i64 ((p : Int) / 4 % 6 + 1))) none).run Tryd.prog wx = .ok (.string TT) wx := by
          intro wx
          have e6 : (p : Int) / 4 % 6 = ((p / 4 % 6 : Nat) : Int) := by omega
          rw [e6]
          generalize p / 4 % 6 = q at *
          rw [run_slice_string (P := Tryd.prog) wx 9 ⟨#[40, 41, 44, 59, 61, 42]⟩ .i64 .i64 q ((q : Int) + 1) Tryd.underlying9 (by omega) (by omega) (by show (q : Int) + 1 ≤ (6 : Nat); omega)]
          exact congrArg (fun s => Result.ok (Value.string s) wx) hTx
        have HNN := Lib.hid (show (0 : Int) = itN p from by unfold itN; rw [if_neg (by omega)])
        have HWW : Hid (TT.data.toList = itW p) := Lib.hid (by rw [hT1, hWW])
        have hTTs : TT.size ≤ 8 := by rw [hT1]; exact hWWs
        have HFt := HF2
        have HBt := HB2
        clear hWW hTT h4 hT1 hTx hWWs
        have hw4z := HBt.out.size
        go_wp2_with (at_builtin; refine list_ex rfl (.tmp 83) (.tmp 85) _ _ rfl K (.slice (some ⟨w2.heap.size, 0, none⟩) 1 1) rfl rfl (Fo.appK (w := w2.alloc _) (HFt.out.below ((Below.refl _ _).alloc (Nat.le_refl _) _)) (1 + (p : Int) % 4) (cell_at (i := 0) (heap_alloc_new w2 _) rfl) ?l1 ?b1) ?_)
        case l1 => rw [lkOf, List.length_map, ← HI.out]; omega
        case b1 => simp; omega
        intro K4 w4 F4 b4
        have hb4 : Below w.heap.size w w4 := HBt.out.trans (((Below.refl _ _).alloc hw4z _).trans b4)
        have HF4 := Lib.hid F4
        have HB4 := Lib.hid hb4
        have hw5z := hb4.size
        clear F4 b4 hb4
        go_wp2_with (at_builtin; refine list_ex rfl (.tmp 87) (.tmp 89) _ _ rfl T (.slice (some ⟨w4.heap.size, 0, none⟩) 1 1) rfl rfl (Fo.appT (w := w4.alloc _) (HF4.out.below ((Below.refl _ _).alloc (Nat.le_refl _) _)) TT (cell_at (i := 0) (heap_alloc_new w4 _) rfl) ?l1 ?b1) ?_)
        case l1 => rw [ltOf, List.length_map, ← HI.out]; omega
        case b1 => simp; omega
        intro T4 w5 F5 b5
        have hb5 : Below w.heap.size w w5 := HB4.out.trans (((Below.refl _ _).alloc hw5z _).trans b5)
        have HF5 := Lib.hid F5
        have HB5 := Lib.hid hb5
        have hw6z := hb5.size
        clear F5 b5 hb5
        go_wp2_with (at_builtin; refine list_ex rfl (.tmp 91) (.tmp 93) _ _ rfl N (.slice (some ⟨w5.heap.size, 0, none⟩) 1 1) rfl rfl (Fo.appN (w := w5.alloc _) (HF5.out.below ((Below.refl _ _).alloc (Nat.le_refl _) _)) (0 : Int) (cell_at (i := 0) (heap_alloc_new w5 _) rfl) ?l1 ?b1) ?_)
        case l1 => rw [lnOf, List.length_map, ← HI.out]; omega
        case b1 => simp; omega
        intro N4 w6 F6 b6
        have hb6 : Below w.heap.size w w6 := HB5.out.trans (((Below.refl _ _).alloc hw6z _).trans b6)
        rw [show lkOf vs ++ [1 + (p : Int) % 4] = lkOf (vs ++ [p]) from by simp [lkOf], show ltOf vs ++ [TT] = ltOf (vs ++ [p]) from by rw [HTT.out]; simp [ltOf], show lnOf vs ++ [(0 : Int)] = lnOf (vs ++ [p]) from by rw [HNN.out]; simp [lnOf]] at F6
        have HF6 := Lib.hid F6
        have HB6 := Lib.hid hb6
        clear F6 b6 hb6
        go_wp2_with fail
        refine ⟨⟨vs ++ [p], _, K4, T4, N4, P2, rfl, rfl, rfl, rfl, rfl, ?_, ?_, ?_, ?_, HF6.out, HB6.out⟩, ?_⟩
        · have := HI.out
          rw [List.length_append, List.length_singleton, ← this]
          exact congrArg _ (by omega)
        · have := HI.out
          rw [List.length_append, List.length_singleton, ← this]
          omega
        · have := HI.out
          rw [List.length_append, List.length_singleton, ← this]
          omega
        · rw [itsB_snoc, ← HS.out, itB, ← HWW.out, ← HSP.out]
          simp
        · simp [intOf]
          omega
    · have hlt2 : ¬ ((i : Int) < (n : Int) ∧ (i : Int) < 40) := by omega
      have hok := lx_its vs 0
      rw [← HS.out] at hok
      have hlen := itsL_length vs 0
      rw [← HI.out] at hlen
      obtain ⟨AK, cK, rfl, kk1, kk2, kk3⟩ := own_get HF.out.k
      obtain ⟨AT, cT, rfl, tt1, tt2, tt3⟩ := own_get HF.out.t
      obtain ⟨AN, cN, rfl, nn1, nn2, nn3⟩ := own_get HF.out.n
      obtain ⟨AP, cP, rfl, pp1, pp2, pp3⟩ := own_get HF.out.a
      have l1 : (lkOf vs).length = i := by rw [lkOf, List.length_map, ← HI.out]
      have l2 : (ltOf vs).length = i := by rw [ltOf, List.length_map, ← HI.out]
      have l3 : (lnOf vs).length = i := by rw [lnOf, List.length_map, ← HI.out]
      have l4 : (laOf vs).length = i := by rw [laOf_length, ← HI.out]
      rw [l1] at kk1 ⊢
      rw [l2] at tt1 ⊢
      rw [l3] at nn1 ⊢
      rw [l4] at pp1 ⊢
      have HKK := Lib.hid kk3
      have HTT := Lib.hid tt3
      have HNN := Lib.hid nn3
      have HPP := Lib.hid pp3
      have HOK := Lib.hid hok
      have HLEN := Lib.hid hlen
      have HEw := Lib.hid (HE.out.below HB.out)
      clear kk2 kk3 tt2 tt3 nn2 nn3 pp2 pp3 hok l1 l2 l3 l4 hlen
      have fin : i < n → ¬ (i : Int) < 40 := fun h h2 => hlt ⟨h, by omega⟩
      by_cases h1 : i < n
      · have h1i : (i : Int) < (n : Int) := by omega
        have h2i : ¬ (i : Int) < 40 := fin h1
        clear fin hlt hlt2
        go_wp2_with fail
        refine (lall_ok S _ (by omega) HEw.out HOK.out).mono ?_
        rintro e w2 ⟨AM, cM, rfl, m1, m2, h3, b2⟩
        rw [HLEN.out] at m1 ⊢
        have HM := Lib.hid h3
        have HB2 := Lib.hid b2
        have HE2 := Lib.hid (HEw.out.below b2)
        have hw2 := b2.size
        clear h3 b2 m2
        go_wp2_with fail
        go_loopw [17] (fun jj wq => ∃ j : Nat, jj = .int .i64 (j : Nat) ∧ j ≤ i ∧ Below w2.heap.size w2 wq) (fun jj _ => i - (intOf jj).toNat)
        case atStart => exact ⟨0, rfl, Nat.zero_le _, Below.refl _ _⟩
        case round =>
          obtain ⟨j, rfl, hji, bq⟩ := hrel
          by_cases hj : j < i
          · obtain ⟨t, ht⟩ : ∃ t, (itsL 0 vs)[j]? = some t := ⟨_, List.getElem?_eq_getElem (by rw [HLEN.out]; exact hj)⟩
            obtain ⟨q1, q2, q3, q4⟩ := its_get ht
            obtain ⟨g0, rfl, hg0, x0, x1, x2, x3⟩ := HM.out j t ht
            obtain ⟨g1, rfl, hg1, y0⟩ := HKK.out j _ q1
            obtain ⟨g2, rfl, hg2, y1⟩ := HTT.out j _ q2
            obtain ⟨g3, rfl, hg3, y2⟩ := HNN.out j _ q3
            obtain ⟨g4, rfl, hg4, y3⟩ := HPP.out j _ q4
            obtain ⟨a1, S1, N1, P1⟩ := t
            dsimp only at x0 x1 x2 x3 y0 y1 y2 y3
            generalize (⟨S1.toArray⟩ : ByteArray) = S9 at *
            have BB := HB2.out.trans (bq.mono hw2)
            have x0' := (bq.cell (p := ⟨g0, j * 4, none⟩) hg0).trans x0
            have x1' := (bq.cell (p := ⟨g0, j * 4 + 1, none⟩) hg0).trans x1
            have x2' := (bq.cell (p := ⟨g0, j * 4 + 2, none⟩) hg0).trans x2
            have x3' := (bq.cell (p := ⟨g0, j * 4 + 3, none⟩) hg0).trans x3
            have y0' := (BB.cell (p := ⟨g1, j, none⟩) hg1).trans y0
            have y1' := (BB.cell (p := ⟨g2, j, none⟩) hg2).trans y1
            have y2' := (BB.cell (p := ⟨g3, j, none⟩) hg3).trans y2
            have y3' := (BB.cell (p := ⟨g4, j, none⟩) hg4).trans y3
            have n1 : ((a1 : Int) != (a1 : Int)) = false := by simp
            have n2 : (S9.toList != S9.toList) = false := by simp
            have n3 : (N1 != N1) = false := by simp
            have n4 : ((P1 : Int) != (P1 : Int)) = false := by simp
            have hjj : (j : Int) < (i : Int) := by omega
            have i0 : (0 : Int) ≤ (j : Int) := by omega
            have hd : decide ((i : Int) ≤ (j : Int)) = false := by simp; omega
            have BQ := Lib.hid bq
            clear x0 x1 x2 x3 y0 y1 y2 y3 bq BB ht q1 q2 q3 q4
            go_wp2
            go_quiet (fail)
            go_wp2
            refine ⟨⟨j + 1, by go_num, by omega, BQ.out.trans ⟨rfl, rfl, rfl, Nat.le_refl _, fun _ _ => rfl⟩⟩, ?_⟩
            simp [intOf]
            omega
          · have hjj : ¬ (j : Int) < (i : Int) := by omega
            have HEq := Lib.hid (HE2.out.below bq)
            have BQ := Lib.hid bq
            clear bq
            go_wp2_with fail
            refine (awake13_any _ HEq.out).mono ?_
            rintro e w6 ⟨rfl, b6⟩
            have b7 := HB.out.trans ((HB2.out.trans ((BQ.out.trans (b6.mono BQ.out.size)).mono HB2.out.size)).mono HB.out.size)
            clear b6
            go_wp2
            go_ret
            exact ⟨rfl, b7⟩
      · have h1i : ¬ (i : Int) < (n : Int) := by omega
        clear fin hlt hlt2
        go_wp2_with fail
        refine (lall_ok S _ (by omega) HEw.out HOK.out).mono ?_
        rintro e w2 ⟨AM, cM, rfl, m1, m2, h3, b2⟩
        rw [HLEN.out] at m1 ⊢
        have HM := Lib.hid h3
        have HB2 := Lib.hid b2
        have HE2 := Lib.hid (HEw.out.below b2)
        have hw2 := b2.size
        clear h3 b2 m2
        go_wp2_with fail
        go_loopw [17] (fun jj wq => ∃ j : Nat, jj = .int .i64 (j : Nat) ∧ j ≤ i ∧ Below w2.heap.size w2 wq) (fun jj _ => i - (intOf jj).toNat)
        case atStart => exact ⟨0, rfl, Nat.zero_le _, Below.refl _ _⟩
        case round =>
          obtain ⟨j, rfl, hji, bq⟩ := hrel
          by_cases hj : j < i
          · obtain ⟨t, ht⟩ : ∃ t, (itsL 0 vs)[j]? = some t := ⟨_, List.getElem?_eq_getElem (by rw [HLEN.out]; exact hj)⟩
            obtain ⟨q1, q2, q3, q4⟩ := its_get ht
            obtain ⟨g0, rfl, hg0, x0, x1, x2, x3⟩ := HM.out j t ht
            obtain ⟨g1, rfl, hg1, y0⟩ := HKK.out j _ q1
            obtain ⟨g2, rfl, hg2, y1⟩ := HTT.out j _ q2
            obtain ⟨g3, rfl, hg3, y2⟩ := HNN.out j _ q3
            obtain ⟨g4, rfl, hg4, y3⟩ := HPP.out j _ q4
            obtain ⟨a1, S1, N1, P1⟩ := t
            dsimp only at x0 x1 x2 x3 y0 y1 y2 y3
            generalize (⟨S1.toArray⟩ : ByteArray) = S9 at *
            have BB := HB2.out.trans (bq.mono hw2)
            have x0' := (bq.cell (p := ⟨g0, j * 4, none⟩) hg0).trans x0
            have x1' := (bq.cell (p := ⟨g0, j * 4 + 1, none⟩) hg0).trans x1
            have x2' := (bq.cell (p := ⟨g0, j * 4 + 2, none⟩) hg0).trans x2
            have x3' := (bq.cell (p := ⟨g0, j * 4 + 3, none⟩) hg0).trans x3
            have y0' := (BB.cell (p := ⟨g1, j, none⟩) hg1).trans y0
            have y1' := (BB.cell (p := ⟨g2, j, none⟩) hg2).trans y1
            have y2' := (BB.cell (p := ⟨g3, j, none⟩) hg3).trans y2
            have y3' := (BB.cell (p := ⟨g4, j, none⟩) hg4).trans y3
            have n1 : ((a1 : Int) != (a1 : Int)) = false := by simp
            have n2 : (S9.toList != S9.toList) = false := by simp
            have n3 : (N1 != N1) = false := by simp
            have n4 : ((P1 : Int) != (P1 : Int)) = false := by simp
            have hjj : (j : Int) < (i : Int) := by omega
            have i0 : (0 : Int) ≤ (j : Int) := by omega
            have hd : decide ((i : Int) ≤ (j : Int)) = false := by simp; omega
            have BQ := Lib.hid bq
            clear x0 x1 x2 x3 y0 y1 y2 y3 bq BB ht q1 q2 q3 q4
            go_wp2
            go_quiet (fail)
            go_wp2
            refine ⟨⟨j + 1, by go_num, by omega, BQ.out.trans ⟨rfl, rfl, rfl, Nat.le_refl _, fun _ _ => rfl⟩⟩, ?_⟩
            simp [intOf]
            omega
          · have hjj : ¬ (j : Int) < (i : Int) := by omega
            have HEq := Lib.hid (HE2.out.below bq)
            have BQ := Lib.hid bq
            clear bq
            go_wp2_with fail
            refine (awake13_any _ HEq.out).mono ?_
            rintro e w6 ⟨rfl, b6⟩
            have b7 := HB.out.trans ((HB2.out.trans ((BQ.out.trans (b6.mono BQ.out.size)).mono HB2.out.size)).mono HB.out.size)
            clear b6
            go_wp2
            go_ret
            exact ⟨rfl, b7⟩
end Go.Proofs.YtdbdlgmejddbhaaDoor
