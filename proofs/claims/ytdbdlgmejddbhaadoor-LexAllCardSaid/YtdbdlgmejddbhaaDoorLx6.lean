/-
  Contracts of lex: All.
-/
import Derived.Test.YtdbdlgmejddbhaaDoorLx5
import Derived.Test.YtdbdlgmejddbhaaDoorApp
import Derived.Test.YtdbdlgmejddbhaaDoorRf4
set_option linter.unusedVariables false
namespace Go.Proofs.YtdbdlgmejddbhaaDoor
open Go Go.RowKit Go.Proofs Go.Lib

def tcells (t : Tk4) : List Value := [.int .i64 (t.1 : Nat), .string ⟨t.2.1.toArray⟩, .int .i64 t.2.2.1, .int .i64 (t.2.2.2 : Nat)]
theorem tcells_length (l : List Tk4) : (l.flatMap tcells).length = l.length * 4 := by
  induction l with
  | nil => rfl
  | cons c l ih => rw [List.flatMap_cons, List.length_append, ih, List.length_cons]; simp [tcells]; omega
/-- A slice of the call's own with tokens. -/
def IsToks (B : Nat) (v : Value) (L : List Tk4) (w : World) : Prop := w.ownsRow B 31 4 v L.length (L.flatMap tcells)
def appE (L : List Tk4) (r : Except Nat (List Tk4)) : Except Nat (List Tk4) := match r with
  | .ok L' => .ok (L ++ L')
  | .error e => .error e
theorem appE_nil (r : Except Nat (List Tk4)) : appE [] r = r := by cases r <;> rfl
theorem appE_cons (L : List Tk4) (t : Nat × List UInt8 × Int × Nat) (n : Nat) (r : Except Nat (List Tk4)) : appE L (cons1 t n r) = appE (L ++ [(t.1, t.2.1, t.2.2.1, n)]) r := by
  cases r with
  | ok L' => simp [appE, cons1]
  | error e => rfl
/-- What All answers. -/
def AllV (B : Nat) (s : ByteArray) (e : Ending) (w : World) : Prop :=
  (1000 < s.size ∧ e = .returned (.tuple #[.slice none 0 0, .int .i64 0, .int .i64 2])) ∨
  (s.size ≤ 1000 ∧ ∃ n : Nat, lx s.data.toList 0 0 = .error n ∧ e = .returned (.tuple #[.slice none 0 0, .int .i64 (n : Nat), .int .i64 3])) ∨
  (s.size ≤ 1000 ∧ ∃ L v, lx s.data.toList 0 0 = .ok L ∧ IsToks B v L w ∧ e = .returned (.tuple #[v, .int .i64 0, .int .i64 0]))
theorem infoTok : (Tryd.prog.info? 31).map (fun i => (i.zero, i.size, i.bytes)) = some (some (.agg #[.int .i64 0, .string ⟨#[]⟩, .int .i64 0, .int .i64 0]), 4, 40) := by kernel_rfl
theorem pref2 (l : List UInt8) : Lib.hasPrefix l [45, 45] = decide (l.take 2 = [45, 45]) := by
  match l with
  | [] => rfl
  | [a] => simp [Lib.hasPrefix, List.isPrefixOf]
  | a :: b :: r =>
    rw [Bool.eq_iff_iff]
    simp [Lib.hasPrefix, List.isPrefixOf]
    exact ⟨fun h => ⟨h.1.symm, h.2.symm⟩, fun h => ⟨h.1.symm, h.2.symm⟩⟩

theorem toks_iter {w : World} {B k : Nat} {v : Value} {L : List Tk4} {s : ByteArray} {pos : Nat} (h : IsToks B v L w) (hk : w.heap[k]? = some (.stringIter s pos)) (pos' : Nat) : IsToks B v L (w.iterAt k s pos') :=
  own_kept h fun g hg => Lib.iterAt_other w k g s pos' fun hgk => by
    obtain ⟨cs, h2⟩ := own_tag h g hg
    subst hgk
    rw [hk] at h2
    cases h2
theorem toks_below {w w' : World} {B : Nat} {v : Value} {L : List Tk4} (h : IsToks B v L w) (hb : Below w.heap.size w w') : IsToks B v L w' := own_kept h fun g hg => hb.block g (own_block_lt h g hg)
theorem lall_big (s : ByteArray) (w : World) (hs : s.size ≤ 1099511627776) (hb : 1000 < s.size) :
    Calls Tryd.prog 8 #[.string s] w fun e w' => AllV w.heap.size s e w' ∧ Below w.heap.size w w' := by
  have h2 : (1000 : Int) < (s.size : Nat) := by omega
  go_enter Tryd.func8, Tryd.ntmps8
  go_wp2
  go_ret3
  exact ⟨.inl ⟨hb, rfl⟩, Below.refl _ _⟩

set_option maxHeartbeats 4000000 in
set_option maxRecDepth 100000 in
theorem lall_any (s : ByteArray) (w : World) (hs : s.size ≤ 1000) (hE : Two w) :
    Calls Tryd.prog 8 #[.string s] w fun e w' => AllV w.heap.size s e w' ∧ Below w.heap.size w w' := by
  have hl : s.data.toList.length = s.size := by rw [Lib.size_eq]
  have h2 : ¬ (1000 : Int) < (s.size : Nat) := by omega
  obtain ⟨i0, hi, hz0, hz1, hz2⟩ := info_parts infoTok
  have HL := Lib.hid hl
  have HE := Lib.hid hE
  obtain ⟨R, hR⟩ : ∃ R, R = lx s.data.toList 0 0 := ⟨_, rfl⟩
  have HRR := Lib.hid hR
  clear hl hE hR
  go_enter Tryd.func8, Tryd.ntmps8
  go_wp2
  go_loopw [5, 6, 7] (fun tk a nx wr => ∃ (v : Value) (pos n q : Nat) (L : List Tk4), v = tk ∧ a = .int .i64 ((n : Int) - 1) ∧ nx = .int .i64 (q : Nat) ∧ IsToks w.heap.size v L wr ∧
      wr.heap[w.heap.size]? = some (.stringIter s pos) ∧ Below w.heap.size w wr ∧ R = appE L (lx (s.data.toList.drop pos) n (q - pos)) ∧ L.length ≤ n ∧ n ≤ pos ∧ q ≤ s.size + 1000 ∧ pos ≤ s.size) (fun _ _ _ wr => s.size - wr.iterPos w.heap.size)
  case atStart =>
    refine ⟨_, 0, 0, 0, [], rfl, rfl, rfl, ⟨by simp, .inl ⟨rfl, rfl⟩⟩, ?_, (Below.refl _ _).alloc (Nat.le_refl _) _, ?_, by simp, Nat.le_refl _, by omega, by omega⟩
    · have := World.iter_heap w s 0
      simpa using this
    · rw [appE_nil, List.drop_zero]
      exact HRR.out
  case round =>
    obtain ⟨v, pos, n, q, L, rfl, rfl, rfl, hown, hit, hbw, hst, hLn, hnp, hq, hps⟩ := hrel
    have hsz : w.heap.size < wr.heap.size := (Array.getElem?_eq_some_iff.1 hit).1
    have HST := Lib.hid hst
    have HO := Lib.hid hown
    clear hst hown
    by_cases hp : pos < s.size
    · have hnx : ∀ ty, (Instr.next (.pointer (some ⟨w.heap.size, 0, none⟩)) true ty).run Tryd.prog wr = _ := fun ty => Lib.run_next_any_at wr w.heap.size s pos ty hit hp
      have hwd := width_pos s pos hp
      have hin := decode_in s pos hp
      have hne := drop_ne s pos hp
      have hdp := dec_at s pos
      have hex := ext_drop s pos
      have hit1 := Lib.iterAt_heap wr w.heap.size s pos (pos + (Utf8.decode s pos).2) hit
      have hbw1 := Lib.below_iterAt hbw (k := w.heap.size) (by omega) s (pos + (Utf8.decode s pos).2)
      have hs1 := Lib.iterAt_size wr w.heap.size s (pos + (Utf8.decode s pos).2)
      have hw1 : IntKind.i64.wrap ((n : Int) - 1 + 1) = (n : Int) := by
        rw [show (n : Int) - 1 + 1 = (n : Int) from by omega, wrap_small _ (by omega) (by omega)]
      have hval : Utf8.valid (((Utf8.decode s pos).1 : Nat) : Int) = true := by rw [hdp]; exact dec_valid _
      have HV := Lib.hid hval
      have HI1 := Lib.hid hit1
      have HI := Lib.hid hit
      have HD := Lib.hid hdp
      have HX := Lib.hid hex
      have HNE := Lib.hid hne
      clear hit1 hit hdp hex hne hval
      have hown1 := toks_iter HO.out HI.out (pos + (Utf8.decode s pos).2)
      have HO1 := Lib.hid hown1
      clear hown1
      have NUM : Hid ((n : Int) = ((n + 1 : Nat) : Int) - 1) := Lib.hid (by omega)
      by_cases hqp : pos < q
      · have hqi : (pos : Int) < (q : Int) := by omega
        have hnew : R = appE L (lx (s.data.toList.drop (pos + (Utf8.decode s pos).2)) (n + 1) (q - (pos + (Utf8.decode s pos).2))) := by
          rw [HST.out, lx_skip HNE.out (by omega : 0 < q - pos), List.drop_drop, ← HD.out, Nat.sub_sub]
        have HNEW := Lib.hid hnew
        clear hnew
        go_wp2
        refine ⟨⟨v, pos + (Utf8.decode s pos).2, n + 1, q, L, rfl, congrArg _ NUM.out, rfl, HO1.out, HI1.out, hbw1, HNEW.out, by omega, by omega, hq, by omega⟩, ?_⟩
        simp only [World.iterPos, HI1.out, HI.out]
        omega
      · have hqi : ¬ (pos : Int) < (q : Int) := by omega
        have hq0 : q - pos = 0 := by omega
        have hb := blank_any (Utf8.decode s pos).1 (wr.iterAt w.heap.size s (pos + (Utf8.decode s pos).2)) HV.out
        have HB := Lib.hid hb
        have HQ0 := Lib.hid hq0
        clear hb hq0
        go_wp2_with fail
        refine HB.out.mono ?_
        rintro e w1 ⟨rfl, b1⟩
        have hit2 : w1.heap[w.heap.size]? = some (.stringIter s (pos + (Utf8.decode s pos).2)) := (b1.block _ (by rw [hs1]; omega)).trans HI1.out
        have hbw2 : Below w.heap.size w w1 := hbw1.trans (b1.mono (by rw [hs1]; omega))
        have hown2 := toks_below HO1.out b1
        have HI2 := Lib.hid hit2
        have HBW := Lib.hid hbw2
        have HO2 := Lib.hid hown2
        have HE1 := Lib.hid (HE.out.below hbw2)
        have s1 : w.heap.size < w1.heap.size := (Array.getElem?_eq_some_iff.1 hit2).1
        clear hit2 hbw2 hown2 b1 hs1 hbw1
        cases hbl : blankB (Utf8.decode s pos).1 with
        | true =>
          have hnew : R = appE L (lx (s.data.toList.drop (pos + (Utf8.decode s pos).2)) (n + 1) (q - (pos + (Utf8.decode s pos).2))) := by
            have hz : q - (pos + (Utf8.decode s pos).2) = 0 := by omega
            rw [hz, HST.out, HQ0.out, lx_blank n (by rw [← HD.out]; exact hbl), List.drop_drop, ← HD.out]
          have HNEW := Lib.hid hnew
          clear hnew hbl
          go_wp2
          refine ⟨⟨v, pos + (Utf8.decode s pos).2, n + 1, q, L, rfl, congrArg _ NUM.out, rfl, HO2.out, HI2.out, HBW.out, HNEW.out, by omega, by omega, hq, by omega⟩, ?_⟩
          simp only [World.iterPos, HI2.out, HI.out]
          omega
        | false =>
          have HBL := Lib.hid hbl
          clear hbl
          have hsl : ∀ wx : World, (Instr.slice 9 (.string s) (some (.int .i64 (pos : Int))) none none).run Tryd.prog wx = .ok (.string (s.extract pos s.size)) wx := by
            intro wx
            rw [run_slice_string_l (P := Tryd.prog) (t := 9) (ht := Tryd.underlying9) (kl := .i64) (l := (pos : Int)) (h0 := by omega) (h1 := by omega)]
            rfl
          have hxs : (s.extract pos s.size).size ≤ 1099511627776 := by rw [ByteArray.size_extract]; omega
          generalize s.extract pos s.size = X at *
          go_wp2_with fail
          refine (prefix_any _ _ _).mono ?_
          rintro e w2 ⟨rfl, rfl⟩
          rw [show Lib.hasPrefix X.data.toList (ByteArray.mk #[45, 45]).data.toList = decide (X.data.toList.take 2 = [45, 45]) from pref2 _, HX.out]
          by_cases hcm : (s.data.toList.drop pos).take 2 = [45, 45]
          · rw [decide_eq_true hcm]
            have HC := Lib.hid hcm
            clear hcm
            go_wp2_with fail
            refine (cut_any _ _ hxs).mono ?_
            rintro e w2 ⟨⟨b, c, rfl⟩, b2⟩
            have hYs : (X.extract 0 (lineLen X.data.toList)).size = lineLen (s.data.toList.drop pos) := by
              have := lineLen_le X.data.toList
              rw [← Lib.size_eq] at this
              rw [ByteArray.size_extract, HX.out] at *
              omega
            have hll := lineLen_le (s.data.toList.drop pos)
            rw [List.length_drop, HL.out] at hll
            have hpos := Nat.pos_of_ne_zero (fun h0 : lineLen (s.data.toList.drop pos) = 0 => by
              obtain ⟨_, r, hr⟩ := dec45 HC.out
              rw [hr] at h0
              simp [lineLen] at h0)
            generalize X.extract 0 (lineLen X.data.toList) = Y at *
            have hnew : R = appE L (lx (s.data.toList.drop (pos + (Utf8.decode s pos).2)) (n + 1) (pos + Y.size - (pos + (Utf8.decode s pos).2))) := by
              rw [HST.out, HQ0.out, lx_line n HC.out, lx_skip HNE.out hpos, List.drop_drop, ← HD.out, hYs, show pos + lineLen (s.data.toList.drop pos) - (pos + (Utf8.decode s pos).2) = lineLen (s.data.toList.drop pos) - (Utf8.decode s pos).2 from by omega]
            have hYz : Y.size ≤ 1000 := by omega
            have HNEW := Lib.hid hnew
            have hit3 : w2.heap[w.heap.size]? = some (.stringIter s (pos + (Utf8.decode s pos).2)) := (b2.block _ (by omega)).trans HI2.out
            have hbw3 : Below w.heap.size w w2 := HBW.out.trans (b2.mono (by omega))
            have hown3 := toks_below HO2.out b2
            have HI3 := Lib.hid hit3
            have HBW3 := Lib.hid hbw3
            have HO3 := Lib.hid hown3
            clear hnew hit3 hbw3 hown3 b2 hYs hll hpos
            go_wp2
            refine ⟨⟨v, pos + (Utf8.decode s pos).2, n + 1, pos + Y.size, L, rfl, congrArg _ NUM.out, by go_num, HO3.out, HI3.out, HBW3.out, HNEW.out, by omega, by omega, by omega, by omega⟩, ?_⟩
            simp only [World.iterPos, HI3.out, HI.out]
            omega
          · rw [decide_eq_false hcm]
            have hc := lfirst_any X w1 hxs (by rw [HX.out]; exact HNE.out) HE1.out
            rw [HX.out, ← HD.out] at hc
            have HC := Lib.hid hcm
            have HCC := Lib.hid hc
            clear hcm hc
            go_wp2_with fail
            refine HCC.out.mono ?_
            rintro e w2 ⟨rfl, b2⟩
            have hit3 : w2.heap[w.heap.size]? = some (.stringIter s (pos + (Utf8.decode s pos).2)) := (b2.block _ (by omega)).trans HI2.out
            have hbw3 : Below w.heap.size w w2 := HBW.out.trans (b2.mono (by omega))
            have hown3 := toks_below HO2.out b2
            have s2 : w.heap.size < w2.heap.size := (Array.getElem?_eq_some_iff.1 hit3).1
            have HI3 := Lib.hid hit3
            have HBW3 := Lib.hid hbw3
            have HO3 := Lib.hid hown3
            clear hit3 hbw3 hown3 b2
            cases htk : tok (s.data.toList.drop pos) with
            | none =>
              have herr : R = .error n := by
                rw [HST.out, HQ0.out, lx_none n HNE.out (by rw [← HD.out]; exact HBL.out) HC.out htk]
                rfl
              have HERR := Lib.hid herr
              clear herr htk
              simp only [tokV]
              go_wp2
              go_ret3
              refine ⟨.inr (.inl ⟨hs, n, HRR.out.symm.trans HERR.out, rfl⟩), ?_⟩
              exact HBW3.out.alloc (by omega) _
            | some t =>
              have hm1 := tok_len htk
              have hm2 := tok_le HNE.out htk
              rw [List.length_drop, HL.out] at hm2
              obtain ⟨k, T, z, m⟩ := t
              dsimp only at hm1 hm2
              have hnew : R = appE (L ++ [(k, T, z, n)]) (lx (s.data.toList.drop (pos + (Utf8.decode s pos).2)) (n + 1) (pos + m - (pos + (Utf8.decode s pos).2))) := by
                rw [HST.out, HQ0.out, lx_tok n HNE.out (by rw [← HD.out]; exact HBL.out) HC.out htk, appE_cons]
                dsimp only
                rw [lx_skip HNE.out hm1, List.drop_drop, ← HD.out, show pos + m - (pos + (Utf8.decode s pos).2) = m - (Utf8.decode s pos).2 from by omega]
              have HNEW := Lib.hid hnew
              clear hnew htk
              have hT : ByteArray.mk T.toArray = ByteArray.mk T.toArray := rfl
              generalize hTT : ByteArray.mk T.toArray = TT
              simp only [tokV, tokA]
              rw [hTT]
              have HTT := Lib.hid hTT
              clear hTT hT
              have hown4 := HO3.out
              unfold IsToks at hown4
              have hlt := hown4.lt
              have HO4 := Lib.hid hown4
              have HLT := Lib.hid hlt
              clear hown4 hlt
              go_wp2_with (at_builtin; refine wpList_append_own _ rfl _ _ 23 rfl w.heap.size 31 i0 (.agg #[.int .i64 0, .string ⟨#[]⟩, .int .i64 0, .int .i64 0]) 4 40 Tryd.underlying23 hi hz0 hz1 hz2 rfl (by decide) _ _ _ rfl ((HO4.out.alloc _).alloc _) ⟨w2.heap.size + 1, 0, none⟩ 1 1 [.int .i64 (k : Nat), .string TT, .int .i64 z, .int .i64 (n : Nat)] rfl rfl ?c1 ?c2 ?c3 ?c4 ?c5 ?_)
              case c1 => exact news_list (w2.alloc _) [.int .i64 (k : Nat), .string TT, .int .i64 z, .int .i64 (n : Nat)] _ _ (by simp)
              case c2 => intro u hu; simp at hu; rcases hu with rfl | rfl | rfl | rfl <;> rfl
              case c3 => unfold maxLen; omega
              case c4 => omega
              case c5 => simp; omega
              intro v' w3 hown' hgrow _
              have hx : v.ownBlock ≠ some w.heap.size := fun e => by
                obtain ⟨cs, h5⟩ := own_tag HO3.out _ e
                rw [HI3.out] at h5
                cases h5
              have hit4 : w3.heap[w.heap.size]? = some (.stringIter s (pos + (Utf8.decode s pos).2)) := by
                have h1 := hgrow.block w.heap.size (by simp; omega) (fun e => hx e.symm)
                rw [Below.heap_alloc _ _ _ (by simp; omega), Below.heap_alloc _ _ _ (by omega)] at h1
                exact h1.trans HI3.out
              have hbw4 : Below w.heap.size w w3 := ((HBW3.out.alloc (by omega) _).alloc (by simp; omega) _).grown hgrow (by simp; omega) (fun k hk => (HLT.out k hk).1)
              have hown5 : IsToks w.heap.size v' (L ++ [(k, T, z, n)]) w3 := by
                unfold IsToks
                rw [List.length_append, List.flatMap_append]
                rw [← HTT.out] at hown'
                simpa [tcells] using hown'
              have HI4 := Lib.hid hit4
              have HBW4 := Lib.hid hbw4
              have HO5 := Lib.hid hown5
              clear hown' hgrow hx hit4 hbw4 hown5
              go_wp2
              refine ⟨⟨v', pos + (Utf8.decode s pos).2, n + 1, pos + m, L ++ [(k, T, z, n)], rfl, congrArg _ NUM.out, by go_num, HO5.out, HI4.out, HBW4.out, HNEW.out, by simp; omega, by omega, by omega, by omega⟩, ?_⟩
              simp only [World.iterPos, HI4.out, HI.out]
              omega
    · have hnx : ∀ ty, (Instr.next (.pointer (some ⟨w.heap.size, 0, none⟩)) true ty).run Tryd.prog wr = _ := fun ty => Lib.run_next_end_at wr w.heap.size s pos ty hit hp
      have hd0 : s.data.toList.drop pos = [] := List.drop_eq_nil_of_le (by rw [HL.out]; omega)
      have hfin : R = .ok L := by
        rw [HST.out, hd0, lx_nil]
        simp [appE]
      have HF := Lib.hid hfin
      clear hd0 hfin
      go_wp2
      go_ret3
      exact ⟨.inr (.inr ⟨hs, L, v, HRR.out.symm.trans HF.out, HO.out, rfl⟩), hbw⟩
end Go.Proofs.YtdbdlgmejddbhaaDoor
