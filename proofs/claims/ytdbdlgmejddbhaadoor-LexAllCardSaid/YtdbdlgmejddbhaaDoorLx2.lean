/-
  Contracts of lex: digit, letter, run, word, number, text, first.
-/
import Derived.Test.YtdbdlgmejddbhaaDoorLx1
import Derived.Test.YtdbdlgmejddbhaaDoorRn1
import Derived.Test.YtdbdlgmejddbhaaDoorKq
import Derived.Laws.Cover4
import Derived.Laws.ResultCell
set_option linter.unusedVariables false
namespace Go.Proofs.YtdbdlgmejddbhaaDoor
open Go Go.RowKit Go.Proofs Go.Lib

theorem ldig_any (r : Nat) (w : World) :
    Calls Tryd.prog 24 #[.int .i32 (r : Nat)] w fun e w' => e = .returned (.bool (dgtC (r, 0))) ∧ w = w' := by
  by_cases h1 : 48 ≤ r
  · have h2 : (48 : Int) ≤ (r : Int) := by omega
    go_enter Tryd.func24, Tryd.ntmps24
    go_wp2
    go_ret
    refine ⟨?_, rfl⟩
    refine ret_bool ?_
    unfold dgtC
    rw [decide_eq_true h1, Bool.true_and]
    rw [Bool.eq_iff_iff]
    simp
    omega
  · have h2 : ¬ (48 : Int) ≤ (r : Int) := by omega
    go_enter Tryd.func24, Tryd.ntmps24
    go_wp2
    go_ret
    refine ⟨?_, rfl⟩
    refine ret_bool ?_
    unfold dgtC
    rw [decide_eq_false h1, Bool.false_and]
theorem dgtC_eq (a b c : Nat) : dgtC (a, b) = dgtC (a, c) := rfl

/-! ### letters -/
set_option maxRecDepth 100000 in
theorem enc_take (l : List UInt8) (h0 : l ≠ []) (hr : rightB ((decodeL l).1, 0, (decodeL l).2) = true) : (Utf8.encode ((decodeL l).1 : Nat)).data.toList = l.take (decodeL l).2 := by
  have hl : 0 < l.length := List.length_pos_iff.2 h0
  have hv := dec_valid l
  unfold rightB at hr
  simp only [Bool.or_eq_true, Bool.not_eq_true', beq_eq_false_iff_ne, decide_eq_true_eq] at hr
  unfold Utf8.encode
  rw [hv]
  rw [decodeL_N] at hr ⊢
  have k0 := (l.getD 0 0).toNat_lt
  have k1 := (l.getD 1 0).toNat_lt
  have k2 := (l.getD 2 0).toNat_lt
  have k3 := (l.getD 3 0).toNat_lt
  have tb : ∀ (n : Nat) (x : UInt8), n = x.toNat → UInt8.ofNat n = x := by
    intro n x h
    subst h
    simp
  simp only [if_true, Int.toNat_natCast]
  rcases decodeN_shape l.length (l.getD 0 0).toNat (l.getD 1 0).toNat (l.getD 2 0).toNat (l.getD 3 0).toNat with ⟨c, e⟩ | ⟨c1, c2, c3, cv, e⟩ | ⟨c1, c2, c3, c4, cv, cs, e⟩ | ⟨c1, c2, c3, c4, c5, cv, cw, e⟩ | e
  · rw [e]
    dsimp only
    rw [if_pos c, takeA l hl]
    simp
  · rw [e]
    dsimp only
    rw [if_neg (by omega), if_pos (by omega), takeB l (by omega)]
    simp only [List.cons.injEq, and_true]
    exact ⟨tb _ _ (by omega), tb _ _ (by omega)⟩
  · rw [e]
    dsimp only
    rw [if_neg (by omega), if_neg (by omega), if_pos (by omega), takeC l (by omega)]
    simp only [List.cons.injEq, and_true]
    exact ⟨tb _ _ (by omega), tb _ _ (by omega), tb _ _ (by omega)⟩
  · rw [e]
    dsimp only
    rw [if_neg (by omega), if_neg (by omega), if_neg (by omega), takeD l (by omega)]
    simp only [List.cons.injEq, and_true]
    exact ⟨tb _ _ (by omega), tb _ _ (by omega), tb _ _ (by omega), tb _ _ (by omega)⟩
  · rw [e] at hr
    simp at hr
theorem dec_take (l : List UInt8) (h0 : l ≠ []) : decodeL (l.take (decodeL l).2) = decodeL l := by
  have hl : 0 < l.length := List.length_pos_iff.2 h0
  have hd := decodeL_N l
  rcases decodeN_shape l.length (l.getD 0 0).toNat (l.getD 1 0).toNat (l.getD 2 0).toNat (l.getD 3 0).toNat with ⟨c, e⟩ | ⟨c1, c2, c3, cv, e⟩ | ⟨c1, c2, c3, c4, cv, cs, e⟩ | ⟨c1, c2, c3, c4, c5, cv, cw, e⟩ | e
  · rw [hd, e]
    dsimp only
    rw [takeA l hl, decodeL_ascii _ _ c]
  · rw [hd, e]
    dsimp only
    rw [takeB l (by omega), decodeL_N]
    simp only [List.getD_cons_zero, List.getD_cons_succ, List.length_cons, List.length_nil]
    unfold decodeN
    rw [if_neg (by omega), if_pos ⟨c1, by omega, c3⟩, if_pos cv]
  · rw [hd, e]
    dsimp only
    rw [takeC l (by omega), decodeL_N]
    simp only [List.getD_cons_zero, List.getD_cons_succ, List.length_cons, List.length_nil]
    unfold decodeN
    rw [if_neg (by omega), if_neg (by omega), if_pos ⟨c1, ⟨by omega, c3⟩, by omega, c4⟩, if_pos ⟨cv, by omega⟩]
  · rw [hd, e]
    dsimp only
    rw [takeD l (by omega), decodeL_N]
    simp only [List.getD_cons_zero, List.getD_cons_succ, List.length_cons, List.length_nil]
    unfold decodeN
    rw [if_neg (by omega), if_neg (by omega), if_neg (by omega), if_pos ⟨c1, ⟨by omega, c3⟩, ⟨by omega, c4⟩, by omega, c5⟩, if_pos ⟨cv, by omega⟩]
  · rw [hd, e]
    dsimp only
    have hd' := hd
    rw [e] at hd'
    obtain ⟨b, r, rfl⟩ := List.exists_cons_of_ne_nil h0
    have hb : ¬ b.toNat < 128 := by
      intro hb
      rw [decodeL_ascii b r hb] at hd'
      injection hd' with h1 h2
      omega
    show decodeL [b] = (65533, 1)
    rw [decodeL_N]
    simp only [List.getD_cons_zero, List.length_cons, List.length_nil]
    unfold decodeN
    rw [if_neg hb, if_neg (by omega), if_neg (by omega), if_neg (by omega)]

/-- A text of one code point, folded: whether it is a name. -/
theorem one_name (l : List UInt8) (h0 : l ≠ []) (hr : rightB ((decodeL l).1, 0, (decodeL l).2) = true) : nameB ⟨(foldL (l.take (decodeL l).2)).toArray⟩ = ltrC (decodeL l) := by
  have hw := wd_le h0
  have hw1 := wd_pos l
  have hg := great_width ⟨l.toArray⟩ 0
  have hdl : Utf8.decode ⟨l.toArray⟩ 0 = decodeL l := rfl
  rw [hdl] at hg
  obtain ⟨d, hd⟩ : ∃ d, d = decodeL l := ⟨_, rfl⟩
  unfold ltrC
  by_cases hc : 65 ≤ (decodeL l).1 ∧ (decodeL l).1 ≤ 90
  · obtain ⟨h1, h2⟩ := hg.1 hc
    have hb : bt ⟨l.toArray⟩ 0 = (l.getD 0 0).toNat := by
      obtain ⟨b, r, rfl⟩ := List.exists_cons_of_ne_nil h0
      rfl
    rw [hb] at h2
    rw [h1, takeA l (List.length_pos_iff.2 h0), decide_eq_true hc.1, decide_eq_true hc.2, Bool.and_true, Bool.or_true]
    have all26 : ∀ k : Fin 26, nameB ⟨(foldL [UInt8.ofNat (65 + k.val)]).toArray⟩ = true := by decide +kernel
    have := all26 ⟨(decodeL l).1 - 65, by omega⟩
    dsimp only at this
    rw [show 65 + ((decodeL l).1 - 65) = (l.getD 0 0).toNat from by omega, UInt8.ofNat_toNat] at this
    exact this
  · have hz : (decide (65 ≤ (decodeL l).1) && decide ((decodeL l).1 ≤ 90)) = false := by
      rw [Bool.eq_false_iff]
      intro h
      simp only [Bool.and_eq_true, decide_eq_true_eq] at h
      exact hc h
    rw [hz, Bool.or_false]
    have hf : foldL (l.take (decodeL l).2) = l.take (decodeL l).2 := by
      unfold foldL
      refine (List.map_congr_left ?_).trans (List.map_id _)
      intro c hcm
      obtain ⟨j, hj, rfl⟩ := List.getElem_of_mem hcm
      rw [List.length_take] at hj
      have h2 := hg.2 hc j (by omega)
      rw [Nat.zero_add, bt_at ⟨l.toArray⟩ j (by simp [ByteArray.size]; omega)] at h2
      rw [List.getElem_take]
      unfold foldC
      rw [if_neg h2]
      rfl
    rw [hf]
    have hs : (ByteArray.mk (l.take (decodeL l).2).toArray).size = (decodeL l).2 := by
      show (l.take (decodeL l).2).toArray.size = _
      rw [List.size_toArray, List.length_take]
      omega
    have hw4 : (decodeL l).2 ≤ 4 := by
      rw [decodeL_N]
      rcases decodeN_shape l.length (l.getD 0 0).toNat (l.getD 1 0).toNat (l.getD 2 0).toNat (l.getD 3 0).toNat with ⟨c, e⟩ | ⟨c1, c2, c3, cv, e⟩ | ⟨c1, c2, c3, c4, cv, cs, e⟩ | ⟨c1, c2, c3, c4, c5, cv, cw, e⟩ | e
      all_goals rw [e]; dsimp only; omega
    have hdt : Utf8.decode ⟨(l.take (decodeL l).2).toArray⟩ 0 = decodeL l := dec_take l h0
    have hcps : cps ⟨(l.take (decodeL l).2).toArray⟩ = [((decodeL l).1, 0, (decodeL l).2)] := by
      unfold cps
      rw [hs]
      obtain ⟨n, hn⟩ : ∃ n, (decodeL l).2 = n + 1 := ⟨(decodeL l).2 - 1, by omega⟩
      have hs' := hs
      rw [hn] at hs' ⊢
      simp only [cpsF]
      rw [← hn, hs, if_pos (by omega), hdt, Nat.zero_add, cpsF_end _ _ _ (by rw [hs]; omega)]
    unfold nameB
    rw [hcps, hs, decide_eq_true (by omega : 1 ≤ (decodeL l).2), decide_eq_true (by omega : (decodeL l).2 ≤ 100)]
    simp [nameCp]

set_option maxHeartbeats 1000000 in
theorem llet_any (s : ByteArray) (w : World) (hs : s.size ≤ 1099511627776) (h0 : s.data.toList ≠ []) :
    Calls Tryd.prog 26 #[.string s, .int .i32 ((decodeL s.data.toList).1 : Nat)] w fun e w' => e = .returned (.bool (ltrC (decodeL s.data.toList))) ∧ Below w.heap.size w w' := by
  have hd : decodeL s.data.toList = Utf8.decode s 0 := by
    have := decodeL_drop s 0
    rw [List.drop_zero] at this
    exact this
  by_cases hr : rightB ((decodeL s.data.toList).1, 0, (decodeL s.data.toList).2) = true
  · have he := enc_take _ h0 hr
    have hn := one_name _ h0 hr
    rw [← he] at hn
    have hp : Lib.hasPrefix s.data.toList (Utf8.encode ((decodeL s.data.toList).1 : Nat)).data.toList = true := by
      rw [he]
      exact List.isPrefixOf_iff_prefix.2 (List.take_prefix _ _)
    have hsz : (Utf8.encode ((decodeL s.data.toList).1 : Nat)).size ≤ 4 := encode_size_le _
    generalize hE : Utf8.encode ((decodeL s.data.toList).1 : Nat) = E at *
    clear he hd hr
    have HN := Lib.hid hn
    have HP := Lib.hid hp
    clear hn hp
    go_enter Tryd.func26, Tryd.ntmps26
    go_wp2_with fail
    refine (prefix_any _ _ _).mono ?_
    rintro e w1 ⟨rfl, rfl⟩
    rw [HP.out]
    go_wp2_with fail
    refine (fold_any _ _ (by omega)).mono ?_
    rintro e w2 ⟨rfl, b2⟩
    go_wp2_with fail
    refine (name_any _ _ ?_).mono ?_
    · show (foldL E.data.toList).toArray.size ≤ _
      rw [List.size_toArray, foldL, List.length_map, ← Lib.size_eq]
      omega
    rintro e w3 ⟨rfl, b3⟩
    rw [HN.out]
    go_wp2
    go_ret
    exact ⟨rfl, b2.trans (b3.mono b2.size)⟩
  · have hr' := hr
    unfold rightB at hr'
    simp only [Bool.or_eq_true, Bool.not_eq_true', beq_eq_false_iff_ne, decide_eq_true_eq] at hr'
    have h1 : (decodeL s.data.toList).1 = 65533 := by omega
    have h3 : ¬ (decodeL s.data.toList).2 = 3 := by omega
    have hp : Lib.hasPrefix s.data.toList [239, 191, 189] = false := by
      have := right_width s 0 (by rw [← hd]; exact h1)
      rw [List.drop_zero, ← hd, decide_eq_false h3] at this
      exact this
    have hE : Utf8.encode ((decodeL s.data.toList).1 : Nat) = ⟨#[239, 191, 189]⟩ := by rw [h1]; decide
    have hv : ltrC (decodeL s.data.toList) = false := by
      unfold ltrC letterB
      rw [h1]
      have : rightB (65533, 0, (decodeL s.data.toList).2) = false := by
        rw [h1] at hr
        simpa using hr
      rw [this]
      rfl
    have HV := Lib.hid hv
    have HP := Lib.hid hp
    clear hv hp h1 h3 hr hr' hd
    go_enter Tryd.func26, Tryd.ntmps26
    rw [HV.out]
    go_wp2_with fail
    refine (prefix_any _ _ _).mono ?_
    rintro e w1 ⟨rfl, rfl⟩
    rw [show Lib.hasPrefix s.data.toList (ByteArray.mk #[239, 191, 189]).data.toList = false from HP.out]
    go_wp2
    go_ret
    exact ⟨rfl, Below.refl _ _⟩

/-! ### runs -/
theorem dec_at (s : ByteArray) (p : Nat) : Utf8.decode s p = decodeL (s.data.toList.drop p) := (decodeL_drop s p).symm
theorem drop_ne (s : ByteArray) (p : Nat) (h : p < s.size) : s.data.toList.drop p ≠ [] := by
  intro h0
  have := congrArg List.length h0
  rw [List.length_drop, ← Lib.size_eq] at this
  simp at this
  omega
theorem ext_drop (s : ByteArray) (p : Nat) : (s.extract p s.size).data.toList = s.data.toList.drop p := by rw [Lib.extract_data, take_drop_all]

set_option maxHeartbeats 2000000 in
set_option maxRecDepth 100000 in
theorem lrun_any (s : ByteArray) (w : World) (hs : s.size ≤ 1099511627776) :
    Calls Tryd.prog 43 #[.string s] w fun e w' => e = .returned (.int .i64 (run s.data.toList : Nat)) ∧ Below w.heap.size w w' := by
  have hl : s.data.toList.length = s.size := by rw [Lib.size_eq]
  have HL := Lib.hid hl
  clear hl
  go_enter Tryd.func43, Tryd.ntmps43
  go_wp2
  go_loopw [] (fun wr => ∃ (pos : Nat), wr.heap[w.heap.size]? = some (.stringIter s pos) ∧ Below w.heap.size w wr ∧ run s.data.toList = pos + run (s.data.toList.drop pos)) (fun wr => s.size - wr.iterPos w.heap.size)
  case atStart =>
    refine ⟨0, ?_, (Below.refl _ _).alloc (Nat.le_refl _) _, by simp⟩
    have := World.iter_heap w s 0
    simpa using this
  case round =>
    obtain ⟨pos, hit, hbw, hrun⟩ := hrel
    have hsz : w.heap.size < wr.heap.size := (Array.getElem?_eq_some_iff.1 hit).1
    have HR := Lib.hid hrun
    clear hrun
    by_cases hp : pos < s.size
    · have hnx : ∀ ty, (Instr.next (.pointer (some ⟨w.heap.size, 0, none⟩)) true ty).run Tryd.prog wr = _ := fun ty => Lib.run_next_any_at wr w.heap.size s pos ty hit hp
      have hwd := width_pos s pos hp
      have hne := drop_ne s pos hp
      have hdp := dec_at s pos
      have hex := ext_drop s pos
      have hit1 := Lib.iterAt_heap wr w.heap.size s pos (pos + (Utf8.decode s pos).2) hit
      have hbw1 := Lib.below_iterAt hbw (k := w.heap.size) (by omega) s (pos + (Utf8.decode s pos).2)
      have hsl : ∀ wx : World, (Instr.slice 9 (.string s) (some (.int .i64 (pos : Int))) none none).run Tryd.prog wx = .ok (.string (s.extract pos s.size)) wx := by
        intro wx
        rw [run_slice_string_l (P := Tryd.prog) (t := 9) (ht := Tryd.underlying9) (kl := .i64) (l := (pos : Int)) (h0 := by omega) (h1 := by omega)]
        rfl
      have hxs : (s.extract pos s.size).size ≤ 1099511627776 := by rw [ByteArray.size_extract]; omega
      have HI1 := Lib.hid hit1
      have HI := Lib.hid hit
      have HD := Lib.hid hdp
      have HX := Lib.hid hex
      have HNE := Lib.hid hne
      clear hit1 hit hdp hex hne
      go_wp2_with fail
      refine (ldig_any _ _).mono ?_
      rintro e w1 ⟨rfl, rfl⟩
      cases hdg : dgtC ((Utf8.decode s pos).1, 0) with
      | true =>
        have hld : ldC (decodeL (s.data.toList.drop pos)) = true := by
          rw [← HD.out]
          unfold ldC
          rw [show dgtC (Utf8.decode s pos) = true from hdg]
          rfl
        have hst := run_step hld
        rw [List.drop_drop, ← HD.out] at hst
        have HS := Lib.hid hst
        clear hst hdg hld
        go_wp2
        go_roundw
        case rel => exact ⟨pos + (Utf8.decode s pos).2, HI1.out, hbw1, by rw [HR.out, HS.out, Nat.add_assoc]⟩
        case measure =>
          simp only [World.iterPos, HI1.out, HI.out]
          omega
      | false =>
        go_wp2_with fail
        have hc := llet_any (s.extract pos s.size) (wr.iterAt w.heap.size s (pos + (Utf8.decode s pos).2)) hxs (by rw [HX.out]; exact HNE.out)
        rw [HX.out, ← HD.out] at hc
        refine hc.mono ?_
        clear hc
        rintro e w1 ⟨rfl, b1⟩
        have hs1 := Lib.iterAt_size wr w.heap.size s (pos + (Utf8.decode s pos).2)
        have hit2 : w1.heap[w.heap.size]? = some (.stringIter s (pos + (Utf8.decode s pos).2)) := (b1.block _ (by rw [hs1]; omega)).trans HI1.out
        have hbw2 : Below w.heap.size w w1 := hbw1.trans (b1.mono (by rw [hs1]; omega))
        have HI2 := Lib.hid hit2
        clear hit2 hs1
        cases hlt : ltrC (Utf8.decode s pos) with
        | true =>
          have hld : ldC (decodeL (s.data.toList.drop pos)) = true := by
            rw [← HD.out]
            unfold ldC
            rw [hlt]
            simp
          have hst := run_step hld
          rw [List.drop_drop, ← HD.out] at hst
          have HS := Lib.hid hst
          clear hst hdg hld hlt
          go_wp2
          go_roundw
          case rel => exact ⟨pos + (Utf8.decode s pos).2, HI2.out, hbw2, by rw [HR.out, HS.out, Nat.add_assoc]⟩
          case measure =>
            simp only [World.iterPos, HI2.out, HI.out]
            omega
        | false =>
          have hld : ldC (decodeL (s.data.toList.drop pos)) = false := by
            rw [← HD.out]
            unfold ldC
            rw [show dgtC (Utf8.decode s pos) = false from hdg, hlt]
            rfl
          have hst := run_stop hld
          have HS := Lib.hid hst
          clear hst hdg hld hlt
          go_wp2
          go_ret
          refine ⟨?_, hbw2⟩
          rw [HR.out, HS.out]
          rfl
    · have hnx : ∀ ty, (Instr.next (.pointer (some ⟨w.heap.size, 0, none⟩)) true ty).run Tryd.prog wr = _ := fun ty => Lib.run_next_end_at wr w.heap.size s pos ty hit hp
      have hd0 : s.data.toList.drop pos = [] := List.drop_eq_nil_of_le (by rw [HL.out]; omega)
      have hrl := run_le s.data.toList
      have hr := HR.out
      rw [hd0, show run [] = 0 from rfl] at hr
      rw [HL.out] at hrl
      have he : s.size = run s.data.toList := by omega
      have HE := Lib.hid he
      clear hrl hr he hd0
      go_wp2
      go_ret
      refine ⟨?_, hbw⟩
      rw [← HE.out]
      rfl

/-! ### a token, how many bytes it has, whether there is one -/
theorem results_c3 {P : Program} {fn : Func} {p u v : Tmp} {ty : TypeId} (h : fn.results = #[.cell p ty, .tmp u, .tmp v]) (tmps : Array Value) (w : World) (g : Nat) (t : TypeId) (cs : Array Value) (fr : Nat × Nat) (d : TypeDesc)
    (hp : tmps.getD p undef = .pointer (some ⟨g, 0, none⟩)) (hg : w.heap[g]? = some (.cells cs t fr))
    (hu : P.underlying ty = some d) (hd : (match d with | .struct _ | .array _ _ => true | _ => false) = true) (hi : (P.info? ty).map (·.size) = some cs.size) :
    (results fn tmps).run P w = .ok (.tuple #[.agg cs, tmps.getD u undef, tmps.getD v undef]) w := by
  have hp' : tmps[p]?.getD undef = .pointer (some ⟨g, 0, none⟩) := by simpa using hp
  simp [results, h, hp', asAddr, run_loadVar_row w g t ty cs fr d hg hu hd hi]

def tokA (t : Nat × List UInt8 × Int × Nat) : Array Value := #[.int .i64 (t.1 : Nat), .string ⟨t.2.1.toArray⟩, .int .i64 t.2.2.1, .int .i64 0]
def tokV (x : Option (Nat × List UInt8 × Int × Nat)) : Value := match x with
  | some t => .tuple #[.agg (tokA t), .int .i64 (t.2.2.2 : Nat), .bool true]
  | none => .tuple #[.agg #[.int .i64 0, .string ⟨#[]⟩, .int .i64 0, .int .i64 0], .int .i64 0, .bool false]

theorem four_at {w : World} {N : Nat} {a b c d : Value} {t : TypeId} (h : w.heap[N]? = some (.cells #[a, b, c, d] t (0, 0))) (x y z u : Value) :
    ((((w.setCell ⟨N, 0, none⟩ x).setCell ⟨N, 1, none⟩ y).setCell ⟨N, 2, none⟩ z).setCell ⟨N, 3, none⟩ u).heap[N]? = some (.cells #[x, y, z, u] t (0, 0)) ∧
      Kept (fun k => k = N) w ((((w.setCell ⟨N, 0, none⟩ x).setCell ⟨N, 1, none⟩ y).setCell ⟨N, 2, none⟩ z).setCell ⟨N, 3, none⟩ u) := by
  refine ⟨?_, (((Kept.setCell (fun k => k = N) w ⟨N, 0, none⟩ x rfl).trans (Kept.setCell (fun k => k = N) _ ⟨N, 1, none⟩ y rfl) fun k hk => Or.inl hk).trans (Kept.setCell (fun k => k = N) _ ⟨N, 2, none⟩ z rfl) fun k hk => Or.inl hk).trans (Kept.setCell (fun k => k = N) _ ⟨N, 3, none⟩ u rfl) fun k hk => Or.inl hk⟩
  rw [heap_setCell_same _ N 3 _ _ _ (heap_setCell_same _ N 2 _ _ _ (heap_setCell_same _ N 1 _ _ _ (heap_setCell_same w N 0 _ _ _ h)))]
  rfl
abbrev tokZ : Obj := .cells #[.int .i64 0, .string ⟨#[]⟩, .int .i64 0, .int .i64 0] 31 (0, 0)
/-- The token's block, written: the end of each. -/
theorem tok_end {w w0 : World} {N : Nat} {a b c d : Value} (hN : w0.heap.size ≤ N) (hb : Below w0.heap.size w0 w) (h : w.heap[N]? = some (.cells #[a, b, c, d] 31 (0, 0))) (x y z u : Value) :
    ((((w.setCell ⟨N, 0, none⟩ x).setCell ⟨N, 1, none⟩ y).setCell ⟨N, 2, none⟩ z).setCell ⟨N, 3, none⟩ u).heap[N]? = some (.cells #[x, y, z, u] 31 (0, 0)) ∧
      Below w0.heap.size w0 ((((w.setCell ⟨N, 0, none⟩ x).setCell ⟨N, 1, none⟩ y).setCell ⟨N, 2, none⟩ z).setCell ⟨N, 3, none⟩ u) :=
  ⟨(four_at h x y z u).1, (((hb.setCell hN x).setCell hN y).setCell hN z).setCell hN u⟩

set_option maxHeartbeats 2000000 in
set_option maxRecDepth 100000 in
theorem lword_any (s : ByteArray) (w : World) (hs : s.size ≤ 1099511627776) :
    Calls Tryd.prog 27 #[.string s] w fun e w' => e = .returned (tokV (wordTok s.data.toList)) ∧ Below w.heap.size w w' := by
  have hr := run_le s.data.toList
  rw [← Lib.size_eq] at hr
  obtain ⟨n, hn⟩ : ∃ n, n = run s.data.toList := ⟨_, rfl⟩
  have hw : wordTok s.data.toList = if n ≤ 100 then some (1, foldL (s.data.toList.take n), 0, n) else none := by rw [hn]; rfl
  rw [hw]
  rw [← hn] at hr
  have HN := Lib.hid hn
  clear hw hn
  go_enter Tryd.func27, Tryd.ntmps27
  go_wp2_with fail
  refine (lrun_any _ _ hs).mono ?_
  rintro e w1 ⟨rfl, b1⟩
  rw [← HN.out]
  have z1 : w1.heap[w.heap.size]? = some tokZ := (b1.block _ (by simp)).trans (heap_alloc_new w _)
  have b01 : Below w.heap.size w w1 := ((Below.refl _ _).alloc (Nat.le_refl _) _).trans (b1.mono (by simp))
  have s1 := b1.size
  have Z1 := Lib.hid z1
  have B1 := Lib.hid b01
  clear z1 b01 b1
  by_cases h1 : n ≤ 100
  · have h2 : ¬ (100 : Int) < (n : Nat) := by omega
    have hx : (s.extract 0 n).data.toList = s.data.toList.take n := by rw [Lib.extract_data]; simp
    have hxs : (s.extract 0 n).size ≤ 1099511627776 := by rw [ByteArray.size_extract]; omega
    generalize hE : s.extract 0 n = E at *
    go_wp2_with fail
    refine (fold_any _ _ hxs).mono ?_
    rintro e w2 ⟨rfl, b2⟩
    rw [hx]
    have z2 : w2.heap[w.heap.size]? = some tokZ := (b2.block _ (by simp at s1; omega)).trans Z1.out
    have B2 : Below w.heap.size w w2 := B1.out.trans (b2.mono B1.out.size)
    obtain ⟨y3, B3⟩ := tok_end (Nat.le_refl _) B2 z2 (.int .i64 1) (.string ⟨(foldL (s.data.toList.take n)).toArray⟩) (.int .i64 0) (.int .i64 0)
    have Y3 := Lib.hid y3
    have BB := Lib.hid B3
    have c0 := cell_at (i := 0) z2 rfl
    have c1 := cell_at (i := 1) z2 rfl
    have c2 := cell_at (i := 2) z2 rfl
    have c3 := cell_at (i := 3) z2 rfl
    have f0 := thawed_at (i := 0) z2
    have f1 := thawed_at (i := 1) z2
    have f2 := thawed_at (i := 2) z2
    have f3 := thawed_at (i := 3) z2
    clear y3 B3 z2 B2 b2 s1
    go_wp2
    refine bodyPost_ret (results_c3 rfl _ _ w.heap.size _ _ _ _ rfl Y3.out Tryd.underlying31 rfl (by kernel_rfl)) rfl ⟨rfl, BB.out⟩
  · have h2 : (100 : Int) < (n : Nat) := by omega
    have z2 := Z1.out
    obtain ⟨y3, B3⟩ := tok_end (Nat.le_refl _) B1.out z2 (.int .i64 0) (.string ⟨#[]⟩) (.int .i64 0) (.int .i64 0)
    have Y3 := Lib.hid y3
    have BB := Lib.hid B3
    have c0 := cell_at (i := 0) z2 rfl
    have c1 := cell_at (i := 1) z2 rfl
    have c2 := cell_at (i := 2) z2 rfl
    have c3 := cell_at (i := 3) z2 rfl
    have f0 := thawed_at (i := 0) z2
    have f1 := thawed_at (i := 1) z2
    have f2 := thawed_at (i := 2) z2
    have f3 := thawed_at (i := 3) z2
    clear y3 B3 z2 s1
    go_wp2
    refine bodyPost_ret (results_c3 rfl _ _ w.heap.size _ _ _ _ rfl Y3.out Tryd.underlying31 rfl (by kernel_rfl)) rfl ⟨rfl, BB.out⟩
end Go.Proofs.YtdbdlgmejddbhaaDoor
