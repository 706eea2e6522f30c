/-
  Contracts of the library that lex calls: ContainsRune at any code point, over signs of one byte; Cut at the end of a line; TrimPrefix.
-/
import Derived.Test.YtdbdlgmejddbhaaDoorLxl
import Derived.Test.YtdbdlgmejddbhaaDoorLxd
import Derived.Laws.Runes
import Derived.Deep.QuietTactic
import Derived.BigQuiet
import Derived.WalkMore
import Derived.Lib.IndexLaws
import Derived.Lib.SmallJoins
import Derived.OwnWalk
set_option linter.unusedVariables false
namespace Go.Proofs.YtdbdlgmejddbhaaDoor
open Go Go.RowKit Go.Proofs Go.Lib

theorem valid_any_r (r : Int) (w : World) (hv : Utf8.valid r = true) :
    Calls Tryd.prog 36 #[.int .i32 r] w fun e w' => e = .returned (.bool true) ∧ w = w' := by
  have hv2 : (0 ≤ r ∧ r < 55296) ∨ (57344 ≤ r ∧ r ≤ 1114111) := by simpa [Utf8.valid] using hv
  have h0 : (0 : Int) ≤ r := by omega
  by_cases h1 : r < 55296
  · go_enter Tryd.func36, Tryd.ntmps36
    go_wp2
    go_ret
    exact ⟨rfl, rfl⟩
  · have h2 : (57343 : Int) < r := by omega
    have h3 : r ≤ 1114111 := by omega
    go_enter Tryd.func36, Tryd.ntmps36
    go_wp2
    go_ret
    exact ⟨rfl, rfl⟩

theorem idx_low (l : List UInt8) (c : UInt8) (h : ∀ b ∈ l, b.toNat < 128) (hc : 128 ≤ c.toNat) : Lib.indexByte l c = -1 := by
  induction l with
  | nil => rfl
  | cons b l ih =>
    have hb : (b == c) = false := by
      rw [beq_eq_false_iff_ne]
      intro e
      have := h b (by simp)
      rw [e] at this
      omega
    unfold Lib.indexByte
    rw [hb, ih (fun x hx => h x (by simp [hx]))]
    rfl

theorem ib_any (s : ByteArray) (c : Int) (w : World) {i : Int} (hi : Lib.indexByte s.data.toList c.toNat.toUInt8 = i) :
    Calls Tryd.prog 35 #[.string s, .int .u8 c] w fun e w' => e = .returned (.int .i64 i) ∧ w' = w := by
  rw [← hi]
  exact Any.strings_IndexByte { cLays with } s c w

set_option maxHeartbeats 2000000 in
set_option maxRecDepth 1000000 in
theorem idx_high (s : ByteArray) (r : Int) (w : World) (hv : Utf8.valid r = true) (h128 : 128 ≤ r) (hne : r ≠ 65533) (hs4 : 4 ≤ s.size) (hs : s.size ≤ 100) (hlow : ∀ i (h : i < s.size), s[i].toNat < 128) :
    Calls Tryd.prog 20 #[.string s, .int .i32 r] w fun e w' => e = .returned (.int .i64 (-1)) ∧ Below w.heap.size w w' := by
  obtain ⟨e1, e2, e3⟩ := encode_facts r hv h128
  have hn : ¬ r < 128 := by omega
  have h0 : (0 : Int) ≤ r := by omega
  have hb : (r == 65533) = false := by simpa using hne
  have hlt : (Utf8.encode r).size - 1 < (Utf8.encode r).size := by omega
  have hlt2 : (Utf8.encode r).size - 1 < s.size := by omega
  have hi0 : (0 : Int) ≤ ((Utf8.encode r).size : Int) - 1 := by omega
  have hi1 : ((Utf8.encode r).size : Int) - 1 < ((Utf8.encode r).size : Int) := by omega
  have hi2 : ((Utf8.encode r).size : Int) - 1 < (s.size : Int) := by omega
  go_enter Tryd.func20, Tryd.ntmps20
  go_wp2_with (go_at_call 36; refine (valid_any_r _ _ hv).mono ?_; rintro e w' ⟨rfl, rfl⟩)
  go_step3
  go_wp2
  have hk2 : ((Utf8.encode r).size : Int) - 1 = (((Utf8.encode r).size - 1 : Nat) : Int) := by omega
  rw [hk2] at hi0 hi1 hi2
  rw [hk2]
  clear hi0 hk2
  generalize hE : Utf8.encode r = E at *
  generalize hkk : E.size - 1 = k at *
  go_loopw [9] (fun i wr => i = .int .i64 (k : Nat) ∧ wr = w) (fun _ _ => 0)
  case atStart => exact ⟨rfl, rfl⟩
  case round =>
    obtain ⟨rfl, rfl⟩ := hrel
    go_wp2
    go_step3
    have hneq : ((s[k].toNat : Int) != (E[k].toNat : Int)) = true := by
      have h1 := hlow _ hlt2
      have h2 := e3 hlt
      rw [bne_iff_ne]
      omega
    go_wp2
    go_quiet (fail)
    go_wp2
    have hsl : ∀ wx : World, (Instr.slice 9 (.string s) (some (.int .i64 (IntKind.i64.wrap ((k : Int) + 1)))) none none).run Tryd.prog wx = .ok (.string (s.extract (k + 1) s.size)) wx := by
      intro wx
      rw [wrap_small _ (by omega) (by omega), run_slice_string_l (P := Tryd.prog) (t := 9) (ht := Tryd.underlying9) (kl := .i64) (l := (k : Int) + 1) (h0 := by omega) (h1 := by omega)]
      rfl
    have hix : Lib.indexByte (s.extract (k + 1) s.size).data.toList (E[k].toNat : Int).toNat.toUInt8 = -1 := by
      refine idx_low _ _ ?_ ?_
      · intro b hb
        rw [Lib.extract_data] at hb
        obtain ⟨j, hj, rfl⟩ := List.getElem_of_mem (List.mem_of_mem_drop (List.mem_of_mem_take hb))
        exact hlow j (by rw [Lib.size_eq]; exact hj)
      · have h2 := e3 hlt
        simp
        omega
    have bq : Below wr.heap.size wr (wr.drewN nq) := (Below.refl _ _).trans ⟨rfl, rfl, rfl, Nat.le_refl _, fun _ _ => rfl⟩
    generalize wr.drewN nq = wq at *
    go_quiet (refine Calls.quiet_of_same (ib_any _ _ _ hix))
    go_wp2
    rename_i q1 a2 q2 k1 a1 n0 k0 a0
    rw [Exit.noGoto_ret]
    simp only [q2, Exit.inBlock, Exit.then]
    rw [Exit.noGoto_ret]
    go_ret
    exact ⟨rfl, bq.trans ⟨rfl, rfl, rfl, Nat.le_refl _, fun _ _ => rfl⟩⟩

set_option maxHeartbeats 2000000 in
set_option maxRecDepth 1000000 in
theorem idx_err (s : ByteArray) (w : World) (hs : s.size ≤ 100) (hlow : ∀ i (h : i < s.size), s[i].toNat < 128) :
    Calls Tryd.prog 20 #[.string s, .int .i32 65533] w fun e w' => e = .returned (.int .i64 (-1)) ∧ Below w.heap.size w w' := by
  have hb : ((65533 : Int) == 65533) = true := rfl
  go_enter Tryd.func20, Tryd.ntmps20
  go_wp2
  go_loopw [] (fun wr => ∃ (pos : Nat), wr.heap[w.heap.size]? = some (.stringIter s pos) ∧ Below w.heap.size w wr) (fun wr => s.size - wr.iterPos w.heap.size)
  case atStart =>
    refine ⟨0, ?_, (Below.refl _ _).alloc (Nat.le_refl _) _⟩
    have := World.iter_heap w s 0
    simpa using this
  case round =>
    obtain ⟨pos, hit, hbw⟩ := hrel
    have hsz : w.heap.size < wr.heap.size := (Array.getElem?_eq_some_iff.1 hit).1
    by_cases hp : pos < s.size
    · have hnx : ∀ ty, (Instr.next (.pointer (some ⟨w.heap.size, 0, none⟩)) true ty).run Tryd.prog wr = _ := fun ty => Lib.run_next_any_at wr w.heap.size s pos ty hit hp
      have hdec := decode_ascii s pos hp (hlow pos hp)
      have hwd := width_pos s pos hp
      have hne : (((Utf8.decode s pos).1 : Int) == 65533) = false := by
        have := hlow pos hp
        rw [hdec]
        simp
        omega
      have hit1 := Lib.iterAt_heap wr w.heap.size s pos (pos + (Utf8.decode s pos).2) hit
      have hbw1 := Lib.below_iterAt hbw (k := w.heap.size) (by omega) s (pos + (Utf8.decode s pos).2)
      have HI1 := Lib.hid hit1
      have HI := Lib.hid hit
      clear hit1 hit hdec
      go_wp2
      go_roundw
      case rel => exact ⟨pos + (Utf8.decode s pos).2, HI1.out, hbw1⟩
      case measure =>
        simp only [World.iterPos, HI1.out, HI.out]
        omega
    · have hnx : ∀ ty, (Instr.next (.pointer (some ⟨w.heap.size, 0, none⟩)) true ty).run Tryd.prog wr = _ := fun ty => Lib.run_next_end_at wr w.heap.size s pos ty hit hp
      go_wp2
      go_ret
      exact ⟨rfl, hbw⟩

/-- What is decoded is a code point. -/
theorem dec_valid (l : List UInt8) : Utf8.valid ((decodeL l).1 : Nat) = true := by
  rw [decodeL_N]
  have h := decodeN_shape l.length (l.getD 0 0).toNat (l.getD 1 0).toNat (l.getD 2 0).toNat (l.getD 3 0).toNat
  have k0 := (l.getD 0 0).toNat_lt
  have k1 := (l.getD 1 0).toNat_lt
  simp only [Utf8.valid, Bool.or_eq_true, Bool.and_eq_true, decide_eq_true_eq]
  rcases h with ⟨c, e⟩ | ⟨c1, c2, c3, cv, e⟩ | ⟨c1, c2, c3, c4, cv, cs, e⟩ | ⟨c1, c2, c3, c4, c5, cv, cw, e⟩ | e
  all_goals rw [e]; dsimp only; omega

theorem idx_any (s : ByteArray) (r : Nat) (w : World) (hv : Utf8.valid (r : Nat) = true) (h128 : 128 ≤ r) (hs4 : 4 ≤ s.size) (hs : s.size ≤ 100) (hlow : ∀ i (h : i < s.size), s[i].toNat < 128) :
    Calls Tryd.prog 20 #[.string s, .int .i32 (r : Nat)] w fun e w' => e = .returned (.int .i64 (-1)) ∧ Below w.heap.size w w' := by
  by_cases h : (r : Int) = 65533
  · rw [h]
    exact idx_err s w hs hlow
  · exact idx_high s r w hv (by omega) h hs4 hs hlow
theorem holds_high (s : ByteArray) (r : Nat) (w : World) (hv : Utf8.valid (r : Nat) = true) (h128 : 128 ≤ r) (hs4 : 4 ≤ s.size) (hs : s.size ≤ 100) (hlow : ∀ i (h : i < s.size), s[i].toNat < 128) :
    Calls Tryd.prog 13 #[.string s, .int .i32 (r : Nat)] w fun e w' => e = .returned (.bool false) ∧ Below w.heap.size w w' := by
  go_enter Tryd.func13, Tryd.ntmps13
  go_wp2_with (go_at_call 20; refine (idx_any _ _ _ hv h128 hs4 hs hlow).mono ?_; rintro e w1 ⟨rfl, b1⟩)
  go_ret
  exact ⟨rfl, b1⟩
theorem low_of (l : List UInt8) (h : l.all (fun b => decide (b.toNat < 128)) = true) : ∀ i (h : i < (ByteArray.mk l.toArray).size), ((ByteArray.mk l.toArray)[i]).toNat < 128 := by
  intro i hi
  have hi' : i < l.length := by simpa [ByteArray.size] using hi
  have := List.all_eq_true.1 h (l[i]) (List.getElem_mem _)
  have e : (ByteArray.mk l.toArray)[i] = l[i] := rfl
  rw [e]
  simpa using this

theorem blank_low : ∀ r : Fin 128, decide (0 ≤ Lib.indexByte [32, 9, 10, 13] ((r.val : Nat) : Int).toNat.toUInt8) = blankB r.val := by decide +kernel
theorem sign_low : ∀ r : Fin 128, decide (0 ≤ Lib.indexByte [40, 41, 44, 59, 61, 42] ((r.val : Nat) : Int).toNat.toUInt8) = signB r.val := by decide +kernel
theorem blank_any (r : Nat) (w : World) (hv : Utf8.valid (r : Nat) = true) :
    Calls Tryd.prog 13 #[.string ⟨#[32, 9, 10, 13]⟩, .int .i32 (r : Nat)] w fun e w' => e = .returned (.bool (blankB r)) ∧ Below w.heap.size w w' := by
  by_cases h : r < 128
  · refine (Any.strings_ContainsRune_ascii { cLays with } _ _ w (by omega) (by omega)).mono ?_
    rintro e w1 ⟨rfl, rfl⟩
    exact ⟨congrArg _ (congrArg _ (blank_low ⟨r, h⟩)), Below.refl _ _⟩
  · have e : blankB r = false := by
      unfold blankB
      simp
      omega
    rw [e]
    exact holds_high _ r w hv (by omega) (by decide) (by decide) (low_of [32, 9, 10, 13] (by decide))
theorem sign_any (r : Nat) (w : World) (hv : Utf8.valid (r : Nat) = true) :
    Calls Tryd.prog 13 #[.string ⟨#[40, 41, 44, 59, 61, 42]⟩, .int .i32 (r : Nat)] w fun e w' => e = .returned (.bool (signB r)) ∧ Below w.heap.size w w' := by
  by_cases h : r < 128
  · refine (Any.strings_ContainsRune_ascii { cLays with } _ _ w (by omega) (by omega)).mono ?_
    rintro e w1 ⟨rfl, rfl⟩
    exact ⟨congrArg _ (congrArg _ (sign_low ⟨r, h⟩)), Below.refl _ _⟩
  · have e : signB r = false := by
      unfold signB
      simp
      omega
    rw [e]
    exact holds_high _ r w hv (by omega) (by decide) (by decide) (low_of [40, 41, 44, 59, 61, 42] (by decide))

/-! ### the end of a line -/
theorem ib_line (l : List UInt8) : (Lib.indexByte l 10 = -1 ∧ lineLen l = l.length) ∨ (Lib.indexByte l 10 = (lineLen l : Nat) ∧ lineLen l < l.length) := by
  induction l with
  | nil => exact .inl ⟨rfl, rfl⟩
  | cons b l ih =>
    unfold Lib.indexByte
    by_cases hb : b = 10
    · subst hb
      right
      exact ⟨rfl, by simp [lineLen]⟩
    · have hb1 : (b == 10) = false := by simpa using hb
      have hl : lineLen (b :: l) = lineLen l + 1 := by simp [lineLen, hb]
      rw [hb1, hl]
      rcases ih with ⟨h1, h2⟩ | ⟨h1, h2⟩
      · left
        rw [h1, h2]
        exact ⟨rfl, rfl⟩
      · right
        rw [h1]
        have hne : (((lineLen l : Nat) : Int) == -1) = false := by simp
        rw [hne]
        exact ⟨by simp, by simp; omega⟩
theorem take_line (l : List UInt8) : l.takeWhile (fun c => c != 10) = l.take (lineLen l) := by
  unfold lineLen
  induction l with
  | nil => rfl
  | cons b l ih =>
    rw [List.takeWhile_cons]
    split
    · rw [List.length_cons, List.take_succ_cons, ← ih]
    · rfl

set_option maxHeartbeats 1000000 in
theorem lcut_any (s : ByteArray) (w : World) (hs : s.size ≤ 1099511627776) :
    Calls Tryd.prog 22 #[.string s, .string ⟨#[10]⟩] w fun e w' => (∃ b c, e = .returned (.tuple #[.string (s.extract 0 (lineLen s.data.toList)), .string b, .bool c])) ∧ Below w.heap.size w w' := by
  have hl : s.data.toList.length = s.size := by rw [Lib.size_eq]
  have e1 : (ByteArray.mk #[10]).size = 1 := rfl
  rcases ib_line s.data.toList with ⟨h1, h2⟩ | ⟨h1, h2⟩
  · go_enter Tryd.func22, Tryd.ntmps22
    go_wp2_with (go_at_call 39; refine (Any.stringslite_Index_one { ixLays with } _ _ _).mono ?_; rintro e w1 ⟨rfl, rfl⟩; rw [h1])
    refine bodyPost_ret (v := .tuple #[.string s, .string ⟨#[]⟩, .bool false]) (by simp [results, Tryd.results22, go_sem]) rfl ⟨⟨⟨#[]⟩, false, ?_⟩, Below.refl _ _⟩
    rw [h2, hl, ByteArray.extract_zero_size]
  · rw [hl] at h2
    obtain ⟨n, hn⟩ : ∃ n, n = lineLen s.data.toList := ⟨_, rfl⟩
    rw [← hn] at h1 h2 ⊢
    clear hn
    have hge : (0 : Int) ≤ (n : Int) := by omega
    have hs1 : ∀ wx : World, (Instr.slice 9 (.string s) none (some (.int .i64 (n : Int))) none).run Tryd.prog wx = .ok (.string (s.extract 0 n)) wx := by
      intro wx
      rw [run_slice_string_h (P := Tryd.prog) (t := 9) (ht := Tryd.underlying9) (kh := .i64) (h := (n : Int)) (h0 := by omega) (h2 := by omega)]
      rfl
    have hs2 : ∀ wx : World, (Instr.slice 9 (.string s) (some (.int .i64 (IntKind.i64.wrap ((n : Int) + 1)))) none none).run Tryd.prog wx = .ok (.string (s.extract (n + 1) s.size)) wx := by
      intro wx
      rw [wrap_small _ (by omega) (by omega), run_slice_string_l (P := Tryd.prog) (t := 9) (ht := Tryd.underlying9) (kl := .i64) (l := (n : Int) + 1) (h0 := by omega) (h1 := by omega)]
      rfl
    go_enter Tryd.func22, Tryd.ntmps22
    go_wp2_with (go_at_call 39; refine (Any.stringslite_Index_one { ixLays with } _ _ _).mono ?_; rintro e w1 ⟨rfl, rfl⟩; rw [h1])
    go_quiet (fail)
    go_wp2
    go_ret3
    refine ⟨⟨_, true, rfl⟩, ?_⟩
    exact (Below.refl _ _).trans ⟨rfl, rfl, rfl, Nat.le_refl _, fun _ _ => rfl⟩
theorem cut_any (s : ByteArray) (w : World) (hs : s.size ≤ 1099511627776) :
    Calls Tryd.prog 15 #[.string s, .string ⟨#[10]⟩] w fun e w' => (∃ b c, e = .returned (.tuple #[.string (s.extract 0 (lineLen s.data.toList)), .string b, .bool c])) ∧ Below w.heap.size w w' := by
  go_enter Tryd.func15, Tryd.ntmps15
  go_wp2_with (go_at_call 22; refine (lcut_any _ _ hs).mono ?_; rintro e w1 ⟨⟨b, c, rfl⟩, b1⟩)
  exact bodyPost_ret (v := .tuple #[.string (s.extract 0 (lineLen s.data.toList)), .string b, .bool c]) (by simp [results, Tryd.results15, go_sem]) rfl ⟨⟨_, _, rfl⟩, b1⟩

/-! ### numbers out of texts -/
/-- The two variables that say what is wrong with a number lie there. -/
def Two (w : World) : Prop := (∃ ev, w.cell? ⟨1, 0, none⟩ = some ev ∧ (ev = .nilIface ∨ ∃ te pe, ev = .iface te pe)) ∧
  (∃ ev, w.cell? ⟨2, 0, none⟩ = some ev ∧ (ev = .nilIface ∨ ∃ te pe, ev = .iface te pe))
theorem Two.below {w w' : World} (h : Two w) (hb : Below w.heap.size w w') : Two w' := by
  obtain ⟨⟨e1, h1, h2⟩, e2, h3, h4⟩ := h
  exact ⟨⟨e1, (hb.cell (Lib.lt_of_cell h1)).trans h1, h2⟩, e2, (hb.cell (Lib.lt_of_cell h3)).trans h3, h4⟩
theorem Two.up {w w' : World} {B : Nat} (h : Two w) (hB : w.heap.size ≤ B) (hb : Below B w w') : Two w' := h.below (hb.mono hB)

theorem atoi_any (s : ByteArray) (w : World) (hs : s.size ≤ 1099511627776) (hE : Two w) :
    Calls Tryd.prog 44 #[.string s] w fun e w' =>
      ((∃ v, Lib.atoiAll s.data.toList = .ok v ∧ e = .returned (.tuple #[.int .i64 v, .nilIface])) ∨ ((∀ v, Lib.atoiAll s.data.toList ≠ .ok v) ∧ ∃ n t p, e = .returned (.tuple #[.int .i64 n, .iface t p]))) ∧ Below w.heap.size w w' := by
  obtain ⟨⟨e1, h1, h2⟩, e2, h3, h4⟩ := hE
  cases ha : Lib.atoiAll s.data.toList with
  | ok v =>
    refine (Any.strconv_Atoi_ok { atLays with } s (by omega) v ha w).mono ?_
    rintro e w1 ⟨rfl, rfl | ⟨t, rfl⟩⟩
    · exact ⟨.inl ⟨v, rfl, rfl⟩, Below.refl _ _⟩
    · exact ⟨.inl ⟨v, rfl, rfl⟩, Joins.below_bytesWorld _ _ _ _ (Nat.le_refl _)⟩
  | range =>
    refine (Any.strconv_Atoi_range { atLays with } s (by omega) ha e2 w h3 h4).mono ?_
    rintro e w1 ⟨N, rfl, _, _, hb⟩
    exact ⟨.inr ⟨(fun v h => by cases h), _, _, _, rfl⟩, hb⟩
  | _ =>
    refine (Any.strconv_Atoi_syntax { atLays with } s (by omega) ha e1 w h1 h2).mono ?_
    rintro e w1 ⟨N, rfl, _, _, hb⟩
    exact ⟨.inr ⟨(fun v h => by cases h), _, _, _, rfl⟩, hb⟩
end Go.Proofs.YtdbdlgmejddbhaaDoor
