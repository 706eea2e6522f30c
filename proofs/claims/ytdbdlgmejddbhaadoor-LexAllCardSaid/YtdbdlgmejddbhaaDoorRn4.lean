/-
  Contracts of package runes that make texts: Unquote.
-/
import Derived.Test.YtdbdlgmejddbhaaDoorRn3
set_option linter.unusedVariables false
namespace Go.Proofs.YtdbdlgmejddbhaaDoor
open Go Go.RowKit

/-- The text behind an opening quote, and how many bytes it takes with the closing one. -/
def unq : List UInt8 → Option (List UInt8 × Nat)
  | [] => none
  | [c] => if c = 39 then some ([], 1) else none
  | c :: d :: t => if c = 39 then (if d = 39 then (unq t).map (fun x => (39 :: x.1, x.2 + 2)) else some ([], 1)) else (unq (d :: t)).map (fun x => (c :: x.1, x.2 + 1))

theorem unq_other (c : UInt8) (t : List UInt8) (h : c ≠ 39) : unq (c :: t) = (unq t).map (fun x => (c :: x.1, x.2 + 1)) := by
  cases t with
  | nil => simp [unq, h]
  | cons d t => simp [unq, h]
theorem unq_two (t : List UInt8) : unq (39 :: 39 :: t) = (unq t).map (fun x => (39 :: x.1, x.2 + 2)) := by simp [unq]
theorem unq_end (t : List UInt8) (h : ∀ d r, t = d :: r → d ≠ 39) : unq (39 :: t) = some ([], 1) := by
  cases t with
  | nil => simp [unq]
  | cons d t => have := h d t rfl; simp [unq, this]
theorem unq_plain (a t : List UInt8) (h : ∀ c ∈ a, c ≠ 39) : unq (a ++ t) = (unq t).map (fun x => (a ++ x.1, a.length + x.2)) := by
  induction a with
  | nil => simp
  | cons c a ih =>
    rw [List.cons_append, unq_other c _ (h c (by simp)), ih (fun x hx => h x (by simp [hx])), Option.map_map]
    congr 1
    funext x
    simp
    omega

def unquoteO (l : List UInt8) (n : Int) : Option (List UInt8 × Nat) :=
  if n < 0 then none else if l[n.toNat]? = some 39 then (unq (l.drop (n.toNat + 1))).map (fun x => (x.1, n.toNat + 1 + x.2)) else none
def unquoteV (x : Option (List UInt8 × Nat)) : Value := match x with
  | some y => .tuple #[.string ⟨y.1.toArray⟩, .int .i64 (y.2 : Nat), .bool true]
  | none => .tuple #[.string ⟨#[]⟩, .int .i64 0, .bool false]

/-- How far the scan has come: the text T so far, k the place behind which nothing is taken yet. -/
def At (l T : List UInt8) (k : Nat) : Prop := unq l = (unq (l.drop k)).map (fun x => (T ++ x.1, k + x.2))

theorem At.start (l : List UInt8) : At l [] 0 := by unfold At; simp
theorem At.plain {l T a : List UInt8} {k : Nat} (h : At l T k) (ha : ∀ c ∈ a, c ≠ 39) (hd : l.drop k = a ++ l.drop (k + a.length)) : At l (T ++ a) (k + a.length) := by
  unfold At at *
  rw [h, hd, unq_plain _ _ ha, Option.map_map]
  congr 1
  funext x
  simp
  omega
theorem At.two {l T : List UInt8} {k : Nat} (h : At l T k) (hd : l.drop k = 39 :: 39 :: l.drop (k + 2)) : At l (T ++ [39]) (k + 2) := by
  unfold At at *
  rw [h, hd, unq_two, Option.map_map]
  congr 1
  funext x
  simp
  omega
theorem At.fin {l T : List UInt8} {k : Nat} (h : At l T k) (hd : l.drop k = 39 :: l.drop (k + 1)) (hn : ∀ d r, l.drop (k + 1) = d :: r → d ≠ 39) : unq l = some (T, k + 1) := by
  unfold At at h
  rw [h, hd, unq_end _ hn]
  simp
theorem At.none {l T : List UInt8} {k : Nat} (h : At l T k) (hd : l.drop k = []) : unq l = none := by
  unfold At at h
  rw [h, hd]
  rfl

theorem drop_piece (s : ByteArray) (p : Nat) (hp : p < s.size) : s.data.toList.drop p = piece s p ++ s.data.toList.drop (p + (piece s p).length) := by
  have hin := decode_in s p hp
  have hl : s.data.toList.length = s.size := by rw [Lib.size_eq]
  unfold piece
  rw [List.length_take, List.length_drop, show min (Utf8.decode s p).2 (s.data.toList.length - p) = (Utf8.decode s p).2 from by omega, ← List.drop_drop, List.take_append_drop]
theorem piece_length (s : ByteArray) (p : Nat) (hp : p < s.size) : (piece s p).length = (Utf8.decode s p).2 := by
  have hin := decode_in s p hp
  have hl : s.data.toList.length = s.size := by rw [Lib.size_eq]
  unfold piece
  rw [List.length_take, List.length_drop]
  omega
theorem piece_cons (s : ByteArray) (p : Nat) (hp : p < s.size) : ∃ c r, piece s p = c :: r := by
  have h1 := piece_length s p hp
  have h2 := width_pos s p hp
  cases h : piece s p with
  | nil => rw [h] at h1; simp at h1; omega
  | cons c r => exact ⟨c, r, rfl⟩

/-- What the loop of Unquote keeps. -/
def Scan (s : ByteArray) (acc : List UInt8) (pos dn : Nat) (op : Bool) : Prop :=
  dn ≤ pos ∧ pos ≤ s.size ∧ acc.length ≤ pos ∧
  (op = false → acc.length ≤ dn ∧ At s.data.toList (acc ++ (s.data.toList.drop dn).take (pos - dn)) pos) ∧
  (op = true → 1 ≤ pos ∧ s.data.toList.drop (pos - 1) = 39 :: s.data.toList.drop pos ∧ At s.data.toList acc (pos - 1))

theorem scan_start (s : ByteArray) : Scan s [] 0 0 false := ⟨Nat.le_refl _, Nat.zero_le _, by simp, fun _ => ⟨by simp, by simpa using At.start _⟩, fun h => by cases h⟩

theorem scan_plain {s : ByteArray} {acc : List UInt8} {pos dn : Nat} (h : Scan s acc pos dn false) (hp : pos < s.size) (hr : (Utf8.decode s pos).1 ≠ 39) : Scan s acc (pos + (Utf8.decode s pos).2) dn false := by
  obtain ⟨h1, h2, h3, h4, _⟩ := h
  obtain ⟨h5, h6⟩ := h4 rfl
  have hin := decode_in s pos hp
  refine ⟨by omega, hin, by omega, fun _ => ⟨h5, ?_⟩, fun h => by cases h⟩
  have hd := drop_piece s pos hp
  have h7 := h6.plain (piece_other s pos 39 hp (by omega) hr) hd
  rw [piece_length s pos hp] at h7
  rw [show pos + (Utf8.decode s pos).2 - dn = (pos - dn) + (Utf8.decode s pos).2 from by omega, List.take_add, ← List.append_assoc, List.drop_drop, show dn + (pos - dn) = pos from by omega]
  exact h7

theorem drop_quote (s : ByteArray) (pos : Nat) (hp : pos < s.size) (hr : (Utf8.decode s pos).1 = 39) : s.data.toList.drop pos = 39 :: s.data.toList.drop (pos + 1) := by
  have hd := drop_piece s pos hp
  have hp2 := piece_low s pos 39 hp (by omega) hr
  rw [hp2] at hd
  exact hd

theorem scan_quote {s : ByteArray} {acc : List UInt8} {pos dn : Nat} (h : Scan s acc pos dn false) (hp : pos < s.size) (hr : (Utf8.decode s pos).1 = 39) : Scan s (acc ++ (s.data.toList.drop dn).take (pos - dn)) (pos + 1) dn true := by
  obtain ⟨h1, h2, h3, h4, _⟩ := h
  obtain ⟨h5, h6⟩ := h4 rfl
  refine ⟨by omega, by omega, ?_, (fun h => by cases h), fun _ => ⟨by omega, drop_quote s pos hp hr, h6⟩⟩
  rw [List.length_append, List.length_take]
  omega

theorem scan_two {s : ByteArray} {acc : List UInt8} {pos dn : Nat} (h : Scan s acc pos dn true) (hp : pos < s.size) (hr : (Utf8.decode s pos).1 = 39) : Scan s acc (pos + 1) pos false := by
  obtain ⟨h1, h2, h3, _, h4⟩ := h
  obtain ⟨h5, h6, h7⟩ := h4 rfl
  refine ⟨by omega, by omega, by omega, fun _ => ⟨h3, ?_⟩, fun h => by cases h⟩
  have hq := drop_quote s pos hp hr
  rw [hq] at h6
  have h8 := h7.two (by rw [h6, show pos - 1 + 2 = pos + 1 from by omega])
  rw [show pos - 1 + 2 = pos + 1 from by omega] at h8
  rw [show pos + 1 - pos = 1 from by omega, hq]
  exact h8

theorem scan_out {s : ByteArray} {acc : List UInt8} {pos dn : Nat} (h : Scan s acc pos dn true) (hn : pos < s.size → (Utf8.decode s pos).1 ≠ 39) : unq s.data.toList = some (acc, pos) := by
  obtain ⟨h1, h2, h3, _, h4⟩ := h
  obtain ⟨h5, h6, h7⟩ := h4 rfl
  have e : pos - 1 + 1 = pos := by omega
  have := h7.fin (by rw [h6, e]) (by
    rw [e]
    intro d r hd
    by_cases hp : pos < s.size
    · obtain ⟨c, r', hc⟩ := piece_cons s pos hp
      have hd2 := drop_piece s pos hp
      rw [hd, hc, List.cons_append] at hd2
      injection hd2 with e1 e2
      rw [e1]
      exact piece_other s pos 39 hp (by omega) (hn hp) c (by rw [hc]; simp)
    · have hl : s.data.toList.length = s.size := by rw [Lib.size_eq]
      rw [List.drop_eq_nil_of_le (by omega)] at hd
      cases hd)
  rw [this, e]

theorem scan_end {s : ByteArray} {acc : List UInt8} {pos dn : Nat} (h : Scan s acc pos dn false) (hp : ¬ pos < s.size) : unq s.data.toList = none := by
  obtain ⟨h1, h2, h3, h4, _⟩ := h
  have hl : s.data.toList.length = s.size := by rw [Lib.size_eq]
  exact (h4 rfl).2.none (List.drop_eq_nil_of_le (by omega))

set_option maxHeartbeats 1600000 in
set_option maxRecDepth 100000 in
theorem unquote_no (s : ByteArray) (n : Int) (w : World) (hs : s.size ≤ 1099511627776) (hn : n < 0 ∨ (s.size : Int) ≤ n) :
    Calls Tryd.prog 40 #[.string s, .int .i64 n] w fun e w' => e = .returned (unquoteV none) ∧ Below w.heap.size w w' := by
  rcases hn with hn | hn
  · go_enter Tryd.func40, Tryd.ntmps40
    go_wp2
    exact bodyPost_ret (v := .tuple #[.string ⟨#[]⟩, .int .i64 0, .bool false]) (by simp [results, Tryd.results40, go_sem]) rfl ⟨rfl, Below.refl _ _⟩
  · have hn0 : ¬ n < 0 := by omega
    go_enter Tryd.func40, Tryd.ntmps40
    go_wp2
    exact bodyPost_ret (v := .tuple #[.string ⟨#[]⟩, .int .i64 0, .bool false]) (by simp [results, Tryd.results40, go_sem]) rfl ⟨rfl, Below.refl _ _⟩

set_option maxHeartbeats 1600000 in
set_option maxRecDepth 100000 in
theorem unquote_other (s : ByteArray) (n : Nat) (w : World) (hs : s.size ≤ 1099511627776) (hn : n < s.size) (hq : ((s[n].toNat : Int) != 39) = true) :
    Calls Tryd.prog 40 #[.string s, .int .i64 n] w fun e w' => e = .returned (unquoteV none) ∧ Below w.heap.size w w' := by
  have hn2 : ¬ (s.size : Int) ≤ n := by omega
  go_enter Tryd.func40, Tryd.ntmps40
  go_wp2
  exact bodyPost_ret (v := .tuple #[.string ⟨#[]⟩, .int .i64 0, .bool false]) (by simp [results, Tryd.results40, go_sem]) rfl ⟨rfl, Below.refl _ _⟩

set_option maxHeartbeats 4000000 in
set_option maxRecDepth 100000 in
theorem unquote_yes (s inner : ByteArray) (n : Nat) (w : World) (hs : s.size ≤ 1099511627776) (hn : n < s.size) (hq : ((s[n].toNat : Int) != 39) = false) (hin : s.extract (n + 1) s.size = inner) (his : n + 1 + inner.size = s.size) :
    Calls Tryd.prog 40 #[.string s, .int .i64 n] w fun e w' => e = .returned (unquoteV ((unq inner.data.toList).map (fun x => (x.1, n + 1 + x.2)))) ∧ Below w.heap.size w w' := by
  have hl : inner.data.toList.length = inner.size := by rw [Lib.size_eq]
  have HL := Lib.hid hl
  have HIN := Lib.hid hin
  have HIS := Lib.hid his
  have hsz0 : inner.size ≤ 1099511627776 := by omega
  have hn3 : n < 1099511627776 := by omega
  clear hl hin his
  have hn2 : ¬ (s.size : Int) ≤ n := by omega
  have hsl : ∀ wx : World, (Instr.slice 9 (.string s) (some (.int .i64 ((n : Int) + 1))) none none).run Tryd.prog wx = .ok (.string inner) wx := by
    intro wx
    rw [run_slice_string_l (P := Tryd.prog) (t := 9) (ht := Tryd.underlying9) (kl := .i64) (l := (n : Int) + 1) (h0 := by omega) (h1 := by omega), ← HIN.out]
    rfl
  go_enter Tryd.func40, Tryd.ntmps40
  go_wp2
  go_loopw [9, 10] (fun d o wr => ∃ (pos dn : Nat) (acc : List UInt8) (op : Bool), d = .int .i64 dn ∧ o = .bool op ∧ Bld w.heap.size w.heap.size acc wr ∧ wr.heap[w.heap.size + 1]? = some (.stringIter inner pos) ∧ Below w.heap.size w wr ∧ Scan inner acc pos dn op) (fun _ _ wr => inner.size - wr.iterPos (w.heap.size + 1))
  case atStart =>
    refine ⟨0, 0, [], false, rfl, rfl, (Bld.fresh w).alloc _, ?_, ((Below.refl _ _).alloc (Nat.le_refl _) _).alloc (by simp) _, scan_start inner⟩
    have := World.iter_heap (w.alloc (.cells #[.pointer none, .slice none 0 0] 81)) inner 0
    simpa using this
  case round =>
    obtain ⟨pos, dn, acc, op, rfl, rfl, hI, hit, hbw, hsc⟩ := hrel
    have hsz : w.heap.size + 1 < wr.heap.size := (Array.getElem?_eq_some_iff.1 hit).1
    have hdn : dn ≤ pos := hsc.1
    have hps : pos ≤ inner.size := hsc.2.1
    have hal : acc.length ≤ pos := hsc.2.2.1
    have HI := Lib.hid hit
    by_cases hp : pos < inner.size
    · have hnx : ∀ ty, (Instr.next (.pointer (some ⟨w.heap.size + 1, 0, none⟩)) true ty).run Tryd.prog wr = _ := fun ty => Lib.run_next_any_at wr (w.heap.size + 1) inner pos ty hit hp
      have hwd := width_pos inner pos hp
      have hin := decode_in inner pos hp
      have hI2 := hI.iterAt hit (pos + (Utf8.decode inner pos).2)
      have hit2 := Lib.iterAt_heap wr (w.heap.size + 1) inner pos (pos + (Utf8.decode inner pos).2) hit
      have hbw2 := Lib.below_iterAt hbw (k := w.heap.size + 1) (by omega) inner (pos + (Utf8.decode inner pos).2)
      have hsz2 : w.heap.size ≤ (wr.iterAt (w.heap.size + 1) inner (pos + (Utf8.decode inner pos).2)).heap.size := by rw [Lib.iterAt_size]; omega
      have HI2 := Lib.hid hit2
      clear hit hit2
      by_cases hr : (Utf8.decode inner pos).1 = 39
      · have hw := ((low_width inner pos 39 (by omega)).1 hr).1
        have hb : (((Utf8.decode inner pos).1 : Int) == 39) = true := by rw [hr]; rfl
        have hb2 : (((Utf8.decode inner pos).1 : Int) != 39) = false := by rw [hr]; rfl
        have HW := Lib.hid hw
        have HR := Lib.hid hr
        clear hw hr
        cases op with
        | true =>
          have hs2 := scan_two hsc hp HR.out
          go_wp2
          go_roundw
          case rel => exact ⟨pos + 1, pos, acc, false, rfl, rfl, hI2, HI2.out.trans (by rw [HW.out]), hbw2, hs2⟩
          case measure =>
            simp only [World.iterPos, HI2.out, HI.out]
            omega
        | false =>
          have hs2 := scan_quote hsc hp HR.out
          have hsl2 : ∀ wx : World, (Instr.slice 9 (.string inner) (some (.int .i64 (dn : Int))) (some (.int .i64 (pos : Int))) none).run Tryd.prog wx = .ok (.string (inner.extract dn pos)) wx := by
            intro wx
            rw [run_slice_string (P := Tryd.prog) wx 9 inner .i64 .i64 dn (pos : Int) Tryd.underlying9 (by omega) (by omega) (by omega)]
            rfl
          have hexs : (inner.extract dn pos).size ≤ inner.size := by rw [ByteArray.size_extract]; omega
          have hex : (inner.extract dn pos).data.toList = (inner.data.toList.drop dn).take (pos - dn) := Lib.extract_data inner dn pos
          have HE := Lib.hid hex
          clear hex
          go_wp2_with fail
          refine (writeString_bld w.heap.size w.heap.size acc (inner.extract dn pos) _ hI2 (by omega) hsz2).mono ?_
          rintro e w2 ⟨rfl, h2, b2, k2⟩
          have hit3 := k2.iter HI2.out (by omega)
          rw [HE.out] at h2
          go_wp2
          go_roundw
          case rel => exact ⟨pos + 1, dn, _, true, rfl, rfl, h2, hit3.trans (by rw [HW.out]), hbw2.trans b2, hs2⟩
          case measure =>
            simp only [World.iterPos, hit3, HI.out]
            omega
      · have hb : (((Utf8.decode inner pos).1 : Int) == 39) = false := by simp; omega
        have hb2 : (((Utf8.decode inner pos).1 : Int) != 39) = true := by simp; omega
        cases op with
        | true =>
          have hs2 := scan_out hsc (fun _ => hr)
          have HS := Lib.hid hs2
          clear hs2 hr
          go_wp2_with fail
          refine (string_bld w.heap.size w.heap.size _ _ hI2 hsz2).mono ?_
          rintro e w4 ⟨rfl, h4, b4, k4⟩
          go_wp2
          refine bodyPost_ret (v := .tuple #[.string ⟨acc.toArray⟩, .int .i64 ((n : Int) + 1 + pos), .bool true]) (by simp [results, Tryd.results40, go_sem]) rfl ⟨?_, hbw2.trans b4⟩
          rw [HS.out]
          rfl
        | false =>
          have hs2 := scan_plain hsc hp hr
          clear hr
          go_wp2
          go_roundw
          case rel => exact ⟨pos + (Utf8.decode inner pos).2, dn, acc, false, rfl, rfl, hI2, HI2.out, hbw2, hs2⟩
          case measure =>
            simp only [World.iterPos, HI2.out, HI.out]
            omega
    · have hnx : ∀ ty, (Instr.next (.pointer (some ⟨w.heap.size + 1, 0, none⟩)) true ty).run Tryd.prog wr = _ := fun ty => Lib.run_next_end_at wr (w.heap.size + 1) inner pos ty hit hp
      clear hit
      cases op with
      | true =>
        have hs2 := scan_out hsc (fun h => absurd h hp)
        have HS := Lib.hid hs2
        clear hs2
        go_wp2_with fail
        refine (string_bld w.heap.size w.heap.size _ _ hI (by omega)).mono ?_
        rintro e w4 ⟨rfl, h4, b4, k4⟩
        go_wp2
        refine bodyPost_ret (v := .tuple #[.string ⟨acc.toArray⟩, .int .i64 (s.size : Nat), .bool true]) (by simp [results, Tryd.results40, go_sem]) rfl ⟨?_, hbw.trans b4⟩
        rw [HS.out]
        simp only [Option.map_some, unquoteV]
        have := HIS.out
        rw [show n + 1 + pos = s.size from by omega]
      | false =>
        have hs2 := scan_end hsc hp
        have HS := Lib.hid hs2
        clear hs2
        go_wp2
        refine bodyPost_ret (v := .tuple #[.string ⟨#[]⟩, .int .i64 0, .bool false]) (by simp [results, Tryd.results40, go_sem]) rfl ⟨?_, hbw⟩
        rw [HS.out]
        rfl

theorem unquote_any (s : ByteArray) (n : Int) (w : World) (hs : s.size ≤ 1099511627776) :
    Calls Tryd.prog 40 #[.string s, .int .i64 n] w fun e w' => e = .returned (unquoteV (unquoteO s.data.toList n)) ∧ Below w.heap.size w w' := by
  have hl : s.data.toList.length = s.size := by rw [Lib.size_eq]
  by_cases hn : n < 0 ∨ (s.size : Int) ≤ n
  · have e : unquoteO s.data.toList n = none := by
      unfold unquoteO
      rcases hn with hn | hn
      · rw [if_pos hn]
      · rw [if_neg (by omega), List.getElem?_eq_none (by omega), if_neg (by simp)]
    rw [e]
    exact unquote_no s n w hs hn
  · obtain ⟨m, rfl⟩ := Int.eq_ofNat_of_zero_le (show 0 ≤ n by omega)
    have hm : m < s.size := by omega
    have hg : s.data.toList[m]? = some s[m] := by
      rw [List.getElem?_eq_getElem (by omega)]
      rfl
    by_cases hq : s[m] = 39
    · have e : unquoteO s.data.toList (m : Nat) = (unq (s.data.toList.drop (m + 1))).map (fun x => (x.1, m + 1 + x.2)) := by
        unfold unquoteO
        rw [if_neg (by omega), Int.toNat_natCast, hg, if_pos (by rw [hq])]
      have hex : (s.extract (m + 1) s.size).data.toList = s.data.toList.drop (m + 1) := by rw [Lib.extract_data, take_drop_all]
      rw [e, ← hex]
      refine unquote_yes s (s.extract (m + 1) s.size) m w hs hm ?_ rfl ?_
      · rw [hq]; rfl
      · rw [ByteArray.size_extract]; omega
    · have e : unquoteO s.data.toList (m : Nat) = none := by
        unfold unquoteO
        rw [if_neg (by omega), Int.toNat_natCast, hg, if_neg (by simpa using hq)]
      rw [e]
      refine unquote_other s m w hs hm ?_
      rw [bne_iff_ne]
      intro h
      have h2 : s[m].toNat = 39 := by omega
      exact hq (UInt8.toNat_inj.1 (by rw [h2]; rfl))
end Go.Proofs.YtdbdlgmejddbhaaDoor
