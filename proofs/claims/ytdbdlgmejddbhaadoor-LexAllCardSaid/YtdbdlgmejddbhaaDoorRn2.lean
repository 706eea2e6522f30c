/-
  Contracts of package runes that make texts: Fold.
-/
import Derived.Test.YtdbdlgmejddbhaaDoorRn1
import Derived.Lib.OthersKept
set_option linter.unusedVariables false
namespace Go.Proofs.YtdbdlgmejddbhaaDoor
open Go Go.RowKit

/-- A byte with small letters. -/
def foldC (c : UInt8) : UInt8 := if 65 ≤ c.toNat ∧ c.toNat ≤ 90 then c + 32 else c
def foldL (l : List UInt8) : List UInt8 := l.map foldC

theorem blk_set {w : World} {b : Nat} {cs : Array Value} {T : TypeId} {fz : Nat × Nat} (h : w.heap[b]? = some (.cells cs T fz)) (i : Nat) (u : Value) :
    (w.setCell ⟨b, i, none⟩ u).heap[b]? = some (.cells (cs.setIfInBounds i u) T fz) := by
  simp [World.setCell, Array.getElem?_modify, h]
theorem blk_frozen {w : World} {b : Nat} {cs : Array Value} {T : TypeId} {lo hi : Nat} (h : w.heap[b]? = some (.cells cs T (lo, hi))) (i : Nat) (hi' : i < lo) : w.frozen? ⟨b, i, none⟩ = false := by
  simp [World.frozen?, h]
  omega

def bv (c : UInt8) : Value := .int .u8 (c.toNat : Nat)
def bvs (l : List UInt8) (k : Nat) : Array Value := (l.map bv ++ List.replicate k (Value.int .u8 0)).toArray

theorem two_old (w : World) (o x : Obj) : ((w.alloc o).drew.alloc x).heap[w.heap.size]? = some o := by
  rw [Below.heap_alloc _ _ _ (by simp)]
  exact heap_alloc_new w o
theorem two_new (w : World) (o x : Obj) : ((w.alloc o).drew.alloc x).heap[w.heap.size + 1]? = some x := by
  have := heap_alloc_new (w.alloc o).drew x
  simpa using this

theorem bvs_get (l : List UInt8) (k i : Nat) (h : i < l.length) : (bvs l k)[i]? = some (bv l[i]) := by
  unfold bvs
  simp [List.getElem?_append, h]
theorem bvs_size (l : List UInt8) (k : Nat) : (bvs l k).size = l.length + k := by simp [bvs]
theorem bvs_set (l : List UInt8) (k i : Nat) (c : UInt8) (h : i < l.length) : (bvs l k).setIfInBounds i (bv c) = bvs (l.set i c) k := by
  unfold bvs
  apply Array.ext'
  simp only [Array.toList_setIfInBounds]
  rw [List.set_append_left _ _ (by simpa using h), List.map_set]
theorem bytesRow_bvs (s : ByteArray) (cap : Nat) : bytesRow s cap = bvs s.data.toList (cap - s.size) := by
  unfold bytesRow bvs bv
  apply Array.ext'
  simp

/-- The bytes of one code point: where it is a great letter it is one byte; else no byte of it is one. -/
theorem great_width (s : ByteArray) (p : Nat) : (65 ≤ (Utf8.decode s p).1 ∧ (Utf8.decode s p).1 ≤ 90 → (Utf8.decode s p).2 = 1 ∧ bt s p = (Utf8.decode s p).1) ∧
    (¬ (65 ≤ (Utf8.decode s p).1 ∧ (Utf8.decode s p).1 ≤ 90) → ∀ j, j < (Utf8.decode s p).2 → ¬ (65 ≤ bt s (p + j) ∧ bt s (p + j) ≤ 90)) := by
  have hc := decode_cases s p
  unfold goesOn at hc
  rcases hc with ⟨h0, e⟩ | ⟨h0, h1, h2, e⟩ | ⟨h0, h1, h2, h3, c, hc, h4, h5, e⟩ | ⟨h0, h1, h2, h3, h4, c, hc, h5, h6, e⟩ | ⟨h0, e, h1, h2, h3⟩
  all_goals rw [e]; dsimp only
  all_goals refine ⟨fun hx => ⟨by omega, by omega⟩, fun hx j hj => ?_⟩
  all_goals
    have hj : j = 0 ∨ j = 1 ∨ j = 2 ∨ j = 3 := by omega
    rcases hj with rfl | rfl | rfl | rfl
    all_goals first | omega | (rw [Nat.add_zero]; omega)

/-- The bytes ahead of p folded, the others as they were. -/
def halfFold (l : List UInt8) (p : Nat) : List UInt8 := foldL (l.take p) ++ l.drop p
theorem halfFold_length (l : List UInt8) (p : Nat) : (halfFold l p).length = l.length := by simp [halfFold, foldL]; omega
theorem halfFold_get (l : List UInt8) (p i : Nat) : (halfFold l p)[i]? = (l[i]?).map (fun c => if i < p then foldC c else c) := by
  unfold halfFold foldL
  rw [List.getElem?_append]
  simp only [List.length_map, List.length_take, List.getElem?_map, List.getElem?_take, List.getElem?_drop]
  by_cases h : i < p
  · by_cases h2 : i < l.length
    · rw [if_pos (by omega)]; simp [h]
    · rw [if_neg (by omega)]
      have : l[i]? = none := List.getElem?_eq_none (by omega)
      rw [this]
      simp
      omega
  · rw [if_neg (by omega)]
    by_cases h2 : p ≤ l.length
    · rw [show p + (i - min p l.length) = i from by omega]; simp [h]
    · rw [List.getElem?_eq_none (by omega), List.getElem?_eq_none (by omega)]; rfl

theorem halfFold_keep (s : ByteArray) (p : Nat) (h : p < s.size) (hr : ¬ (65 ≤ (Utf8.decode s p).1 ∧ (Utf8.decode s p).1 ≤ 90)) :
    halfFold s.data.toList (p + (Utf8.decode s p).2) = halfFold s.data.toList p := by
  apply List.ext_getElem?
  intro i
  rw [halfFold_get, halfFold_get]
  by_cases h1 : i < p
  · simp [h1, show i < p + (Utf8.decode s p).2 from by omega]
  · by_cases h2 : i < p + (Utf8.decode s p).2
    · have hin := decode_in s p h
      have := (great_width s p).2 hr (i - p) (by omega)
      rw [show p + (i - p) = i from by omega, bt_at s i (by omega)] at this
      rw [List.getElem?_eq_getElem (by rw [← Lib.size_eq]; omega)]
      simp only [h1, h2, if_true, if_false, Option.map_some]
      unfold foldC
      rw [if_neg this]
    · simp [h1, h2]

theorem halfFold_put (s : ByteArray) (p : Nat) (h : p < s.size) (hr : 65 ≤ (Utf8.decode s p).1 ∧ (Utf8.decode s p).1 ≤ 90) :
    halfFold s.data.toList (p + (Utf8.decode s p).2) = (halfFold s.data.toList p).set p (UInt8.ofNat (bt s p + 32)) := by
  have hw := (great_width s p).1 hr
  have hb := bt_at s p h
  rw [hw.1]
  apply List.ext_getElem?
  intro i
  rw [halfFold_get, List.getElem?_set, halfFold_get, halfFold_length]
  have hl : s.data.toList.length = s.size := by rw [Lib.size_eq]
  by_cases h1 : i = p
  · subst h1
    rw [List.getElem?_eq_getElem (by omega), if_pos rfl, if_pos (by omega)]
    simp only [show i < i + 1 from by omega, if_true, Option.map_some, Option.some.injEq]
    unfold foldC
    rw [if_pos (by omega), hb]
    apply UInt8.toNat_inj.1
    simp [UInt8.toNat_add]
  · rw [if_neg (by omega)]
    by_cases h2 : i < p
    · simp [h2, show i < p + 1 from by omega]
    · simp [h2, show ¬ i < p + 1 from by omega]

set_option maxHeartbeats 1600000 in
set_option maxRecDepth 100000 in
theorem fold_any (s : ByteArray) (w : World) (hs : s.size ≤ 1099511627776) :
    Calls Tryd.prog 46 #[.string s] w fun e w' => e = .returned (.string ⟨(foldL s.data.toList).toArray⟩) ∧ Below w.heap.size w w' := by
  have hl : s.data.toList.length = s.size := by rw [Lib.size_eq]
  obtain ⟨C, cap, hconv, hC⟩ : ∃ (k cap : Nat), (convert 9 64 (.string s)).run Tryd.prog w = .ok (.slice (some ⟨w.heap.size, 0, none⟩) s.size cap) (w.drew.alloc (.cells (bvs s.data.toList k) 5 ((bvs s.data.toList k).size, (bvs s.data.toList k).size + 1))) ∧ s.size ≤ cap := by
    refine ⟨grownCap w s.size 0 5 - s.size, grownCap w s.size 0 5, ?_, grownCap_ge w s.size 0 5⟩
    have := run_bytes_of_string (P := Tryd.prog) w 9 64 5 s Tryd.underlying9 Tryd.underlying64 Tryd.underlying5
    rw [bytesRow_bvs] at this
    exact this
  have hconv' := hconv
  go_enter Tryd.func46, Tryd.ntmps46
  go_wp2
  clear hconv hconv'
  go_loopw [] (fun wr => ∃ (pos : Nat), wr.heap[w.heap.size]? = some (.cells (bvs (halfFold s.data.toList pos) C) 5 ((bvs s.data.toList C).size, (bvs s.data.toList C).size + 1)) ∧ wr.heap[w.heap.size + 1]? = some (.stringIter s pos) ∧ Below w.heap.size w wr) (fun wr => s.size - wr.iterPos (w.heap.size + 1))
  case atStart =>
    have h0 : halfFold s.data.toList 0 = s.data.toList := by simp [halfFold, foldL]
    rw [← h0]
    exact ⟨0, two_old w _ _, two_new w _ _, ((Below.refl _ _).alloc (Nat.le_refl _) _).drew.alloc (by simp) _⟩
  case round =>
    obtain ⟨pos, hb, hit, hbw⟩ := hrel
    have hsz : w.heap.size + 1 < wr.heap.size := (Array.getElem?_eq_some_iff.1 hit).1
    by_cases hp : pos < s.size
    · have hnx : ∀ ty, (Instr.next (.pointer (some ⟨w.heap.size + 1, 0, none⟩)) true ty).run Tryd.prog wr = _ := fun ty => Lib.run_next_any_at wr (w.heap.size + 1) s pos ty hit hp
      have hwd := width_pos s pos hp
      have hin := decode_in s pos hp
      have hb1 := (Lib.iterAt_other wr (w.heap.size + 1) w.heap.size s (pos + (Utf8.decode s pos).2) (by omega)).trans hb
      have hit1 := Lib.iterAt_heap wr (w.heap.size + 1) s pos (pos + (Utf8.decode s pos).2) hit
      have hbw1 := Lib.below_iterAt hbw (k := w.heap.size + 1) (by omega) s (pos + (Utf8.decode s pos).2)
      have HB1 := Lib.hid hb1
      have HI1 := Lib.hid hit1
      have HI := Lib.hid hit
      have HB := Lib.hid hb
      clear hb1 hit1 hit hb
      by_cases hr : 65 ≤ (Utf8.decode s pos).1 ∧ (Utf8.decode s pos).1 ≤ 90
      · have hc : (wr.iterAt (w.heap.size + 1) s (pos + (Utf8.decode s pos).2)).cell? ⟨w.heap.size, pos, none⟩ = some (.int .u8 (bt s pos)) := by
          rw [blk_cell HB1.out, bvs_get _ _ _ (by rw [halfFold_length]; omega)]
          have h1 := halfFold_get s.data.toList pos pos
          rw [List.getElem?_eq_getElem (by rw [halfFold_length]; omega), List.getElem?_eq_getElem (by omega)] at h1
          simp at h1
          simp [bv, h1, bt_at s pos hp]
        have hfz : (wr.iterAt (w.heap.size + 1) s (pos + (Utf8.decode s pos).2)).frozen? ⟨w.heap.size, pos, none⟩ = false :=
          blk_frozen HB1.out _ (by rw [bvs_size]; omega)
        have hput := halfFold_put s pos hp hr
        have HP := Lib.hid hput
        have hw := (great_width s pos).1 hr
        have hbt : 65 ≤ bt s pos ∧ bt s pos ≤ 90 := by omega
        have hge : (65 : Int) ≤ (Utf8.decode s pos).1 := by omega
        have hle : ((Utf8.decode s pos).1 : Int) ≤ 90 := by omega
        have hb1 := hbt.1
        have hb2 := hbt.2
        clear hput hw hbt
        go_wp2
        go_roundw
        case rel =>
          refine ⟨pos + (Utf8.decode s pos).2, ?_, ?_, hbw1.setCell (Nat.le_refl _) _⟩
          · have := blk_set HB1.out pos (bv (UInt8.ofNat (bt s pos + 32)))
            rw [bvs_set _ _ _ _ (by rw [halfFold_length]; omega), ← HP.out] at this
            rw [← this]
            congr 3
            unfold bv
            congr 1
            rw [UInt8.toNat_ofNat']
            omega
          · rw [Below.heap_setCell _ _ _ _ (by simp)]
            exact HI1.out
        case measure =>
          simp only [World.iterPos]
          rw [Below.heap_setCell _ _ _ _ (by simp), HI1.out, HI.out]
          simp only
          omega
      · have hkeep := halfFold_keep s pos hp hr
        have HK := Lib.hid hkeep
        clear hkeep
        by_cases hge : (65 : Int) ≤ (Utf8.decode s pos).1
        · have hle : ¬ ((Utf8.decode s pos).1 : Int) ≤ 90 := by omega
          go_wp2
          go_roundw
          case rel => exact ⟨pos + (Utf8.decode s pos).2, by rw [HK.out]; exact HB1.out, HI1.out, hbw1⟩
          case measure =>
            simp only [World.iterPos, HI1.out, HI.out]
            omega
        · go_wp2
          go_roundw
          case rel => exact ⟨pos + (Utf8.decode s pos).2, by rw [HK.out]; exact HB1.out, HI1.out, hbw1⟩
          case measure =>
            simp only [World.iterPos, HI1.out, HI.out]
            omega
    · have hnx : ∀ ty, (Instr.next (.pointer (some ⟨w.heap.size + 1, 0, none⟩)) true ty).run Tryd.prog wr = _ := fun ty => Lib.run_next_end_at wr (w.heap.size + 1) s pos ty hit hp
      have hfull : halfFold s.data.toList pos = foldL s.data.toList := by
        unfold halfFold
        rw [List.take_of_length_le (by omega), List.drop_eq_nil_of_le (by omega), List.append_nil]
      have hback := run_convert_bytes_back (P := Tryd.prog) wr 64 9 5 ⟨w.heap.size, 0, none⟩ cap (foldL s.data.toList) Tryd.underlying64 Tryd.underlying5 Tryd.underlying9 (fun j hj => by
        rw [Addr.add_lit, Nat.zero_add, blk_cell hb, hfull, bvs_get _ _ _ hj]; rfl)
      rw [show (foldL s.data.toList).length = s.size from by simp [foldL, hl]] at hback
      go_wp2
      go_ret
      exact ⟨rfl, hbw⟩
end Go.Proofs.YtdbdlgmejddbhaaDoor
