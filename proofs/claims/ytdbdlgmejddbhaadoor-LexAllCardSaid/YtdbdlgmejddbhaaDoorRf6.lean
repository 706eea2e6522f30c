/-
  Contracts of the document's own answers of layer 1: Name, Fold, Quote, Unquote.
-/
import Derived.Test.YtdbdlgmejddbhaaDoorRf5
import Derived.Test.YtdbdlgmejddbhaaDoorRfN
set_option linter.unusedVariables false
namespace Go.Proofs.YtdbdlgmejddbhaaDoor
open Go Go.RowKit
theorem halfFold_step (s : ByteArray) (k : Nat) (h : k < s.size) (hr : 65 ≤ s[k].toNat ∧ s[k].toNat ≤ 90) : halfFold s.data.toList (k + 1) = (halfFold s.data.toList k).set k (UInt8.ofNat (s[k].toNat + 32)) := by
  apply List.ext_getElem?
  intro i
  rw [halfFold_get, List.getElem?_set, halfFold_get, halfFold_length]
  have hl := ba_size_list s
  by_cases h1 : i = k
  · subst h1
    rw [List.getElem?_eq_getElem (by omega), if_pos rfl, if_pos (by omega)]
    simp only [show i < i + 1 from by omega, if_true, Option.map_some, Option.some.injEq]
    unfold foldC
    have e : s.data.toList[i] = s[i] := rfl
    rw [e, if_pos hr]
    apply UInt8.toNat_inj.1
    simp [UInt8.toNat_add]
  · rw [if_neg (by omega)]
    by_cases h2 : i < k
    · simp [h2, show i < k + 1 from by omega]
    · simp [h2, show ¬ i < k + 1 from by omega]
theorem halfFold_skip (s : ByteArray) (k : Nat) (h : k < s.size) (hr : ¬ (65 ≤ s[k].toNat ∧ s[k].toNat ≤ 90)) : halfFold s.data.toList (k + 1) = halfFold s.data.toList k := by
  apply List.ext_getElem?
  intro i
  rw [halfFold_get, halfFold_get]
  have hl := ba_size_list s
  by_cases h1 : i = k
  · subst h1
    rw [List.getElem?_eq_getElem (by omega)]
    simp only [show i < i + 1 from by omega, Nat.lt_irrefl, if_true, if_false, Option.map_some]
    unfold foldC
    have e : s.data.toList[i] = s[i] := rfl
    rw [e, if_neg hr]
  · by_cases h2 : i < k
    · simp [h2, show i < k + 1 from by omega]
    · simp [h2, show ¬ i < k + 1 from by omega]

set_option maxHeartbeats 1600000 in
set_option maxRecDepth 100000 in
theorem rfold_any (s : ByteArray) (w : World) (hs : s.size ≤ 1099511627776) :
    Calls Tryd.prog 50 #[.string s] w fun e w' => e = .returned (.string ⟨(foldL s.data.toList).toArray⟩) ∧ Below w.heap.size w w' := by
  have hl : s.data.toList.length = s.size := by rw [Lib.size_eq]
  obtain ⟨C, cap, hconv, hC, hC2⟩ : ∃ (k cap : Nat), (convert 9 64 (.string s)).run Tryd.prog w = .ok (.slice (some ⟨w.heap.size, 0, none⟩) s.size cap) (w.drew.alloc (.cells (bvs s.data.toList k) 5 ((bvs s.data.toList k).size, (bvs s.data.toList k).size + 1))) ∧ s.size ≤ cap ∧ cap ≤ 9223372036854775807 := by
    refine ⟨grownCap w s.size 0 5 - s.size, grownCap w s.size 0 5, ?_, grownCap_ge w s.size 0 5, ?_⟩
    · have := run_bytes_of_string (P := Tryd.prog) w 9 64 5 s Tryd.underlying9 Tryd.underlying64 Tryd.underlying5
      rw [bytesRow_bvs] at this
      exact this
    · have := grownCap_le_maxLen w s.size 0 5 (by unfold maxLen; omega)
      unfold maxLen at this
      exact this
  have HL := Lib.hid hl
  clear hl
  go_enter Tryd.func50, Tryd.ntmps50
  go_wp2
  clear hconv
  go_loopw [4] (fun i wr => ∃ (k : Nat), k ≤ s.size ∧ i = .int .i64 k ∧ wr.heap[w.heap.size]? = some (.cells (bvs (halfFold s.data.toList k) C) 5 ((bvs s.data.toList C).size, (bvs s.data.toList C).size + 1)) ∧ Below w.heap.size w wr) (fun i _ => s.size - (intOf i).toNat)
  case atStart =>
    have h0 : halfFold s.data.toList 0 = s.data.toList := by simp [halfFold, foldL]
    rw [← h0]
    exact ⟨0, Nat.zero_le _, rfl, heap_alloc_new w _, ((Below.refl _ _).alloc (Nat.le_refl _) _).drew⟩
  case round =>
    obtain ⟨k, hk, rfl, hb, hbw⟩ := hrel
    have HB := Lib.hid hb
    clear hb
    have hls := HL.out
    by_cases hlt : k < s.size
    · have hc : wr.cell? ⟨w.heap.size, k, none⟩ = some (.int .u8 (s[k].toNat : Nat)) := by
        rw [blk_cell HB.out, bvs_get _ _ _ (by rw [halfFold_length]; omega)]
        have h1 := halfFold_get s.data.toList k k
        rw [List.getElem?_eq_getElem (by rw [halfFold_length]; omega), List.getElem?_eq_getElem (by omega)] at h1
        simp at h1
        simp [bv, h1]
        rfl
      have hfz : wr.frozen? ⟨w.heap.size, k, none⟩ = false := blk_frozen HB.out _ (by rw [bvs_size]; omega)
      have h256 : s[k].toNat < 256 := s[k].toNat_lt
      have HLS := Lib.hid hls
      clear hls
      by_cases hr : 65 ≤ s[k].toNat ∧ s[k].toNat ≤ 90
      · have hput := halfFold_step s k hlt hr
        have HP := Lib.hid hput
        obtain ⟨r1, r2⟩ := hr
        have r1' : (65 : Int) ≤ (s[k].toNat : Int) := by omega
        have r2' : (s[k].toNat : Int) ≤ 90 := by omega
        clear hput
        go_wp2
        go_roundw
        case rel =>
          refine ⟨k + 1, by omega, by go_num, ?_, hbw.setCell (Nat.le_refl _) _⟩
          have := blk_set HB.out k (bv (UInt8.ofNat (s[k].toNat + 32)))
          rw [bvs_set _ _ _ _ (by rw [halfFold_length]; have := HLS.out; omega), ← HP.out] at this
          rw [← this]
          congr 3
          unfold bv
          congr 1
          rw [UInt8.toNat_ofNat']
          omega
        case measure => simp [intOf]; omega
      · have hkeep := halfFold_skip s k hlt hr
        have HK := Lib.hid hkeep
        clear hkeep
        by_cases hge : (65 : Int) ≤ (s[k].toNat : Int)
        · have hle : ¬ (s[k].toNat : Int) ≤ 90 := by omega
          go_wp2
          go_roundw
          case rel => exact ⟨k + 1, by omega, by go_num, by rw [HK.out]; exact HB.out, hbw⟩
          case measure => simp [intOf]; omega
        · go_wp2
          go_roundw
          case rel => exact ⟨k + 1, by omega, by go_num, by rw [HK.out]; exact HB.out, hbw⟩
          case measure => simp [intOf]; omega
    · obtain rfl : k = s.size := by omega
      have hfull : halfFold s.data.toList s.size = foldL s.data.toList := by
        unfold halfFold
        rw [List.take_of_length_le (by omega), List.drop_eq_nil_of_le (by omega), List.append_nil]
      have hback := run_convert_bytes_back (P := Tryd.prog) wr 64 9 5 ⟨w.heap.size, 0, none⟩ cap (foldL s.data.toList) Tryd.underlying64 Tryd.underlying5 Tryd.underlying9 (fun j hj => by
        rw [Addr.add_lit, Nat.zero_add, blk_cell HB.out, hfull, bvs_get _ _ _ hj]; rfl)
      rw [show (foldL s.data.toList).length = s.size from by simp [foldL, hls]] at hback
      clear hfull hls
      go_wp2
      go_ret
      exact ⟨rfl, hbw⟩
end Go.Proofs.YtdbdlgmejddbhaaDoor
