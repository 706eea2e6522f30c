/-
  The document's own Cmp of cells.
-/
import Derived.Test.YtafbbojfifcncaaRc1
set_option linter.unusedVariables false
set_option linter.unusedSimpArgs false
namespace Go.Proofs.Ytafbbojfifcncaa
open Go Go.RowKit

theorem RdZ.lit_at (w : World) (l : List Int) (t : TypeId) (g : Nat) (hg : g = w.heap.size) : RdZ (w.alloc (.cells (l.map (.int .i64)).toArray t)) (g + 1) (some ⟨g, 0, none⟩) l.length l := by
  subst hg
  refine ⟨rfl, fun _ => ⟨_, 0, rfl, by omega, fun j hj => ?_⟩⟩
  simp [hj]
set_option maxHeartbeats 8000000 in
theorem rcmp_any (s t : ByteArray) (d f : Bool) (a b e g : Int) (w : World) :
    Calls Try.prog 92 #[.agg #[.string s, .bool d, .int .i64 a, .int .i64 e], .agg #[.string t, .bool f, .int .i64 b, .int .i64 g]] w fun x w' => x = .returned (.int .i64 (Ce.cmp ⟨s, d, a, e⟩ ⟨t, f, b, g⟩)) ∧ Below w.heap.size w w' := by
  have hr : Ce.cmp ⟨s, d, a, e⟩ ⟨t, f, b, g⟩ = orI [icmp a b, bcmp d f, tcmp s t, bcmp (e == 0) (g == 0), icmp e g] := by
    simp only [Ce.cmp, orI, show ∀ x, lexI x 0 = x from fun x => by unfold lexI; split <;> omega]
  rw [hr]
  obtain ⟨d', hd'⟩ : ∃ n : Int, (if d = true then 1 else 0) = n := ⟨_, rfl⟩
  obtain ⟨f', hf'⟩ : ∃ n : Int, (if f = true then 1 else 0) = n := ⟨_, rfl⟩
  obtain ⟨e', he'⟩ : ∃ n : Int, (if (e == 0) = true then 1 else 0) = n := ⟨_, rfl⟩
  obtain ⟨g', hg'⟩ : ∃ n : Int, (if (g == 0) = true then 1 else 0) = n := ⟨_, rfl⟩
  obtain ⟨x1, h1⟩ : ∃ n, icmp a b = n := ⟨_, rfl⟩
  obtain ⟨x2, h2⟩ : ∃ n, icmp d' f' = n := ⟨_, rfl⟩
  obtain ⟨x3, h3⟩ : ∃ n, tcmp s t = n := ⟨_, rfl⟩
  obtain ⟨x4, h4⟩ : ∃ n, icmp e' g' = n := ⟨_, rfl⟩
  obtain ⟨x5, h5⟩ : ∃ n, icmp e g = n := ⟨_, rfl⟩
  rw [← bits_cmp d f, ← bits_cmp (e == 0) (g == 0), hd', hf', he', hg', h1, h2, h3, h4, h5]
  have rd := RdZ.lit_at ((w.alloc (.cells #[.string s, .bool d, .int .i64 a, .int .i64 e] 33)).alloc (.cells #[.string t, .bool f, .int .i64 b, .int .i64 g] 33)) [x1, x2, x3, x4, x5] 109 (w.heap.size + 2) (by simp)
  have RDL := Lib.hid rd
  obtain ⟨v, hv⟩ : ∃ v : Int, orI [x1, x2, x3, x4, x5] = v := ⟨_, rfl⟩
  rw [hv]
  obtain ⟨L, hL⟩ : ∃ L, [x1, x2, x3, x4, x5] = L := ⟨_, rfl⟩
  have hll : L.length = 5 := by rw [← hL]; rfl
  rw [hL] at hv
  have HV := Lib.hid hv
  have HL := Lib.hid hll
  have HLE := Lib.hid hL
  clear hv hll hL
  obtain ⟨eb, heb⟩ : ∃ r, (e == 0) = r := ⟨_, rfl⟩
  obtain ⟨gb, hgb⟩ : ∃ r, (g == 0) = r := ⟨_, rfl⟩
  rw [heb] at he'
  rw [hgb] at hg'
  have D1 := Lib.hid hd'; have D2 := Lib.hid hf'; have D3 := Lib.hid he'; have D4 := Lib.hid hg'
  have X1 := Lib.hid h1; have X2 := Lib.hid h2; have X3 := Lib.hid h3; have X4 := Lib.hid h4; have X5 := Lib.hid h5
  clear hr rd h1 h2 h3 h4 h5 hd' hf' he' hg'
  have p1 := (CeAt.new w s d a e).alloc (by simp) (.cells #[.string t, .bool f, .int .i64 b, .int .i64 g] 33)
  have p2 := CeAt.new (w.alloc (.cells #[.string s, .bool d, .int .i64 a, .int .i64 e] 33)) t f b g
  obtain ⟨c0, c1, c2, c3⟩ := p1
  obtain ⟨k0, k1, k2, k3⟩ := p2
  have bz := ((Below.refl w.heap.size w).alloc (Nat.le_refl _) (.cells #[.string s, .bool d, .int .i64 a, .int .i64 e] 33)).alloc (by simp) (.cells #[.string t, .bool f, .int .i64 b, .int .i64 g] 33)
  have BZ := Lib.hid bz
  simp only [World.size_alloc] at c0 c1 c2 c3 k0 k1 k2 k3
  clear bz
  obtain ⟨W2, hW2⟩ : ∃ W2, (w.alloc (.cells #[.string s, .bool d, .int .i64 a, .int .i64 e] 33)).alloc (.cells #[.string t, .bool f, .int .i64 b, .int .i64 g] 33) = W2 := ⟨_, rfl⟩
  have ka : ∀ (i q : Nat) (o : Obj) (v : Value), q < w.heap.size + 2 → W2.cell? ⟨q, i, none⟩ = some v → (W2.drew.alloc o).cell? ⟨q, i, none⟩ = some v := fun i q o v hq h =>
    (World.cell?_alloc_lt W2.drew o ⟨q, i, none⟩ (by rw [← hW2]; show q < ((w.alloc (.cells #[.string s, .bool d, .int .i64 a, .int .i64 e] 33)).alloc (.cells #[.string t, .bool f, .int .i64 b, .int .i64 g] 33)).heap.size; simp; omega)).trans h
  rw [hW2] at c0 c1 c2 c3 k0 k1 k2 k3
  have ka0 := fun o => ka 0 w.heap.size o _ (by omega) c0
  have ka1 := fun o => ka 1 w.heap.size o _ (by omega) c1
  have ka2 := fun o => ka 2 w.heap.size o _ (by omega) c2
  have ka3 := fun o => ka 3 w.heap.size o _ (by omega) c3
  have kb0 := fun o => ka 0 (w.heap.size + 1) o _ (by omega) k0
  have kb1 := fun o => ka 1 (w.heap.size + 1) o _ (by omega) k1
  have kb2 := fun o => ka 2 (w.heap.size + 1) o _ (by omega) k2
  have kb3 := fun o => ka 3 (w.heap.size + 1) o _ (by omega) k3
  subst hW2
  clear ka
  go_enter Try.func92, Try.ntmps92
  go_upto_region 1 with fail
  go_cut [5] (fun s5 wx => s5 = .pointer (some ⟨w.heap.size + 2, 0, none⟩) ∧ RdZ wx (w.heap.size + 3) (some ⟨w.heap.size + 2, 0, none⟩) 5 L ∧ Below w.heap.size w wx ∧ w.heap.size + 3 ≤ wx.heap.size)
  case first =>
    go_region_held3 (fun w' => (w'.cell? ⟨w.heap.size, 0, none⟩ = some (.string s) ∧ w'.cell? ⟨w.heap.size, 1, none⟩ = some (.bool d) ∧ w'.cell? ⟨w.heap.size, 2, none⟩ = some (.int .i64 a) ∧ w'.cell? ⟨w.heap.size, 3, none⟩ = some (.int .i64 e)) ∧ (w'.cell? ⟨w.heap.size + 1, 0, none⟩ = some (.string t) ∧ w'.cell? ⟨w.heap.size + 1, 1, none⟩ = some (.bool f) ∧ w'.cell? ⟨w.heap.size + 1, 2, none⟩ = some (.int .i64 b) ∧ w'.cell? ⟨w.heap.size + 1, 3, none⟩ = some (.int .i64 g))) (refine ⟨⟨?_, ?_, ?_, ?_⟩, ?_, ?_, ?_, ?_⟩ <;> first | assumption | exact ka0 _ | exact ka1 _ | exact ka2 _ | exact ka3 _ | exact kb0 _ | exact kb1 _ | exact kb2 _ | exact kb3 _) (first
      | (go_at_call 98; refine (rorder_any _ _ _).mono ?_; rintro x w1 ⟨rfl, rfl⟩; first | rw [X1.out] | rw [X2.out] | rw [X4.out] | rw [X5.out])
      | (go_at_call 100; refine (rtext_any _ _ _).mono ?_; rintro x w1 ⟨rfl, rfl⟩; rw [X3.out])
      | (go_at_call 99; refine (rbit_any _ _).mono ?_; rintro x w1 ⟨rfl, rfl⟩; first | rw [D1.out] | rw [D2.out] | rw [D3.out] | rw [D4.out]))
    all_goals go_wp2_with fail
    all_goals go_meet
    all_goals exact ⟨rfl, by rw [← HLE.out]; exact RDL.out, (BZ.out.alloc (by simp; omega) _).drew, by simp⟩
  case rest =>
    obtain ⟨rfl, hrd, hbe, hsz⟩ := hcut
    clear ka0 ka1 ka2 ka3 kb0 kb1 kb2 kb3 c0 c1 c2 c3 k0 k1 k2 k3
    clear RDL BZ X1 X2 X3 X4 X5 D1 D2 D3 D4 HLE
    go_wp2
    go_loopw [6] (fun i wr => ∃ k : Nat, k ≤ 5 ∧ i = .int .i64 k ∧ orI (L.drop k) = v ∧ RdZ wr (w.heap.size + 3) (some ⟨w.heap.size + 2, 0, none⟩) 5 L ∧ Below w.heap.size w wr) (fun i _ => 5 - (intOf i).toNat)
    case atStart => exact ⟨0, Nat.zero_le _, rfl, HV.out, hrd, hbe⟩
    case round =>
      clear hrd hbe hsz
      obtain ⟨k, hk, rfl, hz, hrd, hb⟩ := hrel
      have HZ := Lib.hid hz
      have HB := Lib.hid hb
      have HRD := Lib.hid hrd
      clear hz hb
      by_cases hlt : k < 5
      · have i1 : (k : Int) < 5 := by omega
        have i0 : (0 : Int) ≤ k := by omega
        have hkl : k < L.length := by rw [HL.out]; exact hlt
        have hd : L.drop k = L[k] :: L.drop (k + 1) := List.drop_eq_getElem_cons hkl
        obtain ⟨q, o, hqo, _, hc⟩ := hrd.2 (by omega)
        injection hqo with hqo
        injection hqo with hq ho
        subst hq
        subst ho
        have hck := hc k hkl
        rw [Nat.zero_add] at hck
        obtain ⟨x, hx⟩ : ∃ x, L[k] = x := ⟨_, rfl⟩
        rw [hx] at hck hd
        have HD := Lib.hid hd
        clear hd hc hx hrd
        by_cases h0 : x = 0
        · subst h0
          have hz2 : orI (L.drop (k + 1)) = v := by rw [← HZ.out, HD.out]; rfl
          have HZ2 := Lib.hid hz2
          clear hz2
          go_wp2
          go_roundw
          case rel => exact ⟨k + 1, by omega, by go_num, HZ2.out, HRD.out.below ⟨rfl, rfl, rfl, Nat.le_refl _, fun _ _ => rfl⟩, HB.out.trans ⟨rfl, rfl, rfl, Nat.le_refl _, fun _ _ => rfl⟩⟩
          case measure => simp [intOf]; omega
        · have hv : v = x := by rw [← HZ.out, HD.out]; show lexI x _ = x; unfold lexI; rw [if_neg h0]
          subst hv
          have hne : (v != 0) = true := by rw [bne_iff_ne]; exact h0
          go_wp2
          go_ret
          exact ⟨rfl, HB.out.trans ⟨rfl, rfl, rfl, Nat.le_refl _, fun _ _ => rfl⟩⟩
      · obtain rfl : k = 5 := by omega
        have hf : v = 0 := by
          rw [← HZ.out, List.drop_of_length_le (by rw [HL.out]; exact Nat.le_refl _)]
          rfl
        subst hf
        go_wp2
        go_ret
        exact ⟨rfl, HB.out⟩
end Go.Proofs.Ytafbbojfifcncaa
