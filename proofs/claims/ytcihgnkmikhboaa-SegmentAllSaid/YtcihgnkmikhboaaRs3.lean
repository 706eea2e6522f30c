/-
  Contracts of the document's own answers, chapter 4, third part: one.
-/
import Derived.Test.YtcihgnkmikhboaaRs2
import Derived.Laws.DeepStrings4
set_option linter.unusedVariables false
set_option linter.unusedSimpArgs false
namespace Go.Proofs.Ytcihgnkmikhboaa
open Go Go.RowKit

/-- Where one stands: from q it has come to k, the pieces so far are a. -/
structure Gss (s : List UInt8) (q k : Nat) (o : Bool) (a : List UInt8) : Prop where
  le : q ≤ k
  pl : k ≤ s.length
  get : ∀ b, put q b <+: s.drop q → ∃ c, b = a ++ c ∧ frm k o c <+: s.drop k ∧ (put q b).length = (k - q) + (frm k o c).length
theorem Gss.start {s : List UInt8} {q : Nat} (h : q ≤ s.length) : Gss s q q true [] := ⟨Nat.le_refl _, h, fun b hb => ⟨b, rfl, hb, by unfold put; omega⟩⟩
theorem pc_parts {k : UInt8} {x t : List UInt8} (h : pc k x <+: t) (hx : x.length < 256) : t[0]? = some k ∧ (∃ b, t[1]? = some b ∧ b.toNat = x.length) ∧ (t.drop 6).take x.length = x ∧ 6 + x.length ≤ t.length := by
  obtain ⟨u, hu⟩ := h
  obtain ⟨u2, hu2⟩ := pc_front ⟨u, hu⟩
  refine ⟨by rw [hu2]; rfl, ⟨UInt8.ofNat x.length, by rw [hu2]; rfl, by rw [UInt8.toNat_ofNat']; omega⟩, ?_, ?_⟩
  · rw [← hu, pc, List.append_assoc, List.drop_left' (mrk_length _ _), List.take_left]
  · rw [← hu, List.length_append, pc_length]; omega
theorem zero_at {t : List UInt8} {g j : Nat} (h : List.replicate g 0 <+: t) (hj : j < g) : t[j]? = some 0 := by
  obtain ⟨u, rfl⟩ := h
  rw [List.getElem?_append_left (by rw [List.length_replicate]; exact hj), List.getElem?_replicate, if_pos hj]
section
variable {s : List UInt8} {q k : Nat} {o : Bool} {a : List UInt8}
theorem Gss.noGap (h : Gss s q k o a) {j : Nat} (hj : j < gap k) (hz : s[k + j]? ≠ some 0) (b : List UInt8) : ¬ put q b <+: s.drop q := by
  intro hb
  obtain ⟨c, _, h2, _⟩ := h.get b hb
  have := zero_at ((List.prefix_append _ _).trans h2) hj
  rw [List.getElem?_drop] at this
  exact hz this
theorem Gss.parts (h : Gss s q k o a) {b : List UInt8} (hb : put q b <+: s.drop q) :
    ∃ e x, x.length ≤ rm k ∧ pc (pk o e) x <+: s.drop (k + gap k) ∧ (e = true → b = a ++ x ∧ q + (put q b).length = k + gap k + 6 + x.length) ∧
      (e = false → ∃ d, b = (a ++ x) ++ d ∧ frm (k + gap k + 6 + x.length) false d <+: s.drop (k + gap k + 6 + x.length) ∧ (put q b).length = (k + gap k + 6 + x.length - q) + (frm (k + gap k + 6 + x.length) false d).length) := by
  obtain ⟨c, rfl, h2, h3⟩ := h.get b hb
  have h0 := h.le
  have hrm := rm_pos k
  have hd : ∀ z : List UInt8, frm k o c = List.replicate (gap k) 0 ++ z → z <+: s.drop (k + gap k) := by
    intro z hz
    rw [hz] at h2
    obtain ⟨u, hu⟩ := h2
    refine ⟨u, ?_⟩
    rw [← List.drop_drop, ← hu, List.append_assoc, List.drop_left' (by rw [List.length_replicate])]
  by_cases hc : c.length ≤ rm k
  · have e := frm_short (p := k) (o := o) hc
    refine ⟨true, c, hc, hd _ e, fun _ => ⟨rfl, ?_⟩, fun he => by cases he⟩
    rw [h3, e, List.length_append, List.length_replicate, pc_length]
    omega
  · have e := frm_long (p := k) (o := o) (c := c) (by omega)
    have hl : (c.take (rm k)).length = rm k := by rw [List.length_take]; omega
    have h4 := hd _ e
    refine ⟨false, c.take (rm k), by omega, (List.prefix_append _ _).trans h4, fun he => (by cases he), fun _ => ⟨c.drop (rm k), ?_, ?_, ?_⟩⟩
    · rw [List.append_assoc, List.take_append_drop]
    · rw [hl]
      obtain ⟨u, hu⟩ := h4
      refine ⟨u, ?_⟩
      have e5 : s.drop (k + gap k + 6 + rm k) = (s.drop (k + gap k)).drop (6 + rm k) := by
        rw [List.drop_drop]
        congr 1
        omega
      rw [e5, ← hu, List.append_assoc, List.drop_left' (by rw [pc_length, hl])]
    · rw [h3, e, hl, List.length_append, List.length_append, List.length_replicate, pc_length, hl]
      omega
theorem Gss.noShort (h : Gss s q k o a) (hs : s.length < k + gap k + 6) (b : List UInt8) : ¬ put q b <+: s.drop q := by
  intro hb
  obtain ⟨e, x, h1, h2, _⟩ := h.parts hb
  have := (pc_parts h2 (by have := rm_pos k; omega)).2.2.2
  rw [List.length_drop] at this
  omega
theorem Gss.noOver (h : Gss s q k o a) {y : UInt8} (hy : s[k + gap k + 1]? = some y) (hs : s.length < k + gap k + 6 + y.toNat) (b : List UInt8) : ¬ put q b <+: s.drop q := by
  intro hb
  obtain ⟨e, x, h1, h2, _⟩ := h.parts hb
  obtain ⟨_, ⟨z, h3, h4⟩, _, h5⟩ := pc_parts h2 (by have := rm_pos k; omega)
  rw [List.getElem?_drop, hy] at h3
  injection h3 with h3
  subst h3
  rw [List.length_drop] at h5
  omega
theorem Gss.last (h : Gss s q k o a) {y z : UInt8} (hz : s[k + gap k]? = some z) (hy : s[k + gap k + 1]? = some y) (hl : z = 1 ∨ z = 4) {b : List UInt8} (hb : put q b <+: s.drop q) :
    b = a ++ ((s.drop (k + gap k)).drop 6).take y.toNat ∧ q + (put q b).length = k + gap k + 6 + y.toNat := by
  obtain ⟨e, x, h1, h2, h6, h7⟩ := h.parts hb
  obtain ⟨h8, ⟨z', h3, h4⟩, h9, h5⟩ := pc_parts h2 (by have := rm_pos k; omega)
  rw [List.getElem?_drop, hy] at h3
  injection h3 with h3
  subst h3
  rw [List.getElem?_drop, Nat.add_zero, hz] at h8
  injection h8 with h8
  have he : e = true := (pk_ends o e).1 (by rw [← h8]; exact hl)
  rw [h4, h9]
  exact h6 he
theorem Gss.more (h : Gss s q k o a) {y z : UInt8} (hz : s[k + gap k]? = some z) (hy : s[k + gap k + 1]? = some y) (hl : ¬ (z = 1 ∨ z = 4)) (hs : k + gap k + 6 + y.toNat ≤ s.length) :
    Gss s q (k + gap k + 6 + y.toNat) false (a ++ ((s.drop (k + gap k)).drop 6).take y.toNat) := by
  have h0 := h.le
  refine ⟨by omega, hs, fun b hb => ?_⟩
  obtain ⟨e, x, h1, h2, h6, h7⟩ := h.parts hb
  obtain ⟨h8, ⟨z', h3, h4⟩, h9, h5⟩ := pc_parts h2 (by have := rm_pos k; omega)
  rw [List.getElem?_drop, hy] at h3
  injection h3 with h3
  subst h3
  rw [List.getElem?_drop, Nat.add_zero, hz] at h8
  injection h8 with h8
  have he : e = false := by
    cases e with
    | false => rfl
    | true => exact absurd ((pk_ends o true).2 rfl) (by rw [← h8]; exact hl)
  rw [h4, h9]
  exact h7 he
end

/-- What one hands back. -/
def OneR (s : List UInt8) (q : Nat) (w : World) (e : Ending) (w' : World) : Prop :=
  (∃ x : ByteArray, e = .returned (.tuple #[.string x, .int .i64 ((q + (put q x.data.toList).length : Nat))]) ∧ put q x.data.toList <+: s.drop q ∨ (e = .returned (.tuple #[.string ⟨#[]⟩, .int .i64 (-1)]) ∧ ∀ b, ¬ put q b <+: s.drop q)) ∧ Below w.heap.size w w'
theorem OneR.no {s : List UInt8} {q : Nat} {w w' : World} (hb : Below w.heap.size w w') (h : ∀ b, ¬ put q b <+: s.drop q) : OneR s q w (.returned (.tuple #[.string ⟨#[]⟩, .int .i64 (-1)])) w' :=
  ⟨⟨⟨#[]⟩, Or.inr ⟨rfl, h⟩⟩, hb⟩
theorem sl_str (s : ByteArray) (i j : Int) (a b : Nat) (ei : i = (a : Nat)) (ej : j = (b : Nat)) (h1 : a ≤ b) (h2 : b ≤ s.size) (wx : World) :
    (Instr.slice 9 (.string s) (some (.int .i64 i)) (some (.int .i64 j)) none).run Try.prog wx = .ok (.string (s.extract a b)) wx := by
  subst ei
  subst ej
  rw [run_slice_string_if (P := Try.prog) (h := Try.underlying9), if_pos (by omega), if_pos (by omega), Int.toNat_natCast, Int.toNat_natCast]
theorem rput_as (x : Int) (n : Nat) (s q : ByteArray) (w : World) (hx : x = (n : Nat)) (hn : n ≤ 1000000000000) (hs : s.size ≤ 1000000000000) (hq : q.data.toList = put n s.data.toList) :
    Calls Try.prog 12 #[.int .i64 x, .string s] w fun e w' => e = .returned (.string q) ∧ Below w.heap.size w w' := by
  rw [hx]
  refine (rput_any n s w hn hs).mono ?_
  rintro e w' ⟨y, he, hy, hb⟩
  exact ⟨by rw [he, ba_ext (hy.trans hq.symm)], hb⟩

set_option maxHeartbeats 4000000 in
set_option maxRecDepth 100000 in
theorem rone_any (s : ByteArray) (q : Nat) (w : World) (hq : q ≤ s.size) (hs : s.size ≤ 1000000) :
    Calls Try.prog 17 #[.string s, .int .i64 (q : Nat)] w (OneR s.data.toList q w) := by
  have hsl : s.data.toList.length = s.size := (Lib.size_eq s).symm
  have HSL := Lib.hid hsl
  have hst := Gss.start (s := s.data.toList) (q := q) (by rw [hsl]; exact hq)
  have HST := Lib.hid hst
  clear hsl hst
  go_enter Try.func17, Try.ntmps17
  go_wp2
  go_loop [6, 7] (fun v6 v7 => ∃ (a : ByteArray) (k : Nat) (o : Bool), v6 = .string a ∧ v7 = .int .i64 k ∧ a.size ≤ k ∧ k ≤ s.size ∧ Gss s.data.toList q k o a.data.toList) (fun _ v7 => s.size - (intOf v7).toNat)
  case atStart => exact ⟨⟨#[]⟩, q, true, rfl, rfl, Nat.zero_le _, hq, HST.out⟩
  case round =>
    obtain ⟨a, k, o, rfl, rfl, ha, hk, hG⟩ := hrel
    have HG := Lib.hid hG
    obtain ⟨g, hg⟩ : ∃ g, gap k = g := ⟨_, rfl⟩
    have hg6 : g ≤ 6 := by rw [← hg]; exact gap_le k
    have HGP := Lib.hid hg
    clear hG hg
    go_wp2_with fail
    refine (rgap_int _ k g _ (by omega) rfl HGP.out).mono ?_
    rintro e w1 ⟨rfl, rfl⟩
    go_wp2_with fail
    go_loop [7, 8] (fun v7 v8 => ∃ (p j : Nat), v7 = .int .i64 p ∧ v8 = .int .i64 j ∧ k ≤ p ∧ p + j = k + g ∧ p ≤ s.size ∧ List.replicate (p - k) 0 <+: s.data.toList.drop k) (fun _ v8 => (intOf v8).toNat)
    case atStart => exact ⟨k, g, rfl, rfl, Nat.le_refl _, rfl, hk, by rw [Nat.sub_self]; exact List.nil_prefix⟩
    case round =>
      obtain ⟨p, j, rfl, rfl, hkp, hpj, hps, hzz⟩ := hrel
      have HZZ := Lib.hid hzz
      clear hzz
      by_cases hj : 0 < j
      · by_cases hend : s.size ≤ p
        · have hno := HG.out.noGap (j := p - k) (by rw [HGP.out]; omega) (by rw [show k + (p - k) = p from by omega, List.getElem?_eq_none (by rw [HSL.out]; exact hend)]; intro h; cases h)
          have HNO := Lib.hid hno
          clear hno
          go_wp2
          go_ret2
          exact OneR.no (Below.refl _ _) HNO.out
        · have hpl : p < s.data.toList.length := by rw [HSL.out]; omega
          have hplt : p < s.size := by omega
          have ek : s.data.toList[p] = s[p] := rfl
          have hbk := s[p].toNat_lt
          by_cases h0 : s[p] = 0
          · have hb0 : ((s[p].toNat : Int) != 0) = false := by rw [h0]; rfl
            have hz2 : List.replicate (p + 1 - k) 0 <+: s.data.toList.drop k := by
              obtain ⟨u, hu⟩ := HZZ.out
              have hu2 : u = s.data.toList.drop p := by
                have e1 : (s.data.toList.drop k).drop (p - k) = u := by rw [← hu, List.drop_left' (by rw [List.length_replicate])]
                rw [← e1, List.drop_drop]
                congr 1
                omega
              rw [List.drop_eq_getElem_cons hpl, ek, h0] at hu2
              refine ⟨s.data.toList.drop (p + 1), ?_⟩
              rw [← hu, hu2, show p + 1 - k = (p - k) + 1 from by omega, List.replicate_succ', List.append_assoc]
              rfl
            have HZ2 := Lib.hid hz2
            clear hz2 h0 ek
            go_wp2
            go_round
            case rel => exact ⟨p + 1, j - 1, by go_num, by go_num, by omega, by omega, by omega, HZ2.out⟩
            case measure => simp [intOf]; omega
          · have hb0 : ((s[p].toNat : Int) != 0) = true := by
              rw [bne_iff_ne]
              intro e
              exact h0 (UInt8.toNat_inj.1 (by rw [show s[p].toNat = 0 from by omega]; rfl))
            have hno := HG.out.noGap (j := p - k) (by rw [HGP.out]; omega) (by
              rw [show k + (p - k) = p from by omega, List.getElem?_eq_getElem hpl, ek]
              intro h
              injection h with h
              exact h0 h)
            have HNO := Lib.hid hno
            clear hno h0 ek
            go_wp2
            go_ret2
            exact OneR.no (Below.refl _ _) HNO.out
      · obtain rfl : j = 0 := by omega
        obtain rfl : p = k + g := by omega
        obtain ⟨p, hp⟩ : ∃ p, k + g = p := ⟨_, rfl⟩
        have HP := Lib.hid hp
        have hpg : k + gap k = p := by rw [HGP.out, hp]
        rw [hp] at hps ⊢
        have hkp2 : k ≤ p := by omega
        clear hp hkp hpj
        by_cases hsh : s.size < p + 6
        · have t1 : decide ((s.size : Int) - (p : Nat) < 6) = true := by simp; omega
          have hno := HG.out.noShort (by rw [hpg, HSL.out]; exact hsh)
          have HNO := Lib.hid hno
          clear hno hpg
          go_wp2
          go_ret2
          exact OneR.no (Below.refl _ _) HNO.out
        have t1 : decide ((s.size : Int) - (p : Nat) < 6) = false := by simp; omega
        have hp0 : p < s.size := by omega
        have hp1 : p + 1 < s.size := by omega
        have hy : s.data.toList[k + gap k + 1]? = some s[p + 1] := by
          rw [hpg, List.getElem?_eq_getElem (by rw [HSL.out]; exact hp1)]
          rfl
        have hz : s.data.toList[k + gap k]? = some s[p] := by
          rw [hpg, List.getElem?_eq_getElem (by rw [HSL.out]; exact hp0)]
          rfl
        have hb1 := s[p + 1].toNat_lt
        have hb0 := s[p].toNat_lt
        by_cases hov : s.size < p + 6 + s[p + 1].toNat
        · have t2 : decide ((s.size : Int) - (p : Nat) - 6 < (s[p + 1].toNat : Nat)) = true := by simp; omega
          have hno := HG.out.noOver hy (by rw [hpg, HSL.out]; exact hov)
          have HNO := Lib.hid hno
          clear hno hpg hy hz
          go_wp2
          go_ret2
          exact OneR.no (Below.refl _ _) HNO.out
        have t2 : decide ((s.size : Int) - (p : Nat) - 6 < (s[p + 1].toNat : Nat)) = false := by simp; omega
        obtain ⟨x, hx⟩ : ∃ x : ByteArray, s.extract (p + 6) (p + 6 + s[p + 1].toNat) = x := ⟨_, rfl⟩
        have hxl : x.data.toList = ((s.data.toList.drop (k + gap k)).drop 6).take s[p + 1].toNat := by
          rw [← hx, Lib.extract_data, hpg, List.drop_drop, Nat.add_sub_cancel_left]
        have hxz : x.size = s[p + 1].toNat := by
          rw [Lib.size_eq, hxl, List.length_take, List.length_drop, List.length_drop, HSL.out, hpg]
          omega
        have hsl1 : ∀ wx : World, (Instr.slice 9 (.string s) (some (.int .i64 ((p : Int) + 6))) (some (.int .i64 ((p : Int) + 6 + (s[p + 1].toNat : Nat)))) none).run Try.prog wx = .ok (.string x) wx := by
          intro wx
          rw [sl_str s _ _ (p + 6) (p + 6 + s[p + 1].toNat) (by omega) (by omega) (by omega) (by omega), hx]
        obtain ⟨y, hya⟩ : ∃ y : ByteArray, a ++ x = y := ⟨_, rfl⟩
        have hadd : ∀ wx : World, (Op.stringOp .add a x).run Try.prog wx = .ok (.string y) wx := by
          intro wx; rw [run_string_add_sum wx a x (by omega), hya]
        have hyl : y.data.toList = a.data.toList ++ ((s.data.toList.drop (k + gap k)).drop 6).take s[p + 1].toNat := by rw [← hya, ← hxl]; simp
        have hyz : y.size ≤ p + 6 + s[p + 1].toNat := by rw [← hya, ByteArray.size_append, hxz]; omega
        have hin : p + 6 + s[p + 1].toNat ≤ s.size := by omega
        have u1 : ((s[p].toNat : Int) == 1) = decide (s[p] = 1) := u8_eq s[p] 1 (by omega)
        have u4 : ((s[p].toNat : Int) == 4) = decide (s[p] = 4) := u8_eq s[p] 4 (by omega)
        rcases (show s[p] = 1 ∨ (s[p] ≠ 1 ∧ s[p] = 4) ∨ (s[p] ≠ 1 ∧ s[p] ≠ 4) from by
          by_cases h1 : s[p] = 1
          · exact Or.inl h1
          · by_cases h4 : s[p] = 4
            · exact Or.inr (Or.inl ⟨h1, h4⟩)
            · exact Or.inr (Or.inr ⟨h1, h4⟩)) with hkk | ⟨hkk1, hkk⟩ | ⟨hkk1, hkk⟩
        · have c1 : ((s[p].toNat : Int) == 1) = true := by rw [u1]; simpa using hkk
          have hlast : ∀ b, put q b <+: s.data.toList.drop q → b = y.data.toList ∧ q + (put q b).length = p + 6 + s[p + 1].toNat := by
            intro b hb
            have := HG.out.last hz hy (Or.inl hkk) hb
            rw [hpg] at this
            rw [hyl, hpg]
            exact this
          obtain ⟨z, hz2⟩ : ∃ z : ByteArray, s.extract q (p + 6 + s[p + 1].toNat) = z := ⟨_, rfl⟩
          have hqk := HG.out.le
          have hzl : z.data.toList = (s.data.toList.drop q).take (p + 6 + s[p + 1].toNat - q) := by rw [← hz2, Lib.extract_data]
          have hsl2 : ∀ wx : World, (Instr.slice 9 (.string s) (some (.int .i64 (q : Int))) (some (.int .i64 ((p : Int) + 6 + (s[p + 1].toNat : Nat)))) none).run Try.prog wx = .ok (.string z) wx := by
            intro wx
            rw [sl_str s _ _ q (p + 6 + s[p + 1].toNat) rfl (by omega) (by omega) (by omega), hz2]
          obtain ⟨pq, hpq⟩ : ∃ z : ByteArray, z.data.toList = put q y.data.toList := ⟨⟨(put q y.data.toList).toArray⟩, rfl⟩
          have hy100 : y.size ≤ 1000000000000 := by omega
          have HPQ := Lib.hid hpq
          have HLAST := Lib.hid hlast
          have HZL := Lib.hid hzl
          have HIN := Lib.hid hin
          clear hpq hlast hzl hz2 hxl hxz hx hya hyl hyz hpg hy hz u1 u4 hkk 
          go_wp2_with fail
          go_region_law (go_simp; go_at_call 12; refine (rput_as _ q y pq _ rfl (by omega) hy100 HPQ.out).mono ?_; rintro e w2 ⟨rfl, b2⟩)
          have hb2 : Below w.heap.size w w2 := ((Below.refl _ _).drew).trans b2
          by_cases heq : z = pq
          · have hne : (!(z.toList == pq.toList)) = false := by rw [eqB_true heq]; rfl
            have hpz : put q y.data.toList = (s.data.toList.drop q).take (p + 6 + s[p + 1].toNat - q) := by rw [← HPQ.out, ← heq, HZL.out]
            have HPZ := Lib.hid hpz
            have hn : ((q + (put q y.data.toList).length : Nat) : Int) = (p : Int) + 6 + (s[p + 1].toNat : Nat) := by
              rw [hpz, List.length_take, List.length_drop, HSL.out]
              have := HIN.out
              have := HG.out.le
              omega
            have HN := Lib.hid hn
            clear hpz heq hn
            go_wp2
            all_goals first
              | exact absurd (hne.symm.trans ‹(!(z.toList == pq.toList)) = true›) (by decide)
              | (go_ret2; refine ⟨⟨y, Or.inl ⟨?_, by rw [HPZ.out]; exact List.take_prefix _ _⟩⟩, hb2⟩; rw [HN.out]; rfl)
          · have hne : (!(z.toList == pq.toList)) = true := by rw [eqB_false heq]; rfl
            have hno : ∀ b, ¬ put q b <+: s.data.toList.drop q := by
              intro b hb
              obtain ⟨h1, h2⟩ := HLAST.out b hb
              refine heq (ba_ext ?_)
              rw [HZL.out, HPQ.out, ← h1, ← h2, Nat.add_sub_cancel_left]
              exact (List.prefix_iff_eq_take.1 hb).symm
            have HNO := Lib.hid hno
            clear hno heq
            go_wp2
            all_goals first
              | exact absurd (hne.symm.trans ‹(!(z.toList == pq.toList)) = false›) (by decide)
              | (go_ret2; exact OneR.no hb2 HNO.out)
        · have c1 : ((s[p].toNat : Int) == 1) = false := by rw [u1]; simpa using hkk1
          have c4 : ((s[p].toNat : Int) == 4) = true := by rw [u4]; simpa using hkk
          have hlast : ∀ b, put q b <+: s.data.toList.drop q → b = y.data.toList ∧ q + (put q b).length = p + 6 + s[p + 1].toNat := by
            intro b hb
            have := HG.out.last hz hy (Or.inr hkk) hb
            rw [hpg] at this
            rw [hyl, hpg]
            exact this
          obtain ⟨z, hz2⟩ : ∃ z : ByteArray, s.extract q (p + 6 + s[p + 1].toNat) = z := ⟨_, rfl⟩
          have hqk := HG.out.le
          have hzl : z.data.toList = (s.data.toList.drop q).take (p + 6 + s[p + 1].toNat - q) := by rw [← hz2, Lib.extract_data]
          have hsl2 : ∀ wx : World, (Instr.slice 9 (.string s) (some (.int .i64 (q : Int))) (some (.int .i64 ((p : Int) + 6 + (s[p + 1].toNat : Nat)))) none).run Try.prog wx = .ok (.string z) wx := by
            intro wx
            rw [sl_str s _ _ q (p + 6 + s[p + 1].toNat) rfl (by omega) (by omega) (by omega), hz2]
          obtain ⟨pq, hpq⟩ : ∃ z : ByteArray, z.data.toList = put q y.data.toList := ⟨⟨(put q y.data.toList).toArray⟩, rfl⟩
          have hy100 : y.size ≤ 1000000000000 := by omega
          have HPQ := Lib.hid hpq
          have HLAST := Lib.hid hlast
          have HZL := Lib.hid hzl
          have HIN := Lib.hid hin
          clear hpq hlast hzl hz2 hxl hxz hx hya hyl hyz hpg hy hz u1 u4 hkk hkk1
          go_wp2_with fail
          go_region_law (go_simp; go_at_call 12; refine (rput_as _ q y pq _ rfl (by omega) hy100 HPQ.out).mono ?_; rintro e w2 ⟨rfl, b2⟩)
          have hb2 : Below w.heap.size w w2 := ((Below.refl _ _).drew).trans b2
          by_cases heq : z = pq
          · have hne : (!(z.toList == pq.toList)) = false := by rw [eqB_true heq]; rfl
            have hpz : put q y.data.toList = (s.data.toList.drop q).take (p + 6 + s[p + 1].toNat - q) := by rw [← HPQ.out, ← heq, HZL.out]
            have HPZ := Lib.hid hpz
            have hn : ((q + (put q y.data.toList).length : Nat) : Int) = (p : Int) + 6 + (s[p + 1].toNat : Nat) := by
              rw [hpz, List.length_take, List.length_drop, HSL.out]
              have := HIN.out
              have := HG.out.le
              omega
            have HN := Lib.hid hn
            clear hpz heq hn
            go_wp2
            all_goals first
              | exact absurd (hne.symm.trans ‹(!(z.toList == pq.toList)) = true›) (by decide)
              | (go_ret2; refine ⟨⟨y, Or.inl ⟨?_, by rw [HPZ.out]; exact List.take_prefix _ _⟩⟩, hb2⟩; rw [HN.out]; rfl)
          · have hne : (!(z.toList == pq.toList)) = true := by rw [eqB_false heq]; rfl
            have hno : ∀ b, ¬ put q b <+: s.data.toList.drop q := by
              intro b hb
              obtain ⟨h1, h2⟩ := HLAST.out b hb
              refine heq (ba_ext ?_)
              rw [HZL.out, HPQ.out, ← h1, ← h2, Nat.add_sub_cancel_left]
              exact (List.prefix_iff_eq_take.1 hb).symm
            have HNO := Lib.hid hno
            clear hno heq
            go_wp2
            all_goals first
              | exact absurd (hne.symm.trans ‹(!(z.toList == pq.toList)) = false›) (by decide)
              | (go_ret2; exact OneR.no hb2 HNO.out)
        · have c1 : ((s[p].toNat : Int) == 1) = false := by rw [u1]; simpa using hkk1
          have c4 : ((s[p].toNat : Int) == 4) = false := by rw [u4]; simpa using hkk
          have hmore := HG.out.more hz hy (by rintro (h | h); exact hkk1 h; exact hkk h) (by rw [hpg, HSL.out]; exact hin)
          rw [← hyl, hpg] at hmore
          have HM := Lib.hid hmore
          have hkl : k < p + 6 + s[p + 1].toNat := by omega
          clear hmore hxl hxz hx hya hyl hpg hy hz u1 u4 hkk hkk1
          go_wp2
          go_round
          case rel => exact ⟨y, p + 6 + s[p + 1].toNat, false, rfl, by go_num, hyz, hin, HM.out⟩
          case measure => simp [intOf]; omega
end Go.Proofs.Ytcihgnkmikhboaa
