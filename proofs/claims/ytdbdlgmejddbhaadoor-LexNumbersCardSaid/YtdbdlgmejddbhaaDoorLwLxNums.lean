/-
  LexNumbers: the walk.
-/
import Derived.Test.YtdbdlgmejddbhaaDoorLx7
import Derived.Test.YtdbdlgmejddbhaaDoorLxe
import Derived.Test.YtdbdlgmejddbhaaDoorLxp
import Derived.Test.YtdbdlgmejddbhaaDoorRf7
set_option linter.unusedVariables false
namespace Go.Proofs.YtdbdlgmejddbhaaDoor
open Go Go.RowKit Go.Proofs

theorem dig_ext (k : Nat) (h : k < 10) : ((⟨#[48, 49, 50, 51, 52, 53, 54, 55, 56, 57]⟩ : ByteArray).extract k (k + 1)).data.toList = [UInt8.ofNat (48 + k)] := by
  have : ∀ j : Fin 10, ((⟨#[48, 49, 50, 51, 52, 53, 54, 55, 56, 57]⟩ : ByteArray).extract j.val (j.val + 1)).data.toList = [UInt8.ofNat (48 + j.val)] := by
    intro j
    rw [Lib.extract_data]
    revert j
    decide
  exact this ⟨k, h⟩

set_option maxHeartbeats 4000000 in
set_option maxRecDepth 100000 in
theorem lxnums_law (v z : Int) (w : World) (hv : (Lit.int .i64 v).wf = true) (hz : (Lit.int .i64 z).wf = true) (hE : Two w) :
    Calls Tryd.prog 5 #[.int .i64 v, .int .i64 z] w fun e w' => e = .returned (.bool true) ∧ Below w.heap.size w w' := by
  have hv2 := bounds_i64 hv
  have hz2 := bounds_i64 hz
  clear hv hz
  obtain ⟨p, hp⟩ : ∃ p : Nat, v % 2199023255553 = p := ⟨(v % 2199023255553).toNat, by omega⟩
  obtain ⟨q, hq⟩ : ∃ q : Nat, z % 20 = q := ⟨(z % 20).toNat, by omega⟩
  have hpl : p ≤ 2199023255552 := by omega
  have hql : q ≤ 19 := by omega
  have HP := Lib.hid hp
  have HQ := Lib.hid hq
  have HE := Lib.hid hE
  clear hp hq hE
  by_cases hneg : (p : Int) - 1099511627776 < 0
  · obtain ⟨d, hd⟩ : ∃ d : Nat, (d : Int) = -((p : Int) - 1099511627776) := ⟨(-((p : Int) - 1099511627776)).toNat, by omega⟩
    have hdl : d ≤ 1099511627776 := by omega
    have hlen := decs_len d 12 (by omega)
    have hval : ((p : Int) - 1099511627776) = -((d : Nat) : Int) := by omega
    have HD := Lib.hid hd
    have HVAL := Lib.hid hval
    have HLEN := Lib.hid hlen
    clear hd hval hlen
    go_enter Tryd.func5, Tryd.ntmps5
    go_wp2_with fail
    refine (place13_any v 2199023255553 _ (by omega) (by omega) hv2).mono ?_
    rintro e w1 ⟨rfl, rfl⟩
    rw [HP.out]
    go_wp2_with fail
    go_loopw [6, 8] (fun a t wr => ∃ (x : Nat) (S : ByteArray), a = .int .i64 (x : Nat) ∧ t = .string S ∧ decs d = decs x ++ S.data.toList ∧ x ≤ 1099511627776 ∧ wr = w) (fun a _ _ => (intOf a).toNat)
    case atStart => exact ⟨d, ⟨#[]⟩, by rw [HD.out], rfl, by simp, hdl, rfl⟩
    case round =>
      obtain ⟨x, S, rfl, rfl, hS, hx, rfl⟩ := hrel
      have hSl : S.size ≤ 13 := by
        have h1 := HLEN.out
        rw [hS, List.length_append, ← Lib.size_eq] at h1
        omega
      have HS := Lib.hid hS
      clear hS
      by_cases h10 : 10 ≤ x
      · have h10i : (10 : Int) ≤ (x : Int) := by omega
        go_wp2
        refine ⟨⟨x / 10, _, rfl, rfl, ?_, by omega, by first | trivial | rfl⟩, ?_⟩
        · rw [ByteArray.data_append, Array.toList_append, dig_ext _ (Nat.mod_lt _ (by omega)), HS.out, decs_high h10, List.append_assoc]
        · simp [intOf]
          omega
      · have h10i : ¬ (10 : Int) ≤ (x : Int) := by omega
        have hx9 : x < 10 := by omega
        go_wp2_with fail
        refine (place13_any z 20 _ (by omega) (by omega) hz2).mono ?_
        rintro e w1 ⟨rfl, rfl⟩
        rw [HQ.out]
        obtain ⟨T, hT⟩ : ∃ T : ByteArray, T = (⟨#[48, 49, 50, 51, 52, 53, 54, 55, 56, 57]⟩ : ByteArray).extract x (x + 1) ++ S := ⟨_, rfl⟩
        have hTl : T.data.toList = decs d := by rw [hT, ByteArray.data_append, Array.toList_append, dig_ext _ hx9, HS.out, decs_low hx9]
        rw [← hT]
        have hTs : T.size ≤ 13 := by rw [Lib.size_eq, hTl]; exact HLEN.out
        have HTL := Lib.hid hTl
        clear hTl hT
        go_wp2_with fail
        go_loopw [8, 9] (fun t a wq => ∃ (k j : Nat) (U : ByteArray), a = .int .i64 (j : Nat) ∧ t = .string U ∧ U.data.toList = List.replicate k 48 ++ decs d ∧ k + j = q ∧ wq = wr) (fun _ a _ => (intOf a).toNat)
        case atStart => exact ⟨0, q, T, rfl, rfl, by rw [HTL.out]; rfl, by omega, by first | trivial | rfl⟩
        case round =>
          obtain ⟨k, j, U, rfl, rfl, hU, hkj, rfl⟩ := hrel
          have hUs : U.size ≤ 33 := by
            have h1 := HLEN.out
            rw [Lib.size_eq, hU, List.length_append, List.length_replicate]
            omega
          have HU := Lib.hid hU
          clear hU
          by_cases hj : 0 < j
          · have hji : (0 : Int) < (j : Int) := by omega
            go_wp2
            refine ⟨⟨k + 1, j - 1, _, by go_num, rfl, ?_, by omega, by first | trivial | rfl⟩, ?_⟩
            · rw [ByteArray.data_append, Array.toList_append, HU.out]
              rfl
            · simp [intOf]
              omega
          · have hji : ¬ (0 : Int) < (j : Int) := by omega
            have hUl : U.data.toList = List.replicate k 48 ++ decs d := HU.out
            have hdg : ∀ c ∈ U.data.toList, 48 ≤ c.toNat ∧ c.toNat ≤ 57 := by
              intro c hc
              rw [hUl] at hc
              rcases List.mem_append.1 hc with hc | hc
              · rw [(List.mem_replicate.1 hc).2]; decide
              · exact decs_dig d c hc
            have hne : U.data.toList ≠ [] := by
              rw [hUl]
              have : decs d ≠ [] := by
                by_cases h : d < 10
                · rw [decs_low h]; simp
                · rw [decs_high (by omega)]; simp
              simp [this]
            have hnv : nval 0 U.data.toList = d := by rw [hUl, nval_app, nval_zeros, nval_decs]
            obtain ⟨m, hok⟩ := lx_number U.data.toList true hdg hne (by omega)
            have hbad := lx_number_x U.data.toList true hdg hne (by omega)
            have hgr := lx_great true
            rw [hnv] at hok
            have HOK := Lib.hid hok
            have HBAD := Lib.hid hbad
            have HGR := Lib.hid hgr
            clear hUl hdg hne hnv hok hbad hgr
            have hl1 : ((⟨#[32]⟩ : ByteArray) ++ ⟨#[45]⟩ ++ U ++ ⟨#[44]⟩).data.toList = 32 :: ((if true then [45] else []) ++ (U.data.toList ++ [44])) := by simp
            have hl2 : ((⟨#[32]⟩ : ByteArray) ++ ⟨#[45]⟩ ++ U ++ ⟨#[120]⟩).data.toList = 32 :: ((if true then [45] else []) ++ (U.data.toList ++ [120])) := by simp
            have hs1 : ((⟨#[32]⟩ : ByteArray) ++ ⟨#[45]⟩ ++ U ++ ⟨#[44]⟩).size ≤ 1000 := by
              rw [Lib.size_eq, hl1]
              have : U.data.toList.length = U.size := by rw [Lib.size_eq]
              simp [this]
              omega
            have hs2 : ((⟨#[32]⟩ : ByteArray) ++ ⟨#[45]⟩ ++ U ++ ⟨#[120]⟩).size ≤ 1000 := by
              rw [Lib.size_eq, hl2]
              have : U.data.toList.length = U.size := by rw [Lib.size_eq]
              simp [this]
              omega
            have hs3 : ((⟨#[45]⟩ : ByteArray) ++ ⟨#[49, 48, 57, 57, 53, 49, 49, 54, 50, 55, 55, 55, 55]⟩).size ≤ 1000 := by decide
            have hl3 : ((⟨#[45]⟩ : ByteArray) ++ ⟨#[49, 48, 57, 57, 53, 49, 49, 54, 50, 55, 55, 55, 55]⟩).data.toList = (if true then [45] else []) ++ [49, 48, 57, 57, 53, 49, 49, 54, 50, 55, 55, 55, 55] := by simp
            have HL1 := Lib.hid (hl1 ▸ HOK.out)
            have HL2 := Lib.hid (hl2 ▸ HBAD.out)
            have HL3 := Lib.hid (hl3 ▸ HGR.out)
            have HS1 := Lib.hid hs1
            have HS2 := Lib.hid hs2
            have HS3 := Lib.hid hs3
            clear hl1 hl2 hs1 hs2 hs3 hl3
            go_wp2_with fail
            refine (lall_ok _ _ HS1.out HE.out HL1.out).mono ?_
            rintro e w2 ⟨A, c, rfl, k1, k2, h3, b2⟩
            have E2 := HE.out.below b2
            obtain ⟨g, rfl, hg, c0, c1, c2, c3⟩ := h3 0 _ rfl
            simp only [List.length_cons, List.length_nil] at k1
            have hn : (if true = true then -((d : Nat) : Int) else ((d : Nat) : Int)) = (p : Int) - 1099511627776 := by rw [HVAL.out]; rfl
            have c2' : w2.cell? ⟨g, 0 * 4 + 2, none⟩ = some (.int .i64 ((p : Int) - 1099511627776)) := c2.trans (congrArg (fun y : Int => some (Value.int .i64 y)) hn)
            clear c2 hn
            go_wp2_with fail
            refine (lall_err _ _ HS2.out E2 HL2.out).mono ?_
            rintro e w3 ⟨rfl, b3⟩
            have E3 := E2.below b3
            have b23 : Below w2.heap.size w2 w3 := b3
            have d0 := (b3.cell (p := ⟨g, 0 * 4, none⟩) hg).trans c0
            have d2 := (b3.cell (p := ⟨g, 0 * 4 + 2, none⟩) hg).trans c2'
            have d3 := (b3.cell (p := ⟨g, 0 * 4 + 3, none⟩) hg).trans c3
            have hg3 : g < w3.heap.size := Nat.lt_of_lt_of_le hg b3.size
            clear c0 c1 c2' c3
            go_wp2_with fail
            refine (lall_err _ _ HS3.out E3 HL3.out).mono ?_
            rintro e w4 ⟨rfl, b4⟩
            have E4 := E3.below b4
            have e0 := (b4.cell (p := ⟨g, 0 * 4, none⟩) hg3).trans d0
            have e2 := (b4.cell (p := ⟨g, 0 * 4 + 2, none⟩) hg3).trans d2
            have e3 := (b4.cell (p := ⟨g, 0 * 4 + 3, none⟩) hg3).trans d3
            have b24 := b2.trans ((b3.trans (b4.mono b3.size)).mono b2.size)
            clear d0 d2 d3 b2 b3 b4 b23
            have B4 := Lib.hid b24
            have HE4 := Lib.hid E4
            clear b24 E4 E3 E2
            go_wp2_with fail
            refine (awake13_any _ HE4.out).mono ?_
            rintro e w5 ⟨rfl, b5⟩
            have b25 := B4.out.trans (b5.mono B4.out.size)
            clear b5
            go_wp2
            go_ret
            exact ⟨rfl, b25⟩
  · obtain ⟨d, hd⟩ : ∃ d : Nat, (d : Int) = (p : Int) - 1099511627776 := ⟨((p : Int) - 1099511627776).toNat, by omega⟩
    have hdl : d ≤ 1099511627776 := by omega
    have hlen := decs_len d 12 (by omega)
    have hval : ((p : Int) - 1099511627776) = ((d : Nat) : Int) := by omega
    have HD := Lib.hid hd
    have HVAL := Lib.hid hval
    have HLEN := Lib.hid hlen
    clear hd hval hlen
    go_enter Tryd.func5, Tryd.ntmps5
    go_wp2_with fail
    refine (place13_any v 2199023255553 _ (by omega) (by omega) hv2).mono ?_
    rintro e w1 ⟨rfl, rfl⟩
    rw [HP.out]
    go_wp2_with fail
    go_loopw [6, 8] (fun a t wr => ∃ (x : Nat) (S : ByteArray), a = .int .i64 (x : Nat) ∧ t = .string S ∧ decs d = decs x ++ S.data.toList ∧ x ≤ 1099511627776 ∧ wr = w) (fun a _ _ => (intOf a).toNat)
    case atStart => exact ⟨d, ⟨#[]⟩, by rw [HD.out], rfl, by simp, hdl, rfl⟩
    case round =>
      obtain ⟨x, S, rfl, rfl, hS, hx, rfl⟩ := hrel
      have hSl : S.size ≤ 13 := by
        have h1 := HLEN.out
        rw [hS, List.length_append, ← Lib.size_eq] at h1
        omega
      have HS := Lib.hid hS
      clear hS
      by_cases h10 : 10 ≤ x
      · have h10i : (10 : Int) ≤ (x : Int) := by omega
        go_wp2
        refine ⟨⟨x / 10, _, rfl, rfl, ?_, by omega, by first | trivial | rfl⟩, ?_⟩
        · rw [ByteArray.data_append, Array.toList_append, dig_ext _ (Nat.mod_lt _ (by omega)), HS.out, decs_high h10, List.append_assoc]
        · simp [intOf]
          omega
      · have h10i : ¬ (10 : Int) ≤ (x : Int) := by omega
        have hx9 : x < 10 := by omega
        go_wp2_with fail
        refine (place13_any z 20 _ (by omega) (by omega) hz2).mono ?_
        rintro e w1 ⟨rfl, rfl⟩
        rw [HQ.out]
        obtain ⟨T, hT⟩ : ∃ T : ByteArray, T = (⟨#[48, 49, 50, 51, 52, 53, 54, 55, 56, 57]⟩ : ByteArray).extract x (x + 1) ++ S := ⟨_, rfl⟩
        have hTl : T.data.toList = decs d := by rw [hT, ByteArray.data_append, Array.toList_append, dig_ext _ hx9, HS.out, decs_low hx9]
        rw [← hT]
        have hTs : T.size ≤ 13 := by rw [Lib.size_eq, hTl]; exact HLEN.out
        have HTL := Lib.hid hTl
        clear hTl hT
        go_wp2_with fail
        go_loopw [8, 9] (fun t a wq => ∃ (k j : Nat) (U : ByteArray), a = .int .i64 (j : Nat) ∧ t = .string U ∧ U.data.toList = List.replicate k 48 ++ decs d ∧ k + j = q ∧ wq = wr) (fun _ a _ => (intOf a).toNat)
        case atStart => exact ⟨0, q, T, rfl, rfl, by rw [HTL.out]; rfl, by omega, by first | trivial | rfl⟩
        case round =>
          obtain ⟨k, j, U, rfl, rfl, hU, hkj, rfl⟩ := hrel
          have hUs : U.size ≤ 33 := by
            have h1 := HLEN.out
            rw [Lib.size_eq, hU, List.length_append, List.length_replicate]
            omega
          have HU := Lib.hid hU
          clear hU
          by_cases hj : 0 < j
          · have hji : (0 : Int) < (j : Int) := by omega
            go_wp2
            refine ⟨⟨k + 1, j - 1, _, by go_num, rfl, ?_, by omega, by first | trivial | rfl⟩, ?_⟩
            · rw [ByteArray.data_append, Array.toList_append, HU.out]
              rfl
            · simp [intOf]
              omega
          · have hji : ¬ (0 : Int) < (j : Int) := by omega
            have hUl : U.data.toList = List.replicate k 48 ++ decs d := HU.out
            have hdg : ∀ c ∈ U.data.toList, 48 ≤ c.toNat ∧ c.toNat ≤ 57 := by
              intro c hc
              rw [hUl] at hc
              rcases List.mem_append.1 hc with hc | hc
              · rw [(List.mem_replicate.1 hc).2]; decide
              · exact decs_dig d c hc
            have hne : U.data.toList ≠ [] := by
              rw [hUl]
              have : decs d ≠ [] := by
                by_cases h : d < 10
                · rw [decs_low h]; simp
                · rw [decs_high (by omega)]; simp
              simp [this]
            have hnv : nval 0 U.data.toList = d := by rw [hUl, nval_app, nval_zeros, nval_decs]
            obtain ⟨m, hok⟩ := lx_number U.data.toList false hdg hne (by omega)
            have hbad := lx_number_x U.data.toList false hdg hne (by omega)
            have hgr := lx_great false
            rw [hnv] at hok
            have HOK := Lib.hid hok
            have HBAD := Lib.hid hbad
            have HGR := Lib.hid hgr
            clear hUl hdg hne hnv hok hbad hgr
            have hl1 : ((⟨#[32]⟩ : ByteArray) ++ ⟨#[]⟩ ++ U ++ ⟨#[44]⟩).data.toList = 32 :: ((if false then [45] else []) ++ (U.data.toList ++ [44])) := by simp
            have hl2 : ((⟨#[32]⟩ : ByteArray) ++ ⟨#[]⟩ ++ U ++ ⟨#[120]⟩).data.toList = 32 :: ((if false then [45] else []) ++ (U.data.toList ++ [120])) := by simp
            have hs1 : ((⟨#[32]⟩ : ByteArray) ++ ⟨#[]⟩ ++ U ++ ⟨#[44]⟩).size ≤ 1000 := by
              rw [Lib.size_eq, hl1]
              have : U.data.toList.length = U.size := by rw [Lib.size_eq]
              simp [this]
              omega
            have hs2 : ((⟨#[32]⟩ : ByteArray) ++ ⟨#[]⟩ ++ U ++ ⟨#[120]⟩).size ≤ 1000 := by
              rw [Lib.size_eq, hl2]
              have : U.data.toList.length = U.size := by rw [Lib.size_eq]
              simp [this]
              omega
            have hs3 : ((⟨#[]⟩ : ByteArray) ++ ⟨#[49, 48, 57, 57, 53, 49, 49, 54, 50, 55, 55, 55, 55]⟩).size ≤ 1000 := by decide
            have hl3 : ((⟨#[]⟩ : ByteArray) ++ ⟨#[49, 48, 57, 57, 53, 49, 49, 54, 50, 55, 55, 55, 55]⟩).data.toList = (if false then [45] else []) ++ [49, 48, 57, 57, 53, 49, 49, 54, 50, 55, 55, 55, 55] := by simp
            have HL1 := Lib.hid (hl1 ▸ HOK.out)
            have HL2 := Lib.hid (hl2 ▸ HBAD.out)
            have HL3 := Lib.hid (hl3 ▸ HGR.out)
            have HS1 := Lib.hid hs1
            have HS2 := Lib.hid hs2
            have HS3 := Lib.hid hs3
            clear hl1 hl2 hs1 hs2 hs3 hl3
            go_wp2_with fail
            refine (lall_ok _ _ HS1.out HE.out HL1.out).mono ?_
            rintro e w2 ⟨A, c, rfl, k1, k2, h3, b2⟩
            have E2 := HE.out.below b2
            obtain ⟨g, rfl, hg, c0, c1, c2, c3⟩ := h3 0 _ rfl
            simp only [List.length_cons, List.length_nil] at k1
            have hn : (if false = true then -((d : Nat) : Int) else ((d : Nat) : Int)) = (p : Int) - 1099511627776 := by rw [HVAL.out]; rfl
            have c2' : w2.cell? ⟨g, 0 * 4 + 2, none⟩ = some (.int .i64 ((p : Int) - 1099511627776)) := c2.trans (congrArg (fun y : Int => some (Value.int .i64 y)) hn)
            clear c2 hn
            go_wp2_with fail
            refine (lall_err _ _ HS2.out E2 HL2.out).mono ?_
            rintro e w3 ⟨rfl, b3⟩
            have E3 := E2.below b3
            have b23 : Below w2.heap.size w2 w3 := b3
            have d0 := (b3.cell (p := ⟨g, 0 * 4, none⟩) hg).trans c0
            have d2 := (b3.cell (p := ⟨g, 0 * 4 + 2, none⟩) hg).trans c2'
            have d3 := (b3.cell (p := ⟨g, 0 * 4 + 3, none⟩) hg).trans c3
            have hg3 : g < w3.heap.size := Nat.lt_of_lt_of_le hg b3.size
            clear c0 c1 c2' c3
            go_wp2_with fail
            refine (lall_err _ _ HS3.out E3 HL3.out).mono ?_
            rintro e w4 ⟨rfl, b4⟩
            have E4 := E3.below b4
            have e0 := (b4.cell (p := ⟨g, 0 * 4, none⟩) hg3).trans d0
            have e2 := (b4.cell (p := ⟨g, 0 * 4 + 2, none⟩) hg3).trans d2
            have e3 := (b4.cell (p := ⟨g, 0 * 4 + 3, none⟩) hg3).trans d3
            have b24 := b2.trans ((b3.trans (b4.mono b3.size)).mono b2.size)
            clear d0 d2 d3 b2 b3 b4 b23
            have B4 := Lib.hid b24
            have HE4 := Lib.hid E4
            clear b24 E4 E3 E2
            go_wp2_with fail
            refine (awake13_any _ HE4.out).mono ?_
            rintro e w5 ⟨rfl, b5⟩
            have b25 := B4.out.trans (b5.mono B4.out.size)
            clear b5
            go_wp2
            go_ret
            exact ⟨rfl, b25⟩
end Go.Proofs.YtdbdlgmejddbhaaDoor
