/-
  PartAll: for every input the law returns true, and each argument reads as it read. No condition.
-/
import Derived.Test.YtafbbojfifcncaaLawPAllB
import Derived.Test.YtafbbojfifcncaaTkl
import Derived.Deep.DeepCutAuto
import Derived.Deep.CutBlock
import Derived.Deep.RegionWith
import Derived.Test.YtafbbojfifcncaaProg
import Derived.ProofKit
import Derived.OpenShut
import Derived.ChangeOld
import Derived.Carry
import Derived.Test.YtafbbojfifcncaaRoK
import Derived.Lib.SmallJoins
import Derived.Deep.Slices
import Derived.ChangeSame
import Derived.Test.YtafbbojfifcncaaPo
import Derived.Deep.Strs
import Derived.Test.YtafbbojfifcncaaRows
import Derived.WalkKit
import Derived.ShutString
import Derived.Below
set_option linter.unusedVariables false
set_option linter.unusedSimpArgs false
namespace Go.Proofs.Ytafbbojfifcncaa
open Go Go.RowKit

/-- A row that is there since a stamp, with nothing else. -/
def liveR (k : ByteArray) (a : Int) : Ro := ⟨k, ⟨⟨#[]⟩, false, a, 0⟩, 0, 0, []⟩
def liveA (k : ByteArray) (a : Int) : RA := ⟨liveR k a, none, 0⟩
theorem liveA_in (k : ByteArray) (a : Int) (w : World) (B : Nat) : RaIn w B (liveA k a) := ⟨RdK.nil _ _ _, Nat.le_refl _⟩
theorem liveR_up (k : ByteArray) (a : Int) : (liveR k a).Up := ⟨trivial, fun x hx => by cases hx⟩
theorem two_rows (w : World) (k k' : ByteArray) (a a' : Int) (W : World) (hW : W = w.alloc (.cells #[.string k, .string ⟨#[]⟩, .bool false, .int .i64 a, .int .i64 0, .int .i64 0, .int .i64 0, .slice none 0 0, .string k', .string ⟨#[]⟩, .bool false, .int .i64 a', .int .i64 0, .int .i64 0, .int .i64 0, .slice none 0 0] 36)) :
    Lies W (w.heap.size + 1) (some ⟨w.heap.size, 0, none⟩) 2 2 [liveA k a, liveA k' a'] := by
  subst hW
  refine ⟨RdR.of_all rfl (by omega) fun j u hu => ?_, fun x hx => ?_, Nat.le_refl _⟩
  · have e : rRow [liveA k a, liveA k' a'] = [.string k, .string ⟨#[]⟩, .bool false, .int .i64 a, .int .i64 0, .int .i64 0, .int .i64 0, .slice none 0 0, .string k', .string ⟨#[]⟩, .bool false, .int .i64 a', .int .i64 0, .int .i64 0, .int .i64 0, .slice none 0 0] := rfl
    rw [e] at hu
    rw [Nat.zero_add]
    exact cell_at (heap_alloc_new w _) (by simpa using hu)
  · simp only [List.mem_cons, List.not_mem_nil, or_false] at hx
    rcases hx with rfl | rfl <;> exact liveA_in _ _ _ _
def awR : List Ro := [liveR ⟨#[114]⟩ 8, liveR ⟨#[115]⟩ 10]
theorem awR_up (k : ByteArray) (g : Int) : (Pa.mk k g awR).Up := by
  refine ⟨⟨fun y hy => ?_, fun y hy => (by cases hy), trivial⟩, fun x hx => ?_⟩
  · rw [List.mem_singleton.1 hy]
    show nlt ⟨#[114]⟩ ⟨#[115]⟩
    decide
  · simp only [awR, List.mem_cons, List.not_mem_nil, or_false] at hx
    rcases hx with rfl | rfl <;> exact liveR_up _ _
theorem awR_seen : seenR 9 0 true awR = [liveR ⟨#[115]⟩ 10] := by rfl
theorem awR_stamp : stampR 9 awR = 10 := by rfl
theorem awR_cols : ∀ r ∈ awR, r.cols.length ≤ 1000 := by
  intro r hr
  simp only [awR, List.mem_cons, List.not_mem_nil, or_false] at hr
  rcases hr with rfl | rfl <;> exact Nat.zero_le _
set_option maxRecDepth 8000 in
set_option maxHeartbeats 8000000 in
theorem pawake_any (w : World) : Calls Try.prog 9 #[] w fun x w' => x = .returned (.bool true) ∧ Below w.heap.size w w' := by
  obtain ⟨W1, hW1⟩ : ∃ W, W = w.alloc (.cells #[.string ⟨#[114]⟩, .string ⟨#[]⟩, .bool false, .int .i64 8, .int .i64 0, .int .i64 0, .int .i64 0, .slice none 0 0, .string ⟨#[115]⟩, .string ⟨#[]⟩, .bool false, .int .i64 10, .int .i64 0, .int .i64 0, .int .i64 0, .slice none 0 0] 36) := ⟨_, rfl⟩
  have hl := two_rows w ⟨#[114]⟩ ⟨#[115]⟩ 8 10 W1 hW1
  have hb1 : Below w.heap.size w W1 := by rw [hW1]; exact (Below.refl _ _).alloc (Nat.le_refl _) _
  have hs1 : W1.heap.size = w.heap.size + 1 := by rw [hW1]; simp
  have HL := Lib.hid hl; have HB1 := Lib.hid hb1; have HS1 := Lib.hid hs1
  clear hl hb1 hs1
  go_enter Try.func9, Try.ntmps9
  go_wp2_with fail
  rw [← hW1]
  clear hW1
  refine (pjoin_fits ⟨#[107]⟩ ⟨#[120]⟩ 0 9 _ _ 2 0 2 0 (w.heap.size + 1) 0 [liveA ⟨#[114]⟩ 8, liveA ⟨#[115]⟩ 10] [] _ (HL.out.below ((Below.refl _ _).alloc (by have := HS1.out; omega) _)) ⟨RdR.nil _ _ _, fun x hx => (by cases hx), Nat.le_refl _⟩ (by simp; have := HS1.out; omega) (Nat.zero_le _) (by omega) (awR_up _ _) ⟨trivial, fun x hx => (by cases hx)⟩ (by decide) awR rfl (by decide)).mono ?_
  rintro e w2 ⟨M, A2, n2, c2, rfl, hM, hfr⟩
  obtain ⟨hn2, hl2, hA2⟩ := hfr.lies
  have hb2 := next (HB1.out.alloc (by have := HS1.out; omega) (.cells #[.string ⟨#[107]⟩, .int .i64 0, .slice (some ⟨w.heap.size, 0, none⟩) 2 2] 24)) hfr.below
  have hml : n2 = 2 := by rw [hn2, ← List.length_map (f := RA.ro), show List.map RA.ro M = awR from hM]; rfl
  subst hml
  have HL2 := Lib.hid hl2; have HM := Lib.hid hM; have HB2 := Lib.hid hb2
  clear hfr hl2 hM hb2 hn2 hA2
  rw [show max (0 : Int) 9 = 9 from rfl]
  obtain ⟨W3, hW3⟩ : ∃ W, W = w2.alloc (.cells #[.string ⟨#[107]⟩, .int .i64 9, .slice A2 2 c2] 24) := ⟨_, rfl⟩
  have hb3 : Below w2.heap.size w2 W3 := by rw [hW3]; exact (Below.refl _ _).alloc (Nat.le_refl _) _
  have hz3 : W3.heap[w2.heap.size]? = some (.cells #[.string ⟨#[107]⟩, .int .i64 9, .slice A2 2 c2] 24 (0, 0)) := by rw [hW3]; exact heap_alloc_new w2 _
  have HL3 := Lib.hid (HL2.out.below hb3); have HB3 := Lib.hid (next HB2.out hb3); have HS3 := Lib.hid hb3.size; have HZ3 := Lib.hid hz3
  have hlt3 := (Array.getElem?_eq_some_iff.1 hz3).1
  have HMF : Hid (∀ x ∈ M, x.ro.cols.length ≤ 1000) := Lib.hid fun x hx => awR_cols x.ro (by rw [← HM.out]; exact List.mem_map.2 ⟨x, hx, rfl⟩)
  obtain ⟨_, _, _⟩ := PtAt.of hz3
  clear hb3 hz3
  go_wp2_with fail
  rw [← hW3]
  clear hW3
  go_wp2_with fail
  refine (pseen_any ⟨#[107]⟩ 9 0 true A2 2 c2 w2.heap.size M _ HL3.out HS3.out (by omega) HMF.out).mono ?_
  rintro e w4 ⟨v, M4, rfl, hM4, hown⟩
  rw [HM.out, awR_seen] at hM4
  obtain ⟨y, rfl⟩ : ∃ y, M4 = [y] := by
    match M4, congrArg List.length hM4 with
    | [y], _ => exact ⟨y, rfl⟩
  have hy : y.ro = liveR ⟨#[115]⟩ 10 := by simpa [ros] using hM4
  obtain ⟨A4, c4, rfl, hcap4, _⟩ := hown.slice
  obtain ⟨g4, rfl, _, _, hrow, _⟩ := hown.row (j := 0) (by simp)
  simp only [List.getElem_cons_zero, Nat.zero_mul] at hrow
  have hk0 := hrow.1
  rw [hy, show (liveR ⟨#[115]⟩ 10).key = ⟨#[115]⟩ from rfl] at hk0
  have hb4 := next HB3.out hown.below
  have HZ4 := Lib.hid ((hown.below.block w2.heap.size hlt3).trans HZ3.out); have HL4 := Lib.hid (HL3.out.below (hown.below.mono HS3.out)); have HB4 := Lib.hid hb4; have HS4 := Lib.hid (Nat.le_trans HS3.out hown.below.size)
  obtain ⟨_, _, _⟩ := PtAt.of HZ4.out
  simp only [List.length_cons, List.length_nil, Nat.zero_add]
  clear hown hrow hb4 hM4 hy
  go_wp2_with fail
  refine (pstampall_any ⟨#[107]⟩ 9 A2 2 c2 w2.heap.size M _ HL4.out HS4.out (by omega) HMF.out).mono ?_
  rintro e w5 ⟨rfl, b5⟩
  rw [HM.out, awR_stamp]
  have HB5 := Lib.hid (next HB4.out b5)
  clear b5
  go_wp2
  go_ret
  exact ⟨rfl, HB5.out⟩
def kb (a b c : Nat) : ByteArray := ⟨#[UInt8.ofNat (48 + a), UInt8.ofNat (48 + b), UInt8.ofNat (48 + c)]⟩
set_option maxRecDepth 8000 in
set_option maxHeartbeats 4000000 in
theorem key_any (n : Nat) (i : Int) (hi : i = (n : Int)) (hn : n < 1000) (w : World) : Calls Try.prog 27 #[.int .i64 i] w fun x w' => x = .returned (.string (kb (n / 100 % 10) (n / 10 % 10) (n % 10))) ∧ Below w.heap.size w w' := by
  have i0 : 0 ≤ i := by omega
  have i1 : i < 1000 := by omega
  have hcells : (#[Value.int .u8 (48 + (n : Int) / 100 % 10), Value.int .u8 (48 + (n : Int) / 10 % 10), Value.int .u8 (48 + (n : Int) % 10)] : Array Value).toList = Lib.byteCells [UInt8.ofNat (48 + n / 100 % 10), UInt8.ofNat (48 + n / 10 % 10), UInt8.ofNat (48 + n % 10)] := by
    simp only [Lib.byteCells, List.map_cons, List.map_nil, UInt8.toNat_ofNat']
    refine List.cons_eq_cons.2 ⟨?_, List.cons_eq_cons.2 ⟨?_, List.cons_eq_cons.2 ⟨?_, rfl⟩⟩⟩ <;> congr 1 <;> omega
  have hrd := Rd.laid (heap_alloc_new w (.cells #[Value.int .u8 (48 + (n : Int) / 100 % 10), Value.int .u8 (48 + (n : Int) / 10 % 10), Value.int .u8 (48 + (n : Int) % 10)] 5)) hcells
  obtain ⟨K, hK⟩ : ∃ K, kb (n / 100 % 10) (n / 10 % 10) (n % 10) = K := ⟨_, rfl⟩
  have hcv := cv_asE (n := 3) hrd 3 K (by rw [← hK]; rfl)
  rw [hK]
  have bz := Lib.hid ((Below.refl w.heap.size w).alloc (Nat.le_refl _) (.cells #[Value.int .u8 (48 + (n : Int) / 100 % 10), Value.int .u8 (48 + (n : Int) / 10 % 10), Value.int .u8 (48 + (n : Int) % 10)] 5))
  clear hcells hrd hK
  go_enter Try.func27, Try.ntmps27
  go_wp2
  go_ret
  exact ⟨rfl, bz.out⟩
end Go.Proofs.Ytafbbojfifcncaa
set_option linter.unusedVariables false
set_option linter.unusedSimpArgs false
namespace Go.Proofs.Ytafbbojfifcncaa
open Go Go.RowKit Go.Joins

theorem below_keptA {w0 w w' : World} {F : Nat → Prop} (h : Below w0.heap.size w0 w) (hk : Kept F w w') (hF : ∀ k, F k → w0.heap.size ≤ k) : Below w0.heap.size w0 w' :=
  h.trans ⟨hk.os, hk.tape, hk.output, hk.size, fun k hk' => hk.block k (Nat.lt_of_lt_of_le hk' h.size) fun hf => by have := hF k hf; omega⟩
theorem kept_set3A {w : World} {q : Nat} {o : Obj} (h : w.heap[q]? = some o) (u0 u1 u2 : Value) : Kept (fun k => k = q) w (((w.setCell ⟨q, 0, none⟩ u0).setCell ⟨q, 1, none⟩ u1).setCell ⟨q, 2, none⟩ u2) := kept_set3 q u0 u1 u2
set_option maxRecDepth 8000 in
set_option maxHeartbeats 32000000 in
theorem call_pall (ka kb : ByteArray) (ga gb : Int) (Aa Ab : Option Addr) (na nb ca cb : Nat) (La Lb : List RA) (now : Int) (st : Bool) (key : ByteArray) (w : World) (ia : Lies w w.heap.size Aa na ca La) (ib : Lies w w.heap.size Ab nb cb Lb) :
    Calls Try.prog 3 #[.agg #[.string ka, .int .i64 ga, .slice Aa na ca], .agg #[.string kb, .int .i64 gb, .slice Ab nb cb], .int .i64 now, .bool st, .string key] w fun e w' => e = .returned (.bool true) ∧ Below w.heap.size w w' := by
  obtain ⟨fa, hfa⟩ : ∃ u, fewPB ka 30 (ros La) = u := ⟨_, rfl⟩
  obtain ⟨fb, hfb⟩ : ∃ u, fewPB kb 30 (ros Lb) = u := ⟨_, rfl⟩
  obtain ⟨oa, hoa⟩ : ∃ u, Pa.ok ⟨ka, ga, ros La⟩ = u := ⟨_, rfl⟩
  obtain ⟨ob, hob⟩ : ∃ u, Pa.ok ⟨kb, gb, ros Lb⟩ = u := ⟨_, rfl⟩
  obtain ⟨sab, hsab⟩ : ∃ u, psame ka ga (ros La) kb gb (ros Lb) = u := ⟨_, rfl⟩
  have FA := Lib.hid hfa; have FB := Lib.hid hfb; have KA := Lib.hid hoa; have KB := Lib.hid hob; have SAB := Lib.hid hsab
  have LA := Lib.hid ia.len; have LB := Lib.hid ib.len
  have bz := ((Below.refl w.heap.size w).alloc (Nat.le_refl _) (.cells #[.string ka, .int .i64 ga, .slice Aa na ca] 24)).alloc (by simp) (.cells #[.string kb, .int .i64 gb, .slice Ab nb cb] 24)
  have za := new_at (heap_alloc_new w (.cells #[.string ka, .int .i64 ga, .slice Aa na ca] 24)) (.cells #[.string kb, .int .i64 gb, .slice Ab nb cb] 24)
  have zb := heap_alloc_new (w.alloc (.cells #[.string ka, .int .i64 ga, .slice Aa na ca] 24)) (.cells #[.string kb, .int .i64 gb, .slice Ab nb cb] 24)
  simp only [World.size_alloc] at zb
  obtain ⟨U, hU⟩ : ∃ U, U = (w.alloc (.cells #[.string ka, .int .i64 ga, .slice Aa na ca] 24)).alloc (.cells #[.string kb, .int .i64 gb, .slice Ab nb cb] 24) := ⟨_, rfl⟩
  have hUs : U.heap.size = w.heap.size + 2 := by rw [hU]; simp
  rw [← hU] at bz za zb
  have hall : ∀ w', Below U.heap.size U w' → PtAt w' w.heap.size ka ga Aa na ca ∧ PtAt w' (w.heap.size + 1) kb gb Ab nb cb ∧ Lies w' w.heap.size Aa na ca La ∧ Lies w' w.heap.size Ab nb cb Lb := fun w' hb =>
    ⟨PtAt.of ((hb.block w.heap.size (by omega)).trans za), PtAt.of ((hb.block (w.heap.size + 1) (by omega)).trans zb), (ia.below bz).below (hb.mono (by omega)), (ib.below bz).below (hb.mono (by omega))⟩
  have HALL := Lib.hid hall; have BZ := Lib.hid bz; have HUS := Lib.hid hUs
  have HB := Lib.hid (Below.refl U.heap.size U)
  clear hfa hfb hoa hob hsab bz za zb hUs hall ia ib
  obtain ⟨⟨_, _, _⟩, ⟨_, _, _⟩, ia, ib⟩ := HALL.out _ HB.out
  have IA := Lib.hid ia; have IB := Lib.hid ib
  clear ia ib
  go_enter Try.func3, Try.ntmps3
  go_wp2_with fail
  rw [← hU]
  clear hU
  refine (fewpart_any ka ga Aa na ca w.heap.size 30 La _ IA.out (by have := HB.out.size; have := HUS.out; omega) (by omega)).mono ?_
  rintro x v1 ⟨rfl, b1⟩
  rw [FA.out]
  have hb1 := HB.out.trans (b1.mono HB.out.size)
  clear HB b1
  have HB := Lib.hid hb1
  clear hb1
  obtain ⟨⟨_, _, _⟩, ⟨_, _, _⟩, ia, ib⟩ := HALL.out _ HB.out
  have IA := Lib.hid ia; have IB := Lib.hid ib
  clear ia ib
  cases fa
  · go_wp2_with fail
    refine (pawake_any _).mono ?_
    rintro x v9 ⟨rfl, b9⟩
    have h9 := Lib.hid (next BZ.out (HB.out.trans (b9.mono HB.out.size)))
    clear b9
    go_wp2
    go_ret
    exact ⟨rfl, h9.out⟩
  have Ga := Lib.hid (few_part FA.out LA.out)
  go_wp2_with fail
  refine (fewpart_any kb gb Ab nb cb w.heap.size 30 Lb _ IB.out (by have := HB.out.size; have := HUS.out; omega) (by omega)).mono ?_
  rintro x v2 ⟨rfl, b2⟩
  rw [FB.out]
  have hb2 := HB.out.trans (b2.mono HB.out.size)
  clear HB b2
  have HB := Lib.hid hb2
  clear hb2
  obtain ⟨⟨_, _, _⟩, ⟨_, _, _⟩, ia, ib⟩ := HALL.out _ HB.out
  have IA := Lib.hid ia; have IB := Lib.hid ib
  clear ia ib
  cases fb
  · go_wp2_with fail
    refine (pawake_any _).mono ?_
    rintro x v9 ⟨rfl, b9⟩
    have h9 := Lib.hid (next BZ.out (HB.out.trans (b9.mono HB.out.size)))
    clear b9
    go_wp2
    go_ret
    exact ⟨rfl, h9.out⟩
  have Gb := Lib.hid (few_part FB.out LB.out)
  by_cases h1000 : 1000 < key.size
  · have n1 : decide (1000 < key.size) = true := decide_eq_true h1000
    have n2 : decide ((1000 : Int) < ((key.size : Nat) : Int)) = true := decide_eq_true (by omega)
    go_wp2_with fail
    refine (pawake_any _).mono ?_
    rintro x v9 ⟨rfl, b9⟩
    have h9 := Lib.hid (next BZ.out (HB.out.trans (b9.mono HB.out.size)))
    clear b9
    go_wp2
    go_ret
    exact ⟨rfl, h9.out⟩
  have n1 : decide (1000 < key.size) = false := decide_eq_false h1000
  have n2 : decide ((1000 : Int) < ((key.size : Nat) : Int)) = false := decide_eq_false (by omega)
  go_wp2_with fail
  refine wp_region_held_drew (S := fun w' => Below U.heap.size U w') (by kernel_rfl) ?_ (fun hHeld => ?_)
  · exact HB.out.drew
  refine takesH [0, 2] ?_
  repeat
    refine takesH_one (v := ?_) ?_ ?_
    rotate_left
    · first | (refine Or.inr ⟨by rfl, ?_⟩; with_reducible rfl) | (refine Or.inl ⟨by rfl, ?_⟩; intro wx hSw; (try dsimp only at hSw); first | (go_simp; first | done | with_reducible rfl) | (obtain ⟨⟨_, _, _⟩, ⟨_, _, _⟩, _⟩ := HALL.out _ hSw; go_simp; first | done | with_reducible rfl))
    try simp only [Act.put, List.getElem_toArray, List.getElem_cons_succ, List.getElem_cons_zero, List.setIfInBounds_toArray, List.set_cons_zero, List.set_cons_succ]
  refine takesH_nil ?_
  refine wpAnyH_ready (rs := [1]) (by kernel_rfl) (by simp) (AllReadyH.cons rfl (fun K hK => ?_) AllReadyH.nil)
  go_simp
  obtain ⟨_, _, ja, jb⟩ := HALL.out _ hHeld
  refine (pcheck_any ka ga Aa na ca w.heap.size La v2.drew ja (by have := hHeld.size; have := HUS.out; omega) (by have := Ga.out.len; omega) Ga.out.few).mono ?_
  rintro x u1 ⟨rfl, b9⟩
  rw [KA.out]
  have BN := Lib.hid b9
  clear b9 ja jb
  try go_wp2_with fail
  refine hK.out _ _ ?_ (fun hHeld => ?_)
  · exact hHeld.trans (BN.out.mono hHeld.size)
  clear hK K
  try simp only [Act.put, List.getElem_toArray, List.getElem_cons_succ, List.getElem_cons_zero, List.setIfInBounds_toArray, List.set_cons_zero, List.set_cons_succ]
  refine wpAnyH_ready (rs := [3]) (by kernel_rfl) (by simp) (AllReadyH.cons rfl (fun K hK => ?_) AllReadyH.nil)
  go_simp
  obtain ⟨_, _, ja, jb⟩ := HALL.out _ hHeld
  refine (rpcheck_any ka ga Aa na ca w.heap.size La u1 ja (by have := hHeld.size; have := HUS.out; omega) (by have := Ga.out.len; omega) Ga.out.few).mono ?_
  rintro x u2 ⟨rfl, b9⟩
  rw [KA.out]
  have BN := Lib.hid b9
  clear b9 ja jb
  try go_wp2_with fail
  refine hK.out _ _ ?_ (fun hHeld => ?_)
  · exact hHeld.trans (BN.out.mono hHeld.size)
  clear hK K
  try simp only [Act.put, List.getElem_toArray, List.getElem_cons_succ, List.getElem_cons_zero, List.setIfInBounds_toArray, List.set_cons_zero, List.set_cons_succ]
  refine takesH [4, 5, 6, 7, 9, 10] ?_
  repeat
    refine takesH_one (v := ?_) ?_ ?_
    rotate_left
    · first | (refine Or.inr ⟨by rfl, ?_⟩; with_reducible rfl) | (refine Or.inl ⟨by rfl, ?_⟩; intro wx hSw; (try dsimp only at hSw); first | (go_simp; first | done | with_reducible rfl) | (obtain ⟨⟨_, _, _⟩, ⟨_, _, _⟩, _⟩ := HALL.out _ hSw; go_simp; first | done | with_reducible rfl))
    try simp only [Act.put, List.getElem_toArray, List.getElem_cons_succ, List.getElem_cons_zero, List.setIfInBounds_toArray, List.set_cons_zero, List.set_cons_succ]
  refine takesH_nil ?_
  refine wpAnyH_ready (rs := [8]) (by kernel_rfl) (by simp) (AllReadyH.cons rfl (fun K hK => ?_) AllReadyH.nil)
  go_simp
  obtain ⟨_, _, ja, jb⟩ := HALL.out _ hHeld
  refine (psame_any ka kb ga gb Aa Ab na nb ca cb w.heap.size w.heap.size La Lb u2 ja jb (by have := hHeld.size; have := HUS.out; omega) (by have := hHeld.size; have := HUS.out; omega) (by have := Ga.out.len; omega) (by have := Gb.out.len; omega) (fun x hx => by have := Ga.out.cols x hx; omega) (fun x hx => by have := Gb.out.cols x hx; omega)).mono ?_
  rintro x u3 ⟨rfl, b9⟩
  rw [SAB.out]
  have BN := Lib.hid b9
  clear b9 ja jb
  try go_wp2_with fail
  refine hK.out _ _ ?_ (fun hHeld => ?_)
  · exact hHeld.trans (BN.out.mono hHeld.size)
  clear hK K
  try simp only [Act.put, List.getElem_toArray, List.getElem_cons_succ, List.getElem_cons_zero, List.setIfInBounds_toArray, List.set_cons_zero, List.set_cons_succ]
  refine wpAnyH_ready (rs := [11]) (by kernel_rfl) (by simp) (AllReadyH.cons rfl (fun K hK => ?_) AllReadyH.nil)
  go_simp
  obtain ⟨_, _, ja, jb⟩ := HALL.out _ hHeld
  refine (rpsame_any ka kb ga gb Aa Ab na nb ca cb w.heap.size w.heap.size La Lb u3 ja jb (by have := hHeld.size; have := HUS.out; omega) (by have := hHeld.size; have := HUS.out; omega) (by have := Ga.out.len; omega) (by have := Gb.out.len; omega) (fun x hx => by have := Ga.out.cols x hx; omega) (fun x hx => by have := Gb.out.cols x hx; omega)).mono ?_
  rintro x u4 ⟨rfl, b9⟩
  rw [SAB.out]
  have BN := Lib.hid b9
  clear b9 ja jb
  try go_wp2_with fail
  refine hK.out _ _ ?_ (fun hHeld => ?_)
  · exact hHeld.trans (BN.out.mono hHeld.size)
  clear hK K
  try simp only [Act.put, List.getElem_toArray, List.getElem_cons_succ, List.getElem_cons_zero, List.setIfInBounds_toArray, List.set_cons_zero, List.set_cons_succ]
  refine takesH [12, 13, 14, 15, 17] ?_
  repeat
    refine takesH_one (v := ?_) ?_ ?_
    rotate_left
    · first | (refine Or.inr ⟨by rfl, ?_⟩; with_reducible rfl) | (refine Or.inl ⟨by rfl, ?_⟩; intro wx hSw; (try dsimp only at hSw); first | (go_simp; first | done | with_reducible rfl) | (obtain ⟨⟨_, _, _⟩, ⟨_, _, _⟩, _⟩ := HALL.out _ hSw; go_simp; first | done | with_reducible rfl))
    try simp only [Act.put, List.getElem_toArray, List.getElem_cons_succ, List.getElem_cons_zero, List.setIfInBounds_toArray, List.set_cons_zero, List.set_cons_succ]
  refine takesH_nil ?_
  refine wpAnyH_ready (rs := [16]) (by kernel_rfl) (by simp) (AllReadyH.cons rfl (fun K hK => ?_) AllReadyH.nil)
  go_simp
  obtain ⟨_, _, ja, jb⟩ := HALL.out _ hHeld
  refine (pcopy_any ka ga Aa na ca w.heap.size La u4 ja (by have := hHeld.size; have := HUS.out; omega) (by have := Ga.out.len; omega) (fun x hx => by have := Ga.out.cols x hx; omega)).mono ?_
  rintro x u5 ⟨Mc, Ac, nc, cc, rfl, hMc, hfc⟩
  have BN := Lib.hid hfc.below
  have LCC := Lib.hid hfc.lies.2.1
  have NCC := Lib.hid hfc.lies.1
  have HMC := Lib.hid hMc
  clear hfc hMc ja jb
  try go_wp2_with fail
  refine hK.out _ _ ?_ (fun hHeld => ?_)
  · exact hHeld.trans (BN.out.mono hHeld.size)
  clear hK K
  try simp only [Act.put, List.getElem_toArray, List.getElem_cons_succ, List.getElem_cons_zero, List.setIfInBounds_toArray, List.set_cons_zero, List.set_cons_succ]
  refine wpAnyH_ready (rs := [18]) (by kernel_rfl) (by simp) (AllReadyH.cons rfl (fun K hK => ?_) AllReadyH.nil)
  go_simp
  obtain ⟨_, _, ja, jb⟩ := HALL.out _ hHeld
  refine (rpsame_any ka ka ga ga Ac Aa nc na cc ca u5.heap.size w.heap.size Mc La u5 LCC.out ja (Nat.le_refl _) (by have := hHeld.size; have := HUS.out; omega) (by have := Ga.out.len; have := len_ros HMC.out; have := NCC.out; have := LA.out; omega) (by have := Ga.out.len; omega) (all_ros HMC.out (cols_ros fun x hx => by have := Ga.out.cols x hx; omega)) (fun x hx => by have := Ga.out.cols x hx; omega)).mono ?_
  rintro x u6 ⟨rfl, b9⟩
  rw [HMC.out, psame_self]
  have BN := Lib.hid b9
  clear b9 ja jb
  try go_wp2_with fail
  refine hK.out _ _ ?_ (fun hHeld => ?_)
  · exact hHeld.trans (BN.out.mono hHeld.size)
  clear hK K
  try simp only [Act.put, List.getElem_toArray, List.getElem_cons_succ, List.getElem_cons_zero, List.setIfInBounds_toArray, List.set_cons_zero, List.set_cons_succ]
  refine takesH [19, 20] ?_
  repeat
    refine takesH_one (v := ?_) ?_ ?_
    rotate_left
    · first | (refine Or.inr ⟨by rfl, ?_⟩; with_reducible rfl) | (refine Or.inl ⟨by rfl, ?_⟩; intro wx hSw; (try dsimp only at hSw); first | (go_simp; first | done | with_reducible rfl))
    try simp only [Act.put, List.getElem_toArray, List.getElem_cons_succ, List.getElem_cons_zero, List.setIfInBounds_toArray, List.set_cons_zero, List.set_cons_succ]
  refine takesH_nil ?_
  refine wpAnyH_done (by kernel_rfl) ?_ _
  clear n1 n2 HB h1000 LCC NCC HMC BN
  have HB := Lib.hid hHeld
  clear hHeld
  obtain ⟨⟨_, _, _⟩, ⟨_, _, _⟩, ia, ib⟩ := HALL.out _ HB.out
  have IA := Lib.hid ia; have IB := Lib.hid ib
  clear ia ib
  go_wp2_with fail
  refine (rpcheck_any ka ga Aa na ca w.heap.size La _ IA.out (by have := HB.out.size; have := HUS.out; omega) (by have := Ga.out.len; omega) Ga.out.few).mono ?_
  rintro x v3 ⟨rfl, b3⟩
  rw [KA.out]
  have hb3 := HB.out.trans (b3.mono HB.out.size)
  clear HB b3
  have HB := Lib.hid hb3
  clear hb3
  obtain ⟨⟨_, _, _⟩, ⟨_, _, _⟩, ia, ib⟩ := HALL.out _ HB.out
  have IA := Lib.hid ia; have IB := Lib.hid ib
  clear ia ib
  cases oa
  · go_wp2_with fail
    refine (pawake_any _).mono ?_
    rintro x v9 ⟨rfl, b9⟩
    have h9 := Lib.hid (next BZ.out (HB.out.trans (b9.mono HB.out.size)))
    clear b9
    go_wp2
    go_ret
    exact ⟨rfl, h9.out⟩
  go_wp2_with fail
  refine (rpcheck_any kb gb Ab nb cb w.heap.size Lb _ IB.out (by have := HB.out.size; have := HUS.out; omega) (by have := Gb.out.len; omega) Gb.out.few).mono ?_
  rintro x v4 ⟨rfl, b4⟩
  rw [KB.out]
  have hb4 := HB.out.trans (b4.mono HB.out.size)
  clear HB b4
  have HB := Lib.hid hb4
  clear hb4
  obtain ⟨⟨_, _, _⟩, ⟨_, _, _⟩, ia, ib⟩ := HALL.out _ HB.out
  have IA := Lib.hid ia; have IB := Lib.hid ib
  clear ia ib
  cases ob
  · go_wp2_with fail
    refine (pawake_any _).mono ?_
    rintro x v9 ⟨rfl, b9⟩
    have h9 := Lib.hid (next BZ.out (HB.out.trans (b9.mono HB.out.size)))
    clear b9
    go_wp2
    go_ret
    exact ⟨rfl, h9.out⟩
  have Oa := Lib.hid (ok_part KA.out); have Ob := Lib.hid (ok_part KB.out)
  obtain ⟨G, hG⟩ : ∃ G, max ga gb = G := ⟨_, rfl⟩
  obtain ⟨X, hX⟩ : ∃ X, mrgR (ros La) (ros Lb) = X := ⟨_, rfl⟩
  have hxl : X.length ≤ 60 := by
    have h1 := mrgK_length (key := Ro.key) (jn := Ro.join) (ros Lb) (ros La)
    rw [List.length_map, List.length_map] at h1
    have h2 : (mrgR (ros La) (ros Lb)).length ≤ La.length + Lb.length := h1
    rw [hX] at h2
    have := Ga.out.len; have := Gb.out.len; have := LA.out; have := LB.out
    omega
  have hxc : ∀ r ∈ X, r.cols.length ≤ 1000 := fun r hr => by have := mrg_few Oa.out Ob.out r (by rw [hX]; exact hr); omega
  have MG := Lib.hid hG; have HX := Lib.hid hX; have HXL := Lib.hid hxl; have HXC := Lib.hid hxc
  clear hG hX hxl hxc FA FB KA KB SAB
  go_upto_region 7 with fail
  go_cut [11, 12] (fun s11 s12 wx => ∃ (qa : Nat) (M3 : List RA) (A3 : Option Addr) (n3 c3 : Nat), s11 = .pointer (some ⟨qa, 0, none⟩) ∧ s12 = .bool true ∧ wx.heap[qa]? = some (.cells #[.string ka, .int .i64 G, .slice A3 n3 c3] 24) ∧ ros M3 = X ∧ Fresh U wx (.slice A3 n3 c3) M3)
  case first =>
    go_wp2_with fail
    refine wp_region_held_drew (S := fun w' => Below U.heap.size U w') (by kernel_rfl) ?_ (fun hHeld => ?_)
    · exact HB.out.drew
    refine takesH [0, 2] ?_
    repeat
      refine takesH_one (v := ?_) ?_ ?_
      rotate_left
      · first | (refine Or.inr ⟨by rfl, ?_⟩; with_reducible rfl) | (refine Or.inl ⟨by rfl, ?_⟩; intro wx hSw; (try dsimp only at hSw); first | (go_simp; first | done | with_reducible rfl) | (obtain ⟨⟨_, _, _⟩, ⟨_, _, _⟩, _⟩ := HALL.out _ hSw; go_simp; first | done | with_reducible rfl))
      try simp only [Act.put, List.getElem_toArray, List.getElem_cons_succ, List.getElem_cons_zero, List.setIfInBounds_toArray, List.set_cons_zero, List.set_cons_succ]
    refine takesH_nil ?_
    refine wpAnyH_ready (rs := [1, 8]) (by kernel_rfl) (by simp) (AllReadyH.cons rfl (fun K hK => ?_) (AllReadyH.cons rfl (fun K hK => ?_) AllReadyH.nil))
    · go_simp
      obtain ⟨_, _, ja, jb⟩ := HALL.out _ hHeld
      refine (lpart_any ka ga Aa na ca w.heap.size La _ ja (by have := hHeld.size; have := HUS.out; omega) (by have := Ga.out.len; omega) (fun x hx => by have := Ga.out.cols x hx; omega)).mono ?_
      rintro e u1 ⟨M1, A1, n1, c1, rfl, hM1, hfr⟩
      have CB := Lib.hid (hHeld.trans (hfr.below.mono hHeld.size))
      have HM1 := Lib.hid hM1
      have HF1 := Lib.hid (hfr.lower hHeld)
      clear hfr hM1 ja jb
      try go_wp2_with fail
      refine hK.out _ _ ?_ (fun hHeld => ?_)
      · first | exact CB.out | exact hHeld
      clear hK K
      try simp only [Act.put, List.getElem_toArray, List.getElem_cons_succ, List.getElem_cons_zero, List.setIfInBounds_toArray, List.set_cons_zero, List.set_cons_succ]
      refine wpAnyH_ready (rs := [3, 8]) (by kernel_rfl) (by simp) (AllReadyH.cons rfl (fun K hK => ?_) (AllReadyH.cons rfl (fun K hK => ?_) AllReadyH.nil))
      · go_simp
        obtain ⟨_, _, ja, jb⟩ := HALL.out _ hHeld
        refine (lpart_any kb gb Ab nb cb w.heap.size Lb _ jb (by have := hHeld.size; have := HUS.out; omega) (by have := Gb.out.len; omega) (fun x hx => by have := Gb.out.cols x hx; omega)).mono ?_
        rintro e u2 ⟨M2, A2, n2, c2, rfl, hM2, hfr⟩
        have CB := Lib.hid (hHeld.trans (hfr.below.mono hHeld.size))
        have HM2 := Lib.hid hM2
        have HF2 := Lib.hid (hfr.lower hHeld)
        have HF1 := Lib.hid (HF1.out.on hfr.below)
        clear hfr hM2 ja jb
        try go_wp2_with fail
        refine hK.out _ _ ?_ (fun hHeld => ?_)
        · first | exact CB.out | exact hHeld
        clear hK K
        try simp only [Act.put, List.getElem_toArray, List.getElem_cons_succ, List.getElem_cons_zero, List.setIfInBounds_toArray, List.set_cons_zero, List.set_cons_succ]
        refine wpAnyH_ready (rs := [4, 8]) (by kernel_rfl) (by simp) (AllReadyH.cons rfl (fun K hK => ?_) (AllReadyH.cons rfl (fun K hK => ?_) AllReadyH.nil))
        · go_simp
          obtain ⟨en1, el1, _⟩ := HF1.out.lies
          obtain ⟨en2, el2, _⟩ := HF2.out.lies
          refine (pjoin_fits ka kb ga gb A1 A2 n1 n2 c1 c2 _ _ M1 M2 _ el1 el2 (Nat.le_refl _) (Nat.le_refl _) ?q1 (up_of_ros Oa.out.up HM1.out) (up_of_ros Ob.out.up HM2.out) ?q2 X (by rw [HM1.out, HM2.out]; exact HX.out) (Nat.le_trans HXL.out (by omega))).mono ?_
          case q1 => have := len_ros HM1.out; have := len_ros HM2.out; have := LA.out; have := LB.out; have := Ga.out.len; have := Gb.out.len; omega
          case q2 => have h1 := tot_few (all_ros HM1.out (cols_ros Oa.out.cols)); have h2 := tot_few (all_ros HM2.out (cols_ros Ob.out.cols)); have := len_ros HM1.out; have := len_ros HM2.out; have := LA.out; have := LB.out; have := Ga.out.len; have := Gb.out.len; omega
          rintro e u3 ⟨M3, A3, n3, c3, rfl, hM3, hfr⟩
          rw [MG.out]
          have CB := Lib.hid (hHeld.trans (hfr.below.mono hHeld.size))
          have HM3 := Lib.hid hM3
          have HF3 := Lib.hid (hfr.lower hHeld)
          clear hfr hM3 en1 el1 en2 el2
          try go_wp2_with fail
          refine hK.out _ _ ?_ (fun hHeld => ?_)
          · first | exact CB.out | exact hHeld
          clear hK K
          try simp only [Act.put, List.getElem_toArray, List.getElem_cons_succ, List.getElem_cons_zero, List.setIfInBounds_toArray, List.set_cons_zero, List.set_cons_succ]
          refine takesH [5, 6, 7] ?_
          repeat
            refine takesH_one (v := ?_) ?_ ?_
            rotate_left
            · first | (refine Or.inr ⟨by rfl, ?_⟩; with_reducible rfl) | (refine Or.inl ⟨by rfl, ?_⟩; intro wx hSw; (try dsimp only at hSw); first | (go_simp; first | done | with_reducible rfl))
            try simp only [Act.put, List.getElem_toArray, List.getElem_cons_succ, List.getElem_cons_zero, List.setIfInBounds_toArray, List.set_cons_zero, List.set_cons_succ]
          refine takesH_nil ?_
          refine wpAnyH_ready (rs := [8]) (by kernel_rfl) (by simp) (AllReadyH.cons rfl (fun K hK => ?_) AllReadyH.nil)
          go_simp
          have XZ := Lib.hid (heap_alloc_new u3 (.cells #[.string ⟨#[]⟩, .int .i64 0, .slice none 0 0] 24))
          have CBX : Below U.heap.size U (u3.alloc (.cells #[.string ⟨#[]⟩, .int .i64 0, .slice none 0 0] 24)) := hHeld.alloc hHeld.size _
          have HXQ : Hid (U.heap.size ≤ u3.heap.size) := Lib.hid hHeld.size
          have HXW : Below u3.heap.size u3 (u3.alloc (.cells #[.string ⟨#[]⟩, .int .i64 0, .slice none 0 0] 24)) := (Below.refl u3.heap.size u3).alloc (Nat.le_refl _) _
          have HF3 := Lib.hid (HF3.out.on HXW)
          clear HXW
          generalize (u3.alloc (.cells #[.string ⟨#[]⟩, .int .i64 0, .slice none 0 0] 24)) = wx at *
          refine hK.out _ _ ?_ (fun hHeld => ?_)
          · exact CBX
          clear hK K
          try simp only [Act.put, List.getElem_toArray, List.getElem_cons_succ, List.getElem_cons_zero, List.setIfInBounds_toArray, List.set_cons_zero, List.set_cons_succ]
          refine wpAnyH_ready (rs := [9]) (by kernel_rfl) (by simp) (AllReadyH.cons rfl (fun K hK => ?_) AllReadyH.nil)
          have z0 := cell_at (i := 0) XZ.out rfl
          have z1 := cell_at (i := 1) XZ.out rfl
          have z2 := cell_at (i := 2) XZ.out rfl
          have y0 := thawed_at (i := 0) XZ.out
          have y1 := thawed_at (i := 1) XZ.out
          have y2 := thawed_at (i := 2) XZ.out
          have M9 := Lib.hid (set3_block XZ.out (.string ka) (.int .i64 G) (.slice A3 n3 c3))
          have K9 := kept_set3A XZ.out (.string ka) (.int .i64 G) (.slice A3 n3 c3)
          have HF9 := Lib.hid (HF3.out.kept K9 (e := 24) (fun j hj => by subst hj; exact ⟨HXQ.out, _, XZ.out⟩) (by decide) (by decide))
          have CB9 := Lib.hid (below_keptA hHeld K9 fun j hj => by subst hj; exact HXQ.out)
          clear K9
          go_simp
          refine hK.out _ _ ?_ (fun hHeld => ?_)
          · exact CB9.out
          clear hK K
          try simp only [Act.put, List.getElem_toArray, List.getElem_cons_succ, List.getElem_cons_zero, List.setIfInBounds_toArray, List.set_cons_zero, List.set_cons_succ]
          refine takesH [10] ?_
          repeat
            refine takesH_one (v := ?_) ?_ ?_
            rotate_left
            · first | (refine Or.inr ⟨by rfl, ?_⟩; with_reducible rfl) | (refine Or.inl ⟨by rfl, ?_⟩; intro wx hSw; (try dsimp only at hSw); first | (go_simp; first | done | with_reducible rfl))
            try simp only [Act.put, List.getElem_toArray, List.getElem_cons_succ, List.getElem_cons_zero, List.setIfInBounds_toArray, List.set_cons_zero, List.set_cons_succ]
          refine takesH_nil ?_
          refine wpAnyH_done (by kernel_rfl) ?_ _
          go_wp2_with fail
          go_meet
          exact ⟨_, M3, A3, n3, c3, rfl, rfl, M9.out, HM3.out, HF9.out⟩
        · go_simp
          have XZ := Lib.hid (heap_alloc_new u2 (.cells #[.string ⟨#[]⟩, .int .i64 0, .slice none 0 0] 24))
          have CBX : Below U.heap.size U (u2.alloc (.cells #[.string ⟨#[]⟩, .int .i64 0, .slice none 0 0] 24)) := hHeld.alloc hHeld.size _
          have HXQ : Hid (U.heap.size ≤ u2.heap.size) := Lib.hid hHeld.size
          have HXW : Below u2.heap.size u2 (u2.alloc (.cells #[.string ⟨#[]⟩, .int .i64 0, .slice none 0 0] 24)) := (Below.refl u2.heap.size u2).alloc (Nat.le_refl _) _
          have HF1 := Lib.hid (HF1.out.on HXW)
          have HF2 := Lib.hid (HF2.out.on HXW)
          clear HXW
          generalize (u2.alloc (.cells #[.string ⟨#[]⟩, .int .i64 0, .slice none 0 0] 24)) = wx at *
          refine hK.out _ _ ?_ (fun hHeld => ?_)
          · exact CBX
          clear hK K
          try simp only [Act.put, List.getElem_toArray, List.getElem_cons_succ, List.getElem_cons_zero, List.setIfInBounds_toArray, List.set_cons_zero, List.set_cons_succ]
          refine wpAnyH_ready (rs := [4]) (by kernel_rfl) (by simp) (AllReadyH.cons rfl (fun K hK => ?_) AllReadyH.nil)
          go_simp
          obtain ⟨en1, el1, _⟩ := HF1.out.lies
          obtain ⟨en2, el2, _⟩ := HF2.out.lies
          refine (pjoin_fits ka kb ga gb A1 A2 n1 n2 c1 c2 _ _ M1 M2 _ el1 el2 (Nat.le_refl _) (Nat.le_refl _) ?q1 (up_of_ros Oa.out.up HM1.out) (up_of_ros Ob.out.up HM2.out) ?q2 X (by rw [HM1.out, HM2.out]; exact HX.out) (Nat.le_trans HXL.out (by omega))).mono ?_
          case q1 => have := len_ros HM1.out; have := len_ros HM2.out; have := LA.out; have := LB.out; have := Ga.out.len; have := Gb.out.len; omega
          case q2 => have h1 := tot_few (all_ros HM1.out (cols_ros Oa.out.cols)); have h2 := tot_few (all_ros HM2.out (cols_ros Ob.out.cols)); have := len_ros HM1.out; have := len_ros HM2.out; have := LA.out; have := LB.out; have := Ga.out.len; have := Gb.out.len; omega
          rintro e u3 ⟨M3, A3, n3, c3, rfl, hM3, hfr⟩
          rw [MG.out]
          have CB := Lib.hid (hHeld.trans (hfr.below.mono hHeld.size))
          have HM3 := Lib.hid hM3
          have HF3 := Lib.hid (hfr.lower hHeld)
          have XZ := Lib.hid ((hfr.below.block _ (Array.getElem?_eq_some_iff.1 XZ.out).1).trans XZ.out)
          clear hfr hM3 en1 el1 en2 el2
          try go_wp2_with fail
          refine hK.out _ _ ?_ (fun hHeld => ?_)
          · first | exact CB.out | exact hHeld
          clear hK K
          try simp only [Act.put, List.getElem_toArray, List.getElem_cons_succ, List.getElem_cons_zero, List.setIfInBounds_toArray, List.set_cons_zero, List.set_cons_succ]
          refine takesH [5, 6, 7] ?_
          repeat
            refine takesH_one (v := ?_) ?_ ?_
            rotate_left
            · first | (refine Or.inr ⟨by rfl, ?_⟩; with_reducible rfl) | (refine Or.inl ⟨by rfl, ?_⟩; intro wx hSw; (try dsimp only at hSw); first | (go_simp; first | done | with_reducible rfl))
            try simp only [Act.put, List.getElem_toArray, List.getElem_cons_succ, List.getElem_cons_zero, List.setIfInBounds_toArray, List.set_cons_zero, List.set_cons_succ]
          refine takesH_nil ?_
          refine wpAnyH_ready (rs := [9]) (by kernel_rfl) (by simp) (AllReadyH.cons rfl (fun K hK => ?_) AllReadyH.nil)
          have z0 := cell_at (i := 0) XZ.out rfl
          have z1 := cell_at (i := 1) XZ.out rfl
          have z2 := cell_at (i := 2) XZ.out rfl
          have y0 := thawed_at (i := 0) XZ.out
          have y1 := thawed_at (i := 1) XZ.out
          have y2 := thawed_at (i := 2) XZ.out
          have M9 := Lib.hid (set3_block XZ.out (.string ka) (.int .i64 G) (.slice A3 n3 c3))
          have K9 := kept_set3A XZ.out (.string ka) (.int .i64 G) (.slice A3 n3 c3)
          have HF9 := Lib.hid (HF3.out.kept K9 (e := 24) (fun j hj => by subst hj; exact ⟨HXQ.out, _, XZ.out⟩) (by decide) (by decide))
          have CB9 := Lib.hid (below_keptA hHeld K9 fun j hj => by subst hj; exact HXQ.out)
          clear K9
          go_simp
          refine hK.out _ _ ?_ (fun hHeld => ?_)
          · exact CB9.out
          clear hK K
          try simp only [Act.put, List.getElem_toArray, List.getElem_cons_succ, List.getElem_cons_zero, List.setIfInBounds_toArray, List.set_cons_zero, List.set_cons_succ]
          refine takesH [10] ?_
          repeat
            refine takesH_one (v := ?_) ?_ ?_
            rotate_left
            · first | (refine Or.inr ⟨by rfl, ?_⟩; with_reducible rfl) | (refine Or.inl ⟨by rfl, ?_⟩; intro wx hSw; (try dsimp only at hSw); first | (go_simp; first | done | with_reducible rfl))
            try simp only [Act.put, List.getElem_toArray, List.getElem_cons_succ, List.getElem_cons_zero, List.setIfInBounds_toArray, List.set_cons_zero, List.set_cons_succ]
          refine takesH_nil ?_
          refine wpAnyH_done (by kernel_rfl) ?_ _
          go_wp2_with fail
          go_meet
          exact ⟨_, M3, A3, n3, c3, rfl, rfl, M9.out, HM3.out, HF9.out⟩
      · go_simp
        have XZ := Lib.hid (heap_alloc_new u1 (.cells #[.string ⟨#[]⟩, .int .i64 0, .slice none 0 0] 24))
        have CBX : Below U.heap.size U (u1.alloc (.cells #[.string ⟨#[]⟩, .int .i64 0, .slice none 0 0] 24)) := hHeld.alloc hHeld.size _
        have HXQ : Hid (U.heap.size ≤ u1.heap.size) := Lib.hid hHeld.size
        have HXW : Below u1.heap.size u1 (u1.alloc (.cells #[.string ⟨#[]⟩, .int .i64 0, .slice none 0 0] 24)) := (Below.refl u1.heap.size u1).alloc (Nat.le_refl _) _
        have HF1 := Lib.hid (HF1.out.on HXW)
        clear HXW
        generalize (u1.alloc (.cells #[.string ⟨#[]⟩, .int .i64 0, .slice none 0 0] 24)) = wx at *
        refine hK.out _ _ ?_ (fun hHeld => ?_)
        · exact CBX
        clear hK K
        try simp only [Act.put, List.getElem_toArray, List.getElem_cons_succ, List.getElem_cons_zero, List.setIfInBounds_toArray, List.set_cons_zero, List.set_cons_succ]
        refine wpAnyH_ready (rs := [3]) (by kernel_rfl) (by simp) (AllReadyH.cons rfl (fun K hK => ?_) AllReadyH.nil)
        go_simp
        obtain ⟨_, _, ja, jb⟩ := HALL.out _ hHeld
        refine (lpart_any kb gb Ab nb cb w.heap.size Lb _ jb (by have := hHeld.size; have := HUS.out; omega) (by have := Gb.out.len; omega) (fun x hx => by have := Gb.out.cols x hx; omega)).mono ?_
        rintro e u2 ⟨M2, A2, n2, c2, rfl, hM2, hfr⟩
        have CB := Lib.hid (hHeld.trans (hfr.below.mono hHeld.size))
        have HM2 := Lib.hid hM2
        have HF2 := Lib.hid (hfr.lower hHeld)
        have HF1 := Lib.hid (HF1.out.on hfr.below)
        have XZ := Lib.hid ((hfr.below.block _ (Array.getElem?_eq_some_iff.1 XZ.out).1).trans XZ.out)
        clear hfr hM2 ja jb
        try go_wp2_with fail
        refine hK.out _ _ ?_ (fun hHeld => ?_)
        · first | exact CB.out | exact hHeld
        clear hK K
        try simp only [Act.put, List.getElem_toArray, List.getElem_cons_succ, List.getElem_cons_zero, List.setIfInBounds_toArray, List.set_cons_zero, List.set_cons_succ]
        refine wpAnyH_ready (rs := [4]) (by kernel_rfl) (by simp) (AllReadyH.cons rfl (fun K hK => ?_) AllReadyH.nil)
        go_simp
        obtain ⟨en1, el1, _⟩ := HF1.out.lies
        obtain ⟨en2, el2, _⟩ := HF2.out.lies
        refine (pjoin_fits ka kb ga gb A1 A2 n1 n2 c1 c2 _ _ M1 M2 _ el1 el2 (Nat.le_refl _) (Nat.le_refl _) ?q1 (up_of_ros Oa.out.up HM1.out) (up_of_ros Ob.out.up HM2.out) ?q2 X (by rw [HM1.out, HM2.out]; exact HX.out) (Nat.le_trans HXL.out (by omega))).mono ?_
        case q1 => have := len_ros HM1.out; have := len_ros HM2.out; have := LA.out; have := LB.out; have := Ga.out.len; have := Gb.out.len; omega
        case q2 => have h1 := tot_few (all_ros HM1.out (cols_ros Oa.out.cols)); have h2 := tot_few (all_ros HM2.out (cols_ros Ob.out.cols)); have := len_ros HM1.out; have := len_ros HM2.out; have := LA.out; have := LB.out; have := Ga.out.len; have := Gb.out.len; omega
        rintro e u3 ⟨M3, A3, n3, c3, rfl, hM3, hfr⟩
        rw [MG.out]
        have CB := Lib.hid (hHeld.trans (hfr.below.mono hHeld.size))
        have HM3 := Lib.hid hM3
        have HF3 := Lib.hid (hfr.lower hHeld)
        have XZ := Lib.hid ((hfr.below.block _ (Array.getElem?_eq_some_iff.1 XZ.out).1).trans XZ.out)
        clear hfr hM3 en1 el1 en2 el2
        try go_wp2_with fail
        refine hK.out _ _ ?_ (fun hHeld => ?_)
        · first | exact CB.out | exact hHeld
        clear hK K
        try simp only [Act.put, List.getElem_toArray, List.getElem_cons_succ, List.getElem_cons_zero, List.setIfInBounds_toArray, List.set_cons_zero, List.set_cons_succ]
        refine takesH [5, 6, 7] ?_
        repeat
          refine takesH_one (v := ?_) ?_ ?_
          rotate_left
          · first | (refine Or.inr ⟨by rfl, ?_⟩; with_reducible rfl) | (refine Or.inl ⟨by rfl, ?_⟩; intro wx hSw; (try dsimp only at hSw); first | (go_simp; first | done | with_reducible rfl))
          try simp only [Act.put, List.getElem_toArray, List.getElem_cons_succ, List.getElem_cons_zero, List.setIfInBounds_toArray, List.set_cons_zero, List.set_cons_succ]
        refine takesH_nil ?_
        refine wpAnyH_ready (rs := [9]) (by kernel_rfl) (by simp) (AllReadyH.cons rfl (fun K hK => ?_) AllReadyH.nil)
        have z0 := cell_at (i := 0) XZ.out rfl
        have z1 := cell_at (i := 1) XZ.out rfl
        have z2 := cell_at (i := 2) XZ.out rfl
        have y0 := thawed_at (i := 0) XZ.out
        have y1 := thawed_at (i := 1) XZ.out
        have y2 := thawed_at (i := 2) XZ.out
        have M9 := Lib.hid (set3_block XZ.out (.string ka) (.int .i64 G) (.slice A3 n3 c3))
        have K9 := kept_set3A XZ.out (.string ka) (.int .i64 G) (.slice A3 n3 c3)
        have HF9 := Lib.hid (HF3.out.kept K9 (e := 24) (fun j hj => by subst hj; exact ⟨HXQ.out, _, XZ.out⟩) (by decide) (by decide))
        have CB9 := Lib.hid (below_keptA hHeld K9 fun j hj => by subst hj; exact HXQ.out)
        clear K9
        go_simp
        refine hK.out _ _ ?_ (fun hHeld => ?_)
        · exact CB9.out
        clear hK K
        try simp only [Act.put, List.getElem_toArray, List.getElem_cons_succ, List.getElem_cons_zero, List.setIfInBounds_toArray, List.set_cons_zero, List.set_cons_succ]
        refine takesH [10] ?_
        repeat
          refine takesH_one (v := ?_) ?_ ?_
          rotate_left
          · first | (refine Or.inr ⟨by rfl, ?_⟩; with_reducible rfl) | (refine Or.inl ⟨by rfl, ?_⟩; intro wx hSw; (try dsimp only at hSw); first | (go_simp; first | done | with_reducible rfl))
          try simp only [Act.put, List.getElem_toArray, List.getElem_cons_succ, List.getElem_cons_zero, List.setIfInBounds_toArray, List.set_cons_zero, List.set_cons_succ]
        refine takesH_nil ?_
        refine wpAnyH_done (by kernel_rfl) ?_ _
        go_wp2_with fail
        go_meet
        exact ⟨_, M3, A3, n3, c3, rfl, rfl, M9.out, HM3.out, HF9.out⟩
    · go_simp
      have XZ : Hid (((v4.alloc (.cells #[.string ⟨#[]⟩, .int .i64 0, .slice none 0 0] 24)).drew).heap[v4.heap.size]? = some (.cells #[.string ⟨#[]⟩, .int .i64 0, .slice none 0 0] 24)) := Lib.hid (heap_alloc_new v4 _)
      have CBX : Below U.heap.size U ((v4.alloc (.cells #[.string ⟨#[]⟩, .int .i64 0, .slice none 0 0] 24)).drew) := (HB.out.alloc HB.out.size _).drew
      have HXQ : Hid (U.heap.size ≤ v4.heap.size) := Lib.hid HB.out.size
      have HXW : Below v4.heap.size v4 ((v4.alloc (.cells #[.string ⟨#[]⟩, .int .i64 0, .slice none 0 0] 24)).drew) := ((Below.refl v4.heap.size v4).alloc (Nat.le_refl _) _).drew
      clear HXW
      generalize (v4.alloc (.cells #[.string ⟨#[]⟩, .int .i64 0, .slice none 0 0] 24)).drew = wx at *
      refine hK.out _ _ ?_ (fun hHeld => ?_)
      · exact CBX
      clear hK K
      try simp only [Act.put, List.getElem_toArray, List.getElem_cons_succ, List.getElem_cons_zero, List.setIfInBounds_toArray, List.set_cons_zero, List.set_cons_succ]
      refine wpAnyH_ready (rs := [1]) (by kernel_rfl) (by simp) (AllReadyH.cons rfl (fun K hK => ?_) AllReadyH.nil)
      go_simp
      obtain ⟨_, _, ja, jb⟩ := HALL.out _ hHeld
      refine (lpart_any ka ga Aa na ca w.heap.size La _ ja (by have := hHeld.size; have := HUS.out; omega) (by have := Ga.out.len; omega) (fun x hx => by have := Ga.out.cols x hx; omega)).mono ?_
      rintro e u1 ⟨M1, A1, n1, c1, rfl, hM1, hfr⟩
      have CB := Lib.hid (hHeld.trans (hfr.below.mono hHeld.size))
      have HM1 := Lib.hid hM1
      have HF1 := Lib.hid (hfr.lower hHeld)
      have XZ := Lib.hid ((hfr.below.block _ (Array.getElem?_eq_some_iff.1 XZ.out).1).trans XZ.out)
      clear hfr hM1 ja jb
      try go_wp2_with fail
      refine hK.out _ _ ?_ (fun hHeld => ?_)
      · first | exact CB.out | exact hHeld
      clear hK K
      try simp only [Act.put, List.getElem_toArray, List.getElem_cons_succ, List.getElem_cons_zero, List.setIfInBounds_toArray, List.set_cons_zero, List.set_cons_succ]
      refine wpAnyH_ready (rs := [3]) (by kernel_rfl) (by simp) (AllReadyH.cons rfl (fun K hK => ?_) AllReadyH.nil)
      go_simp
      obtain ⟨_, _, ja, jb⟩ := HALL.out _ hHeld
      refine (lpart_any kb gb Ab nb cb w.heap.size Lb _ jb (by have := hHeld.size; have := HUS.out; omega) (by have := Gb.out.len; omega) (fun x hx => by have := Gb.out.cols x hx; omega)).mono ?_
      rintro e u2 ⟨M2, A2, n2, c2, rfl, hM2, hfr⟩
      have CB := Lib.hid (hHeld.trans (hfr.below.mono hHeld.size))
      have HM2 := Lib.hid hM2
      have HF2 := Lib.hid (hfr.lower hHeld)
      have HF1 := Lib.hid (HF1.out.on hfr.below)
      have XZ := Lib.hid ((hfr.below.block _ (Array.getElem?_eq_some_iff.1 XZ.out).1).trans XZ.out)
      clear hfr hM2 ja jb
      try go_wp2_with fail
      refine hK.out _ _ ?_ (fun hHeld => ?_)
      · first | exact CB.out | exact hHeld
      clear hK K
      try simp only [Act.put, List.getElem_toArray, List.getElem_cons_succ, List.getElem_cons_zero, List.setIfInBounds_toArray, List.set_cons_zero, List.set_cons_succ]
      refine wpAnyH_ready (rs := [4]) (by kernel_rfl) (by simp) (AllReadyH.cons rfl (fun K hK => ?_) AllReadyH.nil)
      go_simp
      obtain ⟨en1, el1, _⟩ := HF1.out.lies
      obtain ⟨en2, el2, _⟩ := HF2.out.lies
      refine (pjoin_fits ka kb ga gb A1 A2 n1 n2 c1 c2 _ _ M1 M2 _ el1 el2 (Nat.le_refl _) (Nat.le_refl _) ?q1 (up_of_ros Oa.out.up HM1.out) (up_of_ros Ob.out.up HM2.out) ?q2 X (by rw [HM1.out, HM2.out]; exact HX.out) (Nat.le_trans HXL.out (by omega))).mono ?_
      case q1 => have := len_ros HM1.out; have := len_ros HM2.out; have := LA.out; have := LB.out; have := Ga.out.len; have := Gb.out.len; omega
      case q2 => have h1 := tot_few (all_ros HM1.out (cols_ros Oa.out.cols)); have h2 := tot_few (all_ros HM2.out (cols_ros Ob.out.cols)); have := len_ros HM1.out; have := len_ros HM2.out; have := LA.out; have := LB.out; have := Ga.out.len; have := Gb.out.len; omega
      rintro e u3 ⟨M3, A3, n3, c3, rfl, hM3, hfr⟩
      rw [MG.out]
      have CB := Lib.hid (hHeld.trans (hfr.below.mono hHeld.size))
      have HM3 := Lib.hid hM3
      have HF3 := Lib.hid (hfr.lower hHeld)
      have XZ := Lib.hid ((hfr.below.block _ (Array.getElem?_eq_some_iff.1 XZ.out).1).trans XZ.out)
      clear hfr hM3 en1 el1 en2 el2
      try go_wp2_with fail
      refine hK.out _ _ ?_ (fun hHeld => ?_)
      · first | exact CB.out | exact hHeld
      clear hK K
      try simp only [Act.put, List.getElem_toArray, List.getElem_cons_succ, List.getElem_cons_zero, List.setIfInBounds_toArray, List.set_cons_zero, List.set_cons_succ]
      refine takesH [5, 6, 7] ?_
      repeat
        refine takesH_one (v := ?_) ?_ ?_
        rotate_left
        · first | (refine Or.inr ⟨by rfl, ?_⟩; with_reducible rfl) | (refine Or.inl ⟨by rfl, ?_⟩; intro wx hSw; (try dsimp only at hSw); first | (go_simp; first | done | with_reducible rfl))
        try simp only [Act.put, List.getElem_toArray, List.getElem_cons_succ, List.getElem_cons_zero, List.setIfInBounds_toArray, List.set_cons_zero, List.set_cons_succ]
      refine takesH_nil ?_
      refine wpAnyH_ready (rs := [9]) (by kernel_rfl) (by simp) (AllReadyH.cons rfl (fun K hK => ?_) AllReadyH.nil)
      have z0 := cell_at (i := 0) XZ.out rfl
      have z1 := cell_at (i := 1) XZ.out rfl
      have z2 := cell_at (i := 2) XZ.out rfl
      have y0 := thawed_at (i := 0) XZ.out
      have y1 := thawed_at (i := 1) XZ.out
      have y2 := thawed_at (i := 2) XZ.out
      have M9 := Lib.hid (set3_block XZ.out (.string ka) (.int .i64 G) (.slice A3 n3 c3))
      have K9 := kept_set3A XZ.out (.string ka) (.int .i64 G) (.slice A3 n3 c3)
      have HF9 := Lib.hid (HF3.out.kept K9 (e := 24) (fun j hj => by subst hj; exact ⟨HXQ.out, _, XZ.out⟩) (by decide) (by decide))
      have CB9 := Lib.hid (below_keptA hHeld K9 fun j hj => by subst hj; exact HXQ.out)
      clear K9
      go_simp
      refine hK.out _ _ ?_ (fun hHeld => ?_)
      · exact CB9.out
      clear hK K
      try simp only [Act.put, List.getElem_toArray, List.getElem_cons_succ, List.getElem_cons_zero, List.setIfInBounds_toArray, List.set_cons_zero, List.set_cons_succ]
      refine takesH [10] ?_
      repeat
        refine takesH_one (v := ?_) ?_ ?_
        rotate_left
        · first | (refine Or.inr ⟨by rfl, ?_⟩; with_reducible rfl) | (refine Or.inl ⟨by rfl, ?_⟩; intro wx hSw; (try dsimp only at hSw); first | (go_simp; first | done | with_reducible rfl))
        try simp only [Act.put, List.getElem_toArray, List.getElem_cons_succ, List.getElem_cons_zero, List.setIfInBounds_toArray, List.set_cons_zero, List.set_cons_succ]
      refine takesH_nil ?_
      refine wpAnyH_done (by kernel_rfl) ?_ _
      go_wp2_with fail
      go_meet
      exact ⟨_, M3, A3, n3, c3, rfl, rfl, M9.out, HM3.out, HF9.out⟩
  case rest =>
    obtain ⟨qa, M3, A3, n3, c3, rfl, rfl, hpa, hm3, hfa⟩ := hcut
    generalize wc = W7 at hpa hfa ⊢
    have hqa := (Array.getElem?_eq_some_iff.1 hpa).1
    obtain ⟨hn3, hl3, _⟩ := hfa.lies
    obtain ⟨⟨_, _, _⟩, ⟨_, _, _⟩, ia, ib⟩ := HALL.out _ hfa.below
    have IA := Lib.hid ia; have IB := Lib.hid ib
    have HB7 := Lib.hid hfa.below; have HP7 := Lib.hid hpa; have HM3 := Lib.hid hm3; have HL3 := Lib.hid hl3; have HN3 := Lib.hid hn3; have HQ7 := Lib.hid hqa
    clear ia ib hpa hqa hfa hm3 hl3 hn3 HB
    go_wp2_with fail
    refine (rpjoin_any ka kb ga gb Aa Ab na nb ca cb w.heap.size w.heap.size La Lb W7 IA.out IB.out (by have := HB7.out.size; have := HUS.out; omega) (by have := HB7.out.size; have := HUS.out; omega) (by have := Ga.out.len; have := Gb.out.len; omega) Oa.out.up.rise Ob.out.up.rise Ga.out.cols Gb.out.cols X HX.out).mono ?_
    rintro e v8 ⟨M4, A4, n4, c4, rfl, hm4, hf4⟩
    rw [MG.out]
    obtain ⟨hn4, hl4, _⟩ := hf4.lies
    have hb8 := (HB7.out.trans (hf4.below.mono HB7.out.size)).alloc (HB7.out.trans (hf4.below.mono HB7.out.size)).size (.cells #[.string ka, .int .i64 G, .slice A4 n4 c4] 24)
    have a8 := (Below.refl v8.heap.size v8).alloc (Nat.le_refl _) (.cells #[.string ka, .int .i64 G, .slice A4 n4 c4] 24)
    have hq4 := heap_alloc_new v8 (.cells #[.string ka, .int .i64 G, .slice A4 n4 c4] 24)
    have h3 := HL3.out.fresh (next hf4.below a8) (Nat.le_refl _)
    have h4 := hl4.fresh a8 (Nat.le_refl _)
    have p3 := ((next hf4.below a8).block qa HQ7.out).trans HP7.out
    obtain ⟨⟨_, _, _⟩, _⟩ := HALL.out _ hb8
    obtain ⟨W8, hW8⟩ : ∃ W, W = v8.alloc (.cells #[.string ka, .int .i64 G, .slice A4 n4 c4] 24) := ⟨_, rfl⟩
    have hb8' := hb8
    rw [← hW8] at hb8 hq4 h3 h4 p3
    obtain ⟨_, _, ia, _⟩ := HALL.out _ hb8
    have HB8 := Lib.hid hb8; have HQ4 := Lib.hid hq4; have H3 := Lib.hid h3; have H4 := Lib.hid h4; have P3 := Lib.hid p3; have HM4 := Lib.hid hm4; have HN4 := Lib.hid hn4
    have IA8 := Lib.hid ia
    clear hl4 hn4 hb8 hb8' a8 hq4 h3 h4 p3 hm4 hf4 ia IA IB HB7 HL3 HP7 HQ7
    go_wp2_with fail
    rw [← hW8]
    clear hW8
    refine (prow_any ka key ga Aa na ca w.heap.size La W8 IA8.out (by have := HB8.out.size; have := HUS.out; omega) (by have := Ga.out.len; omega) (fun x hx => by have := Ga.out.cols x hx; omega)).mono ?_
    obtain ⟨is, his⟩ : ∃ u, rowIs (ros La) key = u := ⟨_, rfl⟩
    have HIS := Lib.hid his
    clear his
    rintro e v9 ⟨z5, rfl, hz5, hcz5⟩
    rw [HIS.out]
    unfold RA.v Ro.val
    have b9 := next (Below.refl W8.heap.size W8) hcz5.below
    have hr5 : RaIn v9 v9.heap.size z5 := hcz5.roIn
    have hb9 := (HB8.out.trans (b9.mono HB8.out.size)).alloc (HB8.out.trans (b9.mono HB8.out.size)).size (.cells #[.string z5.ro.key, .string z5.ro.live.s, .bool z5.ro.live.d, .int .i64 z5.ro.live.a, .int .i64 z5.ro.live.e, .int .i64 z5.ro.gone, .int .i64 z5.ro.shade, .slice z5.A z5.ro.cols.length z5.c] 36)
    have a9 := (Below.refl v9.heap.size v9).alloc (Nat.le_refl _) (.cells #[.string z5.ro.key, .string z5.ro.live.s, .bool z5.ro.live.d, .int .i64 z5.ro.live.a, .int .i64 z5.ro.live.e, .int .i64 z5.ro.gone, .int .i64 z5.ro.shade, .slice z5.A z5.ro.cols.length z5.c] 36)
    have b9a := next b9 a9
    have hq5 := heap_alloc_new v9 (.cells #[.string z5.ro.key, .string z5.ro.live.s, .bool z5.ro.live.d, .int .i64 z5.ro.live.a, .int .i64 z5.ro.live.e, .int .i64 z5.ro.gone, .int .i64 z5.ro.shade, .slice z5.A z5.ro.cols.length z5.c] 36)
    have h3 := H3.out.fresh b9a (Nat.le_refl _)
    have h4 := H4.out.fresh b9a (Nat.le_refl _)
    have p3 := (b9a.block qa (Array.getElem?_eq_some_iff.1 P3.out).1).trans P3.out
    have p4 := (b9a.block v8.heap.size (Array.getElem?_eq_some_iff.1 HQ4.out).1).trans HQ4.out
    have r5 := (hr5.below a9).up (show v9.heap.size ≤ (v9.alloc (.cells #[.string z5.ro.key, .string z5.ro.live.s, .bool z5.ro.live.d, .int .i64 z5.ro.live.a, .int .i64 z5.ro.live.e, .int .i64 z5.ro.gone, .int .i64 z5.ro.shade, .slice z5.A z5.ro.cols.length z5.c] 36)).heap.size by simp)
    obtain ⟨⟨_, _, _⟩, _⟩ := HALL.out _ hb9
    obtain ⟨W9, hW9⟩ : ∃ W, W = v9.alloc (.cells #[.string z5.ro.key, .string z5.ro.live.s, .bool z5.ro.live.d, .int .i64 z5.ro.live.a, .int .i64 z5.ro.live.e, .int .i64 z5.ro.gone, .int .i64 z5.ro.shade, .slice z5.A z5.ro.cols.length z5.c] 36) := ⟨_, rfl⟩
    rw [← hW9] at hb9 hq5 h3 h4 p3 p4 r5
    obtain ⟨_, _, ia, _⟩ := HALL.out _ hb9
    clear H3 H4 P3 HQ4 HB8 IA8
    have HB9 := Lib.hid hb9; have HQ4 := Lib.hid p4; have HQ5 := Lib.hid hq5; have H3 := Lib.hid h3; have H4 := Lib.hid h4; have P3 := Lib.hid p3; have R5 := Lib.hid r5; have HZ5 := Lib.hid hz5
    have IA9 := Lib.hid ia
    clear hb9 a9 b9a hq5 h3 h4 p3 p4 r5 hz5 hcz5 hr5 b9 ia
    go_wp2_with fail
    rw [← hW9]
    clear hW9
    refine (rprow_any ka key ga Aa na ca w.heap.size La W9 IA9.out (by have := HB9.out.size; have := HUS.out; omega) (by have := Ga.out.len; omega)).mono ?_
    rintro e v10 ⟨z6, rfl, hz6, hr6, b10⟩
    rw [HIS.out]
    unfold RA.v Ro.val
    have hb10 := (HB9.out.trans (b10.mono HB9.out.size)).alloc (HB9.out.trans (b10.mono HB9.out.size)).size (.cells #[.string z6.ro.key, .string z6.ro.live.s, .bool z6.ro.live.d, .int .i64 z6.ro.live.a, .int .i64 z6.ro.live.e, .int .i64 z6.ro.gone, .int .i64 z6.ro.shade, .slice z6.A z6.ro.cols.length z6.c] 36)
    have a10 := (Below.refl v10.heap.size v10).alloc (Nat.le_refl _) (.cells #[.string z6.ro.key, .string z6.ro.live.s, .bool z6.ro.live.d, .int .i64 z6.ro.live.a, .int .i64 z6.ro.live.e, .int .i64 z6.ro.gone, .int .i64 z6.ro.shade, .slice z6.A z6.ro.cols.length z6.c] 36)
    have b10a := next b10 a10
    have hq6 := heap_alloc_new v10 (.cells #[.string z6.ro.key, .string z6.ro.live.s, .bool z6.ro.live.d, .int .i64 z6.ro.live.a, .int .i64 z6.ro.live.e, .int .i64 z6.ro.gone, .int .i64 z6.ro.shade, .slice z6.A z6.ro.cols.length z6.c] 36)
    have h3 := H3.out.fresh b10a (Nat.le_refl _)
    have h4 := H4.out.fresh b10a (Nat.le_refl _)
    have p3 := (b10a.block qa (Array.getElem?_eq_some_iff.1 P3.out).1).trans P3.out
    have p4 := (b10a.block v8.heap.size (Array.getElem?_eq_some_iff.1 HQ4.out).1).trans HQ4.out
    have p5 := (b10a.block v9.heap.size (Array.getElem?_eq_some_iff.1 HQ5.out).1).trans HQ5.out
    have r5 := (R5.out.below b10a).up b10a.size
    have r6 := (hr6.below (a10.mono (by have := b10.size; have := HB9.out.size; have := HUS.out; omega))).up (show w.heap.size ≤ (v10.alloc (.cells #[.string z6.ro.key, .string z6.ro.live.s, .bool z6.ro.live.d, .int .i64 z6.ro.live.a, .int .i64 z6.ro.live.e, .int .i64 z6.ro.gone, .int .i64 z6.ro.shade, .slice z6.A z6.ro.cols.length z6.c] 36)).heap.size by have := b10.size; have := HB9.out.size; have := HUS.out; simp; omega)
    obtain ⟨⟨_, _, _⟩, _⟩ := HALL.out _ hb10
    obtain ⟨W10, hW10⟩ : ∃ W, W = v10.alloc (.cells #[.string z6.ro.key, .string z6.ro.live.s, .bool z6.ro.live.d, .int .i64 z6.ro.live.a, .int .i64 z6.ro.live.e, .int .i64 z6.ro.gone, .int .i64 z6.ro.shade, .slice z6.A z6.ro.cols.length z6.c] 36) := ⟨_, rfl⟩
    rw [← hW10] at hb10 hq6 h3 h4 p3 p4 p5 r5 r6
    have hall10 : ∀ w', Below W10.heap.size W10 w' → PtAt w' w.heap.size ka ga Aa na ca ∧ Lies w' w.heap.size Aa na ca La ∧ True ∧ PtAt w' qa ka G A3 n3 c3 ∧ PtAt w' v8.heap.size ka G A4 n4 c4 ∧ BlkAt w' v9.heap.size z5 ∧ BlkAt w' v10.heap.size z6 ∧ Lies w' W10.heap.size A3 n3 c3 M3 ∧ Lies w' W10.heap.size A4 n4 c4 M4 ∧ RaIn w' W10.heap.size z5 ∧ RaIn w' W10.heap.size z6 := fun w' hb => by
      obtain ⟨h1, _, h2, _⟩ := HALL.out w' (hb10.trans (hb.mono hb10.size))
      have lt {q : Nat} {o : Obj} (h : W10.heap[q]? = some o) : q < W10.heap.size := (Array.getElem?_eq_some_iff.1 h).1
      exact ⟨h1, h2, trivial, PtAt.of ((hb.block _ (lt p3)).trans p3), PtAt.of ((hb.block _ (lt p4)).trans p4), BlkAt.of ((hb.block _ (lt p5)).trans p5), BlkAt.of ((hb.block _ (lt hq6)).trans hq6), h3.below hb, h4.below hb, r5.below hb, r6.below hb⟩
    obtain ⟨stamp, hst⟩ : ∃ u, stampR ga (ros La) = u := ⟨_, rfl⟩
    have hzz : ros [z5] = ros [z6] := by show [z5.ro] = [z6.ro]; rw [HZ5.out, hz6]
    have hra : (rowOf (ros La) key).cols.length ≤ 1000 := rowOf_cols (cols_ros fun x hx => by have := Ga.out.cols x hx; omega)
    have HALL10 := Lib.hid hall10; have ST := Lib.hid hst; have ZZ := Lib.hid (show decide (ros [z5] = ros [z6]) = true from decide_eq_true hzz)
    have CZ5 := Lib.hid (show z5.ro.cols.length ≤ 1000 by rw [HZ5.out]; exact hra)
    have CZ6 := Lib.hid (show z6.ro.cols.length ≤ 1000 by rw [hz6]; exact hra)
    have CX3 := Lib.hid (all_ros HM3.out HXC.out); have CX4 := Lib.hid (all_ros HM4.out HXC.out)
    have NX := Lib.hid (show n3 ≤ 1000 ∧ n4 ≤ 1000 from by
      have h1 := congrArg List.length HM3.out
      have h2 := congrArg List.length HM4.out
      rw [List.length_map] at h1 h2
      have := HN3.out; have := HN4.out; have := HXL.out
      omega)
    have HS10 := Lib.hid (show w.heap.size + 2 ≤ W10.heap.size by have := hb10.size; have := HUS.out; omega)
    have HB10 := Lib.hid (next BZ.out hb10)
    clear hb10 a10 b10a hq6 h3 h4 p3 p4 p5 r5 r6 hz6 hr6 b10 hall10 hst hzz hra H3 H4 P3 HQ4 HQ5 HB9 IA9 R5 HZ5 HXC HXL
    go_wp2_with fail
    rw [← hW10]
    clear hW10
    refine wp_region_held_drew (S := fun w' => Below W10.heap.size W10 w') (by kernel_rfl) ?_ (fun hHeld => ?_)
    · exact (Below.refl _ _).drew
    refine takesH [0, 1] ?_
    repeat
      refine takesH_one (v := ?_) ?_ ?_
      rotate_left
      · first | (refine Or.inr ⟨by rfl, ?_⟩; with_reducible rfl) | (refine Or.inl ⟨by rfl, ?_⟩; intro wx hSw; (try dsimp only at hSw); first | (go_simp; first | done | with_reducible rfl) | (obtain ⟨_, _, _, ⟨_, _, _⟩, ⟨_, _, _⟩, _⟩ := HALL10.out _ hSw; go_simp; first | done | with_reducible rfl))
      try simp only [Act.put, List.getElem_toArray, List.getElem_cons_succ, List.getElem_cons_zero, List.setIfInBounds_toArray, List.set_cons_zero, List.set_cons_succ]
    refine takesH_nil ?_
    refine wpAnyH_ready (rs := [2]) (by kernel_rfl) (by simp) (AllReadyH.cons rfl (fun K hK => ?_) AllReadyH.nil)
    go_simp
    obtain ⟨_, _, _, _, _, _, _, j3, j4, _⟩ := HALL10.out _ hHeld
    refine (rpsame_any ka ka G G A3 A4 n3 n4 c3 c4 W10.heap.size W10.heap.size M3 M4 _ j3 j4 hHeld.size hHeld.size (by have := NX.out; omega) (by have := NX.out; omega) CX3.out CX4.out).mono ?_
    rintro x q1 ⟨rfl, b9⟩
    rw [HM3.out, HM4.out, psame_self]
    have BN := Lib.hid b9
    clear b9 j3 j4
    try go_wp2_with fail
    refine hK.out _ _ ?_ (fun hHeld => ?_)
    · exact hHeld.trans (BN.out.mono hHeld.size)
    clear hK K
    try simp only [Act.put, List.getElem_toArray, List.getElem_cons_succ, List.getElem_cons_zero, List.setIfInBounds_toArray, List.set_cons_zero, List.set_cons_succ]
    refine takesH [3, 4, 5, 6, 7, 8, 9, 11] ?_
    repeat
      refine takesH_one (v := ?_) ?_ ?_
      rotate_left
      · first | (refine Or.inr ⟨by rfl, ?_⟩; with_reducible rfl) | (refine Or.inl ⟨by rfl, ?_⟩; intro wx hSw; (try dsimp only at hSw); first | (go_simp; first | done | with_reducible rfl) | (obtain ⟨_, _, _, _, _, ⟨_, _, _, _, _, _, _, _⟩, ⟨_, _, _, _, _, _, _, _⟩, _⟩ := HALL10.out _ hSw; go_simp; first | done | with_reducible rfl))
      try simp only [Act.put, List.getElem_toArray, List.getElem_cons_succ, List.getElem_cons_zero, List.setIfInBounds_toArray, List.set_cons_zero, List.set_cons_succ]
    refine takesH_nil ?_
    refine wpAnyH_ready (rs := [10, 12]) (by kernel_rfl) (by simp) (AllReadyH.cons rfl (fun K hK => ?_) (AllReadyH.cons rfl (fun K hK => ?_) AllReadyH.nil))
    · go_simp
      obtain ⟨_, _, _, _, _, _, _, _, _, k5, k6⟩ := HALL10.out _ hHeld
      have S5 := Lib.hid (lies_one q1 z5 k5 hHeld.size)
      have CBp1 : Below W10.heap.size W10 (q1.alloc (.cells #[.string z5.ro.key, .string z5.ro.live.s, .bool z5.ro.live.d, .int .i64 z5.ro.live.a, .int .i64 z5.ro.live.e, .int .i64 z5.ro.gone, .int .i64 z5.ro.shade, .slice z5.A z5.ro.cols.length z5.c] 36)) := hHeld.alloc hHeld.size _
      clear k5 k6
      generalize (q1.alloc (.cells #[.string z5.ro.key, .string z5.ro.live.s, .bool z5.ro.live.d, .int .i64 z5.ro.live.a, .int .i64 z5.ro.live.e, .int .i64 z5.ro.gone, .int .i64 z5.ro.shade, .slice z5.A z5.ro.cols.length z5.c] 36)) = p1 at *
      refine hK.out _ _ ?_ (fun hHeld => ?_)
      · first | exact CBp2 | exact CBp1
      clear hK K
      try simp only [Act.put, List.getElem_toArray, List.getElem_cons_succ, List.getElem_cons_zero, List.setIfInBounds_toArray, List.set_cons_zero, List.set_cons_succ]
      refine wpAnyH_ready (rs := [12]) (by kernel_rfl) (by simp) (AllReadyH.cons rfl (fun K hK => ?_) AllReadyH.nil)
      go_simp
      obtain ⟨_, _, _, _, _, _, _, _, _, k5, k6⟩ := HALL10.out _ hHeld
      have S6 := Lib.hid (lies_one p1 z6 k6 hHeld.size)
      have S5 := Lib.hid (S5.out.fresh ((Below.refl p1.heap.size p1).alloc (Nat.le_refl _) (.cells #[.string z6.ro.key, .string z6.ro.live.s, .bool z6.ro.live.d, .int .i64 z6.ro.live.a, .int .i64 z6.ro.live.e, .int .i64 z6.ro.gone, .int .i64 z6.ro.shade, .slice z6.A z6.ro.cols.length z6.c] 36)) (Nat.le_refl _))
      have CBp2 : Below W10.heap.size W10 (p1.alloc (.cells #[.string z6.ro.key, .string z6.ro.live.s, .bool z6.ro.live.d, .int .i64 z6.ro.live.a, .int .i64 z6.ro.live.e, .int .i64 z6.ro.gone, .int .i64 z6.ro.shade, .slice z6.A z6.ro.cols.length z6.c] 36)) := hHeld.alloc hHeld.size _
      clear k5 k6
      generalize (p1.alloc (.cells #[.string z6.ro.key, .string z6.ro.live.s, .bool z6.ro.live.d, .int .i64 z6.ro.live.a, .int .i64 z6.ro.live.e, .int .i64 z6.ro.gone, .int .i64 z6.ro.shade, .slice z6.A z6.ro.cols.length z6.c] 36)) = p2 at *
      refine hK.out _ _ ?_ (fun hHeld => ?_)
      · first | exact CBp2 | exact CBp1
      clear hK K
      try simp only [Act.put, List.getElem_toArray, List.getElem_cons_succ, List.getElem_cons_zero, List.setIfInBounds_toArray, List.set_cons_zero, List.set_cons_succ]
      refine wpAnyH_ready (rs := [13]) (by kernel_rfl) (by simp) (AllReadyH.cons rfl (fun K hK => ?_) AllReadyH.nil)
      go_simp
      refine (rsamerows_any _ _ 1 1 1 1 _ _ [z5] [z6] _ S5.out S6.out (Nat.le_refl _) (Nat.le_refl _) (by omega) (by omega) (fun x hx => by rw [List.mem_singleton.1 hx]; exact CZ5.out) (fun x hx => by rw [List.mem_singleton.1 hx]; exact CZ6.out)).mono ?_
      rintro x q2 ⟨rfl, b9⟩
      rw [ZZ.out]
      have BN := Lib.hid b9
      clear b9
      clear S5 S6
      try go_wp2_with fail
      refine hK.out _ _ ?_ (fun hHeld => ?_)
      · exact hHeld.trans (BN.out.mono hHeld.size)
      clear hK K
      try simp only [Act.put, List.getElem_toArray, List.getElem_cons_succ, List.getElem_cons_zero, List.setIfInBounds_toArray, List.set_cons_zero, List.set_cons_succ]
      refine takesH [14, 15, 16, 17, 18, 19, 20, 21, 22, 23, 25, 26, 27] ?_
      repeat
        refine takesH_one (v := ?_) ?_ ?_
        rotate_left
        · first | (refine Or.inr ⟨by rfl, ?_⟩; with_reducible rfl) | (refine Or.inl ⟨by rfl, ?_⟩; intro wx hSw; (try dsimp only at hSw); first | (go_simp; first | done | with_reducible rfl) | (obtain ⟨⟨_, _, _⟩, _⟩ := HALL10.out _ hSw; go_simp; first | done | with_reducible rfl))
        try simp only [Act.put, List.getElem_toArray, List.getElem_cons_succ, List.getElem_cons_zero, List.setIfInBounds_toArray, List.set_cons_zero, List.set_cons_succ]
      refine takesH_nil ?_
      refine wpAnyH_ready (rs := [24]) (by kernel_rfl) (by simp) (AllReadyH.cons rfl (fun K hK => ?_) AllReadyH.nil)
      go_simp
      obtain ⟨_, ja, _⟩ := HALL10.out _ hHeld
      refine (pseen_any ka ga now st Aa na ca w.heap.size La _ ja (by have := hHeld.size; have := HS10.out; omega) (by have := Ga.out.len; omega) (fun x hx => by have := Ga.out.cols x hx; omega)).mono ?_
      rintro x q3 ⟨sv, M5, rfl, hM5, ho5⟩
      obtain ⟨A5, c5, rfl, _, _, _, hl5⟩ := ho5.slice
      have hn5 : M5.length ≤ 30 := by have h1 := seenR_length ga now st (ros La); rw [← hM5, List.length_map, List.length_map] at h1; have := LA.out; have := Ga.out.len; omega
      obtain ⟨n5, en5⟩ : ∃ n5, M5.length = n5 := ⟨_, rfl⟩
      rw [en5] at hl5 hn5 ⊢
      have H5 := Lib.hid hl5
      have N5 := Lib.hid hn5
      have HM5 := Lib.hid hM5
      have BN := Lib.hid ho5.below
      clear hl5 hn5 hM5 ho5 en5 ja
      try go_wp2_with fail
      refine hK.out _ _ ?_ (fun hHeld => ?_)
      · exact hHeld.trans (BN.out.mono hHeld.size)
      clear hK K
      try simp only [Act.put, List.getElem_toArray, List.getElem_cons_succ, List.getElem_cons_zero, List.setIfInBounds_toArray, List.set_cons_zero, List.set_cons_succ]
      refine wpAnyH_ready (rs := [28]) (by kernel_rfl) (by simp) (AllReadyH.cons rfl (fun K hK => ?_) AllReadyH.nil)
      go_simp
      obtain ⟨_, ja, _⟩ := HALL10.out _ hHeld
      refine (rpseen_any ka ga now st Aa na ca w.heap.size La _ ja (by have := hHeld.size; have := HS10.out; omega) (by have := Ga.out.len; omega) (fun x hx => by have := Ga.out.cols x hx; omega) Oa.out.rows).mono ?_
      rintro x q4 ⟨sv, M6, rfl, hM6, ho6⟩
      obtain ⟨A6, c6, rfl, _, _, _, hl6⟩ := ho6.slice
      have hn6 : M6.length ≤ 30 := by have h1 := seenR_length ga now st (ros La); rw [← hM6, List.length_map, List.length_map] at h1; have := LA.out; have := Ga.out.len; omega
      obtain ⟨n6, en6⟩ : ∃ n6, M6.length = n6 := ⟨_, rfl⟩
      rw [en6] at hl6 hn6 ⊢
      have H6 := Lib.hid hl6
      have N6 := Lib.hid hn6
      have HM6 := Lib.hid hM6
      have BN := Lib.hid ho6.below
      have H5 := Lib.hid (H5.out.fresh ho6.below (Nat.le_refl _))
      clear hl6 hn6 hM6 ho6 en6 ja
      try go_wp2_with fail
      refine hK.out _ _ ?_ (fun hHeld => ?_)
      · exact hHeld.trans (BN.out.mono hHeld.size)
      clear hK K
      try simp only [Act.put, List.getElem_toArray, List.getElem_cons_succ, List.getElem_cons_zero, List.setIfInBounds_toArray, List.set_cons_zero, List.set_cons_succ]
      refine wpAnyH_ready (rs := [29]) (by kernel_rfl) (by simp) (AllReadyH.cons rfl (fun K hK => ?_) AllReadyH.nil)
      go_simp
      refine (rsamerows_any A5 A6 n5 n6 c5 c6 q4.heap.size q4.heap.size M5 M6 q4 H5.out H6.out (Nat.le_refl _) (Nat.le_refl _) (by have := N5.out; omega) (by have := N6.out; omega) (all_ros HM5.out (seen_cols (cols_ros fun x hx => by have := Ga.out.cols x hx; omega))) (all_ros HM6.out (seen_cols (cols_ros fun x hx => by have := Ga.out.cols x hx; omega)))).mono ?_
      rintro x q5 ⟨rfl, b9⟩
      rw [HM5.out, HM6.out, decide_eq_true (Eq.refl (seenR ga now st (ros La)))]
      have BN := Lib.hid b9
      clear b9
      try go_wp2_with fail
      refine hK.out _ _ ?_ (fun hHeld => ?_)
      · exact hHeld.trans (BN.out.mono hHeld.size)
      clear hK K
      try simp only [Act.put, List.getElem_toArray, List.getElem_cons_succ, List.getElem_cons_zero, List.setIfInBounds_toArray, List.set_cons_zero, List.set_cons_succ]
      refine takesH [30, 31, 32, 34] ?_
      repeat
        refine takesH_one (v := ?_) ?_ ?_
        rotate_left
        · first | (refine Or.inr ⟨by rfl, ?_⟩; with_reducible rfl) | (refine Or.inl ⟨by rfl, ?_⟩; intro wx hSw; (try dsimp only at hSw); first | (go_simp; first | done | with_reducible rfl) | (obtain ⟨⟨_, _, _⟩, _⟩ := HALL10.out _ hSw; go_simp; first | done | with_reducible rfl))
        try simp only [Act.put, List.getElem_toArray, List.getElem_cons_succ, List.getElem_cons_zero, List.setIfInBounds_toArray, List.set_cons_zero, List.set_cons_succ]
      refine takesH_nil ?_
      refine wpAnyH_ready (rs := [33]) (by kernel_rfl) (by simp) (AllReadyH.cons rfl (fun K hK => ?_) AllReadyH.nil)
      go_simp
      obtain ⟨_, ja, _⟩ := HALL10.out _ hHeld
      refine (pstampall_any ka ga Aa na ca w.heap.size La _ ja (by have := hHeld.size; have := HS10.out; omega) (by have := Ga.out.len; omega) (fun x hx => by have := Ga.out.cols x hx; omega)).mono ?_
      rintro x q6 ⟨rfl, b9⟩
      rw [ST.out]
      have BN := Lib.hid b9
      clear b9
      clear ja
      try go_wp2_with fail
      refine hK.out _ _ ?_ (fun hHeld => ?_)
      · exact hHeld.trans (BN.out.mono hHeld.size)
      clear hK K
      try simp only [Act.put, List.getElem_toArray, List.getElem_cons_succ, List.getElem_cons_zero, List.setIfInBounds_toArray, List.set_cons_zero, List.set_cons_succ]
      refine wpAnyH_ready (rs := [35]) (by kernel_rfl) (by simp) (AllReadyH.cons rfl (fun K hK => ?_) AllReadyH.nil)
      go_simp
      obtain ⟨_, ja, _⟩ := HALL10.out _ hHeld
      refine (rpstamp_any ka ga Aa na ca w.heap.size La _ ja (by have := hHeld.size; have := HS10.out; omega) (by have := Ga.out.len; omega) (fun x hx => by have := Ga.out.cols x hx; omega)).mono ?_
      rintro x q7 ⟨rfl, b9⟩
      rw [ST.out]
      have BN := Lib.hid b9
      clear b9
      clear ja
      try go_wp2_with fail
      refine hK.out _ _ ?_ (fun hHeld => ?_)
      · exact hHeld.trans (BN.out.mono hHeld.size)
      clear hK K
      try simp only [Act.put, List.getElem_toArray, List.getElem_cons_succ, List.getElem_cons_zero, List.setIfInBounds_toArray, List.set_cons_zero, List.set_cons_succ]
      refine takesH [36, 37, 38] ?_
      repeat
        refine takesH_one (v := ?_) ?_ ?_
        rotate_left
        · first | (refine Or.inr ⟨by rfl, ?_⟩; with_reducible rfl) | (refine Or.inl ⟨by rfl, ?_⟩; intro wx hSw; (try dsimp only at hSw); first | (go_simp; first | done | with_reducible rfl))
        try simp only [Act.put, List.getElem_toArray, List.getElem_cons_succ, List.getElem_cons_zero, List.setIfInBounds_toArray, List.set_cons_zero, List.set_cons_succ]
      refine takesH_nil ?_
      refine wpAnyH_ready (rs := [39]) (by kernel_rfl) (by simp) (AllReadyH.cons rfl (fun K hK => ?_) AllReadyH.nil)
      go_simp
      refine (pawake_any _).mono ?_
      rintro x q8 ⟨rfl, b9⟩
      have BN := Lib.hid b9
      clear b9
      try go_wp2_with fail
      refine hK.out _ _ ?_ (fun hHeld => ?_)
      · exact hHeld.trans (BN.out.mono hHeld.size)
      clear hK K
      try simp only [Act.put, List.getElem_toArray, List.getElem_cons_succ, List.getElem_cons_zero, List.setIfInBounds_toArray, List.set_cons_zero, List.set_cons_succ]
      refine takesH [40, 41] ?_
      repeat
        refine takesH_one (v := ?_) ?_ ?_
        rotate_left
        · first | (refine Or.inr ⟨by rfl, ?_⟩; with_reducible rfl) | (refine Or.inl ⟨by rfl, ?_⟩; intro wx hSw; (try dsimp only at hSw); first | (go_simp; first | done | with_reducible rfl))
        try simp only [Act.put, List.getElem_toArray, List.getElem_cons_succ, List.getElem_cons_zero, List.setIfInBounds_toArray, List.set_cons_zero, List.set_cons_succ]
      refine takesH_nil ?_
      refine wpAnyH_done (by kernel_rfl) ?_ _
      have h9 := Lib.hid (HB10.out.trans (hHeld.mono (by have := HS10.out; omega)))
      clear hHeld
      go_wp2
      go_ret
      exact ⟨rfl, h9.out⟩
    · go_simp
      obtain ⟨_, _, _, _, _, _, _, _, _, k5, k6⟩ := HALL10.out _ hHeld
      have S6 := Lib.hid (lies_one q1 z6 k6 hHeld.size)
      have CBp1 : Below W10.heap.size W10 (q1.alloc (.cells #[.string z6.ro.key, .string z6.ro.live.s, .bool z6.ro.live.d, .int .i64 z6.ro.live.a, .int .i64 z6.ro.live.e, .int .i64 z6.ro.gone, .int .i64 z6.ro.shade, .slice z6.A z6.ro.cols.length z6.c] 36)) := hHeld.alloc hHeld.size _
      clear k5 k6
      generalize (q1.alloc (.cells #[.string z6.ro.key, .string z6.ro.live.s, .bool z6.ro.live.d, .int .i64 z6.ro.live.a, .int .i64 z6.ro.live.e, .int .i64 z6.ro.gone, .int .i64 z6.ro.shade, .slice z6.A z6.ro.cols.length z6.c] 36)) = p1 at *
      refine hK.out _ _ ?_ (fun hHeld => ?_)
      · first | exact CBp2 | exact CBp1
      clear hK K
      try simp only [Act.put, List.getElem_toArray, List.getElem_cons_succ, List.getElem_cons_zero, List.setIfInBounds_toArray, List.set_cons_zero, List.set_cons_succ]
      refine wpAnyH_ready (rs := [10]) (by kernel_rfl) (by simp) (AllReadyH.cons rfl (fun K hK => ?_) AllReadyH.nil)
      go_simp
      obtain ⟨_, _, _, _, _, _, _, _, _, k5, k6⟩ := HALL10.out _ hHeld
      have S5 := Lib.hid (lies_one p1 z5 k5 hHeld.size)
      have S6 := Lib.hid (S6.out.fresh ((Below.refl p1.heap.size p1).alloc (Nat.le_refl _) (.cells #[.string z5.ro.key, .string z5.ro.live.s, .bool z5.ro.live.d, .int .i64 z5.ro.live.a, .int .i64 z5.ro.live.e, .int .i64 z5.ro.gone, .int .i64 z5.ro.shade, .slice z5.A z5.ro.cols.length z5.c] 36)) (Nat.le_refl _))
      have CBp2 : Below W10.heap.size W10 (p1.alloc (.cells #[.string z5.ro.key, .string z5.ro.live.s, .bool z5.ro.live.d, .int .i64 z5.ro.live.a, .int .i64 z5.ro.live.e, .int .i64 z5.ro.gone, .int .i64 z5.ro.shade, .slice z5.A z5.ro.cols.length z5.c] 36)) := hHeld.alloc hHeld.size _
      clear k5 k6
      generalize (p1.alloc (.cells #[.string z5.ro.key, .string z5.ro.live.s, .bool z5.ro.live.d, .int .i64 z5.ro.live.a, .int .i64 z5.ro.live.e, .int .i64 z5.ro.gone, .int .i64 z5.ro.shade, .slice z5.A z5.ro.cols.length z5.c] 36)) = p2 at *
      refine hK.out _ _ ?_ (fun hHeld => ?_)
      · first | exact CBp2 | exact CBp1
      clear hK K
      try simp only [Act.put, List.getElem_toArray, List.getElem_cons_succ, List.getElem_cons_zero, List.setIfInBounds_toArray, List.set_cons_zero, List.set_cons_succ]
      refine wpAnyH_ready (rs := [13]) (by kernel_rfl) (by simp) (AllReadyH.cons rfl (fun K hK => ?_) AllReadyH.nil)
      go_simp
      refine (rsamerows_any _ _ 1 1 1 1 _ _ [z5] [z6] _ S5.out S6.out (Nat.le_refl _) (Nat.le_refl _) (by omega) (by omega) (fun x hx => by rw [List.mem_singleton.1 hx]; exact CZ5.out) (fun x hx => by rw [List.mem_singleton.1 hx]; exact CZ6.out)).mono ?_
      rintro x q2 ⟨rfl, b9⟩
      rw [ZZ.out]
      have BN := Lib.hid b9
      clear b9
      clear S5 S6
      try go_wp2_with fail
      refine hK.out _ _ ?_ (fun hHeld => ?_)
      · exact hHeld.trans (BN.out.mono hHeld.size)
      clear hK K
      try simp only [Act.put, List.getElem_toArray, List.getElem_cons_succ, List.getElem_cons_zero, List.setIfInBounds_toArray, List.set_cons_zero, List.set_cons_succ]
      refine takesH [14, 15, 16, 17, 18, 19, 20, 21, 22, 23, 25, 26, 27] ?_
      repeat
        refine takesH_one (v := ?_) ?_ ?_
        rotate_left
        · first | (refine Or.inr ⟨by rfl, ?_⟩; with_reducible rfl) | (refine Or.inl ⟨by rfl, ?_⟩; intro wx hSw; (try dsimp only at hSw); first | (go_simp; first | done | with_reducible rfl) | (obtain ⟨⟨_, _, _⟩, _⟩ := HALL10.out _ hSw; go_simp; first | done | with_reducible rfl))
        try simp only [Act.put, List.getElem_toArray, List.getElem_cons_succ, List.getElem_cons_zero, List.setIfInBounds_toArray, List.set_cons_zero, List.set_cons_succ]
      refine takesH_nil ?_
      refine wpAnyH_ready (rs := [24]) (by kernel_rfl) (by simp) (AllReadyH.cons rfl (fun K hK => ?_) AllReadyH.nil)
      go_simp
      obtain ⟨_, ja, _⟩ := HALL10.out _ hHeld
      refine (pseen_any ka ga now st Aa na ca w.heap.size La _ ja (by have := hHeld.size; have := HS10.out; omega) (by have := Ga.out.len; omega) (fun x hx => by have := Ga.out.cols x hx; omega)).mono ?_
      rintro x q3 ⟨sv, M5, rfl, hM5, ho5⟩
      obtain ⟨A5, c5, rfl, _, _, _, hl5⟩ := ho5.slice
      have hn5 : M5.length ≤ 30 := by have h1 := seenR_length ga now st (ros La); rw [← hM5, List.length_map, List.length_map] at h1; have := LA.out; have := Ga.out.len; omega
      obtain ⟨n5, en5⟩ : ∃ n5, M5.length = n5 := ⟨_, rfl⟩
      rw [en5] at hl5 hn5 ⊢
      have H5 := Lib.hid hl5
      have N5 := Lib.hid hn5
      have HM5 := Lib.hid hM5
      have BN := Lib.hid ho5.below
      clear hl5 hn5 hM5 ho5 en5 ja
      try go_wp2_with fail
      refine hK.out _ _ ?_ (fun hHeld => ?_)
      · exact hHeld.trans (BN.out.mono hHeld.size)
      clear hK K
      try simp only [Act.put, List.getElem_toArray, List.getElem_cons_succ, List.getElem_cons_zero, List.setIfInBounds_toArray, List.set_cons_zero, List.set_cons_succ]
      refine wpAnyH_ready (rs := [28]) (by kernel_rfl) (by simp) (AllReadyH.cons rfl (fun K hK => ?_) AllReadyH.nil)
      go_simp
      obtain ⟨_, ja, _⟩ := HALL10.out _ hHeld
      refine (rpseen_any ka ga now st Aa na ca w.heap.size La _ ja (by have := hHeld.size; have := HS10.out; omega) (by have := Ga.out.len; omega) (fun x hx => by have := Ga.out.cols x hx; omega) Oa.out.rows).mono ?_
      rintro x q4 ⟨sv, M6, rfl, hM6, ho6⟩
      obtain ⟨A6, c6, rfl, _, _, _, hl6⟩ := ho6.slice
      have hn6 : M6.length ≤ 30 := by have h1 := seenR_length ga now st (ros La); rw [← hM6, List.length_map, List.length_map] at h1; have := LA.out; have := Ga.out.len; omega
      obtain ⟨n6, en6⟩ : ∃ n6, M6.length = n6 := ⟨_, rfl⟩
      rw [en6] at hl6 hn6 ⊢
      have H6 := Lib.hid hl6
      have N6 := Lib.hid hn6
      have HM6 := Lib.hid hM6
      have BN := Lib.hid ho6.below
      have H5 := Lib.hid (H5.out.fresh ho6.below (Nat.le_refl _))
      clear hl6 hn6 hM6 ho6 en6 ja
      try go_wp2_with fail
      refine hK.out _ _ ?_ (fun hHeld => ?_)
      · exact hHeld.trans (BN.out.mono hHeld.size)
      clear hK K
      try simp only [Act.put, List.getElem_toArray, List.getElem_cons_succ, List.getElem_cons_zero, List.setIfInBounds_toArray, List.set_cons_zero, List.set_cons_succ]
      refine wpAnyH_ready (rs := [29]) (by kernel_rfl) (by simp) (AllReadyH.cons rfl (fun K hK => ?_) AllReadyH.nil)
      go_simp
      refine (rsamerows_any A5 A6 n5 n6 c5 c6 q4.heap.size q4.heap.size M5 M6 q4 H5.out H6.out (Nat.le_refl _) (Nat.le_refl _) (by have := N5.out; omega) (by have := N6.out; omega) (all_ros HM5.out (seen_cols (cols_ros fun x hx => by have := Ga.out.cols x hx; omega))) (all_ros HM6.out (seen_cols (cols_ros fun x hx => by have := Ga.out.cols x hx; omega)))).mono ?_
      rintro x q5 ⟨rfl, b9⟩
      rw [HM5.out, HM6.out, decide_eq_true (Eq.refl (seenR ga now st (ros La)))]
      have BN := Lib.hid b9
      clear b9
      try go_wp2_with fail
      refine hK.out _ _ ?_ (fun hHeld => ?_)
      · exact hHeld.trans (BN.out.mono hHeld.size)
      clear hK K
      try simp only [Act.put, List.getElem_toArray, List.getElem_cons_succ, List.getElem_cons_zero, List.setIfInBounds_toArray, List.set_cons_zero, List.set_cons_succ]
      refine takesH [30, 31, 32, 34] ?_
      repeat
        refine takesH_one (v := ?_) ?_ ?_
        rotate_left
        · first | (refine Or.inr ⟨by rfl, ?_⟩; with_reducible rfl) | (refine Or.inl ⟨by rfl, ?_⟩; intro wx hSw; (try dsimp only at hSw); first | (go_simp; first | done | with_reducible rfl) | (obtain ⟨⟨_, _, _⟩, _⟩ := HALL10.out _ hSw; go_simp; first | done | with_reducible rfl))
        try simp only [Act.put, List.getElem_toArray, List.getElem_cons_succ, List.getElem_cons_zero, List.setIfInBounds_toArray, List.set_cons_zero, List.set_cons_succ]
      refine takesH_nil ?_
      refine wpAnyH_ready (rs := [33]) (by kernel_rfl) (by simp) (AllReadyH.cons rfl (fun K hK => ?_) AllReadyH.nil)
      go_simp
      obtain ⟨_, ja, _⟩ := HALL10.out _ hHeld
      refine (pstampall_any ka ga Aa na ca w.heap.size La _ ja (by have := hHeld.size; have := HS10.out; omega) (by have := Ga.out.len; omega) (fun x hx => by have := Ga.out.cols x hx; omega)).mono ?_
      rintro x q6 ⟨rfl, b9⟩
      rw [ST.out]
      have BN := Lib.hid b9
      clear b9
      clear ja
      try go_wp2_with fail
      refine hK.out _ _ ?_ (fun hHeld => ?_)
      · exact hHeld.trans (BN.out.mono hHeld.size)
      clear hK K
      try simp only [Act.put, List.getElem_toArray, List.getElem_cons_succ, List.getElem_cons_zero, List.setIfInBounds_toArray, List.set_cons_zero, List.set_cons_succ]
      refine wpAnyH_ready (rs := [35]) (by kernel_rfl) (by simp) (AllReadyH.cons rfl (fun K hK => ?_) AllReadyH.nil)
      go_simp
      obtain ⟨_, ja, _⟩ := HALL10.out _ hHeld
      refine (rpstamp_any ka ga Aa na ca w.heap.size La _ ja (by have := hHeld.size; have := HS10.out; omega) (by have := Ga.out.len; omega) (fun x hx => by have := Ga.out.cols x hx; omega)).mono ?_
      rintro x q7 ⟨rfl, b9⟩
      rw [ST.out]
      have BN := Lib.hid b9
      clear b9
      clear ja
      try go_wp2_with fail
      refine hK.out _ _ ?_ (fun hHeld => ?_)
      · exact hHeld.trans (BN.out.mono hHeld.size)
      clear hK K
      try simp only [Act.put, List.getElem_toArray, List.getElem_cons_succ, List.getElem_cons_zero, List.setIfInBounds_toArray, List.set_cons_zero, List.set_cons_succ]
      refine takesH [36, 37, 38] ?_
      repeat
        refine takesH_one (v := ?_) ?_ ?_
        rotate_left
        · first | (refine Or.inr ⟨by rfl, ?_⟩; with_reducible rfl) | (refine Or.inl ⟨by rfl, ?_⟩; intro wx hSw; (try dsimp only at hSw); first | (go_simp; first | done | with_reducible rfl))
        try simp only [Act.put, List.getElem_toArray, List.getElem_cons_succ, List.getElem_cons_zero, List.setIfInBounds_toArray, List.set_cons_zero, List.set_cons_succ]
      refine takesH_nil ?_
      refine wpAnyH_ready (rs := [39]) (by kernel_rfl) (by simp) (AllReadyH.cons rfl (fun K hK => ?_) AllReadyH.nil)
      go_simp
      refine (pawake_any _).mono ?_
      rintro x q8 ⟨rfl, b9⟩
      have BN := Lib.hid b9
      clear b9
      try go_wp2_with fail
      refine hK.out _ _ ?_ (fun hHeld => ?_)
      · exact hHeld.trans (BN.out.mono hHeld.size)
      clear hK K
      try simp only [Act.put, List.getElem_toArray, List.getElem_cons_succ, List.getElem_cons_zero, List.setIfInBounds_toArray, List.set_cons_zero, List.set_cons_succ]
      refine takesH [40, 41] ?_
      repeat
        refine takesH_one (v := ?_) ?_ ?_
        rotate_left
        · first | (refine Or.inr ⟨by rfl, ?_⟩; with_reducible rfl) | (refine Or.inl ⟨by rfl, ?_⟩; intro wx hSw; (try dsimp only at hSw); first | (go_simp; first | done | with_reducible rfl))
        try simp only [Act.put, List.getElem_toArray, List.getElem_cons_succ, List.getElem_cons_zero, List.setIfInBounds_toArray, List.set_cons_zero, List.set_cons_succ]
      refine takesH_nil ?_
      refine wpAnyH_done (by kernel_rfl) ?_ _
      have h9 := Lib.hid (HB10.out.trans (hHeld.mono (by have := HS10.out; omega)))
      clear hHeld
      go_wp2
      go_ret
      exact ⟨rfl, h9.out⟩
/-- Its arguments one by one. -/
theorem call_pallB (k0 : ByteArray) (g0 : Int) (A0 : Option Addr) (n0 c0 : Nat) (l0 : List RA) (k1 : ByteArray) (g1 : Int) (A1 : Option Addr) (n1 c1 : Nat) (l1 : List RA) (now : Int) (st : Bool) (key : ByteArray) (w : World)
    (wr0 : Lies w w.heap.size A0 n0 c0 l0) (wc0 : c0 ≤ maxLen) (we0 : A0 = none → c0 = 0) (wk0 : k0.size ≤ maxLen) (wg0 : (Lit.int .i64 g0).wf = true) (wr1 : Lies w w.heap.size A1 n1 c1 l1) (wc1 : c1 ≤ maxLen) (we1 : A1 = none → c1 = 0) (wk1 : k1.size ≤ maxLen) (wg1 : (Lit.int .i64 g1).wf = true)
    (w2 : (Lit.int .i64 now).wf = true) (w4 : key.size ≤ maxLen) :
    Calls Try.prog 3 #[.agg #[.string k0, .int .i64 g0, .slice A0 n0 c0], .agg #[.string k1, .int .i64 g1, .slice A1 n1 c1], .int .i64 now, .bool st, .string key] w fun e w' => e = .returned (.bool true) ∧ Below w.heap.size w w' :=
  call_pall k0 k1 g0 g1 A0 A1 n0 n1 c0 c1 l0 l1 now st key w wr0 wr1
end Go.Proofs.Ytafbbojfifcncaa
set_option linter.unusedVariables false
namespace Go.Proofs.Ytafbbojfifcncaa
open Go Go.ChangeShapes Go.WideShapes Go.ChangeAt Go.RowKit

theorem trod_lt1 {H : Type} {enc : TypeId × Value → H} {P : Program} {w : World} {base : Nat} {sp : Nat → Bool} {held : Bool} {t : TypeId} {v : Value} {d : DataW H} {ps : List MemPlace} (h : DataW.Trod enc P w base sp held t v d ps) : ∀ p ∈ ps, p.block < w.heap.size := by
  obtain ⟨f, hf⟩ := h
  exact DataW.trod_lt f t _ _ hf
end Go.Proofs.Ytafbbojfifcncaa
set_option linter.unusedVariables false
set_option linter.unusedSimpArgs false
namespace Go.Proofs.Ytafbbojfifcncaa
open Go Go.ChangeShapes Go.WideShapes Go.ChangeAt Go.RowKit Go.Joins

theorem cellsRow : Try.prog.cellsOf 36 = 8 := by kernel_rfl
theorem cellsCol : Try.prog.cellsOf 66 = 5 := by kernel_rfl
theorem cellsCe : Try.prog.cellsOf 33 = 4 := by kernel_rfl
theorem cellsInt : Try.prog.cellsOf 3 = 1 := by kernel_rfl
theorem cellsBool : Try.prog.cellsOf 4 = 1 := by kernel_rfl
theorem cellsStr : Try.prog.cellsOf 9 = 1 := by kernel_rfl
theorem cellsSl : Try.prog.cellsOf 34 = 1 := by kernel_rfl
section
variable {H : Type} {enc : TypeId × Value → H} {W : World}
/-- A cell's four values. -/
theorem trod_ce {fuel : Nat} {x0 x1 x2 x3 : Value} {x : DataW H × List MemPlace} (h : DataW.trod enc Try.prog W 0 (fun _ => true) true fuel 33 [x0, x1, x2, x3] = some x) :
    ∃ c : Ce, x0 = .string c.s ∧ x1 = .bool c.d ∧ x2 = .int .i64 c.a ∧ x3 = .int .i64 c.e ∧ c.s.size ≤ maxLen ∧ (Lit.int .i64 c.a).wf = true ∧ (Lit.int .i64 c.e).wf = true := by
  obtain ⟨y0, y1, y2, y3, n, _, _, t0, t1, t2, t3⟩ := trod_struct4 Try.underlying33 h
  simp only [cellsInt, cellsBool, cellsStr] at t0 t1 t2 t3
  obtain ⟨s, e0, _, w0⟩ := DataW.trod_string Try.underlying9 t0
  obtain ⟨b, e1, _⟩ := DataW.trod_bool Try.underlying4 t1
  obtain ⟨a, e2, _, w2⟩ := DataW.trod_int Try.underlying3 t2
  obtain ⟨e, e3, _, w3⟩ := DataW.trod_int Try.underlying3 t3
  simp at e0 e1 e2 e3
  exact ⟨⟨s, b, a, e⟩, e0, e1, e2, e3, w0, w2, w3⟩
def ColOk (x : ByteArray × Ce) : Prop := x.1.size ≤ maxLen ∧ x.2.s.size ≤ maxLen ∧ (Lit.int .i64 x.2.a).wf = true ∧ (Lit.int .i64 x.2.e).wf = true
theorem trod_cols {fuel : Nat} {v : Value} {x : DataW H × List MemPlace} (h : DataW.trod enc Try.prog W 0 (fun _ => true) true fuel 34 [v] = some x) :
    ∃ A n c l, v = .slice A n c ∧ RdK W W.heap.size A n l ∧ n ≤ c ∧ c ≤ maxLen ∧ (A = none → c = 0) ∧ ∀ x ∈ l, ColOk x := by
  rcases Go.Deep.open_slice Try.underlying34 h with ⟨hcs, hx⟩ | ⟨a, len, cap, m, n, D, Pl, hcs, _, hl, hm, hmm, hx, hel⟩
  · simp at hcs
    subst hcs
    exact ⟨none, 0, 0, [], rfl, RdK.nil _ _ _, Nat.le_refl _, Nat.zero_le _, fun _ => rfl, fun x hx => by cases hx⟩
  · simp at hcs
    subst hcs
    simp only [if_true] at hmm
    have hmc : m = cap := hmm
    have hone : ∀ i, i < len → ∃ x : ByteArray × Ce, (∀ j u, (kcs x)[j]? = some u → W.cell? (a.add (i * 5 + j)) = some u) ∧ ColOk x := by
      intro i hi
      obtain ⟨cs', hc, ht⟩ := hel i (by omega)
      rw [cellsCol] at hc
      obtain ⟨_, hcl, hat⟩ := World.cells?_some hc
      match cs', hcl with
      | [x0, x1, x2, x3, x4], _ =>
        obtain ⟨y0, y1, n', _, _, t0, t1⟩ := trod_struct2 Try.underlying66 ht
        simp only [cellsCe, cellsStr] at t0 t1
        obtain ⟨s, e0, _, w0⟩ := DataW.trod_string Try.underlying9 t0
        simp at e0
        obtain ⟨c, e1, e2, e3, e4, w1, w2, w3⟩ := trod_ce (enc := enc) (W := W) t1
        refine ⟨(s, c), fun j u hu => ?_, w0, w1, w2, w3⟩
        have hj : j < 5 := by
          rcases Nat.lt_or_ge j 5 with h1 | h1
          · exact h1
          · rw [List.getElem?_eq_none (by simpa [kcs] using h1)] at hu; cases hu
        have := hat j hj
        rw [← Go.Deep.add_add, this, ← hu]
        unfold kcs
        rw [e0, e1, e2, e3, e4]
    let f : Nat → ByteArray × Ce := fun i => if h : i < len then (hone i h).choose else (⟨#[]⟩, noC)
    have hf' : ∀ i, i < len → (∀ j u, (kcs (f i))[j]? = some u → W.cell? (a.add (i * 5 + j)) = some u) ∧ ColOk (f i) := by
      intro i hi
      have := (hone i hi).choose_spec
      simp only [f, dif_pos hi]
      exact this
    refine ⟨some a, len, cap, (List.range len).map f, rfl, ⟨by simp, fun hn => ?_⟩, hl, hm, (fun h => by cases h), fun x hx => ?_⟩
    · have h0 := (hf' 0 hn).1 0 _ rfl
      have hs : a.spot = none := by simpa [Addr.add] using World.cell?_spot h0
      obtain ⟨g, o, sp⟩ := a
      simp only at hs
      subst hs
      refine ⟨g, o, rfl, World.block_lt_of_cell? W ⟨g, o, none⟩ (by simpa [Addr.add] using h0), fun j hj => ?_⟩
      have hj2 : j < len := by simpa using hj
      have q := (hf' j hj2).1
      have q0 := q 0 _ rfl
      have q1 := q 1 _ rfl
      have q2 := q 2 _ rfl
      have q3 := q 3 _ rfl
      have q4 := q 4 _ rfl
      simp only [Addr.add_lit, Nat.add_zero] at q0 q1 q2 q3 q4
      simp only [List.getElem_map, List.getElem_range]
      exact ⟨q0, by rw [Nat.add_assoc]; exact q1, by rw [Nat.add_assoc]; exact q2, by rw [Nat.add_assoc]; exact q3, by rw [Nat.add_assoc]; exact q4⟩
    · obtain ⟨i, hi, rfl⟩ := List.mem_map.1 hx
      exact (hf' i (List.mem_range.1 hi)).2
set_option maxRecDepth 8000 in
theorem open_ro {base : Nat} {v : Value} {d : DataW H} {p : List MemPlace} (hval : Value.okWide Try.prog W .any base 36 v) (h : DataW.Trod enc Try.prog W 0 (fun _ => true) true 36 v d p) :
    ∃ (k : ByteArray) (c : Ce) (g hs : Int) (A : Option Addr) (n cap : Nat) (l : Cols), v = .agg #[.string k, .string c.s, .bool c.d, .int .i64 c.a, .int .i64 c.e, .int .i64 g, .int .i64 hs, .slice A n cap] ∧ RdK W W.heap.size A n l ∧ n ≤ cap ∧ cap ≤ maxLen ∧ (A = none → cap = 0) ∧ (∀ x ∈ l, ColOk x) ∧
      k.size ≤ maxLen ∧ c.s.size ≤ maxLen ∧ (Lit.int .i64 c.a).wf = true ∧ (Lit.int .i64 c.e).wf = true ∧ (Lit.int .i64 g).wf = true ∧ (Lit.int .i64 hs).wf = true := by
  obtain ⟨cs, rfl, hsz⟩ := okWide_struct Try.underlying36 hval
  rw [cellsRow] at hsz
  obtain ⟨l⟩ := cs
  match l, hsz with
  | [x0, x1, x2, x3, x4, x5, x6, x7], _ =>
    obtain ⟨fuel, hf⟩ := h
    obtain ⟨ys, n', _, _, _, hyl, hfs⟩ := DataW.trod_struct Try.underlying36 hf
    match ys, hyl with
    | [y0, y1, y2, y3, y4], _ =>
      have t0 := hfs 0 _ rfl
      have t1 := hfs 1 _ rfl
      have t2 := hfs 2 _ rfl
      have t3 := hfs 3 _ rfl
      have t4 := hfs 4 _ rfl
      obtain ⟨k, e0, _, w0⟩ := DataW.trod_string Try.underlying9 (x := y0) (by simpa [cellsStr, Value.cells] using t0)
      obtain ⟨c, e1, e2, e3, e4, w1, w2, w3⟩ := trod_ce (enc := enc) (W := W) (x := y1) (by simpa [cellsCe, Value.cells] using t1)
      obtain ⟨g, e5, _, w5⟩ := DataW.trod_int Try.underlying3 (x := y2) (by simpa [cellsInt, Value.cells] using t2)
      obtain ⟨hs, e6, _, w6⟩ := DataW.trod_int Try.underlying3 (x := y3) (by simpa [cellsInt, Value.cells] using t3)
      obtain ⟨A, n, cap, l, e7, hr, hn, hc, hA, hok⟩ := trod_cols (enc := enc) (W := W) (x := y4) (by simpa [cellsSl, Value.cells] using t4)
      simp at e0 e5 e6
      subst e0; subst e1; subst e2; subst e3; subst e4; subst e5; subst e6; subst e7
      exact ⟨k, c, g, hs, A, n, cap, l, rfl, hr, hn, hc, hA, hok, w0, w1, w2, w3, w5, w6⟩
end
end Go.Proofs.Ytafbbojfifcncaa
set_option linter.unusedVariables false
set_option linter.unusedSimpArgs false
namespace Go.Proofs.Ytafbbojfifcncaa
open Go Go.ChangeShapes Go.WideShapes Go.ChangeAt Go.RowKit Go.Joins

theorem cellsPart : Try.prog.cellsOf 24 = 3 := by kernel_rfl
theorem cellsSlR : Try.prog.cellsOf 22 = 1 := by kernel_rfl
section
variable {H : Type} {enc : TypeId × Value → H} {W : World}
/-- A row's eight values. -/
theorem trod_row {fuel : Nat} {x0 x1 x2 x3 x4 x5 x6 x7 : Value} {x : DataW H × List MemPlace} (h : DataW.trod enc Try.prog W 0 (fun _ => true) true fuel 36 [x0, x1, x2, x3, x4, x5, x6, x7] = some x) :
    ∃ z : RA, racs z = [x0, x1, x2, x3, x4, x5, x6, x7] ∧ RaIn W W.heap.size z := by
  obtain ⟨ys, n', _, _, _, hyl, hfs⟩ := DataW.trod_struct Try.underlying36 h
  match ys, hyl with
  | [y0, y1, y2, y3, y4], _ =>
    have t0 := hfs 0 _ rfl
    have t1 := hfs 1 _ rfl
    have t2 := hfs 2 _ rfl
    have t3 := hfs 3 _ rfl
    have t4 := hfs 4 _ rfl
    obtain ⟨k, e0, _, w0⟩ := DataW.trod_string Try.underlying9 (x := y0) (by simpa [cellsStr] using t0)
    obtain ⟨c, e1, e2, e3, e4, w1, w2, w3⟩ := trod_ce (enc := enc) (W := W) (x := y1) (by simpa [cellsCe] using t1)
    obtain ⟨g, e5, _, w5⟩ := DataW.trod_int Try.underlying3 (x := y2) (by simpa [cellsInt] using t2)
    obtain ⟨hs, e6, _, w6⟩ := DataW.trod_int Try.underlying3 (x := y3) (by simpa [cellsInt] using t3)
    obtain ⟨A, n, cap, l, e7, hr, hn, hc, hA, hok⟩ := trod_cols (enc := enc) (W := W) (x := y4) (by simpa [cellsSl] using t4)
    simp at e0 e5 e6
    have el : l.length = n := hr.1
    subst el
    refine ⟨⟨⟨k, c, g, hs, l⟩, A, cap⟩, ?_, hr, hn⟩
    unfold racs
    rw [e0, e1, e2, e3, e4, e5, e6, e7]
/-- Rows in a slice. -/
theorem trod_rows {fuel : Nat} {v : Value} {x : DataW H × List MemPlace} (h : DataW.trod enc Try.prog W 0 (fun _ => true) true fuel 22 [v] = some x) :
    ∃ A n c L, v = .slice A n c ∧ Lies W W.heap.size A n c L ∧ c ≤ maxLen ∧ (A = none → c = 0) := by
  rcases Go.Deep.open_slice Try.underlying22 h with ⟨hcs, hx⟩ | ⟨a, len, cap, m, n, D, Pl, hcs, _, hl, hm, hmm, hx, hel⟩
  · simp at hcs
    subst hcs
    exact ⟨none, 0, 0, [], rfl, ⟨RdR.nil _ _ _, fun x hx => (by cases hx), Nat.le_refl _⟩, Nat.zero_le _, fun _ => rfl⟩
  · simp at hcs
    subst hcs
    simp only [if_true] at hmm
    have hmc : m = cap := hmm
    have hone : ∀ i, i < len → ∃ z : RA, (∀ j u, (racs z)[j]? = some u → W.cell? (a.add (i * 8 + j)) = some u) ∧ RaIn W W.heap.size z := by
      intro i hi
      obtain ⟨cs', hc, ht⟩ := hel i (by omega)
      rw [cellsRow] at hc
      obtain ⟨_, hcl, hat⟩ := World.cells?_some hc
      match cs', hcl with
      | [x0, x1, x2, x3, x4, x5, x6, x7], _ =>
        obtain ⟨z, hz, hin⟩ := trod_row (enc := enc) (W := W) ht
        refine ⟨z, fun j u hu => ?_, hin⟩
        have hj : j < 8 := by
          rcases Nat.lt_or_ge j 8 with h1 | h1
          · exact h1
          · rw [List.getElem?_eq_none (by simpa [racs] using h1)] at hu; cases hu
        have := hat j hj
        rw [← Go.Deep.add_add, this, ← hu, hz]
    let f : Nat → RA := fun i => if h : i < len then (hone i h).choose else zeroR
    have hf' : ∀ i, i < len → (∀ j u, (racs (f i))[j]? = some u → W.cell? (a.add (i * 8 + j)) = some u) ∧ RaIn W W.heap.size (f i) := by
      intro i hi
      have := (hone i hi).choose_spec
      simp only [f, dif_pos hi]
      exact this
    refine ⟨some a, len, cap, (List.range len).map f, rfl, ⟨⟨by simp, fun hn => ?_⟩, fun x hx => ?_, hl⟩, hm, fun h => by cases h⟩
    · have h0 := (hf' 0 hn).1 0 _ rfl
      have hs : a.spot = none := by simpa [Addr.add] using World.cell?_spot h0
      obtain ⟨g, o, sp⟩ := a
      simp only at hs
      subst hs
      refine ⟨g, o, rfl, World.block_lt_of_cell? W ⟨g, o, none⟩ (by simpa [Addr.add] using h0), fun j hj i u hu => ?_⟩
      have hj2 : j < len := by simpa using hj
      simp only [List.getElem_map, List.getElem_range] at hu
      have q := (hf' j hj2).1 i u hu
      simp only [Addr.add_lit] at q
      rw [Nat.add_assoc]
      exact q
    · obtain ⟨i, hi, rfl⟩ := List.mem_map.1 hx
      exact (hf' i (List.mem_range.1 hi)).2
set_option maxRecDepth 8000 in
theorem open_part {base : Nat} {v : Value} {d : DataW H} {p : List MemPlace} (hval : Value.okWide Try.prog W .any base 24 v) (h : DataW.Trod enc Try.prog W 0 (fun _ => true) true 24 v d p) :
    ∃ (k : ByteArray) (g : Int) (A : Option Addr) (n c : Nat) (L : List RA), v = .agg #[.string k, .int .i64 g, .slice A n c] ∧ Lies W W.heap.size A n c L ∧ c ≤ maxLen ∧ (A = none → c = 0) ∧ k.size ≤ maxLen ∧ (Lit.int .i64 g).wf = true := by
  obtain ⟨cs, rfl, hsz⟩ := okWide_struct Try.underlying24 hval
  rw [cellsPart] at hsz
  obtain ⟨l⟩ := cs
  match l, hsz with
  | [x0, x1, x2], _ =>
    obtain ⟨fuel, hf⟩ := h
    obtain ⟨ys, n', _, _, _, hyl, hfs⟩ := DataW.trod_struct Try.underlying24 hf
    match ys, hyl with
    | [y0, y1, y2], _ =>
      have t0 := hfs 0 _ rfl
      have t1 := hfs 1 _ rfl
      have t2 := hfs 2 _ rfl
      obtain ⟨k, e0, _, w0⟩ := DataW.trod_string Try.underlying9 (x := y0) (by simpa [cellsStr, Value.cells] using t0)
      obtain ⟨g, e1, _, w1⟩ := DataW.trod_int Try.underlying3 (x := y1) (by simpa [cellsInt, Value.cells] using t1)
      obtain ⟨A, n, c, L, e2, hl, hc, hA⟩ := trod_rows (enc := enc) (W := W) (x := y2) (by simpa [cellsSlR, Value.cells] using t2)
      simp at e0 e1
      subst e0; subst e1; subst e2
      exact ⟨k, g, A, n, c, L, rfl, hl, hc, hA, w0, w1⟩
end
end Go.Proofs.Ytafbbojfifcncaa
set_option linter.unusedVariables false
namespace Go.Proofs.Ytafbbojfifcncaa.lawPartAll
open Go Go.ChangeShapes Go.WideShapes Go.ChangeAt Go.RowKit
open Go.ChangeMaps (open_string shut_string)

theorem own : ownKnob Try.prog.godebug = none := by kernel_rfl
theorem laidOut : laidOutB Try.prog = true := by kernel_rfl

set_option maxRecDepth 100000 in
theorem lifted (os : Os) (started : os.Started) (H : Type) (enc : TypeId × Value → H) :
    ReturnsInHanded {} Try.checked os 3 .any (Rows.partAllSpec.pre6 enc Try.prog Try.f3 Rows.partAllRow.domain false) (Rows.partAllSpec.post enc Try.prog Try.f3 false true false false) := by
  refine returnsInHanded_of_change (C := Try.checked) own started (by kernel_rfl) Try.func3
    (ChangeSpec.witness6 (enc := enc) (C := Try.checked) false ⟨#[], #[.agg #[.string ⟨#[]⟩, .int .i64 0, .slice none 0 0], .agg #[.string ⟨#[]⟩, .int .i64 0, .slice none 0 0], .int .i64 0, .bool false, .string ⟨#[]⟩], []⟩ 8 (by kernel_rfl) (by kernel_rfl) (by kernel_rfl) (by kernel_rfl)) ?_
  intro W base args ds gs before hval0 hW hcnd _
  have hval : ∀ (j : Nat) t v, Try.f3.params[j]? = some t → args[j]? = some v → Value.okWide Try.prog W .any base t v := hval0
  have hW' := hW
  obtain ⟨p, q, hA0, hV, rfl, hfz, hnd⟩ := hW
  have hA : DataW.TrodAll enc Try.prog W 0 (fun _ => true) true Try.f3.params.toList args.toList ds p := hA0
  rw [Try.params3] at hA hval
  obtain ⟨v0, vs0, d0, ds0, p0, q0, hargs, rfl, rfl, h0, r0⟩ := trodAll_cons hA
  obtain ⟨v1, vs1, d1, ds1, p1, q1, rfl, rfl, rfl, h1, r1⟩ := trodAll_cons r0
  obtain ⟨v2, vs2, d2, ds2, p2, q2, rfl, rfl, rfl, h2, r2⟩ := trodAll_cons r1
  obtain ⟨v3, vs3, d3, ds3, p3, q3, rfl, rfl, rfl, h3, r3⟩ := trodAll_cons r2
  obtain ⟨v4, vs4, d4, ds4, p4, q4, rfl, rfl, rfl, h4, r4⟩ := trodAll_cons r3
  obtain ⟨rfl, rfl, rfl⟩ := trodAll_nil r4
  obtain rfl : args = #[v0, v1, v2, v3, v4] := by cases args; simp_all
  obtain ⟨rfl, rfl⟩ := trodVars_none hV
  have t0 := h0
  obtain ⟨k0, g0, A0, n0, c0, l0, rfl, wr0, wc0, we0, wk0, wg0⟩ := open_part (hval 0 24 v0 rfl rfl) h0
  have t1 := h1
  obtain ⟨k1, g1, A1, n1, c1, l1, rfl, wr1, wc1, we1, wk1, wg1⟩ := open_part (hval 1 24 v1 rfl rfl) h1
  obtain ⟨a2, rfl, rfl, rfl, w2⟩ := open_int Try.underlying3 (hval 2 3 v2 rfl rfl) h2
  obtain ⟨a3, rfl, rfl, rfl⟩ := open_bool Try.underlying4 (hval 3 4 v3 rfl rfl) h3
  obtain ⟨a4, rfl, rfl, rfl, w4⟩ := open_string Try.underlying9 (hval 4 9 v4 rfl rfl) h4
  clear hA0 hval0
  refine (call_pallB k0 g0 A0 n0 c0 l0 k1 g1 A1 n1 c1 l1 a2 a3 a4 W wr0 wc0 we0 wk0 wg0 wr1 wc1 we1 wk1 wg1 w2 w4).mono fun e W' ⟨he, bel⟩ => ?_
  subst he
  exact ⟨_, rfl, _, _, _, [], _, [], hW', trodAll_mk1 (shut_bool Try.underlying4 _), (trodAll_cons_mk (Below.trod laidOut (by kernel_rfl) (of_decide_eq_true (by kernel_rfl)) t0 bel (trod_lt1 t0)) (trodAll_cons_mk (Below.trod laidOut (by kernel_rfl) (of_decide_eq_true (by kernel_rfl)) t1 bel (trod_lt1 t1)) (trodAll_cons_mk (shut_int Try.underlying3 w2) (trodAll_cons_mk (shut_bool Try.underlying4 _) (trodAll_cons_mk (shut_string Try.underlying9 w4) trodAll_mk0))))), rfl, bel.frame _, fun h => by cases h⟩

theorem over : Rows.partAllRow.holds Try.pinned (OpenSpec.ofChange Rows.partAllSpec) :=
  OpenClaim.holds_of_wide 3 Try.f3 rfl rfl rfl rfl rfl rfl rfl ⟨rfl, rfl, rfl, rfl, rfl⟩ rfl rfl rfl rfl rfl (by kernel_rfl) Try.func3 (by kernel_rfl)
    (of_decide_eq_true (by kernel_rfl)) (by unfold Func.isWrapper; first | (rw [if_pos (by decide +kernel)]; kernel_rfl) | (rw [if_neg (by decide +kernel)]; exact ⟨rfl, rfl⟩))
    (fun os started H enc _ => lifted os started H enc)

theorem proved : Rows.PartAllSaid := over
end Go.Proofs.Ytafbbojfifcncaa.lawPartAll
