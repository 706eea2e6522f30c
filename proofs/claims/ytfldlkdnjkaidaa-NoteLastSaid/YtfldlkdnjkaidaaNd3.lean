/-
  The library's sort of notes by their numbers (slices.SortFunc with cmp.Compare of the IDs), and maps.Clone.
-/
import Derived.Shelf.SlSortCmp.WholeK
import Derived.Shelf.SlMaps.Clone
import Derived.Test.YtfldlkdnjkaidaaNd
import Derived.Test.YtfldlkdnjkaidaaNf
set_option linter.unusedVariables false
set_option linter.unusedSimpArgs false
namespace Go.Proofs.Ytfldlkdnjkaidaa
open Go Go.RowKit Go.Shelf Go.Proofs Go.Sort

def nsortRen : Go.Shelf.Ren := ⟨fun | 6 => 22 | 15 => 27 | 14 => 26 | 28 => 37 | 29 => 38 | 20 => 29 | 21 => 30 | 22 => 31 | 23 => 32 | 24 => 33 | 25 => 34 | 26 => 35 | 27 => 36 | 46 => 39 | 47 => 40 | 48 => 41 | 49 => 42 | 50 => 43 | 57 => 44 | n => n, fun | 22 => 26 | 24 => 30 | 25 => 56 | 3 => 3 | 39 => 60 | 0 => 0 | 53 => 69 | 55 => 71 | 4 => 4 | 46 => 63 | 45 => 62 | 50 => 52 | 5 => 5 | 9 => 9 | 66 => 72 | 70 => 76 | 76 => 78 | 77 => 79 | n => n, fun | n => n⟩
theorem nsortLays : Go.Proofs.SlLaysF0.n6 Try.prog nsortRen := {
  mixed := by kernel_rfl
  f6 := ⟨Try.f22.name, by decide, Try.func22.trans (congrArg some (by kernel_rfl))⟩
  f14 := ⟨Try.f26.name, by decide, Try.func26.trans (congrArg some (by kernel_rfl))⟩
  f15 := Try.func27.trans (congrArg some (by kernel_rfl))
  f20 := ⟨Try.f29.name, by decide, Try.func29.trans (congrArg some (by kernel_rfl))⟩
  f21 := ⟨Try.f30.name, by decide, Try.func30.trans (congrArg some (by kernel_rfl))⟩
  f22 := ⟨Try.f31.name, by decide, Try.func31.trans (congrArg some (by kernel_rfl))⟩
  f23 := ⟨Try.f32.name, by decide, Try.func32.trans (congrArg some (by kernel_rfl))⟩
  f24 := ⟨Try.f33.name, by decide, Try.func33.trans (congrArg some (by kernel_rfl))⟩
  f25 := ⟨Try.f34.name, by decide, Try.func34.trans (congrArg some (by kernel_rfl))⟩
  f26 := ⟨Try.f35.name, by decide, Try.func35.trans (congrArg some (by kernel_rfl))⟩
  f27 := ⟨Try.f36.name, by decide, Try.func36.trans (congrArg some (by kernel_rfl))⟩
  f28 := Try.func37.trans (congrArg some (by kernel_rfl))
  f29 := Try.func38.trans (congrArg some (by kernel_rfl))
  f46 := ⟨Try.f39.name, by decide, Try.func39.trans (congrArg some (by kernel_rfl))⟩
  f47 := Try.func40.trans (congrArg some (by kernel_rfl))
  f48 := Try.func41.trans (congrArg some (by kernel_rfl))
  f49 := ⟨Try.f42.name, by decide, Try.func42.trans (congrArg some (by kernel_rfl))⟩
  f50 := ⟨Try.f43.name, by decide, Try.func43.trans (congrArg some (by kernel_rfl))⟩
  f57 := ⟨Try.f44.name, by decide, Try.func44.trans (congrArg some (by kernel_rfl))⟩
  t0 := Try.underlying0
  a0 := Try.isAgg0
  z0 := Try.sizeOf0
  v0 := Try.zeroValue0
  t3 := Try.underlying3
  a3 := Try.isAgg3
  z3 := Try.sizeOf3
  v3 := Try.zeroValue3
  t4 := Try.underlying4
  a4 := Try.isAgg4
  z4 := Try.sizeOf4
  v4 := Try.zeroValue4
  t5 := Try.underlying5
  a5 := Try.isAgg5
  z5 := Try.sizeOf5
  v5 := Try.zeroValue5
  t9 := Try.underlying9
  a9 := Try.isAgg9
  z9 := Try.sizeOf9
  v9 := Try.zeroValue9
  t22 := Try.underlying26
  a22 := Try.isAgg26
  z22 := Try.sizeOf26
  v22 := Try.zeroValue26
  t25 := Try.underlying56
  a25 := Try.isAgg56
  z25 := Try.sizeOf56
  v25 := Try.zeroValue56
  t39 := Try.underlying60
  a39 := Try.isAgg60
  z39 := Try.sizeOf60
  v39 := Try.zeroValue60
  t45 := Try.underlying62
  a45 := Try.isAgg62
  z45 := Try.sizeOf62
  v45 := Try.zeroValue62
  t46 := Try.underlying63
  a46 := Try.isAgg63
  z46 := Try.sizeOf63
  v46 := Try.zeroValue63
  t50 := Try.underlying52
  a50 := Try.isAgg52
  z50 := Try.sizeOf52
  v50 := Try.zeroValue52
  t53 := Try.underlying69
  a53 := Try.isAgg69
  z53 := Try.sizeOf69
  v53 := Try.zeroValue69
  t55 := Try.underlying71
  a55 := Try.isAgg71
  z55 := Try.sizeOf71
  v55 := Try.zeroValue71
  t66 := Try.underlying72
  a66 := Try.isAgg72
  z66 := Try.sizeOf72
  v66 := Try.zeroValue72
  t70 := Try.underlying76
  a70 := Try.isAgg76
  z70 := Try.sizeOf76
  v70 := Try.zeroValue76
  t76 := Try.underlying78
  a76 := Try.isAgg78
  z76 := Try.sizeOf78
  v76 := Try.zeroValue78
  t77 := Try.underlying79
  a77 := Try.isAgg79
  z77 := Try.sizeOf79
  v77 := Try.zeroValue79 }

def ncloneRen : Go.Shelf.Ren := ⟨fun | 5 => 20 | 7 => 25 | n => n, fun | 23 => 48 | 25 => 3 | 3 => 30 | 4 => 4 | 20 => 20 | n => n, fun | n => n⟩
theorem ncloneLays : Go.Proofs.SlLaysW.n5 Try.prog ncloneRen := {
  mixed := by kernel_rfl
  f5 := ⟨Try.f20.name, by decide, Try.func20.trans (congrArg some (by kernel_rfl))⟩
  f7 := Try.func25.trans (congrArg some (by kernel_rfl))
  t4 := Try.underlying4
  a4 := Try.isAgg4
  z4 := Try.sizeOf4
  v4 := Try.zeroValue4
  t20 := Try.underlying20
  a20 := Try.isAgg20
  z20 := Try.sizeOf20
  v20 := Try.zeroValue20
  t23 := Try.underlying48
  a23 := Try.isAgg48
  z23 := Try.sizeOf48
  v23 := Try.zeroValue48 }
theorem noteClone_any {H : Type} (k : TypeId) (R : Value → Option (DataW H × List MemPlace)) (b n : Nat) (D : DataW H) (w : World) (hown : w.ownsMap Try.prog k R b n D) :
    Calls Try.prog 20 #[.map (some b)] w fun e w' => e = .returned (.map (some w.heap.size)) ∧ w'.ownsMap Try.prog k R w.heap.size n D ∧ w'.ownsMap Try.prog k R b n D ∧ Below w.heap.size w w' :=
  AnyW.maps_Clone_owns ncloneLays k R b n D w hown

/-! ### how two notes compare -/
def encN (x : Int × ByteArray) : List Value := [.int .i64 x.1, .string x.2]
def ncmp (x y : Int × ByteArray) : Int := if x.1 < y.1 then -1 else if y.1 < x.1 then 1 else 0
theorem ltN (x y : Int × ByteArray) : ltOf ncmp x y = decide (x.1 < y.1) := by
  unfold ltOf ncmp
  by_cases h1 : x.1 < y.1
  · simp [h1]
  · by_cases h2 : y.1 < x.1 <;> simp [h1, h2]
theorem swoN : SWO (ltOf ncmp) where
  irrefl x := by rw [ltN]; simp
  trans x y z h1 h2 := by rw [ltN] at *; simp at *; omega
  ntrans x y z h1 h2 := by rw [ltN] at *; simp at *; omega
theorem nan_int11 (x : Int) (w : World) :
    Calls Try.prog 28 #[.int .i64 x] w fun e w' => e = .returned (.bool false) ∧ w = w' := by
  go_enter Try.func28, Try.ntmps28
  go_wp2
  go_ret
  exact ⟨by simp, rfl⟩
set_option maxHeartbeats 1000000 in
theorem cmp_int11 (x y : Int × ByteArray) (w : World) :
    Calls Try.prog 24 #[.int .i64 x.1, .int .i64 y.1] w fun e w' => e = .returned (.int .i64 (ncmp x y)) ∧ w = w' := by
  obtain ⟨x, s⟩ := x
  obtain ⟨y, t⟩ := y
  obtain ⟨r, hr⟩ : ∃ r, ncmp (x, s) (y, t) = r := ⟨_, rfl⟩
  rw [hr]
  unfold ncmp at hr
  dsimp only at hr ⊢
  have HR := Lib.hid hr
  clear hr
  by_cases h1 : x < y
  · go_enter Try.func24, Try.ntmps24
    go_wp2_with (first | (go_at_call 28; refine (nan_int11 _ _).mono ?_; rintro e w1 ⟨rfl, rfl⟩))
    go_ret
    exact ⟨by show Ending.returned (.int .i64 (-1)) = _; rw [← HR.out, if_pos h1], rfl⟩
  · by_cases h2 : y < x
    · go_enter Try.func24, Try.ntmps24
      go_wp2_with (first | (go_at_call 28; refine (nan_int11 _ _).mono ?_; rintro e w1 ⟨rfl, rfl⟩))
      go_ret
      exact ⟨by show Ending.returned (.int .i64 (1)) = _; rw [← HR.out, if_neg (by omega), if_pos h2], rfl⟩
    · go_enter Try.func24, Try.ntmps24
      go_wp2_with (first | (go_at_call 28; refine (nan_int11 _ _).mono ?_; rintro e w1 ⟨rfl, rfl⟩))
      go_ret
      exact ⟨by show Ending.returned (.int .i64 (0)) = _; rw [← HR.out, if_neg (by omega), if_neg (by omega)], rfl⟩
set_option maxHeartbeats 1000000 in
theorem cmp_note (x y : Int × ByteArray) (W : World) :
    Calls Try.prog 23 #[.agg #[.int .i64 x.1, .string x.2], .agg #[.int .i64 y.1, .string y.2]] W fun e w' => e = .returned (.int .i64 (ncmp x y)) ∧ ∃ q os', w' = grow (W.drewN q) os' := by
  have hcon := fun W' => cmp_int11 x y W'
  generalize ncmp x y = r at hcon ⊢
  go_enter Try.func23, Try.ntmps23
  go_wp2_with (go_at_call 24; refine (hcon _).mono ?_; rintro e w' ⟨rfl, rfl⟩)
  go_ret
  exact ⟨rfl, 0, _, by rw [alloc_eq_grow, alloc_eq_grow, grow_grow]; rfl⟩
theorem cmpLaysN (blk off size : Nat) (w : World) : CmpLays Try.prog 23 #[] encN 2 ncmp blk off size w :=
  fun _ _ _ _ x y => cmp_note x y _

/-! ### a row of notes as the sort sees it -/
theorem flatN (l : Fl) : flatK encN 2 l.toArray = (tRow l).toArray := by
  refine ext_get! (by simp [tRow_length]) fun t ht => ?_
  have ht' : t < l.length * 2 := by simpa using ht
  rw [get_flatK _ _ _ t (by simpa using ht')]
  obtain ⟨j, hj⟩ : ∃ j, t / 2 = j := ⟨_, rfl⟩
  have hjl : j < l.length := by omega
  have e1 : (l.toArray[j]! : Int × ByteArray) = l[j] := by simp [hjl]
  rw [hj, e1]
  rcases Nat.mod_two_eq_zero_or_one t with hm | hm
  · obtain rfl : t = j * 2 := by omega
    have h0 := tRow_get0 l j hjl
    have h1 : ((tRow l).toArray)[j * 2]! = .int .i64 l[j].1 := by
      rw [Array.getElem!_eq_getD, Array.getD_eq_getD_getElem?, List.getElem?_toArray, h0]
      rfl
    rw [hm, h1]
    rfl
  · obtain rfl : t = j * 2 + 1 := by omega
    have h0 := tRow_get1 l j hjl
    have h1 : ((tRow l).toArray)[j * 2 + 1]! = .string l[j].2 := by
      rw [Array.getElem!_eq_getD, Array.getD_eq_getD_getElem?, List.getElem?_toArray, h0]
      rfl
    rw [hm, h1]
    rfl
theorem holds_of_blockV {w : World} {g : Nat} {cur : Array Value} {e : TypeId} {xs : List Value} (hb : w.heap[g]? = some (.cells cur e (0, 0))) (ht : cur.toList.take xs.length = xs) : Holds id w g 0 xs.toArray := by
  intro j hj
  have hj' : j < xs.length := by simpa using hj
  refine ⟨?_, by simp [World.frozen?, hb]⟩
  have h1 := congrArg (·[j]?) ht
  simp only [List.getElem?_take_of_lt hj'] at h1
  simp only [World.cell?, hb, Nat.zero_add]
  simp only [Option.isSome_none, Bool.false_eq_true, if_false]
  rw [← Array.getElem?_toList, h1]
  simp [hj']
theorem heap_sortedV {w : World} {g n : Nat} {os : Array Obj} {cur : Array Value} {e : TypeId} {fr : Nat × Nat} (d : Array Value) (hb : w.heap[g]? = some (.cells cur e fr)) :
    (grow (putRow id (Sort.ahead w n) g 0 d) os).heap[g]? = some (.cells (putCells id 0 d cur) e fr) := by
  have hg : g < w.heap.size := (Array.getElem?_eq_some_iff.1 hb).1
  rw [heap_grow_old _ _ (by simpa using hg)]
  simp [putRow, mapBlock, Sort.ahead, Array.getElem?_modify, hb, onCells]
theorem grownBy_sortedV {w : World} {g n : Nat} {os : Array Obj} (d : Array Value) : w.grownBy (grow (putRow id (Sort.ahead w n) g 0 d) os) (some g) := by
  refine ⟨rfl, rfl, rfl, by simp, fun k hk hne => ?_⟩
  rw [heap_grow_old _ _ (by simpa using hk)]
  have : g ≠ k := fun e => hne (by rw [e])
  simp [putRow, mapBlock, Sort.ahead, Array.getElem?_modify, this]
theorem take_putCellsV (cur : Array Value) (ts : List Value) (h : ts.length ≤ cur.size) : (putCells id 0 ts.toArray cur).toList.take ts.length = ts := by
  apply List.ext_getElem?
  intro j
  by_cases hj : j < ts.length
  · rw [List.getElem?_take_of_lt hj, Array.getElem?_toList]
    simp [putCells, hj, show j < cur.size by omega]
  · rw [List.getElem?_take_eq_none (by omega), List.getElem?_eq_none (by omega)]

/-- What is sorted of notes all of whose numbers differ is the rising list of them. -/
theorem sorted_is {S ss : Fl} (hu : Up S) (hp : ss.Perm S) {d' : Array (Int × ByteArray)} (h1 : PermIn 0 ss.toArray.size ss.toArray d') (h2 : SortedIn (ltOf ncmp) 0 ss.toArray.size d') : d' = S.toArray := by
  obtain ⟨hsz, _, hperm⟩ := h1
  have e1 : d'.extract 0 ss.toArray.size = d' := by rw [← hsz]; exact Array.extract_size
  rw [e1, Array.extract_size] at hperm
  have hP : d'.toList.Perm S := hperm.trans (by simpa using hp)
  have hl : d'.toList = S := by
    refine List.Perm.eq_of_pairwise (le := fun x y : Int × ByteArray => x.1 ≤ y.1) (fun a b ha hb h1 h2 => ?_) ?_ (hu.imp fun {a b} hab => Int.le_of_lt hab) hP
    · exact up_inj hu (hP.mem_iff.1 ha) hb (by omega)
    · rw [List.pairwise_iff_getElem]
      intro i j hi hj hij
      have hi' : i < d'.size := by simpa using hi
      have hj' : j < d'.size := by simpa using hj
      have h3 := h2 i j (Nat.zero_le _) hij (by rw [← hsz]; exact hj')
      rw [ltN] at h3
      simp [hi', hj'] at h3
      simpa using h3
  rw [← hl]

set_option maxHeartbeats 1000000 in
/-- slices.SortFunc of a row of the call's own. -/
theorem sortn_any (base g cap : Nat) (S ss : Fl) (w : World) (hu : Up S) (hp : ss.Perm S) (h : w.ownsRow base 30 2 (.slice (some ⟨g, 0, none⟩) ss.length cap) ss.length (tRow ss)) (hs : ss.length ≤ 1000000) :
    Calls Try.prog 22 #[.slice (some ⟨g, 0, none⟩) ss.length cap, .func (.func 23) #[] #[]] w fun e w' =>
      e = .returned (.tuple #[]) ∧ w'.ownsRow base 30 2 (.slice (some ⟨g, 0, none⟩) ss.length cap) ss.length (tRow S) ∧ w.grownBy w' (some g) := by
  have hsz : ss.length = S.length := hp.length_eq
  have hx := h.1
  rcases h.2 with ⟨e, _⟩ | ⟨g', cap', cur, e, hbase, hb, hn, hc, hz, ht⟩
  · cases e
  · injection e with e1 e2 e3
    injection e1 with e1
    injection e1 with e1
    subst e1
    subst e3
    have hlt : g < w.heap.size := (Array.getElem?_eq_some_iff.1 hb).1
    have eg : ∀ args w, (callFunc 23 args).run Try.prog w = .ok (.enter 23 args) w := enters_of Try.func23 (by kernel_rfl) rfl
    have ht2 : cur.toList.take (tRow ss).length = tRow ss := by rw [tRow_length]; exact ht
    have hH : HoldsK encN 2 w g 0 ss.toArray := by
      unfold HoldsK
      rw [flatN]
      exact holds_of_blockV hb ht2
    have hcon := AnyQ.slices_SortFunc nsortLays 2 Try.isAgg30 Try.sizeOf30 encN (fun _ => rfl) (fun x v hv => by simp [encN] at hv; rcases hv with rfl | rfl <;> rfl) ncmp swoN 23 #[] g 0 cap ss.toArray w eg (cmpLaysN g 0 ss.toArray.size w) hH hlt (by simp; omega)
    change Calls Try.prog 22 _ _ _ at hcon
    have e5 : ss.toArray.size = ss.length := by simp
    rw [e5] at hcon
    refine hcon.mono ?_
    rintro e w' ⟨rfl, d', n, os, hP, hS, rfl⟩
    have hd : d' = S.toArray := sorted_is hu hp (by rw [e5]; exact hP) (by rw [e5]; exact hS)
    subst hd
    unfold sortWorldK putRowK
    rw [flatN]
    have hrl : (tRow S).length = ss.length * 2 := by rw [tRow_length, hsz]
    refine ⟨rfl, ⟨hrl, Or.inr ⟨g, cap, _, rfl, hbase, heap_sortedV _ hb, hn, hc, by simp [putCells, hz], ?_⟩⟩, grownBy_sortedV _⟩
    rw [← hrl]
    exact take_putCellsV cur (tRow S) (by rw [hrl, hz]; omega)
end Go.Proofs.Ytfldlkdnjkaidaa
