import Derived.Test.YtmpcnhpdobdmcaaGreatDoorLawNotesJ
import Derived.Maps.RangeWalk
open Go.Lib (hid)
set_option linter.unusedVariables false
set_option linter.unusedSimpArgs false
set_option maxHeartbeats 1000000
set_option maxRecDepth 8000
namespace Go.Proofs.YtmpcnhpdobdmcaaGreatDoor
open Go Go.RowKit Go.Maps
abbrev Fl := List (Int × ByteArray)
def Up (fs : Fl) : Prop := fs.Pairwise fun a b => a.1 < b.1
def hasF (fs : Fl) (n : Int) : Bool := fs.any fun x => x.1 == n
def getF (fs : Fl) (n : Int) : ByteArray := match fs.find? fun x => x.1 == n with | some x => x.2 | none => ⟨#[]⟩
def idxF (fs : Fl) (n : Int) : Nat := (fs.takeWhile fun x => decide (x.1 < n)).length
def insF (fs : Fl) (n : Int) (b : ByteArray) : Fl := fs.take (idxF fs n) ++ (n,b) :: fs.drop (idxF fs n)
def delF (fs : Fl) (n : Int) : Fl := fs.filter fun x => !(x.1 == n)
theorem idxF_le (fs : Fl) (n : Int) : idxF fs n <= fs.length := by
 induction fs with
 | nil => simp [idxF]
 | cons x r ih =>
   unfold idxF at ih ⊢
   rw [List.takeWhile_cons]
   split
   ·simp only [List.length_cons]; omega
   ·simp
theorem idxF_cons (x : Int × ByteArray) (r : Fl) (n : Int) : idxF (x :: r) n = if x.1 < n then idxF r n + 1 else 0 := by
 unfold idxF
 rw [List.takeWhile_cons]
 by_cases h : x.1 < n
 ·simp [h]
 ·simp [h]
theorem idxF_lt {fs : Fl} {n : Int} {j : Nat} (hj : j < idxF fs n) : (fs[j]'(Nat.lt_of_lt_of_le hj (idxF_le fs n))).1 < n := by
 induction fs generalizing j with
 | nil => simp [idxF] at hj
 | cons x r ih =>
   rw [idxF_cons] at hj
   split at hj
   ·rename_i h
    rcases j with _ | j
    ·exact h
    ·simp only [List.getElem_cons_succ]
     exact ih (by omega)
   ·omega
theorem idxF_ge {fs : Fl} {n : Int} (h : idxF fs n < fs.length) : n <= (fs[idxF fs n]'h).1 := by
 induction fs with
 | nil => simp at h
 | cons x r ih =>
   by_cases hx : x.1 < n
   ·have e : idxF (x :: r) n = idxF r n + 1 := by rw [idxF_cons,if_pos hx]
    have h' : idxF r n < r.length := by rw [e] at h; simpa using h
    simp only [e,List.getElem_cons_succ]
    exact ih h'
   ·have e : idxF (x :: r) n = 0 := by rw [idxF_cons,if_neg hx]
    simp only [e,List.getElem_cons_zero]
    omega
theorem idxF_eq {fs : Fl} {n : Int} {k : Nat} (hk : k <= fs.length) (h1 : ∀ j (h : j < k),(fs[j]'(by omega)).1 < n) (h2 : ∀ h : k < fs.length,n <= (fs[k]'h).1) : idxF fs n = k := by
 rcases Nat.lt_trichotomy (idxF fs n) k with h | h | h
 ·have := idxF_ge (fs := fs) (n := n) (by omega)
  have := h1 _ h
  omega
 ·exact h
 ·have h3 := idxF_le fs n
  have := idxF_lt h
  have := h2 (by omega)
  omega
theorem hasF_iff {fs : Fl} (hu : Up fs) (n : Int) : hasF fs n = true ↔ ∃ h : idxF fs n < fs.length,(fs[idxF fs n]'h).1 = n := by
 unfold hasF
 rw [List.any_eq_true]
 constructor
 ·rintro ⟨x,hx,he⟩
  obtain ⟨j,hj,rfl⟩ := List.getElem_of_mem hx
  have he : (fs[j]).1 = n := by simpa using he
  have hji : ¬ j < idxF fs n := fun h => by have := idxF_lt h; omega
  have hlt : idxF fs n < fs.length := by omega
  refine ⟨hlt,?_⟩
  have h1 := idxF_ge hlt
  rcases Nat.lt_or_ge (idxF fs n) j with h2 | h2
  ·have := List.pairwise_iff_getElem.1 hu _ _ hlt hj h2
   omega
  ·have : j = idxF fs n := by omega
   subst this
   exact he
 ·rintro ⟨h,he⟩
  exact ⟨_,List.getElem_mem h,by simpa using he⟩
theorem getF_at {fs : Fl} {n : Int} (h : idxF fs n < fs.length) (he : (fs[idxF fs n]'h).1 = n) : getF fs n = (fs[idxF fs n]'h).2 := by
 induction fs with
 | nil => simp at h
 | cons x r ih =>
   unfold getF
   by_cases hx : x.1 < n
   ·have e : idxF (x :: r) n = idxF r n + 1 := by rw [idxF_cons,if_pos hx]
    have h' : idxF r n < r.length := by rw [e] at h; simpa using h
    simp only [e,List.getElem_cons_succ] at he ⊢
    rw [List.find?_cons_of_neg (by simp; omega)]
    exact ih h' he
   ·have e : idxF (x :: r) n = 0 := by rw [idxF_cons,if_neg hx]
    simp only [e,List.getElem_cons_zero] at he ⊢
    rw [List.find?_cons_of_pos (by simpa using he)]
theorem getF_none {fs : Fl} {n : Int} (h : hasF fs n = false) : getF fs n = ⟨#[]⟩ := by
 unfold getF
 unfold hasF at h
 rw [List.find?_eq_none.2 (by simpa using h)]
theorem hasF_false {fs : Fl} {n : Int} (h : hasF fs n = false) : ∀ x ∈ fs,x.1 ≠ n := by
 intro x hx e
 have := List.any_eq_false.1 h x hx
 simp [e] at this
theorem delF_none {fs : Fl} {n : Int} (h : hasF fs n = false) : delF fs n = fs := by
 unfold delF
 rw [List.filter_eq_self]
 intro x hx
 have := hasF_false h x hx
 simpa using this
theorem delF_at {fs : Fl} (hu : Up fs) {n : Int} (h : idxF fs n < fs.length) (he : (fs[idxF fs n]'h).1 = n) : delF fs n = fs.take (idxF fs n) ++ fs.drop (idxF fs n + 1) := by
 have hs : fs = fs.take (idxF fs n) ++ fs[idxF fs n] :: fs.drop (idxF fs n + 1) := by
  rw [List.getElem_cons_drop,List.take_append_drop]
 have h1 : ∀ x ∈ fs.take (idxF fs n),(!(x.1 == n)) = true := by
  intro x hx
  obtain ⟨j,hj,rfl⟩ := List.getElem_of_mem hx
  have hj2 : j < idxF fs n := by rw [List.length_take] at hj; omega
  have := idxF_lt hj2
  simp
  omega
 have h2 : ∀ x ∈ fs.drop (idxF fs n + 1),(!(x.1 == n)) = true := by
  intro x hx
  obtain ⟨j,hj,rfl⟩ := List.getElem_of_mem hx
  have hj2 : idxF fs n + 1 + j < fs.length := by rw [List.length_drop] at hj; omega
  have := List.pairwise_iff_getElem.1 hu (idxF fs n) (idxF fs n + 1 + j) h hj2 (by omega)
  simp
  omega
 unfold delF
 conv => lhs; rw [hs]
 rw [List.filter_append,List.filter_cons_of_neg (by simpa using he),List.filter_eq_self.2 h1,List.filter_eq_self.2 h2]
theorem Up.ins {fs : Fl} (hu : Up fs) {n : Int} (h : hasF fs n = false) (b : ByteArray) : Up (insF fs n b) := by
 unfold Up insF
 have hu' : Up (fs.take (idxF fs n) ++ fs.drop (idxF fs n)) := by rw [List.take_append_drop]; exact hu
 unfold Up at hu'
 rw [List.pairwise_append] at hu' ⊢
 obtain ⟨h1,h2,h3⟩ := hu'
 have hd : ∀ x ∈ fs.drop (idxF fs n),n < x.1 := by
  intro x hx
  obtain ⟨j,hj,rfl⟩ := List.getElem_of_mem hx
  have hne := hasF_false h _ (List.mem_of_mem_drop hx)
  have hj2 : idxF fs n + j < fs.length := by rw [List.length_drop] at hj; omega
  have h0 := idxF_ge (fs := fs) (n := n) (by omega)
  rw [List.getElem_drop] at hne ⊢
  rcases Nat.eq_zero_or_pos j with e | e
  ·subst e
   simp only [Nat.add_zero] at hne ⊢
   omega
  ·have := List.pairwise_iff_getElem.1 hu (idxF fs n) (idxF fs n + j) (by omega) hj2 (by omega)
   omega
 have ht : ∀ x ∈ fs.take (idxF fs n),x.1 < n := by
  intro x hx
  obtain ⟨j,hj,rfl⟩ := List.getElem_of_mem hx
  have hj2 : j < idxF fs n := by rw [List.length_take] at hj; omega
  simpa using idxF_lt hj2
 refine ⟨h1,List.pairwise_cons.2 ⟨fun x hx => hd x hx,h2⟩,fun a ha c hc => ?_⟩
 rcases List.mem_cons.1 hc with rfl | hc
 ·exact ht a ha
 ·exact h3 a ha c hc
theorem Up.del {fs : Fl} (hu : Up fs) (n : Int) : Up (delF fs n) := hu.filter _
theorem insF_length (fs : Fl) (n : Int) (b : ByteArray) : (insF fs n b).length = fs.length + 1 := by
 have := idxF_le fs n
 unfold insF
 rw [List.length_append,List.length_cons,List.length_take,List.length_drop]
 omega
theorem delF_length_le (fs : Fl) (n : Int) : (delF fs n).length <= fs.length := List.length_filter_le _ _
theorem mem_insF {fs : Fl} {n : Int} {b : ByteArray} {x : Int × ByteArray} (h : x ∈ insF fs n b) : x = (n,b) \/ x ∈ fs := by
 unfold insF at h
 rcases List.mem_append.1 h with h | h
 ·exact Or.inr (List.mem_of_mem_take h)
 ·rcases List.mem_cons.1 h with h | h
  ·exact Or.inl h
  ·exact Or.inr (List.mem_of_mem_drop h)
theorem mem_delF {fs : Fl} {n : Int} {x : Int × ByteArray} (h : x ∈ delF fs n) : x ∈ fs := (List.mem_filter.1 h).1
def encF (b : ByteArray) : DataW Unit := .agg [.lit (.string b.data.toList)]
def entF (x : Int × ByteArray) : Lit × DataW Unit := (.int .i64 x.1,encF x.2)
def mapF (fs : Fl) : DataW Unit := .map (fs.map entF)
def elemF (v : Value) : Option (DataW Unit × List MemPlace) :=
 match v with
 | .agg cs => match cs.toList with
   | [.string s] => some (encF s,[])
   | _ => none
 | _ => none
theorem elemF_mk (s : ByteArray) : elemF (.agg #[.string s]) = some (encF s,[]) := rfl
theorem elemF_inv {v : Value} {z : DataW Unit × List MemPlace} (h : elemF v = some z) : ∃ s,v = .agg #[.string s] /\ z = (encF s,[]) := by
 unfold elemF at h
 split at h
 ·rename_i cs
  split at h
  ·rename_i s hs
   injection h with h
   refine ⟨s,?_,h.symm⟩
   congr 1
   apply Array.ext'
   rw [hs]
  ·cases h
 ·cases h
theorem encF_inj {a b : ByteArray} (h : encF a = encF b) : a = b := by
 unfold encF at h
 injection h with h
 injection h with h
 injection h with h
 injection h with h
 exact ba_ext h
theorem same_int (a b : Int) : (Lit.int .i64 a).sameKey (Lit.int .i64 b) = (a == b) := by
 unfold Lit.sameKey
 by_cases h : a = b
 ·simp [h]
 ·simp [h]
theorem has_mapF (fs : Fl) (n : Int) : Maps.has (mapF fs) (.int .i64 n) = hasF fs n := by
 unfold mapF hasF
 rw [Maps.has_eq,List.any_map]
 congr 1
 funext x
 exact same_int x.1 n
theorem atKey_mapF (fs : Fl) (n : Int) : (mapF fs).atKey (.int .i64 n) (encF ⟨#[]⟩) = encF (getF fs n) := by
 unfold mapF getF DataW.atKey
 simp only [List.find?_map]
 have e : ((fun p : Lit × DataW Unit => p.1.sameKey (.int .i64 n)) ∘ entF) = fun x => x.1 == n := by
  funext x
  exact same_int x.1 n
 rw [e]
 cases fs.find? (fun x => x.1 == n) <;> rfl
theorem size_mapF (fs : Fl) : Maps.size (mapF fs) = fs.length := by
 unfold mapF
 rw [Maps.size_eq,List.length_map]
theorem filter_mapF (fs : Fl) (n : Int) : (fs.map entF).filter (fun p => !p.1.sameKey (.int .i64 n)) = (delF fs n).map entF := by
 unfold delF
 rw [List.filter_map]
 congr 2
 funext x
 exact congrArg (! ·) (same_int x.1 n)
theorem del_mapF (fs : Fl) (n : Int) : (mapF fs).del (.int .i64 n) = mapF (delF fs n) := by
 show DataW.map ((fs.map entF).filter _) = _
 rw [filter_mapF]
 rfl
def numsF (fs : Fl) : List Int := fs.map (·.1)
theorem numsF_up {fs : Fl} (hu : Up fs) : (numsF fs).Pairwise (· < ·) := List.pairwise_map.2 hu
theorem mem_numsF {fs : Fl} {n : Int} : n ∈ numsF fs ↔ hasF fs n = true := by
 unfold numsF hasF
 rw [List.mem_map,List.any_eq_true]
 exact ⟨fun ⟨x,h,e⟩ => ⟨x,h,by simpa using e⟩,fun ⟨x,h,e⟩ => ⟨x,h,by simpa using e⟩⟩
def MetF (fs : Fl) (left : Lit -> Bool) (ss : List Int) : Prop := ss.Nodup /\ ∀ x,x ∈ ss ↔ (hasF fs x = true /\ left (.int .i64 x) = false)
theorem MetF.start (fs : Fl) : MetF fs (Maps.has (mapF fs)) [] := ⟨List.nodup_nil,fun x => by rw [has_mapF]; cases hasF fs x <;> simp⟩
theorem MetF.step {fs : Fl} {left : Lit -> Bool} {ss : List Int} (h : MetF fs left ss) {x : Int} (hx : hasF fs x = true) (hl : left (.int .i64 x) = true) : MetF fs (fun z => left z && !z.sameKey (.int .i64 x)) (ss ++ [x]) := by
 have hnew : x ∉ ss := fun hm => by have := ((h.2 x).1 hm).2; rw [hl] at this; cases this
 refine ⟨List.nodup_append.2 ⟨h.1,by simp,fun a ha b hb => by simp at hb; subst hb; exact fun e => hnew (e ▸ ha)⟩,fun y => ?_⟩
 rw [List.mem_append,h.2 y]
 show _ ↔ hasF fs y = true /\ (left (.int .i64 y) && !(Lit.int .i64 y).sameKey (.int .i64 x)) = false
 rw [same_int]
 by_cases hy : y = x
 ·subst hy; simp [hx]
 ·simp [hy]
theorem MetF.sorted {fs : Fl} {left : Lit -> Bool} {ss : List Int} (h : MetF fs left ss) (hu : Up fs) (hl : ∀ kl,left kl = false) : ss.mergeSort (fun x y => decide (x <= y)) = numsF fs := by
 have hnd : (numsF fs).Nodup := (numsF_up hu).imp fun {a b} hab e => by omega
 have hp : ss.Perm (numsF fs) := (List.perm_ext_iff_of_nodup h.1 hnd).2 fun x => by rw [h.2 x,mem_numsF,hl]; simp
 have tr : ∀ a b c : Int,decide (a <= b) = true -> decide (b <= c) = true -> decide (a <= c) = true := fun a b c h1 h2 => by simp at *; omega
 have to : ∀ a b : Int,(decide (a <= b) || decide (b <= a)) = true := fun a b => by simp; omega
 refine List.Perm.eq_of_pairwise (le := fun a b : Int => decide (a <= b) = true) (fun a b _ _ h1 h2 => ?_) (List.pairwise_mergeSort tr to ss) ((numsF_up hu).imp fun {a b} hab => by simp; omega) ((List.mergeSort_perm ss _).trans hp)
 simp at h1 h2
 omega
end Go.Proofs.YtmpcnhpdobdmcaaGreatDoor
namespace Go.Proofs.YtmpcnhpdobdmcaaGreatDoor
open Go
structure NOk (S : Fl) : Prop where
 up : Up S
 wf : ∀ x ∈ S,1 <= x.1 /\ x.1 <= 1099511627776
 len : S.length <= 300
 bod : ∀ x ∈ S,x.2.size <= 4096
def setF (S : Fl) (n : Int) (b : ByteArray) : Fl := S.set (idxF S n) (n,b)
def BadN (S : Fl) (n : Int) (b : ByteArray) : Prop := n < 1 \/ 1099511627776 < n \/ 4096 < b.size \/ (hasF S n = false /\ 300 <= S.length)
instance (S : Fl) (n : Int) (b : ByteArray) : Decidable (BadN S n b) := by unfold BadN; exact inferInstance
def putN (S : Fl) (n : Int) (b : ByteArray) : Fl := if hasF S n = true then setF S n b else insF S n b
def addN (S : Fl) (n : Int) (b : ByteArray) : Fl × Bool := if BadN S n b then (S,false) else (putN S n b,true)
def fitN (S : Fl) : Fl -> Bool
 | [] => true
 | x :: r => (addN S x.1 x.2).2 && fitN (addN S x.1 x.2).1 r
def dropsN (S : Fl) (l : List Int) : Fl := l.foldl delF S
theorem NOk.nil : NOk [] := ⟨List.Pairwise.nil,fun x hx => (by cases hx),Nat.zero_le _,fun x hx => (by cases hx)⟩
theorem setF_length (S : Fl) (n : Int) (b : ByteArray) : (setF S n b).length = S.length := List.length_set
theorem set_up {S : Fl} (hu : Up S) {i : Nat} (hi : i < S.length) {n : Int} (b : ByteArray) (he : S[i].1 = n) : Up (S.set i (n,b)) := by
 unfold Up at hu ⊢
 rw [List.pairwise_iff_getElem] at hu ⊢
 intro a c ha hc hac
 rw [List.length_set] at ha hc
 have h := hu a c ha hc hac
 rw [List.getElem_set,List.getElem_set]
 by_cases h1 : i = a
 ·subst h1
  rw [if_pos rfl,if_neg (by omega)]
  show n < _
  omega
 ·rw [if_neg h1]
  by_cases h2 : i = c
  ·subst h2
   rw [if_pos rfl]
   show _ < n
   omega
  ·rw [if_neg h2]
   exact h
theorem NOk.put {S : Fl} (h : NOk S) {n : Int} {b : ByteArray} (hb : ¬ BadN S n b) : NOk (putN S n b) := by
 unfold BadN at hb
 have h1 : 1 <= n := by omega
 have h2 : n <= 1099511627776 := by omega
 have h3 : b.size <= 4096 := by omega
 unfold putN
 by_cases hh : hasF S n = true
 ·rw [if_pos hh]
  obtain ⟨hi,he⟩ := (hasF_iff h.up n).1 hh
  refine ⟨set_up h.up hi b he,fun x hx => ?_,by rw [setF_length]; exact h.len,fun x hx => ?_⟩
  ·rcases List.mem_or_eq_of_mem_set hx with h4 | h4
   ·exact h.wf x h4
   ·rw [h4]; exact ⟨h1,h2⟩
  ·rcases List.mem_or_eq_of_mem_set hx with h4 | h4
   ·exact h.bod x h4
   ·rw [h4]; exact h3
 ·rw [if_neg hh]
  have hf : hasF S n = false := by simpa using hh
  refine ⟨h.up.ins hf b,fun x hx => ?_,?_,fun x hx => ?_⟩
  ·rcases mem_insF hx with h4 | h4
   ·rw [h4]; exact ⟨h1,h2⟩
   ·exact h.wf x h4
  ·rw [insF_length]
   have : ¬ 300 <= S.length := fun h5 => hb (Or.inr (Or.inr (Or.inr ⟨hf,h5⟩)))
   omega
  ·rcases mem_insF hx with h4 | h4
   ·rw [h4]; exact h3
   ·exact h.bod x h4
theorem NOk.del {S : Fl} (h : NOk S) (n : Int) : NOk (delF S n) :=
 ⟨h.up.del n,fun x hx => h.wf x (mem_delF hx),Nat.le_trans (delF_length_le S n) h.len,fun x hx => h.bod x (mem_delF hx)⟩
theorem NOk.add {S : Fl} (h : NOk S) (n : Int) (b : ByteArray) : NOk (addN S n b).1 := by
 unfold addN
 by_cases hb : BadN S n b
 ·rw [if_pos hb]; exact h
 ·rw [if_neg hb]; exact h.put hb
end Go.Proofs.YtmpcnhpdobdmcaaGreatDoor
namespace Go.Proofs.YtmpcnhpdobdmcaaGreatDoor
open Go Go.RowKit Go.Maps
theorem hasF_del (fs : Fl) (n : Int) : hasF (delF fs n) n = false := by
 unfold hasF delF
 rw [List.any_eq_false]
 intro x hx
 have := (List.mem_filter.1 hx).2
 simpa using this
theorem insF_del {fs : Fl} (hu : Up fs) {n : Int} (h : hasF fs n = true) (b : ByteArray) : insF (delF fs n) n b = setF fs n b := by
 obtain ⟨hi,he⟩ := (hasF_iff hu n).1 h
 have hd := delF_at hu hi he
 have hle := idxF_le fs n
 have hix : idxF (delF fs n) n = idxF fs n := by
  refine idxF_eq (by rw [hd,List.length_append,List.length_take,List.length_drop]; omega) (fun j hj => ?_) (fun hl => ?_)
  ·have hb := idxF_lt (fs := fs) (n := n) hj
   have e : (delF fs n)[j]'(by rw [hd,List.length_append,List.length_take]; omega) = fs[j]'(by omega) := by
    have h1 : (delF fs n)[j]? = fs[j]? := by rw [hd,List.getElem?_append_left (by rw [List.length_take]; omega),List.getElem?_take_of_lt hj]
    rw [List.getElem?_eq_getElem (by rw [hd,List.length_append,List.length_take]; omega),List.getElem?_eq_getElem (by omega)] at h1
    injection h1
   rw [e]
   exact hb
  ·have hl2 : idxF fs n + 1 < fs.length := by rw [hd,List.length_append,List.length_take,List.length_drop] at hl; omega
   have e : (delF fs n)[idxF fs n]'hl = fs[idxF fs n + 1]'hl2 := by
    have h1 : (delF fs n)[idxF fs n]? = fs[idxF fs n + 1]? := by
     rw [hd,List.getElem?_append_right (by rw [List.length_take]; omega),List.length_take,List.getElem?_drop]
     congr 1
     omega
    rw [List.getElem?_eq_getElem hl,List.getElem?_eq_getElem hl2] at h1
    injection h1
   rw [e]
   unfold Up at hu
   have h3 := (List.pairwise_iff_getElem.1 hu) (idxF fs n) (idxF fs n + 1) hi hl2 (by omega)
   omega
 unfold insF setF
 rw [hix,hd,List.take_append_of_le_length (by rw [List.length_take]; omega),List.take_take,Nat.min_self,List.drop_append,List.drop_of_length_le (by rw [List.length_take]; omega),List.length_take,Nat.min_eq_left (by omega),Nat.sub_self,List.drop_zero,List.nil_append,List.set_eq_take_append_cons_drop,if_pos hi]
def encD (x : Int × ByteArray) : DataW Unit := .agg [.lit (.int .i64 x.1),.lit (.string x.2.data.toList)]
def entD (x : Int × ByteArray) : Lit × DataW Unit := (.int .i64 x.1,encD x)
def mapD (fs : Fl) : DataW Unit := .map (fs.map entD)
def elemD (v : Value) : Option (DataW Unit × List MemPlace) :=
 match v with
 | .agg cs => match cs.toList with
   | [.int .i64 n,.string s] => some (encD (n,s),[])
   | _ => none
 | _ => none
theorem elemD_mk (x : Int × ByteArray) : elemD (.agg #[.int .i64 x.1,.string x.2]) = some (encD x,[]) := rfl
theorem elemD_inv {v : Value} {z : DataW Unit × List MemPlace} (h : elemD v = some z) : ∃ x : Int × ByteArray,v = .agg #[.int .i64 x.1,.string x.2] /\ z = (encD x,[]) := by
 unfold elemD at h
 split at h
 ·rename_i cs
  split at h
  ·rename_i n s hs
   injection h with h
   refine ⟨(n,s),?_,h.symm⟩
   congr 1
   apply Array.ext'
   rw [hs]
  ·cases h
 ·cases h
theorem encD_inj {a b : Int × ByteArray} (h : encD a = encD b) : a = b := by
 unfold encD at h
 injection h with h
 injection h with h1 h
 injection h with h2 h
 injection h1 with h1
 injection h1 with _ h1
 injection h2 with h2
 injection h2 with h2
 exact Prod.ext h1 (ba_ext h2)
theorem has_mapD (fs : Fl) (n : Int) : Maps.has (mapD fs) (.int .i64 n) = hasF fs n := by
 unfold mapD hasF
 rw [Maps.has_eq,List.any_map]
 congr 1
 funext x
 exact same_int x.1 n
def numF (fs : Fl) (n : Int) : Int := if hasF fs n = true then n else 0
theorem find_fst {fs : Fl} {n : Int} {x : Int × ByteArray} (h : fs.find? (fun x => x.1 == n) = some x) : x.1 = n := by
 have := List.find?_some h
 simpa using this
theorem atKey_mapD (fs : Fl) (n : Int) : (mapD fs).atKey (.int .i64 n) (encD (0,⟨#[]⟩)) = encD (numF fs n,getF fs n) := by
 have e : ((fun p : Lit × DataW Unit => p.1.sameKey (.int .i64 n)) ∘ entD) = fun x => x.1 == n := by
  funext x
  exact same_int x.1 n
 have hh : hasF fs n = (fs.find? fun x => x.1 == n).isSome := by
  unfold hasF
  rw [List.isSome_find?]
 unfold mapD numF getF DataW.atKey
 rw [hh]
 simp only [List.find?_map]
 rw [e]
 cases hf : fs.find? (fun x => x.1 == n) with
 | none => rfl
 | some x =>
   have hx := find_fst hf
   show encD x = encD (if true = true then n else 0,x.2)
   rw [if_pos rfl,<- hx]
theorem size_mapD (fs : Fl) : Maps.size (mapD fs) = fs.length := by
 unfold mapD
 rw [Maps.size_eq,List.length_map]
theorem filter_mapD (fs : Fl) (n : Int) : (fs.map entD).filter (fun p => !p.1.sameKey (.int .i64 n)) = (delF fs n).map entD := by
 unfold delF
 rw [List.filter_map]
 congr 2
 funext x
 exact congrArg (! ·) (same_int x.1 n)
theorem del_mapD (fs : Fl) (n : Int) : (mapD fs).del (.int .i64 n) = mapD (delF fs n) := by
 show DataW.map ((fs.map entD).filter _) = _
 rw [filter_mapD]
 rfl
theorem insert_mapD (fs : Fl) (hu : Up fs) (n : Int) (h : hasF fs n = false) (b : ByteArray) : DataW.insert (entD (n,b)) (fs.map entD) = (insF fs n b).map entD := by
 induction fs with
 | nil => rfl
 | cons x r ih =>
   have hx := hasF_false h x (by simp)
   have hr : hasF r n = false := by
    unfold hasF at h ⊢
    rw [List.any_cons,Bool.or_eq_false_iff] at h
    exact h.2
   have hur : Up r := (List.pairwise_cons.1 hu).2
   rw [List.map_cons,DataW.insert]
   have hb : (entD (n,b)).1.before (entD x).1 = decide (n < x.1) := rfl
   rw [hb]
   by_cases hlt : n < x.1
   ·rw [if_pos (by simpa using hlt)]
    unfold insF
    rw [idxF_cons,if_neg (by omega)]
    rfl
   ·rw [if_neg (by simpa using hlt),ih hur hr]
    unfold insF
    rw [idxF_cons,if_pos (by omega)]
    rfl
theorem put_mapD (fs : Fl) (hu : Up fs) (n : Int) (b : ByteArray) : (mapD fs).put (.int .i64 n) (encD (n,b)) = mapD (putN fs n b) := by
 show DataW.map (DataW.insert (entD (n,b)) ((fs.map entD).filter _)) = _
 unfold putN
 by_cases h : hasF fs n = true
 ·rw [if_pos h,<- insF_del hu h b,filter_mapD,insert_mapD _ (hu.del n) n (hasF_del fs n) b]
  rfl
 ·rw [if_neg h,filter_mapD,delF_none (by simpa using h),insert_mapD fs hu n (by simpa using h) b]
  rfl
def MetD (fs : Fl) (left : Lit -> Bool) (ss : Fl) : Prop := ss.Nodup /\ ∀ x,x ∈ ss ↔ (x ∈ fs /\ left (.int .i64 x.1) = false)
theorem mem_has {fs : Fl} {x : Int × ByteArray} (h : x ∈ fs) : hasF fs x.1 = true := by
 unfold hasF
 rw [List.any_eq_true]
 exact ⟨x,h,by simp⟩
theorem MetD.start (fs : Fl) : MetD fs (Maps.has (mapD fs)) [] := ⟨List.nodup_nil,fun x => by
 rw [has_mapD]
 constructor
 ·intro h; cases h
 ·rintro ⟨h1,h2⟩
  rw [mem_has h1] at h2
  cases h2⟩
theorem up_inj {fs : Fl} (hu : Up fs) {x y : Int × ByteArray} (hx : x ∈ fs) (hy : y ∈ fs) (h : x.1 = y.1) : x = y := by
 obtain ⟨i,hi,rfl⟩ := List.getElem_of_mem hx
 obtain ⟨j,hj,rfl⟩ := List.getElem_of_mem hy
 have hp := List.pairwise_iff_getElem.1 hu
 rcases Nat.lt_trichotomy i j with h1 | h1 | h1
 ·have := hp i j hi hj h1; omega
 ·subst h1; rfl
 ·have := hp j i hj hi h1; omega
theorem MetD.step {fs : Fl} {left : Lit -> Bool} {ss : Fl} (hu : Up fs) (h : MetD fs left ss) {x : Int × ByteArray} (hx : x ∈ fs) (hl : left (.int .i64 x.1) = true) : MetD fs (fun z => left z && !z.sameKey (.int .i64 x.1)) (ss ++ [x]) := by
 have hnew : x ∉ ss := fun hm => by have := ((h.2 x).1 hm).2; rw [hl] at this; cases this
 refine ⟨List.nodup_append.2 ⟨h.1,by simp,fun a ha b hb => by simp at hb; subst hb; exact fun e => hnew (e ▸ ha)⟩,fun y => ?_⟩
 rw [List.mem_append,h.2 y]
 show _ ↔ y ∈ fs /\ (left (.int .i64 y.1) && !(Lit.int .i64 y.1).sameKey (.int .i64 x.1)) = false
 rw [same_int]
 by_cases hy : y.1 = x.1
 ·constructor
  ·rintro (h1 | h1)
   ·exact ⟨h1.1,by rw [h1.2]; rfl⟩
   ·simp at h1; subst h1; exact ⟨hx,by simp⟩
  ·rintro ⟨h1,_⟩
   exact Or.inr (by simp; exact up_inj hu h1 hx hy)
 ·have hne : y ≠ x := fun e => hy (by rw [e])
  simp [hy,hne]
theorem MetD.perm {fs : Fl} {left : Lit -> Bool} {ss : Fl} (hu : Up fs) (h : MetD fs left ss) (hl : ∀ kl,left kl = false) : ss.Perm fs := by
 have hnd : fs.Nodup := hu.imp fun {a b} hab e => by rw [e] at hab; omega
 exact (List.perm_ext_iff_of_nodup h.1 hnd).2 fun x => by rw [h.2 x,hl]; simp
theorem mem_of_atKey {fs : Fl} {n : Int} {c : Int × ByteArray} (h : ∀ zd,(mapD fs).atKey (.int .i64 n) zd = encD c) : c ∈ fs /\ c.1 = n := by
 have e : ((fun p : Lit × DataW Unit => p.1.sameKey (.int .i64 n)) ∘ entD) = fun x => x.1 == n := by
  funext x
  exact same_int x.1 n
 have h1 : ∀ zd,((fs.map entD).find? (fun p => p.1.sameKey (.int .i64 n))).elim zd (·.2) = encD c := by
  intro zd
  have := h zd
  unfold mapD DataW.atKey at this
  cases hf : (fs.map entD).find? (fun p => p.1.sameKey (.int .i64 n)) <;> simp only [hf] at this ⊢ <;> exact this
 rw [List.find?_map,e] at h1
 cases hf : fs.find? (fun x => x.1 == n) with
 | none =>
   have ha := h1 (.agg [])
   rw [hf] at ha
   exact absurd ha (by intro h; injection h with h; cases h)
 | some x =>
   have ha := h1 (.agg [])
   rw [hf] at ha
   have : x = c := encD_inj ha
   subst this
   exact ⟨List.mem_of_find?_eq_some hf,find_fst hf⟩
end Go.Proofs.YtmpcnhpdobdmcaaGreatDoor
namespace Go.Proofs.YtmpcnhpdobdmcaaGreatDoor
open Go
theorem putN_eq {S : Fl} (hu : Up S) (n : Int) (b : ByteArray) : putN S n b = insF (delF S n) n b := by
 unfold putN
 by_cases h : hasF S n = true
 ·rw [if_pos h,insF_del hu h]
 ·rw [if_neg h,delF_none (by simpa using h)]
theorem hasF_ins (T : Fl) (n m : Int) (b : ByteArray) : hasF (insF T n b) m = (n == m || hasF T m) := by
 unfold hasF insF
 rw [List.any_append,List.any_cons]
 have e : T.any (fun x => x.1 == m) = ((T.take (idxF T n)).any (fun x => x.1 == m) || (T.drop (idxF T n)).any (fun x => x.1 == m)) := by rw [<- List.any_append,List.take_append_drop]
 rw [e]
 cases (T.take (idxF T n)).any (fun x => x.1 == m) <;> cases (n == m) <;> rfl
theorem hasF_dels (S : Fl) (n m : Int) : hasF (delF S n) m = (!(m == n) && hasF S m) := by
 unfold hasF delF
 rw [List.any_filter]
 by_cases h : m = n
 ·subst h
  rw [show (m == m) = true by simp,Bool.not_true,Bool.false_and,List.any_eq_false]
  intro x _
  cases hx : (x.1 == m) <;> simp
 ·rw [show (m == n) = false by simpa using h,Bool.not_false,Bool.true_and]
  congr 1
  funext x
  by_cases hx : x.1 = m
  ·have h1 : (x.1 == n) = false := by rw [hx]; simpa using h
   rw [h1,Bool.not_false,Bool.true_and]
  ·have h1 : (x.1 == m) = false := by simpa using hx
   rw [h1,Bool.and_false]
theorem hasF_put {S : Fl} (hu : Up S) (n m : Int) (b : ByteArray) : hasF (putN S n b) m = (n == m || hasF S m) := by
 rw [putN_eq hu,hasF_ins,hasF_dels]
 by_cases h : m = n
 ·subst h; simp
 ·rw [show (m == n) = false by simpa using h]; simp
theorem getF_ins {T : Fl} {n : Int} (hT : hasF T n = false) (m : Int) (b : ByteArray) : getF (insF T n b) m = if m = n then b else getF T m := by
 have e : T.find? (fun x => x.1 == m) = ((T.take (idxF T n)).find? (fun x => x.1 == m)).or ((T.drop (idxF T n)).find? (fun x => x.1 == m)) := by rw [<- List.find?_append,List.take_append_drop]
 unfold getF insF
 rw [List.find?_append,List.find?_cons,e]
 by_cases h : m = n
 ·subst h
  rw [if_pos rfl]
  have h0 : (T.take (idxF T m)).find? (fun x => x.1 == m) = none := List.find?_eq_none.2 fun x hx => by
   have := hasF_false hT x (List.mem_of_mem_take hx)
   simpa using this
  rw [h0]
  simp
 ·rw [if_neg h,show (n == m) = false by simpa using fun e => h e.symm]
theorem getF_dels (S : Fl) {n m : Int} (h : m ≠ n) : getF (delF S n) m = getF S m := by
 unfold getF delF
 rw [List.find?_filter]
 congr 2
 funext x
 by_cases hx : x.1 = m
 ·have h1 : (m == n) = false := by simpa using h
  simp [hx,h1,h]
 ·have h1 : (x.1 == m) = false := by simpa using hx
  simp [h1]
theorem getF_put {S : Fl} (hu : Up S) (n m : Int) (b : ByteArray) : getF (putN S n b) m = if m = n then b else getF S m := by
 rw [putN_eq hu,getF_ins (hasF_del S n)]
 by_cases h : m = n
 ·rw [if_pos h,if_pos h]
 ·rw [if_neg h,if_neg h,getF_dels S h]
end Go.Proofs.YtmpcnhpdobdmcaaGreatDoor
namespace Go.Proofs.YtmpcnhpdobdmcaaGreatDoor
open Go Go.RowKit
structure NoAt (w : World) (F : Nat -> Prop) (p m : Nat) (S : Fl) : Prop where
 blk : w.heap[p]? = some (.cells #[.map (some m)] 85 (0,0))
 own : w.ownsMap Tryz.prog 3 elemD m S.length (mapD S)
 fp : F p
 fm : F m
def NoIs (w : World) (F : Nat -> Prop) (p : Nat) (S : Fl) : Prop := ∃ m,NoAt w F p m S
section
variable {w w' : World} {F G : Nat -> Prop} {p m : Nat} {S : Fl}
theorem map_tightD {H : Type} {P : Program} {k : TypeId} {R : Value -> Option (DataW H × List MemPlace)} {b n : Nat} {D : DataW H} (h : w.ownsMap P k R b n D) : w.ownsMap P k R b (Maps.size D) D := by
 obtain ⟨es,clock,hb,F,hs,hD⟩ := h
 refine ⟨es,clock,hb,F,?_,hD⟩
 rw [hD]
 simp [Maps.size,length_sorted]
theorem NoAt.kept (h : NoAt w G p m S) (hk : Kept F w w') (ho : Off F G) (hG : In G w) : NoAt w' G p m S :=
 ⟨by rw [hk.get ho hG h.fp]; exact h.blk,map_kept h.own (hk.get ho hG h.fm),h.fp,h.fm⟩
theorem NoIs.kept (h : NoIs w G p S) (hk : Kept F w w') (ho : Off F G) (hG : In G w) : NoIs w' G p S := by
 obtain ⟨m,h⟩ := h
 exact ⟨m,h.kept hk ho hG⟩
theorem NoAt.below (h : NoAt w G p m S) (hb : Below w.heap.size w w') : NoAt w' G p m S :=
 ⟨by rw [hb.block p (Array.getElem?_eq_some_iff.1 h.blk).1]; exact h.blk,map_kept h.own (hb.block m h.own.lt),h.fp,h.fm⟩
theorem NoAt.cell (h : NoAt w F p m S) : w.cell? ⟨p,0,none⟩ = some (.map (some m)) := cell_at h.blk rfl
theorem NoAt.ne (h : NoAt w F p m S) : m ≠ p := by
 rintro rfl
 obtain ⟨es,c,hb,_⟩ := h.own
 have h1 := h.blk
 rw [hb] at h1
 cases h1
theorem NoAt.set_map (h : NoAt w F p m S) {fs : Fl} {n : Nat} (hg : w.grownBy w' (some m)) (ho : w'.ownsMap Tryz.prog 3 elemD m n (mapD fs)) : NoAt w' F p m fs := by
 have h1 := h.ne
 refine ⟨?_,?_,h.fp,h.fm⟩
 ·rw [hg.block p (Array.getElem?_eq_some_iff.1 h.blk).1 (fun e => h1 (by injection e with e; exact e.symm))]
  exact h.blk
 ·have := map_tightD ho
  rw [size_mapD] at this
  exact this
end
theorem dnew_any (w : World) : Calls Tryz.prog 21 #[] w fun e w' => ∃ (p : Nat) (F : Nat -> Prop),e = .returned (.pointer (some ⟨p,0,none⟩)) /\ NoIs w' F p [] /\ (∀ k,F k -> w.heap.size <= k) /\ In F w' /\ Below w.heap.size w w' := by
 have hmm := @run_makeMap Tryz.prog
 go_enter Tryz.func21,Tryz.ntmps21
 go_wp2
 go_ret
 have hB := ((Below.refl w.heap.size w).alloc (Nat.le_refl _) (.map #[] 0)).alloc (by simp) (.cells #[.map (some w.heap.size)] 85)
 refine ⟨w.heap.size + 1,fun k => w.heap.size <= k /\ k < w.heap.size + 2,rfl,⟨w.heap.size,⟨?_,?_,by omega,by omega⟩⟩,fun k hk => hk.1,fun k hk => by simpa using hk.2,hB⟩
 ·have := heap_alloc_new (w.alloc (.map #[] 0)) (.cells #[.map (some w.heap.size)] 85)
  rw [show (w.alloc (.map #[] 0)).heap.size = w.heap.size + 1 by simp] at this
  exact this
 ·exact (World.ownsMap_made w _ _ _).alloc _
theorem keyI : Maps.Keyed Tryz.prog 3 := Maps.int_keyed Tryz.underlying3
theorem zeroNote (w : World) : (zeroValue 57).run Tryz.prog w = .ok (.agg #[.int .i64 0,.string ⟨#[]⟩]) w := by kernel_rfl
theorem lookD (w : World) {ops : Array Oper} {rest : List Oper} {o : Oper} {a : Act} {Q : Exit -> Act -> World -> Prop} (hg : o.guard = none) (m x : Operand) (hop : o.op = Op.lookup 83 m x true)
    (b n : Nat) (fs : Fl) (hm : a.eval m = .map (some b)) (hown : w.ownsMap Tryz.prog 3 elemD b n (mapD fs)) (k : Int) (hx : a.eval x = .int .i64 k) (hk : (Lit.int .i64 k).wf = true) (i : Int) (hi : numF fs k = i) (s : ByteArray) (hs : getF fs k = s) (c : Bool) (hc : hasF fs k = c)
    (hK : wpList Tryz.prog ops Q rest (a.put o.dst (.tuple #[.agg #[.int .i64 i,.string s],.bool c])) w) : wpList Tryz.prog ops Q (o :: rest) a w :=
 wpList_lookup_own_ok w hg m x _ hop 3 57 keyI Tryz.underlying83 elemD (zeroNote w) (encD (0,⟨#[]⟩)) [] (elemD_mk (0,⟨#[]⟩)) b n (mapD fs) hm hown _ (.int .i64 k) hx (Maps.keyOf_int_mk Tryz.underlying3 hk) fun v ps hv => by
  rw [atKey_mapD] at hv
  obtain ⟨x',rfl,he⟩ := elemD_inv hv
  injection he with he _
  have he2 := encD_inj he
  subst hi
  subst hs
  subst hc
  rw [has_mapD]
  rw [<- he2]
  exact hK
theorem dget_any (F : Nat -> Prop) (p : Nat) (S : Fl) (n : Int) (w : World) (h : NoIs w F p S) (hn : (Lit.int .i64 n).wf = true) :
    Calls Tryz.prog 37 #[.pointer (some ⟨p,0,none⟩),.int .i64 n] w fun e w' => e = .returned (.tuple #[.string (getF S n),.bool (hasF S n)]) /\ Below w.heap.size w w' := by
 obtain ⟨m,h⟩ := h
 have c0 := h.cell
 obtain ⟨b,hb⟩ : ∃ b,hasF S n = b := ⟨_,rfl⟩
 obtain ⟨s,hs⟩ : ∃ s,getF S n = s := ⟨_,rfl⟩
 obtain ⟨i,hi⟩ : ∃ i,numF S n = i := ⟨_,rfl⟩
 have H := hid h; have HN := hid hn; have HS := hid hs; have HB := hid hb; have HI := hid hi
 rw [hs,hb]
 clear h hn hs hb hi
 go_enter Tryz.func37,Tryz.ntmps37
 go_wp2_with (at_lookup; refine lookD _ rfl _ _ rfl m _ S rfl H.out.own n rfl HN.out i HI.out s HS.out b HB.out ?_)
 go_ret2
 exact ⟨rfl,(Below.refl _ _).alloc (Nat.le_refl _) _⟩
theorem ddrop_any (F : Nat -> Prop) (p : Nat) (S : Fl) (n : Int) (w : World) (h : NoIs w F p S) (hF : In F w) (hn : (Lit.int .i64 n).wf = true) :
    Calls Tryz.prog 80 #[.pointer (some ⟨p,0,none⟩),.int .i64 n] w fun e w' => e = .returned (.bool (hasF S n)) /\ NoIs w' F p (delF S n) /\ Step F w F w' := by
 obtain ⟨m,h⟩ := h
 have c0 := h.cell
 obtain ⟨b,hb⟩ : ∃ b,hasF S n = b := ⟨_,rfl⟩
 obtain ⟨s,hs⟩ : ∃ s,getF S n = s := ⟨_,rfl⟩
 obtain ⟨i,hi⟩ : ∃ i,numF S n = i := ⟨_,rfl⟩
 have hb0 := (Below.refl w.heap.size w).alloc (Nat.le_refl _) (.cells #[.int .i64 i,.string s] 57)
 have h1 := h.below hb0
 have d0 := h1.cell
 have H := hid h; have H1 := hid h1; have HN := hid hn; have HS := hid hs; have HB := hid hb; have HI := hid hi
 rw [hb]
 clear h h1 hn hs hb hi
 go_enter Tryz.func80,Tryz.ntmps80
 go_wp2_with (first
  | (at_lookup; refine lookD _ rfl _ _ rfl m _ S rfl H.out.own n rfl HN.out i HI.out s HS.out b HB.out ?_)
  | (at_delete; refine wpList_delete_own _ rfl _ _ 83 3 rfl 57 keyI Tryz.underlying83 _ m _ _ rfl H1.out.own _ (.int .i64 n) rfl (Maps.keyOf_int_mk Tryz.underlying3 HN.out) ?_; intro w1 hown1 hturn1))
 go_ret
 rw [del_mapD] at hown1
 have hk : Kept F w w1 := (Kept.of_below hb0 F).trans (Kept.of_grown hturn1.grown fun k hk => (by injection hk with hk; subst hk; exact H.out.fm)) fun k hk => Or.inl hk
 exact ⟨rfl,⟨_,H1.out.set_map (fs := delF S n) hturn1.grown hown1⟩,hk,fun k hk2 => Or.inl hk2⟩
theorem droom_any (F : Nat -> Prop) (p : Nat) (S : Fl) (n : Int) (w : World) (h : NoIs w F p S) (hn : (Lit.int .i64 n).wf = true) (hl : S.length <= 300) :
    Calls Tryz.prog 69 #[.pointer (some ⟨p,0,none⟩),.int .i64 n] w fun e w' => e = .returned (.bool (!decide (hasF S n = false /\ 300 <= S.length))) /\ Below w.heap.size w w' := by
 obtain ⟨m,h⟩ := h
 have c0 := h.cell
 obtain ⟨b,hb⟩ : ∃ b,hasF S n = b := ⟨_,rfl⟩
 obtain ⟨s,hs⟩ : ∃ s,getF S n = s := ⟨_,rfl⟩
 obtain ⟨i,hi⟩ : ∃ i,numF S n = i := ⟨_,rfl⟩
 have hb0 := (Below.refl w.heap.size w).alloc (Nat.le_refl _) (.cells #[.int .i64 i,.string s] 57)
 have h1 := h.below hb0
 have d0 := h1.cell
 have hlen := h1.own.len Tryz.underlying83 3
 rw [size_mapD] at hlen
 obtain ⟨R,hR⟩ : ∃ R,(!decide (hasF S n = false /\ 300 <= S.length)) = R := ⟨_,rfl⟩
 rw [hR]
 have H := hid h; have HN := hid hn; have HS := hid hs; have HB := hid hb; have HI := hid hi; have HB0 := hid hb0; have HR := hid hR
 rw [hb] at hR
 clear h h1 hn hs hb hi hb0
 cases b with
 | true =>
   have hr : R = true := by rw [<- hR]; simp
   subst hr
   clear hR
   go_enter Tryz.func69,Tryz.ntmps69
   go_wp2_with (at_lookup; refine lookD _ rfl _ _ rfl m _ S rfl H.out.own n rfl HN.out i HI.out s HS.out true HB.out ?_)
   go_ret
   exact ⟨rfl,HB0.out⟩
 | false =>
   have hr : R = decide ((S.length : Int) < 300) := by
    rw [<- hR]
    by_cases h3 : 300 <= S.length
    ·simp [h3]; try omega
    ·simp [h3]; try omega
   obtain ⟨L,hL⟩ : ∃ L,S.length = L := ⟨_,rfl⟩
   rw [hL] at hlen hr hl
   subst hr
   have HL := hid hL
   clear hR hL
   go_enter Tryz.func69,Tryz.ntmps69
   go_wp2_with (at_lookup; refine lookD _ rfl _ _ rfl m _ S rfl H.out.own n rfl HN.out i HI.out s HS.out false HB.out ?_)
   go_ret
   exact ⟨rfl,HB0.out⟩
end Go.Proofs.YtmpcnhpdobdmcaaGreatDoor
