import Derived.Test.YtmpcnhpdobdmcaaGreatDoorLawNotesN
import Derived.Test.YtmpcnhpdobdmcaaGreatDoorLawNotesR
set_option linter.unusedVariables false
set_option linter.unusedSimpArgs false
namespace Go.Proofs.YtmpcnhpdobdmcaaGreatDoor
open Go
def btN (i : Int) (s : ByteArray) : Bt := ⟨[],[(i,s)],[]⟩
def btD (i : Int) : Bt := ⟨[],[],[i]⟩
theorem recs_snoc_small (l : List Bt) (b : Bt) : (recs (l ++ [b])).length <= (recs l).length + (7 * (bE b).length + 12) := by
 rw [recs_snoc_le]
 have := put_length_le (recs l).length (bE b)
 omega
theorem btN_len {i : Int} {s : ByteArray} (h1 : 0 <= i) (h2 : i <= 1099511627776) (hs : s.size <= 100) : (bE (btN i s)).length <= 145 := by
 have a := numL_le (v := i.toNat) (by omega)
 have b := tE_le hs (by omega)
 have c : (numL 0).length <= 9 := numL_le (by omega)
 have d : (numL 1).length <= 9 := numL_le (by omega)
 unfold bE btN aE
 simp only [List.length_append,List.length_nil,List.length_cons,List.flatMap_nil,List.flatMap_cons,Nat.zero_add]
 omega
theorem btN_ok {i : Int} {s : ByteArray} (h1 : 1 <= i) (h2 : i <= 1099511627776) (hs : s.size <= 4096) : (btN i s).ok = true := by
 unfold Bt.ok btN addB
 simp [h1,h2,hs]
theorem btD_ok {i : Int} (h1 : 1 <= i) (h2 : i <= 1099511627776) : (btD i).ok = true := by
 unfold Bt.ok btD dropB
 simp [h1,h2]
structure NB (s : St) (hi : Int) (n : Nat) : Prop where
 tb : s.tb = []
 ok : NOk s.nt
 len : s.nt.length = n
 low : ∀ x ∈ s.nt,x.1 <= hi
theorem NB.new : NB St.new 0 0 := ⟨rfl,NOk.nil,rfl,fun x hx => (by cases hx)⟩
def btM (t k : ByteArray) (g : Int) : Bt := ⟨[(t,⟨k,g,[]⟩)],[],[]⟩
theorem btM_len {t k : ByteArray} {g : Int} (h1 : 0 <= g) (h2 : g <= 1099511627776) (ht : t.size <= 100) (hk : k.size <= 100) : (bE (btM t k g)).length <= 300 := by
 have a := numL_le (v := g.toNat) (by omega)
 have b := tE_le ht (by omega)
 have b2 := tE_le hk (by omega)
 have c : (numL 0).length <= 9 := numL_le (by omega)
 have d : (numL 1).length <= 9 := numL_le (by omega)
 have hp : (pE ⟨k,g,[]⟩).length <= 127 := by
  unfold pE
  simp only [List.length_append,List.flatMap_nil,List.length_nil]
  omega
 have e := numL_le (v := (pE ⟨k,g,[]⟩).length) (by omega)
 unfold bE btM mE
 simp only [List.length_append,List.length_nil,List.length_cons,List.flatMap_nil,List.flatMap_cons,Nat.zero_add]
 omega
end Go.Proofs.YtmpcnhpdobdmcaaGreatDoor
namespace Go.Proofs.YtmpcnhpdobdmcaaGreatDoor
open Go Go.RowKit
def arrD (T : Nat -> ByteArray) : Array Value := ((List.range 10).map fun i => Value.string (T i)).toArray
def updD (T : Nat -> ByteArray) (i : Nat) (s : ByteArray) : Nat -> ByteArray := fun j => if j = i then s else T j
theorem arrD_get {T : Nat -> ByteArray} {i : Nat} (h : i < 10) : (arrD T)[i]? = some (.string (T i)) := by
 unfold arrD
 simp [h]
theorem arrD_set (T : Nat -> ByteArray) (i : Nat) (s : ByteArray) : (arrD T).setIfInBounds i (.string s) = arrD (updD T i s) := by
 apply Array.ext'
 unfold arrD updD
 rw [Array.toList_setIfInBounds]
 apply List.ext_getElem?
 intro j
 rw [List.getElem?_set]
 by_cases hij : i = j
 ·subst hij
  by_cases h : i < 10
  ·simp [h]
  ·simp [h]
 ·by_cases h : j < 10
  ·simp [h,hij,Ne.symm hij]
  ·simp [h,hij]
theorem arrD_none : arrD (fun _ => ⟨#[]⟩) = #[.string ⟨#[]⟩,.string ⟨#[]⟩,.string ⟨#[]⟩,.string ⟨#[]⟩,.string ⟨#[]⟩,.string ⟨#[]⟩,.string ⟨#[]⟩,.string ⟨#[]⟩,.string ⟨#[]⟩,.string ⟨#[]⟩] := rfl
def ArrDt (w : World) (q : Nat) (T : Nat -> ByteArray) : Prop := w.heap[q]? = some (.cells (arrD T) 53 (0,0))
section
variable {w w' : World} {q : Nat} {T : Nat -> ByteArray}
theorem ArrDt.lt (h : ArrDt w q T) : q < w.heap.size := (Array.getElem?_eq_some_iff.1 h).1
theorem ArrDt.cell (h : ArrDt w q T) {i : Nat} (hi : i < 10) : w.cell? ⟨q,i,none⟩ = some (.string (T i)) := cell_at h (arrD_get hi)
theorem ArrDt.thaw (h : ArrDt w q T) (i : Nat) : w.frozen? ⟨q,i,none⟩ = false := thawed_at h
theorem ArrDt.set (h : ArrDt w q T) (i : Nat) (s : ByteArray) : ArrDt (w.setCell ⟨q,i,none⟩ (.string s)) q (updD T i s) := by
 unfold ArrDt
 rw [heap_setCell_same w q i _ _ _ h,arrD_set]
theorem ArrDt.kept {F : Nat -> Prop} (h : ArrDt w q T) (hk : Kept F w w') (hn : ¬ F q) : ArrDt w' q T := (hk.block q h.lt hn).trans h
theorem ArrDt.below (h : ArrDt w q T) (hb : Below w.heap.size w w') : ArrDt w' q T := (hb.block q h.lt).trans h
end
theorem empty_bitJ {s : ByteArray} {u : Bool} (h : u = true ↔ s ≠ ⟨#[]⟩) : (s.toList == []) = !u /\ (s.toList != []) = u := by
 by_cases hs : s = ⟨#[]⟩
 ·have hu : u = false := by
   cases u with
   | false => rfl
   | true => exact absurd hs (h.1 rfl)
  subst hu
  subst hs
  rw [Lib.toList_data]
  exact ⟨rfl,rfl⟩
 ·have hu : u = true := h.2 hs
  subst hu
  have hn : s.toList ≠ [] := by
   rw [Lib.toList_data]
   intro he
   exact hs (by obtain ⟨⟨l⟩⟩ := s; simp at he; subst he; rfl)
  exact ⟨by simpa using hn,by simpa using hn⟩
structure LastJ (S : Fl) (T : Nat -> ByteArray) : Prop where
 ok : NOk S
 get : ∀ i : Nat,1 <= i -> i < 10 -> getF S (i : Int) = T i
 has : ∀ i : Nat,1 <= i -> i < 10 -> (hasF S (i : Int) = true ↔ T i ≠ ⟨#[]⟩)
 low : ∀ x ∈ S,x.1 <= 9
theorem LastJ.start : LastJ [] (fun _ => ⟨#[]⟩) := ⟨NOk.nil,fun i _ _ => rfl,fun i _ _ => by simp [hasF],fun x hx => (by cases hx)⟩
theorem up_geJ {S : Fl} (hu : Up S) (hw : ∀ x ∈ S,1 <= x.1) : ∀ i (h : i < S.length),((i : Int) + 1) <= S[i].1
 | 0,h => by have := hw _ (List.getElem_mem h); omega
 | i + 1,h => by
   have h1 := up_geJ hu hw i (by omega)
   have h2 := List.pairwise_iff_getElem.1 hu i (i + 1) (by omega) h (by omega)
   omega
theorem LastJ.few {S : Fl} {T : Nat -> ByteArray} (h : LastJ S T) : S.length <= 9 := by
 rcases Nat.eq_zero_or_pos S.length with h0 | h0
 ·omega
 ·have h1 := up_geJ h.ok.up (fun x hx => (h.ok.wf x hx).1) (S.length - 1) (by omega)
  have h2 := h.low _ (List.getElem_mem (show S.length - 1 < S.length by omega))
  omega
theorem LastJ.add {S : Fl} {T : Nat -> ByteArray} (h : LastJ S T) {i : Nat} (h1 : 1 <= i) (h2 : i < 10) {s : ByteArray} (hs : s.size = 1) : addN S (i : Int) s = (putN S (i : Int) s,true) := by
 unfold addN
 rw [if_neg]
 have := h.few
 unfold BadN
 rintro (h | h | h | h)
 ·omega
 ·omega
 ·omega
 ·omega
theorem LastJ.put {S : Fl} {T : Nat -> ByteArray} (h : LastJ S T) {i : Nat} (h1 : 1 <= i) (h2 : i < 10) {s : ByteArray} (hs : s.size = 1) : LastJ (putN S (i : Int) s) (updD T i s) := by
 have ha := h.add h1 h2 hs
 have hok := h.ok.add (i : Int) s
 rw [ha] at hok
 refine ⟨hok,fun j hj1 hj2 => ?_,fun j hj1 hj2 => ?_,fun x hx => ?_⟩
 ·rw [getF_put h.ok.up]
  unfold updD
  by_cases e : j = i
  ·subst e; rw [if_pos rfl,if_pos rfl]
  ·rw [if_neg (by omega),if_neg e]; exact h.get j hj1 hj2
 ·rw [hasF_put h.ok.up]
  unfold updD
  by_cases e : j = i
  ·subst e
   rw [if_pos rfl]
   simp
   intro hn
   rw [hn] at hs
   cases hs
  ·rw [if_neg e,<- h.has j hj1 hj2]
   have : ((i : Int) == (j : Int)) = false := by simp; omega
   rw [this,Bool.false_or]
 ·unfold putN at hx
  split at hx
  ·unfold setF at hx
   rcases List.mem_or_eq_of_mem_set hx with h4 | h4
   ·exact h.low x h4
   ·rw [h4]; show (i : Int) <= 9; omega
  ·rcases mem_insF hx with h4 | h4
   ·rw [h4]; show (i : Int) <= 9; omega
   ·exact h.low x h4
theorem LastJ.del {S : Fl} {T : Nat -> ByteArray} (h : LastJ S T) {i : Nat} (h1 : 1 <= i) (h2 : i < 10) : LastJ (delF S (i : Int)) (updD T i ⟨#[]⟩) := by
 refine ⟨h.ok.del _,fun j hj1 hj2 => ?_,fun j hj1 hj2 => ?_,fun x hx => h.low x (mem_delF hx)⟩
 ·unfold updD
  by_cases e : j = i
  ·subst e
   rw [if_pos rfl]
   exact getF_none (by rw [hasF_dels]; simp)
  ·rw [if_neg e,getF_dels S (by omega)]; exact h.get j hj1 hj2
 ·unfold updD
  rw [hasF_dels]
  by_cases e : j = i
  ·subst e
   rw [if_pos rfl]
   simp
  ·rw [if_neg e,<- h.has j hj1 hj2]
   have : ((j : Int) == (i : Int)) = false := by simp; omega
   rw [this]
   simp
theorem idx_stepJ {S : Fl} (hu : Up S) (n : Int) (h : hasF S n = true) : ∃ hl : idxF S n < S.length,S[idxF S n].1 = n /\ S[idxF S n].2 = getF S n /\ idxF S (n + 1) = idxF S n + 1 := by
 obtain ⟨hl,he⟩ := (hasF_iff hu n).1 h
 refine ⟨hl,he,(getF_at hl he).symm,idxF_eq (by omega) (fun j hj => ?_) (fun hk => ?_)⟩
 ·rcases Nat.lt_or_ge j (idxF S n) with h1 | h1
  ·have := idxF_lt h1; omega
  ·obtain rfl : j = idxF S n := by omega
   omega
 ·have := List.pairwise_iff_getElem.1 hu (idxF S n) (idxF S n + 1) hl hk (by omega)
  omega
theorem idx_stayJ {S : Fl} (hu : Up S) (n : Int) (h : hasF S n = false) : idxF S (n + 1) = idxF S n := by
 refine idxF_eq (idxF_le S n) (fun j hj => ?_) (fun hk => ?_)
 ·have := idxF_lt hj; omega
 ·have h1 := idxF_ge hk
  have h2 := hasF_false h _ (List.getElem_mem hk)
  omega
theorem LastJ.all {S : Fl} {T : Nat -> ByteArray} (h : LastJ S T) : idxF S 10 = S.length :=
 idxF_eq (Nat.le_refl _) (fun j hj => by have := h.low _ (List.getElem_mem hj); omega) (fun hk => absurd hk (Nat.lt_irrefl _))
theorem LastJ.none {S : Fl} {T : Nat -> ByteArray} (h : LastJ S T) : idxF S 1 = 0 :=
 idxF_eq (Nat.zero_le _) (fun j hj => absurd hj (Nat.not_lt_zero _)) (fun hk => (h.ok.wf _ (List.getElem_mem hk)).1)
theorem LastJ.app_add {s : St} {T : Nat -> ByteArray} (ht : s.tb = []) (h : LastJ s.nt T) {i : Nat} (h1 : 1 <= i) (h2 : i < 10) {t : ByteArray} (hz : t.size = 1) :
    s.Fits (btN (i : Int) t) /\ (s.app (btN (i : Int) t)).tb = [] /\ LastJ (s.app (btN (i : Int) t)).nt (updD T i t) := by
 have ha := h.add h1 h2 hz
 have happ : s.app (btN (i : Int) t) = ⟨[],putN s.nt i t⟩ := by
  unfold St.app btN addsN dropsN
  simp only [List.foldl_cons,List.foldl_nil]
  rw [ht,ha]
 refine ⟨⟨btN_ok (by omega) (by omega) (by omega),?_,(by rw [happ]; intro T hT; cases hT),by rw [happ]; simp⟩,by rw [happ],by rw [happ]; exact h.put h1 h2 hz⟩
 unfold btN dropsN fitN
 simp only [List.foldl_nil]
 rw [ha]
 rfl
theorem LastJ.app_drop {s : St} {T : Nat -> ByteArray} (ht : s.tb = []) (h : LastJ s.nt T) {i : Nat} (h1 : 1 <= i) (h2 : i < 10) :
    s.Fits (btD (i : Int)) /\ (s.app (btD (i : Int))).tb = [] /\ LastJ (s.app (btD (i : Int))).nt (updD T i ⟨#[]⟩) := by
 have happ : s.app (btD (i : Int)) = ⟨[],delF s.nt i⟩ := by
  unfold St.app btD addsN dropsN
  simp only [List.foldl_cons,List.foldl_nil]
  rw [ht]
 refine ⟨⟨btD_ok (by omega) (by omega),rfl,(by rw [happ]; intro T hT; cases hT),by rw [happ]; simp⟩,by rw [happ],by rw [happ]; exact h.del h1 h2⟩
theorem btD_len {i : Int} (h1 : 0 <= i) (h2 : i <= 1099511627776) : (bE (btD i)).length <= 145 := by
 have a := numL_le (v := i.toNat) (by omega)
 have c : (numL 0).length <= 9 := numL_le (by omega)
 have d : (numL 1).length <= 9 := numL_le (by omega)
 unfold bE btD
 simp only [List.length_append,List.length_nil,List.length_cons,List.flatMap_nil,List.flatMap_cons,Nat.zero_add]
 omega
theorem sum_le {l : List Nat} {b : Nat} (h : ∀ x ∈ l,x <= b) : l.sum <= l.length * b := by
 induction l with
 | nil => simp
 | cons x r ih =>
   have h1 := h x (List.mem_cons_self ..)
   have h2 := ih fun y hy => h y (List.mem_cons_of_mem _ hy)
   rw [List.sum_cons,List.length_cons,Nat.add_mul]
   omega
end Go.Proofs.YtmpcnhpdobdmcaaGreatDoor
