import Derived.Test.YtmpcnhpdobdmcaaGreatDoorLawTornL
import Derived.Test.YtmpcnhpdobdmcaaGreatDoorLawTornP
set_option linter.unusedVariables false
set_option linter.unusedSimpArgs false
namespace Go.Proofs.YtmpcnhpdobdmcaaGreatDoor
open Go
def btN (i : Int) (s : ByteArray) : Bt := ⟨[],[(i,s)],[]⟩
theorem recs_snoc_small (l : List Bt) (b : Bt) : (recs (l ++ [b])).length <= (recs l).length + (7 * (bE b).length + 12) := by
 rw [recs_snoc_le]
 have := put_length_le (recs l).length (bE b)
 omega
theorem btN_len {i : Int} {s : ByteArray} (h1 : 0 <= i) (h2 : i <= 1099511627776) (hs : s.size <= 100) : (bE (btN i s)).length <= 145 := by
 have a := numL_le (v := i.toNat) (by omega)
 have b := tE_le hs (by omega)
 have c : (numL 0).length <= 9 := numL_le (by omega)
 have d : (numL 1).length <= 9 := numL_le (by omega)
 unfold bE btN aE
 simp only [List.length_append,List.length_nil,List.length_cons,List.flatMap_nil,List.flatMap_cons,Nat.zero_add]
 omega
theorem btN_ok {i : Int} {s : ByteArray} (h1 : 1 <= i) (h2 : i <= 1099511627776) (hs : s.size <= 4096) : (btN i s).ok = true := by
 unfold Bt.ok btN addB
 simp [h1,h2,hs]
structure NB (s : St) (hi : Int) (n : Nat) : Prop where
 tb : s.tb = []
 ok : NOk s.nt
 len : s.nt.length = n
 low : ∀ x ∈ s.nt,x.1 <= hi
theorem NB.new : NB St.new 0 0 := ⟨rfl,NOk.nil,rfl,fun x hx => (by cases hx)⟩
theorem hasF_hi {S : Fl} {hi i : Int} (h : ∀ x ∈ S,x.1 <= hi) (hi2 : hi < i) : hasF S i = false := by
 unfold hasF
 rw [List.any_eq_false]
 intro x hx
 have := h x hx
 simp
 omega
theorem NB.add {s : St} {hi : Int} {n : Nat} (h : NB s hi n) {i : Int} {t : ByteArray} (h1 : hi < i) (h0 : 0 <= hi) (h2 : i <= 1099511627776) (ht : t.size <= 4096) (hn : n < 300) :
    s.Fits (btN i t) /\ NB (s.app (btN i t)) i (n + 1) := by
 have hf := hasF_hi h.low h1
 have hbad : ¬ BadN s.nt i t := by
  unfold BadN
  rw [h.len]
  rintro (h | h | h | h)
  ·omega
  ·omega
  ·omega
  ·omega
 have ha : addN s.nt i t = (putN s.nt i t,true) := by unfold addN; rw [if_neg hbad]
 have hok := h.ok.put hbad
 have hp : putN s.nt i t = insF s.nt i t := by unfold putN; rw [if_neg (by rw [hf]; decide)]
 have happ : s.app (btN i t) = ⟨[],putN s.nt i t⟩ := by
  unfold St.app btN addsN dropsN
  simp only [List.foldl_cons,List.foldl_nil]
  rw [h.tb,ha]
 have happ2 : (s.app (btN i t)).nt = putN s.nt i t := by rw [happ]
 have happ1 : (s.app (btN i t)).tb = [] := by rw [happ]
 refine ⟨⟨btN_ok (by omega) h2 ht,?_,(by rw [happ1]; intro T hT; cases hT),by rw [happ1]; simp⟩,happ1,by rw [happ2]; exact hok,?_,?_⟩
 ·unfold btN dropsN fitN
  simp only [List.foldl_nil]
  rw [ha]
  rfl
 ·rw [happ2,hp,insF_length,h.len]
 ·rw [happ2,hp]
  intro x hx
  rcases mem_insF hx with h4 | h4
  ·rw [h4]; exact Int.le_refl _
  ·have := h.low x h4; omega
def btM (t k : ByteArray) (g : Int) : Bt := ⟨[(t,⟨k,g,[]⟩)],[],[]⟩
theorem btM_len {t k : ByteArray} {g : Int} (h1 : 0 <= g) (h2 : g <= 1099511627776) (ht : t.size <= 100) (hk : k.size <= 100) : (bE (btM t k g)).length <= 300 := by
 have a := numL_le (v := g.toNat) (by omega)
 have b := tE_le ht (by omega)
 have b2 := tE_le hk (by omega)
 have c : (numL 0).length <= 9 := numL_le (by omega)
 have d : (numL 1).length <= 9 := numL_le (by omega)
 have hp : (pE ⟨k,g,[]⟩).length <= 127 := by
  unfold pE
  simp only [List.length_append,List.flatMap_nil,List.length_nil]
  omega
 have e := numL_le (v := (pE ⟨k,g,[]⟩).length) (by omega)
 unfold bE btM mE
 simp only [List.length_append,List.length_nil,List.length_cons,List.flatMap_nil,List.flatMap_cons,Nat.zero_add]
 omega
end Go.Proofs.YtmpcnhpdobdmcaaGreatDoor
