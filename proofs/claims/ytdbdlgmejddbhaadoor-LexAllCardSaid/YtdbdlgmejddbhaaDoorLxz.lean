/-
  The document's own reader: one token.
-/
import Derived.Test.YtdbdlgmejddbhaaDoorLxy
import Derived.RegionTactic
import Derived.ChangeAlike
import Derived.BigRegion
import Derived.Laws.IdiomStrings
import Derived.Lib.SmallJoins
set_option linter.unusedVariables false
namespace Go.Proofs.YtdbdlgmejddbhaaDoor
open Go Go.RowKit Go.Proofs

theorem tok_word {l : List UInt8} (h : ltrC (Lib.decodeL l) = true) : tok l = wordTok l := by
  have h' := h
  unfold ltrC letterB at h
  simp only [Bool.or_eq_true, Bool.and_eq_true, decide_eq_true_eq, beq_iff_eq] at h
  have hd : dgtC (Lib.decodeL l) = false := by
    unfold dgtC
    rw [Bool.and_eq_false_iff, decide_eq_false_iff_not, decide_eq_false_iff_not]
    omega
  unfold tok
  rw [if_neg (by omega), if_neg (by rw [hd]; simp; omega), if_pos h']
theorem pword_out {B q I0 p0 : Nat} {s : ByteArray} {v : Value} (w : World) (h : PSt B w q s v I0 p0) (hs : s.size ≤ 1000) (hl : ltrC (Lib.decodeL (s.data.toList.drop p0)) = true) :
    Calls Tryd.prog 31 #[.pointer (some ⟨q, 0, none⟩)] w fun e w' => POut B q s v I0 p0 (tok (s.data.toList.drop p0)) w e w' := by
  rw [tok_word hl]
  refine (pword_any w h hs hl).mono ?_
  rintro e w' ⟨rfl, I, p, hP, hK, hx, hlt⟩
  unfold wordTok
  refine ⟨_, _, _, _, _, I, p, rfl, hP, hK, fun h1 => ?_, fun h1 => ?_, fun _ => hlt⟩
  · exact ⟨_, if_pos (of_decide_eq_true h1), rfl, rfl, rfl, rfl, hx⟩
  · exact if_neg (of_decide_eq_false h1)

end Go.Proofs.YtdbdlgmejddbhaaDoor
