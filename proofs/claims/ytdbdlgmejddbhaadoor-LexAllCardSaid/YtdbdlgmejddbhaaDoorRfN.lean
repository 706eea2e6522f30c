/-
  Contracts of the document's own answers of layer 1: Name, Fold, Quote, Unquote.
-/
import Derived.Test.YtdbdlgmejddbhaaDoorRfL
set_option linter.unusedVariables false
namespace Go.Proofs.YtdbdlgmejddbhaaDoor
open Go Go.RowKit

theorem cpsF_bound (s : ByteArray) : ∀ f p c, c ∈ cpsF s f p → c.1 ≤ 2147483647 ∧ c.2.1 < s.size
  | 0, p, c, h => by simp [cpsF] at h
  | f + 1, p, c, h => by
    unfold cpsF at h
    by_cases hp : p < s.size
    · rw [if_pos hp] at h
      rcases List.mem_cons.1 h with h | h
      · rw [h]; exact ⟨decode_le s p, hp⟩
      · exact cpsF_bound s f _ c h
    · rw [if_neg hp] at h; cases h

theorem cpsF_pos (s : ByteArray) : ∀ f p k c, (cpsF s f p)[k]? = some c → p + k ≤ c.2.1 ∧ (k = 0 → c.2.1 = p)
  | 0, p, k, c, h => by simp [cpsF] at h
  | f + 1, p, k, c, h => by
    unfold cpsF at h
    by_cases hp : p < s.size
    · rw [if_pos hp] at h
      have hw := width_pos s p hp
      cases k with
      | zero => simp at h; subst h; simp
      | succ k =>
        have := cpsF_pos s f (p + (Utf8.decode s p).2) k c (by simpa using h)
        omega
    · rw [if_neg hp] at h; simp at h

end Go.Proofs.YtdbdlgmejddbhaaDoor
