/-
  Plain words on words, numbers, texts and signs by numbers, with blanks between. No program is named here.
-/
import Derived.Test.YtdbdlgmejddbhaaDoorLxf
set_option linter.unusedVariables false
namespace Go.Proofs.YtdbdlgmejddbhaaDoor
open Go Go.Lib

/-- What the number v lays: its bytes; its kind, text, number. -/
def wdW : Nat → List UInt8 × List UInt8
  | 0 => ([97], [97])
  | 1 => ([83, 101, 108, 101, 99, 116], [115, 101, 108, 101, 99, 116])
  | 2 => ([95, 57, 120], [95, 57, 120])
  | _ => ([84, 84], [116, 116])
def txW : Nat → List UInt8 × List UInt8
  | 0 => ([39, 39], [])
  | 1 => ([39, 97, 39, 39, 98, 39], [97, 39, 98])
  | 2 => ([39, 45, 45, 39], [45, 45])
  | _ => ([39, 65, 32, 98, 39], [65, 32, 98])
def sgW : Nat → UInt8
  | 0 => 40
  | 1 => 41
  | 2 => 44
  | 3 => 59
  | 4 => 61
  | _ => 42
/-- A small number's digits: n less fifty. -/
def small2 (a : Nat) : List UInt8 := if a < 10 then [UInt8.ofNat (48 + a)] else [UInt8.ofNat (48 + a / 10), UInt8.ofNat (48 + a % 10)]
def nuW (n : Nat) : List UInt8 := if n < 50 then 45 :: small2 (50 - n) else small2 (n - 50)
def itW (v : Nat) : List UInt8 := if v % 4 = 0 then (wdW (v / 4 % 4)).1 else if v % 4 = 1 then nuW (v / 4 % 100) else if v % 4 = 2 then (txW (v / 4 % 4)).1 else [sgW (v / 4 % 6)]
def itT (v : Nat) : List UInt8 := if v % 4 = 0 then (wdW (v / 4 % 4)).2 else if v % 4 = 1 then [] else if v % 4 = 2 then (txW (v / 4 % 4)).2 else [sgW (v / 4 % 6)]
def itN (v : Nat) : Int := if v % 4 = 1 then ((v / 4 % 100 : Nat) : Int) - 50 else 0
def spW : Nat → List UInt8
  | 0 => [32]
  | 1 => [10]
  | _ => [32, 9]

/-- That a text is one token, whole, and begins with no blank and no comment. -/
def whole (A T : List UInt8) (k : Nat) (n : Int) : Bool :=
  decide (tok A = some (k, T, n, A.length)) && !blankB (decodeL A).1 && !decide (A.take 2 = [45, 45]) && A.all (fun c => decide (c.toNat < 128)) && !A.isEmpty && !decide (A = [45])
theorem wd_all : ∀ j : Fin 4, whole (wdW j.val).1 (wdW j.val).2 1 0 = true := by decide +kernel
theorem tx_all : ∀ j : Fin 4, whole (txW j.val).1 (txW j.val).2 3 0 = true := by decide +kernel
theorem sg_all : ∀ j : Fin 6, whole [sgW j.val] [sgW j.val] 4 0 = true := by decide +kernel
theorem nu_all : ∀ j : Fin 100, whole (nuW j.val) [] 2 ((j.val : Int) - 50) = true := by decide +kernel
theorem it_whole (v : Nat) : whole (itW v) (itT v) (1 + v % 4) (itN v) = true := by
  unfold itW itT itN
  have h4 : v % 4 = 0 ∨ v % 4 = 1 ∨ v % 4 = 2 ∨ v % 4 = 3 := by omega
  rcases h4 with h | h | h | h
  · rw [h]; exact wd_all ⟨v / 4 % 4, Nat.mod_lt _ (by omega)⟩
  · rw [h]; exact nu_all ⟨v / 4 % 100, Nat.mod_lt _ (by omega)⟩
  · rw [h]; exact tx_all ⟨v / 4 % 4, Nat.mod_lt _ (by omega)⟩
  · rw [h]; exact sg_all ⟨v / 4 % 6, Nat.mod_lt _ (by omega)⟩
theorem sp_bl (j : Nat) : Bl (spW j) (spW j).length := by
  match j with
  | 0 => exact Bl.one 32 (.inl rfl)
  | 1 => exact Bl.one 10 (.inr (.inr (.inl rfl)))
  | _ + 2 => exact (Bl.one 9 (.inr (.inl rfl))).cons 32 (.inl rfl)

theorem lx_item (v j : Nat) (E : List UInt8) (n : Nat) : lx (itW v ++ (spW j ++ E)) n 0 = cons1 (1 + v % 4, itT v, itN v, (itW v).length) n (lx E (n + (itW v).length + (spW j).length) 0) := by
  have hw := it_whole v
  unfold whole at hw
  simp only [Bool.and_eq_true, decide_eq_true_eq, Bool.not_eq_true', decide_eq_false_iff_not, List.all_eq_true, List.isEmpty_eq_false_iff] at hw
  obtain ⟨⟨⟨⟨⟨h1, h2⟩, h3⟩, h4⟩, h5⟩, h6⟩ := hw
  obtain ⟨s1, s2, s3⟩ := sp_bl j
  have hZ : HeadBl (spW j ++ E) := by obtain ⟨y, r, hy, hy2⟩ := s1; exact ⟨y, r ++ E, by rw [hy]; rfl, hy2⟩
  have ht : tok (itW v ++ (spW j ++ E)) = some (1 + v % 4, itT v, itN v, (itW v).length) :=
    tok_stay (X := []) h5 HeadNC.nil hZ (by rw [List.append_nil]; exact h1) (Nat.le_refl _)
  rw [lx_whole n h4 ?_ ?_ ht rfl h5, s3]
  · rw [dec_pre h5 hZ.nc]
    exact h2
  · match hA : itW v, h5 with
    | [a], _ =>
      intro hq
      obtain ⟨y, r, hy, hy2⟩ := hZ
      rw [hy] at hq
      simp only [List.cons_append, List.nil_append, List.take_succ_cons, List.take_zero, List.cons.injEq, and_true] at hq
      rw [hq.2] at hy2
      revert hy2
      decide
    | a :: b :: r, _ =>
      rw [hA] at h3
      exact h3

/-- The bytes of so many; their tokens. -/
def itB (v : Nat) : List UInt8 := itW v ++ spW (v / 100 % 3)
def itsB (l : List Nat) : List UInt8 := l.flatMap itB
def itsL : Nat → List Nat → List Tk4
  | _, [] => []
  | n, v :: l => (1 + v % 4, itT v, itN v, n) :: itsL (n + (itB v).length) l
theorem lx_its : ∀ (l : List Nat) (n : Nat), lx (itsB l) n 0 = .ok (itsL n l)
  | [], n => rfl
  | v :: l, n => by
    have e : itsB (v :: l) = itW v ++ (spW (v / 100 % 3) ++ itsB l) := by simp [itsB, itB]
    rw [e, lx_item, show n + (itW v).length + (spW (v / 100 % 3)).length = n + (itB v).length from by rw [itB, List.length_append]; omega, lx_its l]
    rfl
theorem itB_len (v : Nat) : (itB v).length ≤ 8 := by
  have h1 : (itW v).length ≤ 6 := by
    have a1 : ∀ j : Fin 4, (wdW j.val).1.length ≤ 6 := by decide
    have a2 : ∀ j : Fin 100, (nuW j.val).length ≤ 6 := by decide +kernel
    have a3 : ∀ j : Fin 4, (txW j.val).1.length ≤ 6 := by decide
    unfold itW
    split
    · exact a1 ⟨v / 4 % 4, Nat.mod_lt _ (by omega)⟩
    · split
      · exact a2 ⟨v / 4 % 100, Nat.mod_lt _ (by omega)⟩
      · split
        · exact a3 ⟨v / 4 % 4, Nat.mod_lt _ (by omega)⟩
        · simp
  have h2 : (spW (v / 100 % 3)).length ≤ 2 := by
    have a4 : ∀ j : Fin 3, (spW j.val).length ≤ 2 := by decide
    exact a4 ⟨v / 100 % 3, Nat.mod_lt _ (by omega)⟩
  rw [itB, List.length_append]
  omega
theorem itsB_snoc (l : List Nat) (v : Nat) : itsB (l ++ [v]) = itsB l ++ itB v := by simp [itsB]
theorem itsL_snoc : ∀ (l : List Nat) (n v : Nat), itsL n (l ++ [v]) = itsL n l ++ [(1 + v % 4, itT v, itN v, n + (itsB l).length)]
  | [], n, v => by simp [itsL, itsB]
  | u :: l, n, v => by
    rw [List.cons_append]
    simp only [itsL]
    rw [itsL_snoc l]
    simp [itsB]
    omega
theorem itsL_length : ∀ (l : List Nat) (n : Nat), (itsL n l).length = l.length
  | [], n => rfl
  | v :: l, n => by simp [itsL, itsL_length l]
theorem itsB_len (l : List Nat) : (itsB l).length ≤ 8 * l.length := by
  induction l with
  | nil => simp [itsB]
  | cons v l ih =>
    have e : itsB (v :: l) = itB v ++ itsB l := by simp [itsB]
    have := itB_len v
    rw [e, List.length_append, List.length_cons]
    omega
end Go.Proofs.YtdbdlgmejddbhaaDoor
