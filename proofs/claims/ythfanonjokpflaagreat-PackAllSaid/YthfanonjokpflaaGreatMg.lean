/-
  Lists by key, merged (plain, of whatever is joined by key: rows in a partition, and what comes later). GENERAL.
-/
import Derived.Test.YthfanonjokpflaaGreatRo
set_option linter.unusedVariables false
namespace Go.Proofs.YthfanonjokpflaaGreat
open Go Go.RowKit

/-- What is joined by its key. -/
structure JK {α : Type} (key : α → ByteArray) (jn : α → α → α) (Good : α → Prop) : Prop where
  key_ : ∀ x y, key x = key y → key (jn x y) = key x
  good : ∀ {x y}, Good x → Good y → key x = key y → Good (jn x y)
  comm : ∀ {x y}, Good x → Good y → key x = key y → jn x y = jn y x
  assoc : ∀ {x y z}, Good x → Good y → Good z → key x = key y → key y = key z → jn (jn x y) z = jn x (jn y z)
  self : ∀ {x}, Good x → jn x x = x

section
variable {α : Type} (key : α → ByteArray) (jn : α → α → α)
/-- Keys rise. -/
def RiseK : List α → Prop
  | [] => True
  | x :: l => (∀ y ∈ l, nlt (key x) (key y)) ∧ RiseK l
/-- One, joined, in its place. -/
def putK : List α → α → List α
  | [], c => [c]
  | x :: l, c => if nlt (key x) (key c) then x :: putK l c else if key x = key c then jn x c :: l else c :: x :: l
def mrgK (l k : List α) : List α := k.foldl (putK key jn) l
end

section
variable {α : Type} {key : α → ByteArray} {jn : α → α → α} {Good : α → Prop}

theorem putK_all {p : α → Prop} {c : α} (hj : ∀ x, key x = key c → p x → p (jn x c)) (hc : p c) : ∀ {l : List α}, (∀ x ∈ l, p x) → ∀ x ∈ putK key jn l c, p x
  | [], _, x, hx => by rw [List.mem_singleton.1 hx]; exact hc
  | y :: l, h, x, hx => by
    have h1 := h y (List.mem_cons_self ..)
    have h2 : ∀ z ∈ l, p z := fun z hz => h z (List.mem_cons_of_mem _ hz)
    unfold putK at hx
    split at hx
    · rcases List.mem_cons.1 hx with rfl | hx
      · exact h1
      · exact putK_all hj hc h2 x hx
    · split at hx
      · rename_i he
        rcases List.mem_cons.1 hx with rfl | hx
        · exact hj y he h1
        · exact h2 x hx
      · rcases List.mem_cons.1 hx with rfl | hx
        · exact hc
        · exact h x hx
theorem putK_rise (hk : ∀ x y, key x = key y → key (jn x y) = key x) : ∀ {l : List α} (c : α), RiseK key l → RiseK key (putK key jn l c)
  | [], c, _ => ⟨(fun x hx => by cases hx), trivial⟩
  | x :: l, c, h => by
    unfold putK
    split
    · rename_i h1
      exact ⟨putK_all (p := fun z => nlt (key x) (key z)) (fun z hz hp => by rw [hk z c hz]; exact hp) h1 h.1, putK_rise hk c h.2⟩
    · rename_i h1
      split
      · rename_i h2
        refine ⟨?_, h.2⟩
        rw [hk x c h2]
        exact h.1
      · rename_i h2
        have h3 : nlt (key c) (key x) := ((nlt_or (key x) (key c)).resolve_left h1).resolve_left h2
        refine ⟨fun z hz => ?_, h⟩
        rcases List.mem_cons.1 hz with rfl | hz
        · exact h3
        · exact nlt_tr h3 (h.1 z hz)

theorem mrgK_rise (hk : ∀ x y, key x = key y → key (jn x y) = key x) : ∀ {k l : List α}, RiseK key l → RiseK key (mrgK key jn l k)
  | [], _, h => h
  | x :: k, l, h => mrgK_rise hk (k := k) (putK_rise hk x h)
theorem mrgK_all {p : α → Prop} (hj : ∀ x y, key x = key y → p x → p y → p (jn x y)) : ∀ {k l : List α}, (∀ x ∈ l, p x) → (∀ x ∈ k, p x) → ∀ x ∈ mrgK key jn l k, p x
  | [], _, h, _ => h
  | c :: k, l, h, hk => by
    have hc := hk c (List.mem_cons_self ..)
    exact mrgK_all hj (k := k) (putK_all (fun x hx hp => hj x c hx hp hc) hc h) fun x hx => hk x (List.mem_cons_of_mem _ hx)

def AllK (Good : α → Prop) (l : List α) : Prop := ∀ x ∈ l, Good x
theorem AllK.mrg (J : JK key jn Good) {l k : List α} (hl : AllK Good l) (hk : AllK Good k) : AllK Good (mrgK key jn l k) := mrgK_all (fun x y e hx hy => J.good hx hy e) hl hk

/-! Two lists in order, the next one always put at the end. -/
section
variable (key : α → ByteArray) (jn : α → α → α)
def pushK (M : List α) (x : α) : List α :=
  match M.getLast? with
  | some y => if key y = key x then M.dropLast ++ [jn y x] else M ++ [x]
  | none => [x]
def runK : List α → List α → List α → List α
  | M, [], [] => M
  | M, x :: a, [] => runK (pushK key jn M x) a []
  | M, [], y :: b => runK (pushK key jn M y) [] b
  | M, x :: a, y :: b => if nlt (key y) (key x) then runK (pushK key jn M y) (x :: a) b else runK (pushK key jn M x) a (y :: b)
termination_by _ a b => a.length + b.length
end
theorem pushK_last (M : List α) (y x : α) : pushK key jn (M ++ [y]) x = if key y = key x then M ++ [jn y x] else (M ++ [y]) ++ [x] := by
  unfold pushK
  rw [List.getLast?_concat, List.dropLast_concat]
end
end Go.Proofs.YthfanonjokpflaaGreat
