/-
  Lists by key, merged (plain, of whatever is joined by key: rows in a partition, and what comes later). GENERAL.
-/
import Derived.Test.YtafbbojfifcncaaRo
set_option linter.unusedVariables false
namespace Go.Proofs.Ytafbbojfifcncaa
open Go Go.RowKit

/-- What is joined by its key. -/
structure JK {α : Type} (key : α → ByteArray) (jn : α → α → α) (Good : α → Prop) : Prop where
  key_ : ∀ x y, key x = key y → key (jn x y) = key x
  good : ∀ {x y}, Good x → Good y → key x = key y → Good (jn x y)
  comm : ∀ {x y}, Good x → Good y → key x = key y → jn x y = jn y x
  assoc : ∀ {x y z}, Good x → Good y → Good z → key x = key y → key y = key z → jn (jn x y) z = jn x (jn y z)
  self : ∀ {x}, Good x → jn x x = x

section
variable {α : Type} (key : α → ByteArray) (jn : α → α → α)
/-- Keys rise. -/
def RiseK : List α → Prop
  | [] => True
  | x :: l => (∀ y ∈ l, nlt (key x) (key y)) ∧ RiseK l
def getK : List α → ByteArray → Option α
  | [], _ => none
  | x :: l, n => if key x = n then some x else getK l n
def joinO : Option α → Option α → Option α
  | none, y => y
  | some x, none => some x
  | some x, some y => some (jn x y)
/-- One, joined, in its place. -/
def putK : List α → α → List α
  | [], c => [c]
  | x :: l, c => if nlt (key x) (key c) then x :: putK l c else if key x = key c then jn x c :: l else c :: x :: l
def mrgK (l k : List α) : List α := k.foldl (putK key jn) l
end

section
variable {α : Type} {key : α → ByteArray} {jn : α → α → α} {Good : α → Prop}
theorem getK_head (x : α) (l : List α) : getK key (x :: l) (key x) = some x := if_pos rfl
theorem getK_next {x : α} {n : ByteArray} (l : List α) (h : key x ≠ n) : getK key (x :: l) n = getK key l n := if_neg h
theorem getK_none : ∀ {l : List α} {n : ByteArray}, (∀ x ∈ l, key x ≠ n) → getK key l n = none
  | [], _, _ => rfl
  | x :: l, n, h => by
    rw [getK_next l (h x (List.mem_cons_self ..))]
    exact getK_none fun y hy => h y (List.mem_cons_of_mem _ hy)
theorem getK_low {l : List α} {n : ByteArray} (h : ∀ x ∈ l, nlt n (key x)) : getK key l n = none := getK_none fun x hx => (nlt_ne (h x hx)).symm
theorem getK_some : ∀ {l : List α} {n : ByteArray} {x : α}, getK key l n = some x → x ∈ l ∧ key x = n
  | y :: l, n, x, h => by
    by_cases hy : key y = n
    · rw [show getK key (y :: l) n = some y from if_pos hy] at h
      injection h with h
      subst h
      exact ⟨List.mem_cons_self .., hy⟩
    · rw [getK_next l hy] at h
      have h1 := getK_some h
      exact ⟨List.mem_cons_of_mem _ h1.1, h1.2⟩
theorem getK_mem : ∀ {l : List α}, RiseK key l → ∀ {x : α}, x ∈ l → getK key l (key x) = some x
  | y :: l, hr, x, hx => by
    rcases List.mem_cons.1 hx with rfl | h
    · exact getK_head _ _
    · rw [getK_next l (nlt_ne (hr.1 x h)), getK_mem hr.2 h]
/-- Lists that tell alike are alike. -/
theorem listK_ext : ∀ {l k : List α}, RiseK key l → RiseK key k → (∀ n, getK key l n = getK key k n) → l = k
  | [], [], _, _, _ => rfl
  | [], y :: k, _, _, h => by
    have := h (key y)
    rw [getK_head] at this
    cases this
  | x :: l, [], _, _, h => by
    have := h (key x)
    rw [getK_head] at this
    cases this
  | x :: l, y :: k, rl, rk, h => by
    have above : ∀ {u : α} {z : List α} {n : ByteArray}, nlt n (key u) → (∀ v ∈ z, nlt (key u) (key v)) → getK key (u :: z) n = none := fun {u z n} hu hz => getK_low fun v hv => by
      rcases List.mem_cons.1 hv with rfl | hv
      · exact hu
      · exact nlt_tr hu (hz v hv)
    rcases nlt_or (key x) (key y) with h1 | h1 | h1
    · have h2 := h (key x)
      rw [getK_head, above h1 rk.1] at h2
      cases h2
    · have h2 := h (key x)
      rw [getK_head, h1, getK_head] at h2
      injection h2 with h2
      subst h2
      congr 1
      refine listK_ext rl.2 rk.2 fun n => ?_
      by_cases hn : key x = n
      · subst hn
        rw [getK_low rl.1, getK_low rk.1]
      · have h3 := h n
        rwa [getK_next _ hn, getK_next _ hn] at h3
    · have h2 := h (key y)
      rw [getK_head, above h1 rl.1] at h2
      cases h2

theorem putK_all {p : α → Prop} {c : α} (hj : ∀ x, key x = key c → p x → p (jn x c)) (hc : p c) : ∀ {l : List α}, (∀ x ∈ l, p x) → ∀ x ∈ putK key jn l c, p x
  | [], _, x, hx => by rw [List.mem_singleton.1 hx]; exact hc
  | y :: l, h, x, hx => by
    have h1 := h y (List.mem_cons_self ..)
    have h2 : ∀ z ∈ l, p z := fun z hz => h z (List.mem_cons_of_mem _ hz)
    unfold putK at hx
    split at hx
    · rcases List.mem_cons.1 hx with rfl | hx
      · exact h1
      · exact putK_all hj hc h2 x hx
    · split at hx
      · rename_i he
        rcases List.mem_cons.1 hx with rfl | hx
        · exact hj y he h1
        · exact h2 x hx
      · rcases List.mem_cons.1 hx with rfl | hx
        · exact hc
        · exact h x hx
theorem putK_rise (hk : ∀ x y, key x = key y → key (jn x y) = key x) : ∀ {l : List α} (c : α), RiseK key l → RiseK key (putK key jn l c)
  | [], c, _ => ⟨(fun x hx => by cases hx), trivial⟩
  | x :: l, c, h => by
    unfold putK
    split
    · rename_i h1
      exact ⟨putK_all (p := fun z => nlt (key x) (key z)) (fun z hz hp => by rw [hk z c hz]; exact hp) h1 h.1, putK_rise hk c h.2⟩
    · rename_i h1
      split
      · rename_i h2
        refine ⟨?_, h.2⟩
        rw [hk x c h2]
        exact h.1
      · rename_i h2
        have h3 : nlt (key c) (key x) := ((nlt_or (key x) (key c)).resolve_left h1).resolve_left h2
        refine ⟨fun z hz => ?_, h⟩
        rcases List.mem_cons.1 hz with rfl | hz
        · exact h3
        · exact nlt_tr h3 (h.1 z hz)
theorem getK_put (hk : ∀ x y, key x = key y → key (jn x y) = key x) : ∀ {l : List α} (c : α), RiseK key l → ∀ m, getK key (putK key jn l c) m = if key c = m then joinO jn (getK key l m) (some c) else getK key l m
  | [], c, _, m => rfl
  | x :: l, c, h, m => by
    unfold putK
    split
    · rename_i h1
      have hxc : key x ≠ key c := nlt_ne h1
      by_cases hxm : key x = m
      · subst hxm
        rw [getK_head, if_neg (Ne.symm hxc), getK_head]
      · rw [getK_next _ hxm, getK_put hk c h.2 m, getK_next _ hxm]
    · rename_i h1
      split
      · rename_i h2
        by_cases hxm : key x = m
        · subst hxm
          rw [if_pos h2.symm, getK_head, show getK key (jn x c :: l) (key x) = some (jn x c) from if_pos (hk x c h2)]
          rfl
        · rw [getK_next _ hxm, if_neg (fun e => hxm (h2.trans e)), getK_next _ (by rw [hk x c h2]; exact hxm)]
      · rename_i h2
        have h3 : nlt (key c) (key x) := ((nlt_or (key x) (key c)).resolve_left h1).resolve_left h2
        by_cases hcm : key c = m
        · subst hcm
          rw [getK_head, if_pos rfl, getK_low fun z hz => ?_]
          · rfl
          · rcases List.mem_cons.1 hz with rfl | hz
            · exact h3
            · exact nlt_tr h3 (h.1 z hz)
        · rw [getK_next _ hcm, if_neg hcm]
theorem putK_length : ∀ (l : List α) (c : α), (putK key jn l c).length ≤ l.length + 1
  | [], _ => Nat.le_refl _
  | x :: l, c => by
    unfold putK
    split
    · have := putK_length l c; simp; omega
    · split <;> simp
/-- Where it is put: behind all that lie ahead of it. -/
theorem putK_at : ∀ (l : List α) (c : α) (k : Nat) (hk : k ≤ l.length), (∀ j (hj : j < l.length), j < k → nlt (key l[j]) (key c)) → (∀ hk : k < l.length, ¬ nlt (key l[k]) (key c)) →
    putK key jn l c = l.take k ++ (if h : k < l.length then (if key l[k] = key c then jn l[k] c :: l.drop (k + 1) else c :: l.drop k) else [c])
  | [], c, k, hk, _, _ => by
    obtain rfl : k = 0 := by simpa using hk
    rfl
  | x :: l, c, 0, _, _, h0 => by
    have h1 : ¬ nlt (key x) (key c) := h0 (by simp)
    unfold putK
    rw [if_neg h1]
    simp only [List.take_zero, List.nil_append, List.length_cons, Nat.zero_lt_succ, dif_pos, List.getElem_cons_zero, List.drop_zero]
    rfl
  | x :: l, c, k + 1, hk, h, h0 => by
    have h1 : nlt (key x) (key c) := h 0 (by simp) (by omega)
    have ih := putK_at l c k (by simpa using hk) (fun j hj hjk => h (j + 1) (by simpa using hj) (by omega)) (fun hk => h0 (by simpa using hk))
    unfold putK
    rw [if_pos h1, ih]
    simp

theorem mrgK_snoc (l k : List α) (x : α) : mrgK key jn l (k ++ [x]) = putK key jn (mrgK key jn l k) x := by
  unfold mrgK
  rw [List.foldl_append]
  rfl
theorem mrgK_rise (hk : ∀ x y, key x = key y → key (jn x y) = key x) : ∀ {k l : List α}, RiseK key l → RiseK key (mrgK key jn l k)
  | [], _, h => h
  | x :: k, l, h => mrgK_rise hk (k := k) (putK_rise hk x h)
theorem mrgK_all {p : α → Prop} (hj : ∀ x y, key x = key y → p x → p y → p (jn x y)) : ∀ {k l : List α}, (∀ x ∈ l, p x) → (∀ x ∈ k, p x) → ∀ x ∈ mrgK key jn l k, p x
  | [], _, h, _ => h
  | c :: k, l, h, hk => by
    have hc := hk c (List.mem_cons_self ..)
    exact mrgK_all hj (k := k) (putK_all (fun x hx hp => hj x c hx hp hc) hc h) fun x hx => hk x (List.mem_cons_of_mem _ hx)
theorem mrgK_length : ∀ (k l : List α), (mrgK key jn l k).length ≤ l.length + k.length
  | [], l => Nat.le_refl _
  | x :: k, l => by
    have h1 := mrgK_length k (putK key jn l x)
    have h2 := putK_length (key := key) (jn := jn) l x
    show (mrgK key jn (putK key jn l x) k).length ≤ _
    simp only [List.length_cons]
    omega
theorem joinO_none (x : Option α) : joinO jn x none = x := by cases x <;> rfl
theorem getK_mrg (hk : ∀ x y, key x = key y → key (jn x y) = key x) : ∀ {k l : List α}, RiseK key l → RiseK key k → ∀ n, getK key (mrgK key jn l k) n = joinO jn (getK key l n) (getK key k n)
  | [], l, _, _, n => (joinO_none _).symm
  | c :: k, l, rl, rk, n => by
    show getK key (mrgK key jn (putK key jn l c) k) n = _
    rw [getK_mrg hk (putK_rise hk c rl) rk.2 n, getK_put hk c rl n]
    by_cases h : key c = n
    · subst h
      rw [if_pos rfl, getK_head, getK_low rk.1, joinO_none]
    · rw [if_neg h, getK_next _ h]
/-- What rises and tells as the two joined is the two merged. -/
theorem mrgK_eq (hk : ∀ x y, key x = key y → key (jn x y) = key x) {l k j : List α} (rl : RiseK key l) (rk : RiseK key k) (rj : RiseK key j) (h : ∀ n, getK key j n = joinO jn (getK key l n) (getK key k n)) : j = mrgK key jn l k :=
  listK_ext rj (mrgK_rise hk rl) fun n => by rw [h, getK_mrg hk rl rk]

def AllK (Good : α → Prop) (l : List α) : Prop := ∀ x ∈ l, Good x
theorem AllK.get {l : List α} (h : AllK Good l) {n : ByteArray} {x : α} (hx : getK key l n = some x) : Good x ∧ key x = n := ⟨h x (getK_some hx).1, (getK_some hx).2⟩
theorem AllK.mrg (J : JK key jn Good) {l k : List α} (hl : AllK Good l) (hk : AllK Good k) : AllK Good (mrgK key jn l k) := mrgK_all (fun x y e hx hy => J.good hx hy e) hl hk
theorem joinO_comm (J : JK key jn Good) {l k : List α} (hl : AllK Good l) (hk : AllK Good k) (n : ByteArray) : joinO jn (getK key l n) (getK key k n) = joinO jn (getK key k n) (getK key l n) := by
  cases h : getK key l n with
  | none => rw [joinO_none]; rfl
  | some x =>
    cases h' : getK key k n with
    | none => rfl
    | some y =>
      obtain ⟨gx, ex⟩ := hl.get h
      obtain ⟨gy, ey⟩ := hk.get h'
      exact congrArg some (J.comm gx gy (ex.trans ey.symm))
theorem mrgK_comm (J : JK key jn Good) {l k : List α} (rl : RiseK key l) (hl : AllK Good l) (rk : RiseK key k) (hk : AllK Good k) : mrgK key jn l k = mrgK key jn k l :=
  mrgK_eq J.key_ rk rl (mrgK_rise J.key_ rl) fun n => by rw [getK_mrg J.key_ rl rk, joinO_comm J hl hk]
theorem joinO_assoc (J : JK key jn Good) {l k j : List α} (hl : AllK Good l) (hk : AllK Good k) (hj : AllK Good j) (n : ByteArray) :
    joinO jn (joinO jn (getK key l n) (getK key k n)) (getK key j n) = joinO jn (getK key l n) (joinO jn (getK key k n) (getK key j n)) := by
  cases h : getK key l n with
  | none => rfl
  | some x =>
    cases h' : getK key k n with
    | none => rfl
    | some y =>
      cases h'' : getK key j n with
      | none => rfl
      | some z =>
        obtain ⟨gx, ex⟩ := hl.get h
        obtain ⟨gy, ey⟩ := hk.get h'
        obtain ⟨gz, ez⟩ := hj.get h''
        exact congrArg some (J.assoc gx gy gz (ex.trans ey.symm) (ey.trans ez.symm))
theorem mrgK_assoc (J : JK key jn Good) {l k j : List α} (rl : RiseK key l) (hl : AllK Good l) (rk : RiseK key k) (hk : AllK Good k) (rj : RiseK key j) (hj : AllK Good j) : mrgK key jn (mrgK key jn l k) j = mrgK key jn l (mrgK key jn k j) :=
  mrgK_eq J.key_ rl (mrgK_rise J.key_ rk) (mrgK_rise J.key_ (mrgK_rise J.key_ rl)) fun n => by
    rw [getK_mrg J.key_ (mrgK_rise J.key_ rl) rj, getK_mrg J.key_ rl rk, getK_mrg J.key_ rk rj, joinO_assoc J hl hk hj]
theorem mrgK_self (J : JK key jn Good) {l : List α} (rl : RiseK key l) (hl : AllK Good l) : mrgK key jn l l = l :=
  (mrgK_eq J.key_ rl rl rl fun n => by
    cases h : getK key l n with
    | none => rfl
    | some x => exact congrArg some (J.self (hl.get h).1).symm).symm
theorem mrgK_in (J : JK key jn Good) {l k : List α} (rl : RiseK key l) (hl : AllK Good l) (rk : RiseK key k) (hk : AllK Good k) : mrgK key jn (mrgK key jn l k) k = mrgK key jn l k := by
  rw [mrgK_assoc J rl hl rk hk rk hk, mrgK_self J rk hk]
theorem riseK_snoc : ∀ {l : List α} {x : α}, RiseK key l → (∀ y ∈ l, nlt (key y) (key x)) → RiseK key (l ++ [x])
  | [], x, _, _ => ⟨fun y hy => (by cases hy), trivial⟩
  | z :: l, x, hr, h => ⟨fun y hy => by
      rcases List.mem_append.1 hy with h1 | h1
      · exact hr.1 y h1
      · rw [List.mem_singleton.1 h1]
        exact h z (List.mem_cons_self ..), riseK_snoc hr.2 fun y hy => h y (List.mem_cons_of_mem _ hy)⟩
theorem riseK_at : ∀ {l : List α}, RiseK key l → ∀ i (h : i + 1 < l.length), nlt (key l[i]) (key l[i + 1])
  | [], _, i, h => by simp at h
  | x :: l, hr, 0, h => hr.1 _ (by simp)
  | x :: l, hr, i + 1, h => riseK_at hr.2 i (by simpa using h)
theorem riseK_of : ∀ {l : List α}, (∀ i (h : i + 1 < l.length), nlt (key l[i]) (key l[i + 1])) → RiseK key l
  | [], _ => trivial
  | [x], _ => ⟨fun y hy => (by cases hy), trivial⟩
  | x :: y :: l, h => by
    have h0 : nlt (key x) (key y) := h 0 (by simp)
    have ih : RiseK key (y :: l) := riseK_of fun i hi => h (i + 1) (by simpa using hi)
    refine ⟨fun z hz => ?_, ih⟩
    rcases List.mem_cons.1 hz with rfl | hz
    · exact h0
    · exact nlt_tr h0 (ih.1 z hz)

/-! Two lists in order, the next one always put at the end. -/
section
variable (key : α → ByteArray) (jn : α → α → α)
def pushK (M : List α) (x : α) : List α :=
  match M.getLast? with
  | some y => if key y = key x then M.dropLast ++ [jn y x] else M ++ [x]
  | none => [x]
def runK : List α → List α → List α → List α
  | M, [], [] => M
  | M, x :: a, [] => runK (pushK key jn M x) a []
  | M, [], y :: b => runK (pushK key jn M y) [] b
  | M, x :: a, y :: b => if nlt (key y) (key x) then runK (pushK key jn M y) (x :: a) b else runK (pushK key jn M x) a (y :: b)
termination_by _ a b => a.length + b.length
end
theorem runK_nil (M : List α) : runK key jn M [] [] = M := by unfold runK; rfl
theorem runK_a (M : List α) (x : α) (a : List α) : runK key jn M (x :: a) [] = runK key jn (pushK key jn M x) a [] := by rw [runK]
theorem runK_b (M : List α) (y : α) (b : List α) : runK key jn M [] (y :: b) = runK key jn (pushK key jn M y) [] b := by rw [runK]
theorem runK_ab (M : List α) (x y : α) (a b : List α) (h : ¬ nlt (key y) (key x)) : runK key jn M (x :: a) (y :: b) = runK key jn (pushK key jn M x) a (y :: b) := by rw [runK, if_neg h]
theorem runK_ba (M : List α) (x y : α) (a b : List α) (h : nlt (key y) (key x)) : runK key jn M (x :: a) (y :: b) = runK key jn (pushK key jn M y) (x :: a) b := by rw [runK, if_pos h]
theorem pushK_last (M : List α) (y x : α) : pushK key jn (M ++ [y]) x = if key y = key x then M ++ [jn y x] else (M ++ [y]) ++ [x] := by
  unfold pushK
  rw [List.getLast?_concat, List.dropLast_concat]
theorem pushK_length (M : List α) (x : α) : (pushK key jn M x).length ≤ M.length + 1 := by
  rcases List.eq_nil_or_concat M with rfl | ⟨L, y, rfl⟩
  · simp [pushK]
  · rw [List.concat_eq_append, pushK_last]
    split <;> simp
/-- At the end is where it is put. -/
theorem pushK_put : ∀ {M : List α} (x : α), RiseK key M → (∀ m ∈ M, ¬ nlt (key x) (key m)) → pushK key jn M x = putK key jn M x
  | [], x, _, _ => rfl
  | [m], c, _, h => by
    have h1 : ¬ nlt (key c) (key m) := h _ (List.mem_cons_self ..)
    show pushK key jn ([] ++ [m]) c = if nlt (key m) (key c) then m :: [c] else if key m = key c then [jn m c] else c :: [m]
    rw [pushK_last]
    by_cases h2 : key m = key c
    · rw [if_pos h2, if_neg (fun h3 => nlt_ne h3 h2), if_pos h2]
      rfl
    · rw [if_neg h2, if_pos ((nlt_or (key m) (key c)).resolve_right fun h3 => h3.elim h2 h1)]
      rfl
  | m :: z :: M, c, hr, h => by
    have ih := pushK_put (M := z :: M) c hr.2 fun y hy => h y (List.mem_cons_of_mem _ hy)
    have h1 : nlt (key m) (key c) := by
      have h2 := hr.1 z (List.mem_cons_self ..)
      rcases nlt_or (key z) (key c) with h3 | h3 | h3
      · exact nlt_tr h2 h3
      · exact h3 ▸ h2
      · exact absurd h3 (h z (List.mem_cons_of_mem _ (List.mem_cons_self ..)))
    have e : pushK key jn (m :: z :: M) c = m :: pushK key jn (z :: M) c := by
      rcases List.eq_nil_or_concat (z :: M) with h4 | ⟨L, y, h4⟩
      · cases h4
      · rw [h4, List.concat_eq_append, pushK_last, ← List.cons_append, pushK_last]
        split <;> rfl
    rw [e, ih]
    show _ = if nlt (key m) (key c) then m :: putK key jn (z :: M) c else _
    rw [if_pos h1]
def UnderK (key : α → ByteArray) (M l : List α) : Prop := ∀ x ∈ l, ∀ m ∈ M, ¬ nlt (key x) (key m)
theorem underK_put (hk : ∀ x y, key x = key y → key (jn x y) = key x) {M l : List α} {x : α} (h : UnderK key M l) (hx : ∀ y ∈ l, ¬ nlt (key y) (key x)) : UnderK key (putK key jn M x) l := fun y hy m hm =>
  putK_all (p := fun z => ¬ nlt (key y) (key z)) (c := x) (fun z e hz => by rw [hk z x e]; exact hz) (hx y hy) (fun z hz => h y hy z hz) m hm
/-- What is so put together is what is merged: all of a, and then all of b, put into M. -/
theorem runK_ok (J : JK key jn Good) : ∀ (k : Nat) (M a b : List α), a.length + b.length ≤ k → RiseK key M → AllK Good M → RiseK key a → AllK Good a → RiseK key b → AllK Good b → UnderK key M a → UnderK key M b →
    runK key jn M a b = mrgK key jn (mrgK key jn M a) b
  | k, M, [], [], _, _, _, _, _, _, _, _, _ => runK_nil M
  | 0, M, x :: a, b, h, _, _, _, _, _, _, _, _ => by simp at h
  | 0, M, [], y :: b, h, _, _, _, _, _, _, _, _ => by simp at h
  | k + 1, M, x :: a, [], h, rM, gM, ra, ga, rb, gb, ua, ub => by
    have gx := ga x (List.mem_cons_self ..)
    rw [runK_a, pushK_put x rM fun m hm => ua x (List.mem_cons_self ..) m hm]
    exact runK_ok J k (putK key jn M x) a [] (by simp at h ⊢; omega) (putK_rise J.key_ _ rM) (putK_all (fun z e hz => J.good hz gx e) gx gM) ra.2 (fun z hz => ga z (List.mem_cons_of_mem _ hz)) rb gb
      (underK_put J.key_ (fun y hy m hm => ua y (List.mem_cons_of_mem _ hy) m hm) fun y hy h4 => nlt_irr _ (nlt_tr (ra.1 y hy) h4)) (fun y hy => by cases hy)
  | k + 1, M, [], y :: b, h, rM, gM, ra, ga, rb, gb, ua, ub => by
    have gy := gb y (List.mem_cons_self ..)
    rw [runK_b, pushK_put y rM fun m hm => ub y (List.mem_cons_self ..) m hm]
    exact runK_ok J k (putK key jn M y) [] b (by simp at h ⊢; omega) (putK_rise J.key_ _ rM) (putK_all (fun z e hz => J.good hz gy e) gy gM) ra ga rb.2 (fun z hz => gb z (List.mem_cons_of_mem _ hz))
      (fun y hy => by cases hy) (underK_put J.key_ (fun x hx m hm => ub x (List.mem_cons_of_mem _ hx) m hm) fun x hx h4 => nlt_irr _ (nlt_tr (rb.1 x hx) h4))
  | k + 1, M, x :: a, y :: b, h, rM, gM, ra, ga, rb, gb, ua, ub => by
    have gx := ga x (List.mem_cons_self ..)
    have gy := gb y (List.mem_cons_self ..)
    by_cases hyx : nlt (key y) (key x)
    · rw [runK_ba _ _ _ _ _ hyx, pushK_put y rM fun m hm => ub y (List.mem_cons_self ..) m hm]
      have gMy : AllK Good (putK key jn M y) := putK_all (fun z e hz => J.good hz gy e) gy gM
      have rMy := putK_rise (jn := jn) J.key_ y rM
      rw [runK_ok J k (putK key jn M y) (x :: a) b (by simp at h ⊢; omega) rMy gMy ra ga rb.2 (fun z hz => gb z (List.mem_cons_of_mem _ hz))
        (underK_put J.key_ ua fun z hz h4 => by
          rcases List.mem_cons.1 hz with rfl | hz
          · exact nlt_irr _ (nlt_tr hyx h4)
          · exact nlt_irr _ (nlt_tr (nlt_tr hyx (ra.1 z hz)) h4))
        (underK_put J.key_ (fun x hx m hm => ub x (List.mem_cons_of_mem _ hx) m hm) fun x hx h4 => nlt_irr _ (nlt_tr (rb.1 x hx) h4))]
      -- y may be put in behind a
      have ry : RiseK key [y] := ⟨fun z hz => (by cases hz), trivial⟩
      have gy1 : AllK Good [y] := fun z hz => by rw [List.mem_singleton.1 hz]; exact gy
      have e1 : mrgK key jn (putK key jn M y) (x :: a) = putK key jn (mrgK key jn M (x :: a)) y := by
        show mrgK key jn (mrgK key jn M [y]) (x :: a) = mrgK key jn (mrgK key jn M (x :: a)) [y]
        rw [mrgK_assoc J rM gM ry gy1 ra ga, mrgK_comm J ry gy1 ra ga, ← mrgK_assoc J rM gM ra ga ry gy1]
      rw [e1]
      rfl
    · rw [runK_ab _ _ _ _ _ hyx, pushK_put x rM fun m hm => ua x (List.mem_cons_self ..) m hm]
      exact runK_ok J k (putK key jn M x) a (y :: b) (by simp at h ⊢; omega) (putK_rise J.key_ _ rM) (putK_all (fun z e hz => J.good hz gx e) gx gM) ra.2 (fun z hz => ga z (List.mem_cons_of_mem _ hz)) rb gb
        (underK_put J.key_ (fun y hy m hm => ua y (List.mem_cons_of_mem _ hy) m hm) fun y hy h4 => nlt_irr _ (nlt_tr (ra.1 y hy) h4))
        (underK_put J.key_ ub fun z hz h4 => by
          rcases List.mem_cons.1 hz with rfl | hz
          · exact hyx h4
          · exact hyx (nlt_tr (rb.1 z hz) h4))
theorem nil_mrgK (J : JK key jn Good) {l : List α} (rl : RiseK key l) : mrgK key jn [] l = l := (mrgK_eq J.key_ (l := []) trivial rl rl fun n => rfl).symm
theorem runK_mrg (J : JK key jn Good) {l k : List α} (rl : RiseK key l) (gl : AllK Good l) (rk : RiseK key k) (gk : AllK Good k) : runK key jn [] l k = mrgK key jn l k := by
  rw [runK_ok J _ [] l k (Nat.le_refl _) trivial (fun x hx => by cases hx) rl gl rk gk (fun x _ m hm => by cases hm) (fun x _ m hm => by cases hm), nil_mrgK J rl]
end
end Go.Proofs.Ytafbbojfifcncaa
