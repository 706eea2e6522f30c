/-
  Four rows of the call's own that grow side by side: kinds, texts, numbers, places. Small numbers as texts.
-/
import Derived.Test.YtdbdlgmejddbhaaDoorLxg
import Derived.Test.YtdbdlgmejddbhaaDoorApp
import Derived.Test.YtdbdlgmejddbhaaDoorKq
import Derived.Test.YtdbdlgmejddbhaaDoorSap
import Derived.Test.YtdbdlgmejddbhaaDoorLx7
import Derived.Test.YtdbdlgmejddbhaaDoorRf7
import Derived.Maps.AppendAt
import Derived.Deep.QuietTactic
import Derived.BigQuiet
set_option linter.unusedVariables false
namespace Go.Proofs.YtdbdlgmejddbhaaDoor
open Go Go.RowKit

def Sep (u v : Value) : Prop := u.ownBlock = none ∨ u.ownBlock ≠ v.ownBlock
theorem Sep.symm {u v : Value} (h : Sep u v) : Sep v u := by
  unfold Sep at *
  by_cases hv : v.ownBlock = none
  · exact .inl hv
  · refine .inr fun e => ?_
    rcases h with h | h
    · rw [h] at e; exact hv e
    · exact h e.symm
section
variable {w w' : World} {b n size m : Nat} {e : TypeId} {u v v' : Value} {xs : List Value}
theorem own_grow (h : w.ownsRow b e size u n xs) (hg : w.grownBy w' v.ownBlock) (hs : Sep u v) : w'.ownsRow b e size u n xs :=
  own_kept h fun g hgb => hg.block g (own_block_lt h g hgb) fun hc => by
    rcases hs with hs | hs
    · rw [hs] at hgb; cases hgb
    · exact hs (by rw [hgb, hc])
theorem sep_at (h : w.ownsRow b e size u n xs) (hs : Sep u v) (hat : v'.ownBlock = v.ownBlock ∨ v'.ownBlock = some w.heap.size) : Sep u v' := by
  rcases hat with hat | hat
  · unfold Sep; rw [hat]; exact hs
  · by_cases hu : u.ownBlock = none
    · exact .inl hu
    · refine .inr fun hc => ?_
      rw [hat] at hc
      have := own_block_lt h _ hc
      omega
/-- What lies in an own row of cells of one. -/
theorem own_get (h : w.ownsRow b e 1 v n xs) : ∃ A c, v = .slice A n c ∧ n ≤ c ∧ c ≤ maxLen ∧ ∀ j x, xs[j]? = some x → ∃ g, A = some ⟨g, 0, none⟩ ∧ g < w.heap.size ∧ w.cell? ⟨g, j, none⟩ = some x := by
  obtain ⟨h1, h2⟩ := h
  rcases h2 with ⟨rfl, h0⟩ | ⟨g, cap, cur, rfl, hg, hh, hn, hm, hs, ht⟩
  · refine ⟨none, 0, by rw [h0], by omega, by unfold maxLen; omega, fun j x hx => ?_⟩
    have := (List.getElem?_eq_some_iff.1 hx).1
    omega
  · refine ⟨_, cap, rfl, hn, hm, fun j x hx => ?_⟩
    have hj := (List.getElem?_eq_some_iff.1 hx).1
    refine ⟨g, rfl, (Array.getElem?_eq_some_iff.1 hh).1, ?_⟩
    rw [blk_cell hh, ← hx, ← ht, List.getElem?_take, if_pos (by omega)]
    simp
end
def iRow (l : List Int) : List Value := l.map (Value.int .i64)
theorem infoI4 : (Tryd.prog.info? 3).map (fun i => (i.zero, i.size, i.bytes)) = some (some (.int .i64 0), 1, 8) := by kernel_rfl
theorem app_int {w : World} (base : Nat) {v : Value} {l : List Int} (hown : w.ownsRow base 3 1 v l.length (iRow l)) (s : Int) {ad : Addr} (hc : w.cell? ad = some (.int .i64 s))
    (hsz : l.length ≤ 1000) (hbase : base ≤ w.heap.size) (ty : TypeId) :
    ∃ v' w', (Builtin.append_ #[38, 38] ty #[v, .slice (some ad) 1 1]).run Tryd.prog w = .ok v' w' ∧ w'.ownsRow base 3 1 v' (l ++ [s]).length (iRow (l ++ [s])) ∧ w.grownBy w' v.ownBlock ∧ (v'.ownBlock = v.ownBlock ∨ v'.ownBlock = some w.heap.size) := by
  obtain ⟨i, hi, hz0, hz1, hz2⟩ := info_parts infoI4
  obtain ⟨v', w', h1, h2, h3, _, h5⟩ := run_append_own_at (P := Tryd.prog) w base 38 ty 3 i (.int .i64 0) 1 8 Tryd.underlying38 hi hz0 hz1 hz2 rfl (by decide) v l.length (iRow l) hown ad 1 1 [.int .i64 s] rfl
    (fun j u hj => by
      rcases j with _ | j
      · have e : ad.add 0 = ad := by unfold Addr.add; rw [if_pos rfl]
        rw [e, hc]
        exact hj
      · simp at hj)
    (fun u hu => by simp at hu; subst hu; rfl) (by unfold maxLen; omega) (by omega) hbase
  exact ⟨v', w', h1, by unfold iRow at *; rw [List.map_append, List.length_append]; exact h2, h3, h5⟩
theorem app_txt {w : World} (base : Nat) {v : Value} {l : List ByteArray} (hown : w.ownsRow base 9 1 v l.length (strRow l)) (s : ByteArray) {ad : Addr} (hc : w.cell? ad = some (.string s))
    (hsz : l.length ≤ 1000) (hbase : base ≤ w.heap.size) (ty : TypeId) :
    ∃ v' w', (Builtin.append_ #[39, 39] ty #[v, .slice (some ad) 1 1]).run Tryd.prog w = .ok v' w' ∧ w'.ownsRow base 9 1 v' (l ++ [s]).length (strRow (l ++ [s])) ∧ w.grownBy w' v.ownBlock ∧ (v'.ownBlock = v.ownBlock ∨ v'.ownBlock = some w.heap.size) := by
  obtain ⟨i, hi, hz0, hz1, hz2⟩ := info_parts infoS
  obtain ⟨v', w', h1, h2, h3, _, h5⟩ := run_append_own_at (P := Tryd.prog) w base 39 ty 9 i (.string ⟨#[]⟩) 1 16 Tryd.underlying39 hi hz0 hz1 hz2 rfl (by decide) v l.length (strRow l) hown ad 1 1 [.string s] rfl
    (fun j u hj => by
      rcases j with _ | j
      · have e : ad.add 0 = ad := by unfold Addr.add; rw [if_pos rfl]
        rw [e, hc]
        exact hj
      · simp at hj)
    (fun u hu => by simp at hu; subst hu; rfl) (by unfold maxLen; omega) (by omega) hbase
  exact ⟨v', w', h1, by unfold strRow at *; rw [List.map_append, List.length_append]; exact h2, h3, h5⟩

/-- Kinds, texts, numbers, places: four rows apart from one another. -/
structure Fo (B : Nat) (w : World) (K T N A : Value) (lk : List Int) (lt : List ByteArray) (ln la : List Int) : Prop where
  k : w.ownsRow B 3 1 K lk.length (iRow lk)
  t : w.ownsRow B 9 1 T lt.length (strRow lt)
  n : w.ownsRow B 3 1 N ln.length (iRow ln)
  a : w.ownsRow B 3 1 A la.length (iRow la)
  kn : Sep K N
  ka : Sep K A
  na : Sep N A
section
variable {B : Nat} {w w' : World} {K T N A : Value} {lk ln la : List Int} {lt : List ByteArray}
theorem Fo.below (h : Fo B w K T N A lk lt ln la) (hb : Below w.heap.size w w') : Fo B w' K T N A lk lt ln la :=
  ⟨own_below h.k hb, own_below h.t hb, own_below h.n hb, own_below h.a hb, h.kn, h.ka, h.na⟩
theorem Fo.tk (h : Fo B w K T N A lk lt ln la) : Sep T K := own_apart h.t h.k (by decide)
theorem Fo.tn (h : Fo B w K T N A lk lt ln la) : Sep T N := own_apart h.t h.n (by decide)
theorem Fo.ta (h : Fo B w K T N A lk lt ln la) : Sep T A := own_apart h.t h.a (by decide)
theorem grow_below {v : Value} {n size : Nat} {e : TypeId} {xs : List Value} (ho : w.ownsRow B e size v n xs) (hB : B ≤ w.heap.size) (hg : w.grownBy w' v.ownBlock) : Below B w w' :=
  (Below.refl B w).grown hg hB fun g h => (ho.lt g h).1
theorem Fo.appA (h : Fo B w K T N A lk lt ln la) (s : Int) {ad : Addr} (hc : w.cell? ad = some (.int .i64 s)) (hl : la.length ≤ 1000) (hB : B ≤ w.heap.size) (ty : TypeId) :
    ∃ v' w', (Builtin.append_ #[38, 38] ty #[A, .slice (some ad) 1 1]).run Tryd.prog w = .ok v' w' ∧ (Fo B w' K T N v' lk lt ln (la ++ [s]) ∧ Below B w w') := by
  obtain ⟨v', w', h1, h2, h3, h4⟩ := app_int B h.a s hc hl hB ty
  exact ⟨v', w', h1, ⟨own_grow h.k h3 h.ka, own_grow h.t h3 h.ta, own_grow h.n h3 h.na, h2, h.kn, sep_at h.k h.ka h4, sep_at h.n h.na h4⟩, grow_below h.a hB h3⟩
theorem Fo.appK (h : Fo B w K T N A lk lt ln la) (s : Int) {ad : Addr} (hc : w.cell? ad = some (.int .i64 s)) (hl : lk.length ≤ 1000) (hB : B ≤ w.heap.size) (ty : TypeId) :
    ∃ v' w', (Builtin.append_ #[38, 38] ty #[K, .slice (some ad) 1 1]).run Tryd.prog w = .ok v' w' ∧ (Fo B w' v' T N A (lk ++ [s]) lt ln la ∧ Below B w w') := by
  obtain ⟨v', w', h1, h2, h3, h4⟩ := app_int B h.k s hc hl hB ty
  exact ⟨v', w', h1, ⟨h2, own_grow h.t h3 h.tk, own_grow h.n h3 h.kn.symm, own_grow h.a h3 h.ka.symm, (sep_at h.n h.kn.symm h4).symm, (sep_at h.a h.ka.symm h4).symm, h.na⟩, grow_below h.k hB h3⟩
theorem Fo.appN (h : Fo B w K T N A lk lt ln la) (s : Int) {ad : Addr} (hc : w.cell? ad = some (.int .i64 s)) (hl : ln.length ≤ 1000) (hB : B ≤ w.heap.size) (ty : TypeId) :
    ∃ v' w', (Builtin.append_ #[38, 38] ty #[N, .slice (some ad) 1 1]).run Tryd.prog w = .ok v' w' ∧ (Fo B w' K T v' A lk lt (ln ++ [s]) la ∧ Below B w w') := by
  obtain ⟨v', w', h1, h2, h3, h4⟩ := app_int B h.n s hc hl hB ty
  exact ⟨v', w', h1, ⟨own_grow h.k h3 h.kn, own_grow h.t h3 h.tn, h2, own_grow h.a h3 h.na.symm, sep_at h.k h.kn h4, h.ka, (sep_at h.a h.na.symm h4).symm⟩, grow_below h.n hB h3⟩
theorem Fo.appT (h : Fo B w K T N A lk lt ln la) (s : ByteArray) {ad : Addr} (hc : w.cell? ad = some (.string s)) (hl : lt.length ≤ 1000) (hB : B ≤ w.heap.size) (ty : TypeId) :
    ∃ v' w', (Builtin.append_ #[39, 39] ty #[T, .slice (some ad) 1 1]).run Tryd.prog w = .ok v' w' ∧ (Fo B w' K v' N A lk (lt ++ [s]) ln la ∧ Below B w w') := by
  obtain ⟨v', w', h1, h2, h3, h4⟩ := app_txt B h.t s hc hl hB ty
  exact ⟨v', w', h1, ⟨own_grow h.k h3 h.tk.symm, h2, own_grow h.n h3 h.tn.symm, own_grow h.a h3 h.ta.symm, h.kn, h.ka, h.na⟩, grow_below h.t hB h3⟩
end

/-! ### small numbers as texts -/
theorem dig_ext2 (k : Nat) (h : k < 10) : (⟨#[48, 49, 50, 51, 52, 53, 54, 55, 56, 57]⟩ : ByteArray).extract k (k + 1) = ⟨#[UInt8.ofNat (48 + k)]⟩ := by
  have : ∀ j : Fin 10, ((⟨#[48, 49, 50, 51, 52, 53, 54, 55, 56, 57]⟩ : ByteArray).extract j.val (j.val + 1)).data.toList = [UInt8.ofNat (48 + j.val)] := by
    intro j
    rw [Lib.extract_data]
    revert j
    decide
  exact ba_ext (this ⟨k, h⟩)
theorem itoa_one (a : Nat) (w : World) (h : a < 10) :
    Calls Tryd.prog 12 #[.int .i64 (a : Nat)] w fun e w' => e = .returned (.string ⟨#[UInt8.ofNat (48 + a)]⟩) ∧ w' = w := by
  have h0 : ¬ (a : Int) < 0 := by omega
  have h1 : (a : Int) < 10 := by omega
  obtain ⟨C, hC⟩ : ∃ C : ByteArray, C = ⟨#[UInt8.ofNat (48 + a)]⟩ := ⟨_, rfl⟩
  rw [← hC]
  have HX := Lib.hid ((dig_ext2 a h).trans hC.symm)
  clear hC
  go_enter Tryd.func12, Tryd.ntmps12
  go_wp2
  go_ret
  exact ⟨congrArg (fun s => Ending.returned (Value.string s)) HX.out, rfl⟩
theorem itoa_two (a : Nat) (w : World) (h : a < 100) :
    Calls Tryd.prog 12 #[.int .i64 (a : Nat)] w fun e w' => e = .returned (.string ⟨(small2 a).toArray⟩) ∧ ∃ n, w' = w.drewN n := by
  by_cases h10 : a < 10
  · have e : small2 a = [UInt8.ofNat (48 + a)] := if_pos h10
    rw [e]
    refine (itoa_one a w h10).mono ?_
    rintro e w1 ⟨rfl, rfl⟩
    exact ⟨rfl, 0, rfl⟩
  · have e : small2 a = [UInt8.ofNat (48 + a / 10), UInt8.ofNat (48 + a % 10)] := if_neg h10
    rw [e]
    have h0 : ¬ (a : Int) < 0 := by omega
    have h1 : ¬ (a : Int) < 10 := by omega
    have hq : a / 10 < 10 := by omega
    have hr : a % 10 < 10 := by omega
    have HX := Lib.hid (dig_ext2 (a % 10) hr)
    obtain ⟨C1, hC1⟩ : ∃ C1 : ByteArray, C1 = ⟨#[UInt8.ofNat (48 + a / 10)]⟩ := ⟨_, rfl⟩
    have hC1s : C1.size = 1 := by rw [hC1]; rfl
    have hc : ∀ w, Calls Tryd.prog 12 #[.int .i64 ((a : Int) / 10)] w fun e w' => e = .returned (.string C1) ∧ w' = w := by
      intro w
      have := itoa_one (a / 10) w hq
      rw [← hC1, show ((a / 10 : Nat) : Int) = (a : Int) / 10 from by omega] at this
      exact this
    have HC1 := Lib.hid hC1
    clear hC1
    go_enter Tryd.func12, Tryd.ntmps12
    go_wp2_with fail
    go_quiet (exact Calls.quiet_of_same (hc _))
    go_wp2
    go_ret
    exact ⟨congrArg (fun s => Ending.returned (Value.string s)) (show C1 ++ (⟨#[48, 49, 50, 51, 52, 53, 54, 55, 56, 57]⟩ : ByteArray).extract (a % 10) (a % 10 + 1) = ⟨#[UInt8.ofNat (48 + a / 10), UInt8.ofNat (48 + a % 10)]⟩ from by rw [HC1.out, HX.out]; rfl), _, rfl⟩
theorem itoa_any (n : Nat) (w : World) (h : n < 100) :
    Calls Tryd.prog 12 #[.int .i64 ((n : Int) - 50)] w fun e w' => e = .returned (.string ⟨(nuW n).toArray⟩) ∧ Below w.heap.size w w' := by
  by_cases h50 : n < 50
  · have e : nuW n = 45 :: small2 (50 - n) := if_pos h50
    have h0 : (n : Int) - 50 < 0 := by omega
    have hc := itoa_two (50 - n) w (by omega)
    rw [show ((50 - n : Nat) : Int) = -((n : Int) - 50) from by omega] at hc
    obtain ⟨C1, hC1⟩ : ∃ C1 : ByteArray, C1 = ⟨(small2 (50 - n)).toArray⟩ := ⟨_, rfl⟩
    have hC1s : C1.size ≤ 2 := by
      rw [hC1]
      show (small2 (50 - n)).toArray.size ≤ 2
      rw [List.size_toArray]
      unfold small2
      split <;> simp
    rw [← hC1] at hc
    rw [e]
    have HC := Lib.hid hc
    have HC1 := Lib.hid hC1
    clear hc hC1
    go_enter Tryd.func12, Tryd.ntmps12
    go_wp2_with fail
    refine HC.out.mono ?_
    rintro e w1 ⟨rfl, m, rfl⟩
    go_wp2
    go_ret
    refine ⟨congrArg (fun s => Ending.returned (Value.string s)) (show (⟨#[45]⟩ : ByteArray) ++ C1 = ⟨(45 :: small2 (50 - n)).toArray⟩ from by rw [HC1.out]; exact ba_ext (by simp)), (Below.refl _ _).trans ⟨rfl, rfl, rfl, Nat.le_refl _, fun _ _ => rfl⟩⟩
  · have e : nuW n = small2 (n - 50) := if_neg h50
    have hc := itoa_two (n - 50) w (by omega)
    rw [show ((n - 50 : Nat) : Int) = (n : Int) - 50 from by omega] at hc
    rw [e]
    refine hc.mono ?_
    rintro e w1 ⟨rfl, m, rfl⟩
    exact ⟨rfl, (Below.refl _ _).trans ⟨rfl, rfl, rfl, Nat.le_refl _, fun _ _ => rfl⟩⟩
end Go.Proofs.YtdbdlgmejddbhaaDoor
