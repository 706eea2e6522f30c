/-
  Rows and columns in memory; the document's own Cell, Gone.
-/
import Derived.Test.YtafbbojfifcncaaRo
import Derived.Test.YtafbbojfifcncaaCeA
import Derived.Test.YtafbbojfifcncaaKq
import Derived.Laws.IdiomStrings
import Derived.Laws.IdiomRangeMap
set_option linter.unusedVariables false
set_option linter.unusedSimpArgs false
namespace Go.Proofs.Ytafbbojfifcncaa
open Go Go.RowKit

/-- The row at block q. -/
def RoAt (w : World) (q : Nat) (k s : ByteArray) (d : Bool) (a e g h : Int) (A : Option Addr) (n c : Nat) : Prop := w.cell? ⟨q, 0, none⟩ = some (.string k) ∧ w.cell? ⟨q, 1, none⟩ = some (.string s) ∧ w.cell? ⟨q, 2, none⟩ = some (.bool d) ∧ w.cell? ⟨q, 3, none⟩ = some (.int .i64 a) ∧ w.cell? ⟨q, 4, none⟩ = some (.int .i64 e) ∧ w.cell? ⟨q, 5, none⟩ = some (.int .i64 g) ∧ w.cell? ⟨q, 6, none⟩ = some (.int .i64 h) ∧ w.cell? ⟨q, 7, none⟩ = some (.slice A n c)
theorem RoAt.new (w : World) (k s : ByteArray) (d : Bool) (a e g h : Int) (A : Option Addr) (n c : Nat) : RoAt (w.alloc (.cells #[.string k, .string s, .bool d, .int .i64 a, .int .i64 e, .int .i64 g, .int .i64 h, .slice A n c] 36)) w.heap.size k s d a e g h A n c := by
  unfold RoAt
  simp
theorem RoAt.below {w w' : World} {q : Nat} {k s : ByteArray} {d : Bool} {a e g h : Int} {A : Option Addr} {n c B : Nat} (r : RoAt w q k s d a e g h A n c) (hb : Below B w w') (hq : q < B) : RoAt w' q k s d a e g h A n c := by
  obtain ⟨h0, h1, h2, h3, h4, h5, h6, h7⟩ := r
  exact ⟨(hb.cell (p := ⟨q, 0, none⟩) hq).trans h0, (hb.cell (p := ⟨q, 1, none⟩) hq).trans h1, (hb.cell (p := ⟨q, 2, none⟩) hq).trans h2, (hb.cell (p := ⟨q, 3, none⟩) hq).trans h3, (hb.cell (p := ⟨q, 4, none⟩) hq).trans h4, (hb.cell (p := ⟨q, 5, none⟩) hq).trans h5, (hb.cell (p := ⟨q, 6, none⟩) hq).trans h6, (hb.cell (p := ⟨q, 7, none⟩) hq).trans h7⟩
/-- A slice of columns. -/
def RdK (w : World) (B : Nat) (A : Option Addr) (n : Nat) (l : Cols) : Prop :=
  l.length = n ∧ (0 < n → ∃ g o, A = some ⟨g, o, none⟩ ∧ g < B ∧ ∀ j (hj : j < l.length), w.cell? ⟨g, o + j * 5, none⟩ = some (.string l[j].1) ∧ w.cell? ⟨g, o + j * 5 + 1, none⟩ = some (.string l[j].2.s) ∧ w.cell? ⟨g, o + j * 5 + 2, none⟩ = some (.bool l[j].2.d) ∧ w.cell? ⟨g, o + j * 5 + 3, none⟩ = some (.int .i64 l[j].2.a) ∧ w.cell? ⟨g, o + j * 5 + 4, none⟩ = some (.int .i64 l[j].2.e))
theorem RdK.below {w w' : World} {B n : Nat} {A : Option Addr} {l : Cols} (h : RdK w B A n l) (hb : Below B w w') : RdK w' B A n l :=
  ⟨h.1, fun hn => by
    obtain ⟨g, o, e, hg, hc⟩ := h.2 hn
    refine ⟨g, o, e, hg, fun j hj => ?_⟩
    obtain ⟨h0, h1, h2, h3, h4⟩ := hc j hj
    exact ⟨(hb.cell (p := ⟨g, _, none⟩) hg).trans h0, (hb.cell (p := ⟨g, _, none⟩) hg).trans h1, (hb.cell (p := ⟨g, _, none⟩) hg).trans h2, (hb.cell (p := ⟨g, _, none⟩) hg).trans h3, (hb.cell (p := ⟨g, _, none⟩) hg).trans h4⟩⟩

theorem rgone_any (k s : ByteArray) (d : Bool) (a e g h p : Int) (A : Option Addr) (n c : Nat) (w : World) :
    Calls Try.prog 67 #[.agg #[.string k, .string s, .bool d, .int .i64 a, .int .i64 e, .int .i64 g, .int .i64 h, .slice A n c], .int .i64 p] w fun x w' => x = .returned (.int .i64 (max g p)) ∧ Below w.heap.size w w' := by
  have bz := Lib.hid ((Below.refl w.heap.size w).alloc (Nat.le_refl _) (.cells #[.string k, .string s, .bool d, .int .i64 a, .int .i64 e, .int .i64 g, .int .i64 h, .slice A n c] 36))
  go_enter Try.func67, Try.ntmps67
  go_wp2
  go_ret
  exact ⟨rfl, bz.out⟩

set_option maxHeartbeats 2000000 in
/-- The cell of a name. -/
theorem rcell_any (k s : ByteArray) (d : Bool) (a e g h : Int) (A : Option Addr) (n c B : Nat) (l : Cols) (nm : ByteArray) (w : World) (hr : RdK w B A n l) (hB : B ≤ w.heap.size) (hn : n ≤ 1000000) :
    Calls Try.prog 81 #[.agg #[.string k, .string s, .bool d, .int .i64 a, .int .i64 e, .int .i64 g, .int .i64 h, .slice A n c], .string nm] w fun x w' => x = .returned (getC l nm).v ∧ Below w.heap.size w w' := by
  have hl := hr.1
  obtain ⟨⟨vs, vd, va, ve⟩, hv⟩ : ∃ v, getC l nm = v := ⟨_, rfl⟩
  rw [hv]
  have bz := ((Below.refl w.heap.size w).alloc (Nat.le_refl _) (.cells #[.string k, .string s, .bool d, .int .i64 a, .int .i64 e, .int .i64 g, .int .i64 h, .slice A n c] 36)).alloc (by simp) (.cells #[.string ⟨#[]⟩, .bool false, .int .i64 0, .int .i64 0] 33)
  have ro := (RoAt.new w k s d a e g h A n c).below ((Below.refl (w.heap.size + 1) _).alloc (by simp) (.cells #[.string ⟨#[]⟩, .bool false, .int .i64 0, .int .i64 0] 33)) (by omega)
  have hz := heap_alloc_new (w.alloc (.cells #[.string k, .string s, .bool d, .int .i64 a, .int .i64 e, .int .i64 g, .int .i64 h, .slice A n c] 36)) (.cells #[.string ⟨#[]⟩, .bool false, .int .i64 0, .int .i64 0] 33)
  have hr2 := hr.below (bz.mono hB)
  simp only [World.size_alloc] at hz
  obtain ⟨V, hV⟩ : ∃ V, V = (w.alloc (.cells #[.string k, .string s, .bool d, .int .i64 a, .int .i64 e, .int .i64 g, .int .i64 h, .slice A n c] 36)).alloc (.cells #[.string ⟨#[]⟩, .bool false, .int .i64 0, .int .i64 0] 33) := ⟨_, rfl⟩
  rw [← hV] at bz ro hz hr2
  obtain ⟨_, _, _, _, _, _, _, r7⟩ := ro
  obtain ⟨z0, z1, z2, z3⟩ : V.cell? ⟨w.heap.size + 1, 0, none⟩ = some (.string ⟨#[]⟩) ∧ V.cell? ⟨w.heap.size + 1, 1, none⟩ = some (.bool false) ∧ V.cell? ⟨w.heap.size + 1, 2, none⟩ = some (.int .i64 0) ∧ V.cell? ⟨w.heap.size + 1, 3, none⟩ = some (.int .i64 0) := ⟨cell_at hz rfl, cell_at hz rfl, cell_at hz rfl, cell_at hz rfl⟩
  have y0 := thawed_at (i := 0) hz
  have y1 := thawed_at (i := 1) hz
  have y2 := thawed_at (i := 2) hz
  have y3 := thawed_at (i := 3) hz
  have HV := Lib.hid hv; have HL := Lib.hid hl; have BZ := Lib.hid bz; have HR := Lib.hid hr2; have HZ := Lib.hid hz
  clear hv hl bz hr2 hz hr
  go_enter Try.func81, Try.ntmps81
  go_wp2_with fail
  rw [← hV]
  clear hV
  go_loopw [5] (fun i wr => ∃ t : Nat, t ≤ n ∧ i = .int .i64 t ∧ getC (l.drop t) nm = ⟨vs, vd, va, ve⟩ ∧ wr = V) (fun i _ => n - (intOf i).toNat)
  case atStart => exact ⟨0, Nat.zero_le _, rfl, HV.out, rfl⟩
  case round =>
    obtain ⟨t, ht, rfl, hz, rfl⟩ := hrel
    have HZ2 := Lib.hid hz
    clear hz
    by_cases hlt : t < n
    · have i1 : (t : Int) < n := by omega
      have i0 : (0 : Int) ≤ t := by omega
      have htl : t < l.length := by rw [HL.out]; exact hlt
      obtain ⟨g0, o0, rfl, _, hc⟩ := HR.out.2 (by omega)
      obtain ⟨e0, e1, e2, e3, e4⟩ := hc t htl
      have hd : l.drop t = l[t] :: l.drop (t + 1) := List.drop_eq_getElem_cons htl
      obtain ⟨⟨m, ⟨cs, cd, ca, ce⟩⟩, hx⟩ : ∃ x, l[t] = x := ⟨_, rfl⟩
      rw [hx] at e0 e1 e2 e3 e4 hd
      simp only at e0 e1 e2 e3 e4
      have HD := Lib.hid hd
      clear hd hx hc
      by_cases hm : m = nm
      · have hb : (m.toList == nm.toList) = true := eqB_true hm
        have hv : (⟨cs, cd, ca, ce⟩ : Ce) = ⟨vs, vd, va, ve⟩ := by rw [← HZ2.out, HD.out]; exact (if_pos hm).symm
        injection hv with h1 h2 h3 h4
        subst h1; subst h2; subst h3; subst h4
        clear hm
        go_wp2
        refine bodyPost_ret (v := .agg #[.string cs, .bool cd, .int .i64 ca, .int .i64 ce]) (by simp [results, Try.results81, go_sem, z0, z1, z2, z3]) rfl ⟨rfl, ?_⟩
        exact (((BZ.out.setCell (by simp) _).setCell (by simp) _).setCell (by simp) _).setCell (by simp) _
      · have hb : (m.toList == nm.toList) = false := eqB_false hm
        have hz3 : getC (l.drop (t + 1)) nm = ⟨vs, vd, va, ve⟩ := by rw [← HZ2.out, HD.out]; exact (if_neg hm).symm
        have HZ3 := Lib.hid hz3
        clear hm hz3
        go_wp2
        go_roundw
        case rel => exact ⟨t + 1, by omega, by go_num, HZ3.out, by first | rfl | trivial⟩
        case measure => simp [intOf]; omega
    · obtain rfl : t = n := by omega
      have hv : noC = ⟨vs, vd, va, ve⟩ := by
        rw [← HZ2.out, List.drop_of_length_le (by rw [HL.out]; exact Nat.le_refl _)]
        rfl
      injection hv with h1 h2 h3 h4
      subst h1; subst h2; subst h3; subst h4
      go_wp2
      refine bodyPost_ret (v := .agg #[.string ⟨#[]⟩, .bool false, .int .i64 0, .int .i64 0]) (by simp [results, Try.results81, go_sem, z0, z1, z2, z3]) rfl ⟨rfl, ?_⟩
      exact (((BZ.out.setCell (by simp) _).setCell (by simp) _).setCell (by simp) _).setCell (by simp) _
end Go.Proofs.Ytafbbojfifcncaa
