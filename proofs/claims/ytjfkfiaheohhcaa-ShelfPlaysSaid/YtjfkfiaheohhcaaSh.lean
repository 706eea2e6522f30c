/-
  A shelf as it lies in memory, and what its calls make of it (plain).
-/
import Derived.Test.YtjfkfiaheohhcaaLsh
set_option linter.unusedVariables false
namespace Go.Proofs.Ytjfkfiaheohhcaa
open Go Go.RowKit

/-- A shelf: its log, how many bytes of it are synced, its files, its man. -/
structure Sh where
  log : List UInt8
  syn : Nat
  fs : Fl
  man : ByteArray
structure Sh.Ok (S : Sh) : Prop where
  syn : S.syn ≤ S.log.length
  log : S.log.length ≤ 262144
  len : S.fs.length ≤ 40
  up : Up S.fs
  wf : ∀ x ∈ S.fs, 1 ≤ x.1 ∧ x.1 ≤ 1099511627776

def Sh.new : Sh := ⟨[], 0, [], ⟨#[]⟩⟩
/-- n cut to from 0 to m. -/
def clip (n : Int) (m : Nat) : Nat := min n.toNat m
def Sh.app (S : Sh) (b : ByteArray) : Sh × Int := if 262144 < S.log.length + b.size then (S, 2) else ({ S with log := S.log ++ b.data.toList }, 0)
def Sh.sync (S : Sh) : Sh := { S with syn := S.log.length }
def Sh.cut (S : Sh) (n : Int) : Sh := { S with log := S.log.take (clip n S.log.length), syn := clip n S.log.length }
def Sh.put (S : Sh) (n : Int) (b : ByteArray) : Sh × Int :=
  if n < 1 ∨ 1099511627776 < n ∨ hasF S.fs n = true then (S, 1)
  else if 262144 < b.size ∨ 40 ≤ S.fs.length then (S, 2) else ({ S with fs := insF S.fs n b }, 0)
def Sh.drop (S : Sh) (n : Int) : Sh := { S with fs := delF S.fs n }
def Sh.turn (S : Sh) (man : ByteArray) : Sh × Int := if 262144 < man.size then (S, 2) else (⟨[], 0, S.fs, man⟩, 0)
def Sh.crash (S : Sh) (keep : Int) : Sh := S.cut (S.syn + clip keep (S.log.length - S.syn) : Nat)

theorem clip_le (n : Int) (m : Nat) : clip n m ≤ m := Nat.min_le_right _ _
theorem clip_of_nat (n m : Nat) (h : n ≤ m) : clip (n : Int) m = n := by unfold clip; omega
theorem Sh.Ok.new : Sh.new.Ok := ⟨Nat.le_refl _, by simp [Sh.new], by simp [Sh.new], List.Pairwise.nil, fun x hx => by cases hx⟩
theorem Sh.Ok.app {S : Sh} (h : S.Ok) (b : ByteArray) : (S.app b).1.Ok := by
  unfold Sh.app
  split
  · exact h
  · rename_i hb
    have h1 := h.syn
    refine ⟨?_, ?_, h.len, h.up, h.wf⟩
    · simp only [List.length_append]; omega
    · simp only [List.length_append, ← Lib.size_eq]; omega
theorem Sh.Ok.sync {S : Sh} (h : S.Ok) : S.sync.Ok := ⟨Nat.le_refl _, h.log, h.len, h.up, h.wf⟩
theorem Sh.Ok.cut {S : Sh} (h : S.Ok) (n : Int) : (S.cut n).Ok := by
  have h1 := clip_le n S.log.length
  have h2 := h.log
  refine ⟨?_, ?_, h.len, h.up, h.wf⟩ <;> simp only [Sh.cut, List.length_take] <;> omega
theorem Sh.Ok.put {S : Sh} (h : S.Ok) (n : Int) (b : ByteArray) : (S.put n b).1.Ok := by
  unfold Sh.put
  split
  · exact h
  · rename_i h1
    split
    · exact h
    · rename_i h2
      have hf : hasF S.fs n = false := by
        cases hh : hasF S.fs n
        · rfl
        · exact absurd (Or.inr (Or.inr hh)) h1
      refine ⟨h.syn, h.log, ?_, h.up.ins hf b, fun x hx => ?_⟩
      · rw [insF_length]; omega
      · rcases mem_insF hx with rfl | hx
        · simp only; omega
        · exact h.wf x hx
theorem Sh.Ok.drop {S : Sh} (h : S.Ok) (n : Int) : (S.drop n).Ok :=
  ⟨h.syn, h.log, Nat.le_trans (delF_length_le _ _) h.len, h.up.del n, fun x hx => h.wf x (mem_delF hx)⟩
theorem Sh.Ok.turn {S : Sh} (h : S.Ok) (m : ByteArray) : (S.turn m).1.Ok := by
  unfold Sh.turn
  split
  · exact h
  · exact ⟨Nat.le_refl _, by simp, h.len, h.up, h.wf⟩
theorem Sh.Ok.crash {S : Sh} (h : S.Ok) (k : Int) : (S.crash k).Ok := h.cut _

/-- The blocks of a shelf: its own, its log's, its files'. -/
def ShAt (w : World) (F : Nat → Prop) (p : Nat) (v : Value) (m : Nat) (S : Sh) : Prop :=
  w.heap[p]? = some (.cells #[v, .int .i64 (S.syn : Nat), .map (some m), .string S.man] 54 (0, 0)) ∧
  w.ownsRow 0 5 1 v S.log.length (Lib.byteCells S.log) ∧ w.ownsMap Try.prog 3 elemF m S.fs.length (mapF S.fs) ∧
  F p ∧ F m ∧ (∀ g, v.ownBlock = some g → F g) ∧ S.Ok
def ShIs (w : World) (F : Nat → Prop) (p : Nat) (S : Sh) : Prop := ∃ v m, ShAt w F p v m S

section
variable {w w' : World} {F G : Nat → Prop} {p m : Nat} {v : Value} {S : Sh}
theorem map_tight {H : Type} {P : Program} {k : TypeId} {R : Value → Option (DataW H × List MemPlace)} {b n : Nat} {D : DataW H} (h : w.ownsMap P k R b n D) : w.ownsMap P k R b (Maps.size D) D := by
  obtain ⟨es, clock, hb, F, hs, hD⟩ := h
  refine ⟨es, clock, hb, F, ?_, hD⟩
  rw [hD]
  simp [Maps.size, length_sorted]
theorem ShAt.kept (h : ShAt w G p v m S) (hk : Kept F w w') (ho : Off F G) (hG : In G w) : ShAt w' G p v m S := by
  obtain ⟨h1, h2, h3, h4, h5, h6, h7⟩ := h
  exact ⟨by rw [hk.get ho hG h4]; exact h1, own_kept h2 (fun g hg => hk.get ho hG (h6 g hg)), map_kept h3 (hk.get ho hG h5), h4, h5, h6, h7⟩
theorem ShIs.kept (h : ShIs w G p S) (hk : Kept F w w') (ho : Off F G) (hG : In G w) : ShIs w' G p S := by
  obtain ⟨v, m, h⟩ := h
  exact ⟨v, m, h.kept hk ho hG⟩
/-- A call that has written nothing of what was there. -/
theorem ShAt.below (h : ShAt w G p v m S) (hb : Below w.heap.size w w') : ShAt w' G p v m S := by
  obtain ⟨h1, h2, h3, h4, h5, h6, h7⟩ := h
  exact ⟨by rw [hb.block p (Array.getElem?_eq_some_iff.1 h1).1]; exact h1, own_kept h2 (fun g hg => hb.block g (own_block_lt h2 g hg)), map_kept h3 (hb.block m h3.lt), h4, h5, h6, h7⟩
theorem ShIs.below (h : ShIs w G p S) (hb : Below w.heap.size w w') : ShIs w' G p S := by
  obtain ⟨v, m, h⟩ := h
  exact ⟨v, m, h.below hb⟩
theorem ShAt.more (h : ShAt w F p v m S) (hs : ∀ k, F k → G k) : ShAt w G p v m S := by
  obtain ⟨h1, h2, h3, h4, h5, h6, h7⟩ := h
  exact ⟨h1, h2, h3, hs _ h4, hs _ h5, fun g hg => hs _ (h6 g hg), h7⟩
theorem ShAt.drew (h : ShAt w F p v m S) : ShAt w.drew F p v m S := h
theorem ShIs.heap (h : ShIs w F p S) (e : w'.heap = w.heap) : ShIs w' F p S := by
  obtain ⟨v, m, h1, ⟨h2, h3⟩, ⟨es, c, h4⟩, h5⟩ := h
  exact ⟨v, m, by rw [e]; exact h1, ⟨h2, by rw [e]; exact h3⟩, ⟨es, c, by rw [e]; exact h4⟩, h5⟩
theorem ShIs.drew (h : ShIs w F p S) : ShIs w.drew F p S := h
theorem ShAt.ok (h : ShAt w F p v m S) : S.Ok := h.2.2.2.2.2.2
theorem ShIs.ok (h : ShIs w F p S) : S.Ok := by
  obtain ⟨v, m, h⟩ := h
  exact h.ok
theorem ShAt.ne_map (h : ShAt w F p v m S) : m ≠ p := by
  obtain ⟨h1, h2, h3, _⟩ := h
  rintro rfl
  obtain ⟨es, c, hb, _⟩ := h3
  rw [hb] at h1
  cases h1
theorem ShAt.ne_log (h : ShAt w F p v m S) : v.ownBlock ≠ some p := by
  obtain ⟨h1, h2, h3, _⟩ := h
  intro hc
  obtain ⟨cs, hcs⟩ := own_tag h2 _ hc
  rw [hcs] at h1
  injection h1 with h1
  injection h1 with _ h1
  exact absurd h1 (by decide)
theorem ShAt.log_ne_map (h : ShAt w F p v m S) : v.ownBlock ≠ some m := by
  obtain ⟨h1, h2, h3, _⟩ := h
  intro hc
  obtain ⟨cs, hcs⟩ := own_tag h2 _ hc
  obtain ⟨es, c, hb, _⟩ := h3
  rw [hb] at hcs
  cases hcs
end

/-- The cells of a shelf, one by one. -/
theorem ShAt.cells {w : World} {F : Nat → Prop} {p m : Nat} {v : Value} {S : Sh} (h : ShAt w F p v m S) :
    w.cell? ⟨p, 0, none⟩ = some v ∧ w.cell? ⟨p, 1, none⟩ = some (.int .i64 (S.syn : Nat)) ∧ w.cell? ⟨p, 2, none⟩ = some (.map (some m)) ∧ w.cell? ⟨p, 3, none⟩ = some (.string S.man) ∧ ∀ i, w.frozen? ⟨p, i, none⟩ = false :=
  ⟨cell_at h.1 rfl, cell_at h.1 rfl, cell_at h.1 rfl, cell_at h.1 rfl, fun i => thawed_at h.1⟩

section
variable {w w' : World} {F G : Nat → Prop} {p m : Nat} {v : Value} {S : Sh}
theorem set_other (w : World) {a : Addr} {u : Value} {k : Nat} (h : k ≠ a.block) : (w.setCell a u).heap[k]? = w.heap[k]? := Below.heap_setCell w a u k h
/-- Another number of synced bytes. -/
theorem ShAt.set_syn (h : ShAt w F p v m S) {n : Nat} (hn : n ≤ S.log.length) : ShAt (w.setCell ⟨p, 1, none⟩ (.int .i64 (n : Nat))) F p v m { S with syn := n } := by
  have h1 := h.ne_map
  have h2 := h.ne_log
  obtain ⟨a1, a2, a3, a4, a5, a6, a7⟩ := h
  refine ⟨?_, own_kept a2 (fun g hg => set_other w fun e => h2 (by rw [hg, e])), map_kept a3 (set_other w h1), a4, a5, a6, ⟨hn, a7.log, a7.len, a7.up, a7.wf⟩⟩
  rw [heap_setCell_same w p 1 _ _ _ a1]
  rfl
/-- Another man. -/
theorem ShAt.set_man (h : ShAt w F p v m S) (man : ByteArray) : ShAt (w.setCell ⟨p, 3, none⟩ (.string man)) F p v m { S with man := man } := by
  have h1 := h.ne_map
  have h2 := h.ne_log
  obtain ⟨a1, a2, a3, a4, a5, a6, a7⟩ := h
  refine ⟨?_, own_kept a2 (fun g hg => set_other w fun e => h2 (by rw [hg, e])), map_kept a3 (set_other w h1), a4, a5, a6, ⟨a7.syn, a7.log, a7.len, a7.up, a7.wf⟩⟩
  rw [heap_setCell_same w p 3 _ _ _ a1]
  rfl
/-- Another log, that some value owns in w, where the rest stands. -/
theorem ShAt.set_log {v' : Value} {l : List UInt8} {n : Nat} (a1 : w.heap[p]? = some (.cells #[v, .int .i64 (S.syn : Nat), .map (some m), .string S.man] 54 (0, 0)))
    (a2 : w.ownsRow 0 5 1 v' n (Lib.byteCells l)) (hl : l.length = n) (a3 : w.ownsMap Try.prog 3 elemF m S.fs.length (mapF S.fs)) (a4 : F p) (a5 : F m) (a6 : ∀ g, v'.ownBlock = some g → F g) (a7 : Sh.Ok { S with log := l }) :
    ShAt (w.setCell ⟨p, 0, none⟩ v') F p v' m { S with log := l } := by
  subst hl
  have h1 : m ≠ p := by
    rintro rfl
    obtain ⟨es, c, hb, _⟩ := a3
    rw [hb] at a1
    cases a1
  have h2 : v'.ownBlock ≠ some p := by
    intro hc
    obtain ⟨cs, hcs⟩ := own_tag a2 _ hc
    rw [hcs] at a1
    injection a1 with a1
    injection a1 with _ a1
    exact absurd a1 (by decide)
  refine ⟨?_, own_kept a2 (fun g hg => set_other w fun e => h2 (by rw [hg, e])), map_kept a3 (set_other w h1), a4, a5, a6, a7⟩
  rw [heap_setCell_same w p 0 _ _ _ a1]
  rfl
/-- The log cut, and synced. -/
theorem ShAt.set_cut {A : Option Addr} {n c : Nat} (h : ShAt w F p (.slice A n c) m S) {k : Nat} (hk : k ≤ S.log.length) :
    ShAt ((w.setCell ⟨p, 0, none⟩ (.slice A k c)).setCell ⟨p, 1, none⟩ (.int .i64 (k : Nat))) F p (.slice A k c) m { S with log := S.log.take k, syn := k } := by
  have h1 := h.ne_map
  have h2 := h.ne_log
  obtain ⟨a1, a2, a3, a4, a5, a6, a7⟩ := h
  have hn : n = S.log.length := by
    rcases a2.2 with ⟨e, e'⟩ | ⟨g, cap, cur, e, _⟩
    · injection e with e1 e2 e3; omega
    · injection e
  subst hn
  have hl := a7.log
  have hb : (Value.slice A k c).ownBlock = (Value.slice A S.log.length c).ownBlock := by cases A <;> rfl
  have hlen : (S.log.take k).length = k := by rw [List.length_take]; omega
  have ho := own_cut a2 hk
  rw [Nat.mul_one, show (Lib.byteCells S.log).take k = Lib.byteCells (S.log.take k) from List.map_take.symm] at ho
  have hset : ∀ j, j ≠ p → ((w.setCell ⟨p, 0, none⟩ (.slice A k c)).setCell ⟨p, 1, none⟩ (.int .i64 (k : Nat))).heap[j]? = w.heap[j]? := fun j hj =>
    (set_other (a := ⟨p, 1, none⟩) _ hj).trans (set_other (a := ⟨p, 0, none⟩) _ hj)
  refine ⟨?_, ?_, map_kept a3 (hset m h1), a4, a5, fun g hg => a6 g (by rw [← hb]; exact hg), ⟨by rw [hlen]; exact Nat.le_refl _, by rw [hlen]; omega, a7.len, a7.up, a7.wf⟩⟩
  · rw [heap_setCell_same _ p 1 _ _ _ (heap_setCell_same w p 0 _ _ _ a1)]
    rfl
  · show World.ownsRow _ 0 _ 1 _ (S.log.take k).length _
    rw [hlen]
    exact own_kept ho (fun g hg => hset g fun e => h2 (by rw [← hb, hg, e]))
/-- The map has been turned. -/
theorem ShAt.set_map (h : ShAt w F p v m S) {fs : Fl} {n : Nat} (hg : w.grownBy w' (some m)) (ho : w'.ownsMap Try.prog 3 elemF m n (mapF fs)) (hk : Sh.Ok { S with fs := fs }) : ShAt w' F p v m { S with fs := fs } := by
  have h1 := h.ne_map
  have h2 := h.log_ne_map
  obtain ⟨a1, a2, a3, a4, a5, a6, a7⟩ := h
  refine ⟨?_, own_kept a2 (fun g hg' => hg.block g (own_block_lt a2 g hg') (fun e => h2 (by rw [hg', e]))), ?_, a4, a5, a6, hk⟩
  · rw [hg.block p (Array.getElem?_eq_some_iff.1 a1).1 (fun e => h1 (by injection e with e; exact e.symm))]
    exact a1
  · have := map_tight ho
    rw [size_mapF] at this
    exact this
end
end Go.Proofs.Ytjfkfiaheohhcaa
