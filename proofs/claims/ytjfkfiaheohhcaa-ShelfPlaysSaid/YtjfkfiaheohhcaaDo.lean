/-
  do: a call to a shelf and to the document's own: they answer alike.
-/
import Derived.Test.YtjfkfiaheohhcaaTwo
import Derived.Deep.RegionHeld3
set_option linter.unusedVariables false
set_option linter.unusedSimpArgs false
namespace Go.Proofs.Ytjfkfiaheohhcaa
open Go Go.RowKit

set_option maxHeartbeats 2000000 in
theorem do_app0 (W0 w : World) (F G : Nat → Prop) (p q : Nat) (S : Sh) (kind n : Int) (s : ByteArray) (h : Two W0 w F G p q S S) (hk : -9223372036854775808 ≤ kind ∧ kind ≤ 9223372036854775807) (hn : (Lit.int .i64 n).wf = true) (hs : s.size ≤ 1000)
    (hkk : kind % 10 = 0) :
    Calls Try.prog 12 #[.pointer (some ⟨p, 0, none⟩), .pointer (some ⟨q, 0, none⟩), .agg #[.int .i64 kind, .int .i64 n, .string s]] w fun e w' => e = .returned (.bool true) ∧ ∃ F' G' S', Two W0 w' F' G' p q S' S' ∧ Step (Un F G) w (Un F' G') w' := by
  have hb0 := (Below.refl w.heap.size w).alloc (Nat.le_refl _) (.cells #[.int .i64 kind, .int .i64 n, .string s] 31)
  have h1 := h.read hb0
  have o1 : OpAt (w.alloc (.cells #[.int .i64 kind, .int .i64 n, .string s] 31)) F G w.heap.size kind n s := ⟨heap_alloc_new w _, fun hh => by have := h.in_ _ hh; omega⟩
  obtain ⟨c0, c1, c2⟩ := o1.cells
  have st1 : Step (Un F G) w (Un F G) (w.alloc (.cells #[.int .i64 kind, .int .i64 n, .string s] 31)) := Step.same (Kept.of_below hb0 _)
  have hss : s.size ≤ 1099511627776 := by omega
  have hnb := bounds_i64 hn
  have HN := Lib.hid hn
  have H1 := Lib.hid h1
  have O1 := Lib.hid o1
  have ST := Lib.hid st1
  have HB := Lib.hid hnb
  clear h1 o1 st1 hs hn hnb
  go_enter Try.func12, Try.ntmps12
  go_wp2_with fail
  refine (place_any kind 10 _ (by omega) (by omega) hk).mono ?_
  rintro e w2 ⟨rfl, rfl⟩
  rw [hkk]
  go_wp2_with fail
  go_region_held3 (fun w' => w'.cell? ⟨w.heap.size, 0, none⟩ = some (.int .i64 kind) ∧ w'.cell? ⟨w.heap.size, 1, none⟩ = some (.int .i64 n) ∧ w'.cell? ⟨w.heap.size, 2, none⟩ = some (.string s)) (refine ⟨?_, ?_, ?_⟩ <;> assumption) (first
    | (go_at_call 16; refine (append2 (H1.out.read (Below.refl _ _).drew) s hss).mono ?_; rintro e w2 ⟨rfl, F2, h2, st2⟩; have o2 := OpAt.step (⟨O1.out.at_, O1.out.not⟩ : OpAt (w.alloc (.cells #[.int .i64 kind, .int .i64 n, .string s] 31)).drew F G w.heap.size kind n s) st2; obtain ⟨d0, d1, d2⟩ := o2.cells)
    | (go_at_call 34; refine (rappend2 h2 s hss).mono ?_; rintro e w3 ⟨rfl, G3, h3, st3⟩; have o3 := o2.step st3; obtain ⟨e0, e1, e2⟩ := o3.cells))
  go_wp2
  go_ret
  exact ⟨by first | rfl | simp, F2, G3, _, h3, ST.out.trans (Step.trans ⟨st2.kept.undrew, st2.new⟩ st3)⟩

set_option maxHeartbeats 2000000 in
theorem do_app1 (W0 w : World) (F G : Nat → Prop) (p q : Nat) (S : Sh) (kind n : Int) (s : ByteArray) (h : Two W0 w F G p q S S) (hk : -9223372036854775808 ≤ kind ∧ kind ≤ 9223372036854775807) (hn : (Lit.int .i64 n).wf = true) (hs : s.size ≤ 1000)
    (hkk : kind % 10 = 1) :
    Calls Try.prog 12 #[.pointer (some ⟨p, 0, none⟩), .pointer (some ⟨q, 0, none⟩), .agg #[.int .i64 kind, .int .i64 n, .string s]] w fun e w' => e = .returned (.bool true) ∧ ∃ F' G' S', Two W0 w' F' G' p q S' S' ∧ Step (Un F G) w (Un F' G') w' := by
  have hb0 := (Below.refl w.heap.size w).alloc (Nat.le_refl _) (.cells #[.int .i64 kind, .int .i64 n, .string s] 31)
  have h1 := h.read hb0
  have o1 : OpAt (w.alloc (.cells #[.int .i64 kind, .int .i64 n, .string s] 31)) F G w.heap.size kind n s := ⟨heap_alloc_new w _, fun hh => by have := h.in_ _ hh; omega⟩
  obtain ⟨c0, c1, c2⟩ := o1.cells
  have st1 : Step (Un F G) w (Un F G) (w.alloc (.cells #[.int .i64 kind, .int .i64 n, .string s] 31)) := Step.same (Kept.of_below hb0 _)
  have hss : s.size ≤ 1099511627776 := by omega
  have hnb := bounds_i64 hn
  have HN := Lib.hid hn
  have H1 := Lib.hid h1
  have O1 := Lib.hid o1
  have ST := Lib.hid st1
  have HB := Lib.hid hnb
  clear h1 o1 st1 hs hn hnb
  go_enter Try.func12, Try.ntmps12
  go_wp2_with fail
  refine (place_any kind 10 _ (by omega) (by omega) hk).mono ?_
  rintro e w2 ⟨rfl, rfl⟩
  rw [hkk]
  go_wp2_with fail
  go_region_held3 (fun w' => w'.cell? ⟨w.heap.size, 0, none⟩ = some (.int .i64 kind) ∧ w'.cell? ⟨w.heap.size, 1, none⟩ = some (.int .i64 n) ∧ w'.cell? ⟨w.heap.size, 2, none⟩ = some (.string s)) (refine ⟨?_, ?_, ?_⟩ <;> assumption) (first
    | (go_at_call 16; refine (append2 (H1.out.read (Below.refl _ _).drew) s hss).mono ?_; rintro e w2 ⟨rfl, F2, h2, st2⟩; have o2 := OpAt.step (⟨O1.out.at_, O1.out.not⟩ : OpAt (w.alloc (.cells #[.int .i64 kind, .int .i64 n, .string s] 31)).drew F G w.heap.size kind n s) st2; obtain ⟨d0, d1, d2⟩ := o2.cells)
    | (go_at_call 34; refine (rappend2 h2 s hss).mono ?_; rintro e w3 ⟨rfl, G3, h3, st3⟩; have o3 := o2.step st3; obtain ⟨e0, e1, e2⟩ := o3.cells))
  go_wp2
  go_ret
  exact ⟨by first | rfl | simp, F2, G3, _, h3, ST.out.trans (Step.trans ⟨st2.kept.undrew, st2.new⟩ st3)⟩

set_option maxHeartbeats 2000000 in
theorem do_put4 (W0 w : World) (F G : Nat → Prop) (p q : Nat) (S : Sh) (kind n : Int) (s : ByteArray) (h : Two W0 w F G p q S S) (hk : -9223372036854775808 ≤ kind ∧ kind ≤ 9223372036854775807) (hn : (Lit.int .i64 n).wf = true) (hs : s.size ≤ 1000)
    (hkk : kind % 10 = 4) :
    Calls Try.prog 12 #[.pointer (some ⟨p, 0, none⟩), .pointer (some ⟨q, 0, none⟩), .agg #[.int .i64 kind, .int .i64 n, .string s]] w fun e w' => e = .returned (.bool true) ∧ ∃ F' G' S', Two W0 w' F' G' p q S' S' ∧ Step (Un F G) w (Un F' G') w' := by
  have hb0 := (Below.refl w.heap.size w).alloc (Nat.le_refl _) (.cells #[.int .i64 kind, .int .i64 n, .string s] 31)
  have h1 := h.read hb0
  have o1 : OpAt (w.alloc (.cells #[.int .i64 kind, .int .i64 n, .string s] 31)) F G w.heap.size kind n s := ⟨heap_alloc_new w _, fun hh => by have := h.in_ _ hh; omega⟩
  obtain ⟨c0, c1, c2⟩ := o1.cells
  have st1 : Step (Un F G) w (Un F G) (w.alloc (.cells #[.int .i64 kind, .int .i64 n, .string s] 31)) := Step.same (Kept.of_below hb0 _)
  have hss : s.size ≤ 1099511627776 := by omega
  have hnb := bounds_i64 hn
  have HN := Lib.hid hn
  have H1 := Lib.hid h1
  have O1 := Lib.hid o1
  have ST := Lib.hid st1
  have HB := Lib.hid hnb
  clear h1 o1 st1 hs hn hnb
  go_enter Try.func12, Try.ntmps12
  go_wp2_with fail
  refine (place_any kind 10 _ (by omega) (by omega) hk).mono ?_
  rintro e w2 ⟨rfl, rfl⟩
  rw [hkk]
  go_wp2_with fail
  go_region_held3 (fun w' => w'.cell? ⟨w.heap.size, 0, none⟩ = some (.int .i64 kind) ∧ w'.cell? ⟨w.heap.size, 1, none⟩ = some (.int .i64 n) ∧ w'.cell? ⟨w.heap.size, 2, none⟩ = some (.string s)) (refine ⟨?_, ?_, ?_⟩ <;> assumption) (first
    | (go_at_call 18; refine (put2 (H1.out.read (Below.refl _ _).drew) n s HN.out hss).mono ?_; rintro e w2 ⟨rfl, F2, h2, st2⟩; have o2 := OpAt.step (⟨O1.out.at_, O1.out.not⟩ : OpAt (w.alloc (.cells #[.int .i64 kind, .int .i64 n, .string s] 31)).drew F G w.heap.size kind n s) st2; obtain ⟨d0, d1, d2⟩ := o2.cells)
    | (go_at_call 30; refine (rput2 h2 n s HN.out hss).mono ?_; rintro e w3 ⟨rfl, G3, h3, st3⟩; have o3 := o2.step st3; obtain ⟨e0, e1, e2⟩ := o3.cells))
  go_wp2
  go_ret
  exact ⟨by first | rfl | simp, F2, G3, _, h3, ST.out.trans (Step.trans ⟨st2.kept.undrew, st2.new⟩ st3)⟩

set_option maxHeartbeats 2000000 in
theorem do_put5 (W0 w : World) (F G : Nat → Prop) (p q : Nat) (S : Sh) (kind n : Int) (s : ByteArray) (h : Two W0 w F G p q S S) (hk : -9223372036854775808 ≤ kind ∧ kind ≤ 9223372036854775807) (hn : (Lit.int .i64 n).wf = true) (hs : s.size ≤ 1000)
    (hkk : kind % 10 = 5) :
    Calls Try.prog 12 #[.pointer (some ⟨p, 0, none⟩), .pointer (some ⟨q, 0, none⟩), .agg #[.int .i64 kind, .int .i64 n, .string s]] w fun e w' => e = .returned (.bool true) ∧ ∃ F' G' S', Two W0 w' F' G' p q S' S' ∧ Step (Un F G) w (Un F' G') w' := by
  have hb0 := (Below.refl w.heap.size w).alloc (Nat.le_refl _) (.cells #[.int .i64 kind, .int .i64 n, .string s] 31)
  have h1 := h.read hb0
  have o1 : OpAt (w.alloc (.cells #[.int .i64 kind, .int .i64 n, .string s] 31)) F G w.heap.size kind n s := ⟨heap_alloc_new w _, fun hh => by have := h.in_ _ hh; omega⟩
  obtain ⟨c0, c1, c2⟩ := o1.cells
  have st1 : Step (Un F G) w (Un F G) (w.alloc (.cells #[.int .i64 kind, .int .i64 n, .string s] 31)) := Step.same (Kept.of_below hb0 _)
  have hss : s.size ≤ 1099511627776 := by omega
  have hnb := bounds_i64 hn
  have HN := Lib.hid hn
  have H1 := Lib.hid h1
  have O1 := Lib.hid o1
  have ST := Lib.hid st1
  have HB := Lib.hid hnb
  clear h1 o1 st1 hs hn hnb
  go_enter Try.func12, Try.ntmps12
  go_wp2_with fail
  refine (place_any kind 10 _ (by omega) (by omega) hk).mono ?_
  rintro e w2 ⟨rfl, rfl⟩
  rw [hkk]
  go_wp2_with fail
  go_region_held3 (fun w' => w'.cell? ⟨w.heap.size, 0, none⟩ = some (.int .i64 kind) ∧ w'.cell? ⟨w.heap.size, 1, none⟩ = some (.int .i64 n) ∧ w'.cell? ⟨w.heap.size, 2, none⟩ = some (.string s)) (refine ⟨?_, ?_, ?_⟩ <;> assumption) (first
    | (go_at_call 18; refine (put2 (H1.out.read (Below.refl _ _).drew) n s HN.out hss).mono ?_; rintro e w2 ⟨rfl, F2, h2, st2⟩; have o2 := OpAt.step (⟨O1.out.at_, O1.out.not⟩ : OpAt (w.alloc (.cells #[.int .i64 kind, .int .i64 n, .string s] 31)).drew F G w.heap.size kind n s) st2; obtain ⟨d0, d1, d2⟩ := o2.cells)
    | (go_at_call 30; refine (rput2 h2 n s HN.out hss).mono ?_; rintro e w3 ⟨rfl, G3, h3, st3⟩; have o3 := o2.step st3; obtain ⟨e0, e1, e2⟩ := o3.cells))
  go_wp2
  go_ret
  exact ⟨by first | rfl | simp, F2, G3, _, h3, ST.out.trans (Step.trans ⟨st2.kept.undrew, st2.new⟩ st3)⟩

set_option maxHeartbeats 2000000 in
theorem do_drop (W0 w : World) (F G : Nat → Prop) (p q : Nat) (S : Sh) (kind n : Int) (s : ByteArray) (h : Two W0 w F G p q S S) (hk : -9223372036854775808 ≤ kind ∧ kind ≤ 9223372036854775807) (hn : (Lit.int .i64 n).wf = true) (hs : s.size ≤ 1000)
    (hkk : kind % 10 = 6) :
    Calls Try.prog 12 #[.pointer (some ⟨p, 0, none⟩), .pointer (some ⟨q, 0, none⟩), .agg #[.int .i64 kind, .int .i64 n, .string s]] w fun e w' => e = .returned (.bool true) ∧ ∃ F' G' S', Two W0 w' F' G' p q S' S' ∧ Step (Un F G) w (Un F' G') w' := by
  have hb0 := (Below.refl w.heap.size w).alloc (Nat.le_refl _) (.cells #[.int .i64 kind, .int .i64 n, .string s] 31)
  have h1 := h.read hb0
  have o1 : OpAt (w.alloc (.cells #[.int .i64 kind, .int .i64 n, .string s] 31)) F G w.heap.size kind n s := ⟨heap_alloc_new w _, fun hh => by have := h.in_ _ hh; omega⟩
  obtain ⟨c0, c1, c2⟩ := o1.cells
  have st1 : Step (Un F G) w (Un F G) (w.alloc (.cells #[.int .i64 kind, .int .i64 n, .string s] 31)) := Step.same (Kept.of_below hb0 _)
  have hss : s.size ≤ 1099511627776 := by omega
  have hnb := bounds_i64 hn
  have HN := Lib.hid hn
  have H1 := Lib.hid h1
  have O1 := Lib.hid o1
  have ST := Lib.hid st1
  have HB := Lib.hid hnb
  clear h1 o1 st1 hs hn hnb
  go_enter Try.func12, Try.ntmps12
  go_wp2_with fail
  refine (place_any kind 10 _ (by omega) (by omega) hk).mono ?_
  rintro e w2 ⟨rfl, rfl⟩
  rw [hkk]
  go_wp2_with fail
  go_region_held3 (fun w' => w'.cell? ⟨w.heap.size, 0, none⟩ = some (.int .i64 kind) ∧ w'.cell? ⟨w.heap.size, 1, none⟩ = some (.int .i64 n) ∧ w'.cell? ⟨w.heap.size, 2, none⟩ = some (.string s)) (refine ⟨?_, ?_, ?_⟩ <;> assumption) (first
    | (go_at_call 25; refine (drop2 (H1.out.read (Below.refl _ _).drew) n HN.out).mono ?_; rintro e w2 ⟨rfl, F2, h2, st2⟩; have o2 := OpAt.step (⟨O1.out.at_, O1.out.not⟩ : OpAt (w.alloc (.cells #[.int .i64 kind, .int .i64 n, .string s] 31)).drew F G w.heap.size kind n s) st2; obtain ⟨d0, d1, d2⟩ := o2.cells)
    | (go_at_call 31; refine (rdrop2 h2 n HN.out).mono ?_; rintro e w3 ⟨rfl, G3, h3, st3⟩; have o3 := o2.step st3; obtain ⟨e0, e1, e2⟩ := o3.cells))
  go_wp2
  go_ret
  exact ⟨by first | rfl | simp, F2, G3, _, h3, ST.out.trans (Step.trans ⟨st2.kept.undrew, st2.new⟩ st3)⟩

set_option maxHeartbeats 2000000 in
theorem do_turn (W0 w : World) (F G : Nat → Prop) (p q : Nat) (S : Sh) (kind n : Int) (s : ByteArray) (h : Two W0 w F G p q S S) (hk : -9223372036854775808 ≤ kind ∧ kind ≤ 9223372036854775807) (hn : (Lit.int .i64 n).wf = true) (hs : s.size ≤ 1000)
    (hkk : kind % 10 = 7) :
    Calls Try.prog 12 #[.pointer (some ⟨p, 0, none⟩), .pointer (some ⟨q, 0, none⟩), .agg #[.int .i64 kind, .int .i64 n, .string s]] w fun e w' => e = .returned (.bool true) ∧ ∃ F' G' S', Two W0 w' F' G' p q S' S' ∧ Step (Un F G) w (Un F' G') w' := by
  have hb0 := (Below.refl w.heap.size w).alloc (Nat.le_refl _) (.cells #[.int .i64 kind, .int .i64 n, .string s] 31)
  have h1 := h.read hb0
  have o1 : OpAt (w.alloc (.cells #[.int .i64 kind, .int .i64 n, .string s] 31)) F G w.heap.size kind n s := ⟨heap_alloc_new w _, fun hh => by have := h.in_ _ hh; omega⟩
  obtain ⟨c0, c1, c2⟩ := o1.cells
  have st1 : Step (Un F G) w (Un F G) (w.alloc (.cells #[.int .i64 kind, .int .i64 n, .string s] 31)) := Step.same (Kept.of_below hb0 _)
  have hss : s.size ≤ 1099511627776 := by omega
  have hnb := bounds_i64 hn
  have HN := Lib.hid hn
  have H1 := Lib.hid h1
  have O1 := Lib.hid o1
  have ST := Lib.hid st1
  have HB := Lib.hid hnb
  clear h1 o1 st1 hs hn hnb
  go_enter Try.func12, Try.ntmps12
  go_wp2_with fail
  refine (place_any kind 10 _ (by omega) (by omega) hk).mono ?_
  rintro e w2 ⟨rfl, rfl⟩
  rw [hkk]
  go_wp2_with fail
  go_region_held3 (fun w' => w'.cell? ⟨w.heap.size, 0, none⟩ = some (.int .i64 kind) ∧ w'.cell? ⟨w.heap.size, 1, none⟩ = some (.int .i64 n) ∧ w'.cell? ⟨w.heap.size, 2, none⟩ = some (.string s)) (refine ⟨?_, ?_, ?_⟩ <;> assumption) (first
    | (go_at_call 22; refine (turn2 (H1.out.read (Below.refl _ _).drew) s hss).mono ?_; rintro e w2 ⟨rfl, F2, h2, st2⟩; have o2 := OpAt.step (⟨O1.out.at_, O1.out.not⟩ : OpAt (w.alloc (.cells #[.int .i64 kind, .int .i64 n, .string s] 31)).drew F G w.heap.size kind n s) st2; obtain ⟨d0, d1, d2⟩ := o2.cells)
    | (go_at_call 32; refine (rturn2 h2 s hss).mono ?_; rintro e w3 ⟨rfl, G3, h3, st3⟩; have o3 := o2.step st3; obtain ⟨e0, e1, e2⟩ := o3.cells))
  go_wp2
  go_ret
  exact ⟨by first | rfl | simp, F2, G3, _, h3, ST.out.trans (Step.trans ⟨st2.kept.undrew, st2.new⟩ st3)⟩

set_option maxHeartbeats 2000000 in
theorem do_cut (W0 w : World) (F G : Nat → Prop) (p q : Nat) (S : Sh) (kind n : Int) (s : ByteArray) (h : Two W0 w F G p q S S) (hk : -9223372036854775808 ≤ kind ∧ kind ≤ 9223372036854775807) (hn : (Lit.int .i64 n).wf = true) (hs : s.size ≤ 1000)
    (hkk : kind % 10 = 3) :
    Calls Try.prog 12 #[.pointer (some ⟨p, 0, none⟩), .pointer (some ⟨q, 0, none⟩), .agg #[.int .i64 kind, .int .i64 n, .string s]] w fun e w' => e = .returned (.bool true) ∧ ∃ F' G' S', Two W0 w' F' G' p q S' S' ∧ Step (Un F G) w (Un F' G') w' := by
  have hb0 := (Below.refl w.heap.size w).alloc (Nat.le_refl _) (.cells #[.int .i64 kind, .int .i64 n, .string s] 31)
  have h1 := h.read hb0
  have o1 : OpAt (w.alloc (.cells #[.int .i64 kind, .int .i64 n, .string s] 31)) F G w.heap.size kind n s := ⟨heap_alloc_new w _, fun hh => by have := h.in_ _ hh; omega⟩
  obtain ⟨c0, c1, c2⟩ := o1.cells
  have st1 : Step (Un F G) w (Un F G) (w.alloc (.cells #[.int .i64 kind, .int .i64 n, .string s] 31)) := Step.same (Kept.of_below hb0 _)
  have hss : s.size ≤ 1099511627776 := by omega
  have hnb := bounds_i64 hn
  have HN := Lib.hid hn
  have H1 := Lib.hid h1
  have O1 := Lib.hid o1
  have ST := Lib.hid st1
  have HB := Lib.hid hnb
  clear h1 o1 st1 hs hn hnb
  go_enter Try.func12, Try.ntmps12
  go_wp2_with fail
  refine (place_any kind 10 _ (by omega) (by omega) hk).mono ?_
  rintro e w2 ⟨rfl, rfl⟩
  rw [hkk]
  go_wp2_with fail
  refine (cut2 H1.out n HB.out).mono ?_
  rintro e w2 ⟨rfl, F2, h2, st2⟩
  have o2 := O1.out.step st2
  obtain ⟨d0, d1, d2⟩ := o2.cells
  go_wp2_with fail
  refine (rcut2 h2 n HB.out).mono ?_
  rintro e w3 ⟨rfl, G3, h3, st3⟩
  go_wp2
  go_ret
  exact ⟨rfl, F2, G3, _, h3, ST.out.trans (st2.trans st3)⟩

set_option maxHeartbeats 2000000 in
theorem do_crash (W0 w : World) (F G : Nat → Prop) (p q : Nat) (S : Sh) (kind n : Int) (s : ByteArray) (h : Two W0 w F G p q S S) (hk : -9223372036854775808 ≤ kind ∧ kind ≤ 9223372036854775807) (hn : (Lit.int .i64 n).wf = true) (hs : s.size ≤ 1000)
    (hkk : kind % 10 = 8) :
    Calls Try.prog 12 #[.pointer (some ⟨p, 0, none⟩), .pointer (some ⟨q, 0, none⟩), .agg #[.int .i64 kind, .int .i64 n, .string s]] w fun e w' => e = .returned (.bool true) ∧ ∃ F' G' S', Two W0 w' F' G' p q S' S' ∧ Step (Un F G) w (Un F' G') w' := by
  have hb0 := (Below.refl w.heap.size w).alloc (Nat.le_refl _) (.cells #[.int .i64 kind, .int .i64 n, .string s] 31)
  have h1 := h.read hb0
  have o1 : OpAt (w.alloc (.cells #[.int .i64 kind, .int .i64 n, .string s] 31)) F G w.heap.size kind n s := ⟨heap_alloc_new w _, fun hh => by have := h.in_ _ hh; omega⟩
  obtain ⟨c0, c1, c2⟩ := o1.cells
  have st1 : Step (Un F G) w (Un F G) (w.alloc (.cells #[.int .i64 kind, .int .i64 n, .string s] 31)) := Step.same (Kept.of_below hb0 _)
  have hss : s.size ≤ 1099511627776 := by omega
  have hnb := bounds_i64 hn
  have HN := Lib.hid hn
  have H1 := Lib.hid h1
  have O1 := Lib.hid o1
  have ST := Lib.hid st1
  have HB := Lib.hid hnb
  clear h1 o1 st1 hs hn hnb
  go_enter Try.func12, Try.ntmps12
  go_wp2_with fail
  refine (place_any kind 10 _ (by omega) (by omega) hk).mono ?_
  rintro e w2 ⟨rfl, rfl⟩
  rw [hkk]
  go_wp2_with fail
  refine (crash2 H1.out n HB.out).mono ?_
  rintro e w2 ⟨rfl, F2, h2, st2⟩
  have o2 := O1.out.step st2
  obtain ⟨d0, d1, d2⟩ := o2.cells
  go_wp2_with fail
  refine (rcrash2 h2 n HB.out).mono ?_
  rintro e w3 ⟨rfl, G3, h3, st3⟩
  go_wp2
  go_ret
  exact ⟨rfl, F2, G3, _, h3, ST.out.trans (st2.trans st3)⟩

set_option maxHeartbeats 2000000 in
theorem do_sync (W0 w : World) (F G : Nat → Prop) (p q : Nat) (S : Sh) (kind n : Int) (s : ByteArray) (h : Two W0 w F G p q S S) (hk : -9223372036854775808 ≤ kind ∧ kind ≤ 9223372036854775807) (hn : (Lit.int .i64 n).wf = true) (hs : s.size ≤ 1000)
    (hkk : kind % 10 = 2) :
    Calls Try.prog 12 #[.pointer (some ⟨p, 0, none⟩), .pointer (some ⟨q, 0, none⟩), .agg #[.int .i64 kind, .int .i64 n, .string s]] w fun e w' => e = .returned (.bool true) ∧ ∃ F' G' S', Two W0 w' F' G' p q S' S' ∧ Step (Un F G) w (Un F' G') w' := by
  have hb0 := (Below.refl w.heap.size w).alloc (Nat.le_refl _) (.cells #[.int .i64 kind, .int .i64 n, .string s] 31)
  have h1 := h.read hb0
  have o1 : OpAt (w.alloc (.cells #[.int .i64 kind, .int .i64 n, .string s] 31)) F G w.heap.size kind n s := ⟨heap_alloc_new w _, fun hh => by have := h.in_ _ hh; omega⟩
  obtain ⟨c0, c1, c2⟩ := o1.cells
  have st1 : Step (Un F G) w (Un F G) (w.alloc (.cells #[.int .i64 kind, .int .i64 n, .string s] 31)) := Step.same (Kept.of_below hb0 _)
  have hss : s.size ≤ 1099511627776 := by omega
  have hnb := bounds_i64 hn
  have HN := Lib.hid hn
  have H1 := Lib.hid h1
  have O1 := Lib.hid o1
  have ST := Lib.hid st1
  have HB := Lib.hid hnb
  clear h1 o1 st1 hs hn hnb
  go_enter Try.func12, Try.ntmps12
  go_wp2_with fail
  refine (place_any kind 10 _ (by omega) (by omega) hk).mono ?_
  rintro e w2 ⟨rfl, rfl⟩
  rw [hkk]
  go_wp2_with fail
  refine (sync2 H1.out).mono ?_
  rintro e w2 ⟨rfl, F2, h2, st2⟩
  obtain ⟨v, T, hr⟩ := h2.r
  obtain ⟨d0, d1, d2, d3, fz⟩ := hr.cells
  have f1 := fz 1
  have hz := hr.size
  have hfin : RfAt (w2.setCell ⟨q, 1, none⟩ (.int .i64 (T.size : Nat))) G q v T S.sync :=
    hr.put (by rw [heap_setCell_same w2 q 1 _ _ _ hr.1, hz]; rfl) hr.2.1 rfl (fun j hj => set_other (a := ⟨q, 1, none⟩) w2 hj) hr.ok.sync
  have hst : Step G w2 G (w2.setCell ⟨q, 1, none⟩ (.int .i64 (T.size : Nat))) := Step.same (Kept.setCell G w2 _ _ hr.2.2.2.1)
  have HT := Lib.hid (h2.turnR ⟨v, T, hfin⟩ hst)
  have HS := Lib.hid (hst.right F2)
  clear hr hfin hst fz hz
  go_wp2
  go_ret
  exact ⟨rfl, F2, G, _, HT.out, ST.out.trans (st2.trans HS.out)⟩

set_option maxHeartbeats 2000000 in
theorem do_wipe (W0 w : World) (F G : Nat → Prop) (p q : Nat) (S : Sh) (kind n : Int) (s : ByteArray) (h : Two W0 w F G p q S S) (hk : -9223372036854775808 ≤ kind ∧ kind ≤ 9223372036854775807) (hn : (Lit.int .i64 n).wf = true) (hs : s.size ≤ 1000)
    (hkk : kind % 10 = 9) :
    Calls Try.prog 12 #[.pointer (some ⟨p, 0, none⟩), .pointer (some ⟨q, 0, none⟩), .agg #[.int .i64 kind, .int .i64 n, .string s]] w fun e w' => e = .returned (.bool true) ∧ ∃ F' G' S', Two W0 w' F' G' p q S' S' ∧ Step (Un F G) w (Un F' G') w' := by
  have hb0 := (Below.refl w.heap.size w).alloc (Nat.le_refl _) (.cells #[.int .i64 kind, .int .i64 n, .string s] 31)
  have h1 := h.read hb0
  have o1 : OpAt (w.alloc (.cells #[.int .i64 kind, .int .i64 n, .string s] 31)) F G w.heap.size kind n s := ⟨heap_alloc_new w _, fun hh => by have := h.in_ _ hh; omega⟩
  obtain ⟨c0, c1, c2⟩ := o1.cells
  have st1 : Step (Un F G) w (Un F G) (w.alloc (.cells #[.int .i64 kind, .int .i64 n, .string s] 31)) := Step.same (Kept.of_below hb0 _)
  have hss : s.size ≤ 1099511627776 := by omega
  have hnb := bounds_i64 hn
  have HN := Lib.hid hn
  have H1 := Lib.hid h1
  have O1 := Lib.hid o1
  have ST := Lib.hid st1
  have HB := Lib.hid hnb
  clear h1 o1 st1 hs hn hnb
  go_enter Try.func12, Try.ntmps12
  go_wp2_with fail
  refine (place_any kind 10 _ (by omega) (by omega) hk).mono ?_
  rintro e w2 ⟨rfl, rfl⟩
  rw [hkk]
  go_wp2_with fail
  refine (wipe2 H1.out).mono ?_
  rintro e w2 ⟨rfl, F2, h2, st2⟩
  obtain ⟨v, T, hr⟩ := h2.r
  obtain ⟨d0, d1, d2, d3, fz⟩ := hr.cells
  have f0 := fz 0
  have f1 := fz 1
  have f2 := fz 2
  have f3 := fz 3
  obtain ⟨A, c, rfl, _⟩ := own_slice hr.2.2.1
  have hset : ∀ j, j ≠ q → ((((w2.setCell ⟨q, 0, none⟩ (.string ⟨#[]⟩)).setCell ⟨q, 1, none⟩ (.int .i64 0)).setCell ⟨q, 2, none⟩ (.slice none 0 0)).setCell ⟨q, 3, none⟩ (.string ⟨#[]⟩)).heap[j]? = w2.heap[j]? := fun j hj =>
    (set_other (a := ⟨q, 3, none⟩) _ hj).trans ((set_other (a := ⟨q, 2, none⟩) _ hj).trans ((set_other (a := ⟨q, 1, none⟩) _ hj).trans (set_other (a := ⟨q, 0, none⟩) _ hj)))
  have hfin : RfAt ((((w2.setCell ⟨q, 0, none⟩ (.string ⟨#[]⟩)).setCell ⟨q, 1, none⟩ (.int .i64 0)).setCell ⟨q, 2, none⟩ (.slice none 0 0)).setCell ⟨q, 3, none⟩ (.string ⟨#[]⟩)) G q (.slice none 0 0) ⟨#[]⟩ Sh.new := by
    refine ⟨?_, rfl, own_nilF _ _, hr.2.2.2.1, fun g hg => (by cases hg), Sh.Ok.new⟩
    rw [heap_setCell_same _ q 3 _ _ _ (heap_setCell_same _ q 2 _ _ _ (heap_setCell_same _ q 1 _ _ _ (heap_setCell_same _ q 0 _ _ _ hr.1)))]
    rfl
  have hg := hr.2.2.2.1
  have hst : Step G w2 G ((((w2.setCell ⟨q, 0, none⟩ (.string ⟨#[]⟩)).setCell ⟨q, 1, none⟩ (.int .i64 0)).setCell ⟨q, 2, none⟩ (.slice none 0 0)).setCell ⟨q, 3, none⟩ (.string ⟨#[]⟩)) :=
    Step.same (((Kept.setCell G _ _ _ hg).trans (Kept.setCell G _ _ _ hg) fun k hk => Or.inl hk).trans ((Kept.setCell G _ _ _ hg).trans (Kept.setCell G _ _ _ hg) fun k hk => Or.inl hk) fun k hk => Or.inl hk)
  have HT := Lib.hid (h2.turnR ⟨_, _, hfin⟩ hst)
  have HS := Lib.hid (hst.right F2)
  clear hr hfin hst fz hset hg
  go_wp2
  go_ret
  exact ⟨rfl, F2, G, _, HT.out, ST.out.trans (st2.trans HS.out)⟩

theorem do_any (W0 w : World) (F G : Nat → Prop) (p q : Nat) (S : Sh) (kind n : Int) (s : ByteArray) (h : Two W0 w F G p q S S) (hk : -9223372036854775808 ≤ kind ∧ kind ≤ 9223372036854775807) (hn : (Lit.int .i64 n).wf = true) (hs : s.size ≤ 1000) :
    Calls Try.prog 12 #[.pointer (some ⟨p, 0, none⟩), .pointer (some ⟨q, 0, none⟩), .agg #[.int .i64 kind, .int .i64 n, .string s]] w fun e w' => e = .returned (.bool true) ∧ ∃ F' G' S', Two W0 w' F' G' p q S' S' ∧ Step (Un F G) w (Un F' G') w' := by
  have h0 := Int.emod_nonneg kind (show (10 : Int) ≠ 0 by decide)
  have h9 := Int.emod_lt_of_pos kind (show (0 : Int) < 10 by decide)
  by_cases k0 : kind % 10 = 0
  · exact do_app0 W0 w F G p q S kind n s h hk hn hs k0
  by_cases k1 : kind % 10 = 1
  · exact do_app1 W0 w F G p q S kind n s h hk hn hs k1
  by_cases k2 : kind % 10 = 2
  · exact do_sync W0 w F G p q S kind n s h hk hn hs k2
  by_cases k3 : kind % 10 = 3
  · exact do_cut W0 w F G p q S kind n s h hk hn hs k3
  by_cases k4 : kind % 10 = 4
  · exact do_put4 W0 w F G p q S kind n s h hk hn hs k4
  by_cases k5 : kind % 10 = 5
  · exact do_put5 W0 w F G p q S kind n s h hk hn hs k5
  by_cases k6 : kind % 10 = 6
  · exact do_drop W0 w F G p q S kind n s h hk hn hs k6
  by_cases k7 : kind % 10 = 7
  · exact do_turn W0 w F G p q S kind n s h hk hn hs k7
  by_cases k8 : kind % 10 = 8
  · exact do_crash W0 w F G p q S kind n s h hk hn hs k8
  · exact do_wipe W0 w F G p q S kind n s h hk hn hs (by omega)
end Go.Proofs.Ytjfkfiaheohhcaa
