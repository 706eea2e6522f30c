import Derived.Test.YtmpcnhpdobdmcaaGreatDoorLawNotesR
import Derived.Deep.RegionHeld3
import Derived.Deep.DrawnRows
import Derived.BigQuiet
open Go.Lib (hid)
set_option linter.unusedVariables false
set_option linter.unusedSimpArgs false
set_option maxHeartbeats 2000000
set_option maxRecDepth 20000
namespace Go.Proofs.YtmpcnhpdobdmcaaGreatDoor
open Go Go.RowKit
attribute [local go_sem ↓] Go.wp_at_zero Go.wp_at_succ
def ReadR (t : List UInt8) (r : Nat) (o : Bool) (w : World) (e : Ending) (w' : World) : Prop :=
 ∃ (x : ByteArray) (d ok : Bool),e = .returned (.tuple #[.string x,.bool d,.bool ok]) /\ Below w.heap.size w w' /\ (ok = true -> Fit t r o x.data.toList d) /\ (ok = false -> ∀ x d,¬ Fit t r o x d)
theorem ReadR.no {t : List UInt8} {r : Nat} {o : Bool} {w w' : World} (hb : Below w.heap.size w w') (h : ∀ x d,¬ Fit t r o x d) : ReadR t r o w (.returned (.tuple #[.string ⟨#[]⟩,.bool false,.bool false])) w' :=
 ⟨_,_,_,rfl,hb,fun e => (by cases e),fun _ => h⟩
theorem Fit.long {t : List UInt8} {r : Nat} {o : Bool} {x : List UInt8} {d : Bool} (f : Fit t r o x d) : 6 + x.length <= t.length := by
 have := f.1.length_le
 rwa [pc_length] at this
theorem Fit.parts {t : List UInt8} {r : Nat} {o : Bool} {x : List UInt8} {d : Bool} (f : Fit t r o x d) (hr : r <= 122) :
    t[0]? = some (pk o d) /\ (∃ b,t[1]? = some b /\ b.toNat = x.length) /\ t.take 6 = mrk (pk o d) x /\ (t.drop 6).take x.length = x := by
 have h2 := f.2.1
 obtain ⟨u,hu⟩ := f.1
 obtain ⟨u2,hu2⟩ := pc_front f.1
 refine ⟨by rw [hu2]; rfl,⟨UInt8.ofNat x.length,by rw [hu2]; rfl,by rw [UInt8.toNat_ofNat']; omega⟩,?_,?_⟩
 ·rw [<- hu,pc,List.append_assoc,List.take_left' (mrk_length _ _)]
 ·rw [<- hu,pc,List.append_assoc,List.drop_left' (mrk_length _ _),List.take_left]
theorem Fit.of {t : List UInt8} {r : Nat} {o : Bool} {x : List UInt8} {d : Bool} (h1 : t.take 6 = mrk (pk o d) x) (h2 : (t.drop 6).take x.length = x) (h3 : x.length <= r) (h4 : d = false -> x.length = r) (h5 : o = false -> d = true -> x ≠ []) : Fit t r o x d := by
 refine ⟨⟨(t.drop 6).drop x.length,?_⟩,h3,h4,h5⟩
 have e : t = t.take 6 ++ ((t.drop 6).take x.length ++ (t.drop 6).drop x.length) := by rw [List.take_append_drop,List.take_append_drop]
 rw [h1,h2] at e
 rw [pc,List.append_assoc]
 exact e.symm
theorem pk_ends (o d : Bool) : (pk o d = 1 \/ pk o d = 4) ↔ d = true := by
 cases o <;> cases d <;> decide
theorem read_short (A : Option Addr) (n c p : Nat) (o : Bool) (l : List UInt8) (w : World) (hl : l.length = n) (hn : n <= 128) (hp : p <= 121) (h : n < p + 6) :
    Calls Tryz.prog 72 #[.slice A n c,.int .i64 (p : Nat),.bool o] w (ReadR (l.drop p) (122 - p) o w) := by
 have hno : ∀ x d,¬ Fit (l.drop p) (122 - p) o x d := by
  intro x d f
  have := f.long
  rw [List.length_drop] at this
  omega
 have ht : decide ((n : Int) < (p : Int) + 6) = true := by simp; omega
 have HN := hid hno
 clear hno
 go_enter Tryz.func72,Tryz.ntmps72
 go_wp2
 go_ret3
 exact ReadR.no (Below.refl _ _) HN.out
theorem read_over (A : Option Addr) (n c p B : Nat) (o : Bool) (l : List UInt8) (w : World) (hr : Rd w B A n l) (hn : n <= 128) (hp : p <= 121) (h : p + 6 <= n) (kk b : UInt8) (hk : l[p]? = some kk) (hb : l[p + 1]? = some b) (hover : n < p + 6 + b.toNat) :
    Calls Tryz.prog 72 #[.slice A n c,.int .i64 (p : Nat),.bool o] w (ReadR (l.drop p) (122 - p) o w) := by
 have hl := hr.1
 have hno : ∀ x d,¬ Fit (l.drop p) (122 - p) o x d := by
  intro x d f
  obtain ⟨_,⟨b',h1,h2⟩,_⟩ := f.parts (by omega)
  have h3 := f.long
  rw [List.length_drop] at h3
  rw [List.getElem?_drop,hb] at h1
  injection h1 with h1
  subst h1
  omega
 obtain ⟨g,oo,rfl,_,hc⟩ := hr.at2 (j := 0) (by omega)
 have hcb : w.cell? ⟨g,oo + (p + 1),none⟩ = some (.int .u8 (b.toNat : Nat)) := by
  have e := hc (p + 1) (by omega)
  rw [List.getElem?_eq_getElem (by omega)] at hb
  injection hb with hb
  rw [e,hb]
 have hb256 := b.toNat_lt
 have HC := hid hc
 have HN := hid hno
 have HK := hid hk
 have HB := hid hb
 clear hno hc hk hb
 go_enter Tryz.func72,Tryz.ntmps72
 go_wp2
 go_ret3
 exact ReadR.no (Below.refl _ _) HN.out
theorem fits_as (k : UInt8) (s : ByteArray) (tq : Nat) (x : Int) (v : Bool) (w : World) (hx : x = (tq : Nat)) (h : fitB k s tq = v) :
    Calls Tryz.prog 107 #[.int .u8 (k.toNat : Nat),.string s,.int .i64 x] w fun e w' => e = .returned (.bool v) /\ w = w' := by
 rw [hx,<- h]
 exact fits_any k s tq w
theorem read_kind (A2 : Option Addr) (g oo n c p B ln n1 c1 n2 c2 : Nat) (A1 : Option Addr) (o E b1 b4 : Bool) (kk b : UInt8) (l l1 l2 : List UInt8) (q mk hd : ByteArray) (w : World)
    (hB : B <= w.heap.size) (hnc : n <= c) (hcm : c <= maxLen) (hn : n <= 128) (hp : p <= 121) (hin : p + 6 + ln <= n) (hln : Hid (b.toNat = ln)) (hl256 : ln < 256)
    (hck : w.cell? ⟨g,oo + p,none⟩ = some (.int .u8 (kk.toNat : Nat))) (hcb : w.cell? ⟨g,oo + (p + 1),none⟩ = some (.int .u8 (ln : Nat)))
    (hs1 : ∀ wx : World,(Instr.slice 29 (.slice (some ⟨g,oo,none⟩) n c) (some (.int .i64 ((p : Int) + 6))) (some (.int .i64 ((p : Int) + 6 + ln))) none).run Tryz.prog wx = .ok (.slice A1 n1 c1) wx)
    (hr1 : Rd w B A1 n1 l1) (hq : Hid (q.data.toList = l1))
    (hs2 : ∀ wx : World,(Instr.slice 29 (.slice (some ⟨g,oo,none⟩) n c) (some (.int .i64 (p : Int))) (some (.int .i64 ((p : Int) + 6))) none).run Tryz.prog wx = .ok (.slice A2 n2 c2) wx)
    (hr2 : Rd w B A2 n2 l2) (hhd : Hid (hd.data.toList = l2)) (hq256 : q.size < 256)
    (hE : (b1 = true /\ E = true) \/ (b1 = false /\ b4 = true /\ E = true) \/ (b1 = false /\ b4 = false /\ E = false))
    (H1 : (((kk.toNat : Nat) : Int) == 1) = b1) (H4 : (((kk.toNat : Nat) : Int) == 4) = b4)
    (Hd : (((kk.toNat : Nat) : Int) != (((pk o E).toNat : Nat) : Int)) = true) :
    Calls Tryz.prog 72 #[.slice (some ⟨g,oo,none⟩) n c,.int .i64 (p : Nat),.bool o] w fun e w' => e = .returned (.tuple #[.string ⟨#[]⟩,.bool false,.bool false]) /\ Below w.heap.size w w' := by
 have hkk := kk.toNat_lt
 have hcv := cv_as hr1 c1 q hq.out
 unfold maxLen at hcm
 have hfx0 : (p : Int) + 6 + (ln : Nat) = ((p + 6 + ln : Nat) : Int) := by omega
 have hfx := hid hfx0
 clear hfx0
 rcases hE with ⟨rfl,rfl⟩ | ⟨rfl,rfl,rfl⟩ | ⟨rfl,rfl,rfl⟩
 all_goals
  go_enter Tryz.func72,Tryz.ntmps72
  go_wp2_with fail
  go_quiet ((go_at_call 106; exact Calls.quiet_of_same ((kind_any o _ _).mono fun _ _ h => ⟨h.1,h.2.symm⟩)))
  go_wp2
  go_ret3
  exact ⟨rfl,⟨rfl,rfl,rfl,Nat.le_refl _,fun _ _ => rfl⟩⟩
theorem read_fits (A2 : Option Addr) (g oo n c p B ln n1 c1 n2 c2 : Nat) (A1 : Option Addr) (o E b1 b4 : Bool) (kk b : UInt8) (l l1 l2 : List UInt8) (q mk hd : ByteArray) (w : World)
    (hB : B <= w.heap.size) (hnc : n <= c) (hcm : c <= maxLen) (hn : n <= 128) (hp : p <= 121) (hin : p + 6 + ln <= n) (hln : Hid (b.toNat = ln)) (hl256 : ln < 256)
    (hck : w.cell? ⟨g,oo + p,none⟩ = some (.int .u8 (kk.toNat : Nat))) (hcb : w.cell? ⟨g,oo + (p + 1),none⟩ = some (.int .u8 (ln : Nat)))
    (hs1 : ∀ wx : World,(Instr.slice 29 (.slice (some ⟨g,oo,none⟩) n c) (some (.int .i64 ((p : Int) + 6))) (some (.int .i64 ((p : Int) + 6 + ln))) none).run Tryz.prog wx = .ok (.slice A1 n1 c1) wx)
    (hr1 : Rd w B A1 n1 l1) (hq : Hid (q.data.toList = l1))
    (hs2 : ∀ wx : World,(Instr.slice 29 (.slice (some ⟨g,oo,none⟩) n c) (some (.int .i64 (p : Int))) (some (.int .i64 ((p : Int) + 6))) none).run Tryz.prog wx = .ok (.slice A2 n2 c2) wx)
    (hr2 : Rd w B A2 n2 l2) (hhd : Hid (hd.data.toList = l2)) (hq256 : q.size < 256)
    (hE : (b1 = true /\ E = true) \/ (b1 = false /\ b4 = true /\ E = true) \/ (b1 = false /\ b4 = false /\ E = false))
    (H1 : (((kk.toNat : Nat) : Int) == 1) = b1) (H4 : (((kk.toNat : Nat) : Int) == 4) = b4)
    (Hd : (((kk.toNat : Nat) : Int) != (((pk o E).toNat : Nat) : Int)) = false) (Hf : Hid (fitB kk q (p + 6 + ln) = false)) :
    Calls Tryz.prog 72 #[.slice (some ⟨g,oo,none⟩) n c,.int .i64 (p : Nat),.bool o] w fun e w' => e = .returned (.tuple #[.string ⟨#[]⟩,.bool false,.bool false]) /\ Below w.heap.size w w' := by
 have hkk := kk.toNat_lt
 have hcv := cv_as hr1 c1 q hq.out
 unfold maxLen at hcm
 have hfx0 : (p : Int) + 6 + (ln : Nat) = ((p + 6 + ln : Nat) : Int) := by omega
 have hfx := hid hfx0
 clear hfx0
 rcases hE with ⟨rfl,rfl⟩ | ⟨rfl,rfl,rfl⟩ | ⟨rfl,rfl,rfl⟩
 all_goals
  go_enter Tryz.func72,Tryz.ntmps72
  go_wp2_with fail
  go_quiet ((first
   | (go_at_call 106; exact Calls.quiet_of_same ((kind_any o _ _).mono fun _ _ h => ⟨h.1,h.2.symm⟩))
   | (go_at_call 107; exact Calls.quiet_of_same ((fits_as kk q (p + 6 + ln) _ false _ hfx.out Hf.out).mono fun _ _ h => ⟨h.1,h.2.symm⟩))))
  go_wp2
  go_ret3
  exact ⟨rfl,⟨rfl,rfl,rfl,Nat.le_refl _,fun _ _ => rfl⟩⟩
theorem kind_K (o e : Bool) (K : Int) (w : World) (h : K = ((pk o e).toNat : Nat)) :
    Calls Tryz.prog 106 #[.bool o,.bool e] w fun x w' => x = .returned (.int .u8 K) /\ w = w' := by
 rw [h]
 exact kind_any o e w
theorem fits_K (k : UInt8) (K : Int) (s : ByteArray) (tq : Nat) (x : Int) (v : Bool) (w : World) (hK : K = (k.toNat : Nat)) (hx : x = (tq : Nat)) (h : fitB k s tq = v) :
    Calls Tryz.prog 107 #[.int .u8 K,.string s,.int .i64 x] w fun e w' => e = .returned (.bool v) /\ w = w' := by
 rw [hK]
 exact fits_as k s tq x v w hx h
theorem mark_K (k : UInt8) (K : Int) (s q : ByteArray) (w : World) (hK : K = (k.toNat : Nat)) (hs : s.size <= 1048576) (h : q.data.toList = mrk k s.data.toList) :
    Calls Tryz.prog 108 #[.int .u8 K,.string s] w fun e w' => e = .returned (.string q) /\ Below w.heap.size w w' := by
 rw [hK]
 exact mark_as k s q w hs h
theorem read_mark (A2 : Option Addr) (g oo n c p B ln n1 c1 n2 c2 : Nat) (A1 : Option Addr) (o E : Bool) (K : Int) (l1 l2 : List UInt8) (q mk hd : ByteArray) (w : World)
    (hB : B <= w.heap.size) (hnc : n <= c) (hcm : c <= maxLen) (hn : n <= 128) (hp : p <= 121) (hin : p + 6 + ln <= n) (hl256 : ln < 256)
    (hck : w.cell? ⟨g,oo + p,none⟩ = some (.int .u8 K)) (hcb : w.cell? ⟨g,oo + (p + 1),none⟩ = some (.int .u8 (ln : Nat)))
    (hs1 : ∀ wx : World,(Instr.slice 29 (.slice (some ⟨g,oo,none⟩) n c) (some (.int .i64 ((p : Int) + 6))) (some (.int .i64 ((p : Int) + 6 + ln))) none).run Tryz.prog wx = .ok (.slice A1 n1 c1) wx)
    (hr1 : Rd w B A1 n1 l1) (hq : Hid (q.data.toList = l1))
    (hs2 : ∀ wx : World,(Instr.slice 29 (.slice (some ⟨g,oo,none⟩) n c) (some (.int .i64 (p : Int))) (some (.int .i64 ((p : Int) + 6))) none).run Tryz.prog wx = .ok (.slice A2 n2 c2) wx)
    (hr2 : Rd w B A2 n2 l2) (hhd : Hid (hd.data.toList = l2)) (hq256 : q.size < 256)
    (hK : (o = true /\ E = true /\ K = 1) \/ (o = true /\ E = false /\ K = 2) \/ (o = false /\ E = false /\ K = 3) \/ (o = false /\ E = true /\ K = 4))
    (hKK : Hid (K = ((pk o E).toNat : Nat))) (Hf : Hid (fitB (pk o E) q (p + 6 + ln) = true)) (hmk : Hid (mk.data.toList = mrk (pk o E) q.data.toList)) (gg : Bool) (Hg : (!(hd.toList == mk.toList)) = gg) :
    Calls Tryz.prog 72 #[.slice (some ⟨g,oo,none⟩) n c,.int .i64 (p : Nat),.bool o] w fun e w' => e = .returned (.tuple #[.string (if gg then ⟨#[]⟩ else q),.bool (if gg then false else E),.bool (!gg)]) /\ Below w.heap.size w w' := by
 have hcv := cv_as hr1 c1 q hq.out
 unfold maxLen at hcm
 have hfx0 : (p : Int) + 6 + (ln : Nat) = ((p + 6 + ln : Nat) : Int) := by omega
 have hfx := hid hfx0
 clear hfx0
 rcases hK with ⟨rfl,rfl,rfl⟩ | ⟨rfl,rfl,rfl⟩ | ⟨rfl,rfl,rfl⟩ | ⟨rfl,rfl,rfl⟩
 all_goals
  go_enter Tryz.func72,Tryz.ntmps72
  go_wp2_with fail
  have k1 := cv_as hr2.drew c2 hd hhd.out
  go_region_held3 (fun w' => (convert 29 9 (.slice A2 n2 c2)).run Tryz.prog w' = .ok (.string hd) w') (assumption) (first
   | (go_at_call 106; refine (kind_K _ _ _ _ hKK.out).mono ?_; rintro e w1 ⟨rfl,rfl⟩)
   | (go_at_call 107; refine (fits_K _ _ q (p + 6 + ln) _ true _ hKK.out hfx.out Hf.out).mono ?_; rintro e w2 ⟨rfl,rfl⟩)
   | (go_at_call 108; refine (mark_K _ _ q mk _ hKK.out (Nat.le_trans (Nat.le_of_lt hq256) (by decide)) hmk.out).mono ?_; rintro e w3 ⟨rfl,b3⟩; have k3 := cv_as (hr2.drew.below (b3.mono hB)) c2 hd hhd.out))
  have hb4 : Below w.heap.size w w3 := ((Below.refl _ _).drew).trans b3
  cases gg
  all_goals
   go_wp2
   go_ret3
   exact ⟨rfl,hb4⟩
theorem fit_kinds (o d : Bool) : (pk o d = 2 \/ pk o d = 3) ↔ d = false := by
 cases o <;> cases d <;> decide
theorem fit_last (o d : Bool) : pk o d = 4 ↔ (o = false /\ d = true) := by
 cases o <;> cases d <;> decide
theorem fitB_iff (o d : Bool) (s : ByteArray) (tq : Nat) : fitB (pk o d) s tq = true ↔ ((d = false -> tq = 128) /\ (o = false -> d = true -> s.size ≠ 0)) := by
 unfold fitB
 by_cases h : d = false
 ·rw [if_pos ((fit_kinds o d).2 h),beq_iff_eq]
  constructor
  ·intro h2
   exact ⟨fun _ => h2,fun _ h3 => by rw [h] at h3; cases h3⟩
  ·intro h2
   exact h2.1 h
 ·rw [if_neg fun h2 => h ((fit_kinds o d).1 h2)]
  by_cases h4 : pk o d = 4
  ·rw [if_pos h4,bne_iff_ne]
   have h5 := (fit_last o d).1 h4
   constructor
   ·intro h6
    exact ⟨fun h7 => absurd h7 h,fun _ _ => h6⟩
   ·intro h6
    exact h6.2 h5.1 h5.2
  ·rw [if_neg h4]
   constructor
   ·intro _
    exact ⟨fun h7 => absurd h7 h,fun h7 h8 => absurd ((fit_last o d).2 ⟨h7,h8⟩) h4⟩
   ·intro _
    rfl
theorem pk_cases (o d : Bool) : (o = true /\ d = true /\ (((pk o d).toNat : Nat) : Int) = 1) \/ (o = true /\ d = false /\ (((pk o d).toNat : Nat) : Int) = 2) \/ (o = false /\ d = false /\ (((pk o d).toNat : Nat) : Int) = 3) \/ (o = false /\ d = true /\ (((pk o d).toNat : Nat) : Int) = 4) := by
 cases o <;> cases d <;> decide
theorem read_any (A : Option Addr) (n c p B : Nat) (o : Bool) (l : List UInt8) (w : World) (hr : Rd w B A n l) (hB : B <= w.heap.size) (hnc : n <= c) (hcm : c <= maxLen) (hn : n <= 128) (hp : p <= 121) :
    Calls Tryz.prog 72 #[.slice A n c,.int .i64 (p : Nat),.bool o] w (ReadR (l.drop p) (122 - p) o w) := by
 have hl := hr.1
 by_cases h6 : n < p + 6
 ·exact read_short A n c p o l w hl hn hp h6
 obtain ⟨kk,hk⟩ : ∃ x,l[p]? = some x := ⟨l[p],List.getElem?_eq_getElem (by omega)⟩
 obtain ⟨b,hb⟩ : ∃ x,l[p + 1]? = some x := ⟨l[p + 1],List.getElem?_eq_getElem (by omega)⟩
 by_cases hover : n < p + 6 + b.toNat
 ·exact read_over A n c p B o l w hr hn hp (by omega) kk b hk hb hover
 obtain ⟨ln,hln⟩ : ∃ x,b.toNat = x := ⟨_,rfl⟩
 have hl256 : ln < 256 := by rw [<- hln]; exact b.toNat_lt
 rw [hln] at hover
 obtain ⟨g,oo,rfl,_,hc⟩ := hr.at2 (j := 0) (by omega)
 have hck : w.cell? ⟨g,oo + p,none⟩ = some (.int .u8 (kk.toNat : Nat)) := by
  have e := hc p (by omega)
  rw [List.getElem?_eq_getElem (by omega)] at hk
  injection hk with hk
  rw [e,hk]
 have hcb : w.cell? ⟨g,oo + (p + 1),none⟩ = some (.int .u8 (ln : Nat)) := by
  have e := hc (p + 1) (by omega)
  rw [List.getElem?_eq_getElem (by omega)] at hb
  injection hb with hb
  rw [e,hb,hln]
 obtain ⟨A1,hs1,hr1⟩ := sl_lh hr hnc ((p : Int) + 6) ((p : Int) + 6 + ln) (p + 6) (p + 6 + ln) (by omega) (by omega) (by omega) (by omega)
 obtain ⟨A2,hs2,hr2⟩ := sl_lh hr hnc (p : Int) ((p : Int) + 6) p (p + 6) rfl (by omega) (by omega) (by omega)
 have e1 : (l.take (p + 6 + ln)).drop (p + 6) = ((l.drop p).drop 6).take ln := by
  rw [List.drop_take,List.drop_drop]
  congr 1
  omega
 have e2 : (l.take (p + 6)).drop p = (l.drop p).take 6 := by
  rw [List.drop_take]
  congr 1
  omega
 rw [e1] at hr1
 rw [e2] at hr2
 have hq1 : (((l.drop p).drop 6).take ln).length = ln := by rw [List.length_take,List.length_drop,List.length_drop]; omega
 obtain ⟨q,hq⟩ : ∃ x : ByteArray,x.data.toList = ((l.drop p).drop 6).take ln := ⟨⟨(((l.drop p).drop 6).take ln).toArray⟩,rfl⟩
 obtain ⟨hd,hhd⟩ : ∃ x : ByteArray,x.data.toList = (l.drop p).take 6 := ⟨⟨((l.drop p).take 6).toArray⟩,rfl⟩
 have hqz : q.size = ln := by rw [Lib.size_eq,hq,hq1]
 obtain ⟨E,hEd⟩ : ∃ E : Bool,E = (decide (kk = 1) || decide (kk = 4)) := ⟨_,rfl⟩
 have hfit : ∀ x d,Fit (l.drop p) (122 - p) o x d -> d = E /\ kk = pk o d /\ x = q.data.toList /\ hd.data.toList = mrk kk q.data.toList := by
  intro x d f
  obtain ⟨f1,⟨b',f2,f3⟩,f4,f5⟩ := f.parts (by omega)
  rw [List.getElem?_drop,Nat.add_zero,hk] at f1
  rw [List.getElem?_drop,hb] at f2
  injection f1 with f1
  injection f2 with f2
  subst f2
  have hx : x = q.data.toList := by rw [hq,<- f5,<- f3,hln]
  have hdE : d = E := by
   rw [hEd,f1,Bool.eq_iff_iff,Bool.or_eq_true,decide_eq_true_iff,decide_eq_true_iff]
   exact (pk_ends o d).symm
  refine ⟨hdE,f1,hx,?_⟩
  rw [hhd,f4,f1,hx]
 by_cases hkd : kk = pk o E
 ·by_cases hf : fitB (pk o E) q (p + 6 + ln) = true
  ·obtain ⟨mk,hmk⟩ : ∃ x : ByteArray,x.data.toList = mrk (pk o E) q.data.toList := ⟨⟨(mrk (pk o E) q.data.toList).toArray⟩,rfl⟩
   rw [hkd] at hck
   have hf2 := (fitB_iff o E q (p + 6 + ln)).1 hf
   by_cases hg : hd = mk
   ·refine (read_mark A2 g oo n c p B ln _ _ _ _ A1 o E _ _ _ q mk hd w hB hnc hcm hn hp (by omega) hl256 hck hcb hs1 hr1 (hid hq) hs2 hr2 (hid hhd) (by omega) (pk_cases o E) (hid rfl) (hid hf) (hid hmk) false (by rw [eqB_true hg]; rfl)).mono ?_
    rintro e w' ⟨rfl,hbl⟩
    refine ⟨q,E,true,rfl,hbl,fun _ => Fit.of ?_ ?_ ?_ ?_ ?_,fun h => (by cases h)⟩
    ·rw [<- hhd,hg,hmk]
    ·rw [<- Lib.size_eq,hqz,hq]
    ·rw [<- Lib.size_eq,hqz]; omega
    ·intro h
     rw [<- Lib.size_eq,hqz]
     have := hf2.1 h
     omega
    ·intro h1 h2 h3
     exact hf2.2 h1 h2 (by rw [Lib.size_eq,h3]; rfl)
   ·refine (read_mark A2 g oo n c p B ln _ _ _ _ A1 o E _ _ _ q mk hd w hB hnc hcm hn hp (by omega) hl256 hck hcb hs1 hr1 (hid hq) hs2 hr2 (hid hhd) (by omega) (pk_cases o E) (hid rfl) (hid hf) (hid hmk) true (by rw [eqB_false hg]; rfl)).mono ?_
    rintro e w' ⟨rfl,hbl⟩
    refine ReadR.no hbl fun x d f => hg (ba_ext ?_)
    rw [(hfit x d f).2.2.2,hmk,hkd]
  ·have hE3 : (decide (kk = 1) = true /\ E = true) \/ (decide (kk = 1) = false /\ decide (kk = 4) = true /\ E = true) \/ (decide (kk = 1) = false /\ decide (kk = 4) = false /\ E = false) := by
    rw [hEd]
    cases decide (kk = 1) <;> cases decide (kk = 4) <;> simp
   refine (read_fits A2 g oo n c p B ln _ _ _ _ A1 o E _ _ kk b l _ _ q q hd w hB hnc hcm hn hp (by omega) (hid hln) hl256 hck hcb hs1 hr1 (hid hq) hs2 hr2 (hid hhd) (by omega) hE3 (u8_eq kk 1 (by omega)) (u8_eq kk 4 (by omega)) (by rw [hkd]; simp) (hid (by rw [hkd]; simpa using hf))).mono ?_
   rintro e w' ⟨rfl,hbl⟩
   refine ReadR.no hbl fun x d f => hf ((fitB_iff o E q (p + 6 + ln)).2 ?_)
   obtain ⟨g1,g2,g3,g4⟩ := hfit x d f
   subst g1
   refine ⟨fun h => ?_,fun h1 h2 h3 => ?_⟩
   ·have := f.2.2.1 h
    rw [g3,<- Lib.size_eq,hqz] at this
    omega
   ·refine f.2.2.2 h1 h2 ?_
    rw [g3]
    exact List.eq_nil_of_length_eq_zero (by rw [<- Lib.size_eq]; exact h3)
 ·have hE3 : (decide (kk = 1) = true /\ E = true) \/ (decide (kk = 1) = false /\ decide (kk = 4) = true /\ E = true) \/ (decide (kk = 1) = false /\ decide (kk = 4) = false /\ E = false) := by
   rw [hEd]
   cases decide (kk = 1) <;> cases decide (kk = 4) <;> simp
  refine (read_kind A2 g oo n c p B ln _ _ _ _ A1 o E _ _ kk b l _ _ q q hd w hB hnc hcm hn hp (by omega) (hid hln) hl256 hck hcb hs1 hr1 (hid hq) hs2 hr2 (hid hhd) (by omega) hE3 (u8_eq kk 1 (by omega)) (u8_eq kk 4 (by omega)) ?_).mono ?_
  ·rw [bne_iff_ne]
   intro e
   exact hkd (UInt8.toNat_inj.1 (by omega))
  rintro e w' ⟨rfl,hbl⟩
  refine ReadR.no hbl fun x d f => hkd ?_
  obtain ⟨g1,g2,g3,g4⟩ := hfit x d f
  rw [<- g1]
  exact g2
end Go.Proofs.YtmpcnhpdobdmcaaGreatDoor
namespace Go.Proofs.YtmpcnhpdobdmcaaGreatDoor
open Go Go.RowKit
theorem fit_take {t : List UInt8} {k r : Nat} {o : Bool} {x : List UInt8} {d : Bool} (hk : 6 + r <= k \/ t.length <= k) : Fit (t.take k) r o x d ↔ Fit t r o x d := by
 rcases hk with hk | hk
 ·constructor
  ·rintro ⟨f1,f2,f3⟩
   exact ⟨f1.trans (List.take_prefix _ _),f2,f3⟩
  ·rintro ⟨f1,f2,f3⟩
   refine ⟨List.prefix_take_iff.2 ⟨f1,?_⟩,f2,f3⟩
   rw [pc_length]
   omega
 ·rw [List.take_of_length_le hk]
theorem pos_in {f p : Nat} (hf : f % 128 = 0) (hp : p <= 121) : gap (f + p) = 0 /\ rm (f + p) = 122 - p := by
 unfold gap rm left
 rw [if_neg (by omega),if_neg (by omega)]
 omega
theorem pos_end {f p : Nat} (hf : f % 128 = 0) (hp : 121 < p) (hp2 : p < 128) : gap (f + p) = 128 - p := by
 unfold gap left
 rw [if_pos (by omega)]
 omega
theorem puts_count : ∀ (l : List (List UInt8)) (p : Nat),l.length <= (puts p l).length
 | [],p => Nat.zero_le _
 | b :: l,p => by
   rw [puts,List.length_append,List.length_cons]
   have h1 := puts_count l (p + (put p b).length)
   have h2 := frm_length_ge p true b
   unfold put at *
   omega
theorem blk_drop (s : List UInt8) (f hi p : Nat) : ((s.take hi).drop f).drop p = (s.drop (f + p)).take (hi - f - p) := by
 rw [List.drop_drop,List.drop_take,Nat.sub_sub]
section
variable {s : List UInt8} {q f p hi : Nat} {o : Bool} {a : List UInt8}
theorem Scn.blk_fit (h : Scn s q (f + p) o a) (hf : f % 128 = 0) (hp : p <= 121) (hh : (hi = f + 128 /\ f + 128 <= s.length) \/ hi = s.length) (x : List UInt8) (d : Bool) :
    Fit (((s.take hi).drop f).drop p) (122 - p) o x d ↔ Fit (s.drop (f + p)) (rm (f + p)) o x d := by
 rw [blk_drop,(pos_in hf hp).2]
 refine fit_take ?_
 rw [List.length_drop]
 omega
theorem Scn.blk_next (h : Scn s q (f + p) o a) (hf : f % 128 = 0) (hp : 121 < p) (hp2 : p <= 128) (hh : hi = f + 128) (hl : f + 128 <= s.length) (hz : (((s.take hi).drop f).drop p).all (· == 0) = true) : Scn s q (f + 128) o a := by
 by_cases h8 : p = 128
 ·subst h8
  exact h
 ·have hg := pos_end hf hp (by omega)
  have ho : o = true := by
   cases o with
   | true => rfl
   | false => have := h.al rfl; omega
  have e : f + 128 = f + p + gap (f + p) := by rw [hg]; omega
  rw [e]
  refine h.zero ho ?_
  rw [all_zero,blk_drop,List.length_take,List.length_drop] at hz
  rw [show min (hi - f - p) (s.length - (f + p)) = 128 - p from by omega,show hi - f - p = 128 - p from by omega] at hz
  rw [hg,<- hz]
  exact List.take_prefix _ _
theorem Scn.blk_last (h : Scn s q (f + p) o a) (hf : f % 128 = 0) (hp : 121 < p) (hp2 : p <= 128) (hl : s.length < f + 128) (b : List UInt8) : ¬ put q b <+: s.drop q := by
 have h1 := h.pl
 have hg := pos_end hf hp (by omega)
 refine h.stopZ (fun hz => ?_) b
 have := hz.length_le
 rw [List.length_replicate,List.length_drop,hg] at this
 omega
theorem Scn.blk_bad (h : Scn s q (f + p) o a) (hf : f % 128 = 0) (hp : 121 < p) (hp2 : p <= 128) (hh : hi <= f + 128) (hz : (((s.take hi).drop f).drop p).all (· == 0) = false) (b : List UInt8) : ¬ put q b <+: s.drop q := by
 have h1 := h.pl
 refine h.stopZ (fun hr => ?_) b
 rw [Bool.eq_false_iff] at hz
 apply hz
 by_cases h8 : p = 128
 ·subst h8
  rw [blk_drop,show hi - f - 128 = 0 from by omega]
  rfl
 ·have hg := pos_end hf hp (by omega)
  obtain ⟨u,hu⟩ := hr
  rw [blk_drop,<- hu,List.take_append_of_le_length (by rw [List.length_replicate,hg]; omega),List.take_replicate,List.all_replicate]
  split <;> rfl
end
theorem own_zero {w : World} {base n c : Nat} {e : TypeId} {A : Option Addr} {xs : List Value} (h : w.ownsRow base e 1 (.slice A n c) n xs) : w.ownsRow base e 1 (.slice A 0 c) 0 [] := by
 refine ⟨rfl,?_⟩
 rcases h.2 with ⟨h1,h2⟩ | ⟨g,cap,cur,h1,h2,h3,h4,h5,h6,h7⟩
 ·injection h1 with h1 h3 h4
  subst h1
  subst h4
  exact Or.inl ⟨rfl,rfl⟩
 ·injection h1 with h1 h8 h9
  subst h1
  subst h9
  exact Or.inr ⟨g,c,cur,rfl,h2,h3,Nat.zero_le _,h5,h6,by simp⟩
def lists (l : List ByteArray) : List (List UInt8) := l.map fun b => b.data.toList
theorem lists_snoc (l : List ByteArray) (b : ByteArray) : lists (l ++ [b]) = lists l ++ [b.data.toList] := by
 unfold lists
 rw [List.map_append]
 rfl
theorem lists_length (l : List ByteArray) : (lists l).length = l.length := by
 unfold lists
 rw [List.length_map]
def AtBlock (s : List UInt8) (q f : Nat) (o : Bool) (a : List UInt8) : Prop := (Scn s q f o a \/ (s.length <= f /\ ∀ b,¬ put q b <+: s.drop q))
end Go.Proofs.YtmpcnhpdobdmcaaGreatDoor
