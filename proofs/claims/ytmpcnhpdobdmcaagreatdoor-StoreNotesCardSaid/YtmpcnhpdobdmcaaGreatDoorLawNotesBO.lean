import Derived.Test.YtmpcnhpdobdmcaaGreatDoorLawNotesBK
import Derived.Test.YtmpcnhpdobdmcaaGreatDoorLawNotesS
import Derived.Test.YtmpcnhpdobdmcaaGreatDoorLawNotesBE
import Derived.Test.YtmpcnhpdobdmcaaGreatDoorLawNotesR
import Derived.Test.YtmpcnhpdobdmcaaGreatDoorLawNotesBM
open Go.Lib (hid)
set_option linter.unusedVariables false
set_option linter.unusedSimpArgs false
set_option maxHeartbeats 2000000
set_option maxRecDepth 20000
namespace Go.Proofs.YtmpcnhpdobdmcaaGreatDoor
open Go Go.RowKit
structure SP where
 ma : Nat
 ms : Nat
 q : Nat
 Ta : List TA
 Ts : List TA
 A : Option Addr
 c : Nat
 fl : List Int
 last : Int
 Fd : Nat -> Prop
 Fn : Nat -> Prop
 ro : Nat -> Nat
def SP.R (x : SP) (k : Nat) : Prop := allRows x.Ta k \/ allRows x.Ts k \/ (x.fl ≠ [] /\ BlkOf x.A k)
def SP.data (x : SP) : (Nat × Nat × Nat) × (List TA × List TA) × (Option Addr × Nat × List Int × Int) := ((x.ma,x.ms,x.q),(x.Ta,x.Ts),(x.A,x.c,x.fl,x.last))
theorem SP.data_eq {x y : SP} (h : x.data = y.data) : x.ma = y.ma /\ x.ms = y.ms /\ x.q = y.q /\ x.Ta = y.Ta /\ x.Ts = y.Ts /\ x.A = y.A /\ x.c = y.c /\ x.fl = y.fl /\ x.last = y.last := by
 unfold SP.data at h
 simp only [Prod.mk.injEq] at h
 obtain ⟨⟨h1,h2,h3⟩,⟨h4,h5⟩,h6,h7,h8,h9⟩ := h
 exact ⟨h1,h2,h3,h4,h5,h6,h7,h8,h9⟩
structure StM (w : World) (F : Nat -> Prop) (s d : Nat) (S : Sh) (nt : Fl) (x : SP) : Prop where
 blk : w.heap[s]? = some (.cells #[.pointer (some ⟨d,0,none⟩),.map (some x.ma),.map (some x.ms),.pointer (some ⟨x.q,0,none⟩),.slice x.A x.fl.length x.c,.int .i64 x.last] 70 (0,0))
 disk : ShIs w x.Fd d S
 nts : NoIs w x.Fn x.q nt
 all : TbAt w x.ma x.Ta
 since : TbAt w x.ms x.Ts
 files : RdZ w w.heap.size x.A x.fl.length x.fl
 cap : x.fl.length <= x.c
 fs : F s
 fd : ∀ k,x.Fd k -> F k
 fn : ∀ k,x.Fn k -> F k
 fa : ∀ k,mapsF x.ma x.Ta k -> F k
 fi : ∀ k,mapsF x.ms x.Ts k -> F k
 fr : ∀ k,x.R k -> F k
 r0 : x.ro s = 0
 r1 : ∀ k,x.Fd k -> x.ro k = 1
 r2 : ∀ k,x.Fn k -> x.ro k = 2
 r3 : ∀ k,mapsF x.ma x.Ta k -> x.ro k = 3
 r4 : ∀ k,mapsF x.ms x.Ts k -> x.ro k = 4
 r5 : ∀ k,x.R k -> x.ro k = 5
def ext (ρ : Nat -> Nat) (n c : Nat) : Nat -> Nat := fun k => if k < n then ρ k else c
theorem ext_lt {ρ : Nat -> Nat} {n c k : Nat} (h : k < n) : ext ρ n c k = ρ k := if_pos h
theorem ext_ge {ρ : Nat -> Nat} {n c k : Nat} (h : n <= k) : ext ρ n c k = c := if_neg (by omega)
section
variable {w w' : World} {F G : Nat -> Prop} {s d : Nat} {S S' : Sh} {nt nt' : Fl} {x : SP}
structure StRest (w' : World) (s d : Nat) (S : Sh) (nt : Fl) (x : SP) (c : Nat) : Prop where
 blk : c ≠ 0 -> w'.heap[s]? = some (.cells #[.pointer (some ⟨d,0,none⟩),.map (some x.ma),.map (some x.ms),.pointer (some ⟨x.q,0,none⟩),.slice x.A x.fl.length x.c,.int .i64 x.last] 70 (0,0))
 disk : c ≠ 1 -> ShIs w' x.Fd d S
 nts : c ≠ 2 -> NoIs w' x.Fn x.q nt
 all : c ≠ 3 -> c ≠ 5 -> TbAt w' x.ma x.Ta
 since : c ≠ 4 -> c ≠ 5 -> TbAt w' x.ms x.Ts
 files : c ≠ 5 -> RdZ w' w'.heap.size x.A x.fl.length x.fl
theorem StM.rest (h : StM w F s d S nt x) (hi : In F w) (c : Nat) (hk : Kept G w w') (hG : ∀ k,G k -> F k -> x.ro k = c) : StRest w' s d S nt x c := by
 have hb : ∀ k,F k -> x.ro k ≠ c -> w'.heap[k]? = w.heap[k]? := fun k hf hc => hk.block k (hi k hf) fun hg => hc (hG k hg hf)
 refine ⟨fun hc => ?_,fun hc => ?_,fun hc => ?_,fun hc hc5 => ?_,fun hc hc5 => ?_,fun hc => ?_⟩
 ·rw [hb s h.fs (by rw [h.r0]; exact hc.symm)]; exact h.blk
 ·exact h.disk.kept hk (fun k hg hf => hc (by rw [<- hG k hg (h.fd k hf),h.r1 k hf])) fun k hf => hi k (h.fd k hf)
 ·exact h.nts.kept hk (fun k hg hf => hc (by rw [<- hG k hg (h.fn k hf),h.r2 k hf])) fun k hf => hi k (h.fn k hf)
 ·exact h.all.agree hk.size (fun k hk1 => hb k (h.fa k hk1) (by rw [h.r3 k hk1]; exact hc.symm)) fun k hk1 => hb k (h.fr k (Or.inl hk1)) (by rw [h.r5 k (Or.inl hk1)]; exact hc5.symm)
 ·exact h.since.agree hk.size (fun k hk1 => hb k (h.fi k hk1) (by rw [h.r4 k hk1]; exact hc.symm)) fun k hk1 => hb k (h.fr k (Or.inr (Or.inl hk1))) (by rw [h.r5 k (Or.inr (Or.inl hk1))]; exact hc5.symm)
 ·exact (h.files.agree fun k hne hk1 => hb k (h.fr k (Or.inr (Or.inr ⟨hne,hk1⟩))) (by rw [h.r5 k (Or.inr (Or.inr ⟨hne,hk1⟩))]; exact hc.symm)).higher hk.size
theorem StM.more (h : StM w F s d S nt x) (hf : ∀ k,F k -> G k) : StM w G s d S nt x :=
 ⟨h.blk,h.disk,h.nts,h.all,h.since,h.files,h.cap,hf _ h.fs,fun k hk => hf k (h.fd k hk),fun k hk => hf k (h.fn k hk),fun k hk => hf k (h.fa k hk),fun k hk => hf k (h.fi k hk),fun k hk => hf k (h.fr k hk),h.r0,h.r1,h.r2,h.r3,h.r4,h.r5⟩
theorem StM.grow (h : StM w F s d S nt x) (hi : In F w) (hb : Below w.heap.size w w') (c : Nat) : StM w' (Plus F w w') s d S nt { x with ro := ext x.ro w.heap.size c } := by
 have hr := h.rest hi 6 (Kept.of_below hb (fun _ => False)) fun k hk => hk.elim
 have e : ∀ {k},F k -> ext x.ro w.heap.size c k = x.ro k := fun hk => ext_lt (hi _ hk)
 exact ⟨hr.blk (by decide),hr.disk (by decide),hr.nts (by decide),hr.all (by decide) (by decide),hr.since (by decide) (by decide),hr.files (by decide),h.cap,
  Or.inl h.fs,fun k hk => Or.inl (h.fd k hk),fun k hk => Or.inl (h.fn k hk),fun k hk => Or.inl (h.fa k hk),fun k hk => Or.inl (h.fi k hk),fun k hk => Or.inl (h.fr k hk),
  (e h.fs).trans h.r0,fun k hk => (e (h.fd k hk)).trans (h.r1 k hk),fun k hk => (e (h.fn k hk)).trans (h.r2 k hk),fun k hk => (e (h.fa k hk)).trans (h.r3 k hk),fun k hk => (e (h.fi k hk)).trans (h.r4 k hk),fun k hk => (e (h.fr k hk)).trans (h.r5 k hk)⟩
theorem StM.below (h : StM w F s d S nt x) (hi : In F w) (hb : Below w.heap.size w w') : StM w' F s d S nt x := by
 have hr := h.rest hi 6 (Kept.of_below hb (fun _ => False)) fun k hk => hk.elim
 exact ⟨hr.blk (by decide),hr.disk (by decide),hr.nts (by decide),hr.all (by decide) (by decide),hr.since (by decide) (by decide),hr.files (by decide),h.cap,h.fs,h.fd,h.fn,h.fa,h.fi,h.fr,h.r0,h.r1,h.r2,h.r3,h.r4,h.r5⟩
theorem Plus.in_ (hi : In F w) (hs : w.heap.size <= w'.heap.size) : In (Plus F w w') w' := fun k hk => by
 rcases hk with h1 | h1
 ·have := hi k h1; omega
 ·exact h1.2
theorem StM.setDisk (h : StM w F s d S nt x) (hi : In F w) {Fd' : Nat -> Prop} (hd : ShIs w' Fd' d S') (st : Step x.Fd w Fd' w') : StM w' (Plus F w w') s d S' nt { x with Fd := Fd',ro := ext x.ro w.heap.size 1 } := by
 have hr := h.rest hi 1 st.kept fun k hk _ => h.r1 k hk
 have e : ∀ {k},F k -> ext x.ro w.heap.size 1 k = x.ro k := fun hk => ext_lt (hi _ hk)
 exact ⟨hr.blk (by decide),hd,hr.nts (by decide),hr.all (by decide) (by decide),hr.since (by decide) (by decide),hr.files (by decide),h.cap,
  Or.inl h.fs,fun k hk => (st.new k hk).imp (h.fd k) id,fun k hk => Or.inl (h.fn k hk),fun k hk => Or.inl (h.fa k hk),fun k hk => Or.inl (h.fi k hk),fun k hk => Or.inl (h.fr k hk),
  (e h.fs).trans h.r0,fun k hk => (st.new k hk).elim (fun h1 => (e (h.fd k h1)).trans (h.r1 k h1)) fun h1 => ext_ge h1.1,fun k hk => (e (h.fn k hk)).trans (h.r2 k hk),fun k hk => (e (h.fa k hk)).trans (h.r3 k hk),fun k hk => (e (h.fi k hk)).trans (h.r4 k hk),fun k hk => (e (h.fr k hk)).trans (h.r5 k hk)⟩
theorem StM.setNotes (h : StM w F s d S nt x) (hi : In F w) {Fn' : Nat -> Prop} (hd : NoIs w' Fn' x.q nt') (st : Step x.Fn w Fn' w') : StM w' (Plus F w w') s d S nt' { x with Fn := Fn',ro := ext x.ro w.heap.size 2 } := by
 have hr := h.rest hi 2 st.kept fun k hk _ => h.r2 k hk
 have e : ∀ {k},F k -> ext x.ro w.heap.size 2 k = x.ro k := fun hk => ext_lt (hi _ hk)
 exact ⟨hr.blk (by decide),hr.disk (by decide),hd,hr.all (by decide) (by decide),hr.since (by decide) (by decide),hr.files (by decide),h.cap,
  Or.inl h.fs,fun k hk => Or.inl (h.fd k hk),fun k hk => (st.new k hk).imp (h.fn k) id,fun k hk => Or.inl (h.fa k hk),fun k hk => Or.inl (h.fi k hk),fun k hk => Or.inl (h.fr k hk),
  (e h.fs).trans h.r0,fun k hk => (e (h.fd k hk)).trans (h.r1 k hk),fun k hk => (st.new k hk).elim (fun h1 => (e (h.fn k h1)).trans (h.r2 k h1)) fun h1 => ext_ge h1.1,fun k hk => (e (h.fa k hk)).trans (h.r3 k hk),fun k hk => (e (h.fi k hk)).trans (h.r4 k hk),fun k hk => (e (h.fr k hk)).trans (h.r5 k hk)⟩
theorem StM.setAll (h : StM w F s d S nt x) (hi : In F w) {T' : List TA} (hd : TbAt w' x.ma T') (st : Step (mapsF x.ma x.Ta) w (mapsF x.ma T') w') (hrow : ∀ k,allRows T' k -> F k /\ x.ro k = 5) : StM w' (Plus F w w') s d S nt { x with Ta := T',ro := ext x.ro w.heap.size 3 } := by
 have hr := h.rest hi 3 st.kept fun k hk _ => h.r3 k hk
 have e : ∀ {k},F k -> ext x.ro w.heap.size 3 k = x.ro k := fun hk => ext_lt (hi _ hk)
 exact ⟨hr.blk (by decide),hr.disk (by decide),hr.nts (by decide),hd,hr.since (by decide) (by decide),hr.files (by decide),h.cap,
  Or.inl h.fs,fun k hk => Or.inl (h.fd k hk),fun k hk => Or.inl (h.fn k hk),fun k hk => (st.new k hk).imp (h.fa k) id,fun k hk => Or.inl (h.fi k hk),fun k hk => Or.inl (hk.elim (fun h1 => (hrow k h1).1) fun h1 => h.fr k (Or.inr h1)),
  (e h.fs).trans h.r0,fun k hk => (e (h.fd k hk)).trans (h.r1 k hk),fun k hk => (e (h.fn k hk)).trans (h.r2 k hk),fun k hk => (st.new k hk).elim (fun h1 => (e (h.fa k h1)).trans (h.r3 k h1)) fun h1 => ext_ge h1.1,fun k hk => (e (h.fi k hk)).trans (h.r4 k hk),
  fun k hk => hk.elim (fun h1 => (e (hrow k h1).1).trans (hrow k h1).2) fun h1 => (e (h.fr k (Or.inr h1))).trans (h.r5 k (Or.inr h1))⟩
theorem StM.setSince (h : StM w F s d S nt x) (hi : In F w) {T' : List TA} (hd : TbAt w' x.ms T') (st : Step (mapsF x.ms x.Ts) w (mapsF x.ms T') w') (hrow : ∀ k,allRows T' k -> F k /\ x.ro k = 5) : StM w' (Plus F w w') s d S nt { x with Ts := T',ro := ext x.ro w.heap.size 4 } := by
 have hr := h.rest hi 4 st.kept fun k hk _ => h.r4 k hk
 have e : ∀ {k},F k -> ext x.ro w.heap.size 4 k = x.ro k := fun hk => ext_lt (hi _ hk)
 exact ⟨hr.blk (by decide),hr.disk (by decide),hr.nts (by decide),hr.all (by decide) (by decide),hd,hr.files (by decide),h.cap,
  Or.inl h.fs,fun k hk => Or.inl (h.fd k hk),fun k hk => Or.inl (h.fn k hk),fun k hk => Or.inl (h.fa k hk),fun k hk => (st.new k hk).imp (h.fi k) id,fun k hk => Or.inl (hk.elim (fun h1 => h.fr k (Or.inl h1)) fun h1 => h1.elim (fun h2 => (hrow k h2).1) fun h2 => h.fr k (Or.inr (Or.inr h2))),
  (e h.fs).trans h.r0,fun k hk => (e (h.fd k hk)).trans (h.r1 k hk),fun k hk => (e (h.fn k hk)).trans (h.r2 k hk),fun k hk => (e (h.fa k hk)).trans (h.r3 k hk),fun k hk => (st.new k hk).elim (fun h1 => (e (h.fi k h1)).trans (h.r4 k h1)) fun h1 => ext_ge h1.1,
  fun k hk => hk.elim (fun h1 => (e (h.fr k (Or.inl h1))).trans (h.r5 k (Or.inl h1))) fun h1 => h1.elim (fun h2 => (e (hrow k h2).1).trans (hrow k h2).2) fun h2 => (e (h.fr k (Or.inr (Or.inr h2)))).trans (h.r5 k (Or.inr (Or.inr h2)))⟩
theorem StM.kept (h : StM w G s d S nt x) (hk : Kept F w w') (ho : Off F G) (hi : In G w) : StM w' G s d S nt x := by
 have hr := h.rest hi 6 hk fun k h1 h2 => absurd h2 (ho k h1)
 exact ⟨hr.blk (by decide),hr.disk (by decide),hr.nts (by decide),hr.all (by decide) (by decide),hr.since (by decide) (by decide),hr.files (by decide),h.cap,h.fs,h.fd,h.fn,h.fa,h.fi,h.fr,h.r0,h.r1,h.r2,h.r3,h.r4,h.r5⟩
end
end Go.Proofs.YtmpcnhpdobdmcaaGreatDoor
namespace Go.Proofs.YtmpcnhpdobdmcaaGreatDoor
open Go Go.RowKit
theorem mutB_comes {m : ByteArray × Pa} (h : mutB m = true) : Comes m /\ m.1.size <= 1000 /\ m.2.key.size <= 1000 /\ m.2.tot <= 1000 := by
 unfold mutB at h
 rw [Bool.and_eq_true] at h
 have h1 := Pa.ok_of h.2
 have h2 : 0 <= m.2.gone := by
  have := h1.2.1
  unfold stm at this
  simp only [Bool.and_eq_true,decide_eq_true_iff] at this
  omega
 have h3 := h.1
 unfold nameB at h3
 simp only [Bool.and_eq_true,decide_eq_true_iff] at h3
 refine ⟨⟨Pa.ok_up h.2,h2,h1.2.2.1⟩,by omega,by omega,?_⟩
 have h4 : ∀ r ∈ m.2.rows,r.cols.length <= 8 := fun r hr => by
  have := rowsB_each h1.2.2.2 r hr
  unfold Ro.ok at this
  simp only [Bool.and_eq_true,decide_eq_true_iff] at this
  exact this.2.2.2.2.1
 have h5 : ∀ l : Rows,(∀ r ∈ l,r.cols.length <= 8) -> sumR l <= 8 * l.length := fun l hl => by
  induction l with
  | nil => exact Nat.zero_le _
  | cons r l ih =>
    have e1 := ih fun x hx => hl x (List.mem_cons_of_mem _ hx)
    have e2 := hl r (List.mem_cons_self ..)
    rw [sumR_cons,List.length_cons]
    omega
 have := h5 m.2.rows h4
 unfold Pa.tot
 omega
theorem ok_parts {b : Bt} (h : b.ok = true) : (∀ m ∈ b.muts,mutB m = true) /\ b.muts.length <= 64 /\ b.add.length <= 300 /\ b.drop.length <= 300 /\ (∀ x ∈ b.add,addB x = true) /\ ∀ v ∈ b.drop,dropB v = true := by
 unfold Bt.ok at h
 simp only [Bool.and_eq_true,decide_eq_true_iff,List.all_eq_true] at h
 exact ⟨h.2.1,h.1,h.2.2.1,h.2.2.2.2.1,h.2.2.2.1,h.2.2.2.2.2⟩
theorem comesM_of {y : BA} (h : y.bt.ok = true) : ComesM y.M := by
 obtain ⟨h1,h2,_⟩ := ok_parts h
 refine ⟨fun x hx => (mutB_comes (h1 (mutOf x) (List.mem_map.2 ⟨x,hx,rfl⟩))).1,fun x hx => ?_,?_⟩
 ·have := mutB_comes (h1 (mutOf x) (List.mem_map.2 ⟨x,hx,rfl⟩))
  exact ⟨this.2.1,this.2.2.1⟩
 ·have : (muts y.M).length <= 64 := h2
  unfold muts at this
  rw [List.length_map] at this
  omega
theorem rdT_of {w : World} {B n : Nat} {A : Option Addr} {l : List NA} (h : RdN w B A n l) : RdT w B A n l :=
 ⟨h.1,fun hn => by
   obtain ⟨g,o,e,hg,_⟩ := h.2 hn
   subst e
   exact ⟨g,o,rfl,hg,fun j u hu => by
    have e := h.all j u hu
    by_cases hj : j = 0
    ·subst hj; simpa [Addr.add] using e
    ·simpa [Addr.add,hj] using e⟩⟩
theorem rdI_of {w : World} {B n : Nat} {A : Option Addr} {l : List Int} (h : RdZ w B A n l) : RdI w B A n l := h
theorem wf_of {n : Int} (h0 : 1 <= n) (h1 : n <= 1099511627776) : (Lit.int .i64 n).wf = true := by
 simp only [Lit.wf,Bool.and_eq_true,decide_eq_true_eq]
 show -9223372036854775808 <= n /\ n <= 9223372036854775807
 omega
theorem addB_wf {x : NA} (h : addB x = true) : (Lit.int .i64 x.1).wf = true /\ x.2.size <= maxLen := by
 unfold addB at h
 simp only [Bool.and_eq_true,decide_eq_true_iff] at h
 exact ⟨wf_of (by omega) (by omega),by unfold maxLen; omega⟩
theorem dropB_wf {v : Int} (h : dropB v = true) : (Lit.int .i64 v).wf = true := by
 unfold dropB at h
 simp only [Bool.and_eq_true,decide_eq_true_iff] at h
 exact wf_of (by omega) (by omega)
structure TurnT (a0 a1 : Addr) (w w' : World) (T : List TA) (nt : Fl) (y : BA) (err : Value) (mo : Option Nat) : Prop where
 arg : y.bt.ok = false -> err = eV a0
 big : y.bt.ok = true -> ¬ (FitS ((muts y.M).foldl mutT (tbs T)) /\ fitN (dropsN nt y.D) y.N = true) -> err = eV a1
 fits : y.bt.ok = true -> FitS ((muts y.M).foldl mutT (tbs T)) -> fitN (dropsN nt y.D) y.N = true -> err = .nilIface /\ ∃ m O,mo = some m /\ TbAt w' m O /\ Turned T O (muts y.M) /\ (∀ k,mapsF m O k -> w.heap.size <= k) /\ ∀ k,allRows O k -> w.heap.size <= k
 below : Below w.heap.size w w'
structure Ready (T : List TA) (l : List (ByteArray × Pa)) : Prop where
 fits : FitS (tbs T)
 up : TbUp (tbs T)
 tot : ∀ t k p,look (l.foldl mutT (tbs T)) t k = some p -> p.tot <= 900000
theorem turned_s (a0 a1 a2 a3 : Addr) (F : Nat -> Prop) (s d : Nat) (S : Sh) (nt : Fl) (x : SP) (y : BA) (B : Nat) (w : World) (h : StM w F s d S nt x) (hE : ErIn F w a0 a1 a2 a3) (hy : LiesB w B y) (hB : B <= w.heap.size) (hf : BtF y) (hk : NOk nt)
    (hR : y.bt.ok = true -> Ready x.Ta (muts y.M)) :
    Calls Tryz.prog 46 #[.pointer (some ⟨s,0,none⟩),bV y] w fun e w' => ∃ err mo,e = .returned (.tuple #[.map mo,err]) /\ TurnT a0 a1 w w' x.Ta nt y err mo := by
 have b0 := (Below.refl w.heap.size w).alloc (Nat.le_refl _) (bO y)
 have n0 := heap_alloc_new w (bO y)
 have h1 := h.below hE.in_ b0
 have E1 := hE.below b0
 have y1 := hy.below (b0.mono hB)
 obtain ⟨W,hW⟩ : ∃ W,w.alloc (bO y) = W := ⟨_,rfl⟩
 have hs : W.heap.size = w.heap.size + 1 := by rw [<- hW]; simp
 rw [hW] at b0 n0 h1 E1 y1
 have H := hid h1; have HE := hid E1; have HY := hid y1; have HB := hid hB; have HF := hid hf; have HK := hid hk; have HR := hid hR; have B0 := hid b0; have N0 := hid n0; have HS := hid hs
 have z0 := cell_at (i := 0) n0 rfl
 have z1 := cell_at (i := 1) n0 rfl
 have z2 := cell_at (i := 2) n0 rfl
 clear h hE hy hB hf hk hR b0 h1 E1 y1 hs n0
 go_enter Tryz.func46,Tryz.ntmps46
 go_wp2_with fail
 refine (checkBatch_any y B W HY.out (by have := HB.out; have := HS.out; omega) HF.out).mono ?_
 rintro e w1 ⟨rfl,b1⟩
 have M1 := H.out.below HE.out.in_ b1
 have E1 := HE.out.below b1
 have n1 := (b1.block w.heap.size (by have := HS.out; omega)).trans N0.out
 have z0 := cell_at (i := 0) n1 rfl
 have z1 := cell_at (i := 1) n1 rfl
 have z2 := cell_at (i := 2) n1 rfl
 have v0 := E1.ers.v0
 have c1 := cell_at (i := 1) M1.blk rfl
 have bw1 := B0.out.trans (b1.mono (by have := HS.out; omega))
 have MH := hid M1; have EH := hid E1; have NH := hid n1; have BW := hid bw1; have B1 := hid b1
 clear M1 E1 n1 bw1 b1
 cases hok : y.bt.ok with
 | false =>
   go_wp2_with fail
   go_region_held3 (fun w' => w'.cell? ⟨0,0,none⟩ = some (eV a0)) (assumption) (fail)
   go_wp2
   go_ret2
   exact ⟨eV a0,none,rfl,fun _ => rfl,fun h => (by cases h.symm.trans hok),fun h => (by cases h.symm.trans hok),BW.out.drew⟩
 | true =>
   have hC := comesM_of hok
   have hRR := HR.out hok
   have hct : ∀ z ∈ y.M,(mutOf z).2.tot <= 1000 := fun z hz => (mutB_comes ((ok_parts hok).1 (mutOf z) (List.mem_map.2 ⟨z,hz,rfl⟩))).2.2.2
   have SLT : Hid (s < w1.heap.size) := hid (EH.out.in_ s MH.out.fs)
   have WLT : Hid (w.heap.size < w1.heap.size) := hid (Array.getElem?_eq_some_iff.1 NH.out).1
   have CM := hid hC; have RR := hid hRR; have CT := hid hct; have OK := hid hok
   clear hC hRR hct hok
   go_wp2_with fail
   go_region_held3 (fun w' => w'.cell? ⟨s,1,none⟩ = some (.map (some x.ma)) /\ w'.cell? ⟨w.heap.size,0,none⟩ = some (.slice y.AM y.M.length y.cM)) (refine ⟨?_,?_⟩ <;> assumption) (first
    | (go_at_call 77
       refine (join_t x.ma x.Ta y.AM y.M.length y.cM B y.M w1.drew (MH.out.all.agree (Nat.le_refl _) (fun _ _ => rfl) fun _ _ => rfl) (HY.out.muts.below (B1.out.mono (by have := HB.out; have := HS.out; omega)).drew) (by have := BW.out.size; have := HB.out; exact Nat.le_trans HB.out BW.out.size) RR.out.fits RR.out.up CM.out RR.out.tot CT.out).mono ?_
       rintro e w2 ⟨r,mo,rfl,hJ⟩
       have k1 : w2.cell? ⟨s,1,none⟩ = some (.map (some x.ma)) := (hJ.below.cell (p := ⟨s,1,none⟩) SLT.out).trans c1
       have k2 : w2.cell? ⟨w.heap.size,0,none⟩ = some (.slice y.AM y.M.length y.cM) := (hJ.below.cell (p := ⟨w.heap.size,0,none⟩) WLT.out).trans z0
       have N2 := hid hJ
       clear hJ))
   have b2 : Below w1.heap.size w1 w2 := (Below.refl w1.heap.size w1).drew.trans N2.out.below
   have M2 := MH.out.below EH.out.in_ b2
   have E2 := EH.out.below b2
   have n2 := (b2.block w.heap.size WLT.out).trans NH.out
   have z1 := cell_at (i := 1) n2 rfl
   have z2 := cell_at (i := 2) n2 rfl
   have v1 := E2.ers.v1
   have c3 := cell_at (i := 3) M2.blk rfl
   have bw2 := BW.out.trans (b2.mono BW.out.size)
   have y2 := (HY.out.below (B1.out.mono (by have := HB.out; have := HS.out; omega))).below (b2.mono (Nat.le_trans HB.out BW.out.size))
   have b12 := hid b2
   have M2H := hid M2; have E2H := hid E2; have B2 := hid bw2; have Y2 := hid y2
   clear b2 M2 E2 n2 bw2 y2 k1 k2 c1 z0
   cases hr : r with
   | false =>
     subst hr
     go_wp2_with fail
     refine wp_region_held_drew (S := fun w' => True) (by kernel_rfl) ?_ (fun hHeld => ?_)
     ·exact trivial
     refine takesH [0,1,2,3,4,5,6,7,8,9,10,11,12,13] ?_
     repeat
      refine takesH_one (v := ?_) ?_ ?_
      rotate_left
      ·first | (refine Or.inr ⟨by rfl,?_⟩; with_reducible rfl) | (refine Or.inl ⟨by rfl,?_⟩; intro wx hSw; (try dsimp only at hSw); first | (go_simp; first | done | with_reducible rfl))
      try simp only [Act.put,List.getElem_toArray,List.getElem_cons_succ,List.getElem_cons_zero,List.setIfInBounds_toArray,List.set_cons_zero,List.set_cons_succ]
     refine takesH_nil ?_
     refine wpAnyH_done (by kernel_rfl) ?_ _
     have q1 : w2.drew.cell? ⟨1,0,none⟩ = some (eV a1) := v1
     go_wp2_with fail
     go_region_held3 (fun w' => w'.cell? ⟨1,0,none⟩ = some (eV a1)) (assumption) (fail)
     go_wp2
     go_ret2
     exact ⟨eV a1,none,rfl,fun h => (by cases h.symm.trans OK.out),fun _ _ => rfl,fun _ h => (by cases N2.out.fits.2 h),B2.out.drew.drew⟩
   | true =>
     subst hr
     have hrt := rdT_of Y2.out.notes
     have hrd := Y2.out.drops.below (Below.refl B w2).drew
     have hfit := devN.fits x.Fn x.q nt y.AN y.AD y.N.length y.cN y.D.length y.cD B y.N y.D w2.drew (M2H.out.nts.kept (Kept.of_below (Below.refl _ w2).drew (fun _ => False)) (fun _ h => h.elim) fun k hk => E2H.out.in_ k (M2H.out.fn k hk)) (fun k hk => E2H.out.in_ k (M2H.out.fn k hk)) HK.out (hrt.below (Below.refl _ _).drew) (rdI_of hrd) (Nat.le_trans HB.out B2.out.size) (fun z hz => addB_wf ((ok_parts OK.out).2.2.2.2.1 z hz)) (fun z hz => dropB_wf ((ok_parts OK.out).2.2.2.2.2 z hz)) (by have := (ok_parts OK.out).2.2.1; show y.N.length <= 1000; exact Nat.le_trans this (by omega)) (by have := (ok_parts OK.out).2.2.2.1; show y.D.length <= 1000; exact Nat.le_trans this (by omega)) Y2.out.capN Y2.out.capD
     obtain ⟨fb,hfb⟩ : ∃ fb,fitN (dropsN nt y.D) y.N = fb := ⟨_,rfl⟩
     rw [hfb] at hfit
     have HFB := hid hfb; have FIT := hid hfit
     clear hrt hrd hfit hfb
     go_wp2_with fail
     go_region_held3 (fun w' => w'.cell? ⟨s,3,none⟩ = some (.pointer (some ⟨x.q,0,none⟩)) /\ w'.cell? ⟨w.heap.size,1,none⟩ = some (.slice y.AN y.N.length y.cN) /\ w'.cell? ⟨w.heap.size,2,none⟩ = some (.slice y.AD y.D.length y.cD)) (refine ⟨?_,?_,?_⟩ <;> assumption) (first
      | (go_at_call 78
         refine FIT.out.mono ?_
         rintro e w3 ⟨rfl,b3⟩
         have k1 : w3.cell? ⟨s,3,none⟩ = some (.pointer (some ⟨x.q,0,none⟩)) := (b3.cell (p := ⟨s,3,none⟩) (Nat.lt_of_lt_of_le SLT.out b12.out.size)).trans c3
         have k2 : w3.cell? ⟨w.heap.size,1,none⟩ = some (.slice y.AN y.N.length y.cN) := (b3.cell (p := ⟨w.heap.size,1,none⟩) (Nat.lt_of_lt_of_le WLT.out b12.out.size)).trans z1
         have k3 : w3.cell? ⟨w.heap.size,2,none⟩ = some (.slice y.AD y.D.length y.cD) := (b3.cell (p := ⟨w.heap.size,2,none⟩) (Nat.lt_of_lt_of_le WLT.out b12.out.size)).trans z2
         have B3 := hid ((Below.refl _ w2).drew.trans b3)
         clear b3))
     have v1 := (E2H.out.below B3.out).ers.v1
     have J3 := hid (N2.out.turned rfl)
     have hb := hid (B2.out.trans (B3.out.mono B2.out.size))
     cases fb with
     | false =>
       go_wp2_with fail
       go_region_held3 (fun w' => w'.cell? ⟨1,0,none⟩ = some (eV a1)) (assumption) (fail)
       go_wp2
       go_ret2
       exact ⟨eV a1,none,rfl,fun h => (by cases h.symm.trans OK.out),fun _ _ => rfl,fun _ _ h => (by cases h.symm.trans HFB.out),hb.out.drew⟩
     | true =>
       go_wp2
       go_ret2
       obtain ⟨m,O,hmo,hO,hT,hm,hr⟩ := J3.out
       refine ⟨.nilIface,mo,rfl,fun h => (by cases h.symm.trans OK.out),fun _ h => absurd ⟨N2.out.fits.1 rfl,HFB.out⟩ h,fun _ _ _ => ⟨rfl,m,O,hmo,hO.below B3.out,hT,fun k hk => Nat.le_trans BW.out.size (hm k hk),fun k hk => Nat.le_trans BW.out.size (hr k hk)⟩,hb.out⟩
theorem lay_s (n : Nat) (b : ByteArray) (w : World) (hn : n <= 1000000000) (hb : b.size <= 1000000000) :
    Calls Tryz.prog 48 #[.int .i64 (n : Nat),.string b] w fun e w' => e = .returned (.string ⟨(put n b.data.toList).toArray⟩) /\ Below w.heap.size w w' := by
 obtain ⟨a,ha⟩ : ∃ a,n % 128 = a := ⟨_,rfl⟩
 have ha1 : a < 128 := by omega
 have hrem : ((n : Nat) : Int).tmod 128 = (a : Nat) := by
  rw [Int.tmod_eq_emod_of_nonneg (by omega)]
  omega
 have hmk := run_makeB w a (by omega)
 have hrd := made_rd w a
 have bm := (Below.refl w.heap.size w).alloc (Nat.le_refl _) (.cells (madeCells (Value.int .u8 0).cells (a * 1)) 5)
 have hsz : (w.alloc (.cells (madeCells (Value.int .u8 0).cells (a * 1)) 5)).heap.size = w.heap.size + 1 := by simp
 obtain ⟨W,hW⟩ : ∃ W,w.alloc (.cells (madeCells (Value.int .u8 0).cells (a * 1)) 5) = W := ⟨_,rfl⟩
 rw [hW] at hmk hrd bm hsz
 have hput : put n b.data.toList = put a b.data.toList := by rw [<- ha,put_mod]
 rw [hput]
 have HRD := hid hrd; have BM := hid bm; have HS := hid hsz; have HB := hid hb
 clear hrd bm hsz hput hW ha hb
 go_enter Tryz.func48,Tryz.ntmps48
 go_wp2_with fail
 refine (gput_any (some ⟨w.heap.size,0,none⟩) a a (w.heap.size + 1) (List.replicate a 0) b W HRD.out (by rw [HS.out]; exact Nat.le_refl _) (Nat.le_refl _) (by unfold maxLen; omega) (by omega) (by have := HB.out; omega)).mono ?_
 rintro e w2 ⟨A2,n2,c2,rfl,hl2,hn2,hc2,hA2,hr2,hb2⟩
 have han : a <= n2 := by rw [<- hl2,List.length_append,List.length_replicate]; omega
 obtain ⟨A3,hsl,hr3⟩ := sl_l hr2 hn2 (a : Int) a rfl han
 have hcv := cv_string hr3 (c2 - a)
 have hd : (List.replicate a (0 : UInt8) ++ put a b.data.toList).drop a = put a b.data.toList := by
  rw [List.drop_append_of_le_length (by rw [List.length_replicate]; exact Nat.le_refl _),List.drop_of_length_le (by rw [List.length_replicate]; exact Nat.le_refl _),List.nil_append]
 rw [hd] at hcv
 have B2 := hid (BM.out.trans (hb2.mono BM.out.size))
 clear hl2 hn2 hc2 hA2 hr2 hb2 han hr3 hd
 go_wp2
 go_ret
 exact ⟨rfl,B2.out⟩
theorem sput_s (a0 a1 a2 a3 : Addr) (F : Nat -> Prop) (s d : Nat) (S S' : Sh) (nt : Fl) (x : SP) (b : ByteArray) (r : Int) (w : World) (h : StM w F s d S nt x) (hE : ErIn F w a0 a1 a2 a3) (hb : b.size <= 1000000)
    (happ : S.app ⟨(put S.log.length b.data.toList).toArray⟩ = (S',r)) (hr : r = 0 \/ r = 2) :
    Calls Tryz.prog 87 #[.pointer (some ⟨s,0,none⟩),.string b] w fun e w' => e = .returned (if r = 0 then .nilIface else eV a1) /\ Kept F w w' /\ ∃ x',x'.data = x.data /\ StM w' (Plus F w w') s d S' nt x' := by
 have c0 : w.drew.cell? ⟨s,0,none⟩ = some (.pointer (some ⟨d,0,none⟩)) := cell_at (i := 0) h.blk rfl
 have hi := hE.in_
 have hsl : s < w.heap.size := hi s h.fs
 obtain ⟨n,hn⟩ : ∃ n,S.log.length = n := ⟨_,rfl⟩
 have hn1 : n <= 262144 := by rw [<- hn]; exact h.disk.ok.log
 have hlz : (⟨S.log.toArray⟩ : ByteArray).size = n := by rw [<- hn]; simp [ByteArray.size]
 have H := hid h; have HI := hid hi; have HB := hid hb; have HE := hid hE
 obtain ⟨P,hP⟩ : ∃ P,put n b.data.toList = P := ⟨_,rfl⟩
 have hPl : P.length <= 16000000 := by
  have := put_length_le n b.data.toList
  rw [hP] at this
  have h2 := Lib.size_eq b
  omega
 rw [hn] at happ
 have HA := hid happ
 have HPL : Hid ((put n b.data.toList).length <= 16000000) := hid (by rw [hP]; exact hPl)
 clear h hi hE hb hn hP hPl happ
 have key : ∀ w2,Below w.drew.heap.size w.drew w2 -> Calls Tryz.prog 20 #[.pointer (some ⟨d,0,none⟩),.string ⟨(put n b.data.toList).toArray⟩] w2 fun e w3 => e = .returned (.int .i64 r) /\ Ers w3 a0 a1 a2 a3 /\ Kept F w w3 /\ ∃ x',x'.data = x.data /\ StM w3 (Plus F w w3) s d S' nt x' := fun w2 b2 => by
  have bw2 : Below w.heap.size w w2 := ((Below.refl _ _).drew).trans b2
  have S2 := H.out.below HI.out bw2
  refine (append_any x.Fd d S ⟨(put n b.data.toList).toArray⟩ w2 S2.disk (by show (put n b.data.toList).toArray.size <= _; rw [List.size_toArray]; have := HPL.out; omega)).mono ?_
  rintro e w3 ⟨rfl,Fd',hd,st⟩
  rw [HA.out] at hd
  have e9 : (S.app ⟨(put n b.data.toList).toArray⟩).2 = r := by rw [HA.out]
  rw [e9]
  have hk : Kept F w w3 := (Kept.of_below bw2 F).trans (st.kept.mono H.out.fd) fun k hk => Or.inl hk
  have M3 := S2.setDisk (fun k hk => Nat.lt_of_lt_of_le (HI.out k hk) bw2.size) hd st
  exact ⟨rfl,(HE.out.plus hk).ers,hk,{ x with Fd := Fd',ro := ext x.ro w2.heap.size 1 },rfl,M3.more (G := Plus F w w3) fun k hk => hk.imp id fun h => ⟨Nat.le_trans bw2.size h.1,h.2⟩⟩
 have KEY := hid key
 clear key
 rcases hr with rfl | rfl
 all_goals
  go_enter Tryz.func87,Tryz.ntmps87
  go_wp2_with fail
  go_region_held3 (fun w' => w'.cell? ⟨s,0,none⟩ = some (.pointer (some ⟨d,0,none⟩))) (assumption) (first
   | (go_at_call 19; refine (log_any x.Fd d S _ H.out.disk.drew).mono ?_; rintro e w1 ⟨rfl,rfl⟩)
   | (go_at_call 48; refine (lay_s n b _ (by omega) (by have := HB.out; omega)).mono ?_; rintro e w2 ⟨rfl,b2⟩; have c2 : w2.cell? ⟨s,0,none⟩ = some (.pointer (some ⟨d,0,none⟩)) := (b2.cell (p := ⟨s,0,none⟩) hsl).trans c0)
   | (go_at_call 20; refine (KEY.out _ b2).mono ?_; rintro e w3 ⟨rfl,hE3,hk3,x',hx',hM3⟩; have v1 := hE3.v1; have c3 : w3.cell? ⟨s,0,none⟩ = some (.pointer (some ⟨d,0,none⟩)) := cell_at (i := 0) hM3.blk rfl; have HK3 := hid hk3; have HX3 := hid hx'; have HM3 := hid hM3; clear hE3 hk3 hx' hM3))
  go_wp2
  go_ret
  exact ⟨rfl,HK3.out,x',HX3.out,HM3.out⟩
theorem lay_len (c : List UInt8) : ∀ (n : Nat) (r : Nat) (o : Bool),c.length <= n -> 0 < r -> r <= 122 -> (lay r o c).length = c.length + 6 * (1 + (c.length - r + 121) / 122) := by
 intro n
 induction n generalizing c with
 | zero =>
   intro r o hn h0 hr
   rw [lay_short (by omega),pc_length]
   omega
 | succ n ih =>
   intro r o hn h0 hr
   by_cases hc : c.length <= r
   ·rw [lay_short hc,pc_length]
    omega
   ·rw [lay_long h0 (by omega),List.length_append,pc_length,ih (c.drop r) 122 false (by rw [List.length_drop]; omega) (by omega) (Nat.le_refl _),List.length_drop,List.length_take]
    omega
theorem put_zero_le (n : Nat) (b : List UInt8) : (put 0 b).length <= (put n b).length := by
 have h0 := at_full (p := 0) rfl
 have hr := rm_pos n
 unfold put frm
 rw [List.length_append,List.length_append,List.length_replicate,List.length_replicate,h0.1,h0.2,lay_len b b.length 122 true (Nat.le_refl _) (by omega) (Nat.le_refl _),lay_len b b.length (rm n) true (Nat.le_refl _) hr.1 hr.2]
 omega
theorem slog_s (a0 a1 a2 a3 : Addr) (F : Nat -> Prop) (s d : Nat) (S : Sh) (nt : Fl) (x : SP) (b : ByteArray) (w : World) (h : StM w F s d S nt x) (hE : ErIn F w a0 a1 a2 a3) (hb : b.size <= 1000000)
    (hroom : S.log.length + (put S.log.length b.data.toList).length <= 262144) :
    Calls Tryz.prog 53 #[.pointer (some ⟨s,0,none⟩),.string b] w fun e w' => e = .returned .nilIface /\ Kept F w w' /\ ∃ x',x'.data = x.data /\ StM w' (Plus F w w') s d { S with log := S.log ++ put S.log.length b.data.toList } nt x' := by
 have h0 : (put 0 b.data.toList).length <= 262144 := by have := put_zero_le S.log.length b.data.toList; omega
 have hz0 : ((⟨(put 0 b.data.toList).toArray⟩ : ByteArray).size : Nat) = (put 0 b.data.toList).length := by simp [ByteArray.size]
 obtain ⟨z,hz⟩ : ∃ z,(put 0 b.data.toList).length = z := ⟨_,rfl⟩
 rw [hz] at hz0 h0
 have happ : S.app ⟨(put S.log.length b.data.toList).toArray⟩ = ({ S with log := S.log ++ put S.log.length b.data.toList },0) := by
  unfold Sh.app
  rw [if_neg (by show ¬ 262144 < S.log.length + (put S.log.length b.data.toList).toArray.size; rw [List.size_toArray]; omega)]
 have H := hid h; have HE := hid hE; have HB := hid hb; have HA := hid happ
 clear h hE hb happ hz hroom
 go_enter Tryz.func53,Tryz.ntmps53
 go_wp2_with fail
 refine (lay_s 0 b w (by omega) (by have := HB.out; omega)).mono ?_
 rintro e w1 ⟨rfl,b1⟩
 have M1 := hid (H.out.below HE.out.in_ b1)
 have E1 := hid (HE.out.below b1)
 have B1 := hid b1
 clear b1
 go_wp2_with fail
 refine (sput_s a0 a1 a2 a3 F s d S _ nt x b 0 w1 M1.out E1.out HB.out HA.out (Or.inl rfl)).mono ?_
 rintro e w2 ⟨rfl,hk2,x',hx',hM2⟩
 have E2 := E1.out.plus hk2
 have v1 := E2.ers.v1
 have K2 := hid hk2; have X2 := hid hx'; have M2 := hid hM2
 clear hk2 hx' hM2 E2
 rw [if_pos rfl]
 go_wp2_with (go_at_call 43; refine (is_nil a1 _).mono ?_; rintro e w' ⟨rfl,rfl⟩)
 go_ret
 exact ⟨rfl,(Kept.of_below B1.out F).trans K2.out fun k hk => Or.inl hk,x',X2.out,M2.out.more fun k hk => hk.imp id fun h => ⟨Nat.le_trans B1.out.size h.1,h.2⟩⟩
theorem StM.adopt {w : World} {F : Nat -> Prop} {s d : Nat} {S : Sh} {nt : Fl} {x : SP} (h : StM w F s d S nt x) (Q : Nat -> Prop) (c : Nat) (hQ : ∀ k,Q k -> ¬ F k) :
    ∃ ro,StM w (fun k => F k \/ Q k) s d S nt { x with ro := ro } /\ ∀ k,Q k -> ro k = c := by
 classical
 have e : ∀ {k},F k -> (if Q k then c else x.ro k) = x.ro k := fun hk => if_neg fun hq => hQ _ hq hk
 exact ⟨fun k => if Q k then c else x.ro k,⟨h.blk,h.disk,h.nts,h.all,h.since,h.files,h.cap,Or.inl h.fs,fun k hk => Or.inl (h.fd k hk),fun k hk => Or.inl (h.fn k hk),fun k hk => Or.inl (h.fa k hk),fun k hk => Or.inl (h.fi k hk),fun k hk => Or.inl (h.fr k hk),
  (e h.fs).trans h.r0,fun k hk => (e (h.fd k hk)).trans (h.r1 k hk),fun k hk => (e (h.fn k hk)).trans (h.r2 k hk),fun k hk => (e (h.fa k hk)).trans (h.r3 k hk),fun k hk => (e (h.fi k hk)).trans (h.r4 k hk),fun k hk => (e (h.fr k hk)).trans (h.r5 k hk)⟩,fun k hk => if_pos hk⟩
theorem took_tbs {T O T' : List TA} {l : List (ByteArray × Pa)} (hT : TaOk T) (hT' : TaOk T') (ho : Turned T O l) (hl : ∀ t k,lookA T' t k = over2 (lookA T t k) (lookA O t k)) : tbs T' = l.foldl mutT (tbs T) := by
 refine tb_ext hT'.tbs (hT.tbs.muts l) fun t k => ?_
 rw [look_tbs,hl]
 have h1 := ho t k
 by_cases e : hits l t k = true
 ·rw [if_pos e] at h1
  cases e2 : lookA O t k with
  | none =>
    exfalso
    rw [e2] at h1
    have h2 := look_hit (l := l) (t := t) (k := k) hT.tbs
    rw [e,Bool.or_true,<- h1] at h2
    cases h2
  | some p => rw [e2] at h1; exact h1
 ·rw [if_neg e] at h1
  cases e2 : lookA O t k with
  | some p => rw [e2] at h1; cases h1
  | none =>
    rw [look_miss hT.tbs (by cases e3 : hits l t k with | true => exact absurd e3 e | false => rfl),look_tbs]
    rfl
theorem took_rows {T O T' : List TA} (hT : TaOk T) (hO : TaOk O) (hT' : TaOk T') (hl : ∀ t k,lookA T' t k = over2 (lookA T t k) (lookA O t k)) {k : Nat} (hk : allRows T' k) : allRows T k \/ allRows O k := by
 obtain ⟨t,key,p,hp,hr⟩ := (allRows_look hT').1 hk
 rw [hl] at hp
 cases e : lookA O t key with
 | some q => rw [e] at hp; injection hp with hp; subst hp; exact Or.inr ((allRows_look hO).2 ⟨t,key,q,e,hr⟩)
 | none => rw [e] at hp; exact Or.inl ((allRows_look hT).2 ⟨t,key,p,hp,hr⟩)
theorem turned_few {T O : List TA} {l : List (ByteArray × Pa)} (hT : TaOk T) (hO : TaOk O) (ho : Turned T O l) (hf : FitS (l.foldl mutT (tbs T))) : O.length <= 8 /\ ∀ t,(xsOf O t).length <= 100 := by
 have hS := hT.tbs.muts l
 have hk : ∀ t k p,lookA O t k = some p -> (look (l.foldl mutT (tbs T)) t k).isSome = true := fun t k p hp => by
  have h1 := ho.hit hT t k
  rw [hp] at h1
  rw [look_hit hT.tbs,<- h1]
  simp
 constructor
 ·have := riseK_few (key := TA.nm) (l := O) (ks := (l.foldl mutT (tbs T)).map Tb.nm) hO.rise fun x hx => by
   obtain ⟨k,p,hp⟩ := look_some_of hO hx
   exact mem_keys.2 ((keys_tb hS _).2 ⟨k,hk _ _ _ hp⟩)
  rw [List.length_map] at this
  exact Nat.le_trans this hf.tabs
 ·intro t
  have := riseK_few (key := PA.k) (l := xsOf O t) (ks := (psOf (l.foldl mutT (tbs T)) t).map Pa.key) (hO.xsRise t) fun p hp => by
   have hl : lookA O t p.k = some p := getK_mem (hO.xsRise t) hp
   exact mem_keys.2 (hk _ _ _ hl)
  rw [List.length_map] at this
  exact Nat.le_trans this (hf.len t)
theorem addsN_take (S : Fl) (L : Fl) {t : Nat} (h : t < L.length) : addsN S (L.take (t + 1)) = (addN (addsN S (L.take t)) L[t].1 L[t].2).1 := by
 unfold addsN
 rw [List.take_succ_eq_append_getElem h,List.foldl_append]
 rfl
theorem few_ta {T : List TA} (hf : FitS (tbs T)) : T.length <= 8 /\ ∀ t,(xsOf T t).length <= 100 := by
 refine ⟨by have := hf.tabs; unfold tbs at this; rwa [List.length_map] at this,fun t => ?_⟩
 have := hf.len t
 rw [psOf_tbs] at this
 unfold pas at this
 rwa [List.length_map] at this
theorem keep_s (a0 a1 a2 a3 : Addr) (F : Nat -> Prop) (s d : Nat) (S : Sh) (nt : Fl) (x : SP) (y : BA) (B m : Nat) (O : List TA) (w : World) (h : StM w F s d S nt x) (hE : ErIn F w a0 a1 a2 a3) (hy : LiesB w B y) (hB : B <= w.heap.size) (hyo : ∀ k,y.blk k -> ¬ F k)
    (hok : y.bt.ok = true) (hk : NOk nt) (hO : TbAt w m O) (hT : Turned x.Ta O (muts y.M)) (hm : ∀ k,mapsF m O k -> ¬ F k) (hrow : ∀ k,allRows O k -> F k /\ x.ro k = 5)
    (hRa : FitS (tbs x.Ta)) (hRf : FitS ((muts y.M).foldl mutT (tbs x.Ta))) (hRs : Ready x.Ts (muts y.M)) (hRt : FitS ((muts y.M).foldl mutT (tbs x.Ts))) :
    Calls Tryz.prog 47 #[.pointer (some ⟨s,0,none⟩),bV y,.map (some m)] w fun e w' => e = .returned (.tuple #[]) /\ ∃ F' x' T' T2,StM w' F' s d S (addsN (dropsN nt y.D) y.N) x' /\ x'.data = ((x.ma,x.ms,x.q),(T',T2),(x.A,x.c,x.fl,x.last)) /\ tbs T' = (muts y.M).foldl mutT (tbs x.Ta) /\ tbs T2 = (muts y.M).foldl mutT (tbs x.Ts) /\ ErIn F' w' a0 a1 a2 a3 /\ Step F w F' w' := by
 have b0 := (Below.refl w.heap.size w).alloc (Nat.le_refl _) (bO y)
 have n0 := heap_alloc_new w (bO y)
 have h1 := h.below hE.in_ b0
 have E1 := hE.below b0
 have y1 := hy.below (b0.mono hB)
 have O1 := hO.below b0
 obtain ⟨W,hW⟩ : ∃ W,w.alloc (bO y) = W := ⟨_,rfl⟩
 have hs : W.heap.size = w.heap.size + 1 := by rw [<- hW]; simp
 have hiw := hE.in_
 rw [hW] at b0 n0 h1 E1 y1 O1
 have hBW : B <= W.heap.size := by omega
 have hfw := turned_few h1.all.ok O1.ok hT hRf
 have hfa := few_ta hRa
 have H := hid h1; have HE := hid E1; have HY := hid y1; have HB := hid hBW; have HYO := hid hyo; have HK := hid hk; have HOK := hid (ok_parts hok); have OH := hid O1; have TU := hid hT; have HM := hid hm; have HROW := hid hrow
 have HRA := hid hRa; have HRS := hid hRs; have HRT := hid hRt; have HFW := hid hfw; have HFA := hid hfa; have B0 := hid b0; have N0 := hid n0; have HS := hid hs; have HIW := hid hiw; have HC := hid (comesM_of hok)
 have CT : Hid (∀ z ∈ y.M,(mutOf z).2.tot <= 1000) := hid fun z hz => (mutB_comes ((ok_parts hok).1 (mutOf z) (List.mem_map.2 ⟨z,hz,rfl⟩))).2.2.2
 have c1 : W.cell? ⟨s,1,none⟩ = some (.map (some x.ma)) := cell_at (i := 1) h1.blk rfl
 clear h hE hy hB hyo hk hok hO hT hm hrow hRa hRf hRs hRt b0 h1 E1 y1 O1 n0 hs hfw hfa hiw hBW
 go_enter Tryz.func47,Tryz.ntmps47
 go_wp2_with fail
 refine (take_t x.ma m x.Ta O W H.out.all OH.out (fun k hk1 hk2 => HM.out k hk2 (H.out.fa k hk1)) (by have := HFW.out.1; have := HFA.out.1; omega) (fun t => by have := HFW.out.2 t; have := HFA.out.2 t; omega)).mono ?_
 rintro e w1 ⟨rfl,T',hT⟩
 have k1 : Kept F W w1 := hT.step.kept.mono H.out.fa
 have M1 := H.out.setAll HE.out.in_ hT.at_ hT.step fun k hk => (took_rows H.out.all.ok OH.out.ok hT.at_.ok hT.look hk).elim (fun h => ⟨H.out.fr k (Or.inl h),H.out.r5 k (Or.inl h)⟩) (HROW.out k)
 have tb1 := took_tbs H.out.all.ok hT.at_.ok TU.out hT.look
 have E1 := HE.out.plus k1
 have y1 := HY.out.kept HB.out k1 HYO.out
 have hwF : ¬ F w.heap.size := fun hf => Nat.lt_irrefl _ (HIW.out _ hf)
 have n1 := (k1.block w.heap.size (by have := HS.out; omega) hwF).trans N0.out
 have c2 : w1.cell? ⟨s,2,none⟩ = some (.map (some x.ms)) := cell_at (i := 2) M1.blk rfl
 have z0 : w1.cell? ⟨w.heap.size,0,none⟩ = some (.slice y.AM y.M.length y.cM) := cell_at (i := 0) n1 rfl
 have SLT : Hid (s < w1.heap.size) := hid (E1.in_ s M1.fs)
 have WLT : Hid (w.heap.size < w1.heap.size) := hid (Array.getElem?_eq_some_iff.1 n1).1
 have M1H := hid M1; have TB1 := hid tb1; have E1H := hid E1; have Y1 := hid y1; have K1 := hid k1; have N1 := hid n1; have WF := hid hwF
 have HB1 := hid (Nat.le_trans HB.out k1.size)
 clear hT k1 M1 tb1 E1 y1 n1 hwF c1
 go_wp2_with fail
 go_region_held3 (fun w' => w'.cell? ⟨s,2,none⟩ = some (.map (some x.ms)) /\ w'.cell? ⟨w.heap.size,0,none⟩ = some (.slice y.AM y.M.length y.cM)) (refine ⟨?_,?_⟩ <;> assumption) (first
  | (go_at_call 77
     refine (join_t x.ms x.Ts y.AM y.M.length y.cM B y.M w1.drew (M1H.out.since.agree (Nat.le_refl _) (fun _ _ => rfl) fun _ _ => rfl) (Y1.out.muts.below (Below.refl _ _).drew) HB1.out HRS.out.fits HRS.out.up HC.out HRS.out.tot CT.out).mono ?_
     rintro e w2 ⟨r,mo,rfl,hJ⟩
     obtain rfl : r = true := hJ.fits.2 HRT.out
     obtain ⟨m2,O2,rfl,hO2,hT2,hm2,hr2⟩ := hJ.turned rfl
     have k1 : w2.cell? ⟨s,2,none⟩ = some (.map (some x.ms)) := (hJ.below.cell (p := ⟨s,2,none⟩) SLT.out).trans c2
     have k2 : w2.cell? ⟨w.heap.size,0,none⟩ = some (.slice y.AM y.M.length y.cM) := (hJ.below.cell (p := ⟨w.heap.size,0,none⟩) WLT.out).trans z0
     have B2 : Hid (Below w1.heap.size w1 w2) := hid ((Below.refl w1.heap.size w1).drew.trans hJ.below)
     have O2H := hid hO2; have T2H := hid hT2; have M2F := hid hm2; have R2F := hid hr2
     clear hJ hO2 hT2 hm2 hr2))
 have M2 := M1H.out.grow E1H.out.in_ B2.out 5
 have k2 := Kept.of_below B2.out (Plus F W w1)
 have E2 := E1H.out.plus k2
 have n2 := (B2.out.block _ WLT.out).trans N1.out
 have y2 := Y1.out.below (B2.out.mono HB1.out)
 have c2 : w2.cell? ⟨s,2,none⟩ = some (.map (some x.ms)) := cell_at (i := 2) M2.blk rfl
 have hfw := turned_few M1H.out.since.ok O2H.out.ok T2H.out HRT.out
 have hfa := few_ta HRS.out.fits
 have hoff : ∀ k,mapsF x.ms x.Ts k -> ¬ mapsF m2 O2 k := fun k hk hk2 => by
  have h1 := M1H.out.since.lt hk
  have h2 := M2F.out k hk2
  exact absurd h2 (by show ¬ w1.heap.size <= k; omega)
 have M2H := hid M2; have E2H := hid E2; have N2 := hid n2; have Y2 := hid y2; have K2 := hid k2; have HFW2 := hid hfw; have HFA2 := hid hfa; have OFF2 := hid hoff
 clear M2 k2 E2 n2 y2 hfw hfa hoff k1
 go_wp2_with fail
 refine (take_t x.ms m2 x.Ts O2 w2 M2H.out.since O2H.out OFF2.out (by have := HFW2.out.1; have := HFA2.out.1; omega) (fun t => by have := HFW2.out.2 t; have := HFA2.out.2 t; omega)).mono ?_
 rintro e w3 ⟨rfl,T2,hT⟩
 have k3 : Kept (Plus (Plus F W w1) w1 w2) w2 w3 := hT.step.kept.mono M2H.out.fi
 have M3 := M2H.out.setSince E2H.out.in_ hT.at_ hT.step fun k hk => (took_rows M2H.out.since.ok O2H.out.ok hT.at_.ok hT.look hk).elim (fun h => ⟨M2H.out.fr k (Or.inr (Or.inl h)),M2H.out.r5 k (Or.inr (Or.inl h))⟩) fun h => by
  have h1 := R2F.out k h
  have h2 : w1.heap.size <= k := h1
  exact ⟨Or.inr ⟨h2,O2H.out.rows_lt h⟩,ext_ge h2⟩
 have tb2 := took_tbs M1H.out.since.ok hT.at_.ok T2H.out hT.look
 have E3 := E2H.out.plus k3
 have st3 : Step F W (Plus (Plus (Plus F W w1) w1 w2) w2 w3) w3 := ((Step.plus K1.out).trans (Step.plus K2.out)).trans (Step.plus k3)
 obtain ⟨F3,hF3⟩ : ∃ F3,Plus (Plus (Plus F W w1) w1 w2) w2 w3 = F3 := ⟨_,rfl⟩
 rw [hF3] at M3 E3 st3
 obtain ⟨D0,hD0⟩ : ∃ D0,((x.ma,x.ms,x.q),(T',T2),(x.A,x.c,x.fl,x.last)) = D0 := ⟨_,rfl⟩
 obtain ⟨x3,hx3,M3⟩ : ∃ x3 : SP,x3.data = D0 /\ StM w3 F3 s d S nt x3 := by
  refine ⟨_,?_,M3⟩
  exact hD0
 have y3 := HY.out.kept HB.out st3.kept HYO.out
 have n3 := (st3.kept.block w.heap.size (by have := HS.out; omega) WF.out).trans N0.out
 have z1 : w3.cell? ⟨w.heap.size,1,none⟩ = some (.slice y.AN y.N.length y.cN) := cell_at (i := 1) n3 rfl
 have z2 : w3.cell? ⟨w.heap.size,2,none⟩ = some (.slice y.AD y.D.length y.cD) := cell_at (i := 2) n3 rfl
 have M3H := hid M3; have TB2 := hid tb2; have E3H := hid E3; have ST3 := hid st3; have DH := hid hD0; have X3 := hid hx3
 have XQ : Hid (D0.1.2.2 = x.q) := hid (by rw [<- hD0])
 have FD : Hid (∀ w',Kept F W w' -> RdZ w' B y.AD y.D.length y.D) := hid fun w' k => (HY.out.kept HB.out k HYO.out).drops
 have FN : Hid (∀ w',Kept F W w' -> RdT w' B y.AN y.N.length y.N) := hid fun w' k => rdT_of (HY.out.kept HB.out k HYO.out).notes
 have FDw : Hid (∀ v ∈ y.D,(Lit.int .i64 v).wf = true) := hid fun v hv => dropB_wf (HOK.out.2.2.2.2.2 v hv)
 have FNw : Hid (∀ v ∈ y.N,(Lit.int .i64 v.1).wf = true /\ v.2.size <= maxLen) := hid fun v hv => addB_wf (HOK.out.2.2.2.2.1 v hv)
 clear hT k3 M3 tb2 E3 st3 hD0 hx3 y3 n3 c2 hF3 z0
 go_wp2_with fail
 have ld : y.D.length <= 300 := HOK.out.2.2.2.1
 have ln : y.N.length <= 300 := HOK.out.2.2.1
 clear HY HYO HC CT HOK Y1 Y2 HRS HRT HFW HFA HFW2 HFA2 OFF2 M2F R2F T2H O2H M1H M2H E1H E2H
 obtain ⟨AD,hAD⟩ : ∃ A,y.AD = A := ⟨_,rfl⟩
 obtain ⟨AN,hAN⟩ : ∃ A,y.AN = A := ⟨_,rfl⟩
 obtain ⟨cD,hcD⟩ : ∃ A,y.cD = A := ⟨_,rfl⟩
 obtain ⟨cN,hcN⟩ : ∃ A,y.cN = A := ⟨_,rfl⟩
 obtain ⟨D,hD⟩ : ∃ A,y.D = A := ⟨_,rfl⟩
 obtain ⟨N,hN⟩ : ∃ A,y.N = A := ⟨_,rfl⟩
 obtain ⟨nd,hnd⟩ : ∃ A,D.length = A := ⟨_,rfl⟩
 obtain ⟨nn,hnn⟩ : ∃ A,N.length = A := ⟨_,rfl⟩
 rw [hD,hnd] at ld
 rw [hN,hnn] at ln
 rw [hAD,hD,hnd] at FD
 rw [hAN,hN,hnn] at FN
 rw [hD] at FDw
 rw [hN] at FNw
 rw [hAN,hN,hnn,hcN] at z1
 rw [hAD,hD,hnd,hcD] at z2
 rw [hAD,hD,hnd,hcD]
 have HAD := hid hAD; have HAN := hid hAN; have HCD := hid hcD; have HCN := hid hcN; have HDD := hid hD; have HNN := hid hN; have HND := hid hnd; have HNL := hid hnn; have HWW := hid hW
 clear hAD hAN hcD hcN hD hN hnd hnn hW
 go_loopw [37] (fun i wr => ∃ (t : Nat) (F' : Nat -> Prop) (x' : SP),t <= nd /\ i = .int .i64 t /\ StM wr F' s d S (dropsN nt (D.take t)) x' /\ x'.data = D0 /\ ErIn F' wr a0 a1 a2 a3 /\ Step F W F' wr) (fun i _ => nd - (intOf i).toNat)
 case atStart => exact ⟨0,F3,x3,Nat.zero_le _,rfl,M3H.out,X3.out,E3H.out,ST3.out⟩
 case round =>
  obtain ⟨t,F',x',ht,rfl,hM,hx,hE,hst⟩ := hrel
  have MR := hid hM; have XR := hid hx; have ER := hid hE; have SR := hid hst
  have hq := hid <| show x'.q = x.q from (SP.data_eq (hx.trans (by rw [<- X3.out] : D0 = x3.data))).2.2.1.trans ((congrArg (fun z => z.1.2.2) X3.out).trans XQ.out)
  have c3 : wr.cell? ⟨s,3,none⟩ = some (.pointer (some ⟨x'.q,0,none⟩)) := cell_at (i := 3) hM.blk rfl
  clear hM hx hE hst z1 z2
  by_cases hlt : t < nd
  ·have i1 : (t : Int) < nd := by omega
   have i0 : (0 : Int) <= t := by omega
   have htl : t < D.length := by rw [HND.out]; exact hlt
   obtain ⟨g0,o0,rfl,hg0,hcs⟩ := (FD.out wr SR.out.kept).2 (by omega)
   have z0 := hcs t htl
   have hwx := FDw.out D[t] (List.getElem_mem htl)
   have htk := dropsN_take nt D htl
   obtain ⟨v,hv⟩ : ∃ v,D[t] = v := ⟨_,rfl⟩
   rw [hv] at z0 hwx htk
   have HWX := hid hwx; have HTK := hid htk
   clear hcs hwx htk hv hg0
   go_wp2_with fail
   refine (devN.drop x'.Fn x'.q _ v wr MR.out.nts (fun k hk => ER.out.in_ k (MR.out.fn k hk)) (HK.out.drops _) HWX.out).mono ?_
   rintro e w4 ⟨rfl,Fn4,h4,st4⟩
   have M4 := MR.out.setNotes ER.out.in_ h4 st4
   rw [<- HTK.out] at M4
   have k4 : Kept F' wr w4 := st4.kept.mono MR.out.fn
   have E4 := hid (ER.out.plus k4)
   have S4 := hid (SR.out.trans (Step.plus k4))
   have M4H := hid M4
   clear h4 st4 z0 M4 k4 c3
   go_wp2
   go_roundw
   case rel => exact ⟨t + 1,_,_,by omega,by go_num,M4H.out,XR.out,E4.out,S4.out⟩
   case measure => simp [intOf]; omega
  ·obtain rfl : t = nd := by omega
   have j1 : decide ((t : Int) < (t : Int)) = false := decide_eq_false (by omega)
   have hM := MR.out
   rw [List.take_of_length_le (by rw [HND.out]; exact Nat.le_refl _)] at hM
   have HM2 := hid hM
   have HK2 := hid (HK.out.drops D)
   have n3 := (SR.out.kept.block w.heap.size (by have := HS.out; omega) WF.out).trans N0.out
   have z1 : wr.cell? ⟨w.heap.size,1,none⟩ = some (.slice y.AN y.N.length y.cN) := cell_at (i := 1) n3 rfl
   rw [HAN.out,HNN.out,HNL.out,HCN.out] at z1
   clear hM MR n3 c3 hq
   go_wp2_with fail
   obtain ⟨U,hU⟩ : ∃ U,U = wr := ⟨_,rfl⟩
   subst hU
   go_loopw [51] (fun i wr2 => ∃ (k : Nat) (F2 : Nat -> Prop) (x2 : SP),k <= nn /\ i = .int .i64 k /\ StM wr2 F2 s d S (addsN (dropsN nt D) (N.take k)) x2 /\ NOk (addsN (dropsN nt D) (N.take k)) /\ x2.data = D0 /\ ErIn F2 wr2 a0 a1 a2 a3 /\ Step F W F2 wr2) (fun i _ => nn - (intOf i).toNat)
   case atStart => exact ⟨0,F',x',Nat.zero_le _,rfl,HM2.out,HK2.out,XR.out,ER.out,SR.out⟩
   case round =>
    obtain ⟨k,F2,x2,hk,rfl,hM,hK3,hx,hE,hst⟩ := hrel
    have M3R := hid hM; have X3R := hid hx; have E3R := hid hE; have S3R := hid hst; have K3R := hid hK3
    have b3 : wr.cell? ⟨s,3,none⟩ = some (.pointer (some ⟨x2.q,0,none⟩)) := cell_at (i := 3) hM.blk rfl
    clear hM hx hE hst hK3 z1
    by_cases hlt2 : k < nn
    ·have i1 : (k : Int) < nn := by omega
     have i0 : (0 : Int) <= k := by omega
     have hkl : k < N.length := by rw [HNL.out]; exact hlt2
     obtain ⟨g0,o0,rfl,hg0,hcs⟩ := (FN.out wr S3R.out.kept).2 (by omega)
     have z0 := hcs _ _ (tRow_get0 N k hkl)
     have z1 := hcs _ _ (tRow_get1 N k hkl)
     have hwx := FNw.out N[k] (List.getElem_mem hkl)
     have htk := addsN_take (dropsN nt D) N hkl
     obtain ⟨⟨xi,xs⟩,hxx⟩ : ∃ x,N[k] = x := ⟨_,rfl⟩
     rw [hxx] at z0 z1 hwx htk
     rw [<- Nat.add_assoc] at z1
     dsimp only at z0 z1 hwx htk
     obtain ⟨V,hV⟩ : ∃ V,V = wr.alloc (.cells #[.int .i64 xi,.string xs] 57) := ⟨_,rfl⟩
     have hbw : Below wr.heap.size wr V := by rw [hV]; exact (Below.refl wr.heap.size wr).alloc (Nat.le_refl _) _
     have hvn : V.heap[wr.heap.size]? = some (.cells #[.int .i64 xi,.string xs] 57 (0,0)) := by rw [hV]; exact heap_alloc_new wr _
     have MV := hid (M3R.out.below E3R.out.in_ hbw)
     have EV := hid (E3R.out.below hbw)
     have SV : Hid (Step F W F2 V) := hid (S3R.out.trans (Step.same (Kept.of_below hbw F2)))
     have q0 : V.cell? ⟨wr.heap.size,0,none⟩ = some (.int .i64 xi) := cell_at (i := 0) hvn rfl
     have q1 : V.cell? ⟨wr.heap.size,1,none⟩ = some (.string xs) := cell_at (i := 1) hvn rfl
     have q3 : V.cell? ⟨s,3,none⟩ = some (.pointer (some ⟨x2.q,0,none⟩)) := cell_at (i := 3) MV.out.blk rfl
     have hnF : ¬ F2 wr.heap.size := fun hf => Nat.lt_irrefl _ (E3R.out.in_ _ hf)
     have HWX := hid hwx; have HTK := hid htk; have VN := hid hvn; have NF := hid hnF; have LV := hid (Array.getElem?_eq_some_iff.1 hvn).1; have VV := hid hV
     clear hcs hwx htk hxx hg0 hbw hvn hnF hV
     go_wp2_with fail
     rw [<- VV.out]
     go_region_held3 (fun w' => w'.cell? ⟨s,3,none⟩ = some (.pointer (some ⟨x2.q,0,none⟩)) /\ w'.cell? ⟨wr.heap.size,0,none⟩ = some (.int .i64 xi) /\ w'.cell? ⟨wr.heap.size,1,none⟩ = some (.string xs)) (refine ⟨?_,?_,?_⟩ <;> assumption) (first
      | (go_at_call 42
         refine (devN.add x2.Fn x2.q _ xi xs V.drew (MV.out.nts.kept (Kept.of_below (Below.refl _ V).drew (fun _ => False)) (fun _ h => h.elim) fun k hk => EV.out.in_ k (MV.out.fn k hk)) (fun k hk => EV.out.in_ k (MV.out.fn k hk)) K3R.out HWX.out.1 HWX.out.2).mono ?_
         rintro e w4 ⟨rfl,Fn4,h4,st4⟩
         have st5 : Step x2.Fn V Fn4 w4 := (Step.same (Kept.of_below (Below.refl _ V).drew x2.Fn)).trans st4
         have M4 := MV.out.setNotes EV.out.in_ h4 st5
         rw [<- HTK.out] at M4
         have k4 : Kept F2 V w4 := st5.kept.mono MV.out.fn
         have c3 : w4.cell? ⟨s,3,none⟩ = some (.pointer (some ⟨x2.q,0,none⟩)) := cell_at (i := 3) M4.blk rfl
         have n4 := (k4.block wr.heap.size LV.out NF.out).trans VN.out
         have d0 : w4.cell? ⟨wr.heap.size,0,none⟩ = some (.int .i64 xi) := cell_at (i := 0) n4 rfl
         have d1 : w4.cell? ⟨wr.heap.size,1,none⟩ = some (.string xs) := cell_at (i := 1) n4 rfl
         have E4 := hid (EV.out.plus k4)
         have S4 := hid (SV.out.trans (Step.plus k4))
         have M4H := hid M4
         have K4 := hid (K3R.out.add xi xs)
         rw [<- HTK.out] at K4
         clear h4 st4 st5 M4 k4 n4))
     go_wp2
     go_roundw
     case rel => exact ⟨k + 1,_,_,by omega,by go_num,M4H.out,K4.out,X3R.out,E4.out,S4.out⟩
     case measure => simp [intOf]; omega
    ·obtain rfl : k = nn := by omega
     have j2 : decide ((k : Int) < (k : Int)) = false := decide_eq_false (by omega)
     have hM := M3R.out
     rw [List.take_of_length_le (by rw [HNL.out]; exact Nat.le_refl _)] at hM
     rw [<- HDD.out,<- HNN.out] at hM
     have HM3 := hid hM
     clear hM b3
     go_wp2
     go_end0
     exact ⟨rfl,F2,x2,T',T2,HM3.out,X3R.out.trans DH.out.symm,TB1.out,TB2.out,E3R.out,(Step.same (Kept.of_below B0.out F)).trans S3R.out⟩
theorem putBatch_ok {b : Bt} (h : b.ok = true) (hl : (bE b).length <= 262144) : putBatch b = .ok (bE b) := by
 unfold putBatch putP
 simp [h]
 omega
theorem apply_s (a0 a1 a2 a3 : Addr) (F : Nat -> Prop) (s d : Nat) (S : Sh) (nt : Fl) (x : SP) (y : BA) (B : Nat) (w : World) (h : StM w F s d S nt x) (hE : ErIn F w a0 a1 a2 a3) (hy : LiesB w B y) (hB : B <= w.heap.size) (hyo : ∀ k,y.blk k -> ¬ F k) (hf : BtF y)
    (hok : y.bt.ok = true) (hk : NOk nt) (hRa : Ready x.Ta (muts y.M)) (hRf : FitS ((muts y.M).foldl mutT (tbs x.Ta))) (hfn : fitN (dropsN nt y.D) y.N = true) (hRs : Ready x.Ts (muts y.M)) (hRt : FitS ((muts y.M).foldl mutT (tbs x.Ts)))
    (hlen : (bE y.bt).length <= 262144) (hroom : S.log.length + (put S.log.length (bE y.bt)).length <= 262144) :
    Calls Tryz.prog 28 #[.pointer (some ⟨s,0,none⟩),bV y] w fun e w' => e = .returned .nilIface /\ ∃ F' x' T' T2,StM w' F' s d { S with log := S.log ++ put S.log.length (bE y.bt) } (addsN (dropsN nt y.D) y.N) x' /\ x'.data = ((x.ma,x.ms,x.q),(T',T2),(x.A,x.c,x.fl,x.last)) /\ tbs T' = (muts y.M).foldl mutT (tbs x.Ta) /\ tbs T2 = (muts y.M).foldl mutT (tbs x.Ts) /\ ErIn F' w' a0 a1 a2 a3 /\ Step F w F' w' := by
 have b0 := (Below.refl w.heap.size w).alloc (Nat.le_refl _) (bO y)
 have n0 := heap_alloc_new w (bO y)
 have h1 := h.below hE.in_ b0
 have E1 := hE.below b0
 have y1 := hy.below (b0.mono hB)
 obtain ⟨W,hW⟩ : ∃ W,w.alloc (bO y) = W := ⟨_,rfl⟩
 have hs : W.heap.size = w.heap.size + 1 := by rw [<- hW]; simp
 rw [hW] at b0 n0 h1 E1 y1
 have hBW : B <= W.heap.size := by omega
 have hp := putBatch_ok hok hlen
 obtain ⟨P,hP⟩ : ∃ P,bE y.bt = P := ⟨_,rfl⟩
 rw [hP] at hp hlen hroom
 have H := hid h1; have HE := hid E1; have HY := hid y1; have HB := hid hBW; have HYO := hid hyo; have HF := hid hf; have HK := hid hk; have HOK := hid hok; have HRA := hid hRa; have HRF := hid hRf; have HFN := hid hfn
 have HRS := hid hRs; have HRT := hid hRt; have HLEN := hid hlen; have HROOM := hid hroom; have B0 := hid b0; have N0 := hid n0; have HS := hid hs; have HP := hid hp; have HIW := hid hE.in_; have HPP := hid hP
 have z0 := cell_at (i := 0) n0 rfl
 have z1 := cell_at (i := 1) n0 rfl
 have z2 := cell_at (i := 2) n0 rfl
 clear h hE hy hB hyo hf hok hk hRa hRf hfn hRs hRt hlen hroom b0 n0 h1 E1 y1 hs hBW hp hP
 go_enter Tryz.func28,Tryz.ntmps28
 go_wp2_with fail
 refine (turned_s a0 a1 a2 a3 F s d S nt x y B W H.out HE.out HY.out HB.out HF.out HK.out (fun _ => HRA.out)).mono ?_
 rintro e w1 ⟨err,mo,rfl,hT⟩
 obtain ⟨rfl,m,O,rfl,hO,hTu,hm,hr⟩ := hT.fits HOK.out HRF.out HFN.out
 have b1 := hT.below
 have n1 := (b1.block w.heap.size (by have := HS.out; omega)).trans N0.out
 have z0 := cell_at (i := 0) n1 rfl
 have z1 := cell_at (i := 1) n1 rfl
 have z2 := cell_at (i := 2) n1 rfl
 have hy1 := HY.out.below (b1.mono HB.out)
 have M1 := hid (H.out.below HE.out.in_ b1); have E1 := hid (HE.out.below b1); have Y1 := hid hy1; have OH := hid hO; have TU := hid hTu; have MM := hid hm; have RR := hid hr; have B1 := hid b1; have N1 := hid n1
 have HB1 := hid (Nat.le_trans HB.out b1.size)
 clear hT hO hTu hm hr b1 hy1 n1 hW
 go_wp2_with fail
 have PB := pack_batch y B w1 Y1.out HB1.out HF.out
 rw [HP.out] at PB
 refine PB.mono ?_
 clear PB
 rintro e w2 ⟨A,n,c,rfl,hl,hn,hc,hA,ho,b2⟩
 have hcv := cv_string (Rd.of_own1 ho) c
 have n2 := (b2.block w.heap.size (Array.getElem?_eq_some_iff.1 N1.out).1).trans N1.out
 have z0 := cell_at (i := 0) n2 rfl
 have z1 := cell_at (i := 1) n2 rfl
 have z2 := cell_at (i := 2) n2 rfl
 have M2 := hid (M1.out.below E1.out.in_ b2); have E2 := hid (E1.out.below b2); have Y2 := hid (Y1.out.below (b2.mono HB1.out)); have O2 := hid (OH.out.below b2); have B2 := hid b2; have N2 := hid n2
 have HB2 := hid (Nat.le_trans HB1.out b2.size)
 clear hl hn hc hA ho b2 n2
 go_wp2_with fail
 refine (slog_s a0 a1 a2 a3 F s d S nt x ⟨P.toArray⟩ w2 M2.out E2.out (by have := HLEN.out; show P.toArray.size <= 1000000; rw [List.size_toArray]; omega) HROOM.out).mono ?_
 rintro e w3 ⟨rfl,k3,x1,hx1,M3⟩
 have M3 : StM w3 (Plus F w2 w3) s d { S with log := S.log ++ put S.log.length P } nt x1 := M3
 have E3 := E2.out.plus k3
 have hms : W.heap.size <= w2.heap.size := Nat.le_trans B1.out.size B2.out.size
 have hFW : ∀ k,F k -> k < w.heap.size := HIW.out
 have hws := HS.out
 have off2 : ∀ k,W.heap.size <= k -> k < w2.heap.size -> ¬ Plus F w2 w3 k := fun k h1 h2 h3 => by
  rcases h3 with h3 | h3
  ·have := hFW k h3; omega
  ·omega
 have kO : ∀ k,W.heap.size <= k -> k < w2.heap.size -> w3.heap[k]? = w2.heap[k]? := fun k h1 h2 => k3.block k h2 fun h3 => by have := hFW k h3; omega
 have O3 := O2.out.agree k3.size (fun k hk => kO k (MM.out k hk) (O2.out.lt hk)) (fun k hk => kO k (RR.out k hk) (O2.out.rows_lt hk))
 obtain ⟨ro,M4,hro⟩ := M3.adopt (allRows O) 5 fun k hk => off2 k (RR.out k hk) (O2.out.rows_lt hk)
 obtain ⟨e1,e2,e3,e4,e5,e6,e7,e8,e9⟩ := SP.data_eq hx1
 have st4 : Step F w2 (fun k => Plus F w2 w3 k \/ allRows O k) w3 \/ True := Or.inr trivial
 have E4 : ErIn (fun k => Plus F w2 w3 k \/ allRows O k) w3 a0 a1 a2 a3 := HE.out.to (((Kept.of_below B1.out F).trans (Kept.of_below B2.out F) fun _ => Or.inl).trans k3 fun _ => Or.inl) (fun k hk => hk.elim (E3.in_ k) fun h => O3.rows_lt h) fun k hk => by
  rcases hk with (hk | hk) | hk
  ·exact Or.inl hk
  ·exact Or.inr (Nat.le_trans hms hk.1)
  ·exact Or.inr (RR.out k hk)
 have y3 := Y2.out.kept HB2.out k3 HYO.out
 have n3 := (k3.block w.heap.size (by omega) fun hf => Nat.lt_irrefl _ (hFW _ hf)).trans N2.out
 have z0 := cell_at (i := 0) n3 rfl
 have z1 := cell_at (i := 1) n3 rfl
 have z2 := cell_at (i := 2) n3 rfl
 have st0 : Step F w (fun k => Plus F w2 w3 k \/ allRows O k) w3 := ⟨((Kept.of_below B0.out F).trans ((Kept.of_below B1.out F).trans (Kept.of_below B2.out F) fun _ => Or.inl) fun _ => Or.inl).trans k3 fun _ => Or.inl,fun k hk => by
  rcases hk with (hk | hk) | hk
  ·exact Or.inl hk
  ·exact Or.inr ⟨by omega,hk.2⟩
  ·exact Or.inr ⟨by have := RR.out k hk; omega,O3.rows_lt hk⟩⟩
 obtain ⟨F4,hF4⟩ : ∃ F4,(fun k => Plus F w2 w3 k \/ allRows O k) = F4 := ⟨_,rfl⟩
 have hyF : ∀ k,y.blk k -> ¬ F4 k := fun k hk hf => by
  have hlt := Y2.out.lt hk
  have hB := HY.out.lt hk
  have h2 := HB2.out
  have h3 := HB.out
  rw [<- hF4] at hf
  rcases hf with (hf | hf) | hf
  ·exact HYO.out k hk hf
  ·omega
  ·have := RR.out k hf; omega
 have hmF : ∀ k,mapsF m O k -> ¬ F4 k := fun k hk hf => by
  rw [<- hF4] at hf
  rcases hf with hf | hf
  ·exact off2 k (MM.out k hk) (O2.out.lt hk) hf
  ·obtain ⟨es,c,hb⟩ := O3.isMap hk
   exact O3.not_row hb hf rfl
 rw [hF4] at M4 E4 st0
 have hrow : ∀ k,allRows O k -> F4 k /\ ro k = 5 := fun k hk => ⟨by rw [<- hF4]; exact Or.inr hk,hro k hk⟩
 obtain ⟨X,hX,M5⟩ : ∃ X : SP,(X.data = x.data /\ X.ro = ro) /\ StM w3 F4 s d { S with log := S.log ++ put S.log.length P } nt X := ⟨{ x1 with ro := ro },⟨hx1,rfl⟩,M4⟩
 obtain ⟨e1,e2,e3,e4,e5,e6,e7,e8,e9⟩ := SP.data_eq hX.1
 have KS := keep_s a0 a1 a2 a3 F4 s d _ nt X y B m O w3 M5 E4 y3 (Nat.le_trans HB2.out k3.size) hyF HOK.out HK.out O3 (by rw [e4]; exact TU.out) hmF (fun k hk => by rw [hX.2]; exact hrow k hk) (by rw [e4]; exact HRA.out.fits) (by rw [e4]; exact HRF.out) (by rw [e5]; exact HRS.out) (by rw [e5]; exact HRT.out)
 rw [e1,e2,e3,e4,e5,e6,e7,e8,e9] at KS
 have KSH := hid KS; have ST0 := hid st0
 clear KS st0 M3 M4 M5 E3 E4 O3 hro hrow hmF hyF hF4 y3 n3 k3 kO off2 hX hx1 e1 e2 e3 e4 e5 e6 e7 e8 e9 hms hFW hws st4
 go_wp2_with fail
 refine KSH.out.mono ?_
 rintro e w4 ⟨rfl,F',x',T',T2,hM,hx,ht,ht2,hE,hst⟩
 have R := hid (show ∃ F' x' T' T2,StM w4 F' s d { S with log := S.log ++ put S.log.length P } (addsN (dropsN nt y.D) y.N) x' /\ x'.data = ((x.ma,x.ms,x.q),(T',T2),(x.A,x.c,x.fl,x.last)) /\ tbs T' = (muts y.M).foldl mutT (tbs x.Ta) /\ tbs T2 = (muts y.M).foldl mutT (tbs x.Ts) /\ ErIn F' w4 a0 a1 a2 a3 /\ Step F w F' w4 from ⟨F',x',T',T2,hM,hx,ht,ht2,hE,ST0.out.trans hst⟩)
 clear hM hx ht ht2 hE hst
 go_wp2
 go_ret
 rw [HPP.out]
 exact ⟨rfl,R.out⟩
theorem Apply_s (a0 a1 a2 a3 : Addr) (F : Nat -> Prop) (s d : Nat) (S : Sh) (nt : Fl) (x : SP) (y : BA) (B : Nat) (w : World) (h : StM w F s d S nt x) (hE : ErIn F w a0 a1 a2 a3) (hy : LiesB w B y) (hB : B <= w.heap.size) (hyo : ∀ k,y.blk k -> ¬ F k) (hf : BtF y)
    (hok : y.bt.ok = true) (hk : NOk nt) (hRa : Ready x.Ta (muts y.M)) (hRf : FitS ((muts y.M).foldl mutT (tbs x.Ta))) (hfn : fitN (dropsN nt y.D) y.N = true) (hRs : Ready x.Ts (muts y.M)) (hRt : FitS ((muts y.M).foldl mutT (tbs x.Ts)))
    (hlen : (bE y.bt).length <= 262144) (hroom : S.log.length + (put S.log.length (bE y.bt)).length <= 262144) :
    Calls Tryz.prog 9 #[.pointer (some ⟨s,0,none⟩),bV y] w fun e w' => e = .returned (.int .i64 0) /\ ∃ F' x' T' T2,StM w' F' s d { S with log := S.log ++ put S.log.length (bE y.bt) } (addsN (dropsN nt y.D) y.N) x' /\ x'.data = ((x.ma,x.ms,x.q),(T',T2),(x.A,x.c,x.fl,x.last)) /\ tbs T' = (muts y.M).foldl mutT (tbs x.Ta) /\ tbs T2 = (muts y.M).foldl mutT (tbs x.Ts) /\ ErIn F' w' a0 a1 a2 a3 /\ Step F w F' w' := by
 have b0 := (Below.refl w.heap.size w).alloc (Nat.le_refl _) (bO y)
 have n0 := heap_alloc_new w (bO y)
 have h1 := h.below hE.in_ b0
 have E1 := hE.below b0
 have y1 := hy.below (b0.mono hB)
 obtain ⟨W,hW⟩ : ∃ W,w.alloc (bO y) = W := ⟨_,rfl⟩
 rw [hW] at b0 n0 h1 E1 y1
 have AP := hid (apply_s a0 a1 a2 a3 F s d S nt x y B W h1 E1 y1 (Nat.le_trans hB b0.size) hyo hf hok hk hRa hRf hfn hRs hRt hlen hroom)
 have B0 := hid (Step.same (Kept.of_below b0 F))
 have z0 := cell_at (i := 0) n0 rfl
 have z1 := cell_at (i := 1) n0 rfl
 have z2 := cell_at (i := 2) n0 rfl
 clear h hE hy hB hyo hf hok hk hRa hRf hfn hRs hRt hlen hroom b0 n0 h1 E1 y1
 go_enter Tryz.func9,Tryz.ntmps9
 go_wp2_with fail
 refine AP.out.mono ?_
 rintro e w1 ⟨rfl,F',x',T',T2,hM,hx,ht,ht2,hE,hst⟩
 have HE := hid hE
 have R := hid (show ∃ F' x' T' T2,StM w1 F' s d { S with log := S.log ++ put S.log.length (bE y.bt) } (addsN (dropsN nt y.D) y.N) x' /\ x'.data = ((x.ma,x.ms,x.q),(T',T2),(x.A,x.c,x.fl,x.last)) /\ tbs T' = (muts y.M).foldl mutT (tbs x.Ta) /\ tbs T2 = (muts y.M).foldl mutT (tbs x.Ts) /\ ErIn F' w1 a0 a1 a2 a3 /\ Step F w F' w1 from ⟨F',x',T',T2,hM,hx,ht,ht2,hE,B0.out.trans hst⟩)
 clear hM hx ht ht2 hE hst hW
 go_wp2_with fail
 refine (number_nil a0 a1 a2 a3 w1 HE.out.ers).mono ?_
 rintro e w2 ⟨rfl,rfl⟩
 go_wp2
 go_ret
 exact ⟨rfl,R.out⟩
theorem fits_iff {s : St} {b : Bt} : s.Fits b ↔ b.ok = true /\ fitN (dropsN s.nt b.drop) b.add = true /\ FitS (b.muts.foldl mutT s.tb) :=
 ⟨fun h => ⟨h.ok,h.notes,⟨h.parts,h.tabs⟩⟩,fun h => ⟨h.1,h.2.1,h.2.2.parts,h.2.2.tabs⟩⟩
def mutsOf (l : List Bt) : List Mt := l.flatMap fun b => b.muts
theorem mutsOf_snoc (l : List Bt) (b : Bt) : mutsOf (l ++ [b]) = mutsOf l ++ b.muts := by
 unfold mutsOf
 rw [List.flatMap_append]
 simp
theorem apps_tb (s : St) : ∀ l : List Bt,(s.apps l).tb = (mutsOf l).foldl mutT s.tb := by
 refine snoc_ind (P := fun l => (s.apps l).tb = (mutsOf l).foldl mutT s.tb) rfl fun l b ih => ?_
 rw [St.apps_snoc,mutsOf_snoc,List.foldl_append,<- ih]
 rfl
theorem mut_ok {b : Bt} (h : b.ok = true) : ∀ m ∈ b.muts,m.2.Up /\ 0 <= m.2.gone := fun m hm => by
 have := (mutB_comes ((ok_parts h).1 m hm)).1
 exact ⟨this.up,this.gone⟩
theorem NOk.adds {S : Fl} (h : NOk S) (L : Fl) : NOk (addsN S L) := by
 unfold addsN
 induction L generalizing S with
 | nil => exact h
 | cons x L ih => exact ih (h.add x.1 x.2)
structure StOk (s : St) : Prop where
 tb : TbOk s.tb
 up : TbUp s.tb
 fit : FitS s.tb
 nok : NOk s.nt
theorem StOk.new : StOk St.new := ⟨TbOk.nil,up_nil,⟨fun x hx => (by cases hx),Nat.zero_le _⟩,NOk.nil⟩
theorem StOk.app {s : St} {b : Bt} (h : StOk s) (hf : s.Fits b) : StOk (s.app b) := by
 have h2 := fits_iff.1 hf
 exact ⟨h.tb.muts _,h.up.muts h.tb (mut_ok h2.1),h2.2.2,(h.nok.drops _).adds _⟩
theorem StOk.apps {s : St} (h : StOk s) : ∀ l : List Bt,s.AllFit l -> StOk (s.apps l) := by
 refine snoc_ind (P := fun l => s.AllFit l -> StOk (s.apps l)) (fun _ => h) fun l b ih hl => ?_
 rw [St.apps_snoc]
 obtain ⟨h1,h2⟩ := St.allFit_snoc.1 hl
 exact (ih h1).app h2
theorem allFit_up {s : St} : ∀ l : List Bt,s.AllFit l -> ∀ m ∈ mutsOf l,m.2.Up /\ 0 <= m.2.gone := by
 refine snoc_ind (P := fun l => s.AllFit l -> ∀ m ∈ mutsOf l,m.2.Up /\ 0 <= m.2.gone) (fun _ m hm => (by cases hm)) fun l b ih hl m hm => ?_
 obtain ⟨h1,h2⟩ := St.allFit_snoc.1 hl
 rw [mutsOf_snoc,List.mem_append] at hm
 exact hm.elim (ih h1 m) (mut_ok h2.ok m)
theorem since_ok {s : St} (h : StOk s) {l : List Bt} (hl : s.AllFit l) : TbOk ((mutsOf l).foldl mutT []) /\ TbUp ((mutsOf l).foldl mutT []) /\ FitS ((mutsOf l).foldl mutT []) := by
 have hu := allFit_up l hl
 refine ⟨TbOk.nil.muts _,up_nil.muts TbOk.nil hu,since_fits h.tb h.up hu ?_⟩
 rw [<- apps_tb]
 exact (h.apps l hl).fit
theorem numL_one (n : Nat) : 1 <= (numL n).length := numL_pos n
theorem flat_ge {α : Type} {f : α -> Bs} {g : α -> Nat} (h : ∀ x,g x <= (f x).length) : ∀ l : List α,(l.map g).sum <= (l.flatMap f).length
 | [] => Nat.le_refl _
 | x :: l => by
   have h1 := h x
   have h2 := flat_ge h l
   simp only [List.map_cons,List.sum_cons,List.flatMap_cons,List.length_append]
   omega
theorem kE_one (c : ByteArray × Ce) : 1 <= (kE c).length := by
 unfold kE tE
 have := numL_one c.1.size
 simp only [List.length_append]
 omega
theorem rE_cols (r : Ro) : r.cols.length <= (rE r).length := by
 have h1 := flat_ge (f := kE) (g := fun _ => 1) kE_one r.cols
 have h2 : (r.cols.map fun _ => 1).sum = r.cols.length := by
  induction r.cols with
  | nil => rfl
  | cons x l ih => simp only [List.map_cons,List.sum_cons,List.length_cons,ih]; omega
 unfold rE
 simp only [List.length_append]
 omega
theorem mE_tot (m : ByteArray × Pa) : m.2.tot <= (mE m).length := by
 have h1 := flat_ge (f := rE) (g := fun r => r.cols.length) rE_cols m.2.rows
 unfold mE pE Pa.tot sumR
 simp only [List.length_append]
 omega
def totM (l : List Mt) : Nat := (l.map fun m => m.2.tot).sum
theorem bE_tot (b : Bt) : totM b.muts <= (bE b).length := by
 have h1 : totM b.muts <= (b.muts.flatMap mE).length := flat_ge (f := mE) (g := fun m => m.2.tot) mE_tot b.muts
 unfold bE
 simp only [List.length_append]
 omega
theorem totM_append (l m : List Mt) : totM (l ++ m) = totM l + totM m := by unfold totM; rw [List.map_append,List.sum_append]
theorem put_ge (n : Nat) (b : Bs) : b.length <= (put n b).length := by
 have hr := rm_pos n
 unfold put frm
 rw [List.length_append,lay_len b b.length (rm n) true (Nat.le_refl _) hr.1 hr.2]
 omega
theorem recs_tot : ∀ l : List Bt,totM (mutsOf l) <= (recs l).length := by
 refine snoc_ind (P := fun l => totM (mutsOf l) <= (recs l).length) (Nat.le_refl _) fun l b ih => ?_
 rw [mutsOf_snoc,totM_append,recs_snoc_le]
 have h1 := bE_tot b
 have h2 := put_ge (recs l).length (bE b)
 omega
def totO : Option Pa -> Nat
 | some p => p.tot
 | none => 0
theorem look_tot {T : List Tb} (h : TbOk T) (t k : ByteArray) : ∀ l : List Mt,totO (look (l.foldl mutT T) t k) <= totO (look T t k) + totM l := by
 refine snoc_ind (P := fun l => totO (look (l.foldl mutT T) t k) <= totO (look T t k) + totM l) (Nat.le_refl _) fun l m ih => ?_
 rw [List.foldl_append,totM_append]
 show totO (look (mutT _ m) t k) <= _
 have hm : totM [m] = m.2.tot := by unfold totM; simp
 rw [look_mutT (h.muts l),hm]
 by_cases e : m.1 = t /\ m.2.key = k
 ·rw [if_pos e]
  cases e2 : look (l.foldl mutT T) t k with
  | none => show m.2.tot <= _; omega
  | some p =>
    rw [e2] at ih
    have h1 : p.tot <= totO (look T t k) + totM l := ih
    have h2 : (p.join m.2).tot <= p.tot + m.2.tot := (sumR_mrg _ _).2
    show (p.join m.2).tot <= _
    omega
 ·rw [if_neg e]
  omega
theorem ok_tot {p : Pa} (h : p.ok = true) : p.tot <= 1000 := by
 have h1 := Pa.ok_of h
 have h4 : ∀ r ∈ p.rows,r.cols.length <= 8 := fun r hr => by
  have := rowsB_each h1.2.2.2 r hr
  unfold Ro.ok at this
  simp only [Bool.and_eq_true,decide_eq_true_iff] at this
  exact this.2.2.2.2.1
 have h5 : ∀ l : Rows,(∀ r ∈ l,r.cols.length <= 8) -> sumR l <= 8 * l.length := fun l hl => by
  induction l with
  | nil => exact Nat.zero_le _
  | cons r l ih =>
    have e1 := ih fun x hx => hl x (List.mem_cons_of_mem _ hx)
    have e2 := hl r (List.mem_cons_self ..)
    rw [sumR_cons,List.length_cons]
    omega
 have h6 := h5 p.rows h4
 have h7 := h1.2.2.1
 unfold Pa.tot
 omega
theorem apps_tot {s : St} (h : TbOk s.tb) (hok : ∀ t k p,look s.tb t k = some p -> p.ok = true) {l : List Bt} (hl : (recs l).length <= 262144) (t k : ByteArray) (p : Pa) (hp : look (s.apps l).tb t k = some p) : p.tot <= 300000 := by
 rw [apps_tb] at hp
 have h1 := look_tot h t k (mutsOf l)
 have h2 := recs_tot l
 rw [hp] at h1
 have h3 : p.tot <= totO (look s.tb t k) + totM (mutsOf l) := h1
 have h4 : totO (look s.tb t k) <= 1000 := by
  cases e : look s.tb t k with
  | none => exact Nat.zero_le _
  | some q => exact ok_tot (hok t k q e)
 omega
theorem rdN_of {w : World} {B n : Nat} {A : Option Addr} {l : Fl} (h : RdT w B A n l) : RdN w B A n l :=
 ⟨h.1,fun hn => by
   obtain ⟨g,o,e,hg,hc⟩ := h.2 hn
   refine ⟨g,o,e,hg,fun j hj i u hu => ?_⟩
   have h0 := hc _ _ (tRow_get0 l j hj)
   have h1 := hc _ _ (tRow_get1 l j hj)
   match i,hu with
   | 0,hu => injection hu with hu; subst hu; exact h0
   | 1,hu => injection hu with hu; subst hu; exact h1
   | i + 2,hu => cases hu⟩
def manD (fl : List Int) (last : Int) : List Int := if 0 < last then fl ++ [last] else fl
def manB (fl : List Int) (last : Int) (nt : Fl) : Bt := ⟨[],nt,manD fl last⟩
def manT (fl : List Int) (last : Int) (nt : Fl) : ByteArray := ⟨(bE (manB fl last nt)).toArray⟩ ++ sumT ⟨(bE (manB fl last nt)).toArray⟩
theorem putMan_up (B cF cN : Nat) (AF AN : Option Addr) (fl : List Int) (last : Int) (nt : Fl) (w : World) (hF : RdZ w B AF fl.length fl) (hA : AF = none \/ ∃ g o,AF = some ⟨g,o,none⟩) (hN : RdT w B AN nt.length nt) (hcN : nt.length <= cN) (hB : B <= w.heap.size)
    (h0 : 0 < last) (h1 : last <= 1099511627776) (hok : (manB fl last nt).ok = true) (hlen : (bE (manB fl last nt)).length <= 262144) (hln : fl.length <= 1000) (hnt : ∀ x ∈ nt,x.2.size <= maxLen) (hnl : nt.length <= 1000000) :
    Calls Tryz.prog 152 #[.agg #[.slice AF fl.length cF,.int .i64 last,.slice AN nt.length cN]] w fun e w' => e = .returned (.tuple #[.string (manT fl last nt),.nilIface]) /\ Below w.heap.size w w' := by
 have b0 := (Below.refl w.heap.size w).alloc (Nat.le_refl _) (.cells #[.slice AF fl.length cF,.int .i64 last,.slice AN nt.length cN] 87)
 have n0 := heap_alloc_new w (.cells #[.slice AF fl.length cF,.int .i64 last,.slice AN nt.length cN] 87)
 obtain ⟨W,hW⟩ : ∃ W,w.alloc (.cells #[.slice AF fl.length cF,.int .i64 last,.slice AN nt.length cN] 87) = W := ⟨_,rfl⟩
 rw [hW] at b0 n0
 have hWs : w.heap.size < W.heap.size := (Array.getElem?_eq_some_iff.1 n0).1
 obtain ⟨nf,hnf⟩ : ∃ n,fl.length = n := ⟨_,rfl⟩
 rw [hnf] at hF hln n0 hW
 have hD : manB fl last nt = ⟨[],nt,fl ++ [last]⟩ := by unfold manB manD; rw [if_pos h0]
 have z0 : W.cell? ⟨w.heap.size,0,none⟩ = some (.slice AF nf cF) := cell_at (i := 0) n0 rfl
 have HF := hid (hF.below (b0.mono hB)); have HN := hid (hN.below (b0.mono hB)); have HB := hid (Nat.le_trans hB b0.size); have HA := hid hA; have HCN := hid hcN; have HOK := hid hok; have HLEN := hid hlen; have HLN := hid hln; have HNT := hid hnt; have HNL := hid hnl
 have B0 := hid b0; have N0 := hid n0; have WS := hid hWs; have NF := hid hnf; have HD := hid hD; have HL1 := hid h1
 rw [hnf]
 clear hF hN hB hA hcN hok hlen hln hnt hnl b0 n0 hWs hnf hD h1
 go_enter Tryz.func152,Tryz.ntmps152
 go_wp2_with fail
 refine (intsClone_any B nf cF AF fl W HF.out HA.out (by have := HLN.out; omega)).mono ?_
 rintro e w1 ⟨A1,c1,rfl,ho,b1⟩
 have n1 := (b1.block w.heap.size WS.out).trans N0.out
 have z1 : w1.cell? ⟨w.heap.size,1,none⟩ = some (.int .i64 last) := cell_at (i := 1) n1 rfl
 have ba := (Below.refl w1.heap.size w1).alloc (Nat.le_refl _) (.cells #[.int .i64 last] 3)
 have hl1 := RdZ.lay1 w1 last
 have hoV := own_below ho ba
 have HO := hid hoV; have HL := hid hl1; have BA1 := hid ba; have B1 := hid b1; have N1 := hid n1
 clear ho b1 n1 z0 hW ba hl1 hoV
 go_wp2_with (at_builtin; refine list_ex rfl (.tmp 13) (.tmp 16) _ _ rfl (.slice A1 nf c1) (.slice (some ⟨w1.heap.size,0,none⟩) 1 1) rfl rfl (run_appZ W.heap.size HO.out HL.out ?s3 ?s4) ?_)
 case s3 => have := HLN.out; omega
 case s4 => exact Nat.le_trans B1.out.size BA1.out.size
 intro v9 w9 ho9 hg9 _
 obtain ⟨A9,c9,rfl,hc9,_⟩ := own_slice ho9
 have hb9 : Below W.heap.size W w9 := grown_own (B1.out.trans (BA1.out.mono B1.out.size)) HO.out hg9
 have ho9' : w9.ownsRow W.heap.size 3 1 (.slice A9 (nf + 1) c9) (nf + 1) (zRow (fl ++ [last])) := (by unfold zRow; rw [List.map_append]; exact ho9)
 have hrz := RdZ.ofOwn ho9'
 have n9 := (hb9.block w.heap.size WS.out).trans N0.out
 have z2 : w9.cell? ⟨w.heap.size,2,none⟩ = some (.slice AN nt.length cN) := cell_at (i := 2) n9 rfl
 have hly : LiesB w9 w9.heap.size ⟨none,0,[],AN,cN,nt,A9,c9,fl ++ [last]⟩ := ⟨⟨⟨rfl,fun h => absurd h (by simp)⟩,fun x hx => (by cases hx),Nat.le_refl _⟩,(rdN_of (HN.out.below (hb9.mono HB.out))).up (Nat.le_trans HB.out hb9.size),(by rw [List.length_append,NF.out]; exact hrz),HCN.out,(by show (fl ++ [last]).length <= c9; rw [List.length_append,NF.out]; exact hc9)⟩
 have hbf : BtF ⟨none,0,[],AN,cN,nt,A9,c9,fl ++ [last]⟩ := ⟨fun y hy => (by cases hy),HNT.out,by simp,HNL.out,(by show (fl ++ [last]).length <= 1000000; rw [List.length_append,NF.out]; have := HLN.out; show nf + 1 <= 1000000; omega)⟩
 have PB := pack_batch ⟨none,0,[],AN,cN,nt,A9,c9,fl ++ [last]⟩ w9.heap.size w9 hly (Nat.le_refl _) hbf
 have ey : (BA.mk none 0 [] AN cN nt A9 c9 (fl ++ [last])).bt = manB fl last nt := by rw [HD.out]; rfl
 have ev : bV ⟨none,0,[],AN,cN,nt,A9,c9,fl ++ [last]⟩ = .agg #[.slice none 0 0,.slice AN nt.length cN,.slice A9 (nf + 1) c9] := by
  show Value.agg #[.slice none 0 0,.slice AN nt.length cN,.slice A9 (fl ++ [last]).length c9] = _
  rw [List.length_append,NF.out]; rfl
 rw [ey,ev,putBatch_ok HOK.out HLEN.out] at PB
 obtain ⟨P,hP⟩ : ∃ P,bE (manB fl last nt) = P := ⟨_,rfl⟩
 have hT : manT fl last nt = ⟨P.toArray⟩ ++ sumT ⟨P.toArray⟩ := by unfold manT; rw [hP]
 have hPl := HLEN.out
 rw [hP] at PB hPl
 obtain ⟨q,hq⟩ : ∃ q,manT fl last nt = q := ⟨_,rfl⟩
 rw [hq] at hT
 have HQ := hid hq
 have PBH := hid PB; have B9 := hid (B0.out.trans (hb9.mono B0.out.size)); have HT := hid hT; have HPL := hid hPl
 clear PB ey ev hly hbf hrz n9 ho9 ho9' hg9 hb9 hP hT hq hPl hc9
 go_wp2_with fail
 refine PBH.out.mono ?_
 rintro e w2 ⟨A,n,c,rfl,hl,hn,hc,hA2,ho,b2⟩
 have hr2 := Rd.of_own1 ho
 have hcv : (convert 29 9 (.slice A n c)).run Tryz.prog w2.drew = .ok (.string ⟨P.toArray⟩) w2.drew := cv_string hr2.drew c
 have hz : (⟨P.toArray⟩ : ByteArray).size <= 262144 := by show P.toArray.size <= 262144; rw [List.size_toArray]; exact HPL.out
 have hz2 : (sumT ⟨P.toArray⟩).size = 4 := by unfold sumT; show (be _ 4).toArray.size = 4; rw [List.size_toArray,be_length]
 have hadd : ∀ wx : World,(Op.stringOp .add ⟨P.toArray⟩ (sumT ⟨P.toArray⟩)).run Tryz.prog wx = .ok (.string q) wx := fun wx => by rw [HT.out]; exact run_string_add_sum wx _ _ (by rw [hz2]; omega)
 have B2 := hid (B9.out.trans (b2.mono B9.out.size)); have HZ := hid hz; have R2 := hid hr2
 clear hl hn hc hA2 ho b2 hz hr2 hz2
 go_wp2_with fail
 go_region_held3 (fun w' => (convert 29 9 (.slice A n c)).run Tryz.prog w' = .ok (.string ⟨P.toArray⟩) w') (assumption) (first
  | (go_at_call 66
     refine (msum_any ⟨P.toArray⟩ _ (Nat.le_trans HZ.out (by decide))).mono ?_
     rintro e w3 ⟨rfl,b3⟩
     have b3' : Below w2.heap.size w2 w3 := (Below.refl w2.heap.size w2).drew.trans b3
     have hcv3 : (convert 29 9 (.slice A n c)).run Tryz.prog w3 = .ok (.string ⟨P.toArray⟩) w3 := cv_string (R2.out.below b3') c
     have B3 := hid (B2.out.trans (b3'.mono B2.out.size))
     clear b3 b3'))
 go_wp2
 go_ret2
 exact ⟨by rw [HQ.out]; rfl,B3.out⟩
theorem putMan_zero (B cF cN : Nat) (AF AN : Option Addr) (fl : List Int) (last : Int) (nt : Fl) (w : World) (hF : RdZ w B AF fl.length fl) (hA : AF = none \/ ∃ g o,AF = some ⟨g,o,none⟩) (hN : RdT w B AN nt.length nt) (hcN : nt.length <= cN) (hB : B <= w.heap.size)
    (h0 : last = 0) (hok : (manB fl last nt).ok = true) (hlen : (bE (manB fl last nt)).length <= 262144) (hln : fl.length <= 1000) (hnt : ∀ x ∈ nt,x.2.size <= maxLen) (hnl : nt.length <= 1000000) :
    Calls Tryz.prog 152 #[.agg #[.slice AF fl.length cF,.int .i64 last,.slice AN nt.length cN]] w fun e w' => e = .returned (.tuple #[.string (manT fl last nt),.nilIface]) /\ Below w.heap.size w w' := by
 subst h0
 have b0 := (Below.refl w.heap.size w).alloc (Nat.le_refl _) (.cells #[.slice AF fl.length cF,.int .i64 0,.slice AN nt.length cN] 87)
 have n0 := heap_alloc_new w (.cells #[.slice AF fl.length cF,.int .i64 0,.slice AN nt.length cN] 87)
 obtain ⟨W,hW⟩ : ∃ W,w.alloc (.cells #[.slice AF fl.length cF,.int .i64 0,.slice AN nt.length cN] 87) = W := ⟨_,rfl⟩
 rw [hW] at b0 n0
 have hWs : w.heap.size < W.heap.size := (Array.getElem?_eq_some_iff.1 n0).1
 obtain ⟨nf,hnf⟩ : ∃ n,fl.length = n := ⟨_,rfl⟩
 rw [hnf] at hF hln n0 hW
 have hD : manB fl 0 nt = ⟨[],nt,fl⟩ := by rfl
 have z0 : W.cell? ⟨w.heap.size,0,none⟩ = some (.slice AF nf cF) := cell_at (i := 0) n0 rfl
 have HF := hid (hF.below (b0.mono hB)); have HN := hid (hN.below (b0.mono hB)); have HB := hid (Nat.le_trans hB b0.size); have HA := hid hA; have HCN := hid hcN; have HOK := hid hok; have HLEN := hid hlen; have HLN := hid hln; have HNT := hid hnt; have HNL := hid hnl
 have B0 := hid b0; have N0 := hid n0; have WS := hid hWs; have NF := hid hnf; have HD := hid hD
 rw [hnf]
 clear hF hN hB hA hcN hok hlen hln hnt hnl b0 n0 hWs hnf hD
 go_enter Tryz.func152,Tryz.ntmps152
 go_wp2_with fail
 refine (intsClone_any B nf cF AF fl W HF.out HA.out (by have := HLN.out; omega)).mono ?_
 rintro e w1 ⟨A1,c1,rfl,ho,b1⟩
 have n1 := (b1.block w.heap.size WS.out).trans N0.out
 have z1 : w1.cell? ⟨w.heap.size,1,none⟩ = some (.int .i64 0) := cell_at (i := 1) n1 rfl
 have hc1 : nf <= c1 := by obtain ⟨_,_,e,h,_⟩ := own_slice ho; injection e with e1 e2 e3; omega
 have hb9 := b1
 have hrz := RdZ.ofOwn ho
 have n9 := (hb9.block w.heap.size WS.out).trans N0.out
 have z2 : w1.cell? ⟨w.heap.size,2,none⟩ = some (.slice AN nt.length cN) := cell_at (i := 2) n9 rfl
 have hly : LiesB w1 w1.heap.size ⟨none,0,[],AN,cN,nt,A1,c1,fl⟩ := ⟨⟨⟨rfl,fun h => absurd h (by simp)⟩,fun x hx => (by cases hx),Nat.le_refl _⟩,(rdN_of (HN.out.below (hb9.mono HB.out))).up (Nat.le_trans HB.out hb9.size),(by rw [NF.out]; exact hrz),HCN.out,(by show fl.length <= c1; rw [NF.out]; exact hc1)⟩
 have hbf : BtF ⟨none,0,[],AN,cN,nt,A1,c1,fl⟩ := ⟨fun y hy => (by cases hy),HNT.out,by simp,HNL.out,(by show fl.length <= 1000000; rw [NF.out]; have := HLN.out; show nf <= 1000000; omega)⟩
 have PB := pack_batch ⟨none,0,[],AN,cN,nt,A1,c1,fl⟩ w1.heap.size w1 hly (Nat.le_refl _) hbf
 have ey : (BA.mk none 0 [] AN cN nt A1 c1 fl).bt = manB fl 0 nt := by rw [HD.out]; rfl
 have ev : bV ⟨none,0,[],AN,cN,nt,A1,c1,fl⟩ = .agg #[.slice none 0 0,.slice AN nt.length cN,.slice A1 nf c1] := by
  show Value.agg #[.slice none 0 0,.slice AN nt.length cN,.slice A1 fl.length c1] = _
  rw [NF.out]
 rw [ey,ev,putBatch_ok HOK.out HLEN.out] at PB
 obtain ⟨P,hP⟩ : ∃ P,bE (manB fl 0 nt) = P := ⟨_,rfl⟩
 have hT : manT fl 0 nt = ⟨P.toArray⟩ ++ sumT ⟨P.toArray⟩ := by unfold manT; rw [hP]
 have hPl := HLEN.out
 rw [hP] at PB hPl
 obtain ⟨q,hq⟩ : ∃ q,manT fl 0 nt = q := ⟨_,rfl⟩
 rw [hq] at hT
 have HQ := hid hq
 have PBH := hid PB; have B9 := hid (B0.out.trans (hb9.mono B0.out.size)); have HT := hid hT; have HPL := hid hPl
 clear PB ey ev hly hbf hrz n9 ho hb9 b1 n1 z0 hW hP hT hq hPl hc1
 go_wp2_with fail
 refine PBH.out.mono ?_
 rintro e w2 ⟨A,n,c,rfl,hl,hn,hc,hA2,ho,b2⟩
 have hr2 := Rd.of_own1 ho
 have hcv : (convert 29 9 (.slice A n c)).run Tryz.prog w2.drew = .ok (.string ⟨P.toArray⟩) w2.drew := cv_string hr2.drew c
 have hz : (⟨P.toArray⟩ : ByteArray).size <= 262144 := by show P.toArray.size <= 262144; rw [List.size_toArray]; exact HPL.out
 have hz2 : (sumT ⟨P.toArray⟩).size = 4 := by unfold sumT; show (be _ 4).toArray.size = 4; rw [List.size_toArray,be_length]
 have hadd : ∀ wx : World,(Op.stringOp .add ⟨P.toArray⟩ (sumT ⟨P.toArray⟩)).run Tryz.prog wx = .ok (.string q) wx := fun wx => by rw [HT.out]; exact run_string_add_sum wx _ _ (by rw [hz2]; omega)
 have B2 := hid (B9.out.trans (b2.mono B9.out.size)); have HZ := hid hz; have R2 := hid hr2
 clear hl hn hc hA2 ho b2 hz hr2 hz2
 go_wp2_with fail
 go_region_held3 (fun w' => (convert 29 9 (.slice A n c)).run Tryz.prog w' = .ok (.string ⟨P.toArray⟩) w') (assumption) (first
  | (go_at_call 66
     refine (msum_any ⟨P.toArray⟩ _ (Nat.le_trans HZ.out (by decide))).mono ?_
     rintro e w3 ⟨rfl,b3⟩
     have b3' : Below w2.heap.size w2 w3 := (Below.refl w2.heap.size w2).drew.trans b3
     have hcv3 : (convert 29 9 (.slice A n c)).run Tryz.prog w3 = .ok (.string ⟨P.toArray⟩) w3 := cv_string (R2.out.below b3') c
     have B3 := hid (B2.out.trans (b3'.mono B2.out.size))
     clear b3 b3'))
 go_wp2
 go_ret2
 exact ⟨by rw [HQ.out]; rfl,B3.out⟩
theorem aE_len {x : Int × ByteArray} (h : x.1 <= 1099511627776) (h2 : x.2.size <= 4096) : (aE x).length <= x.2.size + 18 := by
 unfold aE tE
 have h3 := numL_le (v := x.1.toNat) (by omega)
 have h4 := numL_le (v := x.2.size) (by omega)
 have h5 : x.2.data.toList.length = x.2.size := rfl
 simp only [List.length_append]
 omega
theorem adds_len {nt : Fl} (h : ∀ x ∈ nt,x.1 <= 1099511627776 /\ x.2.size <= 4096) : (nt.flatMap aE).length <= (nt.map fun x => x.2.size + 20).sum := by
 induction nt with
 | nil => exact Nat.zero_le _
 | cons x l ih =>
   have h1 := aE_len (h x (List.mem_cons_self ..)).1 (h x (List.mem_cons_self ..)).2
   have h2 := ih fun y hy => h y (List.mem_cons_of_mem _ hy)
   simp only [List.flatMap_cons,List.length_append,List.map_cons,List.sum_cons]
   omega
theorem drops_len {l : List Int} (h : ∀ v ∈ l,v <= 1099511627776) : (l.flatMap fun v => numL v.toNat).length <= 9 * l.length := by
 induction l with
 | nil => exact Nat.zero_le _
 | cons v l ih =>
   have h1 := numL_le (v := v.toNat) (by have := h v (List.mem_cons_self ..); omega)
   have h2 := ih fun y hy => h y (List.mem_cons_of_mem _ hy)
   simp only [List.flatMap_cons,List.length_append,List.length_cons]
   omega
theorem manB_small {nt : Fl} {fl : List Int} {last : Int} (hk : NOk nt) (hs : (nt.map fun x => x.2.size + 20).sum <= 100000) (hd : ∀ v ∈ manD fl last,1 <= v /\ v <= 1099511627776) (hl : (manD fl last).length <= 300) : (manB fl last nt).ok = true /\ (bE (manB fl last nt)).length <= 262140 := by
 constructor
 ·unfold Bt.ok manB
  simp only [Bool.and_eq_true,decide_eq_true_iff,List.all_eq_true]
  refine ⟨by simp,by simp,hk.len,fun x hx => ?_,hl,fun v hv => ?_⟩
  ·unfold addB
   simp only [Bool.and_eq_true,decide_eq_true_iff]
   exact ⟨(hk.wf x hx).1,(hk.wf x hx).2,hk.bod x hx⟩
  ·unfold dropB
   simp only [Bool.and_eq_true,decide_eq_true_iff]
   exact hd v hv
 ·have h1 := adds_len (nt := nt) fun x hx => ⟨(hk.wf x hx).2,hk.bod x hx⟩
  have h2 := drops_len (l := manD fl last) fun v hv => (hd v hv).2
  have h3 := numL_le (v := nt.length) (by have := hk.len; omega)
  have h4 := numL_le (v := (manD fl last).length) (by omega)
  unfold bE manB
  have h5 : (numL ([] : List Mt).length).length <= 9 := numL_le (by simp)
  simp only [List.length_append,List.flatMap_nil,List.length_nil] at h5 ⊢
  omega
structure ManR (w : World) (B cF cN : Nat) (AF AN : Option Addr) (fl : List Int) (last : Int) (nt : Fl) : Prop where
 rf : RdZ w B AF fl.length fl
 adr : AF = none \/ ∃ g o,AF = some ⟨g,o,none⟩
 rn : RdT w B AN nt.length nt
 cap : nt.length <= cN
 l0 : 0 <= last
 l1 : last <= 1099511627776
 ok : (manB fl last nt).ok = true
 len : (bE (manB fl last nt)).length <= 262140
 lf : fl.length <= 1000
 sz : ∀ x ∈ nt,x.2.size <= maxLen
 ln : nt.length <= 1000000
theorem ManR.below {w w' : World} {B cF cN : Nat} {AF AN : Option Addr} {fl : List Int} {last : Int} {nt : Fl} (h : ManR w B cF cN AF AN fl last nt) (hb : Below B w w') : ManR w' B cF cN AF AN fl last nt :=
 ⟨h.rf.below hb,h.adr,h.rn.below hb,h.cap,h.l0,h.l1,h.ok,h.len,h.lf,h.sz,h.ln⟩
theorem putMan_any (B cF cN : Nat) (AF AN : Option Addr) (fl : List Int) (last : Int) (nt : Fl) (w : World) (h : ManR w B cF cN AF AN fl last nt) (hB : B <= w.heap.size) :
    Calls Tryz.prog 152 #[.agg #[.slice AF fl.length cF,.int .i64 last,.slice AN nt.length cN]] w fun e w' => e = .returned (.tuple #[.string (manT fl last nt),.nilIface]) /\ Below w.heap.size w w' := by
 rcases Int.lt_or_le 0 last with h0 | h0
 ·exact putMan_up B cF cN AF AN fl last nt w h.rf h.adr h.rn h.cap hB h0 h.l1 h.ok (Nat.le_trans h.len (by omega)) h.lf h.sz h.ln
 ·exact putMan_zero B cF cN AF AN fl last nt w h.rf h.adr h.rn h.cap hB (by have := h.l0; omega) h.ok (Nat.le_trans h.len (by omega)) h.lf h.sz h.ln
theorem manT_size (fl : List Int) (last : Int) (nt : Fl) : (manT fl last nt).size = (bE (manB fl last nt)).length + 4 := by
 unfold manT
 rw [ByteArray.size_append]
 have h1 : (sumT ⟨(bE (manB fl last nt)).toArray⟩).size = 4 := by unfold sumT; show (be _ 4).toArray.size = 4; rw [List.size_toArray,be_length]
 rw [h1]
 show (bE (manB fl last nt)).toArray.size + 4 = _
 rw [List.size_toArray]
theorem mturn_s (a0 a1 a2 a3 : Addr) (F : Nat -> Prop) (s d : Nat) (S : Sh) (nt : Fl) (x : SP) (B cF cN : Nat) (AF AN : Option Addr) (fl : List Int) (last : Int) (nt2 : Fl) (w : World) (h : StM w F s d S nt x) (hE : ErIn F w a0 a1 a2 a3) (hM : ManR w B cF cN AF AN fl last nt2) (hB : B <= w.heap.size) :
    Calls Tryz.prog 98 #[.pointer (some ⟨s,0,none⟩),.agg #[.slice AF fl.length cF,.int .i64 last,.slice AN nt2.length cN]] w fun e w' => e = .returned .nilIface /\ Kept F w w' /\ ∃ x',x'.data = x.data /\ StM w' (Plus F w w') s d ⟨[],0,S.fs,manT fl last nt2⟩ nt x' := by
 have b0 := (Below.refl w.heap.size w).alloc (Nat.le_refl _) (.cells #[.slice AF fl.length cF,.int .i64 last,.slice AN nt2.length cN] 87)
 have n0 := heap_alloc_new w (.cells #[.slice AF fl.length cF,.int .i64 last,.slice AN nt2.length cN] 87)
 obtain ⟨W,hW⟩ : ∃ W,w.alloc (.cells #[.slice AF fl.length cF,.int .i64 last,.slice AN nt2.length cN] 87) = W := ⟨_,rfl⟩
 rw [hW] at b0 n0
 obtain ⟨T,hT⟩ : ∃ T,manT fl last nt2 = T := ⟨_,rfl⟩
 have hTs : T.size <= 262144 := by rw [<- hT,manT_size]; have := hM.len; omega
 have hPM := putMan_any B cF cN AF AN fl last nt2 W (hM.below (b0.mono hB)) (Nat.le_trans hB b0.size)
 rw [hT] at hPM
 rw [hT]
 have hst : S.turn T = (⟨[],0,S.fs,T⟩,0) := by unfold Sh.turn; rw [if_neg (by omega)]
 have z0 := cell_at (i := 0) n0 rfl
 have z1 := cell_at (i := 1) n0 rfl
 have z2 := cell_at (i := 2) n0 rfl
 have H := hid (h.below hE.in_ b0); have HE := hid (hE.below b0); have PM := hid hPM; have B0 := hid b0; have HST := hid hst; have HTS := hid hTs
 clear h hE hM hB b0 n0 hT hTs hPM hst
 go_enter Tryz.func98,Tryz.ntmps98
 go_wp2_with fail
 refine PM.out.mono ?_
 rintro e w1 ⟨rfl,b1⟩
 have M1 := H.out.below HE.out.in_ b1
 have c0 : w1.cell? ⟨s,0,none⟩ = some (.pointer (some ⟨d,0,none⟩)) := cell_at (i := 0) M1.blk rfl
 have M1H := hid M1; have E1 := hid (HE.out.below b1); have B1 := hid (B0.out.trans (b1.mono B0.out.size))
 clear M1 b1 hW z0 z1 z2
 go_wp2_with fail
 refine (turn_any x.Fd d S T w1 M1H.out.disk (by have := HTS.out; omega)).mono ?_
 rw [HST.out]
 rintro e w2 ⟨rfl,hd,hk⟩
 have st : Step x.Fd w1 x.Fd w2 := Step.same hk
 have M2 := M1H.out.setDisk E1.out.in_ hd st
 have k2 : Kept F w w2 := (Kept.of_below B1.out F).trans (hk.mono M1H.out.fd) fun _ => Or.inl
 have R := hid (show Kept F w w2 /\ ∃ x',x'.data = x.data /\ StM w2 (Plus F w w2) s d ⟨[],0,S.fs,T⟩ nt x' from ⟨k2,{ x with Fd := x.Fd,ro := ext x.ro w1.heap.size 1 },rfl,M2.more fun k hk => hk.imp id fun h => ⟨Nat.le_trans B1.out.size h.1,h.2⟩⟩)
 clear hd hk st M2 k2
 go_wp2
 go_ret
 exact ⟨rfl,R.out⟩
theorem index_z (B n c : Nat) (A : Option Addr) (l : List Int) (v : Int) (w : World) (h : RdZ w B A n l) (hn : n <= 1000000) :
    Calls Tryz.prog 82 #[.slice A n c,.int .i64 v] w fun e w' => (∃ r : Int,e = .returned (.int .i64 r) /\ (0 <= r ↔ v ∈ l)) /\ w' = w := by
 have H := hid h; have HL := hid h.1
 clear h
 go_enter Tryz.func82,Tryz.ntmps82
 go_wp2_with fail
 go_loopw [8] (fun i wr => ∃ t : Nat,t <= n /\ i = .int .i64 t /\ v ∉ l.take t /\ wr = w) (fun i _ => n - (intOf i).toNat)
 case atStart => exact ⟨0,Nat.zero_le _,rfl,by simp,rfl⟩
 case round =>
  obtain ⟨t,ht,rfl,hno,rfl⟩ := hrel
  have NO := hid hno
  clear hno
  by_cases hlt : t < n
  ·have i1 : (t : Int) < n := by omega
   have i0 : (0 : Int) <= t := by omega
   have htl : t < l.length := by rw [HL.out]; exact hlt
   obtain ⟨g0,o0,rfl,hg0,hcs⟩ := H.out.2 (by omega)
   have z0 := hcs t htl
   obtain ⟨x,hx⟩ : ∃ x,l[t] = x := ⟨_,rfl⟩
   rw [hx] at z0
   have HX := hid hx
   clear hcs hg0 hx
   by_cases hv : v = x
   ·have e0 : (v == x) = true := by simp; exact hv
    have HV := hid hv
    clear hv
    go_wp2
    go_ret
    refine ⟨⟨_,rfl,fun _ => ?_,fun _ => by omega⟩,rfl⟩
    rw [HV.out,<- HX.out]
    exact List.getElem_mem htl
   ·have e0 : (v == x) = false := by simp; exact hv
    have HV := hid hv
    clear hv
    go_wp2
    go_roundw
    case rel => exact ⟨t + 1,by omega,by go_num,fun h => by
     rw [List.take_succ_eq_append_getElem htl,List.mem_append] at h
     rcases h with h | h
     ·exact NO.out h
     ·rw [List.mem_singleton,HX.out] at h
      exact HV.out h,trivial⟩
    case measure => simp [intOf]; omega
  ·obtain rfl : t = n := by omega
   have j1 : decide ((t : Int) < (t : Int)) = false := decide_eq_false (by omega)
   go_wp2
   go_ret
   refine ⟨⟨-1,rfl,fun h => absurd h (by decide),fun h => ?_⟩,rfl⟩
   have := NO.out
   rw [List.take_of_length_le (by rw [HL.out]; exact Nat.le_refl _)] at this
   exact absurd h this
theorem contains_z (B n c : Nat) (A : Option Addr) (l : List Int) (v : Int) (w : World) (h : RdZ w B A n l) (hn : n <= 1000000) :
    Calls Tryz.prog 49 #[.slice A n c,.int .i64 v] w fun e w' => e = .returned (.bool (decide (v ∈ l))) /\ w' = w := by
 have I := hid (index_z B n c A l v w h hn)
 clear h
 go_enter Tryz.func49,Tryz.ntmps49
 go_wp2_with fail
 refine I.out.mono ?_
 rintro e w1 ⟨⟨r,rfl,hr⟩,rfl⟩
 obtain ⟨q,hq⟩ : ∃ q,decide (v ∈ l) = q := ⟨_,rfl⟩
 have HQ := hid hq
 have hd : decide (0 <= r) = q := by rw [<- hq]; exact decide_eq_decide.2 hr
 clear hr hq
 go_wp2
 go_ret
 exact ⟨by rw [HQ.out]; rfl,rfl⟩
def dropsS (S : Sh) (l st : List Int) : Sh := l.foldl (fun S n => if n ∈ st then S else S.drop n) S
theorem dropsS_take (S : Sh) (l st : List Int) {t : Nat} (h : t < l.length) : dropsS S (l.take (t + 1)) st = if l[t] ∈ st then dropsS S (l.take t) st else (dropsS S (l.take t) st).drop l[t] := by
 unfold dropsS
 rw [List.take_succ_eq_append_getElem h,List.foldl_append]
 rfl
theorem Plus.trans {F : Nat -> Prop} {w w1 w2 : World} (h1 : w.heap.size <= w1.heap.size) (h2 : w1.heap.size <= w2.heap.size) : ∀ k,Plus (Plus F w w1) w1 w2 k -> Plus F w w2 k := fun k hk => by
 rcases hk with (hk | hk) | hk
 ·exact Or.inl hk
 ·exact Or.inr ⟨hk.1,by omega⟩
 ·exact Or.inr ⟨by omega,hk.2⟩
theorem drop_s (F : Nat -> Prop) (s d : Nat) (S : Sh) (nt : Fl) (x : SP) (B : Nat) (A1 A2 : Option Addr) (c1 c2 n1 n2 : Nat) (fl st : List Int) (w : World) (h : StM w F s d S nt x) (hi : In F w) (hf : RdZ w B A1 n1 fl) (hs : RdZ w B A2 n2 st) (hB : B <= w.heap.size)
    (ho1 : ∀ k,fl ≠ [] -> BlkOf A1 k -> ¬ x.Fd k) (ho2 : ∀ k,st ≠ [] -> BlkOf A2 k -> ¬ x.Fd k) (hn1 : n1 <= 1000000) (hn2 : n2 <= 1000000) (hw : ∀ v ∈ fl,1 <= v /\ v <= 1099511627776) :
    Calls Tryz.prog 26 #[.pointer (some ⟨s,0,none⟩),.slice A1 n1 c1,.slice A2 n2 c2] w fun e w' => e = .returned (.tuple #[]) /\ Kept x.Fd w w' /\ ∃ x',x'.data = x.data /\ x'.Fd = x.Fd /\ StM w' (Plus F w w') s d (dropsS S fl st) nt x' := by
 have r1 : ∀ w',Kept x.Fd w w' -> RdZ w' B A1 n1 fl := fun w' hk => hf.agree fun k hne hb => by
  obtain ⟨g,o,e,hg,_⟩ := hf.2 (by rw [<- hf.1]; exact List.length_pos_iff.2 hne)
  obtain ⟨o',e'⟩ := hb
  rw [e] at e'; injection e' with e'; injection e' with e1
  subst e1
  exact hk.block g (by omega) (ho1 g hne ⟨o,e⟩)
 have r2 : ∀ w',Kept x.Fd w w' -> RdZ w' B A2 n2 st := fun w' hk => hs.agree fun k hne hb => by
  obtain ⟨g,o,e,hg,_⟩ := hs.2 (by rw [<- hs.1]; exact List.length_pos_iff.2 hne)
  obtain ⟨o',e'⟩ := hb
  rw [e] at e'; injection e' with e'; injection e' with e1
  subst e1
  exact hk.block g (by omega) (ho2 g hne ⟨o,e⟩)
 have R1 := hid r1; have R2 := hid r2; have H := hid h; have HI := hid hi; have HW := hid hw; have HL := hid hf.1; have HN1 := hid hn1; have HN2 := hid hn2
 have M0 : Hid (StM w (Plus F w w) s d S nt x) := hid (h.more fun k hk => Or.inl hk)
 clear r1 r2 h hi hf hs hB ho1 ho2 hw hn2
 go_enter Tryz.func26,Tryz.ntmps26
 go_wp2_with fail
 go_loopw [10] (fun i wr => ∃ (t : Nat) (x' : SP),t <= n1 /\ i = .int .i64 t /\ x'.data = x.data /\ x'.Fd = x.Fd /\ StM wr (Plus F w wr) s d (dropsS S (fl.take t) st) nt x' /\ Kept x.Fd w wr) (fun i _ => n1 - (intOf i).toNat)
 case atStart => exact ⟨0,x,Nat.zero_le _,rfl,rfl,rfl,M0.out,Kept.refl _ _⟩
 case round =>
  obtain ⟨t,x',ht,rfl,hx,hd,hM,hk⟩ := hrel
  have XH := hid hx; have DH := hid hd; have MH := hid hM; have KH := hid hk
  have hin := Plus.in_ (w' := wr) HI.out hk.size
  have IH := hid hin
  have c0 : wr.cell? ⟨s,0,none⟩ = some (.pointer (some ⟨d,0,none⟩)) := cell_at (i := 0) hM.blk rfl
  clear hx hd hM hk hin
  by_cases hlt : t < n1
  ·have i1 : (t : Int) < n1 := by omega
   have i0 : (0 : Int) <= t := by omega
   have htl : t < fl.length := by rw [HL.out]; exact hlt
   obtain ⟨g0,o0,hA,hg0,hcs⟩ := (R1.out wr KH.out).2 (by omega)
   subst hA
   have z0 := hcs t htl
   have hwv := HW.out fl[t] (List.getElem_mem htl)
   have htk := dropsS_take S fl st htl
   obtain ⟨v,hv⟩ : ∃ v,fl[t] = v := ⟨_,rfl⟩
   rw [hv] at z0 hwv htk
   have HWV := hid (wf_of hwv.1 hwv.2); have HTK := hid htk
   clear hcs hwv htk hv hg0
   go_wp2_with fail
   refine (contains_z B n2 c2 A2 st v wr (R2.out wr KH.out) HN2.out).mono ?_
   rintro e w3 ⟨rfl,rfl⟩
   by_cases hvs : v ∈ st
   ·have e1 : dropsS S (fl.take (t + 1)) st = dropsS S (fl.take t) st := by rw [HTK.out,if_pos hvs]
    have E1 := hid e1
    rw [decide_eq_true hvs]
    clear e1 hvs
    go_wp2
    go_roundw
    case rel => exact ⟨t + 1,x',by omega,by go_num,XH.out,DH.out,by rw [E1.out]; exact MH.out,KH.out⟩
    case measure => simp [intOf]; omega
   ·have e1 : dropsS S (fl.take (t + 1)) st = (dropsS S (fl.take t) st).drop v := by rw [HTK.out,if_neg hvs]
    have E1 := hid e1
    rw [decide_eq_false hvs]
    clear e1 hvs
    go_wp2_with fail
    refine (drop_any x'.Fd d _ v _ MH.out.disk HWV.out).mono ?_
    rintro e w4 ⟨rfl,hd4,k4⟩
    have M4 := MH.out.setDisk IH.out hd4 (Step.same k4)
    have M5 := hid (M4.more (Plus.trans (F := F) KH.out.size k4.size))
    rw [DH.out] at k4
    have K5 := hid (KH.out.trans k4 fun _ => Or.inl)
    clear hd4 k4 M4
    go_wp2
    go_roundw
    case rel => exact ⟨t + 1,{ x' with Fd := x'.Fd,ro := ext x'.ro w3.heap.size 1 },by omega,by go_num,XH.out,DH.out,by rw [E1.out]; exact M5.out,K5.out⟩
    case measure => simp [intOf]; omega
  ·obtain rfl : t = n1 := by omega
   have j1 : decide ((t : Int) < (t : Int)) = false := decide_eq_false (by omega)
   have hM := MH.out
   rw [List.take_of_length_le (by rw [HL.out]; exact Nat.le_refl _)] at hM
   have M6 := hid hM
   clear hM MH
   go_wp2
   go_end0
   exact ⟨rfl,KH.out,x',XH.out,DH.out,M6.out⟩
end Go.Proofs.YtmpcnhpdobdmcaaGreatDoor
