import Derived.Test.YtmpcnhpdobdmcaaGreatDoorLawNotesBO
import Derived.Test.YtmpcnhpdobdmcaaGreatDoorLawNotesBP
import Derived.Test.YtmpcnhpdobdmcaaGreatDoorLawNotesBL
import Derived.Test.YtmpcnhpdobdmcaaGreatDoorLawNotesX
import Derived.Test.YtmpcnhpdobdmcaaGreatDoorLawNotesBJ
import Derived.Test.YtmpcnhpdobdmcaaGreatDoorLawNotesBN
import Derived.Test.YtmpcnhpdobdmcaaGreatDoorLawNotesBF
import Derived.WalkSmall
open Go.Lib (hid)
open List renaming getElem_toArray -> zq1,getElem_cons_succ -> zq2,getElem_cons_zero -> zq3,setIfInBounds_toArray -> zq4,set_cons_zero -> zq5,set_cons_succ -> zq6
set_option linter.unusedVariables false
set_option linter.unusedSimpArgs false
set_option maxHeartbeats 4000000
set_option maxRecDepth 20000
namespace Go.Proofs.YtmpcnhpdobdmcaaGreatDoor
open Go Go.RowKit
section
variable {F : Nat -> Prop} {s d : Nat} {S : Sh} {nt : Fl} {x : SP}
theorem tables_s (w : World) (h : StM w F s d S nt x) (hn : x.Ta.length <= 1000) :
    Calls Tryz.prog 11 #[.pointer (some ⟨s,0,none⟩)] w fun e w' => ∃ (A : Option Addr) (c : Nat),e = .returned (.slice A x.Ta.length c) /\ RdS w' w'.heap.size A x.Ta.length (x.Ta.map TA.nm) /\ x.Ta.length <= c /\ Below w.heap.size w w' := by
 have c1 := cell_at (i := 1) h.blk rfl
 have H := hid h; have HN := hid hn
 clear h hn
 go_enter Tryz.func11,Tryz.ntmps11
 go_wp2_with (go_at_call 31; refine (names_t x.ma x.Ta w H.out.all HN.out).mono ?_; rintro e w' ⟨A,c,rfl,h1,h2,h3⟩)
 go_ret
 exact ⟨A,c,rfl,h1,h2,h3⟩
theorem note_s (id : Int) (w : World) (h : StM w F s d S nt x) (hi : In F w) (hk : NOk nt) (hidq : (Lit.int .i64 id).wf = true) :
    Calls Tryz.prog 17 #[.pointer (some ⟨s,0,none⟩),.int .i64 id] w fun e w' => e = .returned (.tuple #[.string (getF nt id),.bool (hasF nt id)]) /\ Below w.heap.size w w' := by
 have c3 := cell_at (i := 3) h.blk rfl
 have H := hid h; have HI := hid hi; have HK := hid hk; have HD := hid hidq
 clear h hi hk hidq
 go_enter Tryz.func17,Tryz.ntmps17
 go_wp2_with (go_at_call 37; refine (devN.get x.Fn x.q nt id w H.out.nts (fun k hk => HI.out k (H.out.fn k hk)) HK.out HD.out).mono ?_; rintro e w' ⟨rfl,h3⟩)
 go_ret2
 exact ⟨rfl,h3⟩
theorem notes_s (w : World) (h : StM w F s d S nt x) (hi : In F w) (hk : NOk nt) :
    Calls Tryz.prog 18 #[.pointer (some ⟨s,0,none⟩)] w fun e w' => ∃ (A : Option Addr) (n c : Nat),e = .returned (.slice A n c) /\ RdT w' w'.heap.size A n nt /\ n <= c /\ Below w.heap.size w w' := by
 have c3 := cell_at (i := 3) h.blk rfl
 have H := hid h; have HI := hid hi; have HK := hid hk
 clear h hi hk
 go_enter Tryz.func18,Tryz.ntmps18
 go_wp2_with (go_at_call 38; refine (devN.all x.Fn x.q nt w H.out.nts (fun k hk => HI.out k (H.out.fn k hk)) HK.out).mono ?_; rintro e w' ⟨A,n,c,rfl,h1,h2,h3⟩)
 go_ret
 exact ⟨A,n,c,rfl,h1,h2,h3⟩
theorem sync_s (w : World) (h : StM w F s d S nt x) (hi : In F w) :
    Calls Tryz.prog 15 #[.pointer (some ⟨s,0,none⟩)] w fun e w' => e = .returned (.tuple #[]) /\ Kept F w w' /\ StM w' (Plus F w w') s d S.sync nt { x with ro := ext x.ro w.heap.size 1 } := by
 have c0 := cell_at (i := 0) h.blk rfl
 have H := hid h; have HI := hid hi
 clear h hi
 go_enter Tryz.func15,Tryz.ntmps15
 go_wp2_with (go_at_call 34; refine (sync_any x.Fd d S w H.out.disk).mono ?_; rintro e w' ⟨rfl,h1,h2⟩)
 go_end0
 exact ⟨rfl,h2.mono H.out.fd,H.out.setDisk HI.out h1 (Step.same h2)⟩
theorem get_s (t k : ByteArray) (w : World) (h : StM w F s d S nt x) (hi : In F w) (ht : t.size <= maxLen) (hk : k.size <= maxLen) (p : PA) (hp : (lookA x.Ta t k).getD (emptyP k) = p) (hl : p.L.length <= 1000) (hc : ∀ y ∈ p.L,y.ro.cols.length <= 1000000) :
    Calls Tryz.prog 12 #[.pointer (some ⟨s,0,none⟩),.string t,.string k] w fun e w' => ∃ y : PA,e = .returned (.agg #[.string y.k,.int .i64 y.g,.slice y.A y.L.length y.c]) /\ paOf y = paOf p /\ Lies w' w'.heap.size y.A y.L.length y.c y.L /\ Below w.heap.size w w' := by
 have hb0 := (Below.refl w.heap.size w).alloc (Nat.le_refl _) (.cells #[.string ⟨#[]⟩,.int .i64 0,.slice none 0 0] 33)
 have h1 := h.below hi hb0
 have n0 := heap_alloc_new w (.cells #[.string ⟨#[]⟩,.int .i64 0,.slice none 0 0] 33)
 obtain ⟨W,hW⟩ : ∃ W,w.alloc (.cells #[.string ⟨#[]⟩,.int .i64 0,.slice none 0 0] 33) = W := ⟨_,rfl⟩
 have hws : W.heap.size = w.heap.size + 1 := by rw [<- hW]; simp
 rw [hW] at hb0 h1 n0
 have c1 := cell_at (i := 1) h1.blk rfl
 have H := hid h1; have HT := hid ht; have HK := hid hk; have HP := hid hp; have HL := hid hl; have HC := hid hc; have B0 := hid hb0; have N0 := hid n0; have WS := hid hws
 have PL : Hid (Lies W W.heap.size p.A p.L.length p.c p.L) := hid (by
  rw [<- hp]
  cases e : lookA x.Ta t k with
  | none => exact ⟨⟨rfl,fun h => absurd h (by simp [emptyP])⟩,fun y hy => (by cases hy),Nat.le_refl _⟩
  | some q =>
    obtain ⟨z,hz,_,hq,_⟩ := lookA_mem e
    exact h1.all.lies z hz q hq)
 clear h h1 hi ht hk hp hl hc hb0 n0 hws
 go_enter Tryz.func12,Tryz.ntmps12
 go_wp2_with fail
 refine (get_t x.ma x.Ta t k W H.out.all HT.out HK.out p HP.out).mono ?_
 rintro e w2 ⟨rfl,b2⟩
 have B2 := hid b2
 clear b2
 go_wp2_with fail
 refine (pcopy_any p.k p.g p.A p.L.length p.c w2.heap.size p.L w2 ((PL.out.below B2.out).up B2.out.size) (Nat.le_refl _) (by have := HL.out; omega) HC.out).mono ?_
 rintro e w3 ⟨M,A',n',c',rfl,hM,hF⟩
 have b3 := hF.below
 have n3 := (b3.block w.heap.size (by have := B2.out.size; have := WS.out; omega)).trans ((B2.out.block w.heap.size (by have := WS.out; omega)).trans N0.out)
 have y0 := thawed_at (i := 0) n3
 have y1 := thawed_at (i := 1) n3
 have y2 := thawed_at (i := 2) n3
 have r0 := cell_at (i := 0) n3 rfl
 have r1 := cell_at (i := 1) n3 rfl
 have r2 := cell_at (i := 2) n3 rfl
 obtain ⟨rfl,hl6⟩ := fresh_set3 hF (show w.heap.size < w2.heap.size by have := B2.out.size; have := WS.out; omega) (.string p.k) (.int .i64 p.g) (.slice A' n' c')
 have m6 := set3_block n3 (.string p.k) (.int .i64 p.g) (.slice A' M.length c')
 have k6 := kept_set3 (w := w3) w.heap.size (.string p.k) (.int .i64 p.g) (.slice A' M.length c')
 have q0 := cell_at (i := 0) m6 rfl
 have q1 := cell_at (i := 1) m6 rfl
 have q2 := cell_at (i := 2) m6 rfl
 have hbb : Below w.heap.size w (((w3.setCell ⟨w.heap.size,0,none⟩ (.string p.k)).setCell ⟨w.heap.size,1,none⟩ (.int .i64 p.g)).setCell ⟨w.heap.size,2,none⟩ (.slice A' M.length c')) :=
  (((B0.out).trans (B2.out.mono (by have := WS.out; omega))).trans (b3.mono (by have := B2.out.size; have := WS.out; omega))).trans (k6.below (B := w.heap.size) (fun k hk => by rw [hk]; exact Nat.le_refl _) (by have := B2.out.size; have := WS.out; have := b3.size; omega))
 have BB := hid hbb; have L6 := hid hl6; have HM := hid hM
 clear b3 n3 hl6 m6 k6 hbb hM hF
 go_wp2
 refine bodyPost_ret (v := .agg #[.string p.k,.int .i64 p.g,.slice A' M.length c']) ?_ rfl ?_
 ·simp [results,Tryz.results12,go_sem,q0,q1,q2]
 ·exact ⟨⟨p.k,p.g,M,A',c'⟩,rfl,by unfold paOf; rw [HM.out],L6.out,BB.out⟩
end
end Go.Proofs.YtmpcnhpdobdmcaaGreatDoor
namespace Go.Proofs.YtmpcnhpdobdmcaaGreatDoor
open Go Go.RowKit
variable (Q : Option Addr -> Nat -> List Int -> Int -> Fl -> ByteArray -> St -> Prop)
structure SafeS (b : St) : Prop where
 ok : StOk b
 pok : ∀ t k p,look b.tb t k = some p -> p.ok = true
structure PI (x : SP) (S : Sh) (b : St) (l : List Bt) : Prop where
 ta : tbs x.Ta = (b.apps l).tb
 ts : tbs x.Ts = (mutsOf l).foldl mutT []
 safe : SafeS b
 fit : b.AllFit l
 short : Short l
 log : S.log = recs l
 len : (recs l).length <= 262144
 q : Q x.A x.c x.fl x.last S.fs S.man b
def PS (w : World) (F : Nat -> Prop) (s d : Nat) (S : Sh) (b : St) (l : List Bt) : Prop := ∃ x,StM w F s d S (b.apps l).nt x /\ PI Q x S b l
def ES (fs : Fl) (man : ByteArray) (b : St) : Prop := SafeS b /\ ∃ A c fl last,Q A c fl last fs man b
theorem SafeS.new : SafeS St.new := ⟨StOk.new,fun t k p hp => by cases hp⟩
section
variable {Q}
variable {x : SP} {S : Sh} {b : St} {l : List Bt} {w : World} {F : Nat -> Prop} {s d : Nat}
theorem PI.stok (h : PI Q x S b l) : StOk (b.apps l) := h.safe.ok.apps l h.fit
theorem PI.tot (h : PI Q x S b l) {t k : ByteArray} {p : Pa} (hp : look (b.apps l).tb t k = some p) : p.tot <= 300000 := apps_tot h.safe.ok.tb h.safe.pok h.len t k p hp
theorem look_new (l : List Bt) : (mutsOf l).foldl mutT [] = (St.new.apps l).tb := (apps_tb St.new l).symm
theorem ready_all (h : PI Q x S b l) {B : Bt} (hr : (recs (l ++ [B])).length <= 262144) : Ready x.Ta B.muts := by
 refine ⟨by rw [h.ta]; exact h.stok.fit,by rw [h.ta]; exact h.stok.up,fun t k p hp => ?_⟩
 rw [h.ta] at hp
 have e : (b.apps (l ++ [B])).tb = B.muts.foldl mutT (b.apps l).tb := by rw [St.apps_snoc]; rfl
 rw [<- e] at hp
 exact Nat.le_trans (apps_tot h.safe.ok.tb h.safe.pok hr t k p hp) (by omega)
theorem ready_since (h : PI Q x S b l) {B : Bt} (hr : (recs (l ++ [B])).length <= 262144) : Ready x.Ts B.muts := by
 obtain ⟨h1,h2,h3⟩ := since_ok h.safe.ok h.fit
 refine ⟨by rw [h.ts]; exact h3,by rw [h.ts]; exact h2,fun t k p hp => ?_⟩
 rw [h.ts] at hp
 have e : (St.new.apps (l ++ [B])).tb = B.muts.foldl mutT ((mutsOf l).foldl mutT []) := by rw [St.apps_snoc,look_new]; rfl
 rw [<- e] at hp
 exact Nat.le_trans (apps_tot TbOk.nil SafeS.new.pok hr t k p hp) (by omega)
theorem recs_snoc (l : List Bt) (b : Bt) : recs (l ++ [b]) = recs l ++ put (recs l).length (bE b) := by
 unfold recs
 rw [List.map_append]
 exact puts_snoc _ _
theorem sumR_mem {l : Rows} {r : Ro} (h : r ∈ l) : r.cols.length <= sumR l := by
 induction l with
 | nil => cases h
 | cons a l ih =>
   rw [sumR_cons]
   rcases List.mem_cons.1 h with rfl | h
   ·omega
   ·have := ih h; omega
theorem totM_few {l : List Mt} (h : ∀ m ∈ l,m.2.tot <= 1000) : totM l <= 1000 * l.length := by
 induction l with
 | nil => exact Nat.zero_le _
 | cons m l ih =>
   have h1 := h m (List.mem_cons_self ..)
   have h2 := ih fun x hx => h x (List.mem_cons_of_mem _ hx)
   have e : totM (m :: l) = m.2.tot + totM l := by unfold totM; simp
   rw [e,List.length_cons]
   omega
theorem PI.rows (h : PI Q x S b l) {t : ByteArray} {p : PA} (hp : p ∈ xsOf x.Ta t) (hT : TaOk x.Ta) : p.L.length <= 100 /\ ∀ y ∈ p.L,y.ro.cols.length <= 300000 := by
 have e : lookA x.Ta t p.k = some p := by
  unfold lookA
  exact getK_mem (hT.xsRise t) hp
 have e2 : look (b.apps l).tb t p.k = some (paOf p) := by rw [<- h.ta,look_tbs,e]; rfl
 have h1 := h.stok.fit.rows e2
 have h2 := h.tot e2
 have e3 : (paOf p).rows = ros p.L := rfl
 rw [e3] at h1
 refine ⟨by unfold ros at h1; rw [List.length_map] at h1; exact h1,fun y hy => ?_⟩
 have h3 : y.ro.cols.length <= sumR (ros p.L) := sumR_mem (List.mem_map.2 ⟨y,hy,rfl⟩)
 exact Nat.le_trans h3 h2
theorem partsOf_eq (s : St) (t : ByteArray) : partsOf s t = psOf s.tb t := rfl
theorem step_plus {w w' : World} {F : Nat -> Prop} (hk : Kept F w w') : Step F w (Plus F w w') w' := ⟨hk,fun k hk => hk⟩
theorem p_kept {w' : World} {G : Nat -> Prop} (h : PS Q w G s d S b l) (hk : Kept F w w') (ho : Off F G) (hi : In G w) : PS Q w' G s d S b l := by
 obtain ⟨x,hM,hP⟩ := h
 exact ⟨x,hM.kept hk ho hi,hP⟩
theorem p_shelf (h : PS Q w F s d S b l) : ∃ Fd : Nat -> Prop,ShIs w Fd d S /\ ∀ k,Fd k -> F k := by
 obtain ⟨x,hM,hP⟩ := h
 exact ⟨x.Fd,hM.disk,hM.fd⟩
theorem p_says (h : PS Q w F s d S b l) : ES Q S.fs S.man b /\ S.log = recs l /\ b.AllFit l /\ Short l := by
 obtain ⟨x,hM,hP⟩ := h
 exact ⟨⟨hP.safe,x.A,x.c,x.fl,x.last,hP.q⟩,hP.log,hP.fit,hP.short⟩
theorem p_apply (F : Nat -> Prop) (s d : Nat) (S : Sh) (b : St) (l : List Bt) (y : BA) (w : World) (h : PS Q w F s d S b l) (hE : InE F w) (hy : LiesB w w.heap.size y) (hyo : ∀ k,y.blk k -> ¬ F k) (hf : BtF y) (hfit : (b.apps l).Fits y.bt) (hlen : (bE y.bt).length <= 262144) (hr : (recs (l ++ [y.bt])).length <= 262144) :
    Calls Tryz.prog 9 #[.pointer (some ⟨s,0,none⟩),bV y] w fun e w' => e = .returned (.int .i64 0) /\ ∃ F',PS Q w' F' s d { S with log := recs (l ++ [y.bt]) } b (l ++ [y.bt]) /\ Step F w F' w' := by
 obtain ⟨x,hM,hP⟩ := h
 obtain ⟨a0,a1,a2,a3,hE⟩ := hE
 obtain ⟨f1,f2,f3⟩ := fits_iff.1 hfit
 have hfit2 : b.AllFit (l ++ [y.bt]) := St.allFit_snoc.2 ⟨hP.fit,hfit⟩
 have hts := (since_ok hP.safe.ok hfit2).2.2
 rw [mutsOf_snoc,List.foldl_append] at hts
 refine (Apply_s a0 a1 a2 a3 F s d S (b.apps l).nt x y w.heap.size w hM hE hy (Nat.le_refl _) hyo hf f1 hP.stok.nok (ready_all hP hr) (by rw [hP.ta]; exact f3) f2 (ready_since hP hr) (by rw [hP.ts]; exact hts) hlen (by rw [hP.log,<- recs_snoc_le]; exact hr)).mono ?_
 rintro e w' ⟨rfl,F',x',T',T2,hM',hx,ht,ht2,hE',hst⟩
 refine ⟨rfl,F',⟨x',?_,?_⟩,hst⟩
 ·rw [hP.log,<- recs_snoc] at hM'
  rw [St.apps_snoc]
  exact hM'
 ·obtain ⟨e1,e2,e3,e4,e5,e6,e7,e8,e9⟩ := SP.data_eq (y := { x with Ta := T',Ts := T2 }) hx
  refine ⟨?_,?_,hP.safe,hfit2,?_,rfl,hr,?_⟩
  ·rw [e4,ht,hP.ta,St.apps_snoc]; rfl
  ·rw [e5,ht2,hP.ts,mutsOf_snoc,List.foldl_append]; rfl
  ·intro c hc
   rcases List.mem_append.1 hc with hc | hc
   ·exact hP.short c hc
   ·rw [List.mem_singleton.1 hc]; exact hlen
  ·rw [e6,e7,e8,e9]; exact hP.q
theorem p_sync (F : Nat -> Prop) (s d : Nat) (S : Sh) (b : St) (l : List Bt) (w : World) (h : PS Q w F s d S b l) (hE : InE F w) :
    Calls Tryz.prog 15 #[.pointer (some ⟨s,0,none⟩)] w fun e w' => e = .returned (.tuple #[]) /\ ∃ F',PS Q w' F' s d { S with syn := S.log.length } b l /\ Step F w F' w' := by
 obtain ⟨x,hM,hP⟩ := h
 refine (sync_s w hM hE.in_).mono ?_
 rintro e w' ⟨rfl,hk,hM'⟩
 exact ⟨rfl,_,⟨_,hM',⟨hP.ta,hP.ts,hP.safe,hP.fit,hP.short,hP.log,hP.len,hP.q⟩⟩,step_plus hk⟩
theorem p_get (F : Nat -> Prop) (s d : Nat) (S : Sh) (b : St) (l : List Bt) (t k : ByteArray) (w : World) (h : PS Q w F s d S b l) (hE : InE F w) (ht : t.size <= maxLen) (hk : k.size <= maxLen) :
    Calls Tryz.prog 12 #[.pointer (some ⟨s,0,none⟩),.string t,.string k] w fun e w' => ∃ y : PA,e = .returned (.agg #[.string y.k,.int .i64 y.g,.slice y.A y.L.length y.c]) /\ paOf y = getPt (b.apps l) t k /\ Lies w' w'.heap.size y.A y.L.length y.c y.L /\ Below w.heap.size w w' := by
 obtain ⟨x,hM,hP⟩ := h
 obtain ⟨p,hp⟩ : ∃ p,(lookA x.Ta t k).getD (emptyP k) = p := ⟨_,rfl⟩
 have hpl : p.L.length <= 100 /\ ∀ y ∈ p.L,y.ro.cols.length <= 300000 := by
  cases e : lookA x.Ta t k with
  | none =>
    rw [e] at hp
    subst hp
    exact ⟨by simp [emptyP],fun y hy => by simp [emptyP] at hy⟩
  | some q =>
    rw [e] at hp
    subst hp
    have h2 : q ∈ xsOf x.Ta t := by
     unfold lookA at e
     exact (getK_some e).1
    exact hP.rows h2 hM.all.ok
 refine (get_s t k w hM hE.in_ ht hk p hp (Nat.le_trans hpl.1 (by omega)) fun y hy => Nat.le_trans (hpl.2 y hy) (by omega)).mono ?_
 rintro e w' ⟨y,rfl,h1,h2,h3⟩
 refine ⟨y,rfl,?_,h2,h3⟩
 rw [h1,<- hp]
 unfold getPt
 rw [partsOf_eq,<- hP.ta]
 show _ = (look (tbs x.Ta) t k).getD ⟨k,0,[]⟩
 rw [look_tbs]
 cases lookA x.Ta t k <;> rfl
theorem p_tables (F : Nat -> Prop) (s d : Nat) (S : Sh) (b : St) (l : List Bt) (w : World) (h : PS Q w F s d S b l) (hE : InE F w) :
    Calls Tryz.prog 11 #[.pointer (some ⟨s,0,none⟩)] w fun e w' => ∃ (A : Option Addr) (n c : Nat),e = .returned (.slice A n c) /\ RdS w' w'.heap.size A n ((b.apps l).tb.map Tb.nm) /\ n <= c /\ Below w.heap.size w w' := by
 obtain ⟨x,hM,hP⟩ := h
 have e1 : (b.apps l).tb.map Tb.nm = x.Ta.map TA.nm := by
  rw [<- hP.ta]
  unfold tbs
  rw [List.map_map]
  rfl
 have e2 : x.Ta.length <= 8 := by
  have := hP.stok.fit.tabs
  rw [<- hP.ta] at this
  unfold tbs at this
  rwa [List.length_map] at this
 rw [e1]
 refine (tables_s w hM (by omega)).mono ?_
 rintro e w' ⟨A,c,rfl,h1,h2,h3⟩
 exact ⟨A,_,c,rfl,h1,h2,h3⟩
theorem p_note (F : Nat -> Prop) (s d : Nat) (S : Sh) (b : St) (l : List Bt) (id : Int) (w : World) (h : PS Q w F s d S b l) (hE : InE F w) (hidq : (Lit.int .i64 id).wf = true) :
    Calls Tryz.prog 17 #[.pointer (some ⟨s,0,none⟩),.int .i64 id] w fun e w' => e = .returned (.tuple #[.string (getF (b.apps l).nt id),.bool (hasF (b.apps l).nt id)]) /\ Below w.heap.size w w' := by
 obtain ⟨x,hM,hP⟩ := h
 exact note_s id w hM hE.in_ hP.stok.nok hidq
theorem p_notes (F : Nat -> Prop) (s d : Nat) (S : Sh) (b : St) (l : List Bt) (w : World) (h : PS Q w F s d S b l) (hE : InE F w) :
    Calls Tryz.prog 18 #[.pointer (some ⟨s,0,none⟩)] w fun e w' => ∃ (A : Option Addr) (n c : Nat),e = .returned (.slice A n c) /\ RdT w' w'.heap.size A n (b.apps l).nt /\ n <= c /\ Below w.heap.size w w' := by
 obtain ⟨x,hM,hP⟩ := h
 exact notes_s w hM hE.in_ hP.stok.nok
end
end Go.Proofs.YtmpcnhpdobdmcaaGreatDoor
namespace Go.Proofs.YtmpcnhpdobdmcaaGreatDoor
open Go Go.RowKit
theorem own_blk {w : World} {B m n c k : Nat} {t : TypeId} {u : Nat} {A : Option Addr} {row : List Value} (h : w.ownsRow B t u (.slice A n c) m row) (hk : BlkOf A k) : B <= k := by
 obtain ⟨o,rfl⟩ := hk
 rcases h.2 with ⟨h2,h3⟩ | ⟨g,cap,cur,h2,h3,_⟩
 ·injection h2 with h2
  cases h2
 ·injection h2 with h2
  injection h2 with h2
  injection h2 with h2
  omega
theorem RowsQ.rowsF {w0 w : World} {A : Option Addr} {m c : Nat} {M : List RA} (h : RowsQ w0 w A m c M) {k : Nat} (hk : Go.Proofs.YtmpcnhpdobdmcaaGreatDoor.rowsF A M k) : w0.heap.size <= k := by
 rcases hk with ⟨hne,hk⟩ | ⟨x,hx,hne,hk⟩
 ·exact own_blk h.own hk
 ·exact own_blk (h.cols x hx) hk
theorem BatQ.blk {w0 w : World} {z : BA} (h : BatQ w0 w z) {k : Nat} (hk : z.blk k) : w0.heap.size <= k := by
 rcases hk with ⟨hne,hk⟩ | ⟨hne,hk⟩ | ⟨hne,hk⟩ | ⟨x,hx,hk⟩
 ·exact own_blk h.muts.own hk
 ·exact own_blk h.notes hk
 ·exact own_blk h.drops hk
 ·exact (h.muts.parts x hx).rowsF hk
theorem getBatch_bE {l : Bs} {b : Bt} (h : getBatch l = .ok b) : bE b = l /\ b.ok = true /\ b.Tr /\ l.length <= 262144 := by
 obtain ⟨h1,h2⟩ := batch_codecT.same (ok := Bt.ok) h
 obtain ⟨h3,h4,h5⟩ := put_ok h1
 exact ⟨h5.symm,h3,h2,by rw [h5]; exact h4⟩
theorem fits_all {b : St} {l : List Bt} {B : Bt} (h : (b.apps l).Fits B) : FitS (B.muts.foldl mutT (b.apps l).tb) /\ fitN (dropsN (b.apps l).nt B.drop) B.add = true /\ B.ok = true := by
 obtain ⟨h1,h2,h3⟩ := fits_iff.1 h
 exact ⟨h3,h2,h1⟩
structure Read (b : St) (l : Bs) (T : List ByteArray) (i : Nat) (bs : List Bt) : Prop where
 fit : b.AllFit bs
 short : Short bs
 map : bs.map bE = (lists T).take i
 pre : recs bs <+: l
theorem Read.zero (b : St) (l : Bs) (T : List ByteArray) : Read b l T 0 [] := ⟨trivial,fun b hb => (by cases hb),rfl,List.nil_prefix⟩
theorem lists_get {T : List ByteArray} {i : Nat} (h : i < T.length) : (lists T)[i]? = some T[i].data.toList := by
 unfold lists
 rw [List.getElem?_map,List.getElem?_eq_getElem h]
 rfl
theorem Read.next {b : St} {l : Bs} {T : List ByteArray} {i : Nat} {bs : List Bt} (h : Read b l T i bs) (ha : Ans l (lists T)) (hi : i < T.length) {B : Bt} (hg : getBatch T[i].data.toList = .ok B) (hf : (b.apps bs).Fits B) : Read b l T (i + 1) (bs ++ [B]) := by
 obtain ⟨h1,h2,h3,h4⟩ := getBatch_bE hg
 have hm : (bs ++ [B]).map bE = (lists T).take (i + 1) := by
  rw [List.take_add_one,lists_get hi,List.map_append,h.map,List.map_singleton,h1]
  rfl
 refine ⟨St.allFit_snoc.2 ⟨h.fit,hf⟩,fun c hc => ?_,hm,?_⟩
 ·rcases List.mem_append.1 hc with hc | hc
  ·exact h.short c hc
  ·rw [List.mem_singleton.1 hc,h1]; exact h4
 ·unfold recs
  rw [hm]
  refine List.IsPrefix.trans ?_ ha.1
  obtain ⟨r,hr⟩ := List.take_prefix (i + 1) (lists T)
  exact ⟨puts (0 + (puts 0 ((lists T).take (i + 1))).length) r,by rw [<- puts_append,hr]⟩
theorem Read.stop {b : St} {l : Bs} {T : List ByteArray} {i : Nat} {bs : List Bt} (h : Read b l T i bs) (ha : Ans l (lists T)) (hi : i < T.length) (hno : ∀ B,getBatch T[i].data.toList = .ok B -> ¬ (b.apps bs).Fits B) : Opens b l bs := by
 refine ⟨h.fit,h.short,lists T,ha,by rw [h.map]; exact List.take_prefix _ _,fun x hx B hB => ?_⟩
 have hl : (bs.map bE).length = i := by
  rw [h.map,List.length_take]
  unfold lists
  rw [List.length_map]
  omega
 have e : (lists T)[i]? = some x := by
  obtain ⟨r,hr⟩ := hx
  rw [<- hr,List.append_assoc,List.getElem?_append_right (by omega),hl,Nat.sub_self]
  rfl
 rw [lists_get hi] at e
 injection e with e
 rw [<- e] at hB
 exact hno B hB
theorem Read.end_ {b : St} {l : Bs} {T : List ByteArray} {bs : List Bt} (h : Read b l T T.length bs) (ha : Ans l (lists T)) : Opens b l bs := by
 have e : bs.map bE = lists T := by
  rw [h.map]
  refine List.take_of_length_le ?_
  unfold lists
  rw [List.length_map]
  exact Nat.le_refl _
 refine ⟨h.fit,h.short,lists T,ha,by rw [e]; exact List.prefix_refl _,fun x hx => ?_⟩
 rw [e] at hx
 have := hx.length_le
 rw [List.length_append,List.length_singleton] at this
 omega
theorem ready_more {b : St} {l : List Bt} {T : List TA} (hs : SafeS b) (hf : b.AllFit l) (hl : (recs l).length <= 262144) (hT : tbs T = (b.apps l).tb) {B : Bt} (hB : B.ok = true) : Ready T B.muts := by
 have hok := hs.ok.apps l hf
 refine ⟨by rw [hT]; exact hok.fit,by rw [hT]; exact hok.up,fun t k p hp => ?_⟩
 rw [hT] at hp
 have h1 := look_tot hok.tb t k B.muts
 rw [hp] at h1
 have h1 : p.tot <= totO (look (b.apps l).tb t k) + totM B.muts := h1
 have h2 : totO (look (b.apps l).tb t k) <= 300000 := by
  cases e : look (b.apps l).tb t k with
  | none => exact Nat.zero_le _
  | some q => exact apps_tot hs.ok.tb hs.pok hl t k q e
 have h3 := totM_few (l := B.muts) fun m hm => (mutB_comes ((ok_parts hB).1 m hm)).2.2.2
 have h4 := (ok_parts hB).2.1
 omega
theorem ready_more2 {b : St} {l : List Bt} {T : List TA} (hs : SafeS b) (hf : b.AllFit l) (hl : (recs l).length <= 262144) (hT : tbs T = (mutsOf l).foldl mutT []) {B : Bt} (hB : B.ok = true) : Ready T B.muts := by
 obtain ⟨h1,h2,h3⟩ := since_ok hs.ok hf
 refine ⟨by rw [hT]; exact h3,by rw [hT]; exact h2,fun t k p hp => ?_⟩
 rw [hT,look_new] at hp
 have h1' := h1
 rw [look_new] at h1'
 have h5 := look_tot h1' t k B.muts
 rw [hp] at h5
 have h5 : p.tot <= totO (look (St.new.apps l).tb t k) + totM B.muts := h5
 have h6 : totO (look (St.new.apps l).tb t k) <= 300000 := by
  cases e : look (St.new.apps l).tb t k with
  | none => exact Nat.zero_le _
  | some q => exact apps_tot TbOk.nil SafeS.new.pok hl t k q e
 have h7 := totM_few (l := B.muts) fun m hm => (mutB_comes ((ok_parts hB).1 m hm)).2.2.2
 have h8 := (ok_parts hB).2.1
 omega
theorem RdS.agree {w w' : World} {B n : Nat} {A : Option Addr} {l : List ByteArray} (h : RdS w B A n l) (ha : ∀ g o,A = some ⟨g,o,none⟩ -> g < B -> w'.heap[g]? = w.heap[g]?) : RdS w' B A n l :=
 ⟨h.1,fun hn => by
   obtain ⟨g,o,rfl,hg,hc⟩ := h.at2 hn
   exact ⟨⟨g,o,none⟩,rfl,hg,fun j hj => by rw [Addr.add_lit]; exact (cell_agree (ha g o rfl hg) _).trans (hc j hj)⟩⟩
theorem slay_ge : ∀ (n : Nat) (c : List UInt8) (r : Nat) (o : Bool),c.length <= n -> 0 < r -> c.length <= (Go.Proofs.YtmpcnhpdobdmcaaGreatDoor.lay r o c).length
 | n,c,r,o,hn,h0 => by
   by_cases hc : c.length <= r
   ·rw [lay_short hc,pc_length]; omega
   ·rw [lay_long h0 (by omega),List.length_append,pc_length,List.length_take]
    match n,hn with
    | 0,hn => omega
    | n + 1,hn =>
      have := slay_ge n (c.drop r) 122 false (by rw [List.length_drop]; omega) (by omega)
      rw [List.length_drop] at this
      omega
theorem rput_ge (p : Nat) (c : List UInt8) : c.length <= (put p c).length := by
 unfold put frm
 rw [List.length_append]
 have := slay_ge c.length c (rm p) true (Nat.le_refl _) (rm_pos p).1
 omega
theorem puts_ge : ∀ (l : List Bs) (p : Nat) (b : Bs),b ∈ l -> b.length <= (puts p l).length
 | [],p,b,h => by cases h
 | c :: l,p,b,h => by
   show _ <= (put _ _ ++ _).length
   rw [List.length_append]
   rcases List.mem_cons.1 h with rfl | h
   ·have := rput_ge p b
    omega
   ·have := puts_ge l (p + (put p c).length) b h
    omega
theorem replay_s (a0 a1 a2 a3 : Addr) (F : Nat -> Prop) (s d : Nat) (S : Sh) (b : St) (x : SP) (w : World) (h : StM w F s d S b.nt x) (hE : ErIn F w a0 a1 a2 a3) (hb : SafeS b) (hta : tbs x.Ta = b.tb) (hts : tbs x.Ts = []) (hS : S.log.length <= 262144) :
    Calls Tryz.prog 25 #[.pointer (some ⟨s,0,none⟩)] w fun e w' => ∃ (F' : Nat -> Prop) (x' : SP) (bs : List Bt),e = .returned (.int .i64 ((recs bs).length : Nat)) /\ StM w' F' s d S (b.apps bs).nt x' /\ x'.data = ((x.ma,x.ms,x.q),(x'.Ta,x'.Ts),(x.A,x.c,x.fl,x.last)) /\ tbs x'.Ta = (b.apps bs).tb /\ tbs x'.Ts = (mutsOf bs).foldl mutT [] /\ Opens b S.log bs /\ recs bs <+: S.log /\ ErIn F' w' a0 a1 a2 a3 /\ Step F w F' w' := by
 have hIW := hE.in_
 have c0 : w.cell? ⟨s,0,none⟩ = some (.pointer (some ⟨d,0,none⟩)) := cell_at (i := 0) h.blk rfl
 have hsz : (ByteArray.mk S.log.toArray).size <= 262144 := by show S.log.toArray.size <= 262144; rw [List.size_toArray]; exact hS
 have H := hid h; have HE := hid hE; have HB := hid hb; have HTA := hid hta; have HTS := hid hts; have HS := hid hS; have HI := hid hIW; have HZ := hid hsz
 clear h hE hb hta hts hIW hS hsz
 go_enter Tryz.func25,Tryz.ntmps25
 go_wp2_with fail
 refine (log_any x.Fd d S w H.out.disk).mono ?_
 rintro e w1 ⟨rfl,rfl⟩
 obtain ⟨c2,w2,hcv,hc1,hc2,hr2,hs2,b2⟩ := byt_any w ⟨S.log.toArray⟩ (by have := HZ.out; unfold maxLen; omega)
 have HR2 := hid hr2; have B2 := hid b2; have C1 := hid hc1; have C2 := hid hc2
 clear hr2 hs2 b2 hc1 hc2
 go_wp2_with fail
 refine (scan_anyQ (some ⟨w.heap.size,0,none⟩) (ByteArray.mk S.log.toArray).size c2 w2.heap.size S.log w2 HR2.out (Nat.le_refl _) C1.out C2.out (by have := HZ.out; omega)).mono ?_
 rintro e w3 ⟨A3,n3,c3,T,rfl,b3,hT,hnc,hcm,hA,hans,hge⟩
 have M3 := hid (H.out.below HE.out.in_ (B2.out.trans (b3.mono B2.out.size)))
 have E3 := hid (HE.out.below (B2.out.trans (b3.mono B2.out.size)))
 have B3 := hid (B2.out.trans (b3.mono B2.out.size))
 have TL := hid hT.1
 have hn3 : n3 <= maxLen := Nat.le_trans hnc hcm
 unfold maxLen at hn3
 have FT : Hid (∀ w',Kept F w3 w' -> RdS w' w3.heap.size A3 n3 T) := hid fun w' hk => hT.agree fun g o e hg => hk.block g hg fun hf => by have h1 := hge g o e; have h2 := HI.out g hf; have h3 := B2.out.size; omega
 have ANS := hid hans
 have QL : Hid (∀ t (ht : t < T.length),T[t].size <= 262144) := hid fun t ht => by
  have h1 := hans.1.length_le
  have h2 := puts_ge (lists T) 0 T[t].data.toList (by unfold lists; exact List.mem_map.2 ⟨_,List.getElem_mem ht,rfl⟩)
  have h4 : T[t].data.toList.length = T[t].size := rfl
  have := HS.out
  omega
 clear b3 hT hnc hcm hA hans hcv hge
 go_wp2_with fail
 go_loopw [5,24] (fun ev iv wr => ∃ (t : Nat) (F' : Nat -> Prop) (x' : SP) (bs : List Bt),t <= n3 /\ ev = .int .i64 ((recs bs).length : Nat) /\ iv = .int .i64 (t : Nat) /\ StM wr F' s d S (b.apps bs).nt x' /\ x'.data = ((x.ma,x.ms,x.q),(x'.Ta,x'.Ts),(x.A,x.c,x.fl,x.last)) /\ tbs x'.Ta = (b.apps bs).tb /\ tbs x'.Ts = (mutsOf bs).foldl mutT [] /\ Read b S.log T t bs /\ ErIn F' wr a0 a1 a2 a3 /\ Step F w3 F' wr) (fun _ iv _ => n3 - (intOf iv).toNat)
 case atStart => exact ⟨0,F,x,[],Nat.zero_le _,rfl,rfl,M3.out,rfl,HTA.out,HTS.out,Read.zero _ _ _,E3.out,Step.same (Kept.refl F w3)⟩
 case round =>
  obtain ⟨t,F',x',bs,ht,rfl,rfl,hM,hx,hta,hts,hrd,hE,hst⟩ := hrel
  have MR := hid hM; have XR := hid hx; have TAR := hid hta; have TSR := hid hts; have RDR := hid hrd; have ER := hid hE; have SR := hid hst
  have RL : Hid ((recs bs).length <= 262144) := hid (Nat.le_trans hrd.pre.length_le HS.out)
  clear hM hx hta hts hrd hE hst
  obtain ⟨rl,hrl⟩ : ∃ rl,(recs bs).length = rl := ⟨_,rfl⟩
  have RLE := hid hrl
  rw [hrl]
  clear hrl
  by_cases hlt : t < n3
  ·have i1 : (t : Int) < n3 := by omega
   have i0 : (0 : Int) <= t := by omega
   have htl : t < T.length := by rw [TL.out]; exact hlt
   obtain ⟨g0,o0,rfl,hg0,hcs⟩ := (FT.out wr SR.out.kept).at2 hlt
   have z0 := hcs t htl
   obtain ⟨q,hq⟩ : ∃ q,T[t] = q := ⟨_,rfl⟩
   have hqs := QL.out t htl
   rw [hq] at z0 hqs
   have HQ := hid hq; have HQS := hid hqs; have HTL := hid htl
   obtain ⟨c4,w4,hcv4,hc41,hc42,hr4,hs4,b4⟩ := byt_any wr q (by unfold maxLen; omega)
   have HR4 := hid hr4; have B4 := hid b4; have C41 := hid hc41; have C42 := hid hc42
   clear hcs hq hqs hg0 hr4 hs4 b4 hc41 hc42
   go_wp2_with fail
   refine (getBatch_any yinner _ _ c4 _ q.data.toList w4 HR4.out (Nat.le_refl _) C41.out C42.out (fun h => by cases h)).mono ?_
   intro e w5 hG
   obtain ⟨R,hR⟩ : ∃ R,getBatch q.data.toList = R := ⟨_,rfl⟩
   rw [hR] at hG
   have HRR := hid hR
   clear hR hcv4 z0
   cases R with
   | error c =>
     obtain ⟨rfl,b5⟩ := hG
     have B5 := hid b5
     have e0 : (c == 0) = false := by
      have := err_neB HRR.out
      simpa using this
     have b6 := (Below.refl w5.heap.size w5).alloc (Nat.le_refl _) (.cells #[.slice none 0 0,.slice none 0 0,.slice none 0 0] 40)
     have BW := hid ((B4.out.trans (b5.mono B4.out.size)).trans (b6.mono (Nat.le_trans B4.out.size b5.size)))
     clear b5 b6
     go_upto_region 7 with fail
     generalize w5.alloc (Obj.cells #[Value.slice none 0 0,Value.slice none 0 0,Value.slice none 0 0] 40) = w6 at BW ⊢
     go_wp2
     go_ret
     exact ⟨F',x',bs,by rw [RLE.out]; rfl,MR.out.below ER.out.in_ BW.out,XR.out,TAR.out,TSR.out,RDR.out.stop ANS.out HTL.out (fun B hB => by rw [HQ.out,HRR.out] at hB; cases hB),RDR.out.pre,ER.out.below BW.out,((Step.same (Kept.of_below B3.out F)).trans SR.out).trans (Step.same (Kept.of_below BW.out F'))⟩
   | ok B =>
     obtain ⟨z,hz,rfl,hq5,b5⟩ := hG
     subst hz
     have b6 := (Below.refl w5.heap.size w5).alloc (Nat.le_refl _) (bO z)
     have n6 := heap_alloc_new w5 (bO z)
     have BW := hid ((B4.out.trans (b5.mono B4.out.size)).trans (b6.mono (Nat.le_trans B4.out.size b5.size)))
     obtain ⟨g1,g2,g3,g4⟩ := getBatch_bE HRR.out
     have YB : Hid (∀ k,z.blk k -> w4.heap.size <= k /\ k < w5.heap.size) := hid fun k hk => ⟨hq5.blk hk,hq5.lies.lt hk⟩
     have Y6 := hid (hq5.lies.below b6)
     have BF := hid (btF_of g3 (n := 262144) (by omega) (by rw [g1]; exact g4))
     have GOK := hid g2; have GE := hid g1
     have WS5 := hid (Nat.le_trans B4.out.size b5.size)
     obtain ⟨W6,hW6⟩ : ∃ W,w5.alloc (bO z) = W := ⟨_,rfl⟩
     rw [hW6] at b6 n6 BW Y6
     have B6 := hid b6; have N6 := hid n6
     have M6 := hid (MR.out.below ER.out.in_ BW.out); have E6 := hid (ER.out.below BW.out)
     have HK6 : Hid (NOk (b.apps bs).nt) := hid (HB.out.ok.apps bs RDR.out.fit).nok
     have z0 := cell_at (i := 0) n6 rfl
     have z1 := cell_at (i := 1) n6 rfl
     have z2 := cell_at (i := 2) n6 rfl
     clear hq5 b5 b6 n6 g1 g2 g3 g4
     go_upto_region 7 with fail
     go_wp2_with fail
     refine (turned_s a0 a1 a2 a3 F' s d S (b.apps bs).nt x' z w5.heap.size W6 M6.out E6.out Y6.out B6.out.size BF.out HK6.out (fun _ => ready_more HB.out RDR.out.fit RL.out TAR.out GOK.out)).mono ?_
     rintro e w7 ⟨err,mo,rfl,hT⟩
     have b7 := hT.below
     have n7 := (b7.block w5.heap.size (Array.getElem?_eq_some_iff.1 N6.out).1).trans N6.out
     have z0 := cell_at (i := 0) n7 rfl
     have z1 := cell_at (i := 1) n7 rfl
     have z2 := cell_at (i := 2) n7 rfl
     by_cases hfit : (b.apps bs).Fits z.bt
     ·obtain ⟨f1,f2,f3⟩ := fits_all hfit
      have f1' : FitS ((muts z.M).foldl mutT (tbs x'.Ta)) := by rw [TAR.out]; exact f1
      obtain ⟨rfl,m,O,rfl,hO,hTu,hm,hr⟩ := hT.fits GOK.out f1' f2
      have hiF : ∀ k,F' k -> k < wr.heap.size := ER.out.in_
      have l1 := B4.out.size
      have l2 := WS5.out
      have l3 := B6.out.size
      have l4 := b7.size
      have l5 := BW.out.size
      have M7 := M6.out.below E6.out.in_ b7
      obtain ⟨ro,M8,hro⟩ := M7.adopt (allRows O) 5 fun k hk hf => by have := hr k hk; have := hiF k hf; omega
      have E8 : ErIn (fun k => F' k \/ allRows O k) w7 a0 a1 a2 a3 := ER.out.to (Kept.of_below (BW.out.trans (b7.mono l5)) F') (fun k hk => hk.elim (fun h => by have := hiF k h; omega) fun h => hO.rows_lt h) fun k hk => hk.imp id fun h => by have := hr k h; omega
      have st8 : Step F' wr (fun k => F' k \/ allRows O k) w7 := ⟨Kept.of_below (BW.out.trans (b7.mono l5)) F',fun k hk => hk.imp id fun h => ⟨by have := hr k h; omega,hO.rows_lt h⟩⟩
      have hyF : ∀ k,z.blk k -> ¬ (F' k \/ allRows O k) := fun k hk hf => by
       have h1 := YB.out k hk
       rcases hf with hf | hf
       ·have := hiF k hf; omega
       ·have := hr k hf; have : W6.heap.size <= k := this; omega
      have hmF : ∀ k,mapsF m O k -> ¬ (F' k \/ allRows O k) := fun k hk hf => by
       rcases hf with hf | hf
       ·have := hiF k hf; have : W6.heap.size <= k := hm k hk; omega
       ·obtain ⟨es,c,hb⟩ := hO.isMap hk
        exact hO.not_row hb hf rfl
      have hrow : ∀ k,allRows O k -> (F' k \/ allRows O k) /\ ro k = 5 := fun k hk => ⟨Or.inr hk,hro k hk⟩
      obtain ⟨F7,hF7⟩ : ∃ F7,(fun k => F' k \/ allRows O k) = F7 := ⟨_,rfl⟩
      have hyF : ∀ k,z.blk k -> ¬ F7 k := by rw [<- hF7]; exact hyF
      have hmF : ∀ k,mapsF m O k -> ¬ F7 k := by rw [<- hF7]; exact hmF
      have hrow : ∀ k,allRows O k -> F7 k /\ ro k = 5 := by rw [<- hF7]; exact hrow
      rw [hF7] at M8 E8 st8
      obtain ⟨X,hX,M9⟩ : ∃ X : SP,(X.data = x'.data /\ X.ro = ro) /\ StM w7 F7 s d S (b.apps bs).nt X := ⟨{ x' with ro := ro },⟨rfl,rfl⟩,M8⟩
      obtain ⟨e1,e2,e3,e4,e5,e6,e7,e8,e9⟩ := SP.data_eq hX.1
      have f5 := since_ok HB.out.ok (St.allFit_snoc.2 ⟨RDR.out.fit,hfit⟩)
      rw [mutsOf_snoc,List.foldl_append] at f5
      have rd2 : Ready x'.Ts (muts z.M) := ready_more2 HB.out RDR.out.fit RL.out TSR.out GOK.out
      have KS := keep_s a0 a1 a2 a3 F7 s d S (b.apps bs).nt X z w5.heap.size m O w7 M9 E8 (Y6.out.below (b7.mono l3)) (by omega) hyF GOK.out HK6.out hO (by rw [e4]; exact hTu) hmF (fun k hk => by rw [hX.2]; exact hrow k hk) (by rw [e4]; exact (ready_more HB.out RDR.out.fit RL.out TAR.out GOK.out : Ready x'.Ta (muts z.M)).fits) (by rw [e4]; exact f1') (by rw [e5]; exact rd2) (by rw [e5,TSR.out]; exact f5.2.2)
      rw [e1,e2,e3,e4,e5,e6,e7,e8,e9] at KS
      have KSH := hid KS; have ST8 := hid st8; have FIT := hid hfit
      clear KS st8 M7 M8 M9 E8 hro hrow hyF hmF hF7 hX e1 e2 e3 e4 e5 e6 e7 e8 e9 f5 rd2 f1 f1' f2 f3 hO hTu hm hr hT l1 l2 l3 l4 l5 hiF b7 n7 hfit hW6
      go_wp2_with fail
      refine KSH.out.mono ?_
      rintro e w8 ⟨rfl,F8,x8,T',T2,hM8,hx8,ht,ht2,hE8,hst8⟩
      have M8 := hid hM8; have X8 := hid hx8; have T8 := hid ht; have U8 := hid ht2; have E8 := hid hE8; have S8 := hid (SR.out.trans (ST8.out.trans hst8))
      clear hM8 hx8 ht ht2 hE8 hst8 KSH z0 z1 z2
      go_wp2_with fail
      refine (lay_s rl q w8 (by have := RL.out; have := RLE.out; omega) (by have := HQS.out; omega)).mono ?_
      rintro e w9 ⟨rfl,b9⟩
      have B9 := hid b9
      clear b9
      obtain ⟨p,hp⟩ : ∃ p,(⟨(put rl q.data.toList).toArray⟩ : ByteArray) = p := ⟨_,rfl⟩
      have RD2 := hid (RDR.out.next ANS.out HTL.out (by rw [HQ.out]; exact HRR.out) FIT.out)
      have hpl : (rl : Int) + (p.size : Int) = ((recs (bs ++ [z.bt])).length : Int) := by
       have h1 : p.size = (put rl q.data.toList).length := by rw [<- hp]; show (put rl q.data.toList).toArray.size = _; rw [List.size_toArray]
       have h2 := recs_snoc_le bs z.bt
       rw [GE.out,RLE.out] at h2
       omega
      have hpw : IntKind.i64.wrap ((rl : Int) + (p.size : Int)) = ((recs (bs ++ [z.bt])).length : Int) := by
       rw [hpl,IntKind.wrap_i64]
       have h1 := RD2.out.pre.length_le
       have h2 := HS.out
       omega
      rw [hp]
      have HPW := hid hpw
      clear hp hpl
      go_wp2
      go_roundw
      case rel =>
       obtain ⟨e1,e2,e3,e4,e5,e6,e7,e8,e9⟩ := SP.data_eq (y := { x' with Ta := T',Ts := T2 }) X8.out
       obtain ⟨d1,d2,d3,d4,d5,d6,d7,d8,d9⟩ := SP.data_eq (y := { x with Ta := x'.Ta,Ts := x'.Ts }) XR.out
       refine ⟨t + 1,F8,x8,bs ++ [z.bt],by omega,by rw [<- HPW.out],by go_num,?_,?_,?_,?_,RD2.out,E8.out.below B9.out,S8.out.trans (Step.same (Kept.of_below B9.out F8))⟩
       ·rw [St.apps_snoc]
        exact M8.out.below E8.out.in_ B9.out
       ·unfold SP.data
        rw [e1,e2,e3,e6,e7,e8,e9]
        show ((x'.ma,x'.ms,x'.q),(x8.Ta,x8.Ts),(x'.A,x'.c,x'.fl,x'.last)) = _
        rw [d1,d2,d3,d6,d7,d8,d9]
       ·rw [e4,T8.out,TAR.out,St.apps_snoc]; rfl
       ·rw [e5,U8.out,TSR.out,mutsOf_snoc,List.foldl_append]; rfl
      case measure => simp [intOf]; omega
     ·obtain rfl := hT.big GOK.out (fun h => hfit (fits_iff.2 ⟨GOK.out,h.2,by have := h.1; rw [TAR.out] at this; exact this⟩))
      have BW7 := hid (BW.out.trans (b7.mono BW.out.size)); have NF := hid hfit
      clear hT b7 n7 hfit hW6
      go_wp2
      go_ret
      exact ⟨F',x',bs,by rw [RLE.out]; rfl,MR.out.below ER.out.in_ BW7.out,XR.out,TAR.out,TSR.out,RDR.out.stop ANS.out HTL.out (fun B hB => by rw [HQ.out,HRR.out] at hB; injection hB with hB; rw [<- hB]; exact NF.out),RDR.out.pre,ER.out.below BW7.out,((Step.same (Kept.of_below B3.out F)).trans SR.out).trans (Step.same (Kept.of_below BW7.out F'))⟩
  ·obtain rfl : t = n3 := by omega
   have j1 : decide ((t : Int) < (t : Int)) = false := decide_eq_false (by omega)
   go_wp2
   go_ret
   have hrd := RDR.out
   have hT := TL.out
   subst hT
   exact ⟨F',x',bs,by rw [RLE.out]; rfl,MR.out,XR.out,TAR.out,TSR.out,hrd.end_ ANS.out,hrd.pre,ER.out,(Step.same (Kept.of_below B3.out F)).trans SR.out⟩
theorem addsN_new {nt : Fl} (hk : NOk nt) : ∀ t,t <= nt.length -> addsN [] (nt.take t) = nt.take t := by
 intro t
 induction t with
 | zero => intro _; rfl
 | succ t ih =>
   intro ht
   have htl : t < nt.length := by omega
   rw [addsN_take _ _ htl,ih (by omega)]
   have hlow : ∀ x ∈ nt.take t,x.1 < nt[t].1 := fun x hx => by
    obtain ⟨i,hi,rfl⟩ := List.mem_take_iff_getElem.1 hx
    exact List.pairwise_iff_getElem.1 hk.up i t (by omega) htl (by omega)
   have hf : hasF (nt.take t) nt[t].1 = false := by
    unfold hasF
    rw [List.any_eq_false]
    intro x hx
    have := hlow x hx
    simp
    omega
   have hm := List.getElem_mem htl
   have hbad : ¬ BadN (nt.take t) nt[t].1 nt[t].2 := by
    unfold BadN
    have h1 := hk.wf _ hm
    have h2 := hk.bod _ hm
    have h3 := hk.len
    rw [List.length_take]
    rintro (h | h | h | h) <;> omega
   have hi : idxF (nt.take t) nt[t].1 = t := idxF_eq (by rw [List.length_take]; omega) (fun j hj => by
    exact hlow _ (List.getElem_mem _)) (fun h => by rw [List.length_take] at h; omega)
   unfold addN
   rw [if_neg hbad]
   show putN _ _ _ = _
   unfold putN
   rw [if_neg (by rw [hf]; decide)]
   unfold insF
   rw [hi,List.take_take,Nat.min_self,List.take_succ_eq_append_getElem htl,List.drop_of_length_le (by rw [List.length_take]; omega)]
theorem addsN_all {nt : Fl} (hk : NOk nt) : addsN [] nt = nt := by
 have := addsN_new hk nt.length (Nat.le_refl _)
 rwa [List.take_length] at this
theorem may_zero (B cF cN : Nat) (AF AN : Option Addr) (last : Int) (nt : Fl) (w : World) (hN : RdT w B AN nt.length nt) (hB : B <= w.heap.size) (hk : NOk nt) :
    Calls Tryz.prog 67 #[.agg #[.slice AF 0 cF,.int .i64 last,.slice AN nt.length cN]] w fun e w' => e = .returned (.bool true) /\ Below w.heap.size w w' := by
 have b0 := (Below.refl w.heap.size w).alloc (Nat.le_refl _) (.cells #[.slice AF 0 cF,.int .i64 last,.slice AN nt.length cN] 87)
 have n0 := heap_alloc_new w (.cells #[.slice AF 0 cF,.int .i64 last,.slice AN nt.length cN] 87)
 obtain ⟨W,hW⟩ : ∃ W,w.alloc (.cells #[.slice AF 0 cF,.int .i64 last,.slice AN nt.length cN] 87) = W := ⟨_,rfl⟩
 rw [hW] at b0 n0
 have hWs : w.heap.size < W.heap.size := (Array.getElem?_eq_some_iff.1 n0).1
 obtain ⟨m,hm⟩ : ∃ m,nt.length = m := ⟨_,rfl⟩
 rw [hm] at n0 hW
 have z0 : W.cell? ⟨w.heap.size,0,none⟩ = some (.slice AF 0 cF) := cell_at (i := 0) n0 rfl
 have z2 : W.cell? ⟨w.heap.size,2,none⟩ = some (.slice AN m cN) := cell_at (i := 2) n0 rfl
 have FN : Hid (∀ w',Below W.heap.size W w' -> RdT w' B AN m nt) := hid fun w' hb => by rw [<- hm]; exact (hN.below (b0.mono hB)).below (hb.mono (Nat.le_trans hB b0.size))
 have hm3 : m <= 300 := by rw [<- hm]; exact hk.len
 have HM := hid hm; have HK := hid hk; have B0 := hid b0; have N0 := hid n0; have WS := hid hWs
 rw [hm]
 clear hN hB hk b0 n0 hWs hm
 go_enter Tryz.func67,Tryz.ntmps67
 go_wp2_with fail
 go_loopw [10] (fun i wr => i = .int .i64 0 /\ wr = W) (fun _ _ => 0)
 case atStart => exact ⟨rfl,rfl⟩
 case round =>
  obtain ⟨rfl,rfl⟩ := hrel
  go_wp2_with fail
  obtain ⟨U,hU⟩ : ∃ U,U = wr := ⟨_,rfl⟩
  subst hU
  go_loopw [37] (fun i wr => ∃ t : Nat,t <= m /\ i = .int .i64 (t : Nat) /\ Below U.heap.size U wr) (fun i _ => m - (intOf i).toNat)
  case atStart => exact ⟨0,Nat.zero_le _,rfl,Below.refl _ _⟩
  case round =>
   obtain ⟨t,ht,rfl,hb⟩ := hrel
   have HBR := hid hb
   clear hb z0 z2
   by_cases hlt : t < m
   ·have i1 : (t : Int) < m := by omega
    have i0 : (0 : Int) <= t := by omega
    have htl : t < nt.length := by rw [HM.out]; exact hlt
    obtain ⟨g0,o0,rfl,hg0,hcs⟩ := (FN.out wr HBR.out).2 (by omega)
    have z0 := hcs _ _ (tRow_get0 nt t htl)
    have z1 := hcs _ _ (tRow_get1 nt t htl)
    obtain ⟨⟨xi,xs⟩,hxx⟩ : ∃ x,nt[t] = x := ⟨_,rfl⟩
    rw [hxx] at z0 z1
    rw [<- Nat.add_assoc] at z1
    dsimp only at z0 z1
    have HXX := hid hxx
    obtain ⟨V,hV⟩ : ∃ V,V = wr.alloc (.cells #[.int .i64 xi,.string xs] 57) := ⟨_,rfl⟩
    have hbw : Below wr.heap.size wr V := by rw [hV]; exact (Below.refl wr.heap.size wr).alloc (Nat.le_refl _) _
    have hvn : V.heap[wr.heap.size]? = some (.cells #[.int .i64 xi,.string xs] 57 (0,0)) := by rw [hV]; exact heap_alloc_new wr _
    have q0 : V.cell? ⟨wr.heap.size,0,none⟩ = some (.int .i64 xi) := cell_at (i := 0) hvn rfl
    have q2 : V.cell? ⟨w.heap.size,2,none⟩ = some (.slice (some ⟨g0,o0,none⟩) m cN) := cell_at (i := 2) ((hbw.block _ (Nat.lt_of_lt_of_le WS.out HBR.out.size)).trans ((HBR.out.block _ WS.out).trans N0.out)) rfl
    have hcs2 := (FN.out V (HBR.out.trans (hbw.mono HBR.out.size))).2 (by omega)
    have HV := hid hV; have BV := hid (HBR.out.trans (hbw.mono HBR.out.size))
    clear hcs hxx hbw hvn hV hg0
    go_wp2_with fail
    rw [<- HV.out]
    by_cases h0 : t = 0
    ·have j0 : decide ((0 : Int) < (t : Int)) = false := decide_eq_false (by omega)
     subst h0
     clear hcs2
     go_quiet (fail)
     go_wp2
     go_roundw
     case rel => exact ⟨1,by omega,by go_num,below_drewN BV.out _⟩
     case measure => simp [intOf]; omega
    ·have j0 : (0 : Int) < (t : Int) := by omega
     have jn : decide (0 < t) = true := decide_eq_true (by omega)
     obtain ⟨g1,o1,e1,hg1,hcs⟩ := hcs2
     injection e1 with e1; injection e1 with e1 e2
     subst e1 e2
     obtain ⟨k,hkk⟩ : ∃ k,t = k + 1 := ⟨t - 1,by omega⟩
     have ht1 : k < nt.length := by omega
     have y0 := hcs _ _ (tRow_get0 nt k ht1)
     have hlt2 : nt[k].1 < xi := by
      have := List.pairwise_iff_getElem.1 HK.out.up k t ht1 htl (by omega)
      rw [HXX.out] at this
      exact this
     obtain ⟨yi,hyi⟩ : ∃ y,nt[k].1 = y := ⟨_,rfl⟩
     rw [hyi] at y0 hlt2
     have k0 : decide (xi <= yi) = false := decide_eq_false (by omega)
     have k1 : (t : Int) - 1 = (k : Int) := by omega
     have k2 : IntKind.i64.wrap ((t : Int) - 1) = (k : Int) := by rw [IntKind.wrap_i64]; omega
     have i2 : (k : Int) < m := by omega
     have i3 : (0 : Int) <= (k : Int) := by omega
     clear hcs hyi hg1 hkk
     go_quiet (fail)
     go_wp2
     go_roundw
     case rel => exact ⟨t + 1,by omega,by go_num,below_drewN BV.out _⟩
     case measure => simp [intOf]; omega
   ·obtain rfl : t = m := by omega
    have j1 : decide ((t : Int) < (t : Int)) = false := decide_eq_false (by omega)
    have BE := hid (B0.out.trans (HBR.out.mono B0.out.size))
    go_wp2
    go_ret
    exact ⟨rfl,BE.out⟩
end Go.Proofs.YtmpcnhpdobdmcaaGreatDoor
namespace Go.Proofs.YtmpcnhpdobdmcaaGreatDoor
open Go Go.RowKit
section
variable {w w' : World} {B B' n : Nat} {A : Option Addr} {l : Fl}
theorem RdT.agree (h : RdT w B A n l) (ha : ∀ k,l ≠ [] -> BlkOf A k -> w'.heap[k]? = w.heap[k]?) : RdT w' B A n l :=
 ⟨h.1,fun hn => by
   obtain ⟨g,o,e,hg,hc⟩ := h.2 hn
   exact ⟨g,o,e,hg,fun j u hu => (cell_agree (ha g (ne_of_len h.1 hn) ⟨o,e⟩) _).trans (hc j u hu)⟩⟩
theorem RdT.higher (h : RdT w B A n l) (hB : B <= B') : RdT w B' A n l :=
 ⟨h.1,fun hn => by
   obtain ⟨g,o,e,hg,hc⟩ := h.2 hn
   exact ⟨g,o,e,by omega,hc⟩⟩
theorem RdT.lt (h : RdT w B A n l) {k : Nat} (hne : l ≠ []) (hk : BlkOf A k) : k < B := blkOf_lt (by rw [<- h.1]; exact List.length_pos_iff.2 hne) h.2 hk
theorem set3_man {q : Nat} {v0 v1 v2 : Value} (h : w.heap[q]? = some (.cells #[v0,v1,v2] 87 (0,0))) (u0 u1 u2 : Value) :
    (((w.setCell ⟨q,0,none⟩ u0).setCell ⟨q,1,none⟩ u1).setCell ⟨q,2,none⟩ u2).heap[q]? = some (.cells #[u0,u1,u2] 87 (0,0)) := by
 have h0 := Joins.block_setCell (i := 0) h u0
 simp only [zq4,zq5,zq6] at h0
 have h1 := Joins.block_setCell (i := 1) h0 u1
 simp only [zq4,zq5,zq6] at h1
 have h2 := Joins.block_setCell (i := 2) h1 u2
 simp only [zq4,zq5,zq6] at h2
 exact h2
end
theorem getMan_zero (nt : Fl) (w : World) (hk : NOk nt) (hok : (manB [] 0 nt).ok = true) (hlen : (bE (manB [] 0 nt)).length <= 262140) :
    Calls Tryz.prog 40 #[.string (manT [] 0 nt)] w fun e w' => ∃ (AF AN : Option Addr) (cF cN : Nat),e = .returned (.tuple #[.agg #[.slice AF 0 cF,.int .i64 0,.slice AN nt.length cN],.nilIface]) /\ (AF = none \/ ∃ g o,AF = some ⟨g,o,none⟩) /\ RdT w' w'.heap.size AN nt.length nt /\ nt.length <= cN /\ (∀ k,nt ≠ [] -> BlkOf AN k -> w.heap.size <= k) /\ Below w.heap.size w w' := by
 obtain ⟨P,hP⟩ : ∃ P,bE (manB [] 0 nt) = P := ⟨_,rfl⟩
 have hg := get_bE hok (Nat.le_trans hlen (by omega))
 rw [hP] at hg hlen
 obtain ⟨p,hp⟩ : ∃ p : ByteArray,(⟨P.toArray⟩ : ByteArray) = p := ⟨_,rfl⟩
 have hpl : p.data.toList = P := by rw [<- hp]
 have hps : p.size = P.length := by rw [<- hp]; show P.toArray.size = _; rw [List.size_toArray]
 obtain ⟨q,hq⟩ : ∃ q,sumT p = q := ⟨_,rfl⟩
 have hqs : q.size = 4 := by rw [<- hq]; unfold sumT; show (be _ 4).toArray.size = 4; rw [List.size_toArray,be_length]
 obtain ⟨T,hT⟩ : ∃ T,manT [] 0 nt = T := ⟨_,rfl⟩
 have hTa : T = p ++ q := by rw [<- hT,<- hq,<- hp,<- hP]; rfl
 have hTl : T.data.toList = p.data.toList ++ q.data.toList := by rw [hTa]; simp
 have hTs : T.size = p.size + 4 := by rw [hTa,ByteArray.size_append,hqs]
 rw [hT]
 obtain ⟨n,hn⟩ : ∃ n,p.size = n := ⟨_,rfl⟩
 have hTs2 : T.size = n + 4 := by omega
 have hnb : n <= 262140 := by omega
 have s1 : ∀ wx : World,(Instr.slice 9 (.string T) none (some (.int .i64 (n : Int))) none).run Tryz.prog wx = .ok (.string p) wx := fun wx => str_h hTl _ (by rw [hn]) wx
 have s2 : ∀ wx : World,(Instr.slice 9 (.string T) (some (.int .i64 (n : Int))) none none).run Tryz.prog wx = .ok (.string q) wx := fun wx => str_l (p := p.data.toList) hTl _ (by rw [<- hn]; rfl) wx
 have b0 := (Below.refl w.heap.size w).alloc (Nat.le_refl _) (.cells #[.slice none 0 0,.int .i64 0,.slice none 0 0] 87)
 have n0 := heap_alloc_new w (.cells #[.slice none 0 0,.int .i64 0,.slice none 0 0] 87)
 obtain ⟨W,hW⟩ : ∃ W,w.alloc (.cells #[.slice none 0 0,.int .i64 0,.slice none 0 0] 87) = W := ⟨_,rfl⟩
 rw [hW] at b0 n0
 have hN0 : decide ((n : Int) < 0) = false := decide_eq_false (by omega)
 have hN1 : decide (q ≠ q) = false := by simp
 have HG := hid hg; have HK := hid hk; have HPL := hid hpl; have HPS := hid hps; have HQ := hid hq; have HLEN := hid hlen; have B0 := hid b0; have N0 := hid n0; have HN := hid hn
 clear hg hk hok hlen hP hp hpl hps hq hqs hT hTa hTl hTs hn b0 n0
 go_enter Tryz.func40,Tryz.ntmps40
 go_wp2_with fail
 go_region_held3 (fun w' => True) (exact trivial) (first
  | (go_at_call 66
     refine (msum_any p _ (by have := HPS.out; have := HLEN.out; unfold maxLen; omega)).mono ?_
     rw [HQ.out]
     rintro e w3 ⟨rfl,b3⟩
     have b3' : Below W.heap.size W w3 := (Below.refl W.heap.size W).drew.trans b3
     have B3 := hid b3'
     clear b3 b3'))
 obtain ⟨c4,w4,hcv4,hc41,hc42,hr4,hs4,b4⟩ := byt_any w3 p (by have := HPS.out; have := HLEN.out; unfold maxLen; omega)
 have HR4 := hid hr4; have B4 := hid b4; have C41 := hid hc41; have C42 := hid hc42
 clear hr4 hs4 b4 hc41 hc42 s2 hN0 hN1
 go_wp2_with fail
 refine (getBatch_any yinner _ _ c4 _ p.data.toList w4 HR4.out (Nat.le_refl _) C41.out C42.out (fun h => by cases h)).mono ?_
 intro e w5 hG
 rw [HPL.out,HG.out] at hG
 obtain ⟨⟨AM,cM,M,AN,cN,N,AD,cD,D⟩,hz,rfl,hq5,b5⟩ := hG
 obtain ⟨e1,e2,e3⟩ : muts M = [] /\ N = nt /\ D = [] := by
  have := hz
  unfold manB at this
  exact ⟨congrArg Bt.muts this,congrArg Bt.add this,congrArg Bt.drop this⟩
 have e1 : M = [] := by unfold muts at e1; exact List.map_eq_nil_iff.1 e1
 subst e1 e2 e3
 have hnl := hq5.lies.notes
 have hcap := hq5.lies.capN
 have hadr : AD = none \/ ∃ g o,AD = some ⟨g,o,none⟩ := by
  rcases hq5.drops.2 with ⟨h2,h3⟩ | ⟨g,cap,cur,h2,h3,_⟩
  ·injection h2 with h2; exact Or.inl h2
  ·injection h2 with h2; exact Or.inr ⟨g,0,h2⟩
 have hbk : ∀ k,N ≠ [] -> BlkOf AN k -> w4.heap.size <= k := fun k hn hk => own_blk hq5.notes hk
 obtain ⟨m,hm⟩ : ∃ m,N.length = m := ⟨_,rfl⟩
 have b6 := (Below.refl w5.heap.size w5).alloc (Nat.le_refl _) (.cells #[.slice AM 0 cM,.slice AN m cN,.slice AD 0 cD] 40)
 have n6 := heap_alloc_new w5 (.cells #[.slice AM 0 cM,.slice AN m cN,.slice AD 0 cD] 40)
 obtain ⟨W6,hW6⟩ : ∃ W,w5.alloc (.cells #[.slice AM 0 cM,.slice AN m cN,.slice AD 0 cD] 40) = W := ⟨_,rfl⟩
 rw [hW6] at b6 n6
 have y0 : W6.cell? ⟨w5.heap.size,0,none⟩ = some (.slice AM 0 cM) := cell_at (i := 0) n6 rfl
 have y1 : W6.cell? ⟨w5.heap.size,1,none⟩ = some (.slice AN m cN) := cell_at (i := 1) n6 rfl
 have y2 : W6.cell? ⟨w5.heap.size,2,none⟩ = some (.slice AD 0 cD) := cell_at (i := 2) n6 rfl
 have b7 := (Below.refl W6.heap.size W6).alloc (Nat.le_refl _) (.cells #[.slice AD 0 cD,.int .i64 0,.slice AN m cN] 87)
 have n7 := heap_alloc_new W6 (.cells #[.slice AD 0 cD,.int .i64 0,.slice AN m cN] 87)
 obtain ⟨W7,hW7⟩ : ∃ W,W6.alloc (.cells #[.slice AD 0 cD,.int .i64 0,.slice AN m cN] 87) = W := ⟨_,rfl⟩
 rw [hW7] at b7 n7
 have x0 : W7.cell? ⟨W6.heap.size,0,none⟩ = some (.slice AD 0 cD) := cell_at (i := 0) n7 rfl
 have x1 : W7.cell? ⟨W6.heap.size,1,none⟩ = some (.int .i64 0) := cell_at (i := 1) n7 rfl
 have x2 : W7.cell? ⟨W6.heap.size,2,none⟩ = some (.slice AN m cN) := cell_at (i := 2) n7 rfl
 have y3 : W7.cell? ⟨w5.heap.size,2,none⟩ = some (.slice AD 0 cD) := cell_at (i := 2) ((b7.block _ (Array.getElem?_eq_some_iff.1 n6).1).trans n6) rfl
 have hB7 : Below W.heap.size W W7 := (((B3.out.trans (B4.out.mono B3.out.size)).trans (b5.mono (Nat.le_trans B3.out.size B4.out.size))).trans (b6.mono (Nat.le_trans (Nat.le_trans B3.out.size B4.out.size) b5.size))).trans (b7.mono (Nat.le_trans (Nat.le_trans (Nat.le_trans B3.out.size B4.out.size) b5.size) b6.size))
 have hnl7 : RdT W7 W7.heap.size AN N.length N := ((rdT_of hnl).below (b6.trans (b7.mono b6.size))).up (Nat.le_trans b6.size b7.size)
 have hMB := hid (may_zero W7.heap.size cD cN AD AN 0 N W7 hnl7 (Nat.le_refl _) HK.out)
 rw [hm] at hMB hnl7
 have NL7 := hid hnl7; have CAP := hid hcap; have ADR := hid hadr; have BK := hid hbk; have HB7 := hid hB7; have N7 := hid n7; have HM := hid hm
 have L34 := hid (Nat.le_trans B0.out.size (Nat.le_trans B3.out.size B4.out.size))
 rw [show bV ⟨AM,cM,[],AN,cN,N,AD,cD,[]⟩ = .agg #[.slice AM 0 cM,.slice AN m cN,.slice AD 0 cD] by rw [<- hm]; rfl]
 clear hz hq5 b5 hnl hcap hadr hbk hm b6 n6 b7 n7 hB7 hnl7 hcv4 s1
 go_wp2_with fail
 refine hMB.out.mono ?_
 rintro e w8 ⟨rfl,b8⟩
 have n8 := (b8.block W6.heap.size (Array.getElem?_eq_some_iff.1 N7.out).1).trans N7.out
 have hb8 := HB7.out.trans (b8.mono HB7.out.size)
 have nr := (hb8.block w.heap.size (Array.getElem?_eq_some_iff.1 N0.out).1).trans N0.out
 have x0 := cell_at (i := 0) n8 rfl
 have x1 := cell_at (i := 1) n8 rfl
 have x2 := cell_at (i := 2) n8 rfl
 have p0 := cell_at (i := 0) nr rfl
 have p1 := cell_at (i := 1) nr rfl
 have p2 := cell_at (i := 2) nr rfl
 have r0 := thawed_at (i := 0) nr
 have r1 := thawed_at (i := 1) nr
 have r2 := thawed_at (i := 2) nr
 have m8 := set3_man nr (.slice AD 0 cD) (.int .i64 0) (.slice AN m cN)
 have k8 := kept_set3 (w := w8) w.heap.size (.slice AD 0 cD) (.int .i64 0) (.slice AN m cN)
 have q0 := cell_at (i := 0) m8 rfl
 have q1 := cell_at (i := 1) m8 rfl
 have q2 := cell_at (i := 2) m8 rfl
 have hbb : Below w.heap.size w (((w8.setCell ⟨w.heap.size,0,none⟩ (.slice AD 0 cD)).setCell ⟨w.heap.size,1,none⟩ (.int .i64 0)).setCell ⟨w.heap.size,2,none⟩ (.slice AN m cN)) :=
  (B0.out.trans (hb8.mono B0.out.size)).trans (k8.below (B := w.heap.size) (fun k hk => by rw [hk]; exact Nat.le_refl _) (Nat.le_trans B0.out.size hb8.size))
 have hnl9 : RdT (((w8.setCell ⟨w.heap.size,0,none⟩ (.slice AD 0 cD)).setCell ⟨w.heap.size,1,none⟩ (.int .i64 0)).setCell ⟨w.heap.size,2,none⟩ (.slice AN m cN)) (((w8.setCell ⟨w.heap.size,0,none⟩ (.slice AD 0 cD)).setCell ⟨w.heap.size,1,none⟩ (.int .i64 0)).setCell ⟨w.heap.size,2,none⟩ (.slice AN m cN)).heap.size AN m N := by
  have h1 := NL7.out.below b8
  refine RdT.higher (RdT.agree h1 fun k hne hk => k8.block k ?_ fun e => ?_) (Nat.le_trans b8.size k8.size)
  ·have := BK.out k hne hk; exact Nat.lt_of_lt_of_le (h1.lt hne hk) b8.size
  ·have h2 := BK.out k hne hk
   have h3 : k = w.heap.size := e
   have h4 := (Array.getElem?_eq_some_iff.1 N0.out).1
   have h5 := B3.out.size
   have h6 := B4.out.size
   omega
 have BB := hid hbb; have N9 := hid hnl9
 clear hbb hnl9 m8 k8 n8 nr hb8 b8 hMB y0 y1 y2 y3
 go_wp2
 refine bodyPost_ret (v := .tuple #[.agg #[.slice AD 0 cD,.int .i64 0,.slice AN m cN],.nilIface]) ?_ rfl ?_
 ·simp [results,Tryz.results40,go_sem,q0,q1,q2]
 ·have hm := HM.out
  subst hm
  exact ⟨AD,AN,cD,cN,rfl,ADR.out,N9.out,CAP.out,fun k hn hk => Nat.le_trans L34.out (BK.out k hn hk),BB.out⟩
end Go.Proofs.YtmpcnhpdobdmcaaGreatDoor
namespace Go.Proofs.YtmpcnhpdobdmcaaGreatDoor
open Go Go.RowKit
section
variable {w w' : World} {F : Nat -> Prop} {s d : Nat} {S : Sh} {nt : Fl} {x : SP}
theorem StM.setBlk (h : StM w F s d S nt x) (hi : In F w) (hk : Kept (fun k => k = s) w w') {ms' : Nat} {Ts' : List TA} {A' : Option Addr} {c' : Nat} {fl' : List Int} {last' : Int}
    (hb : w'.heap[s]? = some (.cells #[.pointer (some ⟨d,0,none⟩),.map (some x.ma),.map (some ms'),.pointer (some ⟨x.q,0,none⟩),.slice A' fl'.length c',.int .i64 last'] 70 (0,0)))
    (hs : TbAt w' ms' Ts') (hm : ∀ k,mapsF ms' Ts' k -> F k /\ x.ro k = 4) (hr : ∀ k,allRows Ts' k -> F k /\ x.ro k = 5) (hf : RdZ w' w'.heap.size A' fl'.length fl') (hc : fl'.length <= c') (hz : ∀ k,fl' ≠ [] -> BlkOf A' k -> F k /\ x.ro k = 5) :
    StM w' F s d S nt { x with ms := ms',Ts := Ts',A := A',c := c',fl := fl',last := last' } := by
 have hr0 := h.rest hi 0 hk fun k hk _ => by rw [hk]; exact h.r0
 exact ⟨hb,hr0.disk (by decide),hr0.nts (by decide),hr0.all (by decide) (by decide),hs,hf,hc,h.fs,h.fd,h.fn,h.fa,fun k hk => (hm k hk).1,
  fun k hk => hk.elim (fun h1 => h.fr k (Or.inl h1)) fun h1 => h1.elim (fun h2 => (hr k h2).1) fun h2 => (hz k h2.1 h2.2).1,
  h.r0,h.r1,h.r2,h.r3,fun k hk => (hm k hk).2,fun k hk => hk.elim (fun h1 => h.r5 k (Or.inl h1)) fun h1 => h1.elim (fun h2 => (hr k h2).2) fun h2 => (hz k h2.1 h2.2).2⟩
theorem StM.setFiles (h : StM w F s d S nt x) (hi : In F w) (hk : Kept (fun k => k = s) w w') {A' : Option Addr} {c' : Nat} {fl' : List Int} {last' : Int}
    (hb : w'.heap[s]? = some (.cells #[.pointer (some ⟨d,0,none⟩),.map (some x.ma),.map (some x.ms),.pointer (some ⟨x.q,0,none⟩),.slice A' fl'.length c',.int .i64 last'] 70 (0,0)))
    (hf : RdZ w' w'.heap.size A' fl'.length fl') (hc : fl'.length <= c') (hz : ∀ k,fl' ≠ [] -> BlkOf A' k -> F k /\ x.ro k = 5) :
    StM w' F s d S nt { x with A := A',c := c',fl := fl',last := last' } := by
 have hr0 := h.rest hi 0 hk fun k hk _ => by rw [hk]; exact h.r0
 exact h.setBlk hi hk hb (hr0.since (by decide) (by decide)) (fun k hk => ⟨h.fi k hk,h.r4 k hk⟩) (fun k hk => ⟨h.fr k (Or.inr (Or.inl hk)),h.r5 k (Or.inr (Or.inl hk))⟩) hf hc hz
theorem tb_made (w : World) : TbAt (w.alloc (.map #[] 0)) w.heap.size [] :=
 ⟨⟨trivial,fun x hx => (by cases hx),fun x hx => (by cases hx)⟩,World.ownsMap_made w Tryz.prog 9 elemM,fun x hx => (by cases hx),fun x hx => (by cases hx),fun x hx => (by cases hx),fun x hx => (by cases hx)⟩
theorem mapsF_nil {m k : Nat} (h : mapsF m [] k) : k = m := by
 rcases h with h | ⟨x,hx,_⟩
 ·exact h
 ·cases hx
theorem allRows_nil {k : Nat} (h : allRows [] k) : False := by
 obtain ⟨x,hx,_⟩ := h
 cases hx
theorem stm_new {w0 w : World} {Fd Fn : Nat -> Prop} {s d ma ms q : Nat} {S : Sh} (hd : ShIs w Fd d S) (hdi : ∀ k,Fd k -> k < w0.heap.size) (hn : NoIs w Fn q []) (hni : ∀ k,Fn k -> w0.heap.size <= k) (ha : TbAt w ma []) (hs : TbAt w ms [])
    (hb : w.heap[s]? = some (.cells #[.pointer (some ⟨d,0,none⟩),.map (some ma),.map (some ms),.pointer (some ⟨q,0,none⟩),.slice none 0 0,.int .i64 0] 70 (0,0)))
    (l1 : w0.heap.size <= ma) (l2 : w0.heap.size <= ms) (l3 : w0.heap.size <= s) (n1 : s ≠ ma) (n2 : s ≠ ms) (n3 : ma ≠ ms) (f1 : ¬ Fn s) (f2 : ¬ Fn ma) (f3 : ¬ Fn ms) :
    ∃ x : SP,StM w (fun k => Fd k \/ Fn k \/ k = s \/ k = ma \/ k = ms) s d S [] x /\ x.Ta = [] /\ x.Ts = [] /\ x.A = none /\ x.c = 0 /\ x.fl = [] /\ x.last = 0 := by
 refine ⟨⟨ma,ms,q,[],[],none,0,[],0,Fd,Fn,fun k => if k = s then 0 else if k = ma then 3 else if k = ms then 4 else if k < w0.heap.size then 1 else 2⟩,⟨hb,hd,hn,ha,hs,⟨rfl,fun h => absurd h (by simp)⟩,Nat.le_refl _,Or.inr (Or.inr (Or.inl rfl)),fun k hk => Or.inl hk,fun k hk => Or.inr (Or.inl hk),fun k hk => Or.inr (Or.inr (Or.inr (Or.inl (mapsF_nil hk)))),fun k hk => Or.inr (Or.inr (Or.inr (Or.inr (mapsF_nil hk)))),fun k hk => ?_,?_,fun k hk => ?_,fun k hk => ?_,fun k hk => ?_,fun k hk => ?_,fun k hk => ?_⟩,rfl,rfl,rfl,rfl,rfl,rfl⟩
 ·rcases hk with hk | hk | ⟨hk,_⟩
  ·exact (allRows_nil hk).elim
  ·exact (allRows_nil hk).elim
  ·exact absurd rfl hk
 ·show (if s = s then 0 else _) = 0
  rw [if_pos rfl]
 ·have := hdi k hk
  show (if k = s then 0 else if k = ma then 3 else if k = ms then 4 else if k < w0.heap.size then 1 else 2) = 1
  rw [if_neg (by omega),if_neg (by omega),if_neg (by omega),if_pos this]
 ·have := hni k hk
  show (if k = s then 0 else if k = ma then 3 else if k = ms then 4 else if k < w0.heap.size then 1 else 2) = 2
  rw [if_neg (fun e => f1 (by rw [<- e]; exact hk)),if_neg (fun e => f2 (by rw [<- e]; exact hk)),if_neg (fun e => f3 (by rw [<- e]; exact hk)),if_neg (by omega)]
 ·have : k = ma := mapsF_nil hk
  show (if k = s then 0 else if k = ma then 3 else if k = ms then 4 else if k < w0.heap.size then 1 else 2) = 3
  rw [if_neg (by omega),if_pos this]
 ·have : k = ms := mapsF_nil hk
  show (if k = s then 0 else if k = ma then 3 else if k = ms then 4 else if k < w0.heap.size then 1 else 2) = 4
  rw [if_neg (by omega),if_neg (by omega),if_pos this]
 ·rcases hk with hk | hk | ⟨hk,_⟩
  ·exact (allRows_nil hk).elim
  ·exact (allRows_nil hk).elim
  ·exact absurd rfl hk
end
end Go.Proofs.YtmpcnhpdobdmcaaGreatDoor
namespace Go.Proofs.YtmpcnhpdobdmcaaGreatDoor
open Go Go.RowKit
theorem loadFiles_zero (s c : Nat) (A : Option Addr) (w : World) :
    Calls Tryz.prog 41 #[.pointer (some ⟨s,0,none⟩),.slice A 0 c] w fun e w' => e = .returned .nilIface /\ w' = w := by
 go_enter Tryz.func41,Tryz.ntmps41
 go_wp2_with fail
 go_loopw [5,11] (fun mv i wr => mv = .nilIface /\ i = .int .i64 0 /\ wr = w) (fun _ _ _ => 0)
 case atStart => exact ⟨rfl,rfl,rfl⟩
 case round =>
  obtain ⟨rfl,rfl,rfl⟩ := hrel
  go_wp2
  go_ret
  exact ⟨rfl,rfl⟩
section
variable {w : World} {s : Nat} {v0 v1 v2 v3 v4 v5 : Value}
theorem store_set4 (h : w.heap[s]? = some (.cells #[v0,v1,v2,v3,v4,v5] 70 (0,0))) (u : Value) : (w.setCell ⟨s,4,none⟩ u).heap[s]? = some (.cells #[v0,v1,v2,v3,u,v5] 70 (0,0)) := by
 have m := Joins.block_setCell (i := 4) h u
 simp only [zq4,zq5,zq6] at m
 exact m
theorem store_set5 (h : w.heap[s]? = some (.cells #[v0,v1,v2,v3,v4,v5] 70 (0,0))) (u : Value) : (w.setCell ⟨s,5,none⟩ u).heap[s]? = some (.cells #[v0,v1,v2,v3,v4,u] 70 (0,0)) := by
 have m := Joins.block_setCell (i := 5) h u
 simp only [zq4,zq5,zq6] at m
 exact m
theorem store_set2 (h : w.heap[s]? = some (.cells #[v0,v1,v2,v3,v4,v5] 70 (0,0))) (u : Value) : (w.setCell ⟨s,2,none⟩ u).heap[s]? = some (.cells #[v0,v1,u,v3,v4,v5] 70 (0,0)) := by
 have m := Joins.block_setCell (i := 2) h u
 simp only [zq4,zq5,zq6] at m
 exact m
theorem kept_set1 (w : World) (s i : Nat) (u : Value) : Kept (fun k => k = s) w (w.setCell ⟨s,i,none⟩ u) := (Kept.refl (fun k => k = s) w).trans (Kept.setCell (fun k => k = s) _ ⟨s,i,none⟩ u rfl) fun _ h => Or.inl h
theorem kept_same {G : Nat -> Prop} {w w1 w2 : World} (h1 : Kept G w w1) (h2 : Kept G w1 w2) : Kept G w w2 := h1.trans h2 fun _ h => Or.inl h
end
theorem load_zero (a0 a1 a2 a3 : Addr) (F : Nat -> Prop) (s d : Nat) (S : Sh) (nt : Fl) (x : SP) (w : World) (h : StM w F s d S [] x) (hE : ErIn F w a0 a1 a2 a3) (hk : NOk nt) (hok : (manB [] 0 nt).ok = true) (hlen : (bE (manB [] 0 nt)).length <= 262140) (hm : S.man = manT [] 0 nt) :
    Calls Tryz.prog 22 #[.pointer (some ⟨s,0,none⟩)] w fun e w' => e = .returned .nilIface /\ ∃ F' x',StM w' F' s d S nt x' /\ x'.Ta = x.Ta /\ x'.Ts = x.Ts /\ (x'.A = none \/ ∃ g o,x'.A = some ⟨g,o,none⟩) /\ x'.fl = [] /\ x'.last = 0 /\ ErIn F' w' a0 a1 a2 a3 /\ Step F w F' w' := by
 have c0 : w.cell? ⟨s,0,none⟩ = some (.pointer (some ⟨d,0,none⟩)) := cell_at (i := 0) h.blk rfl
 have M := man_any x.Fd d S w h.disk
 obtain ⟨T,hT⟩ : ∃ T,manT [] 0 nt = T := ⟨_,rfl⟩
 have GM := getMan_zero nt w hk hok hlen
 have hTs := manT_size [] 0 nt
 rw [hm,hT] at M
 rw [hT] at GM hTs
 have hTe : (T.toList == (⟨#[]⟩ : ByteArray).toList) = false := eqB_false fun e => by
  rw [e] at hTs
  have : (⟨#[]⟩ : ByteArray).size = 0 := rfl
  omega
 have hTe : T.toList.isEmpty = false := by
  cases e : T.toList with
  | nil => rw [e] at hTe; revert hTe; decide +kernel
  | cons a l => rfl
 have H := hid h; have HE := hid hE; have HK := hid hk; have MH := hid M; have GMH := hid GM; have HI := hid hE.in_
 clear h hE hk hok hlen hm M GM hT hTs
 go_enter Tryz.func22,Tryz.ntmps22
 go_wp2_with fail
 refine MH.out.mono ?_
 rintro e w1 ⟨rfl,rfl⟩
 go_wp2_with fail
 refine GMH.out.mono ?_
 rintro e w2 ⟨AF,AN,cF,cN,rfl,hadr,hnr,hcap,hbk,b2⟩
 obtain ⟨m,hm⟩ : ∃ m,nt.length = m := ⟨_,rfl⟩
 rw [hm] at hnr hcap
 rw [hm]
 have hm3 : m <= 300 := by rw [<- hm]; exact HK.out.len
 have b3 := (Below.refl w2.heap.size w2).alloc (Nat.le_refl _) (.cells #[.slice AF 0 cF,.int .i64 0,.slice AN m cN] 87)
 have n3 := heap_alloc_new w2 (.cells #[.slice AF 0 cF,.int .i64 0,.slice AN m cN] 87)
 obtain ⟨W,hW⟩ : ∃ W,w2.alloc (.cells #[.slice AF 0 cF,.int .i64 0,.slice AN m cN] 87) = W := ⟨_,rfl⟩
 rw [hW] at b3 n3
 have x0 : W.cell? ⟨w2.heap.size,0,none⟩ = some (.slice AF 0 cF) := cell_at (i := 0) n3 rfl
 have x2 : W.cell? ⟨w2.heap.size,2,none⟩ = some (.slice AN m cN) := cell_at (i := 2) n3 rfl
 have bW := b2.trans (b3.mono b2.size)
 have FN : Hid (∀ w',Kept F W w' -> RdT w' w2.heap.size AN m nt) := hid fun w' hkp => (hnr.below b3).agree fun k hne hkb => hkp.block k (Nat.lt_of_lt_of_le (hnr.lt hne hkb) b3.size) fun hf => by
  have h1 := hbk k hne hkb
  have h2 := HI.out k hf
  omega
 have NF : Hid (¬ F w2.heap.size) := hid fun hf => by have h2 := HI.out _ hf; have := b2.size; omega
 have MW := hid (H.out.below HE.out.in_ bW); have EW := hid (HE.out.below bW); have SW := hid (Step.same (Kept.of_below bW F)); have N3 := hid n3; have ADR := hid hadr; have CAP := hid hcap; have HM := hid hm
 clear hadr hnr hcap hbk b2 b3 n3 bW hm
 go_wp2_with fail
 refine (loadFiles_zero s cF AF W).mono ?_
 rintro e w4 ⟨rfl,rfl⟩
 go_wp2_with fail
 clear hW x0 x2 hTe c0
 go_loopw [34] (fun i wr2 => ∃ (k : Nat) (F2 : Nat -> Prop) (x2 : SP),k <= m /\ i = .int .i64 (k : Nat) /\ StM wr2 F2 s d S (addsN [] (nt.take k)) x2 /\ x2.data = x.data /\ ErIn F2 wr2 a0 a1 a2 a3 /\ Step F w4 F2 wr2) (fun i _ => m - (intOf i).toNat)
 case atStart => exact ⟨0,F,x,Nat.zero_le _,rfl,MW.out,rfl,EW.out,Step.same (Kept.refl F w4)⟩
 case round =>
  obtain ⟨k,F2,y,hk,rfl,hM,hx,hE,hst⟩ := hrel
  have M3R := hid hM; have X3R := hid hx; have E3R := hid hE; have S3R := hid hst
  have K3R : Hid (NOk (addsN [] (nt.take k))) := hid (NOk.adds NOk.nil _)
  have b3 : wr.cell? ⟨s,3,none⟩ = some (.pointer (some ⟨y.q,0,none⟩)) := cell_at (i := 3) hM.blk rfl
  clear hM hx hE hst
  by_cases hlt2 : k < m
  ·have i1 : (k : Int) < m := by omega
   have i0 : (0 : Int) <= k := by omega
   have hkl : k < nt.length := by rw [HM.out]; exact hlt2
   obtain ⟨g0,o0,rfl,hg0,hcs⟩ := (FN.out wr S3R.out.kept).2 (by omega)
   have z0 := hcs _ _ (tRow_get0 nt k hkl)
   have z1 := hcs _ _ (tRow_get1 nt k hkl)
   have hwx : (Lit.int .i64 nt[k].1).wf = true /\ nt[k].2.size <= maxLen := ⟨wf_of (HK.out.wf _ (List.getElem_mem hkl)).1 (HK.out.wf _ (List.getElem_mem hkl)).2,by have := HK.out.bod _ (List.getElem_mem hkl); unfold maxLen; omega⟩
   have htk := addsN_take [] nt hkl
   obtain ⟨⟨xi,xs⟩,hxx⟩ : ∃ x,nt[k] = x := ⟨_,rfl⟩
   rw [hxx] at z0 z1 hwx htk
   rw [<- Nat.add_assoc] at z1
   dsimp only at z0 z1 hwx htk
   obtain ⟨V,hV⟩ : ∃ V,V = wr.alloc (.cells #[.int .i64 xi,.string xs] 57) := ⟨_,rfl⟩
   have hbw : Below wr.heap.size wr V := by rw [hV]; exact (Below.refl wr.heap.size wr).alloc (Nat.le_refl _) _
   have hvn : V.heap[wr.heap.size]? = some (.cells #[.int .i64 xi,.string xs] 57 (0,0)) := by rw [hV]; exact heap_alloc_new wr _
   have MV := hid (M3R.out.below E3R.out.in_ hbw)
   have EV := hid (E3R.out.below hbw)
   have SV : Hid (Step F w4 F2 V) := hid (S3R.out.trans (Step.same (Kept.of_below hbw F2)))
   have q0 : V.cell? ⟨wr.heap.size,0,none⟩ = some (.int .i64 xi) := cell_at (i := 0) hvn rfl
   have q1 : V.cell? ⟨wr.heap.size,1,none⟩ = some (.string xs) := cell_at (i := 1) hvn rfl
   have q3 : V.cell? ⟨s,3,none⟩ = some (.pointer (some ⟨y.q,0,none⟩)) := cell_at (i := 3) MV.out.blk rfl
   have hnF : ¬ F2 wr.heap.size := fun hf => Nat.lt_irrefl _ (E3R.out.in_ _ hf)
   have HWX := hid hwx; have HTK := hid htk; have VN := hid hvn; have NF := hid hnF; have LV := hid (Array.getElem?_eq_some_iff.1 hvn).1; have VV := hid hV
   clear hcs hwx htk hxx hg0 hbw hvn hnF hV
   go_wp2_with fail
   rw [<- VV.out]
   go_region_held3 (fun w' => w'.cell? ⟨s,3,none⟩ = some (.pointer (some ⟨y.q,0,none⟩)) /\ w'.cell? ⟨wr.heap.size,0,none⟩ = some (.int .i64 xi) /\ w'.cell? ⟨wr.heap.size,1,none⟩ = some (.string xs)) (refine ⟨?_,?_,?_⟩ <;> assumption) (first
    | (go_at_call 42
       refine (devN.add y.Fn y.q _ xi xs V.drew (MV.out.nts.kept (Kept.of_below (Below.refl _ V).drew (fun _ => False)) (fun _ h => h.elim) fun k hk => EV.out.in_ k (MV.out.fn k hk)) (fun k hk => EV.out.in_ k (MV.out.fn k hk)) K3R.out HWX.out.1 HWX.out.2).mono ?_
       rintro e w4 ⟨rfl,Fn4,h4,st4⟩
       have st5 : Step y.Fn V Fn4 w4 := (Step.same (Kept.of_below (Below.refl _ V).drew y.Fn)).trans st4
       have M4 := MV.out.setNotes EV.out.in_ h4 st5
       rw [<- HTK.out] at M4
       have k4 : Kept F2 V w4 := st5.kept.mono MV.out.fn
       have c3 : w4.cell? ⟨s,3,none⟩ = some (.pointer (some ⟨y.q,0,none⟩)) := cell_at (i := 3) M4.blk rfl
       have n4 := (k4.block wr.heap.size LV.out NF.out).trans VN.out
       have d0 : w4.cell? ⟨wr.heap.size,0,none⟩ = some (.int .i64 xi) := cell_at (i := 0) n4 rfl
       have d1 : w4.cell? ⟨wr.heap.size,1,none⟩ = some (.string xs) := cell_at (i := 1) n4 rfl
       have E4 := hid (EV.out.plus k4)
       have S4 := hid (SV.out.trans (Step.plus k4))
       have M4H := hid M4
       clear h4 st4 st5 M4 k4 n4))
   go_wp2
   go_roundw
   case rel => exact ⟨k + 1,_,_,by omega,by go_num,M4H.out,X3R.out,E4.out,S4.out⟩
   case measure => simp [intOf]; omega
  ·obtain rfl : k = m := by omega
   have j2 : decide ((k : Int) < (k : Int)) = false := decide_eq_false (by omega)
   have hM := M3R.out
   rw [List.take_of_length_le (by rw [HM.out]; exact Nat.le_refl _),addsN_all HK.out] at hM
   have hnr := FN.out wr S3R.out.kept
   have lt2 := (Array.getElem?_eq_some_iff.1 N3.out).1
   have nm := (S3R.out.kept.block w2.heap.size lt2 NF.out).trans N3.out
   have ne2 : w2.heap.size ≠ s := fun e => NF.out (by rw [e]; exact H.out.fs)
   have x0 : wr.cell? ⟨w2.heap.size,0,none⟩ = some (.slice AF 0 cF) := cell_at (i := 0) nm rfl
   have x1 : wr.cell? ⟨w2.heap.size,1,none⟩ = some (.int .i64 0) := cell_at (i := 1) nm rfl
   have p4 := cell_at (i := 4) hM.blk rfl
   have p5 := cell_at (i := 5) hM.blk rfl
   have f4 := thawed_at (i := 4) hM.blk
   have f5 := thawed_at (i := 5) hM.blk
   have fin : ∀ w',w'.heap[s]? = some (.cells #[.pointer (some ⟨d,0,none⟩),.map (some y.ma),.map (some y.ms),.pointer (some ⟨y.q,0,none⟩),.slice AF 0 cF,.int .i64 0] 70 (0,0)) -> Kept (fun k => k = s) wr w' -> ∃ F' x',StM w' F' s d S nt x' /\ x'.Ta = x.Ta /\ x'.Ts = x.Ts /\ (x'.A = none \/ ∃ g o,x'.A = some ⟨g,o,none⟩) /\ x'.fl = [] /\ x'.last = 0 /\ ErIn F' w' a0 a1 a2 a3 /\ Step F w F' w' := fun w' hb hk => by
    obtain ⟨e1,e2,e3,e4,e5,e6,e7,e8,e9⟩ := SP.data_eq X3R.out
    have kF : Kept F2 wr w' := hk.mono fun k e => by rw [e]; exact hM.fs
    exact ⟨F2,_,hM.setFiles (fl' := []) E3R.out.in_ hk hb ⟨rfl,fun h => absurd h (by simp)⟩ (Nat.zero_le _) (fun k hne => absurd rfl hne),e4,e5,ADR.out,rfl,rfl,E3R.out.to kF (fun k hk2 => Nat.lt_of_lt_of_le (E3R.out.in_ k hk2) kF.size) fun k hk2 => Or.inl hk2,SW.out.trans (S3R.out.trans (Step.same kF))⟩
   have FIN := hid fin; have HBM := hid hM.blk
   clear fin hM hnr lt2 nm b3
   go_wp2_with fail
   go_region
   obtain ⟨F',x',g1,g2,g3,g4,g5,g6,g7,g8⟩ := FIN.out _ (store_set5 (store_set4 HBM.out (.slice AF 0 cF)) (.int .i64 0)) (kept_same (kept_set1 _ _ _ _) (kept_set1 _ _ _ _))
   have bd := (Below.refl ((wr.setCell ⟨s,4,none⟩ (.slice AF 0 cF)).setCell ⟨s,5,none⟩ (.int .i64 0)).heap.size ((wr.setCell ⟨s,4,none⟩ (.slice AF 0 cF)).setCell ⟨s,5,none⟩ (.int .i64 0))).drew
   have R := hid (show ∃ F' x',StM ((wr.setCell ⟨s,4,none⟩ (.slice AF 0 cF)).setCell ⟨s,5,none⟩ (.int .i64 0)).drew F' s d S nt x' /\ x'.Ta = x.Ta /\ x'.Ts = x.Ts /\ (x'.A = none \/ ∃ g o,x'.A = some ⟨g,o,none⟩) /\ x'.fl = [] /\ x'.last = 0 /\ ErIn F' ((wr.setCell ⟨s,4,none⟩ (.slice AF 0 cF)).setCell ⟨s,5,none⟩ (.int .i64 0)).drew a0 a1 a2 a3 /\ Step F w F' ((wr.setCell ⟨s,4,none⟩ (.slice AF 0 cF)).setCell ⟨s,5,none⟩ (.int .i64 0)).drew from
    ⟨F',x',g1.below g7.in_ bd,g2,g3,g4,g5,g6,g7.below bd,g8.trans (Step.same (Kept.of_below bd F'))⟩)
   clear g1 g2 g3 g4 g5 g6 g7 g8 bd
   go_wp2
   go_ret
   exact ⟨rfl,R.out⟩
end Go.Proofs.YtmpcnhpdobdmcaaGreatDoor
namespace Go.Proofs.YtmpcnhpdobdmcaaGreatDoor
open Go Go.RowKit
theorem putFiles_zero (s m r : Nat) (w : World) (hT : TbAt w m []) :
    Calls Tryz.prog 97 #[.pointer (some ⟨s,0,none⟩),.map (some m),.pointer (some ⟨r,0,none⟩)] w fun e w' => e = .returned .nilIface /\ Below w.heap.size w w' := by
 have H := hid hT
 clear hT
 go_enter Tryz.func97,Tryz.ntmps97
 go_wp2_with fail
 refine (names_t m [] w H.out (by simp)).mono ?_
 rintro e w1 ⟨A,c,rfl,h1,h2,b1⟩
 have B1 := hid b1
 clear h1 h2 b1
 go_wp2_with fail
 go_loopw [15] (fun i wr => i = .int .i64 0 /\ wr = w1) (fun _ _ => 0)
 case atStart => exact ⟨rfl,rfl⟩
 case round =>
  obtain ⟨rfl,rfl⟩ := hrel
  go_wp2
  go_ret
  exact ⟨rfl,B1.out⟩
theorem adr_own {w : World} {B m n c : Nat} {t : TypeId} {u : Nat} {A : Option Addr} {row : List Value} (h : w.ownsRow B t u (.slice A n c) m row) : A = none \/ ∃ g o,A = some ⟨g,o,none⟩ := by
 rcases h.2 with ⟨h2,h3⟩ | ⟨g,cap,cur,h2,h3,_⟩
 ·injection h2 with h2; exact Or.inl h2
 ·injection h2 with h2; exact Or.inr ⟨g,0,h2⟩
theorem _root_.Go.RowKit.Below.up0 {B : Nat} {w w' : World} (h : Below B w w') (e : w.heap.size = B) : Below w.heap.size w w' := by rw [e]; exact h
theorem RdT.off_man {w : World} {B n nb : Nat} {A : Option Addr} {l : Fl} {a1 : Option Addr} {n1 c1 : Nat} (h : RdT w B A n l) {i : Int} {b2 : Option Addr} {n2 c2 : Nat} (hb : w.heap[nb]? = some (.cells #[.slice a1 n1 c1,.int .i64 i,.slice b2 n2 c2] 87 (0,0))) (hne : l ≠ []) {k : Nat} (hk : BlkOf A k) : k ≠ nb := fun e => by
 subst e
 have hl : 0 < l.length := List.length_pos_iff.2 hne
 obtain ⟨g,o,e2,hg,hc⟩ := h.2 (by rw [<- h.1]; exact hl)
 obtain ⟨o',e3⟩ := hk
 rw [e2] at e3
 injection e3 with e3; injection e3 with e3 e4
 subst e3
 have h1 := hc _ _ (tRow_get1 l 0 hl)
 obtain ⟨j,hj⟩ : ∃ j,o + (0 * 2 + 1) = j := ⟨_,rfl⟩
 have h2 : w.cell? ⟨g,j,none⟩ = some (.string l[0].2) := by rw [<- hj]; exact h1
 simp only [World.cell?,hb] at h2
 match j,h2 with
 | 0,h2 => simp at h2
 | 1,h2 => simp at h2
 | 2,h2 => simp at h2
 | j + 3,h2 => simp at h2
theorem write_zero (a0 a1 a2 a3 : Addr) (F : Nat -> Prop) (s d : Nat) (S : Sh) (nt : Fl) (x : SP) (m : Nat) (AS : Option Addr) (cS : Nat) (w : World) (h : StM w F s d S nt x) (hE : ErIn F w a0 a1 a2 a3) (hT : TbAt w m []) (hfl : x.fl = []) (hla : x.last = 0) (hk : NOk nt)
    (hok : (manB [] 0 nt).ok = true) (hlen : (bE (manB [] 0 nt)).length <= 262140) (hAS : AS = none \/ ∃ g o,AS = some ⟨g,o,none⟩) :
    Calls Tryz.prog 62 #[.pointer (some ⟨s,0,none⟩),.map (some m),.slice AS 0 cS] w fun e w' => e = .returned .nilIface /\ ∃ F' x',StM w' F' s d ⟨[],0,S.fs,manT [] 0 nt⟩ nt x' /\ x'.Ta = x.Ta /\ x'.Ts = [] /\ (x'.A = none \/ ∃ g o,x'.A = some ⟨g,o,none⟩) /\ x'.fl = [] /\ x'.last = 0 /\ ErIn F' w' a0 a1 a2 a3 /\ Step F w F' w' := by
 have hmk := @run_makeMap Tryz.prog
 have c5 : w.cell? ⟨s,5,none⟩ = some (.int .i64 0) := by rw [<- hla]; exact cell_at (i := 5) h.blk rfl
 have c3 : w.cell? ⟨s,3,none⟩ = some (.pointer (some ⟨x.q,0,none⟩)) := cell_at (i := 3) h.blk rfl
 have SLT : Hid (s < w.heap.size) := hid (hE.in_ s h.fs)
 have H := hid h; have HE := hid hE; have HT := hid hT; have HFL := hid hfl; have HLA := hid hla; have HK := hid hk; have HOK := hid hok; have HLEN := hid hlen; have HAS := hid hAS
 clear h hE hT hfl hla hk hok hlen hAS
 go_enter Tryz.func62,Tryz.ntmps62
 obtain ⟨B0,hB0⟩ : ∃ B0,w.heap.size = B0 := ⟨_,rfl⟩
 have HB0 : Hid (B0 <= w.heap.size) := hid (by omega)
 have HB0E : Hid (w.heap.size = B0) := hid hB0
 have BW : Hid (Below B0 w w.drew) := hid (Below.refl _ _).drew
 rw [hB0] at SLT
 clear hB0
 go_upto_region 1 with fail
 go_cut [7] (fun s7 wx => ∃ (nb : Nat) (A1 A2 : Option Addr) (c1 n2 c2 : Nat),s7 = .pointer (some ⟨nb,0,none⟩) /\ wx.heap[nb]? = some (.cells #[.slice A1 0 c1,.int .i64 0,.slice A2 n2 c2] 87 (0,0)) /\ RdT wx wx.heap.size A2 n2 nt /\ n2 <= c2 /\ (A1 = none \/ ∃ g o,A1 = some ⟨g,o,none⟩) /\ B0 <= nb /\ Below B0 w wx)
 case first =>
  refine wp_region_held_drew (S := fun w' => Below B0 w w') (by kernel_rfl) ?_ (fun hHeld => ?_)
  ·exact BW.out
  refine takesH [0,2,3,4,5,6,7,8,9] ?_
  repeat
   refine takesH_one (v := ?_) ?_ ?_
   rotate_left
   ·first | (refine Or.inr ⟨by rfl,?_⟩; with_reducible rfl) | (refine Or.inl ⟨by rfl,?_⟩; intro wx hSw; (try dsimp only at hSw); first | (go_simp; first | done | with_reducible rfl) | ((have _c5 := (hSw.cell (p := ⟨s,5,none⟩) SLT.out).trans c5; have _c3 := (hSw.cell (p := ⟨s,3,none⟩) SLT.out).trans c3); go_simp; first | done | with_reducible rfl))
   try simp only [Act.put,zq1,zq2,zq3,zq4,zq5,zq6]
  refine takesH_nil ?_
  refine wpAnyH_ready (rs := [1,12]) (by kernel_rfl) (by simp) (AllReadyH.cons rfl (fun K hK => ?_) (AllReadyH.cons rfl (fun K hK => ?_) AllReadyH.nil))
  ·go_simp
   refine (intsClone_any w.heap.size 0 cS AS [] _ ⟨rfl,fun h => absurd h (by simp)⟩ HAS.out (by omega)).mono ?_
   rintro e v1 ⟨A1,c1,rfl,ho1,b1⟩
   have BW : Hid (Below B0 w v1) := hid (BW.out.trans (b1.mono (Nat.le_trans HB0.out BW.out.size)))
   have HA1 := hid (adr_own ho1)
   clear ho1 b1
   try go_wp2_with fail
   refine hK.out _ _ ?_ (fun hHeld => ?_)
   ·exact BW.out
   clear hK K
   try simp only [Act.put,zq1,zq2,zq3,zq4,zq5,zq6]
   refine wpAnyH_ready (rs := [10,12]) (by kernel_rfl) (by simp) (AllReadyH.cons rfl (fun K hK => ?_) (AllReadyH.cons rfl (fun K hK => ?_) AllReadyH.nil))
   ·go_simp
    refine (devN.all x.Fn x.q nt _ (H.out.nts.kept (Kept.of_below (BW.out.up0 HB0E.out) (fun _ => False)) (fun _ h => h.elim) fun k hk => HE.out.in_ k (H.out.fn k hk)) (fun k hk => Nat.lt_of_lt_of_le (HE.out.in_ k (H.out.fn k hk)) BW.out.size) HK.out).mono ?_
    rintro e v2 ⟨A2,n2,c2,rfl,h1,h2,b2⟩
    have BW : Hid (Below B0 w v2) := hid (BW.out.trans (b2.mono (Nat.le_trans HB0.out BW.out.size)))
    have RT := hid h1; have RC := hid h2
    clear h1 h2 b2
    try go_wp2_with fail
    refine hK.out _ _ ?_ (fun hHeld => ?_)
    ·exact BW.out
    clear hK K
    try simp only [Act.put,zq1,zq2,zq3,zq4,zq5,zq6]
    refine takesH [11] ?_
    repeat
     refine takesH_one (v := ?_) ?_ ?_
     rotate_left
     ·first | (refine Or.inr ⟨by rfl,?_⟩; with_reducible rfl) | (refine Or.inl ⟨by rfl,?_⟩; intro wx hSw; (try dsimp only at hSw); first | (go_simp; first | done | with_reducible rfl))
     try simp only [Act.put,zq1,zq2,zq3,zq4,zq5,zq6]
    refine takesH_nil ?_
    refine wpAnyH_ready (rs := [12]) (by kernel_rfl) (by simp) (AllReadyH.cons rfl (fun K hK => ?_) AllReadyH.nil)
    go_simp
    refine hK.out _ _ ?_ (fun hHeld => ?_)
    ·first | exact BW.out.alloc (Nat.le_trans HB0.out BW.out.size) _ | exact ((Below.refl B0 w).alloc HB0.out _).drew
    clear hK K
    try simp only [Act.put,zq1,zq2,zq3,zq4,zq5,zq6]
    have NG := hid (Nat.le_trans HB0.out BW.out.size)
    have NB := hid (heap_alloc_new v2 (.cells #[.slice none 0 0,.int .i64 0,.slice none 0 0] 87))
    have RT := hid ((RT.out.below ((Below.refl v2.heap.size v2).alloc (Nat.le_refl _) (.cells #[.slice none 0 0,.int .i64 0,.slice none 0 0] 87))).higher (((Below.refl v2.heap.size v2).alloc (Nat.le_refl _) (.cells #[.slice none 0 0,.int .i64 0,.slice none 0 0] 87)).size))
    have BW := hid (BW.out.alloc (Nat.le_trans HB0.out BW.out.size) (.cells #[.slice none 0 0,.int .i64 0,.slice none 0 0] 87))
    obtain ⟨nb,hnb⟩ : ∃ nb,v2.heap.size = nb := ⟨_,rfl⟩
    rw [hnb] at NG NB
    rw [hnb]
    generalize v2.alloc (.cells #[.slice none 0 0,.int .i64 0,.slice none 0 0] 87) = xA at NB BW RT ⊢
    refine wpAnyH_ready (rs := [13]) (by kernel_rfl) (by simp) (AllReadyH.cons rfl (fun K hK => ?_) AllReadyH.nil)
    have p0 := cell_at (i := 0) NB.out rfl
    have p1 := cell_at (i := 1) NB.out rfl
    have p2 := cell_at (i := 2) NB.out rfl
    have f0 := thawed_at (i := 0) NB.out
    have f1 := thawed_at (i := 1) NB.out
    have f2 := thawed_at (i := 2) NB.out
    go_simp
    refine hK.out _ _ ?_ (fun hHeld => ?_)
    ·exact ((BW.out.setCell (p := ⟨nb,0,none⟩) NG.out _).setCell (p := ⟨nb,1,none⟩) NG.out _).setCell (p := ⟨nb,2,none⟩) NG.out _
    clear hK K
    try simp only [Act.put,zq1,zq2,zq3,zq4,zq5,zq6]
    refine wpAnyH_done (by kernel_rfl) ?_ _
    have KS := kept_set3 (w := xA) nb (.slice A1 0 c1) (.int .i64 0) (.slice A2 n2 c2)
    have RF := hid ((RT.out.agree fun k hne hk => KS.block k (RT.out.lt hne hk) (RT.out.off_man NB.out hne hk)).higher KS.size)
    have BF := hid (((BW.out.setCell (p := ⟨nb,0,none⟩) NG.out (.slice A1 0 c1)).setCell (p := ⟨nb,1,none⟩) NG.out (.int .i64 0)).setCell (p := ⟨nb,2,none⟩) NG.out (.slice A2 n2 c2))
    have MF := hid (set3_man NB.out (.slice A1 0 c1) (.int .i64 0) (.slice A2 n2 c2))
    clear KS
    go_wp2_with fail
    go_meet
    exact ⟨nb,A1,A2,c1,n2,c2,rfl,MF.out,RF.out,RC.out,HA1.out,NG.out,BF.out⟩
   ·go_simp
    refine hK.out _ _ ?_ (fun hHeld => ?_)
    ·first | exact BW.out.alloc (Nat.le_trans HB0.out BW.out.size) _ | exact ((Below.refl B0 w).alloc HB0.out _).drew
    clear hK K
    try simp only [Act.put,zq1,zq2,zq3,zq4,zq5,zq6]
    have NG := hid (Nat.le_trans HB0.out BW.out.size)
    have NB := hid (heap_alloc_new v1 (.cells #[.slice none 0 0,.int .i64 0,.slice none 0 0] 87))
    have BW := hid (BW.out.alloc (Nat.le_trans HB0.out BW.out.size) (.cells #[.slice none 0 0,.int .i64 0,.slice none 0 0] 87))
    obtain ⟨nb,hnb⟩ : ∃ nb,v1.heap.size = nb := ⟨_,rfl⟩
    rw [hnb] at NG NB
    rw [hnb]
    generalize v1.alloc (.cells #[.slice none 0 0,.int .i64 0,.slice none 0 0] 87) = xA at NB BW ⊢
    refine wpAnyH_ready (rs := [10]) (by kernel_rfl) (by simp) (AllReadyH.cons rfl (fun K hK => ?_) AllReadyH.nil)
    go_simp
    refine (devN.all x.Fn x.q nt _ (H.out.nts.kept (Kept.of_below (BW.out.up0 HB0E.out) (fun _ => False)) (fun _ h => h.elim) fun k hk => HE.out.in_ k (H.out.fn k hk)) (fun k hk => Nat.lt_of_lt_of_le (HE.out.in_ k (H.out.fn k hk)) BW.out.size) HK.out).mono ?_
    rintro e v2 ⟨A2,n2,c2,rfl,h1,h2,b2⟩
    have BW : Hid (Below B0 w v2) := hid (BW.out.trans (b2.mono (Nat.le_trans HB0.out BW.out.size)))
    have NB := hid ((b2.block nb (Array.getElem?_eq_some_iff.1 NB.out).1).trans NB.out)
    have RT := hid h1; have RC := hid h2
    clear h1 h2 b2
    try go_wp2_with fail
    refine hK.out _ _ ?_ (fun hHeld => ?_)
    ·exact BW.out
    clear hK K
    try simp only [Act.put,zq1,zq2,zq3,zq4,zq5,zq6]
    refine takesH [11] ?_
    repeat
     refine takesH_one (v := ?_) ?_ ?_
     rotate_left
     ·first | (refine Or.inr ⟨by rfl,?_⟩; with_reducible rfl) | (refine Or.inl ⟨by rfl,?_⟩; intro wx hSw; (try dsimp only at hSw); first | (go_simp; first | done | with_reducible rfl))
     try simp only [Act.put,zq1,zq2,zq3,zq4,zq5,zq6]
    refine takesH_nil ?_
    refine wpAnyH_ready (rs := [13]) (by kernel_rfl) (by simp) (AllReadyH.cons rfl (fun K hK => ?_) AllReadyH.nil)
    have p0 := cell_at (i := 0) NB.out rfl
    have p1 := cell_at (i := 1) NB.out rfl
    have p2 := cell_at (i := 2) NB.out rfl
    have f0 := thawed_at (i := 0) NB.out
    have f1 := thawed_at (i := 1) NB.out
    have f2 := thawed_at (i := 2) NB.out
    go_simp
    refine hK.out _ _ ?_ (fun hHeld => ?_)
    ·exact ((BW.out.setCell (p := ⟨nb,0,none⟩) NG.out _).setCell (p := ⟨nb,1,none⟩) NG.out _).setCell (p := ⟨nb,2,none⟩) NG.out _
    clear hK K
    try simp only [Act.put,zq1,zq2,zq3,zq4,zq5,zq6]
    refine wpAnyH_done (by kernel_rfl) ?_ _
    have KS := kept_set3 (w := v2) nb (.slice A1 0 c1) (.int .i64 0) (.slice A2 n2 c2)
    have RF := hid ((RT.out.agree fun k hne hk => KS.block k (RT.out.lt hne hk) (RT.out.off_man NB.out hne hk)).higher KS.size)
    have BF := hid (((BW.out.setCell (p := ⟨nb,0,none⟩) NG.out (.slice A1 0 c1)).setCell (p := ⟨nb,1,none⟩) NG.out (.int .i64 0)).setCell (p := ⟨nb,2,none⟩) NG.out (.slice A2 n2 c2))
    have MF := hid (set3_man NB.out (.slice A1 0 c1) (.int .i64 0) (.slice A2 n2 c2))
    clear KS
    go_wp2_with fail
    go_meet
    exact ⟨nb,A1,A2,c1,n2,c2,rfl,MF.out,RF.out,RC.out,HA1.out,NG.out,BF.out⟩
  ·go_simp
   refine hK.out _ _ ?_ (fun hHeld => ?_)
   ·first | exact BW.out.alloc (Nat.le_trans HB0.out BW.out.size) _ | exact ((Below.refl B0 w).alloc HB0.out _).drew
   clear hK K
   try simp only [Act.put,zq1,zq2,zq3,zq4,zq5,zq6]
   have NB : Hid ((w.alloc (.cells #[.slice none 0 0,.int .i64 0,.slice none 0 0] 87)).drew.heap[w.heap.size]? = some (.cells #[.slice none 0 0,.int .i64 0,.slice none 0 0] 87 (0,0))) := hid (heap_alloc_new w (.cells #[.slice none 0 0,.int .i64 0,.slice none 0 0] 87))
   have BW : Hid (Below B0 w (w.alloc (.cells #[.slice none 0 0,.int .i64 0,.slice none 0 0] 87)).drew) := hid ((Below.refl B0 w).alloc HB0.out (.cells #[.slice none 0 0,.int .i64 0,.slice none 0 0] 87)).drew
   obtain ⟨nb,hnb⟩ : ∃ nb,w.heap.size = nb := ⟨_,rfl⟩
   have NG : Hid (B0 <= nb) := hid (by have := HB0.out; omega)
   rw [hnb] at NB
   rw [hnb]
   generalize (w.alloc (.cells #[.slice none 0 0,.int .i64 0,.slice none 0 0] 87)).drew = xA at NB BW ⊢
   refine wpAnyH_ready (rs := [1]) (by kernel_rfl) (by simp) (AllReadyH.cons rfl (fun K hK => ?_) AllReadyH.nil)
   go_simp
   refine (intsClone_any w.heap.size 0 cS AS [] _ ⟨rfl,fun h => absurd h (by simp)⟩ HAS.out (by omega)).mono ?_
   rintro e v1 ⟨A1,c1,rfl,ho1,b1⟩
   have BW : Hid (Below B0 w v1) := hid (BW.out.trans (b1.mono (Nat.le_trans HB0.out BW.out.size)))
   have NB := hid ((b1.block nb (Array.getElem?_eq_some_iff.1 NB.out).1).trans NB.out)
   have HA1 := hid (adr_own ho1)
   clear ho1 b1
   try go_wp2_with fail
   refine hK.out _ _ ?_ (fun hHeld => ?_)
   ·exact BW.out
   clear hK K
   try simp only [Act.put,zq1,zq2,zq3,zq4,zq5,zq6]
   refine wpAnyH_ready (rs := [10]) (by kernel_rfl) (by simp) (AllReadyH.cons rfl (fun K hK => ?_) AllReadyH.nil)
   go_simp
   refine (devN.all x.Fn x.q nt _ (H.out.nts.kept (Kept.of_below (BW.out.up0 HB0E.out) (fun _ => False)) (fun _ h => h.elim) fun k hk => HE.out.in_ k (H.out.fn k hk)) (fun k hk => Nat.lt_of_lt_of_le (HE.out.in_ k (H.out.fn k hk)) BW.out.size) HK.out).mono ?_
   rintro e v2 ⟨A2,n2,c2,rfl,h1,h2,b2⟩
   have BW : Hid (Below B0 w v2) := hid (BW.out.trans (b2.mono (Nat.le_trans HB0.out BW.out.size)))
   have NB := hid ((b2.block nb (Array.getElem?_eq_some_iff.1 NB.out).1).trans NB.out)
   have RT := hid h1; have RC := hid h2
   clear h1 h2 b2
   try go_wp2_with fail
   refine hK.out _ _ ?_ (fun hHeld => ?_)
   ·exact BW.out
   clear hK K
   try simp only [Act.put,zq1,zq2,zq3,zq4,zq5,zq6]
   refine takesH [11] ?_
   repeat
    refine takesH_one (v := ?_) ?_ ?_
    rotate_left
    ·first | (refine Or.inr ⟨by rfl,?_⟩; with_reducible rfl) | (refine Or.inl ⟨by rfl,?_⟩; intro wx hSw; (try dsimp only at hSw); first | (go_simp; first | done | with_reducible rfl))
    try simp only [Act.put,zq1,zq2,zq3,zq4,zq5,zq6]
   refine takesH_nil ?_
   refine wpAnyH_ready (rs := [13]) (by kernel_rfl) (by simp) (AllReadyH.cons rfl (fun K hK => ?_) AllReadyH.nil)
   have p0 := cell_at (i := 0) NB.out rfl
   have p1 := cell_at (i := 1) NB.out rfl
   have p2 := cell_at (i := 2) NB.out rfl
   have f0 := thawed_at (i := 0) NB.out
   have f1 := thawed_at (i := 1) NB.out
   have f2 := thawed_at (i := 2) NB.out
   go_simp
   refine hK.out _ _ ?_ (fun hHeld => ?_)
   ·exact ((BW.out.setCell (p := ⟨nb,0,none⟩) NG.out _).setCell (p := ⟨nb,1,none⟩) NG.out _).setCell (p := ⟨nb,2,none⟩) NG.out _
   clear hK K
   try simp only [Act.put,zq1,zq2,zq3,zq4,zq5,zq6]
   refine wpAnyH_done (by kernel_rfl) ?_ _
   have KS := kept_set3 (w := v2) nb (.slice A1 0 c1) (.int .i64 0) (.slice A2 n2 c2)
   have RF := hid ((RT.out.agree fun k hne hk => KS.block k (RT.out.lt hne hk) (RT.out.off_man NB.out hne hk)).higher KS.size)
   have BF := hid (((BW.out.setCell (p := ⟨nb,0,none⟩) NG.out (.slice A1 0 c1)).setCell (p := ⟨nb,1,none⟩) NG.out (.int .i64 0)).setCell (p := ⟨nb,2,none⟩) NG.out (.slice A2 n2 c2))
   have MF := hid (set3_man NB.out (.slice A1 0 c1) (.int .i64 0) (.slice A2 n2 c2))
   clear KS
   go_wp2_with fail
   go_meet
   exact ⟨nb,A1,A2,c1,n2,c2,rfl,MF.out,RF.out,RC.out,HA1.out,NG.out,BF.out⟩
 case rest =>
  obtain ⟨nb,A1,A2,c1,n2,c2,rfl,hnb,hrt,hcc,hA1,hng,hbw⟩ := hcut
  obtain rfl : nt.length = n2 := hrt.1
  have hbw := hbw.up0 HB0E.out
  have MC := hid (H.out.below HE.out.in_ hbw); have EC := hid (HE.out.below hbw); have TC := hid (HT.out.below hbw); have BC := hid hbw
  have NB := hid hnb; have RT := hid hrt; have CC := hid hcc; have HA1 := hid hA1
  have NF : Hid (¬ F nb) := hid fun hf => by have := HE.out.in_ nb hf; have := HB0.out; have := HB0E.out; omega
  clear hnb hrt hcc hA1 hng hbw BW c3 c5
  go_wp2_with fail
  refine (putFiles_zero s m nb wc TC.out).mono ?_
  rintro e w1 ⟨rfl,b1⟩
  have n1 := (b1.block nb (Array.getElem?_eq_some_iff.1 NB.out).1).trans NB.out
  have r1 := (RT.out.below b1).higher b1.size
  have M1 := hid (MC.out.below EC.out.in_ b1); have E1 := hid (EC.out.below b1); have B1 := hid (BC.out.trans (b1.mono BC.out.size)); have N1 := hid n1
  have MR : Hid (ManR w1 w1.heap.size c1 c2 A1 A2 [] 0 nt) := hid ⟨⟨rfl,fun h => absurd h (by simp)⟩,HA1.out,r1,CC.out,by omega,by omega,HOK.out,HLEN.out,by simp,fun z hz => by have := HK.out.bod z hz; unfold maxLen; omega,by have := HK.out.len; omega⟩
  have TU := hid (mturn_s a0 a1 a2 a3 F s d S nt x w1.heap.size c1 c2 A1 A2 [] 0 nt w1 M1.out E1.out MR.out (Nat.le_refl _))
  have p0 := cell_at (i := 0) n1 rfl
  have p1 := cell_at (i := 1) n1 rfl
  have p2 := cell_at (i := 2) n1 rfl
  clear b1 n1 r1
  go_wp2_with fail
  refine TU.out.mono ?_
  rintro e w2 ⟨rfl,k2,x2,hx2,M2⟩
  have n2 := (k2.block nb (Array.getElem?_eq_some_iff.1 N1.out).1 NF.out).trans N1.out
  obtain ⟨d1,d2,d3,d4,d5,d6,d7,d8,d9⟩ := SP.data_eq hx2
  have E2 := E1.out.plus k2
  have c4 : w2.cell? ⟨s,4,none⟩ = some (.slice x2.A 0 x2.c) := by
   have := cell_at (i := 4) M2.blk rfl
   rw [show x2.fl = [] from d8.trans HFL.out] at this
   exact this
  have p0 : w2.cell? ⟨nb,0,none⟩ = some (.slice A1 0 c1) := cell_at (i := 0) n2 rfl
  have bd := (Below.refl w2.heap.size w2).drew
  have MD := hid (M2.below E2.in_ bd); have ED := hid (E2.below bd); have ND : Hid (w2.drew.heap[nb]? = some (.cells #[.slice A1 0 c1,.int .i64 0,.slice A2 nt.length c2] 87 (0,0))) := hid n2
  have ST2 := hid (((Step.same (Kept.of_below B1.out F)).trans (Step.plus k2)).trans (Step.same (Kept.of_below bd _)))
  have T2 := hid d4; have FL2 := hid (show x2.fl = [] from d8.trans HFL.out)
  have NF2 : Hid (¬ Plus F w1 w2 nb) := hid fun hf => hf.elim NF.out fun h => by have := (Array.getElem?_eq_some_iff.1 N1.out).1; omega
  clear k2 hx2 M2 d1 d2 d3 d4 d5 d6 d7 d8 d9 E2 bd n2 p1 p2 TU
  go_wp2_with fail
  go_region_held3 (fun w' => w'.cell? ⟨s,4,none⟩ = some (.slice x2.A 0 x2.c) /\ w'.cell? ⟨nb,0,none⟩ = some (.slice A1 0 c1)) (refine ⟨?_,?_⟩ <;> assumption) (first
   | (go_at_call 26
      refine (drop_s _ s d _ _ _ w2.drew.heap.size x2.A A1 x2.c c1 0 0 [] [] w2.drew MD.out ED.out.in_ ⟨rfl,fun h => absurd h (by simp)⟩ ⟨rfl,fun h => absurd h (by simp)⟩ (Nat.le_refl _) (fun k hne => absurd rfl hne) (fun k hne => absurd rfl hne) (by omega) (by omega) (fun v hv => by cases hv)).mono ?_
      rintro e w3 ⟨rfl,k3,x3,hx3,hfd3,M3⟩
      have k3' := k3.mono MD.out.fd
      have n3 := (k3'.block nb (Array.getElem?_eq_some_iff.1 ND.out).1 NF2.out).trans ND.out
      have g4 : w3.cell? ⟨s,4,none⟩ = some (.slice x2.A 0 x2.c) := by
       have := cell_at (i := 4) M3.blk rfl
       obtain ⟨d1,d2,d3,d4,d5,d6,d7,d8,d9⟩ := SP.data_eq hx3
       rw [d6,d7,d8,FL2.out] at this
       exact this
      have g0 : w3.cell? ⟨nb,0,none⟩ = some (.slice A1 0 c1) := cell_at (i := 0) n3 rfl
      have N3 := hid n3; have M3H := hid M3; have K3 := hid k3'; have X3 := hid hx3
      clear k3 hx3 hfd3 M3 k3' n3))
  have E3 := ED.out.plus K3.out
  have M3H : Hid (StM w3 (Plus (Plus F w1 w2) w2.drew w3) s d ⟨[],0,S.fs,manT [] 0 nt⟩ nt x3) := M3H
  obtain ⟨F3,hF3⟩ : ∃ F3,Plus (Plus F w1 w2) w2.drew w3 = F3 := ⟨_,rfl⟩
  have ST3 := ST2.out.trans (step_plus K3.out)
  rw [hF3] at M3H E3 ST3
  have b4 := (Below.refl w3.heap.size w3).alloc (Nat.le_refl _) (.map #[] 0)
  have t4 := tb_made w3
  obtain ⟨w4,hw4⟩ : ∃ w4,w3.alloc (.map #[] 0) = w4 := ⟨_,rfl⟩
  rw [hw4] at b4 t4
  have s4 : w4.heap.size = w3.heap.size + 1 := by rw [<- hw4]; simp
  have M4 := M3H.out.grow E3.in_ b4 4
  have p1 : w3.cell? ⟨nb,1,none⟩ = some (.int .i64 0) := cell_at (i := 1) N3.out rfl
  have y4 := cell_at (i := 4) M4.blk rfl
  have y5 := cell_at (i := 5) M4.blk rfl
  have y2 := cell_at (i := 2) M4.blk rfl
  have z4 := thawed_at (i := 4) M4.blk
  have z5 := thawed_at (i := 5) M4.blk
  have z2 := thawed_at (i := 2) M4.blk
  have E4 : ErIn (Plus F3 w3 w4) w4 a0 a1 a2 a3 := E3.plus (Kept.of_below b4 F3)
  have kS : Kept (fun k => k = s) w4 (((w4.setCell ⟨s,4,none⟩ (.slice A1 0 c1)).setCell ⟨s,5,none⟩ (.int .i64 0)).setCell ⟨s,2,none⟩ (.map (some w3.heap.size))) := kept_same (kept_same (kept_set1 _ _ _ _) (kept_set1 _ _ _ _)) (kept_set1 _ _ _ _)
  have fin : ∃ F' x',StM (((w4.setCell ⟨s,4,none⟩ (.slice A1 0 c1)).setCell ⟨s,5,none⟩ (.int .i64 0)).setCell ⟨s,2,none⟩ (.map (some w3.heap.size))) F' s d ⟨[],0,S.fs,manT [] 0 nt⟩ nt x' /\ x'.Ta = x.Ta /\ x'.Ts = [] /\ (x'.A = none \/ ∃ g o,x'.A = some ⟨g,o,none⟩) /\ x'.fl = [] /\ x'.last = 0 /\ ErIn F' (((w4.setCell ⟨s,4,none⟩ (.slice A1 0 c1)).setCell ⟨s,5,none⟩ (.int .i64 0)).setCell ⟨s,2,none⟩ (.map (some w3.heap.size))) a0 a1 a2 a3 /\ Step F w F' (((w4.setCell ⟨s,4,none⟩ (.slice A1 0 c1)).setCell ⟨s,5,none⟩ (.int .i64 0)).setCell ⟨s,2,none⟩ (.map (some w3.heap.size))) := by
   obtain ⟨d1,d2,d3,d4,d5,d6,d7,d8,d9⟩ := SP.data_eq X3.out
   have kF : Kept (Plus F3 w3 w4) w4 _ := kS.mono fun k e => by rw [e]; exact M4.fs
   have hms : ∀ k,mapsF w3.heap.size [] k -> Plus F3 w3 w4 k /\ ext x3.ro w3.heap.size 4 k = 4 := fun k hk => by
    have e : k = w3.heap.size := mapsF_nil hk
    exact ⟨Or.inr ⟨by omega,by omega⟩,ext_ge (by omega)⟩
   exact ⟨Plus F3 w3 w4,_,M4.setBlk (ms' := w3.heap.size) (Ts' := []) (A' := A1) (c' := c1) (fl' := []) (last' := 0) E4.in_ kS (store_set2 (store_set5 (store_set4 M4.blk _) _) _) (t4.agree kS.size (fun k hk => kS.block k (t4.lt hk) fun e => by
       have e1 : k = w3.heap.size := mapsF_nil hk
       have e2 : k = s := e
       have := E3.in_ s M3H.out.fs
       omega) fun k hk => (allRows_nil hk).elim) hms (fun k hk => (allRows_nil hk).elim) ⟨rfl,fun h => absurd h (by simp)⟩ (Nat.zero_le _) (fun k hne => absurd rfl hne),d4.trans T2.out,rfl,HA1.out,rfl,rfl,
    E4.to kF (fun k hk => Nat.lt_of_lt_of_le (E4.in_ k hk) kF.size) fun k hk => Or.inl hk,(ST3.trans (step_plus (Kept.of_below b4 F3))).trans (Step.same kF)⟩
  have FIN := hid fin
  clear fin kS E4 M4 t4 b4 s4 E3 ST3 hF3
  go_wp2
  go_ret
  exact ⟨rfl,FIN.out⟩
def QR (R : ByteArray -> St -> Prop) (A : Option Addr) (c : Nat) (fl : List Int) (last : Int) (fs : Fl) (man : ByteArray) (b : St) : Prop :=
 (A = none \/ ∃ g o,A = some ⟨g,o,none⟩) /\ fl = [] /\ last = 0 /\ fs = [] /\ R man b
def LoadR (R : ByteArray -> St -> Prop) : Prop := ∀ (a0 a1 a2 a3 : Addr) (F : Nat -> Prop) (s d : Nat) (S : Sh) (b : St) (x : SP) (w : World),StM w F s d S [] x -> ErIn F w a0 a1 a2 a3 -> SafeS b -> R S.man b -> x.A = none -> x.fl = [] -> x.last = 0 ->
    Calls Tryz.prog 22 #[.pointer (some ⟨s,0,none⟩)] w fun e w' => e = .returned .nilIface /\ ∃ F' x',StM w' F' s d S b.nt x' /\ x'.Ta = x.Ta /\ x'.Ts = x.Ts /\ (x'.A = none \/ ∃ g o,x'.A = some ⟨g,o,none⟩) /\ x'.fl = [] /\ x'.last = 0 /\ ErIn F' w' a0 a1 a2 a3 /\ Step F w F' w'
theorem cut_recs {S : Sh} {l : List Bt} (h : recs l <+: S.log) : S.cut ((recs l).length : Nat) = { S with log := recs l,syn := (recs l).length } := by
 have h1 := h.length_le
 unfold Sh.cut
 have hc : clip ((recs l).length : Nat) S.log.length = (recs l).length := by unfold clip; omega
 rw [hc]
 obtain ⟨r,hr⟩ := h
 have : S.log.take (recs l).length = recs l := by rw [<- hr,List.take_left]
 rw [this]
theorem load_new (F : Nat -> Prop) (s d : Nat) (S : Sh) (nt : Fl) (x : SP) (w : World) (h : StM w F s d S nt x) (hm : S.man = ⟨#[]⟩) :
    Calls Tryz.prog 22 #[.pointer (some ⟨s,0,none⟩)] w fun e w' => e = .returned .nilIface /\ w' = w := by
 have c0 : w.cell? ⟨s,0,none⟩ = some (.pointer (some ⟨d,0,none⟩)) := cell_at (i := 0) h.blk rfl
 have M := man_any x.Fd d S w h.disk
 rw [hm] at M
 have MH := hid M
 clear h hm M
 go_enter Tryz.func22,Tryz.ntmps22
 go_wp2_with fail
 refine MH.out.mono ?_
 rintro e w1 ⟨rfl,rfl⟩
 go_wp2
 go_ret
 exact ⟨rfl,rfl⟩
def R1 (man : ByteArray) (b : St) : Prop := man = ⟨#[]⟩ /\ b = St.new
theorem load1 : LoadR R1 := fun a0 a1 a2 a3 F s d S b x w h hE hs hq hA hfl hla => by
 obtain ⟨hm,rfl⟩ := hq
 refine (load_new F s d S [] x w h hm).mono ?_
 rintro e w' ⟨rfl,rfl⟩
 exact ⟨rfl,F,x,h,rfl,rfl,Or.inl hA,hfl,hla,hE,Step.same (Kept.refl F w')⟩
theorem open_s (R : ByteArray -> St -> Prop) (hR : ∀ man b,R man b -> b.tb = []) (hL : LoadR R) (F : Nat -> Prop) (d : Nat) (S : Sh) (b : St) (w : World) (hd : ShIs w F d S) (hE : InE F w) (he : ES (QR R) S.fs S.man b) :
    Calls Tryz.prog 6 #[.pointer (some ⟨d,0,none⟩)] w fun e w' => ∃ (s : Nat) (F' : Nat -> Prop) (S' : Sh) (l : List Bt),e = .returned (.tuple #[.pointer (some ⟨s,0,none⟩),.int .i64 0]) /\ Opens b S.log l /\ PS (QR R) w' F' s d S' b l /\ min S.syn S'.log.length <= S'.syn /\ Step F w F' w' := by
 obtain ⟨hs,hq⟩ := he
 obtain ⟨a0,a1,a2,a3,hE⟩ := hE
 have hfs : S.fs = [] := by obtain ⟨A,c,fl,last,_,_,_,h,_⟩ := hq; exact h
 have hRb : R S.man b := by obtain ⟨A,c,fl,last,_,_,_,_,h⟩ := hq; exact h
 have hbt := hR _ _ hRb
 have HRB := hid hRb
 clear hRb
 have hlog := hd.ok.log
 have hmk := @run_makeMap Tryz.prog
 have b1 := (Below.refl w.heap.size w).alloc (Nat.le_refl _) (.map #[] 0)
 have t1 := tb_made w
 obtain ⟨w1,hw1⟩ : ∃ w1,w.alloc (.map #[] 0) = w1 := ⟨_,rfl⟩
 rw [hw1] at b1 t1
 have s1 : w1.heap.size = w.heap.size + 1 := by rw [<- hw1]; simp
 have b2 := (Below.refl w1.heap.size w1).alloc (Nat.le_refl _) (.map #[] 0)
 have t2 := tb_made w1
 obtain ⟨w2,hw2⟩ : ∃ w2,w1.alloc (.map #[] 0) = w2 := ⟨_,rfl⟩
 rw [hw2] at b2 t2
 have s2 : w2.heap.size = w1.heap.size + 1 := by rw [<- hw2]; simp
 have T1 := hid t1; have T2 := hid t2; have B1 := hid b1; have B2 := hid b2; have S1 := hid s1; have S2 := hid s2
 have HD := hid hd; have HE := hid hE; have HS := hid hs; have HQ := hid hq; have HBT := hid hbt; have HFS := hid hfs; have HLOG := hid hlog
 clear hd hE hs hq hbt hfs hlog b1 t1 b2 t2 s1 s2
 go_enter Tryz.func6,Tryz.ntmps6
 go_wp2_with fail
 refine (dnew_any w2).mono ?_
 rintro e w3 ⟨q,Fn,rfl,hn,hni,hin,b3⟩
 have b4 := (Below.refl w3.heap.size w3).alloc (Nat.le_refl _) (.cells #[.pointer (some ⟨d,0,none⟩),.map (some w.heap.size),.map (some w1.heap.size),.pointer (some ⟨q,0,none⟩),.slice none 0 0,.int .i64 0] 70)
 have n4 := heap_alloc_new w3 (.cells #[.pointer (some ⟨d,0,none⟩),.map (some w.heap.size),.map (some w1.heap.size),.pointer (some ⟨q,0,none⟩),.slice none 0 0,.int .i64 0] 70)
 obtain ⟨w4,hw4⟩ : ∃ w4,w3.alloc (.cells #[.pointer (some ⟨d,0,none⟩),.map (some w.heap.size),.map (some w1.heap.size),.pointer (some ⟨q,0,none⟩),.slice none 0 0,.int .i64 0] 70) = w4 := ⟨_,rfl⟩
 rw [hw4] at b4 n4
 have l1 := S1.out
 have l2 := S2.out
 have l3 := b3.size
 have l4 := b4.size
 have bw3 : Below w.heap.size w w3 := (B1.out.trans (B2.out.mono B1.out.size)).trans (b3.mono (by omega))
 have bw4 : Below w.heap.size w w4 := bw3.trans (b4.mono bw3.size)
 have hd4 : ShIs w4 F d S := HD.out.kept (Kept.of_below bw4 (fun _ => False)) (fun _ h => h.elim) HE.out.in_
 have hn4 : NoIs w4 Fn q [] := hn.kept (Kept.of_below b4 (fun _ => False)) (fun _ h => h.elim) hin
 have t14 : TbAt w4 w.heap.size [] := T1.out.below ((B2.out.trans (b3.mono B2.out.size)).trans (b4.mono (by omega)))
 have t24 : TbAt w4 w1.heap.size [] := T2.out.below (b3.trans (b4.mono b3.size))
 have hlt4 := (Array.getElem?_eq_some_iff.1 n4).1
 obtain ⟨s,hsn⟩ : ∃ s,w3.heap.size = s := ⟨_,rfl⟩
 obtain ⟨x,hM,e1,e2,e3,e4,e5,e6⟩ := stm_new (w0 := w) hd4 HE.out.in_ hn4 (fun k hk => by have := hni k hk; omega) t14 t24 n4 (Nat.le_refl _) (by omega) (by omega) (by omega) (by omega) (by omega) (fun hf => Nat.lt_irrefl _ (hin _ hf)) (fun hf => by have := hni _ hf; omega) (fun hf => by have := hni _ hf; omega)
 obtain ⟨F4,hF4⟩ : ∃ F4,(fun k => F k \/ Fn k \/ k = w3.heap.size \/ k = w.heap.size \/ k = w1.heap.size) = F4 := ⟨_,rfl⟩
 have st4 : Step F w F4 w4 := ⟨Kept.of_below bw4 F,fun k hk => by
  rw [<- hF4] at hk
  rcases hk with hk | hk | hk | hk | hk
  ·exact Or.inl hk
  ·exact Or.inr ⟨by have := hni k hk; omega,Nat.lt_of_lt_of_le (hin k hk) l4⟩
  ·exact Or.inr ⟨by omega,by omega⟩
  ·exact Or.inr ⟨by omega,by omega⟩
  ·exact Or.inr ⟨by omega,by omega⟩⟩
 rw [hF4] at hM
 have hi4 : In F4 w4 := st4.in_ HE.out.in_
 have E4 : ErIn F4 w4 a0 a1 a2 a3 := HE.out.to st4.kept hi4 fun k hk => (st4.new k hk).imp id fun h => h.1
 rw [hsn] at hM
 have LQ := hid (hL a0 a1 a2 a3 F4 s d S b x w4 hM E4 HS.out HRB.out e3 e5 e6)
 have ST4 := hid st4; have X1 := hid e1; have X2 := hid e2
 clear hn hni hin b3 b4 n4 l1 l2 l3 l4 bw3 bw4 hd4 hn4 t14 t24 hlt4 hM e1 e2 e3 e4 e5 e6 hF4 st4 hi4 E4
 go_wp2_with fail
 try rw [hsn]
 refine LQ.out.mono ?_
 rintro e w5 ⟨rfl,F5,x5,hM5,e1,e2,e3,e4,e5,hE5,st5⟩
 have M5 := hid hM5; have E5 := hid hE5; have ST5 := hid (ST4.out.trans st5); have A5 := hid e3; have F5H := hid e4; have L5 := hid e5
 have RP := hid (replay_s a0 a1 a2 a3 F5 s d S b x5 w5 hM5 hE5 HS.out (by rw [e1,X1.out,HBT.out]; rfl) (by rw [e2,X2.out]; rfl) HLOG.out)
 clear hM5 e1 e2 e3 e4 e5 hE5 st5 hw1 hw2 hw4 hmk LQ
 go_wp2_with fail
 try rw [hsn]
 refine RP.out.mono ?_
 rintro e w6 ⟨F6,x6,bs,rfl,hM6,hx6,hta,hts,hop,hpre,hE6,st6⟩
 obtain ⟨n,hn⟩ : ∃ n,(recs bs).length = n := ⟨_,rfl⟩
 have hc := cut_recs hpre
 rw [hn] at hc
 have hnl : n <= 262144 := by have := hpre.length_le; have := HLOG.out; omega
 have CUT := scut_any x6.Fd d S (n : Nat) w6 hM6.disk (by omega)
 rw [hc] at CUT
 have CUTH := hid CUT; have M6 := hid hM6; have X6 := hid hx6; have TA := hid hta; have TS := hid hts; have OP := hid hop; have PRE := hid hpre; have E6 := hid hE6; have ST6 := hid (ST5.out.trans st6); have HN := hid hn
 rw [hn]
 clear CUT hc hM6 hx6 hta hts hop hpre hE6 st6 hn RP
 go_wp2_with fail
 refine CUTH.out.mono ?_
 rintro e w7 ⟨rfl,hd7,hk7⟩
 have M7 := M6.out.setDisk E6.out.in_ hd7 (Step.same hk7)
 have k7 : Kept F6 w6 w7 := hk7.mono M6.out.fd
 have E7 := E6.out.plus k7
 have c4 : w7.cell? ⟨s,4,none⟩ = some (.slice x6.A 0 x6.c) := by
  have := cell_at (i := 4) M7.blk rfl
  obtain ⟨d1,d2,d3,d4,d5,d6,d7,d8,d9⟩ := SP.data_eq (y := { x5 with Ta := x6.Ta,Ts := x6.Ts }) X6.out
  rw [show x6.fl = [] from d8.trans F5H.out] at this
  exact this
 have M7H := hid M7; have E7H := hid E7; have ST7 := hid (ST6.out.trans (Step.plus k7))
 clear hd7 hk7 M7 k7 E7 CUTH
 have b7 := (Below.refl w7.heap.size w7).drew
 have MD := hid (M7H.out.below E7H.out.in_ b7); have ED := hid (E7H.out.below b7)
 have SLT : Hid (s < w7.heap.size) := hid (E7H.out.in_ s M7H.out.fs)
 clear b7
 go_wp2_with fail
 go_region_held3 (fun w' => w'.cell? ⟨s,4,none⟩ = some (.slice x6.A 0 x6.c)) (assumption) (first
  | (go_at_call 27
     refine (nums_any _ d _ w7.drew MD.out.disk).mono ?_
     rintro e w8 ⟨v,rfl,ho,b8⟩
     have ho : w8.ownsRow w7.heap.size 3 1 v S.fs.length (iRow (numsF S.fs)) := ho
     rw [HFS.out] at ho
     obtain ⟨A8,c8,rfl,hc8,_⟩ := own_slice ho
     have g4 : w8.cell? ⟨s,4,none⟩ = some (.slice x6.A 0 x6.c) := (b8.cell (p := ⟨s,4,none⟩) SLT.out).trans c4
     have M8 := hid (MD.out.below ED.out.in_ b8); have E8 := hid (ED.out.below b8); have B8 : Hid (Below w7.heap.size w7 w8) := hid ((Below.refl w7.heap.size w7).drew.trans b8)
     clear ho b8 hc8)
  | (go_at_call 26
     refine (drop_s _ s d _ _ _ w8.heap.size A8 x6.A c8 x6.c 0 0 [] [] w8 M8.out E8.out.in_ ⟨rfl,fun h => absurd h (by simp)⟩ ⟨rfl,fun h => absurd h (by simp)⟩ (Nat.le_refl _) (fun k hne => absurd rfl hne) (fun k hne => absurd rfl hne) (by omega) (by omega) (fun v hv => by cases hv)).mono ?_
     rintro e w9 ⟨rfl,k9,x9,hx9,hfd9,M9⟩
     have k9' := k9.mono M8.out.fd
     have h4 : w9.cell? ⟨s,4,none⟩ = some (.slice x6.A 0 x6.c) := by
      have := cell_at (i := 4) M9.blk rfl
      obtain ⟨d1,d2,d3,d4,d5,d6,d7,d8,d9⟩ := SP.data_eq hx9
      obtain ⟨y1,y2,y3,y4,y5,y6,y7,y8,y9⟩ := SP.data_eq (y := { x5 with Ta := x6.Ta,Ts := x6.Ts }) X6.out
      rw [d6,d7,d8] at this
      rw [show x6.fl = [] from y8.trans F5H.out] at this
      exact this
     have M9H := hid M9; have K9 := hid k9'; have X9 := hid hx9
     clear k9 hx9 hfd9 M9 k9'))
 have fin : ∃ (s' : Nat) (F' : Nat -> Prop) (S' : Sh) (l : List Bt),s' = s /\ Opens b S.log l /\ PS (QR R) w9 F' s d S' b l /\ min S.syn S'.log.length <= S'.syn /\ Step F w F' w9 := by
  obtain ⟨d1,d2,d3,d4,d5,d6,d7,d8,d9⟩ := SP.data_eq X9.out
  obtain ⟨y1,y2,y3,y4,y5,y6,y7,y8,y9⟩ := SP.data_eq (y := { x5 with Ta := x6.Ta,Ts := x6.Ts }) X6.out
  have hl := PRE.out.length_le
  obtain ⟨qA,qc,qfl,qlast,q1,q2,q3,q4,q5⟩ := HQ.out
  refine ⟨s,_,{ S with log := recs bs,syn := n },bs,rfl,OP.out,⟨x9,M9H.out,⟨?_,?_,HS.out,OP.out.fit,OP.out.short,rfl,by have := HLOG.out; omega,⟨?_,?_,?_,q4,q5⟩⟩⟩,?_,?_⟩
  ·exact (congrArg tbs d4).trans TA.out
  ·exact (congrArg tbs d5).trans TS.out
  ·rw [show x9.A = x5.A from d6.trans y6]; exact A5.out
  ·rw [show x9.fl = x5.fl from d8.trans y8]; exact F5H.out
  ·rw [show x9.last = x5.last from d9.trans y9]; exact L5.out
  ·show min S.syn (recs bs).length <= n
   rw [HN.out]
   omega
  ·exact (ST7.out.trans (Step.same (Kept.of_below B8.out _))).trans (step_plus K9.out)
 have FIN := hid fin
 clear fin
 go_wp2
 go_ret2
 obtain ⟨s',F',S',l,rfl,h1,h2,h3,h4⟩ := FIN.out
 exact ⟨s',F',S',l,rfl,h1,h2,h3,h4⟩
end Go.Proofs.YtmpcnhpdobdmcaaGreatDoor
namespace Go.Proofs.YtmpcnhpdobdmcaaGreatDoor
open Go Go.RowKit
section
variable {R : ByteArray -> St -> Prop}
theorem devSC (h0 : R ⟨#[]⟩ St.new) (hR : ∀ man b,R man b -> b.tb = []) (hL : LoadR R) : DevSC (PS (QR R)) (ES (QR R)) where
 fresh := ⟨SafeS.new,none,0,[],0,Or.inl rfl,rfl,rfl,rfl,h0⟩
 kept := fun h hk ho hi => p_kept h hk ho hi
 shelf := fun h => p_shelf h
 says := fun h => p_says h
 open_ := open_s R hR hL
 apply := p_apply
 sync := p_sync
 get := p_get
 tables := p_tables
theorem devSN (h0 : R ⟨#[]⟩ St.new) (hR : ∀ man b,R man b -> b.tb = []) (hL : LoadR R) : DevSN (PS (QR R)) (ES (QR R)) where
 toDevSC := devSC h0 hR hL
 notes := p_notes
end
end Go.Proofs.YtmpcnhpdobdmcaaGreatDoor
