import Derived.Test.YtmpcnhpdobdmcaaGreatDoorLawNotesQ
import Derived.Test.YtmpcnhpdobdmcaaGreatDoorLawNotesV
import Derived.Test.YtmpcnhpdobdmcaaGreatDoorLawNotesBB
open Go.Lib (hid)
set_option linter.unusedVariables false
set_option linter.unusedSimpArgs false
set_option maxHeartbeats 4000000
set_option maxRecDepth 8000
namespace Go.Proofs.YtmpcnhpdobdmcaaGreatDoor
open Go Go.RowKit
theorem NOk.drops {S : Fl} (h : NOk S) (D : List Int) : NOk (dropsN S D) := by
 unfold dropsN
 induction D generalizing S with
 | nil => exact h
 | cons x r ih => exact ih (h.del x)
theorem dfits_any (F : Nat -> Prop) (p : Nat) (S : Fl) (Aa Ad : Option Addr) (na ca nd cd B : Nat) (L : Fl) (D : List Int) (w : World) (h : NoIs w F p S) (hk : NOk S) (ha : RdT w B Aa na L) (hd : RdI w B Ad nd D) (hB : B <= w.heap.size)
    (hwa : ∀ x ∈ L,(Lit.int .i64 x.1).wf = true /\ x.2.size <= maxLen) (hwd : ∀ x ∈ D,(Lit.int .i64 x).wf = true) (hna : na <= 1000) (hnd : nd <= 1000) :
    Calls Tryz.prog 78 #[.pointer (some ⟨p,0,none⟩),.slice Aa na ca,.slice Ad nd cd] w fun e w' => e = .returned (.bool (fitN (dropsN S D) L)) /\ Below w.heap.size w w' := by
 obtain ⟨m,h⟩ := h
 have c0 := h.cell
 have H := hid h
 have HOK := hid hk; have HA := hid ha; have HD := hid hd; have HB := hid hB; have HWA := hid hwa; have HWD := hid hwd
 have HLA := hid ha.1; have HLD := hid hd.1
 obtain ⟨R,hR⟩ : ∃ R,fitN (dropsN S D) L = R := ⟨_,rfl⟩
 rw [hR]
 have HRR := hid hR
 clear h hk ha hd hB hwa hwd hR
 go_enter Tryz.func78,Tryz.ntmps78
 go_wp2_with (go_at_call 125; refine (noteClone_any 3 elemD m _ _ _ H.out.own).mono ?_; rintro e w2 ⟨rfl,hm2,_,b2⟩)
 have ba := (Below.refl w2.heap.size w2).alloc (Nat.le_refl _) (.cells #[.map (some w.heap.size)] 85)
 have hx := heap_alloc_new w2 (.cells #[.map (some w.heap.size)] 85)
 have hm3 := map_kept hm2 (ba.block w.heap.size hm2.lt)
 obtain ⟨V,hV⟩ : ∃ V,V = w2.alloc (.cells #[.map (some w.heap.size)] 85) := ⟨_,rfl⟩
 rw [<- hV] at ba hx hm3
 have hN : NoIs V (fun k => w.heap.size <= k /\ k < V.heap.size) w2.heap.size (dropsN S []) := ⟨w.heap.size,hx,hm3,⟨b2.size,(Array.getElem?_eq_some_iff.1 hx).1⟩,⟨Nat.le_refl _,hm3.lt⟩⟩
 have HN := hid hN
 have HI := hid (show In (fun k => w.heap.size <= k /\ k < V.heap.size) V from fun k hk => hk.2)
 have HBV := hid (b2.trans (ba.mono b2.size))
 clear hm2 b2 ba hx hm3 hN c0
 try go_wp2_with fail
 rw [<- hV]
 clear hV
 try go_wp2_with fail
 go_loopw [21] (fun i wr => ∃ (t : Nat) (F' : Nat -> Prop),t <= nd /\ i = .int .i64 t /\ NoIs wr F' w2.heap.size (dropsN S (D.take t)) /\ In F' wr /\ (∀ k,F' k -> w.heap.size <= k) /\ Below w.heap.size w wr) (fun i _ => nd - (intOf i).toNat)
 case atStart => exact ⟨0,_,Nat.zero_le _,rfl,HN.out,HI.out,fun k hk => hk.1,HBV.out⟩
 case round =>
  obtain ⟨t,F',ht,rfl,hn,hin,hf,hb⟩ := hrel
  have H1 := hid hn; have HI1 := hid hin; have HF := hid hf; have HBW := hid hb
  clear hn hin hf hb
  by_cases hlt : t < nd
  ·have i1 : (t : Int) < nd := by omega
   have i0 : (0 : Int) <= t := by omega
   have htl : t < D.length := by rw [HLD.out]; exact hlt
   have hq := HD.out.below' (HBW.out.mono HB.out)
   obtain ⟨g0,o0,rfl,hg0,hcs⟩ := hq.2 (by omega)
   have z0 := hcs t htl
   have hwx := HWD.out D[t] (List.getElem_mem htl)
   have htk := dropsN_take S D htl
   obtain ⟨x,hx⟩ : ∃ x,D[t] = x := ⟨_,rfl⟩
   rw [hx] at z0 hwx htk
   have HWX := hid hwx; have HTK := hid htk
   clear hq hcs hwx htk hx hg0 htl
   go_wp2_with fail
   refine (ddrop_any F' w2.heap.size _ x wr H1.out HI1.out HWX.out).mono ?_
   rintro e w4 ⟨rfl,h4,st4⟩
   have HR : Hid (NoIs w4 F' w2.heap.size (dropsN S (D.take (t + 1)))) := hid (by rw [HTK.out]; exact h4)
   have HI4 := hid (st4.in_ HI1.out)
   have HF4 := hid (st4.above HF.out HBW.out.size)
   have HB4 := hid (HBW.out.trans (st4.below HF.out HBW.out.size))
   clear h4 st4 z0
   go_wp2
   go_roundw
   case rel => exact ⟨t + 1,F',by omega,by go_num,HR.out,HI4.out,HF4.out,HB4.out⟩
   case measure => simp [intOf]; omega
  ·obtain rfl : t = nd := by omega
   have j1 : decide ((t : Int) < (t : Int)) = false := decide_eq_false (by omega)
   have h2 := H1.out
   rw [List.take_of_length_le (by rw [HLD.out]; exact Nat.le_refl _)] at h2
   have H2 := hid h2
   have HK2 := hid (HOK.out.drops D)
   clear h2 H1
   go_wp2_with fail
   go_loopw [31] (fun i wr2 => ∃ (k : Nat) (F2 : Nat -> Prop) (S2 : Fl),k <= na /\ i = .int .i64 k /\ NoIs wr2 F2 w2.heap.size S2 /\ NOk S2 /\ In F2 wr2 /\ fitN S2 (L.drop k) = R /\ (∀ k,F2 k -> w.heap.size <= k) /\ Below w.heap.size w wr2) (fun i _ => na - (intOf i).toNat)
   case atStart => exact ⟨0,F',_,Nat.zero_le _,rfl,H2.out,HK2.out,HI1.out,by rw [List.drop_zero]; exact HRR.out,HF.out,HBW.out⟩
   case round =>
    obtain ⟨k,F2,S2,hk,rfl,hn2,hk2,hin2,hr2,hf2,hb2⟩ := hrel
    have H3 := hid hn2; have HK3 := hid hk2; have HI3 := hid hin2; have HR2 := hid hr2; have HF2 := hid hf2; have HB2 := hid hb2
    clear hn2 hk2 hin2 hr2 hf2 hb2
    by_cases hlt2 : k < na
    ·have i1 : (k : Int) < na := by omega
     have i0 : (0 : Int) <= k := by omega
     have hkl : k < L.length := by rw [HLA.out]; exact hlt2
     have hq := HA.out.below (HB2.out.mono HB.out)
     obtain ⟨g0,o0,rfl,hg0,hcs⟩ := hq.2 (by omega)
     have z0 := hcs _ _ (tRow_get0 L k hkl)
     have z1 := hcs _ _ (tRow_get1 L k hkl)
     have hwx := HWA.out L[k] (List.getElem_mem hkl)
     have hfk := HR2.out
     rw [List.drop_eq_getElem_cons hkl] at hfk
     obtain ⟨⟨xi,xs⟩,hx⟩ : ∃ x,L[k] = x := ⟨_,rfl⟩
     rw [hx] at z0 z1 hwx hfk
     rw [<- Nat.add_assoc] at z1
     dsimp only at z0 z1 hwx
     unfold fitN at hfk
     dsimp only at hfk
     obtain ⟨u,hu⟩ : ∃ u,(addN S2 xi xs).2 = u := ⟨_,rfl⟩
     rw [hu] at hfk
     have hbw := (Below.refl wr.heap.size wr).alloc (Nat.le_refl _) (.cells #[.int .i64 xi,.string xs] 57)
     have hnw : NoIs (wr.alloc (.cells #[.int .i64 xi,.string xs] 57)) F2 w2.heap.size S2 := by obtain ⟨m,h⟩ := H3.out; exact ⟨m,h.below hbw⟩
     have hiw : In F2 (wr.alloc (.cells #[.int .i64 xi,.string xs] 57)) := HI3.out.up hbw.size
     have HWX := hid hwx; have HFK := hid hfk; have HU := hid hu; have HNW := hid hnw; have HIW := hid hiw; have HBB := hid (HB2.out.trans (hbw.mono HB2.out.size))
     clear hq hcs hwx hfk hx hg0 hkl hu hnw hiw hbw
     go_wp2_with fail
     refine (dadd_any F2 w2.heap.size S2 xi xs _ HNW.out HIW.out HK3.out HWX.out.1 HWX.out.2).mono ?_
     rintro e w4 ⟨rfl,h4,st4⟩
     rw [HU.out]
     have H4 := hid h4
     have HI4 := hid (st4.in_ HIW.out)
     have HK4 := hid (HK3.out.add xi xs)
     have HF4 := hid (st4.above HF2.out HBB.out.size)
     have HB4 := hid (HBB.out.trans (st4.below HF2.out HBB.out.size))
     clear h4 st4 z0 z1
     cases u with
     | false =>
       have hrf : R = false := by rw [<- HFK.out]; rfl
       subst hrf
       go_wp2
       go_ret
       exact ⟨rfl,HB4.out⟩
     | true =>
       have HR5 : Hid (fitN (addN S2 xi xs).1 (L.drop (k + 1)) = R) := hid (by rw [<- HFK.out]; rfl)
       go_wp2
       go_roundw
       case rel => exact ⟨k + 1,F2,_,by omega,by go_num,H4.out,HK4.out,HI4.out,HR5.out,HF4.out,HB4.out⟩
       case measure => simp [intOf]; omega
    ·obtain rfl : k = na := by omega
     have j2 : decide ((k : Int) < (k : Int)) = false := decide_eq_false (by omega)
     have hrt := HR2.out
     rw [List.drop_of_length_le (by rw [HLA.out]; exact Nat.le_refl _)] at hrt
     have hrt2 : R = true := by rw [<- hrt]; rfl
     subst hrt2
     clear hrt
     go_wp2
     go_ret
     exact ⟨rfl,HB2.out⟩
theorem devN : DevN NoIs where
 kept := fun h hk ho hG => h.kept hk ho hG
 new := dnew_any
 add := fun F p S n b w h hF hk hn hb => (dadd_any F p S n b w h hF hk hn hb).mono fun e w' ⟨he,h1,h2⟩ => ⟨he,F,h1,h2⟩
 drop := fun F p S n w h hF hk hn => (ddrop_any F p S n w h hF hn).mono fun e w' ⟨he,h1,h2⟩ => ⟨he,F,h1,h2⟩
 get := fun F p S n w h hF hk hn => dget_any F p S n w h hn
 all := fun F p S w h hF hk => dall_any F p S w h hk
 fits := fun F p S Aa Ad na ca nd cd B L D w h hF hk ha hd hB hwa hwd hna hnd _ _ => dfits_any F p S Aa Ad na ca nd cd B L D w h hk ha hd hB hwa hwd hna hnd
end Go.Proofs.YtmpcnhpdobdmcaaGreatDoor
