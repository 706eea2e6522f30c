/-
  StoreNotes: for every input the law returns true,and each argument reads as it read. No condition.
-/
import Derived.Test.YtmpcnhpdobdmcaaGreatDoorLawNotesBQ
import Derived.StillTailTactics
import Derived.Test.YtmpcnhpdobdmcaaGreatDoorTie
import Derived.Test.YtmpcnhpdobdmcaaGreatDoorCards
import Derived.SevenTiedAt
import Derived.Test.YtmpcnhpdobdmcaaGreatDoorLawNotesM
set_option linter.unusedVariables false
set_option linter.unusedSimpArgs false
set_option maxHeartbeats 4000000
set_option maxRecDepth 100000
namespace Go.Proofs.YtmpcnhpdobdmcaaGreatDoor
open Go Go.RowKit
theorem flush_zero (a0 a1 a2 a3 : Addr) (F : Nat -> Prop) (s d : Nat) (S : Sh) (nt : Fl) (x : SP) (w : World) (h : StM w F s d S nt x) (hE : ErIn F w a0 a1 a2 a3) (hTs : x.Ts = []) (hA : x.A = none \/ ∃ g o,x.A = some ⟨g,o,none⟩) (hfl : x.fl = []) (hla : x.last = 0) (hk : NOk nt)
    (hok : (manB [] 0 nt).ok = true) (hlen : (bE (manB [] 0 nt)).length <= 262140) :
    Calls Tryz.prog 33 #[.pointer (some ⟨s,0,none⟩)] w fun e w' => e = .returned .nilIface /\ ∃ F' x',StM w' F' s d ⟨[],0,S.fs,manT [] 0 nt⟩ nt x' /\ x'.Ta = x.Ta /\ x'.Ts = [] /\ (x'.A = none \/ ∃ g o,x'.A = some ⟨g,o,none⟩) /\ x'.fl = [] /\ x'.last = 0 /\ ErIn F' w' a0 a1 a2 a3 /\ Step F w F' w' := by
 have c4 : w.cell? ⟨s,4,none⟩ = some (.slice x.A 0 x.c) := by
  have := cell_at (i := 4) h.blk rfl
  rw [hfl] at this
  exact this
 have c2 : w.cell? ⟨s,2,none⟩ = some (.map (some x.ms)) := cell_at (i := 2) h.blk rfl
 have hT : TbAt w x.ms [] := by rw [<- hTs]; exact h.since
 have hln := fun nq => ((hT.below (below_drewN (Below.refl _ w) nq)).own.len Tryz.underlying66 3)
 simp only [size_mapK] at hln
 obtain ⟨ms,hms⟩ : ∃ ms,x.ms = ms := ⟨_,rfl⟩
 obtain ⟨AS,hAS⟩ : ∃ A,x.A = A := ⟨_,rfl⟩
 obtain ⟨cS,hcS⟩ : ∃ c,x.c = c := ⟨_,rfl⟩
 rw [hms] at c2 hT hln
 rw [hAS,hcS] at c4
 rw [hAS] at hA
 have WR := Lib.hid fun (V : World) (bV : Below w.heap.size w V) => write_zero a0 a1 a2 a3 F s d S nt x ms AS cS V (h.below hE.in_ bV) (hE.below bV) (hT.below bV) hfl hla hk hok hlen hA
 have SLT : Hid (s < w.heap.size) := Lib.hid (hE.in_ s h.fs)
 clear h hE hTs hA hfl hla hk hok hlen hT hms hAS hcS
 go_enter Tryz.func33,Tryz.ntmps33
 go_wp2_with fail
 go_quiet (fail)
 go_wp2_with fail
 refine wp_region_still_tail 9 (by kernel_rfl) (by kernel_rfl) ?_
 simp only [List.take_succ_cons,List.take_zero,List.drop_succ_cons,List.drop_zero]
 have bV : Below w.heap.size w ({ heap := (w.drewN nq).heap,tape := (w.drewN nq).tape,drawn := (w.drewN nq).drawn + 1,os := (w.drewN nq).os,output := (w.drewN nq).output } : World) := (below_drewN (Below.refl w.heap.size w) nq).drew
 obtain ⟨V,hV⟩ : ∃ V,({ heap := (w.drewN nq).heap,tape := (w.drewN nq).tape,drawn := (w.drewN nq).drawn + 1,os := (w.drewN nq).os,output := (w.drewN nq).output } : World) = V := ⟨_,rfl⟩
 rw [hV] at bV ⊢
 have g2 : V.cell? ⟨s,2,none⟩ = some (.map (some ms)) := (bV.cell (p := ⟨s,2,none⟩) SLT.out).trans c2
 have g4 : V.cell? ⟨s,4,none⟩ = some (.slice AS 0 cS) := (bV.cell (p := ⟨s,4,none⟩) SLT.out).trans c4
 have WRV := Lib.hid (WR.out V bV)
 have ST := Lib.hid (Step.same (Kept.of_below bV F))
 clear bV hV hln c2 c4
 repeat still_step
 refine wpStill_nil ?_
 go_wp2_with fail
 refine WRV.out.mono ?_
 rintro e w1 ⟨rfl,F',x',h1,h2,h3,h4,h5,h6,h7,h8⟩
 have R := Lib.hid (show ∃ F' x',StM w1 F' s d ⟨[],0,S.fs,manT [] 0 nt⟩ nt x' /\ x'.Ta = x.Ta /\ x'.Ts = [] /\ (x'.A = none \/ ∃ g o,x'.A = some ⟨g,o,none⟩) /\ x'.fl = [] /\ x'.last = 0 /\ ErIn F' w1 a0 a1 a2 a3 /\ Step F w F' w1 from ⟨F',x',h1,h2,h3,h4,h5,h6,h7,ST.out.trans h8⟩)
 clear h1 h2 h3 h4 h5 h6 h7 h8
 go_wp2
 go_ret
 exact ⟨rfl,R.out⟩
theorem Flush_zero (a0 a1 a2 a3 : Addr) (F : Nat -> Prop) (s d : Nat) (S : Sh) (nt : Fl) (x : SP) (w : World) (h : StM w F s d S nt x) (hE : ErIn F w a0 a1 a2 a3) (hTs : x.Ts = []) (hA : x.A = none \/ ∃ g o,x.A = some ⟨g,o,none⟩) (hfl : x.fl = []) (hla : x.last = 0) (hk : NOk nt)
    (hok : (manB [] 0 nt).ok = true) (hlen : (bE (manB [] 0 nt)).length <= 262140) :
    Calls Tryz.prog 14 #[.pointer (some ⟨s,0,none⟩)] w fun e w' => e = .returned (.int .i64 0) /\ ∃ F' x',StM w' F' s d ⟨[],0,S.fs,manT [] 0 nt⟩ nt x' /\ x'.Ta = x.Ta /\ x'.Ts = [] /\ (x'.A = none \/ ∃ g o,x'.A = some ⟨g,o,none⟩) /\ x'.fl = [] /\ x'.last = 0 /\ ErIn F' w' a0 a1 a2 a3 /\ Step F w F' w' := by
 have FL := Lib.hid (flush_zero a0 a1 a2 a3 F s d S nt x w h hE hTs hA hfl hla hk hok hlen)
 clear h hE hTs hA hfl hla hk hok hlen
 go_enter Tryz.func14,Tryz.ntmps14
 go_wp2_with fail
 refine FL.out.mono ?_
 rintro e w1 ⟨rfl,F',x',h1,h2,h3,h4,h5,h6,h7,h8⟩
 have EH := Lib.hid h7.ers
 have R := Lib.hid (show ∃ F' x',StM w1 F' s d ⟨[],0,S.fs,manT [] 0 nt⟩ nt x' /\ x'.Ta = x.Ta /\ x'.Ts = [] /\ (x'.A = none \/ ∃ g o,x'.A = some ⟨g,o,none⟩) /\ x'.fl = [] /\ x'.last = 0 /\ ErIn F' w1 a0 a1 a2 a3 /\ Step F w F' w1 from ⟨F',x',h1,h2,h3,h4,h5,h6,h7,h8⟩)
 clear h1 h2 h3 h4 h5 h6 h7 h8
 go_wp2_with fail
 refine (number_nil a0 a1 a2 a3 w1 EH.out).mono ?_
 rintro e w2 ⟨rfl,rfl⟩
 go_wp2
 go_ret
 exact ⟨rfl,R.out⟩
theorem muts_nil {T : List Tb} (hT : TbOk T) {l : List Mt} (h : l.foldl mutT T = []) : l = [] := by
 cases l with
 | nil => rfl
 | cons m l =>
   exfalso
   have e : TbOk (mutT T m) := hT.mut m
   have h2 := look_mutT hT m m.1 m.2.key
   rw [if_pos ⟨rfl,rfl⟩] at h2
   have h3 : ∃ p,look (mutT T m) m.1 m.2.key = some p := by
    rw [h2]
    cases look T m.1 m.2.key with
    | none => exact ⟨_,rfl⟩
    | some q => exact ⟨_,rfl⟩
   obtain ⟨p,hp⟩ := h3
   obtain ⟨q,hq,_⟩ := look_mono e hp l
   have h4 : (m :: l).foldl mutT T = l.foldl mutT (mutT T m) := rfl
   rw [<- h4,h] at hq
   cases hq
def R0 (man : ByteArray) (b : St) : Prop := (man = ⟨#[]⟩ /\ b = St.new) \/ (b.tb = [] /\ man = manT [] 0 b.nt /\ (manB [] 0 b.nt).ok = true /\ (bE (manB [] 0 b.nt)).length <= 262140)
theorem load0 : LoadR R0 := fun a0 a1 a2 a3 F s d S b x w h hE hs hq hA hfl hla => by
 rcases hq with hq | ⟨ht,hm,hok,hlen⟩
 ·exact load1 a0 a1 a2 a3 F s d S b x w h hE hs hq hA hfl hla
 ·exact load_zero a0 a1 a2 a3 F s d S b.nt x w h hE hs.ok.nok hok hlen hm
theorem p_flush (F : Nat -> Prop) (s d : Nat) (S : Sh) (b : St) (l : List Bt) (w : World) (h : PS (QR R0) w F s d S b l) (hE : InE F w) (hsm : Small (b.apps l)) (htb : (b.apps l).tb = []) :
    Calls Tryz.prog 14 #[.pointer (some ⟨s,0,none⟩)] w fun e w' => e = .returned (.int .i64 0) /\ ∃ F' S',PS (QR R0) w' F' s d S' (b.apps l) [] /\ Step F w F' w' := by
 obtain ⟨x,hM,hP⟩ := h
 obtain ⟨a0,a1,a2,a3,hE⟩ := hE
 have hm : mutsOf l = [] := muts_nil hP.safe.ok.tb (by rw [<- apps_tb]; exact htb)
 have hTs : x.Ts = [] := by
  have := hP.ts
  rw [hm] at this
  unfold tbs at this
  exact List.map_eq_nil_iff.1 this
 obtain ⟨q1,q2,q3,q4,q5⟩ := hP.q
 obtain ⟨m1,m2⟩ := manB_small (nt := (b.apps l).nt) (fl := []) (last := 0) hsm.nok hsm.notes (fun v hv => by cases hv) (by decide)
 refine (Flush_zero a0 a1 a2 a3 F s d S (b.apps l).nt x w hM hE hTs q1 q2 q3 hP.stok.nok m1 m2).mono ?_
 rintro e w' ⟨rfl,F',x',h1,h2,h3,h4,h5,h6,h7,h8⟩
 refine ⟨rfl,F',_,⟨x',h1,⟨?_,?_,⟨hP.stok,fun t k p hp => ?_⟩,trivial,fun b hb => (by cases hb),rfl,Nat.zero_le _,h4,h5,h6,q4,Or.inr ⟨htb,rfl,m1,m2⟩⟩⟩,h8⟩
 ·rw [h2]; exact hP.ta
 ·rw [h3]; rfl
 ·rw [htb] at hp; cases hp
theorem dev0F : DevSF (PS (QR R0)) (ES (QR R0)) where
 toDevSN := devSN (Or.inl ⟨rfl,rfl⟩) (fun _ _ h => h.elim (fun h => by rw [h.2]; rfl) fun h => h.1) load0
 flush := p_flush
 note := p_note
theorem snotes0 (A : Option Addr) (n c : Nat) (L : List Int) (w : World) (h : RdZ w w.heap.size A n L) (hc : n <= c) (hm : c <= maxLen) (hx : ∀ x ∈ L,(Lit.int .i64 x).wf = true) (hEB : EB w) :
    Calls Tryz.prog 4 #[.slice A n c] w fun e w' => e = .returned (.bool true) /\ Below w.heap.size w w' := snotes_law dev0F A n c L w h hc hm hx hEB
end Go.Proofs.YtmpcnhpdobdmcaaGreatDoor
namespace Go.Proofs.YtmpcnhpdobdmcaaGreatDoor.lawStoreNotes
open Go Go.ChangeShapes Go.WideShapes Go.ChangeAt Go.RowKit
open Go.ChangeMaps (open_string shut_string)
theorem own : ownKnob Tryz.prog.godebug = none := by kernel_rfl
theorem laidOut : laidOutB Tryz.prog = true := by kernel_rfl
theorem lifted (os : Os) (started : os.Started) (H : Type) (enc : TypeId × Value -> H) :
    ReturnsInHanded {} Tryz.checked os 4 .any (fun w args => (Rows.storeNotesSpec.pre enc Tryz.prog Tryz.f4 [] false w args /\ laidMetH Tryz.prog laid12 w) /\ sizedMet enc Tryz.prog Tryz.f4 (OpenSpec.ofChange Rows.storeNotesSpec) false w args) (Rows.storeNotesSpec.post enc Tryz.prog Tryz.f4 false true false false) := by
 refine returnsInHanded_of_change_and (C := Tryz.checked) (X := fun w _ => laidMetH Tryz.prog laid12 w) (fun _ _ _ hh h => h.of_heap hh) own started (by kernel_rfl) Tryz.func4
  (ChangeSpec.witness_shaped (enc := enc) (C := Tryz.checked) (os := os) (X := fun w _ => laidMetH Tryz.prog laid12 w) false (World.doorLaid Tryz.prog 400 os) #[.slice none 0 0] 8 rfl (World.shaped_of_RefB (by kernel_rfl) (by kernel_rfl)) (by kernel_rfl) (by kernel_rfl) (by kernel_rfl) (door_met12 os _)) ?_
 intro W base args ds gs before hval0 hW _ _ hL _
 have hval : ∀ (j : Nat) t v,Tryz.f4.params[j]? = some t -> args[j]? = some v -> Value.okWide Tryz.prog W .any base t v := hval0
 have hW' := hW
 obtain ⟨p,q,hA0,hV,rfl,hfz,hnd⟩ := hW
 have hA : DataW.TrodAll enc Tryz.prog W 0 (fun _ => true) true Tryz.f4.params.toList args.toList ds p := hA0
 rw [Tryz.params4] at hA hval
 obtain ⟨v0,vs0,d0,ds0,p0,q0,hargs,rfl,rfl,h0,r0⟩ := trodAll_cons hA
 obtain ⟨rfl,rfl,rfl⟩ := trodAll_nil r0
 obtain rfl : args = #[v0] := by cases args; simp_all
 obtain ⟨rfl,rfl⟩ := trodVars_none hV
 have t0 := h0
 obtain ⟨A0,n0,c0,l0,rfl,wr0,wn0,wc0,ws0⟩ := open_rdz (hval 0 38 v0 rfl rfl) h0
 clear hA0 hval0
 simp only [List.append_nil] at hW'
 refine (snotes0 A0 n0 c0 l0 W wr0 wn0 wc0 ws0 (four_of_laid hL)).mono fun e W' ⟨he,bel⟩ => ?_
 subst he
 exact ⟨_,rfl,_,_,_,[],_,[],hW',trodAll_mk1 (shut_bool Tryz.underlying4 _),(trodAll_cons_mk (Below.trod laidOut (by kernel_rfl) (of_decide_eq_true (by kernel_rfl)) t0 bel (trod_lt1 t0)) trodAll_mk0),rfl,bel.frame _,fun h => by cases h⟩
theorem cl1 : (Rows.storeNotesRow.inPlace == Tryz.prog.inPlace 4) = true := by kernel_rfl
theorem cl2 : (Rows.storeNotesRow.unfollowed == Tryz.prog.unfollowed 4) = true := by kernel_rfl
theorem cl3 : (Rows.storeNotesRow.recurses == Tryz.prog.recurses 4) = true := by kernel_rfl
theorem cl4 : (Rows.storeNotesRow.named == Tryz.prog.varsNamed 4) = true := by kernel_rfl
theorem closed : joinedFacts Tryz.prog 4 Tryz.f4 Rows.storeNotesSpec Rows.storeNotesRow = true := by
 unfold joinedFacts
 simp only [cl1,cl2,cl3,cl4,Bool.and_true]
 kernel_rfl
theorem over : Rows.storeNotesRow.holds Tryz.pinned (OpenSpec.ofChange Rows.storeNotesSpec) :=
 OpenClaim.holds_of_wide 4 Tryz.f4 rfl rfl rfl rfl rfl rfl rfl ⟨rfl,rfl,rfl,rfl,rfl⟩ rfl rfl rfl rfl rfl (by kernel_rfl) Tryz.func4 closed
  (of_decide_eq_true (by kernel_rfl)) (by unfold Func.isWrapper; first | (rw [if_pos (by decide +kernel)]; kernel_rfl) | (rw [if_neg (by decide +kernel)]; exact ⟨rfl,rfl⟩))
  (fun os started H enc _ => lifted os started H enc)
theorem card_holds : Claim7.holds Tryz.pinned (.plain (OpenSpec.ofChange Rows.storeNotesSpec)) Rows.storeNotesCard :=
 Claim7.holds_tied_plain_at .later [] [.sentinel, .sentinel, .sentinel, .sentinel] true (true, "bdec852fc436cfa413b8b3a2e9ed6dc54196238c2cfdf4131d2d5fc9d9875c2a") true
  over (fun _ h => by cases h) (by kernel_rfl) (fun _ h => by cases h) storeNotes_row_tie rfl ⟨rfl,rfl⟩ (by kernel_rfl) rfl
  (fun f fn hf hfn => by
    obtain rfl : f = 4 := Option.some.inj ((show Tryz.prog.funcNamed "clerestory/clerestorylaw12.StoreNotes" = some 4 by kernel_rfl).symm.trans hf) |>.symm
    obtain rfl : fn = Tryz.f4 := (Option.some.inj (Tryz.func4.symm.trans hfn)).symm
    exact ⟨by kernel_rfl,fun j t ht => by
     rw [Tryz.params4] at ht
     have hm : t ∈ [38] := by simpa using Array.mem_of_getElem? ht
     have hall : ([38].all fun u => !Tryz.prog.wantsStandIn u) = true := by kernel_rfl
     exact (show Tryz.prog.wantsStandIn t = false by simpa using List.all_eq_true.1 hall t hm)⟩)
  (by kernel_rfl)
theorem proved : Rows.StoreNotesCardSaid := card_holds
end Go.Proofs.YtmpcnhpdobdmcaaGreatDoor.lawStoreNotes
