import Derived.Test.YtmpcnhpdobdmcaaGreatDoorLawNotesP
import Derived.Deep.RegionHeld3
open Go.Lib (hid)
set_option linter.unusedVariables false
set_option linter.unusedSimpArgs false
set_option maxHeartbeats 2000000
namespace Go.Proofs.YtmpcnhpdobdmcaaGreatDoor
open Go Go.RowKit
theorem ok_inj {α : Type} {a b : α} {w w' : World} (h : (Result.ok a w : Result α) = .ok b w') : a = b /\ w = w' := by
 injection h with h1 h2
 exact ⟨h1,h2⟩
theorem run_appStr_at {w : World} (base : Nat) {v : Value} {n : Nat} {l : List UInt8} (hown : w.ownsRow base 5 1 v n (Lib.byteCells l)) (s : ByteArray)
    (hsz : n + s.size <= 140737488355328) (hbase : base <= w.heap.size) (ty : TypeId) :
    ∃ v' w',(Builtin.append_ #[29,9] ty #[v,.string s]).run Tryz.prog w = .ok v' w' /\ (w'.ownsRow base 5 1 v' (n + s.size) (Lib.byteCells (l ++ s.data.toList)) /\ (w.grownBy w' v.ownBlock /\ (v'.ownBlock = v.ownBlock \/ v'.ownBlock = some w.heap.size))) := by
 obtain ⟨i,hi,hz0,hz1,hz2⟩ := info_parts infoB
 obtain ⟨v',w',h1,h2,h3,h4⟩ := Lib.run_append_own_string (P := Tryz.prog) w base 29 9 ty 5 i Tryz.underlying29 Tryz.underlying9 hi hz0 hz1 hz2 v n (Lib.byteCells l) hown s (by unfold maxLen; omega) hsz hbase
 refine ⟨v',w',h1,by rw [Lib.byteCells_append]; exact h2,h3,?_⟩
 rcases hown.2 with ⟨rfl,rfl⟩ | ⟨g,cap,cur,rfl,hbg,hg,hnc,hcm,hcs,htake⟩
 ·by_cases h0 : s.size = 0
  ·rw [h4.2 ⟨rfl,h0⟩]
   exact Or.inl rfl
  ·have hr := run_append_nil_string (P := Tryz.prog) w 29 9 ty 5 i (.int .u8 0) Tryz.underlying29 Tryz.underlying9 hi hz0 s (by omega) (by omega) (by rw [hz2]; omega)
   rw [h1] at hr
   rw [(ok_inj hr).1]
   exact Or.inr rfl
 ·by_cases hroom : n + s.size <= cap
  ·have hr := Lib.run_append_room_string (P := Tryz.prog) w 29 9 ty 5 i Tryz.underlying29 Tryz.underlying9 hi hz1 g n cap cur hg s hroom (by omega)
   rw [h1] at hr
   rw [(ok_inj hr).1]
   exact Or.inl rfl
  ·have holds : ∀ j u,(Lib.byteCells l)[j]? = some u -> w.cell? ((⟨g,0,none⟩ : Addr).add j) = some u := hown.cells (g := g) rfl
   have hr := Lib.run_append_grow_string (P := Tryz.prog) w 29 9 ty 5 i (.int .u8 0) Tryz.underlying29 Tryz.underlying9 hi hz0 ⟨g,0,none⟩ n cap (Lib.byteCells l) (by rw [hz1]; exact hown.1) holds s (by omega) (by omega) (by rw [hz2]; exact growslice_fits (by omega) (by omega))
   rw [h1] at hr
   rw [(ok_inj hr).1]
   exact Or.inr rfl
theorem append_any (F : Nat -> Prop) (p : Nat) (S : Sh) (s : ByteArray) (w : World) (h : ShIs w F p S) (hs : s.size <= 1099511627776) :
    Calls Tryz.prog 20 #[.pointer (some ⟨p,0,none⟩),.string s] w fun e w' => e = .returned (.int .i64 (S.app s).2) /\ ∃ F',ShIs w' F' p (S.app s).1 /\ Step F w F' w' := by
 have hok := h.ok
 have hl := hok.log
 obtain ⟨v,m,h⟩ := h
 obtain ⟨c0,c1,c2,c3,fz⟩ := h.cells
 obtain ⟨A,c,rfl,hn,hc,hA,hr⟩ := Rd.of_own h.2.1
 have f0 := fz 0
 have H := hid h
 unfold Sh.app
 by_cases hbig : 262144 < S.log.length + s.size
 ·have d1 : decide ((262144 : Int) < (S.log.length : Int) + (s.size : Nat)) = true := by simp; omega
  rw [if_pos hbig]
  clear h hr hok hbig
  go_enter Tryz.func20,Tryz.ntmps20
  go_wp2
  go_ret
  exact ⟨rfl,F,⟨_,m,H.out⟩,Step.refl F _⟩
 ·have d1 : decide ((262144 : Int) < (S.log.length : Int) + (s.size : Nat)) = false := by simp; omega
  have hsz : S.log.length + s.size <= 140737488355328 := by omega
  have hoke : Sh.Ok { S with log := S.log ++ s.data.toList } := by
   have := hok.app s
   unfold Sh.app at this
   rw [if_neg hbig] at this
   exact this
  rw [if_neg hbig]
  have HO := hid hoke
  have HB := hid hbig
  clear h hr hok hbig hoke
  go_enter Tryz.func20,Tryz.ntmps20
  go_wp2_with (at_builtin; refine list_ex rfl (.tmp 18) (.tmp 19) _ _ rfl (.slice A S.log.length c) (.string s) rfl rfl (run_appStr_at 0 H.out.2.1 s hsz (Nat.zero_le _)) ?_)
  intro v' w1 ho hg hloc
  obtain ⟨A',c',rfl,_⟩ := own_slice ho
  obtain ⟨a1,a2,a3,a4,a5,a6,a7⟩ := H.out
  have np := H.out.ne_log
  have nm := H.out.log_ne_map
  have hp1 : w1.heap[p]? = w.heap[p]? := hg.block p (Array.getElem?_eq_some_iff.1 a1).1 (fun e => np e.symm)
  have hm1 : w1.heap[m]? = w.heap[m]? := hg.block m a3.lt (fun e => nm e.symm)
  have f1 : w1.frozen? ⟨p,0,none⟩ = false := thawed_at (hp1.trans a1)
  have g1 : w1.cell? ⟨p,0,none⟩ = some (.slice A S.log.length c) := cell_at (hp1.trans a1) rfl
  have e0 : (w1.setCell ⟨p,0,none⟩ (.slice A' (S.log.length + s.size) c')).heap.size = w1.heap.size := by simp [World.setCell]
  have hsize := hg.size
  have hlast := own_block_lt ho
  have hF : ∀ g,(Value.slice A' (S.log.length + s.size) c').ownBlock = some g -> Plus F w w1 g := by
   intro g hgg
   rcases hloc with hl | hl
   ·exact Or.inl (a6 g (by rw [<- hl]; exact hgg))
   ·rw [hl] at hgg
    injection hgg with hgg
    subst hgg
    exact Or.inr ⟨Nat.le_refl _,hlast _ hl⟩
  have hfin : ShAt (w1.setCell ⟨p,0,none⟩ (.slice A' (S.log.length + s.size) c')) (Plus F w w1) p (.slice A' (S.log.length + s.size) c') m { S with log := S.log ++ s.data.toList } :=
   ShAt.set_log (S := S) (hp1.trans a1) ho (by rw [List.length_append,<- Lib.size_eq]) (map_kept a3 hm1) (Or.inl a4) (Or.inl a5) hF HO.out
  have hkept : Kept F w (w1.setCell ⟨p,0,none⟩ (.slice A' (S.log.length + s.size) c')) := (Kept.of_grown hg a6).trans (Kept.setCell F w1 _ _ a4) fun k hk => Or.inl hk
  have HF := hid hfin
  have HK := hid hkept
  clear hfin hkept a1 a2 a3 a7 hF hlast hloc hg ho hp1 hm1
  go_wp2
  go_ret
  exact ⟨rfl,_,⟨_,m,HF.out⟩,HK.out,fun k hk => by rw [e0]; exact hk⟩
theorem scut_any (F : Nat -> Prop) (p : Nat) (S : Sh) (n : Int) (w : World) (h : ShIs w F p S) (hn : -9223372036854775808 <= n /\ n <= 9223372036854775807) :
    Calls Tryz.prog 24 #[.pointer (some ⟨p,0,none⟩),.int .i64 n] w fun e w' => e = .returned (.tuple #[]) /\ ShIs w' F p (S.cut n) /\ Kept F w w' := by
 have hok := h.ok
 have hl := hok.log
 obtain ⟨v,m,h⟩ := h
 obtain ⟨c0,c1,c2,c3,fz⟩ := h.cells
 obtain ⟨A,c,rfl,hnc,hc,hA,hr⟩ := Rd.of_own h.2.1
 have f0 := fz 0
 obtain ⟨k,hk⟩ : ∃ k,clip n S.log.length = k := ⟨_,rfl⟩
 have hkl : k <= S.log.length := by rw [<- hk]; exact clip_le _ _
 obtain ⟨hsl,hr2⟩ := sl_h hr hnc hA (k : Nat) k rfl hkl
 have hfin := h.set_cut hkl
 have HF := hid hfin
 have HK := hid hk
 have H := hid h
 have f1 : (w.setCell ⟨p,0,none⟩ (.slice A k c)).frozen? ⟨p,1,none⟩ = false := thawed_at (heap_setCell_same w p 0 _ _ _ h.1)
 have b0 : (w.setCell ⟨p,0,none⟩ (.slice A k c)).cell? ⟨p,0,none⟩ = some (.slice A k c) := cell_at (heap_setCell_same w p 0 _ _ _ h.1) rfl
 have b1 : (w.setCell ⟨p,0,none⟩ (.slice A k c)).cell? ⟨p,1,none⟩ = some (.int .i64 (S.syn : Nat)) := cell_at (heap_setCell_same w p 0 _ _ _ h.1) rfl
 unfold Sh.cut
 rw [hk]
 clear h hfin hk hr hok fz
 go_enter Tryz.func24,Tryz.ntmps24
 go_wp2_with fail
 go_region_law (go_simp; go_at_call 35; refine (swithin_any n (S.log.length : Nat) _ (by omega) (by omega) hn).mono ?_; rintro e w' ⟨rfl,rfl⟩; rw [Int.toNat_natCast,HK.out])
 all_goals go_wp2
 all_goals go_end0
 all_goals go_wp2
 all_goals go_end0
 all_goals exact ⟨rfl,⟨_,m,HF.out.drew⟩,((Kept.setCell F w _ _ H.out.2.2.2.1).trans (Kept.setCell F _ _ _ H.out.2.2.2.1) fun k hk => Or.inl hk).drew⟩
theorem turn_any (F : Nat -> Prop) (p : Nat) (S : Sh) (s : ByteArray) (w : World) (h : ShIs w F p S) (hs : s.size <= 1099511627776) :
    Calls Tryz.prog 153 #[.pointer (some ⟨p,0,none⟩),.string s] w fun e w' => e = .returned (.int .i64 (S.turn s).2) /\ ShIs w' F p (S.turn s).1 /\ Kept F w w' := by
 obtain ⟨v,m,h⟩ := h
 obtain ⟨c0,c1,c2,c3,fz⟩ := h.cells
 have f3 := fz 3
 have H := hid h
 unfold Sh.turn
 by_cases hbig : 262144 < s.size
 ·have d1 : decide ((262144 : Int) < (s.size : Nat)) = true := by simp; omega
  rw [if_pos hbig]
  clear h hbig
  go_enter Tryz.func153,Tryz.ntmps153
  go_wp2
  go_ret
  exact ⟨rfl,⟨_,m,H.out⟩,Kept.refl F _⟩
 ·have d1 : decide ((262144 : Int) < (s.size : Nat)) = false := by simp; omega
  rw [if_neg hbig]
  have hman := h.set_man s
  have hz : ShIs (w.setCell ⟨p,3,none⟩ (.string s)) F p { S with man := s } := ⟨v,m,hman⟩
  clear h hbig hman
  go_enter Tryz.func153,Tryz.ntmps153
  go_wp2_with (go_at_call 24; refine (scut_any F p _ 0 _ hz (by omega)).mono ?_; rintro e w' ⟨rfl,hs1,hk1⟩)
  go_ret
  have e1 : Sh.cut { S with man := s } 0 = ⟨[],0,S.fs,s⟩ := by simp [Sh.cut,clip]
  rw [e1] at hs1
  exact ⟨rfl,hs1,(Kept.setCell F w _ _ H.out.2.2.2.1).trans hk1 fun k hk => Or.inl hk⟩
theorem crash_any (F : Nat -> Prop) (p : Nat) (S : Sh) (n : Int) (w : World) (h : ShIs w F p S) (hn : -9223372036854775808 <= n /\ n <= 9223372036854775807) :
    Calls Tryz.prog 16 #[.pointer (some ⟨p,0,none⟩),.int .i64 n] w fun e w' => e = .returned (.tuple #[]) /\ ShIs w' F p (S.crash n) /\ Kept F w w' := by
 have hok := h.ok
 have hl := hok.log
 have hy := hok.syn
 have hz := h
 obtain ⟨v,m,h⟩ := h
 obtain ⟨c0,c1,c2,c3,fz⟩ := h.cells
 obtain ⟨k,hk⟩ : ∃ k,clip n (S.log.length - S.syn) = k := ⟨_,rfl⟩
 have hkl : k <= S.log.length - S.syn := by rw [<- hk]; exact clip_le _ _
 unfold Sh.crash
 rw [hk]
 have hwr : IntKind.i64.wrap ((S.syn : Int) + (k : Nat)) = ((S.syn + k : Nat) : Int) := by
  have e : ((S.syn + k : Nat) : Int) = (S.syn : Int) + (k : Nat) := by omega
  rw [e]
  rw [IntKind.wrap_i64]
  omega
 have HK := hid hk
 have HZ := hid hz
 clear h hk hz hok fz
 go_enter Tryz.func16,Tryz.ntmps16
 go_wp2_with fail
 go_region_law (go_simp; first
  | (go_at_call 36; refine (unsynced_any F p S _ (by first | exact HZ.out | exact HZ.out.drew)).mono ?_; rintro e w1 ⟨rfl,hk1,hh1⟩; have c1' := (World.cell?_of_block (w := w) (w' := w1) (a := ⟨p,1,none⟩) (by rw [hh1]; rfl)).trans c1)
  | (go_at_call 35; refine (swithin_any n ((S.log.length - S.syn : Nat) : Int) _ (by omega) (by omega) hn).mono ?_; rintro e w' ⟨rfl,rfl⟩; rw [Int.toNat_natCast,HK.out])
  | (go_at_call 24; refine (scut_any F p S ((S.syn + k : Nat) : Int) _ (HZ.out.heap hh1) (by omega)).mono ?_; rintro e w2 ⟨rfl,hs2,hk2⟩))
 all_goals go_wp2
 all_goals go_end0
 all_goals exact ⟨rfl,hs2,(((hk1.mono fun _ h => h.elim).undrew).trans (by first | exact hk2 | exact hk2.undrew) fun k hk => Or.inl hk)⟩
theorem keyIF : Maps.Keyed Tryz.prog 3 := Maps.int_keyed Tryz.underlying3
theorem zeroFile (w : World) : (zeroValue 145).run Tryz.prog w = .ok (.agg #[.string ⟨#[]⟩]) w := by kernel_rfl
theorem lookF (w : World) {ops : Array Oper} {rest : List Oper} {o : Oper} {a : Act} {Q : Exit -> Act -> World -> Prop} (hg : o.guard = none) (m x : Operand) (hop : o.op = Op.lookup 78 m x true)
    (b n : Nat) (fs : Fl) (hm : a.eval m = .map (some b)) (hown : w.ownsMap Tryz.prog 3 elemF b n (mapF fs)) (k : Int) (hx : a.eval x = .int .i64 k) (hk : (Lit.int .i64 k).wf = true) (s : ByteArray) (hs : getF fs k = s) (c : Bool) (hc : hasF fs k = c)
    (hK : wpList Tryz.prog ops Q rest (a.put o.dst (.tuple #[.agg #[.string s],.bool c])) w) : wpList Tryz.prog ops Q (o :: rest) a w :=
 wpList_lookup_own_ok w hg m x _ hop 3 145 keyIF Tryz.underlying78 elemF (zeroFile w) (encF ⟨#[]⟩) [] (elemF_mk _) b n (mapF fs) hm hown _ (.int .i64 k) hx (Maps.keyOf_int_mk Tryz.underlying3 hk) fun v ps hv => by
  rw [atKey_mapF] at hv
  obtain ⟨s',rfl,he⟩ := elemF_inv hv
  injection he with he _
  obtain rfl := encF_inj he
  subst hs
  subst hc
  rw [has_mapF]
  exact hK
theorem drop_any (F : Nat -> Prop) (p : Nat) (S : Sh) (n : Int) (w : World) (h : ShIs w F p S) (hn : (Lit.int .i64 n).wf = true) :
    Calls Tryz.prog 50 #[.pointer (some ⟨p,0,none⟩),.int .i64 n] w fun e w' => e = .returned (.bool (hasF S.fs n)) /\ ShIs w' F p (S.drop n) /\ Kept F w w' := by
 obtain ⟨v,m,h⟩ := h
 have hb0 := (Below.refl w.heap.size w).alloc (Nat.le_refl _) (.cells #[.string (getF S.fs n)] 145)
 have h1 := h.below hb0
 obtain ⟨c0,c1,c2,c3,fz⟩ := h.cells
 obtain ⟨d0,d1,d2,d3,gz⟩ := h1.cells
 obtain ⟨b,hb⟩ : ∃ b,hasF S.fs n = b := ⟨_,rfl⟩
 obtain ⟨s,hs⟩ : ∃ s,getF S.fs n = s := ⟨_,rfl⟩
 rw [hs] at h1 d0 d1 d2 d3 hb0
 have H := hid h
 have H1 := hid h1
 have HN := hid hn
 have HS := hid hs
 have HB := hid hb
 rw [hb]
 clear h h1 fz gz hn hs hb
 go_enter Tryz.func50,Tryz.ntmps50
 go_wp2_with (first
  | (at_lookup; refine lookF _ rfl _ _ rfl m _ S.fs rfl H.out.2.2.1 n rfl HN.out s HS.out b HB.out ?_)
  | (at_delete; refine wpList_delete_own _ rfl _ _ 78 3 rfl 145 keyIF Tryz.underlying78 _ m _ _ rfl H1.out.2.2.1 _ (.int .i64 n) rfl (Maps.keyOf_int_mk Tryz.underlying3 HN.out) ?_; intro w1 hown1 hturn1))
 go_ret
 rw [del_mapF] at hown1
 have hok := H.out.ok.drop n
 exact ⟨rfl,⟨_,m,H1.out.set_map (fs := delF S.fs n) hturn1.grown hown1 hok⟩,(Kept.of_below hb0 F).trans (Kept.of_grown hturn1.grown fun k hk => (by injection hk with hk; subst hk; exact H.out.2.2.2.2.1)) fun k hk => Or.inl hk⟩
def iRow (l : List Int) : List Value := l.map (Value.int .i64)
theorem infoInt : (Tryz.prog.info? 3).map (fun i => (i.zero,i.size,i.bytes)) = some (some (.int .i64 0),1,8) := by kernel_rfl
theorem run_appI {w : World} (base : Nat) {v : Value} {n : Nat} {l : List Int} (hown : w.ownsRow base 3 1 v n (iRow l)) (s : Int) {ad : Addr} (hc : w.cell? ad = some (.int .i64 s))
    (hsz : n <= 1000000000000) (hbase : base <= w.heap.size) (ty : TypeId) :
    ∃ v' w',(Builtin.append_ #[38,38] ty #[v,.slice (some ad) 1 1]).run Tryz.prog w = .ok v' w' /\ (w'.ownsRow base 3 1 v' (n + 1) (iRow (l ++ [s])) /\ w.grownBy w' v.ownBlock) := by
 obtain ⟨i,hi,hz0,hz1,hz2⟩ := info_parts infoInt
 obtain ⟨v',w',h1,h2,h3,_⟩ := run_append_own (P := Tryz.prog) w base 38 ty 3 i (.int .i64 0) 1 8 Tryz.underlying38 hi hz0 hz1 hz2 rfl (by decide) v n (iRow l) hown ad 1 1 [.int .i64 s] rfl
  (fun j u hj => by
    rcases j with _ | j
    ·have e : ad.add 0 = ad := by unfold Addr.add; rw [if_pos rfl]
     rw [e,hc]
     exact hj
    ·simp at hj)
  (fun u hu => by simp at hu; subst hu; rfl) (by unfold maxLen; omega) (by omega) hbase
 exact ⟨v',w',h1,by unfold iRow; rw [List.map_append]; exact h2,h3⟩
theorem nums_any (F : Nat -> Prop) (p : Nat) (S : Sh) (w : World) (h : ShIs w F p S) :
    Calls Tryz.prog 27 #[.pointer (some ⟨p,0,none⟩)] w fun e w' => ∃ v,e = .returned v /\ w'.ownsRow w.heap.size 3 1 v S.fs.length (iRow (numsF S.fs)) /\ Below w.heap.size w w' := by
 have hok := h.ok
 have hlen := hok.len
 have hup := hok.up
 have hwf := hok.wf
 obtain ⟨v,m,h⟩ := h
 obtain ⟨c0,c1,c2,c3,fz⟩ := h.cells
 have H := hid h
 have HW := hid hwf
 have hml := h.2.2.1.lt
 clear h fz hok hwf
 go_enter Tryz.func27,Tryz.ntmps27
 go_wp2_with (at_range; refine wpList_range_own _ rfl _ 78 rfl 3 145 keyIF Tryz.underlying78 elemF m _ _ rfl H.out.2.2.1 ?_; intro w0 hrg0 hg0 hs0)
 go_frame
 go_loopw [3] (fun v wr => ∃ (left : Lit -> Bool) (cnt : Nat) (ss : List Int),wr.ranges Tryz.prog 3 elemF m w.heap.size S.fs.length (mapF S.fs) left cnt /\ ss.length + cnt <= S.fs.length /\
     wr.ownsRow w.heap.size 3 1 v ss.length (iRow ss) /\ MetF S.fs left ss /\ Below w.heap.size w wr)
  (fun _ wr => wr.rangeLeft m w.heap.size)
 case atStart =>
  exact ⟨_,_,[],hrg0,by rw [size_mapF]; simp,World.ownsRow_nil _ _ _ _,MetF.start _,(Below.refl _ _).grown hg0 (Nat.le_refl _) (fun j hj => by cases hj)⟩
 case round =>
  obtain ⟨left,cnt,ss,hrg,hcs,hrow,hC,hnx⟩ := hrel
  have hss : ss.length <= 40 := by omega
  go_wp2_with (at_next; refine wpList_next_ranges _ rfl _ rfl 3 keyIF elemF (Value.int .i64) (fun s => .agg #[.string s]) (fun key kl hk => by obtain ⟨x,rfl,_⟩ := Maps.keyOf_int_inv Tryz.underlying3 hk; exact ⟨x,rfl⟩) (fun v y hv => by obtain ⟨s,rfl,_⟩ := elemF_inv hv; exact ⟨s,rfl⟩) m w.heap.size _ _ _ _ rfl hrg ?_ ?_)
  ·intro hc0 hl0
   have hso := hC.sorted hup hl0
   have hlen2 : ss.length = S.fs.length := by
    have h1 := congrArg List.length hso
    rw [List.length_mergeSort] at h1
    unfold numsF at h1
    rw [List.length_map] at h1
    exact h1
   have HSO := hid hso
   have HL := hid hlen2
   clear hso hlen2 hlen hcs
   rcases hrow.2 with ⟨rfl,hl00⟩ | ⟨g,cap,cur,rfl,hbase,hb,h1,h2,h3,h4⟩
   ·obtain rfl : ss = [] := List.eq_nil_of_length_eq_zero hl00
    go_wp2_with (go_at_call 51; refine (sort_none none 0 _).mono ?_; rintro e w' ⟨rfl,rfl⟩)
    go_ret
    rw [<- HSO.out,<- HL.out]
    rw [List.mergeSort_nil]
    exact ⟨_,rfl,hrow,hnx⟩
   ·have hH : Sort.Holds (Value.int .i64) wr g 0 ss.toArray := holds_of_blockI hb (by simpa [iRow] using h4)
    have hgl : g < wr.heap.size := (Array.getElem?_eq_some_iff.1 hb).1
    have hc := sort_any g 0 cap ss wr hH hgl (by omega)
    go_wp2_with (go_at_call 51; refine hc.mono ?_; rintro e w' ⟨rfl,nn,os,rfl⟩)
    go_ret
    rw [<- HSO.out,<- HL.out]
    exact ⟨_,rfl,ownsRow_sortedI (by simp) hbase hb h1 h2 h3,hnx.grown (grownBy_sortedI _) hnx.size (fun j hj => by cases hj; exact hbase)⟩
  ·intro x c kl yd yp w2 cnt2 hkey hlk hv hat hrg2 hlt hg2 hs2 hen
   obtain ⟨x',ex,rfl,_⟩ := Maps.keyOf_int_inv Tryz.underlying3 hkey
   injection ex with _ ex
   subst ex
   have hhas : hasF S.fs x = true := by rw [<- has_mapF]; exact Maps.has_true_of_atKey hat
   have hrow2 := hrow.kept hg2 (Or.inr (row_ne_iter hrow hrg).symm)
   have hcell : (w2.alloc (.cells #[.int .i64 x] 3)).cell? ⟨w2.heap.size,0,none⟩ = some (.int .i64 x) := cell_of_one (heap_alloc_new w2 _)
   have HC := hid hcell
   have HH := hid hhas
   have HAT := hid hat
   clear hs2 hcell hhas hat
   go_wp2_with (at_builtin; refine list_ex rfl (.tmp 14) (.tmp 16) _ _ rfl _ _ rfl rfl (run_appI w.heap.size (hrow2.alloc _) x HC.out ?s1 ?s2) ?_)
   case s1 => omega
   case s2 => have := hnx.size; have := hg2.size; simp; omega
   intro v' w3 hown' hg3
   have hrg3 := (hrg2.alloc _).kept hg3 (row_ne_low hrow2 hml) (row_ne_iter hrow2 hrg2)
   go_wp2
   go_roundw
   case rel =>
    refine ⟨_,cnt2,ss ++ [x],hrg3,by simp; omega,by simpa using hown',hC.step HH.out hlk,?_⟩
    exact ((hnx.grown hg2 hnx.size (fun j hj => by cases hj; exact Nat.le_refl _)).alloc (by have := hnx.size; have := hg2.size; omega) _).grown hg3 (by have := hnx.size; have := hg2.size; simp; omega) (fun j hj => (hrow2.lt j hj).1)
   case measure => rw [hrg3.left_eq,hrg.left_eq]; exact hlt
end Go.Proofs.YtmpcnhpdobdmcaaGreatDoor
