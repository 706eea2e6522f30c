/-
  StoreRooms: for every input the law returns true,and each argument reads as it read. No condition.
-/
import Derived.Test.YtmpcnhpdobdmcaaGreatDoorLawRoomsBM
import Derived.Test.YtmpcnhpdobdmcaaGreatDoorLawRoomsBJ
import Derived.Test.YtmpcnhpdobdmcaaGreatDoorLawRoomsBL
import Derived.Test.YtmpcnhpdobdmcaaGreatDoorLawRoomsV
import Derived.Test.YtmpcnhpdobdmcaaGreatDoorLawRoomsBH
import Derived.Test.YtmpcnhpdobdmcaaGreatDoorLawRoomsBK
import Derived.Test.YtmpcnhpdobdmcaaGreatDoorLawRoomsBD
import Derived.WalkSmall
import Derived.Test.YtmpcnhpdobdmcaaGreatDoorTie
import Derived.Test.YtmpcnhpdobdmcaaGreatDoorCards
import Derived.SevenTiedAt
open Go.Lib (hid)
set_option linter.unusedVariables false
set_option linter.unusedSimpArgs false
set_option maxHeartbeats 4000000
set_option maxRecDepth 100000
namespace Go.Proofs.YtmpcnhpdobdmcaaGreatDoor
open Go Go.RowKit Go.Shelf Go.Proofs Go.Sort Go.Maps
theorem pvalues_in (n : Nat) (mb : Option Nat) (w : World) :
    CallsIn Fence.wide n Tryz.prog 55 #[.map mb] w fun e w' => e = .returned (.func (.func 90) #[] #[.pointer (some ⟨w.heap.size,0,none⟩)]) /\ w' = w.alloc (.cells #[.map mb] 111) := by
 refine callsIn_of_wp Tryz.func55 rfl trivial ?_ rfl
 simp only [Tryz.ntmps55,List.size_toArray,List.length_cons,List.length_nil,Nat.reduceAdd,Nat.reduceSub,Array.replicate_succ,Array.replicate_zero,List.push_toArray,List.append_toArray,List.nil_append,List.cons_append]
 gi_wp2
 go_ret
 exact ⟨rfl,rfl⟩
theorem vals_nil (n : Nat) (hn : 1 <= n) (Bm : Nat) (w : World) (hBm : Bm < w.heap.size) (hm : w.cell? ⟨Bm,0,none⟩ = some (.map none)) :
    SeqGives Fence.wide n Tryz.prog 90 #[.pointer (some ⟨Bm,0,none⟩)] hdV (fun cs => ∃ ss : List PA,ss.Perm [] /\ cs = ss.map PA.hd) 0 w := fun l J W hW hJ hY h0 => by
 have hm' := (hW.cell (p := ⟨Bm,0,none⟩) hBm).trans hm
 refine callsIn_of_wp Tryz.func90 rfl trivial ?_ rfl
 simp only [Tryz.ntmps90,List.size_toArray,List.length_cons,List.length_nil,Nat.reduceAdd,Nat.reduceSub,Array.replicate_succ,Array.replicate_zero,List.push_toArray,List.append_toArray,List.nil_append,List.cons_append]
 have hr := run_range_nilMap (P := Tryz.prog) W _ _ _ Tryz.underlying111
 have hx : ∀ ty,(Instr.next (.pointer (some ⟨W.heap.size,0,none⟩)) false ty).run Tryz.prog (W.alloc (.mapIter none 0 #[] 0)) = _ := fun ty => run_next_nilMap _ ty 0 0 #[]
 gi_wp2
 refine wpIn_loop_rounds 1 ?_
 rw [roundsIn_succ]
 gi_wp2
 go_end0
 exact ⟨⟨_,rfl⟩,[],⟨[],List.Perm.refl _,rfl⟩,hJ [] W _ none h0 (World.grownBy_alloc W _ none) (fun r e => by cases e)⟩
theorem psorted_in (n : Nat) (hn : 4 <= n) (g : Nat) (lb : Array Value) (eg : ∀ args w,(callFunc g args).run Tryz.prog w = .ok (.enter g args) w) (X : List PA) (hX : RiseK PA.k X) (hN : X.length <= 1000000) (w : World)
    (hseq : SeqGives Fence.wide (n - 1 - 1 - 1) Tryz.prog g lb hdV (fun cs => ∃ ss : List PA,ss.Perm X /\ cs = ss.map PA.hd) X.length w) :
    CallsIn Fence.wide n Tryz.prog 54 #[.func (.func g) #[] lb,.func (.func 56) #[] #[]] w fun e w' => ∃ v,e = .returned v /\ w'.ownsRow w.heap.size 33 3 v X.length (pRow X) /\ Below w.heap.size w w' := by
 have h1 : 1 <= n := by omega
 have hfS : Fence.wide.fn 88 := trivial
 have hfS2 : Fence.wide.fn 89 := trivial
 have cA := pcollect_in (n - 1) (by omega) g lb eg _ X.length hN w hseq
 refine callsIn_of_wp Tryz.func54 rfl trivial ?_ rfl
 simp only [Tryz.ntmps54,List.size_toArray,List.length_cons,List.length_nil,Nat.reduceAdd,Nat.reduceSub,Array.replicate_succ,Array.replicate_zero,List.push_toArray,List.append_toArray,List.nil_append,List.cons_append]
 gi_wp2_with (gi_at_call 88; refine cA.mono ?_; rintro e W ⟨v,cs,rfl,⟨ss,hp,rfl⟩,hrow,hnil,hb⟩)
 rw [hRow_pas,List.length_map] at hrow
 have hlen := hp.length_eq
 rcases hrow.2 with ⟨rfl,hz⟩ | ⟨gb,cap,cur,rfl,hbase,hgb,r1,r2,r3,r4⟩
 ·have hss : ss = [] := List.eq_nil_of_length_eq_zero hz
  subst hss
  obtain rfl : X = [] := List.eq_nil_of_length_eq_zero hlen.symm
  gi_wp2_with (gi_at_call 89; refine (callsIn_wide.2 (sortp_none none 0 _ W)).mono ?_; rintro e w' ⟨rfl,rfl⟩)
  go_ret
  exact ⟨_,rfl,hrow,hb⟩
 ·have cS := sortp_any w.heap.size gb cap X ss W hX hp hrow (by omega)
  gi_wp2_with (gi_at_call 89; refine (callsIn_wide.2 cS).mono ?_; rintro e w' ⟨rfl,ho,hg⟩)
  go_ret
  rw [<- hlen]
  exact ⟨_,rfl,ho,hb.grown hg hb.size (fun j hj => by cases hj; exact hbase)⟩
theorem list_t (m : Nat) (T : List TA) (t : ByteArray) (w : World) (h : TbAt w m T) (ht : t.size <= maxLen) (hn : (xsOf T t).length <= 1000000) :
    Calls Tryz.prog 29 #[.map (some m),.string t] w fun e w' => ∃ A c,e = .returned (.slice A (xsOf T t).length c) /\ (xsOf T t).length <= c /\ w'.ownsRow w.heap.size 33 3 (.slice A (xsOf T t).length c) (xsOf T t).length (pRow (xsOf T t)) /\ Below w.heap.size w w' := by
 refine (callsIn_wide (n := 6)).1 ?_
 obtain ⟨g,hg⟩ : ∃ g,(getK TA.nm T t).map TA.g = g := ⟨_,rfl⟩
 have hlk := look_out h.own ht
 rw [hg] at hlk
 have hseq : SeqGives Fence.wide 2 Tryz.prog 90 #[.pointer (some ⟨w.heap.size,0,none⟩)] hdV (fun cs => ∃ ss : List PA,ss.Perm (xsOf T t) /\ cs = ss.map PA.hd) (xsOf T t).length (w.alloc (.cells #[.map g] 111)) := by
  cases e : getK TA.nm T t with
  | none =>
    rw [e] at hg
    subst hg
    rw [xsOf_none e]
    exact vals_nil 2 (by omega) w.heap.size _ (by simp) (by simp)
  | some x =>
    rw [e] at hg
    subst hg
    have hx := (getK_some e).1
    rw [xsOf_some e]
    exact vals_gives 2 (by omega) w.heap.size x.g x.X.length x.X _ (h.ok.ps x hx).1 (by simp) (by simp) (map_kept (h.inn x hx) (Below.heap_alloc _ _ x.g (h.lt (Or.inr ⟨x,hx,rfl⟩))))
 have cK := fun mb W => pvalues_in 5 mb W
 have cS := psorted_in 5 (by omega) 90 #[.pointer (some ⟨w.heap.size,0,none⟩)] (enters_of Tryz.func90 (by kernel_rfl) rfl) (xsOf T t) (h.ok.xsRise t) hn _ hseq
 have hfK : Fence.wide.fn 55 := trivial
 have hfS : Fence.wide.fn 54 := trivial
 clear hseq hg h
 refine callsIn_of_wp Tryz.func29 rfl trivial ?_ rfl
 simp only [Tryz.ntmps29,List.size_toArray,List.length_cons,List.length_nil,Nat.reduceAdd,Nat.reduceSub,Array.replicate_succ,Array.replicate_zero,List.push_toArray,List.append_toArray,List.nil_append,List.cons_append]
 gi_wp2_with (first
  | (gi_at_call 55; refine (cK _ _).mono ?_; rintro e w' ⟨rfl,rfl⟩)
  | (gi_at_call 54; refine cS.mono ?_; rintro e w' ⟨v,rfl,hrow,hb⟩))
 go_ret
 have hrow' := ownsRow_base_a (base' := w.heap.size) hrow (by simp)
 obtain ⟨A,c,rfl,h1,_,_⟩ := own_slice hrow'
 exact ⟨A,c,rfl,h1,hrow',((Below.refl _ w).alloc (Nat.le_refl _) _).trans (hb.mono (by simp))⟩
end Go.Proofs.YtmpcnhpdobdmcaaGreatDoor
namespace Go.Proofs.YtmpcnhpdobdmcaaGreatDoor
open Go Go.RowKit
section
variable {F : Nat -> Prop} {s d : Nat} {S : Sh} {nt : Fl} {x : SP}
theorem tables_s (w : World) (h : StM w F s d S nt x) (hn : x.Ta.length <= 1000) :
    Calls Tryz.prog 11 #[.pointer (some ⟨s,0,none⟩)] w fun e w' => ∃ (A : Option Addr) (c : Nat),e = .returned (.slice A x.Ta.length c) /\ RdS w' w'.heap.size A x.Ta.length (x.Ta.map TA.nm) /\ x.Ta.length <= c /\ Below w.heap.size w w' := by
 have c1 := cell_at (i := 1) h.blk rfl
 have H := hid h; have HN := hid hn
 clear h hn
 go_enter Tryz.func11,Tryz.ntmps11
 go_wp2_with (go_at_call 31; refine (names_t x.ma x.Ta w H.out.all HN.out).mono ?_; rintro e w' ⟨A,c,rfl,h1,h2,h3⟩)
 go_ret
 exact ⟨A,c,rfl,h1,h2,h3⟩
theorem sync_s (w : World) (h : StM w F s d S nt x) (hi : In F w) :
    Calls Tryz.prog 15 #[.pointer (some ⟨s,0,none⟩)] w fun e w' => e = .returned (.tuple #[]) /\ Kept F w w' /\ StM w' (Plus F w w') s d S.sync nt { x with ro := ext x.ro w.heap.size 1 } := by
 have c0 := cell_at (i := 0) h.blk rfl
 have H := hid h; have HI := hid hi
 clear h hi
 go_enter Tryz.func15,Tryz.ntmps15
 go_wp2_with (go_at_call 34; refine (sync_any x.Fd d S w H.out.disk).mono ?_; rintro e w' ⟨rfl,h1,h2⟩)
 go_end0
 exact ⟨rfl,h2.mono H.out.fd,H.out.setDisk HI.out h1 (Step.same h2)⟩
theorem get_s (t k : ByteArray) (w : World) (h : StM w F s d S nt x) (hi : In F w) (ht : t.size <= maxLen) (hk : k.size <= maxLen) (p : PA) (hp : (lookA x.Ta t k).getD (emptyP k) = p) (hl : p.L.length <= 1000) (hc : ∀ y ∈ p.L,y.ro.cols.length <= 1000000) :
    Calls Tryz.prog 12 #[.pointer (some ⟨s,0,none⟩),.string t,.string k] w fun e w' => ∃ y : PA,e = .returned (.agg #[.string y.k,.int .i64 y.g,.slice y.A y.L.length y.c]) /\ paOf y = paOf p /\ Lies w' w'.heap.size y.A y.L.length y.c y.L /\ Below w.heap.size w w' := by
 have hb0 := (Below.refl w.heap.size w).alloc (Nat.le_refl _) (.cells #[.string ⟨#[]⟩,.int .i64 0,.slice none 0 0] 33)
 have h1 := h.below hi hb0
 have n0 := heap_alloc_new w (.cells #[.string ⟨#[]⟩,.int .i64 0,.slice none 0 0] 33)
 obtain ⟨W,hW⟩ : ∃ W,w.alloc (.cells #[.string ⟨#[]⟩,.int .i64 0,.slice none 0 0] 33) = W := ⟨_,rfl⟩
 have hws : W.heap.size = w.heap.size + 1 := by rw [<- hW]; simp
 rw [hW] at hb0 h1 n0
 have c1 := cell_at (i := 1) h1.blk rfl
 have H := hid h1; have HT := hid ht; have HK := hid hk; have HP := hid hp; have HL := hid hl; have HC := hid hc; have B0 := hid hb0; have N0 := hid n0; have WS := hid hws
 have PL : Hid (Lies W W.heap.size p.A p.L.length p.c p.L) := hid (by
  rw [<- hp]
  cases e : lookA x.Ta t k with
  | none => exact ⟨⟨rfl,fun h => absurd h (by simp [emptyP])⟩,fun y hy => (by cases hy),Nat.le_refl _⟩
  | some q =>
    obtain ⟨z,hz,_,hq,_⟩ := lookA_mem e
    exact h1.all.lies z hz q hq)
 clear h h1 hi ht hk hp hl hc hb0 n0 hws
 go_enter Tryz.func12,Tryz.ntmps12
 go_wp2_with fail
 refine (get_t x.ma x.Ta t k W H.out.all HT.out HK.out p HP.out).mono ?_
 rintro e w2 ⟨rfl,b2⟩
 have B2 := hid b2
 clear b2
 go_wp2_with fail
 refine (pcopy_any p.k p.g p.A p.L.length p.c w2.heap.size p.L w2 ((PL.out.below B2.out).up B2.out.size) (Nat.le_refl _) (by have := HL.out; omega) HC.out).mono ?_
 rintro e w3 ⟨M,A',n',c',rfl,hM,hF⟩
 have b3 := hF.below
 have n3 := (b3.block w.heap.size (by have := B2.out.size; have := WS.out; omega)).trans ((B2.out.block w.heap.size (by have := WS.out; omega)).trans N0.out)
 have y0 := thawed_at (i := 0) n3
 have y1 := thawed_at (i := 1) n3
 have y2 := thawed_at (i := 2) n3
 have r0 := cell_at (i := 0) n3 rfl
 have r1 := cell_at (i := 1) n3 rfl
 have r2 := cell_at (i := 2) n3 rfl
 obtain ⟨rfl,hl6⟩ := fresh_set3 hF (show w.heap.size < w2.heap.size by have := B2.out.size; have := WS.out; omega) (.string p.k) (.int .i64 p.g) (.slice A' n' c')
 have m6 := set3_block n3 (.string p.k) (.int .i64 p.g) (.slice A' M.length c')
 have k6 := kept_set3 (w := w3) w.heap.size (.string p.k) (.int .i64 p.g) (.slice A' M.length c')
 have q0 := cell_at (i := 0) m6 rfl
 have q1 := cell_at (i := 1) m6 rfl
 have q2 := cell_at (i := 2) m6 rfl
 have hbb : Below w.heap.size w (((w3.setCell ⟨w.heap.size,0,none⟩ (.string p.k)).setCell ⟨w.heap.size,1,none⟩ (.int .i64 p.g)).setCell ⟨w.heap.size,2,none⟩ (.slice A' M.length c')) :=
  (((B0.out).trans (B2.out.mono (by have := WS.out; omega))).trans (b3.mono (by have := B2.out.size; have := WS.out; omega))).trans (k6.below (B := w.heap.size) (fun k hk => by rw [hk]; exact Nat.le_refl _) (by have := B2.out.size; have := WS.out; have := b3.size; omega))
 have BB := hid hbb; have L6 := hid hl6; have HM := hid hM
 clear b3 n3 hl6 m6 k6 hbb hM hF
 go_wp2
 refine bodyPost_ret (v := .agg #[.string p.k,.int .i64 p.g,.slice A' M.length c']) ?_ rfl ?_
 ·simp [results,Tryz.results12,go_sem,q0,q1,q2]
 ·exact ⟨⟨p.k,p.g,M,A',c'⟩,rfl,by unfold paOf; rw [HM.out],L6.out,BB.out⟩
end
end Go.Proofs.YtmpcnhpdobdmcaaGreatDoor
namespace Go.Proofs.YtmpcnhpdobdmcaaGreatDoor
open Go Go.RowKit
theorem pRow_put : ∀ (L : List PA) (j : Nat) (hj : j < L.length) (x : PA),
    (((pRow L).set (j * 3) (.string x.k)).set (j * 3 + 1) (.int .i64 x.g)).set (j * 3 + 2) (.slice x.A x.L.length x.c) = pRow (L.set j x)
 | [],j,hj,x => by cases hj
 | y :: L,0,_,x => by simp [pRow,pcs]
 | y :: L,j + 1,hj,x => by
   have ih := pRow_put L j (by simpa using hj) x
   have e : ∀ (k : List Value) (i : Nat) (v : Value),(pcs y ++ k).set ((j + 1) * 3 + i) v = pcs y ++ k.set (j * 3 + i) v := fun k i v => by
    rw [List.set_append_right _ _ (by simp [pcs]; omega)]
    congr 2
    simp [pcs]
    omega
   have e0 := fun k v => e k 0 v
   simp only [Nat.add_zero] at e0
   have hc : pRow (y :: L) = pcs y ++ pRow L := by simp [pRow]
   rw [hc,e0,e,e,ih,List.set_cons_succ]
   simp [pRow]
theorem ownP_put {w : World} {base g m cap : Nat} {M : List PA} (h0 : w.ownsRow base 33 3 (.slice (some ⟨g,0,none⟩) m cap) m (pRow M)) {j : Nat} (hj : j < M.length) (x : PA) :
    (((w.setCell ⟨g,j * 3,none⟩ (.string x.k)).setCell ⟨g,j * 3 + 1,none⟩ (.int .i64 x.g)).setCell ⟨g,j * 3 + 2,none⟩ (.slice x.A x.L.length x.c)).ownsRow base 33 3 (.slice (some ⟨g,0,none⟩) m cap) m (pRow (M.set j x)) := by
 have h1 := (h0.stored (j * 3) (.string x.k)).1
 have h2 := (h1.stored (j * 3 + 1) (.int .i64 x.g)).1
 have h3 := (h2.stored (j * 3 + 2) (.slice x.A x.L.length x.c)).1
 rw [show _ = _ from pRow_put M j hj x] at h3
 exact h3
theorem keptP_set {w : World} (g o : Nat) (u0 u1 u2 : Value) : Kept (fun k => k = g) w (((w.setCell ⟨g,o,none⟩ u0).setCell ⟨g,o + 1,none⟩ u1).setCell ⟨g,o + 2,none⟩ u2) :=
 ((Kept.setCell (fun k => k = g) w ⟨g,o,none⟩ u0 rfl).trans (Kept.setCell (fun k => k = g) _ ⟨g,o + 1,none⟩ u1 rfl) fun k hk => Or.inl hk).trans (Kept.setCell (fun k => k = g) _ ⟨g,o + 2,none⟩ u2 rfl) fun k hk => Or.inl hk
theorem ownP_at {w : World} {base n c : Nat} {A : Option Addr} {M : List PA} (h : w.ownsRow base 33 3 (.slice A n c) n (pRow M)) {j : Nat} (hj : j < n) (hM : M.length = n) : ∃ g,A = some ⟨g,0,none⟩ /\ base <= g /\ g < w.heap.size /\ (∃ cs,w.heap[g]? = some (.cells cs 33 (0,0))) /\
    (w.cell? ⟨g,j * 3,none⟩ = some (.string (M[j]'(by omega)).k) /\ w.cell? ⟨g,j * 3 + 1,none⟩ = some (.int .i64 (M[j]'(by omega)).g) /\ w.cell? ⟨g,j * 3 + 2,none⟩ = some (.slice (M[j]'(by omega)).A (M[j]'(by omega)).L.length (M[j]'(by omega)).c)) /\ ∀ i,w.frozen? ⟨g,i,none⟩ = false := by
 rcases h.2 with ⟨_,e⟩ | ⟨g,cap,cur,e,hb,hh,hn,hm,hs,ht⟩
 ·omega
 ·injection e with e1 e2 e3
  subst e1; subst e3
  have key : ∀ i (hi : i < 3) u,(pcs (M[j]'(by omega)))[i]? = some u -> w.cell? ⟨g,j * 3 + i,none⟩ = some u := fun i hi u hu => by
   have := h.cells (g := g) rfl (j * 3 + i) u (by rw [pRow_at _ _ _ (by omega) hi]; exact hu)
   rw [Addr.add_lit,Nat.zero_add] at this
   exact this
  exact ⟨g,rfl,hb,(Array.getElem?_eq_some_iff.1 hh).1,⟨cur,hh⟩,⟨key 0 (by omega) _ rfl,key 1 (by omega) _ rfl,key 2 (by omega) _ rfl⟩,fun i => h.frozenAt i⟩
section
variable {F : Nat -> Prop} {s d : Nat} {S : Sh} {nt : Fl} {x : SP}
theorem parts_s (t : ByteArray) (w : World) (h : StM w F s d S nt x) (hi : In F w) (ht : t.size <= maxLen) (hn : (xsOf x.Ta t).length <= 1000) (hl : ∀ p ∈ xsOf x.Ta t,p.L.length <= 1000 /\ ∀ y ∈ p.L,y.ro.cols.length <= 1000000) :
    Calls Tryz.prog 10 #[.pointer (some ⟨s,0,none⟩),.string t] w fun e w' => ∃ (A : Option Addr) (n c : Nat) (L : List PA),e = .returned (.slice A n c) /\ LiesP w' w'.heap.size A n c L /\ pas L = pas (xsOf x.Ta t) /\ Below w.heap.size w w' := by
 have c1 := cell_at (i := 1) h.blk rfl
 have PL : Hid (∀ w' ,Below w.heap.size w w' -> ∀ p ∈ xsOf x.Ta t,Lies w' w'.heap.size p.A p.L.length p.c p.L) := hid fun w' hb p hp => by
  cases e : getK TA.nm x.Ta t with
  | none => rw [xsOf_none e] at hp; cases hp
  | some z => rw [xsOf_some e] at hp; exact (h.all.below hb).lies z (getK_some e).1 p hp
 obtain ⟨X,hX⟩ : ∃ X,xsOf x.Ta t = X := ⟨_,rfl⟩
 rw [hX] at hn hl PL
 have H := hid h; have HT := hid ht; have HN := hid hn; have HL := hid hl; have HX := hid hX
 have e9 : pas (xsOf x.Ta t) = pas X := by rw [hX]
 rw [e9]
 clear h hi ht hn hl hX e9
 go_enter Tryz.func10,Tryz.ntmps10
 go_wp2_with fail
 refine (list_t x.ma x.Ta t w H.out.all HT.out (by rw [HX.out]; have := HN.out; omega)).mono ?_
 rw [HX.out]
 rintro e w1 ⟨A,c,rfl,hc,ho,hb⟩
 obtain ⟨n,hn⟩ : ∃ n,X.length = n := ⟨_,rfl⟩
 rw [hn] at hc ho ⊢
 have hn1 : n <= 1000 := by rw [<- hn]; exact HN.out
 have HLN := hid hn; have HC := hid hc
 clear hn hc
 go_wp2_with fail
 go_loopw [16] (fun i wr => ∃ (j : Nat) (M : List PA),j <= n /\ i = .int .i64 j /\ M.length = j /\ pas M = pas (X.take j) /\ wr.ownsRow w.heap.size 33 3 (.slice A n c) n (pRow (M ++ X.drop j)) /\ (∀ y ∈ M,Fresh w wr (.slice y.A y.L.length y.c) y.L) /\ Below w.heap.size w wr) (fun i _ => n - (intOf i).toNat)
 case atStart => exact ⟨0,[],Nat.zero_le _,rfl,rfl,rfl,ho,fun y hy => (by cases hy),hb⟩
 case round =>
  obtain ⟨j,M,hj,rfl,hMl,hMp,hO,hM,hb⟩ := hrel
  have OH := hid hO; have MH := hid hM; have BH := hid hb; have ML := hid hMl; have MP := hid hMp
  clear hO hM hb hMl hMp ho
  by_cases hlt : j < n
  ·have i1 : (j : Int) < n := by omega
   have i0 : (0 : Int) <= j := by omega
   have hXl : X.length = n := HLN.out
   have hlen : (M ++ X.drop j).length = n := by rw [List.length_append,List.length_drop,ML.out,hXl]; omega
   have hat : (M ++ X.drop j)[j]'(by omega) = X[j]'(by omega) := by
    rw [List.getElem_append_right (by rw [ML.out]; exact Nat.le_refl _)]
    rw [List.getElem_drop]
    congr 1
    rw [ML.out]
    omega
   obtain ⟨g,rfl,hbg,hgl,_,⟨e0,e1,e2⟩,_⟩ := ownP_at OH.out hlt hlen
   rw [hat] at e0 e1 e2
   obtain ⟨p,hp⟩ : ∃ p,X[j]'(by omega) = p := ⟨_,rfl⟩
   rw [hp] at e0 e1 e2
   have hpm : p ∈ X := by rw [<- hp]; exact List.getElem_mem _
   have hpl := (PL.out wr BH.out p hpm)
   have hpf := HL.out p hpm
   have b2 := (Below.refl wr.heap.size wr).alloc (Nat.le_refl _) (.cells #[.string p.k,.int .i64 p.g,.slice p.A p.L.length p.c] 33)
   have PIN := hid hpl; have PF := hid hpf; have B2 := hid b2; have PJ := hid (show X[j]? = some p by rw [List.getElem?_eq_getElem (by omega),hp]); have GL := hid hgl; have GB := hid hbg; have LEN := hid hlen
   have XL := hid hXl
   clear hpl hpf b2 hat hlen hXl hp hpm hgl hbg
   go_wp2_with fail
   refine (pcopy_any p.k p.g p.A p.L.length p.c wr.heap.size p.L _ (PIN.out.below B2.out) B2.out.size (by have := PF.out.1; omega) PF.out.2).mono ?_
   rintro e w3 ⟨M',A',n',c',rfl,hM',hF⟩
   have b3 := hF.below
   have b03 : Below wr.heap.size wr w3 := B2.out.trans (b3.mono B2.out.size)
   have o3 := own_below OH.out b03
   obtain ⟨g',eg,_,hg3,⟨cs3,hcs3⟩,⟨r0,r1,r2⟩,fz⟩ := ownP_at o3 hlt LEN.out
   injection eg with eg
   injection eg with eg
   subst eg
   have y0 := fz (j * 3); have y1 := fz (j * 3 + 1); have y2 := fz (j * 3 + 2)
   obtain ⟨rfl,_,_⟩ := hF.lies
   have o4 := ownP_put o3 (j := j) (by rw [LEN.out]; exact hlt) ⟨p.k,p.g,M',A',c'⟩
   have k4 := keptP_set (w := w3) g (j * 3) (.string p.k) (.int .i64 p.g) (.slice A' M'.length c')
   have hset : (M ++ X.drop j).set j ⟨p.k,p.g,M',A',c'⟩ = (M ++ [⟨p.k,p.g,M',A',c'⟩]) ++ X.drop (j + 1) := by
    rw [List.set_append_right _ _ (by rw [ML.out]; exact Nat.le_refl _),ML.out,Nat.sub_self]
    rw [List.drop_eq_getElem_cons (by rw [XL.out]; exact hlt),List.set_cons_zero,List.append_assoc]
    rfl
   rw [hset] at o4
   have hgw : w.heap.size <= g := GB.out
   have fr4 : ∀ y ∈ M ++ [⟨p.k,p.g,M',A',c'⟩],Fresh w (((w3.setCell ⟨g,j * 3,none⟩ (.string p.k)).setCell ⟨g,j * 3 + 1,none⟩ (.int .i64 p.g)).setCell ⟨g,j * 3 + 2,none⟩ (.slice A' M'.length c')) (.slice y.A y.L.length y.c) y.L := fun y hy => by
    have hy3 : Fresh w w3 (.slice y.A y.L.length y.c) y.L := by
     rcases List.mem_append.1 hy with hy | hy
     ·exact (MH.out y hy).on b03
     ·rw [List.mem_singleton.1 hy]
      exact hF.lower (BH.out.trans (B2.out.mono BH.out.size))
    exact hy3.kept k4 (fun k hk => by subst hk; exact ⟨hgw,cs3,hcs3⟩) (by decide) (by decide)
   have bb4 : Below w.heap.size w (((w3.setCell ⟨g,j * 3,none⟩ (.string p.k)).setCell ⟨g,j * 3 + 1,none⟩ (.int .i64 p.g)).setCell ⟨g,j * 3 + 2,none⟩ (.slice A' M'.length c')) :=
    (BH.out.trans (b03.mono BH.out.size)).trans (k4.below (B := w.heap.size) (fun k hk => by rw [hk]; exact hgw) (by have := BH.out.size; have := b03.size; omega))
   have hp4 : pas (M ++ [⟨p.k,p.g,M',A',c'⟩]) = pas (X.take (j + 1)) := by
    have e9 : X[j]'(by rw [XL.out]; exact hlt) = p := by
     have := PJ.out
     rw [List.getElem?_eq_getElem (by rw [XL.out]; exact hlt)] at this
     injection this
    rw [List.take_succ_eq_append_getElem (by rw [XL.out]; exact hlt),e9]
    unfold pas
    rw [List.map_append,List.map_append]
    have := MP.out
    unfold pas at this
    rw [this]
    show _ ++ [paOf ⟨p.k,p.g,M',A',c'⟩] = _ ++ [paOf p]
    unfold paOf
    rw [hM']
   have O4 := hid o4; have F4 := hid fr4; have BB4 := hid bb4; have P4 := hid hp4
   clear b3 b03 o3 hM' hF o4 k4 hset fr4 bb4 hp4 hcs3 fz hgw
   go_wp2
   go_roundw
   case rel => exact ⟨j + 1,M ++ [⟨p.k,p.g,M',A',c'⟩],by omega,by go_num,by rw [List.length_append,ML.out]; rfl,P4.out,O4.out,F4.out,BB4.out⟩
   case measure => simp [intOf]; omega
  ·obtain rfl : j = n := by omega
   have hO := OH.out
   have hp := MP.out
   rw [List.drop_of_length_le (by rw [HLN.out]; exact Nat.le_refl _),List.append_nil] at hO
   rw [List.take_of_length_le (by rw [HLN.out]; exact Nat.le_refl _)] at hp
   have O2 := hid hO; have P2 := hid hp
   clear hO hp
   go_wp2
   go_ret
   exact ⟨A,j,c,M,rfl,⟨RdP.of_own O2.out,fun y hy => (MH.out y hy).lies.2.1,HC.out⟩,P2.out,BH.out⟩
end
end Go.Proofs.YtmpcnhpdobdmcaaGreatDoor
namespace Go.Proofs.YtmpcnhpdobdmcaaGreatDoor
open Go Go.RowKit
variable (Q : Option Addr -> Nat -> List Int -> Int -> Fl -> ByteArray -> St -> Prop)
structure SafeS (b : St) : Prop where
 ok : StOk b
 pok : ∀ t k p,look b.tb t k = some p -> p.ok = true
structure PI (x : SP) (S : Sh) (b : St) (l : List Bt) : Prop where
 ta : tbs x.Ta = (b.apps l).tb
 ts : tbs x.Ts = (mutsOf l).foldl mutT []
 safe : SafeS b
 fit : b.AllFit l
 short : Short l
 log : S.log = recs l
 len : (recs l).length <= 262144
 q : Q x.A x.c x.fl x.last S.fs S.man b
def PS (w : World) (F : Nat -> Prop) (s d : Nat) (S : Sh) (b : St) (l : List Bt) : Prop := ∃ x,StM w F s d S (b.apps l).nt x /\ PI Q x S b l
def ES (fs : Fl) (man : ByteArray) (b : St) : Prop := SafeS b /\ ∃ A c fl last,Q A c fl last fs man b
theorem SafeS.new : SafeS St.new := ⟨StOk.new,fun t k p hp => by cases hp⟩
section
variable {Q}
variable {x : SP} {S : Sh} {b : St} {l : List Bt} {w : World} {F : Nat -> Prop} {s d : Nat}
theorem PI.stok (h : PI Q x S b l) : StOk (b.apps l) := h.safe.ok.apps l h.fit
theorem PI.tot (h : PI Q x S b l) {t k : ByteArray} {p : Pa} (hp : look (b.apps l).tb t k = some p) : p.tot <= 300000 := apps_tot h.safe.ok.tb h.safe.pok h.len t k p hp
theorem look_new (l : List Bt) : (mutsOf l).foldl mutT [] = (St.new.apps l).tb := (apps_tb St.new l).symm
theorem ready_all (h : PI Q x S b l) {B : Bt} (hr : (recs (l ++ [B])).length <= 262144) : Ready x.Ta B.muts := by
 refine ⟨by rw [h.ta]; exact h.stok.fit,by rw [h.ta]; exact h.stok.up,fun t k p hp => ?_⟩
 rw [h.ta] at hp
 have e : (b.apps (l ++ [B])).tb = B.muts.foldl mutT (b.apps l).tb := by rw [St.apps_snoc]; rfl
 rw [<- e] at hp
 exact Nat.le_trans (apps_tot h.safe.ok.tb h.safe.pok hr t k p hp) (by omega)
theorem ready_since (h : PI Q x S b l) {B : Bt} (hr : (recs (l ++ [B])).length <= 262144) : Ready x.Ts B.muts := by
 obtain ⟨h1,h2,h3⟩ := since_ok h.safe.ok h.fit
 refine ⟨by rw [h.ts]; exact h3,by rw [h.ts]; exact h2,fun t k p hp => ?_⟩
 rw [h.ts] at hp
 have e : (St.new.apps (l ++ [B])).tb = B.muts.foldl mutT ((mutsOf l).foldl mutT []) := by rw [St.apps_snoc,look_new]; rfl
 rw [<- e] at hp
 exact Nat.le_trans (apps_tot TbOk.nil SafeS.new.pok hr t k p hp) (by omega)
theorem recs_snoc (l : List Bt) (b : Bt) : recs (l ++ [b]) = recs l ++ put (recs l).length (bE b) := by
 unfold recs
 rw [List.map_append]
 exact puts_snoc _ _
theorem sumR_mem {l : Rows} {r : Ro} (h : r ∈ l) : r.cols.length <= sumR l := by
 induction l with
 | nil => cases h
 | cons a l ih =>
   rw [sumR_cons]
   rcases List.mem_cons.1 h with rfl | h
   ·omega
   ·have := ih h; omega
theorem totM_few {l : List Mt} (h : ∀ m ∈ l,m.2.tot <= 1000) : totM l <= 1000 * l.length := by
 induction l with
 | nil => exact Nat.zero_le _
 | cons m l ih =>
   have h1 := h m (List.mem_cons_self ..)
   have h2 := ih fun x hx => h x (List.mem_cons_of_mem _ hx)
   have e : totM (m :: l) = m.2.tot + totM l := by unfold totM; simp
   rw [e,List.length_cons]
   omega
theorem PI.rows (h : PI Q x S b l) {t : ByteArray} {p : PA} (hp : p ∈ xsOf x.Ta t) (hT : TaOk x.Ta) : p.L.length <= 100 /\ ∀ y ∈ p.L,y.ro.cols.length <= 300000 := by
 have e : lookA x.Ta t p.k = some p := by
  unfold lookA
  exact getK_mem (hT.xsRise t) hp
 have e2 : look (b.apps l).tb t p.k = some (paOf p) := by rw [<- h.ta,look_tbs,e]; rfl
 have h1 := h.stok.fit.rows e2
 have h2 := h.tot e2
 have e3 : (paOf p).rows = ros p.L := rfl
 rw [e3] at h1
 refine ⟨by unfold ros at h1; rw [List.length_map] at h1; exact h1,fun y hy => ?_⟩
 have h3 : y.ro.cols.length <= sumR (ros p.L) := sumR_mem (List.mem_map.2 ⟨y,hy,rfl⟩)
 exact Nat.le_trans h3 h2
theorem partsOf_eq (s : St) (t : ByteArray) : partsOf s t = psOf s.tb t := rfl
theorem step_plus {w w' : World} {F : Nat -> Prop} (hk : Kept F w w') : Step F w (Plus F w w') w' := ⟨hk,fun k hk => hk⟩
theorem p_kept {w' : World} {G : Nat -> Prop} (h : PS Q w G s d S b l) (hk : Kept F w w') (ho : Off F G) (hi : In G w) : PS Q w' G s d S b l := by
 obtain ⟨x,hM,hP⟩ := h
 exact ⟨x,hM.kept hk ho hi,hP⟩
theorem p_shelf (h : PS Q w F s d S b l) : ∃ Fd : Nat -> Prop,ShIs w Fd d S /\ ∀ k,Fd k -> F k := by
 obtain ⟨x,hM,hP⟩ := h
 exact ⟨x.Fd,hM.disk,hM.fd⟩
theorem p_says (h : PS Q w F s d S b l) : ES Q S.fs S.man b /\ S.log = recs l /\ b.AllFit l /\ Short l := by
 obtain ⟨x,hM,hP⟩ := h
 exact ⟨⟨hP.safe,x.A,x.c,x.fl,x.last,hP.q⟩,hP.log,hP.fit,hP.short⟩
theorem p_apply (F : Nat -> Prop) (s d : Nat) (S : Sh) (b : St) (l : List Bt) (y : BA) (w : World) (h : PS Q w F s d S b l) (hE : InE F w) (hy : LiesB w w.heap.size y) (hyo : ∀ k,y.blk k -> ¬ F k) (hf : BtF y) (hfit : (b.apps l).Fits y.bt) (hlen : (bE y.bt).length <= 262144) (hr : (recs (l ++ [y.bt])).length <= 262144) :
    Calls Tryz.prog 9 #[.pointer (some ⟨s,0,none⟩),bV y] w fun e w' => e = .returned (.int .i64 0) /\ ∃ F',PS Q w' F' s d { S with log := recs (l ++ [y.bt]) } b (l ++ [y.bt]) /\ Step F w F' w' := by
 obtain ⟨x,hM,hP⟩ := h
 obtain ⟨a0,a1,a2,a3,hE⟩ := hE
 obtain ⟨f1,f2,f3⟩ := fits_iff.1 hfit
 have hfit2 : b.AllFit (l ++ [y.bt]) := St.allFit_snoc.2 ⟨hP.fit,hfit⟩
 have hts := (since_ok hP.safe.ok hfit2).2.2
 rw [mutsOf_snoc,List.foldl_append] at hts
 refine (Apply_s a0 a1 a2 a3 F s d S (b.apps l).nt x y w.heap.size w hM hE hy (Nat.le_refl _) hyo hf f1 hP.stok.nok (ready_all hP hr) (by rw [hP.ta]; exact f3) f2 (ready_since hP hr) (by rw [hP.ts]; exact hts) hlen (by rw [hP.log,<- recs_snoc_le]; exact hr)).mono ?_
 rintro e w' ⟨rfl,F',x',T',T2,hM',hx,ht,ht2,hE',hst⟩
 refine ⟨rfl,F',⟨x',?_,?_⟩,hst⟩
 ·rw [hP.log,<- recs_snoc] at hM'
  rw [St.apps_snoc]
  exact hM'
 ·obtain ⟨e1,e2,e3,e4,e5,e6,e7,e8,e9⟩ := SP.data_eq (y := { x with Ta := T',Ts := T2 }) hx
  refine ⟨?_,?_,hP.safe,hfit2,?_,rfl,hr,?_⟩
  ·rw [e4,ht,hP.ta,St.apps_snoc]; rfl
  ·rw [e5,ht2,hP.ts,mutsOf_snoc,List.foldl_append]; rfl
  ·intro c hc
   rcases List.mem_append.1 hc with hc | hc
   ·exact hP.short c hc
   ·rw [List.mem_singleton.1 hc]; exact hlen
  ·rw [e6,e7,e8,e9]; exact hP.q
theorem p_big (F : Nat -> Prop) (s d : Nat) (S : Sh) (b : St) (l : List Bt) (y : BA) (w : World) (h : PS Q w F s d S b l) (hE : InE F w) (hy : LiesB w w.heap.size y) (hf : BtF y) (hok : y.bt.ok = true) (hno : ¬ (b.apps l).Fits y.bt) :
    Calls Tryz.prog 9 #[.pointer (some ⟨s,0,none⟩),bV y] w fun e w' => e = .returned (.int .i64 2) /\ ∃ F',PS Q w' F' s d S b l /\ Step F w F' w' := by
 obtain ⟨x,hM,hP⟩ := h
 obtain ⟨a0,a1,a2,a3,hE⟩ := hE
 have htot : ∀ t k p,look ((muts y.M).foldl mutT (b.apps l).tb) t k = some p -> p.tot <= 900000 := fun t k p hp => by
  have h1 := look_tot hP.stok.tb t k (muts y.M)
  rw [hp] at h1
  have h1 : p.tot <= totO (look (b.apps l).tb t k) + totM (muts y.M) := h1
  have h2 : totO (look (b.apps l).tb t k) <= 300000 := by
   cases e : look (b.apps l).tb t k with
   | none => exact Nat.zero_le _
   | some q => exact hP.tot e
  have h3 := totM_few (l := muts y.M) fun m hm => (mutB_comes ((ok_parts hok).1 m hm)).2.2.2
  have h4 : (muts y.M).length <= 64 := (ok_parts hok).2.1
  omega
 have hR : Ready x.Ta (muts y.M) := ⟨by rw [hP.ta]; exact hP.stok.fit,by rw [hP.ta]; exact hP.stok.up,by rw [hP.ta]; exact htot⟩
 refine (Apply_no a0 a1 a2 a3 F s d S (b.apps l).nt x y w.heap.size w hM hE hy (Nat.le_refl _) hf hok hP.stok.nok hR (fun h => hno (fits_iff.2 ⟨hok,h.2,by have := h.1; rw [hP.ta] at this; exact this⟩))).mono ?_
 rintro e w' ⟨rfl,hb⟩
 exact ⟨rfl,F,⟨x,hM.below hE.in_ hb,hP⟩,Step.same (Kept.of_below hb F)⟩
theorem p_sync (F : Nat -> Prop) (s d : Nat) (S : Sh) (b : St) (l : List Bt) (w : World) (h : PS Q w F s d S b l) (hE : InE F w) :
    Calls Tryz.prog 15 #[.pointer (some ⟨s,0,none⟩)] w fun e w' => e = .returned (.tuple #[]) /\ ∃ F',PS Q w' F' s d { S with syn := S.log.length } b l /\ Step F w F' w' := by
 obtain ⟨x,hM,hP⟩ := h
 refine (sync_s w hM hE.in_).mono ?_
 rintro e w' ⟨rfl,hk,hM'⟩
 exact ⟨rfl,_,⟨_,hM',⟨hP.ta,hP.ts,hP.safe,hP.fit,hP.short,hP.log,hP.len,hP.q⟩⟩,step_plus hk⟩
theorem p_get (F : Nat -> Prop) (s d : Nat) (S : Sh) (b : St) (l : List Bt) (t k : ByteArray) (w : World) (h : PS Q w F s d S b l) (hE : InE F w) (ht : t.size <= maxLen) (hk : k.size <= maxLen) :
    Calls Tryz.prog 12 #[.pointer (some ⟨s,0,none⟩),.string t,.string k] w fun e w' => ∃ y : PA,e = .returned (.agg #[.string y.k,.int .i64 y.g,.slice y.A y.L.length y.c]) /\ paOf y = getPt (b.apps l) t k /\ Lies w' w'.heap.size y.A y.L.length y.c y.L /\ Below w.heap.size w w' := by
 obtain ⟨x,hM,hP⟩ := h
 obtain ⟨p,hp⟩ : ∃ p,(lookA x.Ta t k).getD (emptyP k) = p := ⟨_,rfl⟩
 have hpl : p.L.length <= 100 /\ ∀ y ∈ p.L,y.ro.cols.length <= 300000 := by
  cases e : lookA x.Ta t k with
  | none =>
    rw [e] at hp
    subst hp
    exact ⟨by simp [emptyP],fun y hy => by simp [emptyP] at hy⟩
  | some q =>
    rw [e] at hp
    subst hp
    have h2 : q ∈ xsOf x.Ta t := by
     unfold lookA at e
     exact (getK_some e).1
    exact hP.rows h2 hM.all.ok
 refine (get_s t k w hM hE.in_ ht hk p hp (Nat.le_trans hpl.1 (by omega)) fun y hy => Nat.le_trans (hpl.2 y hy) (by omega)).mono ?_
 rintro e w' ⟨y,rfl,h1,h2,h3⟩
 refine ⟨y,rfl,?_,h2,h3⟩
 rw [h1,<- hp]
 unfold getPt
 rw [partsOf_eq,<- hP.ta]
 show _ = (look (tbs x.Ta) t k).getD ⟨k,0,[]⟩
 rw [look_tbs]
 cases lookA x.Ta t k <;> rfl
theorem p_parts (F : Nat -> Prop) (s d : Nat) (S : Sh) (b : St) (l : List Bt) (t : ByteArray) (w : World) (h : PS Q w F s d S b l) (hE : InE F w) (ht : t.size <= maxLen) :
    Calls Tryz.prog 10 #[.pointer (some ⟨s,0,none⟩),.string t] w fun e w' => ∃ (A : Option Addr) (n c : Nat) (L : List PA),e = .returned (.slice A n c) /\ LiesP w' w'.heap.size A n c L /\ pas L = partsOf (b.apps l) t /\ Below w.heap.size w w' := by
 obtain ⟨x,hM,hP⟩ := h
 have e1 : pas (xsOf x.Ta t) = partsOf (b.apps l) t := by rw [partsOf_eq,<- hP.ta,psOf_tbs]
 have e2 : (xsOf x.Ta t).length <= 100 := by
  have h1 := hP.stok.fit.len t
  rw [<- partsOf_eq,<- e1] at h1
  unfold pas at h1
  rw [List.length_map] at h1
  exact h1
 refine (parts_s t w hM hE.in_ ht (by omega) fun p hp => ⟨Nat.le_trans (hP.rows hp hM.all.ok).1 (by omega),fun y hy => Nat.le_trans ((hP.rows hp hM.all.ok).2 y hy) (by omega)⟩).mono ?_
 rintro e w' ⟨A,n,c,L,rfl,h1,h2,h3⟩
 exact ⟨A,n,c,L,rfl,h1,by rw [h2,e1],h3⟩
theorem p_tables (F : Nat -> Prop) (s d : Nat) (S : Sh) (b : St) (l : List Bt) (w : World) (h : PS Q w F s d S b l) (hE : InE F w) :
    Calls Tryz.prog 11 #[.pointer (some ⟨s,0,none⟩)] w fun e w' => ∃ (A : Option Addr) (n c : Nat),e = .returned (.slice A n c) /\ RdS w' w'.heap.size A n ((b.apps l).tb.map Tb.nm) /\ n <= c /\ Below w.heap.size w w' := by
 obtain ⟨x,hM,hP⟩ := h
 have e1 : (b.apps l).tb.map Tb.nm = x.Ta.map TA.nm := by
  rw [<- hP.ta]
  unfold tbs
  rw [List.map_map]
  rfl
 have e2 : x.Ta.length <= 8 := by
  have := hP.stok.fit.tabs
  rw [<- hP.ta] at this
  unfold tbs at this
  rwa [List.length_map] at this
 rw [e1]
 refine (tables_s w hM (by omega)).mono ?_
 rintro e w' ⟨A,c,rfl,h1,h2,h3⟩
 exact ⟨A,_,c,rfl,h1,h2,h3⟩
end
end Go.Proofs.YtmpcnhpdobdmcaaGreatDoor
namespace Go.Proofs.YtmpcnhpdobdmcaaGreatDoor
open Go Go.RowKit
theorem own_blk {w : World} {B m n c k : Nat} {t : TypeId} {u : Nat} {A : Option Addr} {row : List Value} (h : w.ownsRow B t u (.slice A n c) m row) (hk : BlkOf A k) : B <= k := by
 obtain ⟨o,rfl⟩ := hk
 rcases h.2 with ⟨h2,h3⟩ | ⟨g,cap,cur,h2,h3,_⟩
 ·injection h2 with h2
  cases h2
 ·injection h2 with h2
  injection h2 with h2
  injection h2 with h2
  omega
theorem RowsQ.rowsF {w0 w : World} {A : Option Addr} {m c : Nat} {M : List RA} (h : RowsQ w0 w A m c M) {k : Nat} (hk : Go.Proofs.YtmpcnhpdobdmcaaGreatDoor.rowsF A M k) : w0.heap.size <= k := by
 rcases hk with ⟨hne,hk⟩ | ⟨x,hx,hne,hk⟩
 ·exact own_blk h.own hk
 ·exact own_blk (h.cols x hx) hk
theorem BatQ.blk {w0 w : World} {z : BA} (h : BatQ w0 w z) {k : Nat} (hk : z.blk k) : w0.heap.size <= k := by
 rcases hk with ⟨hne,hk⟩ | ⟨hne,hk⟩ | ⟨hne,hk⟩ | ⟨x,hx,hk⟩
 ·exact own_blk h.muts.own hk
 ·exact own_blk h.notes hk
 ·exact own_blk h.drops hk
 ·exact (h.muts.parts x hx).rowsF hk
theorem getBatch_bE {l : Bs} {b : Bt} (h : getBatch l = .ok b) : bE b = l /\ b.ok = true /\ b.Tr /\ l.length <= 262144 := by
 obtain ⟨h1,h2⟩ := batch_codecT.same (ok := Bt.ok) h
 obtain ⟨h3,h4,h5⟩ := put_ok h1
 exact ⟨h5.symm,h3,h2,by rw [h5]; exact h4⟩
theorem fits_all {b : St} {l : List Bt} {B : Bt} (h : (b.apps l).Fits B) : FitS (B.muts.foldl mutT (b.apps l).tb) /\ fitN (dropsN (b.apps l).nt B.drop) B.add = true /\ B.ok = true := by
 obtain ⟨h1,h2,h3⟩ := fits_iff.1 h
 exact ⟨h3,h2,h1⟩
structure Read (b : St) (l : Bs) (T : List ByteArray) (i : Nat) (bs : List Bt) : Prop where
 fit : b.AllFit bs
 short : Short bs
 map : bs.map bE = (lists T).take i
 pre : recs bs <+: l
theorem Read.zero (b : St) (l : Bs) (T : List ByteArray) : Read b l T 0 [] := ⟨trivial,fun b hb => (by cases hb),rfl,List.nil_prefix⟩
theorem lists_get {T : List ByteArray} {i : Nat} (h : i < T.length) : (lists T)[i]? = some T[i].data.toList := by
 unfold lists
 rw [List.getElem?_map,List.getElem?_eq_getElem h]
 rfl
theorem Read.next {b : St} {l : Bs} {T : List ByteArray} {i : Nat} {bs : List Bt} (h : Read b l T i bs) (ha : Ans l (lists T)) (hi : i < T.length) {B : Bt} (hg : getBatch T[i].data.toList = .ok B) (hf : (b.apps bs).Fits B) : Read b l T (i + 1) (bs ++ [B]) := by
 obtain ⟨h1,h2,h3,h4⟩ := getBatch_bE hg
 have hm : (bs ++ [B]).map bE = (lists T).take (i + 1) := by
  rw [List.take_add_one,lists_get hi,List.map_append,h.map,List.map_singleton,h1]
  rfl
 refine ⟨St.allFit_snoc.2 ⟨h.fit,hf⟩,fun c hc => ?_,hm,?_⟩
 ·rcases List.mem_append.1 hc with hc | hc
  ·exact h.short c hc
  ·rw [List.mem_singleton.1 hc,h1]; exact h4
 ·unfold recs
  rw [hm]
  refine List.IsPrefix.trans ?_ ha.1
  obtain ⟨r,hr⟩ := List.take_prefix (i + 1) (lists T)
  exact ⟨puts (0 + (puts 0 ((lists T).take (i + 1))).length) r,by rw [<- puts_append,hr]⟩
theorem Read.stop {b : St} {l : Bs} {T : List ByteArray} {i : Nat} {bs : List Bt} (h : Read b l T i bs) (ha : Ans l (lists T)) (hi : i < T.length) (hno : ∀ B,getBatch T[i].data.toList = .ok B -> ¬ (b.apps bs).Fits B) : Opens b l bs := by
 refine ⟨h.fit,h.short,lists T,ha,by rw [h.map]; exact List.take_prefix _ _,fun x hx B hB => ?_⟩
 have hl : (bs.map bE).length = i := by
  rw [h.map,List.length_take]
  unfold lists
  rw [List.length_map]
  omega
 have e : (lists T)[i]? = some x := by
  obtain ⟨r,hr⟩ := hx
  rw [<- hr,List.append_assoc,List.getElem?_append_right (by omega),hl,Nat.sub_self]
  rfl
 rw [lists_get hi] at e
 injection e with e
 rw [<- e] at hB
 exact hno B hB
theorem Read.end_ {b : St} {l : Bs} {T : List ByteArray} {bs : List Bt} (h : Read b l T T.length bs) (ha : Ans l (lists T)) : Opens b l bs := by
 have e : bs.map bE = lists T := by
  rw [h.map]
  refine List.take_of_length_le ?_
  unfold lists
  rw [List.length_map]
  exact Nat.le_refl _
 refine ⟨h.fit,h.short,lists T,ha,by rw [e]; exact List.prefix_refl _,fun x hx => ?_⟩
 rw [e] at hx
 have := hx.length_le
 rw [List.length_append,List.length_singleton] at this
 omega
theorem ready_more {b : St} {l : List Bt} {T : List TA} (hs : SafeS b) (hf : b.AllFit l) (hl : (recs l).length <= 262144) (hT : tbs T = (b.apps l).tb) {B : Bt} (hB : B.ok = true) : Ready T B.muts := by
 have hok := hs.ok.apps l hf
 refine ⟨by rw [hT]; exact hok.fit,by rw [hT]; exact hok.up,fun t k p hp => ?_⟩
 rw [hT] at hp
 have h1 := look_tot hok.tb t k B.muts
 rw [hp] at h1
 have h1 : p.tot <= totO (look (b.apps l).tb t k) + totM B.muts := h1
 have h2 : totO (look (b.apps l).tb t k) <= 300000 := by
  cases e : look (b.apps l).tb t k with
  | none => exact Nat.zero_le _
  | some q => exact apps_tot hs.ok.tb hs.pok hl t k q e
 have h3 := totM_few (l := B.muts) fun m hm => (mutB_comes ((ok_parts hB).1 m hm)).2.2.2
 have h4 := (ok_parts hB).2.1
 omega
theorem ready_more2 {b : St} {l : List Bt} {T : List TA} (hs : SafeS b) (hf : b.AllFit l) (hl : (recs l).length <= 262144) (hT : tbs T = (mutsOf l).foldl mutT []) {B : Bt} (hB : B.ok = true) : Ready T B.muts := by
 obtain ⟨h1,h2,h3⟩ := since_ok hs.ok hf
 refine ⟨by rw [hT]; exact h3,by rw [hT]; exact h2,fun t k p hp => ?_⟩
 rw [hT,look_new] at hp
 have h1' := h1
 rw [look_new] at h1'
 have h5 := look_tot h1' t k B.muts
 rw [hp] at h5
 have h5 : p.tot <= totO (look (St.new.apps l).tb t k) + totM B.muts := h5
 have h6 : totO (look (St.new.apps l).tb t k) <= 300000 := by
  cases e : look (St.new.apps l).tb t k with
  | none => exact Nat.zero_le _
  | some q => exact apps_tot TbOk.nil SafeS.new.pok hl t k q e
 have h7 := totM_few (l := B.muts) fun m hm => (mutB_comes ((ok_parts hB).1 m hm)).2.2.2
 have h8 := (ok_parts hB).2.1
 omega
theorem RdS.agree {w w' : World} {B n : Nat} {A : Option Addr} {l : List ByteArray} (h : RdS w B A n l) (ha : ∀ g o,A = some ⟨g,o,none⟩ -> g < B -> w'.heap[g]? = w.heap[g]?) : RdS w' B A n l :=
 ⟨h.1,fun hn => by
   obtain ⟨g,o,rfl,hg,hc⟩ := h.at2 hn
   exact ⟨⟨g,o,none⟩,rfl,hg,fun j hj => by rw [Addr.add_lit]; exact (cell_agree (ha g o rfl hg) _).trans (hc j hj)⟩⟩
theorem slay_ge : ∀ (n : Nat) (c : List UInt8) (r : Nat) (o : Bool),c.length <= n -> 0 < r -> c.length <= (Go.Proofs.YtmpcnhpdobdmcaaGreatDoor.lay r o c).length
 | n,c,r,o,hn,h0 => by
   by_cases hc : c.length <= r
   ·rw [lay_short hc,pc_length]; omega
   ·rw [lay_long h0 (by omega),List.length_append,pc_length,List.length_take]
    match n,hn with
    | 0,hn => omega
    | n + 1,hn =>
      have := slay_ge n (c.drop r) 122 false (by rw [List.length_drop]; omega) (by omega)
      rw [List.length_drop] at this
      omega
theorem rput_ge (p : Nat) (c : List UInt8) : c.length <= (put p c).length := by
 unfold put frm
 rw [List.length_append]
 have := slay_ge c.length c (rm p) true (Nat.le_refl _) (rm_pos p).1
 omega
theorem puts_ge : ∀ (l : List Bs) (p : Nat) (b : Bs),b ∈ l -> b.length <= (puts p l).length
 | [],p,b,h => by cases h
 | c :: l,p,b,h => by
   show _ <= (put _ _ ++ _).length
   rw [List.length_append]
   rcases List.mem_cons.1 h with rfl | h
   ·have := rput_ge p b
    omega
   ·have := puts_ge l (p + (put p c).length) b h
    omega
theorem replay_s (a0 a1 a2 a3 : Addr) (F : Nat -> Prop) (s d : Nat) (S : Sh) (b : St) (x : SP) (w : World) (h : StM w F s d S b.nt x) (hE : ErIn F w a0 a1 a2 a3) (hb : SafeS b) (hta : tbs x.Ta = b.tb) (hts : tbs x.Ts = []) (hS : S.log.length <= 262144) :
    Calls Tryz.prog 25 #[.pointer (some ⟨s,0,none⟩)] w fun e w' => ∃ (F' : Nat -> Prop) (x' : SP) (bs : List Bt),e = .returned (.int .i64 ((recs bs).length : Nat)) /\ StM w' F' s d S (b.apps bs).nt x' /\ x'.data = ((x.ma,x.ms,x.q),(x'.Ta,x'.Ts),(x.A,x.c,x.fl,x.last)) /\ tbs x'.Ta = (b.apps bs).tb /\ tbs x'.Ts = (mutsOf bs).foldl mutT [] /\ Opens b S.log bs /\ recs bs <+: S.log /\ ErIn F' w' a0 a1 a2 a3 /\ Step F w F' w' := by
 have hIW := hE.in_
 have c0 : w.cell? ⟨s,0,none⟩ = some (.pointer (some ⟨d,0,none⟩)) := cell_at (i := 0) h.blk rfl
 have hsz : (ByteArray.mk S.log.toArray).size <= 262144 := by show S.log.toArray.size <= 262144; rw [List.size_toArray]; exact hS
 have H := hid h; have HE := hid hE; have HB := hid hb; have HTA := hid hta; have HTS := hid hts; have HS := hid hS; have HI := hid hIW; have HZ := hid hsz
 clear h hE hb hta hts hIW hS hsz
 go_enter Tryz.func25,Tryz.ntmps25
 go_wp2_with fail
 refine (log_any x.Fd d S w H.out.disk).mono ?_
 rintro e w1 ⟨rfl,rfl⟩
 obtain ⟨c2,w2,hcv,hc1,hc2,hr2,hs2,b2⟩ := byt_any w ⟨S.log.toArray⟩ (by have := HZ.out; unfold maxLen; omega)
 have HR2 := hid hr2; have B2 := hid b2; have C1 := hid hc1; have C2 := hid hc2
 clear hr2 hs2 b2 hc1 hc2
 go_wp2_with fail
 refine (scan_anyQ (some ⟨w.heap.size,0,none⟩) (ByteArray.mk S.log.toArray).size c2 w2.heap.size S.log w2 HR2.out (Nat.le_refl _) C1.out C2.out (by have := HZ.out; omega)).mono ?_
 rintro e w3 ⟨A3,n3,c3,T,rfl,b3,hT,hnc,hcm,hA,hans,hge⟩
 have M3 := hid (H.out.below HE.out.in_ (B2.out.trans (b3.mono B2.out.size)))
 have E3 := hid (HE.out.below (B2.out.trans (b3.mono B2.out.size)))
 have B3 := hid (B2.out.trans (b3.mono B2.out.size))
 have TL := hid hT.1
 have hn3 : n3 <= maxLen := Nat.le_trans hnc hcm
 unfold maxLen at hn3
 have FT : Hid (∀ w',Kept F w3 w' -> RdS w' w3.heap.size A3 n3 T) := hid fun w' hk => hT.agree fun g o e hg => hk.block g hg fun hf => by have h1 := hge g o e; have h2 := HI.out g hf; have h3 := B2.out.size; omega
 have ANS := hid hans
 have QL : Hid (∀ t (ht : t < T.length),T[t].size <= 262144) := hid fun t ht => by
  have h1 := hans.1.length_le
  have h2 := puts_ge (lists T) 0 T[t].data.toList (by unfold lists; exact List.mem_map.2 ⟨_,List.getElem_mem ht,rfl⟩)
  have h4 : T[t].data.toList.length = T[t].size := rfl
  have := HS.out
  omega
 clear b3 hT hnc hcm hA hans hcv hge
 go_wp2_with fail
 go_loopw [5,24] (fun ev iv wr => ∃ (t : Nat) (F' : Nat -> Prop) (x' : SP) (bs : List Bt),t <= n3 /\ ev = .int .i64 ((recs bs).length : Nat) /\ iv = .int .i64 (t : Nat) /\ StM wr F' s d S (b.apps bs).nt x' /\ x'.data = ((x.ma,x.ms,x.q),(x'.Ta,x'.Ts),(x.A,x.c,x.fl,x.last)) /\ tbs x'.Ta = (b.apps bs).tb /\ tbs x'.Ts = (mutsOf bs).foldl mutT [] /\ Read b S.log T t bs /\ ErIn F' wr a0 a1 a2 a3 /\ Step F w3 F' wr) (fun _ iv _ => n3 - (intOf iv).toNat)
 case atStart => exact ⟨0,F,x,[],Nat.zero_le _,rfl,rfl,M3.out,rfl,HTA.out,HTS.out,Read.zero _ _ _,E3.out,Step.same (Kept.refl F w3)⟩
 case round =>
  obtain ⟨t,F',x',bs,ht,rfl,rfl,hM,hx,hta,hts,hrd,hE,hst⟩ := hrel
  have MR := hid hM; have XR := hid hx; have TAR := hid hta; have TSR := hid hts; have RDR := hid hrd; have ER := hid hE; have SR := hid hst
  have RL : Hid ((recs bs).length <= 262144) := hid (Nat.le_trans hrd.pre.length_le HS.out)
  clear hM hx hta hts hrd hE hst
  obtain ⟨rl,hrl⟩ : ∃ rl,(recs bs).length = rl := ⟨_,rfl⟩
  have RLE := hid hrl
  rw [hrl]
  clear hrl
  by_cases hlt : t < n3
  ·have i1 : (t : Int) < n3 := by omega
   have i0 : (0 : Int) <= t := by omega
   have htl : t < T.length := by rw [TL.out]; exact hlt
   obtain ⟨g0,o0,rfl,hg0,hcs⟩ := (FT.out wr SR.out.kept).at2 hlt
   have z0 := hcs t htl
   obtain ⟨q,hq⟩ : ∃ q,T[t] = q := ⟨_,rfl⟩
   have hqs := QL.out t htl
   rw [hq] at z0 hqs
   have HQ := hid hq; have HQS := hid hqs; have HTL := hid htl
   obtain ⟨c4,w4,hcv4,hc41,hc42,hr4,hs4,b4⟩ := byt_any wr q (by unfold maxLen; omega)
   have HR4 := hid hr4; have B4 := hid b4; have C41 := hid hc41; have C42 := hid hc42
   clear hcs hq hqs hg0 hr4 hs4 b4 hc41 hc42
   go_wp2_with fail
   refine (getBatch_any yinner _ _ c4 _ q.data.toList w4 HR4.out (Nat.le_refl _) C41.out C42.out (fun h => by cases h)).mono ?_
   intro e w5 hG
   obtain ⟨R,hR⟩ : ∃ R,getBatch q.data.toList = R := ⟨_,rfl⟩
   rw [hR] at hG
   have HRR := hid hR
   clear hR hcv4 z0
   cases R with
   | error c =>
     obtain ⟨rfl,b5⟩ := hG
     have B5 := hid b5
     have e0 : (c == 0) = false := by
      have := err_neB HRR.out
      simpa using this
     have b6 := (Below.refl w5.heap.size w5).alloc (Nat.le_refl _) (.cells #[.slice none 0 0,.slice none 0 0,.slice none 0 0] 40)
     have BW := hid ((B4.out.trans (b5.mono B4.out.size)).trans (b6.mono (Nat.le_trans B4.out.size b5.size)))
     clear b5 b6
     go_upto_region 7 with fail
     generalize w5.alloc (Obj.cells #[Value.slice none 0 0,Value.slice none 0 0,Value.slice none 0 0] 40) = w6 at BW ⊢
     go_wp2
     go_ret
     exact ⟨F',x',bs,by rw [RLE.out]; rfl,MR.out.below ER.out.in_ BW.out,XR.out,TAR.out,TSR.out,RDR.out.stop ANS.out HTL.out (fun B hB => by rw [HQ.out,HRR.out] at hB; cases hB),RDR.out.pre,ER.out.below BW.out,((Step.same (Kept.of_below B3.out F)).trans SR.out).trans (Step.same (Kept.of_below BW.out F'))⟩
   | ok B =>
     obtain ⟨z,hz,rfl,hq5,b5⟩ := hG
     subst hz
     have b6 := (Below.refl w5.heap.size w5).alloc (Nat.le_refl _) (bO z)
     have n6 := heap_alloc_new w5 (bO z)
     have BW := hid ((B4.out.trans (b5.mono B4.out.size)).trans (b6.mono (Nat.le_trans B4.out.size b5.size)))
     obtain ⟨g1,g2,g3,g4⟩ := getBatch_bE HRR.out
     have YB : Hid (∀ k,z.blk k -> w4.heap.size <= k /\ k < w5.heap.size) := hid fun k hk => ⟨hq5.blk hk,hq5.lies.lt hk⟩
     have Y6 := hid (hq5.lies.below b6)
     have BF := hid (btF_of g3 (n := 262144) (by omega) (by rw [g1]; exact g4))
     have GOK := hid g2; have GE := hid g1
     have WS5 := hid (Nat.le_trans B4.out.size b5.size)
     obtain ⟨W6,hW6⟩ : ∃ W,w5.alloc (bO z) = W := ⟨_,rfl⟩
     rw [hW6] at b6 n6 BW Y6
     have B6 := hid b6; have N6 := hid n6
     have M6 := hid (MR.out.below ER.out.in_ BW.out); have E6 := hid (ER.out.below BW.out)
     have HK6 : Hid (NOk (b.apps bs).nt) := hid (HB.out.ok.apps bs RDR.out.fit).nok
     have z0 := cell_at (i := 0) n6 rfl
     have z1 := cell_at (i := 1) n6 rfl
     have z2 := cell_at (i := 2) n6 rfl
     clear hq5 b5 b6 n6 g1 g2 g3 g4
     go_upto_region 7 with fail
     go_wp2_with fail
     refine (turned_s a0 a1 a2 a3 F' s d S (b.apps bs).nt x' z w5.heap.size W6 M6.out E6.out Y6.out B6.out.size BF.out HK6.out (fun _ => ready_more HB.out RDR.out.fit RL.out TAR.out GOK.out)).mono ?_
     rintro e w7 ⟨err,mo,rfl,hT⟩
     have b7 := hT.below
     have n7 := (b7.block w5.heap.size (Array.getElem?_eq_some_iff.1 N6.out).1).trans N6.out
     have z0 := cell_at (i := 0) n7 rfl
     have z1 := cell_at (i := 1) n7 rfl
     have z2 := cell_at (i := 2) n7 rfl
     by_cases hfit : (b.apps bs).Fits z.bt
     ·obtain ⟨f1,f2,f3⟩ := fits_all hfit
      have f1' : FitS ((muts z.M).foldl mutT (tbs x'.Ta)) := by rw [TAR.out]; exact f1
      obtain ⟨rfl,m,O,rfl,hO,hTu,hm,hr⟩ := hT.fits GOK.out f1' f2
      have hiF : ∀ k,F' k -> k < wr.heap.size := ER.out.in_
      have l1 := B4.out.size
      have l2 := WS5.out
      have l3 := B6.out.size
      have l4 := b7.size
      have l5 := BW.out.size
      have M7 := M6.out.below E6.out.in_ b7
      obtain ⟨ro,M8,hro⟩ := M7.adopt (allRows O) 5 fun k hk hf => by have := hr k hk; have := hiF k hf; omega
      have E8 : ErIn (fun k => F' k \/ allRows O k) w7 a0 a1 a2 a3 := ER.out.to (Kept.of_below (BW.out.trans (b7.mono l5)) F') (fun k hk => hk.elim (fun h => by have := hiF k h; omega) fun h => hO.rows_lt h) fun k hk => hk.imp id fun h => by have := hr k h; omega
      have st8 : Step F' wr (fun k => F' k \/ allRows O k) w7 := ⟨Kept.of_below (BW.out.trans (b7.mono l5)) F',fun k hk => hk.imp id fun h => ⟨by have := hr k h; omega,hO.rows_lt h⟩⟩
      have hyF : ∀ k,z.blk k -> ¬ (F' k \/ allRows O k) := fun k hk hf => by
       have h1 := YB.out k hk
       rcases hf with hf | hf
       ·have := hiF k hf; omega
       ·have := hr k hf; have : W6.heap.size <= k := this; omega
      have hmF : ∀ k,mapsF m O k -> ¬ (F' k \/ allRows O k) := fun k hk hf => by
       rcases hf with hf | hf
       ·have := hiF k hf; have : W6.heap.size <= k := hm k hk; omega
       ·obtain ⟨es,c,hb⟩ := hO.isMap hk
        exact hO.not_row hb hf rfl
      have hrow : ∀ k,allRows O k -> (F' k \/ allRows O k) /\ ro k = 5 := fun k hk => ⟨Or.inr hk,hro k hk⟩
      obtain ⟨F7,hF7⟩ : ∃ F7,(fun k => F' k \/ allRows O k) = F7 := ⟨_,rfl⟩
      have hyF : ∀ k,z.blk k -> ¬ F7 k := by rw [<- hF7]; exact hyF
      have hmF : ∀ k,mapsF m O k -> ¬ F7 k := by rw [<- hF7]; exact hmF
      have hrow : ∀ k,allRows O k -> F7 k /\ ro k = 5 := by rw [<- hF7]; exact hrow
      rw [hF7] at M8 E8 st8
      obtain ⟨X,hX,M9⟩ : ∃ X : SP,(X.data = x'.data /\ X.ro = ro) /\ StM w7 F7 s d S (b.apps bs).nt X := ⟨{ x' with ro := ro },⟨rfl,rfl⟩,M8⟩
      obtain ⟨e1,e2,e3,e4,e5,e6,e7,e8,e9⟩ := SP.data_eq hX.1
      have f5 := since_ok HB.out.ok (St.allFit_snoc.2 ⟨RDR.out.fit,hfit⟩)
      rw [mutsOf_snoc,List.foldl_append] at f5
      have rd2 : Ready x'.Ts (muts z.M) := ready_more2 HB.out RDR.out.fit RL.out TSR.out GOK.out
      have KS := keep_s a0 a1 a2 a3 F7 s d S (b.apps bs).nt X z w5.heap.size m O w7 M9 E8 (Y6.out.below (b7.mono l3)) (by omega) hyF GOK.out HK6.out hO (by rw [e4]; exact hTu) hmF (fun k hk => by rw [hX.2]; exact hrow k hk) (by rw [e4]; exact (ready_more HB.out RDR.out.fit RL.out TAR.out GOK.out : Ready x'.Ta (muts z.M)).fits) (by rw [e4]; exact f1') (by rw [e5]; exact rd2) (by rw [e5,TSR.out]; exact f5.2.2)
      rw [e1,e2,e3,e4,e5,e6,e7,e8,e9] at KS
      have KSH := hid KS; have ST8 := hid st8; have FIT := hid hfit
      clear KS st8 M7 M8 M9 E8 hro hrow hyF hmF hF7 hX e1 e2 e3 e4 e5 e6 e7 e8 e9 f5 rd2 f1 f1' f2 f3 hO hTu hm hr hT l1 l2 l3 l4 l5 hiF b7 n7 hfit hW6
      go_wp2_with fail
      refine KSH.out.mono ?_
      rintro e w8 ⟨rfl,F8,x8,T',T2,hM8,hx8,ht,ht2,hE8,hst8⟩
      have M8 := hid hM8; have X8 := hid hx8; have T8 := hid ht; have U8 := hid ht2; have E8 := hid hE8; have S8 := hid (SR.out.trans (ST8.out.trans hst8))
      clear hM8 hx8 ht ht2 hE8 hst8 KSH z0 z1 z2
      go_wp2_with fail
      refine (lay_s rl q w8 (by have := RL.out; have := RLE.out; omega) (by have := HQS.out; omega)).mono ?_
      rintro e w9 ⟨rfl,b9⟩
      have B9 := hid b9
      clear b9
      obtain ⟨p,hp⟩ : ∃ p,(⟨(put rl q.data.toList).toArray⟩ : ByteArray) = p := ⟨_,rfl⟩
      have RD2 := hid (RDR.out.next ANS.out HTL.out (by rw [HQ.out]; exact HRR.out) FIT.out)
      have hpl : (rl : Int) + (p.size : Int) = ((recs (bs ++ [z.bt])).length : Int) := by
       have h1 : p.size = (put rl q.data.toList).length := by rw [<- hp]; show (put rl q.data.toList).toArray.size = _; rw [List.size_toArray]
       have h2 := recs_snoc_le bs z.bt
       rw [GE.out,RLE.out] at h2
       omega
      have hpw : IntKind.i64.wrap ((rl : Int) + (p.size : Int)) = ((recs (bs ++ [z.bt])).length : Int) := by
       rw [hpl,IntKind.wrap_i64]
       have h1 := RD2.out.pre.length_le
       have h2 := HS.out
       omega
      rw [hp]
      have HPW := hid hpw
      clear hp hpl
      go_wp2
      go_roundw
      case rel =>
       obtain ⟨e1,e2,e3,e4,e5,e6,e7,e8,e9⟩ := SP.data_eq (y := { x' with Ta := T',Ts := T2 }) X8.out
       obtain ⟨d1,d2,d3,d4,d5,d6,d7,d8,d9⟩ := SP.data_eq (y := { x with Ta := x'.Ta,Ts := x'.Ts }) XR.out
       refine ⟨t + 1,F8,x8,bs ++ [z.bt],by omega,by rw [<- HPW.out],by go_num,?_,?_,?_,?_,RD2.out,E8.out.below B9.out,S8.out.trans (Step.same (Kept.of_below B9.out F8))⟩
       ·rw [St.apps_snoc]
        exact M8.out.below E8.out.in_ B9.out
       ·unfold SP.data
        rw [e1,e2,e3,e6,e7,e8,e9]
        show ((x'.ma,x'.ms,x'.q),(x8.Ta,x8.Ts),(x'.A,x'.c,x'.fl,x'.last)) = _
        rw [d1,d2,d3,d6,d7,d8,d9]
       ·rw [e4,T8.out,TAR.out,St.apps_snoc]; rfl
       ·rw [e5,U8.out,TSR.out,mutsOf_snoc,List.foldl_append]; rfl
      case measure => simp [intOf]; omega
     ·obtain rfl := hT.big GOK.out (fun h => hfit (fits_iff.2 ⟨GOK.out,h.2,by have := h.1; rw [TAR.out] at this; exact this⟩))
      have BW7 := hid (BW.out.trans (b7.mono BW.out.size)); have NF := hid hfit
      clear hT b7 n7 hfit hW6
      go_wp2
      go_ret
      exact ⟨F',x',bs,by rw [RLE.out]; rfl,MR.out.below ER.out.in_ BW7.out,XR.out,TAR.out,TSR.out,RDR.out.stop ANS.out HTL.out (fun B hB => by rw [HQ.out,HRR.out] at hB; injection hB with hB; rw [<- hB]; exact NF.out),RDR.out.pre,ER.out.below BW7.out,((Step.same (Kept.of_below B3.out F)).trans SR.out).trans (Step.same (Kept.of_below BW7.out F'))⟩
  ·obtain rfl : t = n3 := by omega
   have j1 : decide ((t : Int) < (t : Int)) = false := decide_eq_false (by omega)
   go_wp2
   go_ret
   have hrd := RDR.out
   have hT := TL.out
   subst hT
   exact ⟨F',x',bs,by rw [RLE.out]; rfl,MR.out,XR.out,TAR.out,TSR.out,hrd.end_ ANS.out,hrd.pre,ER.out,(Step.same (Kept.of_below B3.out F)).trans SR.out⟩
end Go.Proofs.YtmpcnhpdobdmcaaGreatDoor
namespace Go.Proofs.YtmpcnhpdobdmcaaGreatDoor
open Go Go.RowKit
section
variable {w w' : World} {B B' n : Nat} {A : Option Addr} {l : Fl}
theorem RdT.agree (h : RdT w B A n l) (ha : ∀ k,l ≠ [] -> BlkOf A k -> w'.heap[k]? = w.heap[k]?) : RdT w' B A n l :=
 ⟨h.1,fun hn => by
   obtain ⟨g,o,e,hg,hc⟩ := h.2 hn
   exact ⟨g,o,e,hg,fun j u hu => (cell_agree (ha g (ne_of_len h.1 hn) ⟨o,e⟩) _).trans (hc j u hu)⟩⟩
theorem RdT.lt (h : RdT w B A n l) {k : Nat} (hne : l ≠ []) (hk : BlkOf A k) : k < B := blkOf_lt (by rw [<- h.1]; exact List.length_pos_iff.2 hne) h.2 hk
end
end Go.Proofs.YtmpcnhpdobdmcaaGreatDoor
namespace Go.Proofs.YtmpcnhpdobdmcaaGreatDoor
open Go Go.RowKit
section
variable {w w' : World} {F : Nat -> Prop} {s d : Nat} {S : Sh} {nt : Fl} {x : SP}
theorem tb_made (w : World) : TbAt (w.alloc (.map #[] 0)) w.heap.size [] :=
 ⟨⟨trivial,fun x hx => (by cases hx),fun x hx => (by cases hx)⟩,World.ownsMap_made w Tryz.prog 9 elemM,fun x hx => (by cases hx),fun x hx => (by cases hx),fun x hx => (by cases hx),fun x hx => (by cases hx)⟩
theorem mapsF_nil {m k : Nat} (h : mapsF m [] k) : k = m := by
 rcases h with h | ⟨x,hx,_⟩
 ·exact h
 ·cases hx
theorem allRows_nil {k : Nat} (h : allRows [] k) : False := by
 obtain ⟨x,hx,_⟩ := h
 cases hx
theorem stm_new {w0 w : World} {Fd Fn : Nat -> Prop} {s d ma ms q : Nat} {S : Sh} (hd : ShIs w Fd d S) (hdi : ∀ k,Fd k -> k < w0.heap.size) (hn : NoIs w Fn q []) (hni : ∀ k,Fn k -> w0.heap.size <= k) (ha : TbAt w ma []) (hs : TbAt w ms [])
    (hb : w.heap[s]? = some (.cells #[.pointer (some ⟨d,0,none⟩),.map (some ma),.map (some ms),.pointer (some ⟨q,0,none⟩),.slice none 0 0,.int .i64 0] 70 (0,0)))
    (l1 : w0.heap.size <= ma) (l2 : w0.heap.size <= ms) (l3 : w0.heap.size <= s) (n1 : s ≠ ma) (n2 : s ≠ ms) (n3 : ma ≠ ms) (f1 : ¬ Fn s) (f2 : ¬ Fn ma) (f3 : ¬ Fn ms) :
    ∃ x : SP,StM w (fun k => Fd k \/ Fn k \/ k = s \/ k = ma \/ k = ms) s d S [] x /\ x.Ta = [] /\ x.Ts = [] /\ x.A = none /\ x.c = 0 /\ x.fl = [] /\ x.last = 0 := by
 refine ⟨⟨ma,ms,q,[],[],none,0,[],0,Fd,Fn,fun k => if k = s then 0 else if k = ma then 3 else if k = ms then 4 else if k < w0.heap.size then 1 else 2⟩,⟨hb,hd,hn,ha,hs,⟨rfl,fun h => absurd h (by simp)⟩,Nat.le_refl _,Or.inr (Or.inr (Or.inl rfl)),fun k hk => Or.inl hk,fun k hk => Or.inr (Or.inl hk),fun k hk => Or.inr (Or.inr (Or.inr (Or.inl (mapsF_nil hk)))),fun k hk => Or.inr (Or.inr (Or.inr (Or.inr (mapsF_nil hk)))),fun k hk => ?_,?_,fun k hk => ?_,fun k hk => ?_,fun k hk => ?_,fun k hk => ?_,fun k hk => ?_⟩,rfl,rfl,rfl,rfl,rfl,rfl⟩
 ·rcases hk with hk | hk | ⟨hk,_⟩
  ·exact (allRows_nil hk).elim
  ·exact (allRows_nil hk).elim
  ·exact absurd rfl hk
 ·show (if s = s then 0 else _) = 0
  rw [if_pos rfl]
 ·have := hdi k hk
  show (if k = s then 0 else if k = ma then 3 else if k = ms then 4 else if k < w0.heap.size then 1 else 2) = 1
  rw [if_neg (by omega),if_neg (by omega),if_neg (by omega),if_pos this]
 ·have := hni k hk
  show (if k = s then 0 else if k = ma then 3 else if k = ms then 4 else if k < w0.heap.size then 1 else 2) = 2
  rw [if_neg (fun e => f1 (by rw [<- e]; exact hk)),if_neg (fun e => f2 (by rw [<- e]; exact hk)),if_neg (fun e => f3 (by rw [<- e]; exact hk)),if_neg (by omega)]
 ·have : k = ma := mapsF_nil hk
  show (if k = s then 0 else if k = ma then 3 else if k = ms then 4 else if k < w0.heap.size then 1 else 2) = 3
  rw [if_neg (by omega),if_pos this]
 ·have : k = ms := mapsF_nil hk
  show (if k = s then 0 else if k = ma then 3 else if k = ms then 4 else if k < w0.heap.size then 1 else 2) = 4
  rw [if_neg (by omega),if_neg (by omega),if_pos this]
 ·rcases hk with hk | hk | ⟨hk,_⟩
  ·exact (allRows_nil hk).elim
  ·exact (allRows_nil hk).elim
  ·exact absurd rfl hk
end
end Go.Proofs.YtmpcnhpdobdmcaaGreatDoor
namespace Go.Proofs.YtmpcnhpdobdmcaaGreatDoor
open Go Go.RowKit
def QR (R : ByteArray -> St -> Prop) (A : Option Addr) (c : Nat) (fl : List Int) (last : Int) (fs : Fl) (man : ByteArray) (b : St) : Prop :=
 (A = none \/ ∃ g o,A = some ⟨g,o,none⟩) /\ fl = [] /\ last = 0 /\ fs = [] /\ R man b
def LoadR (R : ByteArray -> St -> Prop) : Prop := ∀ (a0 a1 a2 a3 : Addr) (F : Nat -> Prop) (s d : Nat) (S : Sh) (b : St) (x : SP) (w : World),StM w F s d S [] x -> ErIn F w a0 a1 a2 a3 -> SafeS b -> R S.man b -> x.A = none -> x.fl = [] -> x.last = 0 ->
    Calls Tryz.prog 22 #[.pointer (some ⟨s,0,none⟩)] w fun e w' => e = .returned .nilIface /\ ∃ F' x',StM w' F' s d S b.nt x' /\ x'.Ta = x.Ta /\ x'.Ts = x.Ts /\ (x'.A = none \/ ∃ g o,x'.A = some ⟨g,o,none⟩) /\ x'.fl = [] /\ x'.last = 0 /\ ErIn F' w' a0 a1 a2 a3 /\ Step F w F' w'
theorem cut_recs {S : Sh} {l : List Bt} (h : recs l <+: S.log) : S.cut ((recs l).length : Nat) = { S with log := recs l,syn := (recs l).length } := by
 have h1 := h.length_le
 unfold Sh.cut
 have hc : clip ((recs l).length : Nat) S.log.length = (recs l).length := by unfold clip; omega
 rw [hc]
 obtain ⟨r,hr⟩ := h
 have : S.log.take (recs l).length = recs l := by rw [<- hr,List.take_left]
 rw [this]
theorem load_new (F : Nat -> Prop) (s d : Nat) (S : Sh) (nt : Fl) (x : SP) (w : World) (h : StM w F s d S nt x) (hm : S.man = ⟨#[]⟩) :
    Calls Tryz.prog 22 #[.pointer (some ⟨s,0,none⟩)] w fun e w' => e = .returned .nilIface /\ w' = w := by
 have c0 : w.cell? ⟨s,0,none⟩ = some (.pointer (some ⟨d,0,none⟩)) := cell_at (i := 0) h.blk rfl
 have M := man_any x.Fd d S w h.disk
 rw [hm] at M
 have MH := hid M
 clear h hm M
 go_enter Tryz.func22,Tryz.ntmps22
 go_wp2_with fail
 refine MH.out.mono ?_
 rintro e w1 ⟨rfl,rfl⟩
 go_wp2
 go_ret
 exact ⟨rfl,rfl⟩
def R1 (man : ByteArray) (b : St) : Prop := man = ⟨#[]⟩ /\ b = St.new
theorem load1 : LoadR R1 := fun a0 a1 a2 a3 F s d S b x w h hE hs hq hA hfl hla => by
 obtain ⟨hm,rfl⟩ := hq
 refine (load_new F s d S [] x w h hm).mono ?_
 rintro e w' ⟨rfl,rfl⟩
 exact ⟨rfl,F,x,h,rfl,rfl,Or.inl hA,hfl,hla,hE,Step.same (Kept.refl F w')⟩
theorem open_s (R : ByteArray -> St -> Prop) (hR : ∀ man b,R man b -> b.tb = []) (hL : LoadR R) (F : Nat -> Prop) (d : Nat) (S : Sh) (b : St) (w : World) (hd : ShIs w F d S) (hE : InE F w) (he : ES (QR R) S.fs S.man b) :
    Calls Tryz.prog 6 #[.pointer (some ⟨d,0,none⟩)] w fun e w' => ∃ (s : Nat) (F' : Nat -> Prop) (S' : Sh) (l : List Bt),e = .returned (.tuple #[.pointer (some ⟨s,0,none⟩),.int .i64 0]) /\ Opens b S.log l /\ PS (QR R) w' F' s d S' b l /\ min S.syn S'.log.length <= S'.syn /\ Step F w F' w' := by
 obtain ⟨hs,hq⟩ := he
 obtain ⟨a0,a1,a2,a3,hE⟩ := hE
 have hfs : S.fs = [] := by obtain ⟨A,c,fl,last,_,_,_,h,_⟩ := hq; exact h
 have hRb : R S.man b := by obtain ⟨A,c,fl,last,_,_,_,_,h⟩ := hq; exact h
 have hbt := hR _ _ hRb
 have HRB := hid hRb
 clear hRb
 have hlog := hd.ok.log
 have hmk := @run_makeMap Tryz.prog
 have b1 := (Below.refl w.heap.size w).alloc (Nat.le_refl _) (.map #[] 0)
 have t1 := tb_made w
 obtain ⟨w1,hw1⟩ : ∃ w1,w.alloc (.map #[] 0) = w1 := ⟨_,rfl⟩
 rw [hw1] at b1 t1
 have s1 : w1.heap.size = w.heap.size + 1 := by rw [<- hw1]; simp
 have b2 := (Below.refl w1.heap.size w1).alloc (Nat.le_refl _) (.map #[] 0)
 have t2 := tb_made w1
 obtain ⟨w2,hw2⟩ : ∃ w2,w1.alloc (.map #[] 0) = w2 := ⟨_,rfl⟩
 rw [hw2] at b2 t2
 have s2 : w2.heap.size = w1.heap.size + 1 := by rw [<- hw2]; simp
 have T1 := hid t1; have T2 := hid t2; have B1 := hid b1; have B2 := hid b2; have S1 := hid s1; have S2 := hid s2
 have HD := hid hd; have HE := hid hE; have HS := hid hs; have HQ := hid hq; have HBT := hid hbt; have HFS := hid hfs; have HLOG := hid hlog
 clear hd hE hs hq hbt hfs hlog b1 t1 b2 t2 s1 s2
 go_enter Tryz.func6,Tryz.ntmps6
 go_wp2_with fail
 refine (dnew_any w2).mono ?_
 rintro e w3 ⟨q,Fn,rfl,hn,hni,hin,b3⟩
 have b4 := (Below.refl w3.heap.size w3).alloc (Nat.le_refl _) (.cells #[.pointer (some ⟨d,0,none⟩),.map (some w.heap.size),.map (some w1.heap.size),.pointer (some ⟨q,0,none⟩),.slice none 0 0,.int .i64 0] 70)
 have n4 := heap_alloc_new w3 (.cells #[.pointer (some ⟨d,0,none⟩),.map (some w.heap.size),.map (some w1.heap.size),.pointer (some ⟨q,0,none⟩),.slice none 0 0,.int .i64 0] 70)
 obtain ⟨w4,hw4⟩ : ∃ w4,w3.alloc (.cells #[.pointer (some ⟨d,0,none⟩),.map (some w.heap.size),.map (some w1.heap.size),.pointer (some ⟨q,0,none⟩),.slice none 0 0,.int .i64 0] 70) = w4 := ⟨_,rfl⟩
 rw [hw4] at b4 n4
 have l1 := S1.out
 have l2 := S2.out
 have l3 := b3.size
 have l4 := b4.size
 have bw3 : Below w.heap.size w w3 := (B1.out.trans (B2.out.mono B1.out.size)).trans (b3.mono (by omega))
 have bw4 : Below w.heap.size w w4 := bw3.trans (b4.mono bw3.size)
 have hd4 : ShIs w4 F d S := HD.out.kept (Kept.of_below bw4 (fun _ => False)) (fun _ h => h.elim) HE.out.in_
 have hn4 : NoIs w4 Fn q [] := hn.kept (Kept.of_below b4 (fun _ => False)) (fun _ h => h.elim) hin
 have t14 : TbAt w4 w.heap.size [] := T1.out.below ((B2.out.trans (b3.mono B2.out.size)).trans (b4.mono (by omega)))
 have t24 : TbAt w4 w1.heap.size [] := T2.out.below (b3.trans (b4.mono b3.size))
 have hlt4 := (Array.getElem?_eq_some_iff.1 n4).1
 obtain ⟨s,hsn⟩ : ∃ s,w3.heap.size = s := ⟨_,rfl⟩
 obtain ⟨x,hM,e1,e2,e3,e4,e5,e6⟩ := stm_new (w0 := w) hd4 HE.out.in_ hn4 (fun k hk => by have := hni k hk; omega) t14 t24 n4 (Nat.le_refl _) (by omega) (by omega) (by omega) (by omega) (by omega) (fun hf => Nat.lt_irrefl _ (hin _ hf)) (fun hf => by have := hni _ hf; omega) (fun hf => by have := hni _ hf; omega)
 obtain ⟨F4,hF4⟩ : ∃ F4,(fun k => F k \/ Fn k \/ k = w3.heap.size \/ k = w.heap.size \/ k = w1.heap.size) = F4 := ⟨_,rfl⟩
 have st4 : Step F w F4 w4 := ⟨Kept.of_below bw4 F,fun k hk => by
  rw [<- hF4] at hk
  rcases hk with hk | hk | hk | hk | hk
  ·exact Or.inl hk
  ·exact Or.inr ⟨by have := hni k hk; omega,Nat.lt_of_lt_of_le (hin k hk) l4⟩
  ·exact Or.inr ⟨by omega,by omega⟩
  ·exact Or.inr ⟨by omega,by omega⟩
  ·exact Or.inr ⟨by omega,by omega⟩⟩
 rw [hF4] at hM
 have hi4 : In F4 w4 := st4.in_ HE.out.in_
 have E4 : ErIn F4 w4 a0 a1 a2 a3 := HE.out.to st4.kept hi4 fun k hk => (st4.new k hk).imp id fun h => h.1
 rw [hsn] at hM
 have LQ := hid (hL a0 a1 a2 a3 F4 s d S b x w4 hM E4 HS.out HRB.out e3 e5 e6)
 have ST4 := hid st4; have X1 := hid e1; have X2 := hid e2
 clear hn hni hin b3 b4 n4 l1 l2 l3 l4 bw3 bw4 hd4 hn4 t14 t24 hlt4 hM e1 e2 e3 e4 e5 e6 hF4 st4 hi4 E4
 go_wp2_with fail
 try rw [hsn]
 refine LQ.out.mono ?_
 rintro e w5 ⟨rfl,F5,x5,hM5,e1,e2,e3,e4,e5,hE5,st5⟩
 have M5 := hid hM5; have E5 := hid hE5; have ST5 := hid (ST4.out.trans st5); have A5 := hid e3; have F5H := hid e4; have L5 := hid e5
 have RP := hid (replay_s a0 a1 a2 a3 F5 s d S b x5 w5 hM5 hE5 HS.out (by rw [e1,X1.out,HBT.out]; rfl) (by rw [e2,X2.out]; rfl) HLOG.out)
 clear hM5 e1 e2 e3 e4 e5 hE5 st5 hw1 hw2 hw4 hmk LQ
 go_wp2_with fail
 try rw [hsn]
 refine RP.out.mono ?_
 rintro e w6 ⟨F6,x6,bs,rfl,hM6,hx6,hta,hts,hop,hpre,hE6,st6⟩
 obtain ⟨n,hn⟩ : ∃ n,(recs bs).length = n := ⟨_,rfl⟩
 have hc := cut_recs hpre
 rw [hn] at hc
 have hnl : n <= 262144 := by have := hpre.length_le; have := HLOG.out; omega
 have CUT := scut_any x6.Fd d S (n : Nat) w6 hM6.disk (by omega)
 rw [hc] at CUT
 have CUTH := hid CUT; have M6 := hid hM6; have X6 := hid hx6; have TA := hid hta; have TS := hid hts; have OP := hid hop; have PRE := hid hpre; have E6 := hid hE6; have ST6 := hid (ST5.out.trans st6); have HN := hid hn
 rw [hn]
 clear CUT hc hM6 hx6 hta hts hop hpre hE6 st6 hn RP
 go_wp2_with fail
 refine CUTH.out.mono ?_
 rintro e w7 ⟨rfl,hd7,hk7⟩
 have M7 := M6.out.setDisk E6.out.in_ hd7 (Step.same hk7)
 have k7 : Kept F6 w6 w7 := hk7.mono M6.out.fd
 have E7 := E6.out.plus k7
 have c4 : w7.cell? ⟨s,4,none⟩ = some (.slice x6.A 0 x6.c) := by
  have := cell_at (i := 4) M7.blk rfl
  obtain ⟨d1,d2,d3,d4,d5,d6,d7,d8,d9⟩ := SP.data_eq (y := { x5 with Ta := x6.Ta,Ts := x6.Ts }) X6.out
  rw [show x6.fl = [] from d8.trans F5H.out] at this
  exact this
 have M7H := hid M7; have E7H := hid E7; have ST7 := hid (ST6.out.trans (Step.plus k7))
 clear hd7 hk7 M7 k7 E7 CUTH
 have b7 := (Below.refl w7.heap.size w7).drew
 have MD := hid (M7H.out.below E7H.out.in_ b7); have ED := hid (E7H.out.below b7)
 have SLT : Hid (s < w7.heap.size) := hid (E7H.out.in_ s M7H.out.fs)
 clear b7
 go_wp2_with fail
 go_region_held3 (fun w' => w'.cell? ⟨s,4,none⟩ = some (.slice x6.A 0 x6.c)) (assumption) (first
  | (go_at_call 27
     refine (nums_any _ d _ w7.drew MD.out.disk).mono ?_
     rintro e w8 ⟨v,rfl,ho,b8⟩
     have ho : w8.ownsRow w7.heap.size 3 1 v S.fs.length (iRow (numsF S.fs)) := ho
     rw [HFS.out] at ho
     obtain ⟨A8,c8,rfl,hc8,_⟩ := own_slice ho
     have g4 : w8.cell? ⟨s,4,none⟩ = some (.slice x6.A 0 x6.c) := (b8.cell (p := ⟨s,4,none⟩) SLT.out).trans c4
     have M8 := hid (MD.out.below ED.out.in_ b8); have E8 := hid (ED.out.below b8); have B8 : Hid (Below w7.heap.size w7 w8) := hid ((Below.refl w7.heap.size w7).drew.trans b8)
     clear ho b8 hc8)
  | (go_at_call 26
     refine (drop_s _ s d _ _ _ w8.heap.size A8 x6.A c8 x6.c 0 0 [] [] w8 M8.out E8.out.in_ ⟨rfl,fun h => absurd h (by simp)⟩ ⟨rfl,fun h => absurd h (by simp)⟩ (Nat.le_refl _) (fun k hne => absurd rfl hne) (fun k hne => absurd rfl hne) (by omega) (by omega) (fun v hv => by cases hv)).mono ?_
     rintro e w9 ⟨rfl,k9,x9,hx9,hfd9,M9⟩
     have k9' := k9.mono M8.out.fd
     have h4 : w9.cell? ⟨s,4,none⟩ = some (.slice x6.A 0 x6.c) := by
      have := cell_at (i := 4) M9.blk rfl
      obtain ⟨d1,d2,d3,d4,d5,d6,d7,d8,d9⟩ := SP.data_eq hx9
      obtain ⟨y1,y2,y3,y4,y5,y6,y7,y8,y9⟩ := SP.data_eq (y := { x5 with Ta := x6.Ta,Ts := x6.Ts }) X6.out
      rw [d6,d7,d8] at this
      rw [show x6.fl = [] from y8.trans F5H.out] at this
      exact this
     have M9H := hid M9; have K9 := hid k9'; have X9 := hid hx9
     clear k9 hx9 hfd9 M9 k9'))
 have fin : ∃ (s' : Nat) (F' : Nat -> Prop) (S' : Sh) (l : List Bt),s' = s /\ Opens b S.log l /\ PS (QR R) w9 F' s d S' b l /\ min S.syn S'.log.length <= S'.syn /\ Step F w F' w9 := by
  obtain ⟨d1,d2,d3,d4,d5,d6,d7,d8,d9⟩ := SP.data_eq X9.out
  obtain ⟨y1,y2,y3,y4,y5,y6,y7,y8,y9⟩ := SP.data_eq (y := { x5 with Ta := x6.Ta,Ts := x6.Ts }) X6.out
  have hl := PRE.out.length_le
  obtain ⟨qA,qc,qfl,qlast,q1,q2,q3,q4,q5⟩ := HQ.out
  refine ⟨s,_,{ S with log := recs bs,syn := n },bs,rfl,OP.out,⟨x9,M9H.out,⟨?_,?_,HS.out,OP.out.fit,OP.out.short,rfl,by have := HLOG.out; omega,⟨?_,?_,?_,q4,q5⟩⟩⟩,?_,?_⟩
  ·exact (congrArg tbs d4).trans TA.out
  ·exact (congrArg tbs d5).trans TS.out
  ·rw [show x9.A = x5.A from d6.trans y6]; exact A5.out
  ·rw [show x9.fl = x5.fl from d8.trans y8]; exact F5H.out
  ·rw [show x9.last = x5.last from d9.trans y9]; exact L5.out
  ·show min S.syn (recs bs).length <= n
   rw [HN.out]
   omega
  ·exact (ST7.out.trans (Step.same (Kept.of_below B8.out _))).trans (step_plus K9.out)
 have FIN := hid fin
 clear fin
 go_wp2
 go_ret2
 obtain ⟨s',F',S',l,rfl,h1,h2,h3,h4⟩ := FIN.out
 exact ⟨s',F',S',l,rfl,h1,h2,h3,h4⟩
end Go.Proofs.YtmpcnhpdobdmcaaGreatDoor
namespace Go.Proofs.YtmpcnhpdobdmcaaGreatDoor
open Go Go.RowKit
section
variable {R : ByteArray -> St -> Prop}
theorem devSC (h0 : R ⟨#[]⟩ St.new) (hR : ∀ man b,R man b -> b.tb = []) (hL : LoadR R) : DevSC (PS (QR R)) (ES (QR R)) where
 fresh := ⟨SafeS.new,none,0,[],0,Or.inl rfl,rfl,rfl,rfl,h0⟩
 kept := fun h hk ho hi => p_kept h hk ho hi
 shelf := fun h => p_shelf h
 says := fun h => p_says h
 open_ := open_s R hR hL
 apply := p_apply
 sync := p_sync
 get := p_get
 tables := p_tables
theorem devSR (h0 : R ⟨#[]⟩ St.new) (hR : ∀ man b,R man b -> b.tb = []) (hL : LoadR R) : DevSR (PS (QR R)) (ES (QR R)) where
 toDevSC := devSC h0 hR hL
 big := p_big
 parts := p_parts
end
theorem dev1R : DevSR (PS (QR R1)) (ES (QR R1)) := devSR ⟨rfl,rfl⟩ (fun _ _ h => by rw [h.2]; rfl) load1
end Go.Proofs.YtmpcnhpdobdmcaaGreatDoor
namespace Go.Proofs.YtmpcnhpdobdmcaaGreatDoor
open Go Go.RowKit
theorem srooms0 (parts tables rows : Int) (w : World) (hp : (Lit.int .i64 parts).wf = true) (ht : (Lit.int .i64 tables).wf = true) (hr : (Lit.int .i64 rows).wf = true) (hEB : EB w) :
    Calls Tryz.prog 3 #[.int .i64 parts,.int .i64 tables,.int .i64 rows] w fun e w' => e = .returned (.bool true) /\ Below w.heap.size w w' := srooms_law dev1R parts tables rows w hp ht hr hEB
end Go.Proofs.YtmpcnhpdobdmcaaGreatDoor
namespace Go.Proofs.YtmpcnhpdobdmcaaGreatDoor.lawStoreRooms
open Go Go.ChangeShapes Go.WideShapes Go.ChangeAt Go.RowKit
open Go.ChangeMaps (open_string shut_string)
theorem own : ownKnob Tryz.prog.godebug = none := by kernel_rfl
theorem laidOut : laidOutB Tryz.prog = true := by kernel_rfl
theorem lifted (os : Os) (started : os.Started) (H : Type) (enc : TypeId × Value -> H) :
    ReturnsInHanded {} Tryz.checked os 3 .any (fun w args => (Rows.storeRoomsSpec.pre enc Tryz.prog Tryz.f3 [] false w args /\ laidMetH Tryz.prog laid12 w) /\ sizedMet enc Tryz.prog Tryz.f3 (OpenSpec.ofChange Rows.storeRoomsSpec) false w args) (Rows.storeRoomsSpec.post enc Tryz.prog Tryz.f3 false true false false) := by
 refine returnsInHanded_of_change_and (C := Tryz.checked) (X := fun w _ => laidMetH Tryz.prog laid12 w) (fun _ _ _ hh h => h.of_heap hh) own started (by kernel_rfl) Tryz.func3
  (ChangeSpec.witness_shaped (enc := enc) (C := Tryz.checked) (os := os) (X := fun w _ => laidMetH Tryz.prog laid12 w) false (World.doorLaid Tryz.prog 400 os) #[.int .i64 0,.int .i64 0,.int .i64 0] 8 rfl (World.shaped_of_RefB (by kernel_rfl) (by kernel_rfl)) (by kernel_rfl) (by kernel_rfl) (by kernel_rfl) (door_met12 os _)) ?_
 intro W base args ds gs before hval0 hW _ _ hL _
 have hval : ∀ (j : Nat) t v,Tryz.f3.params[j]? = some t -> args[j]? = some v -> Value.okWide Tryz.prog W .any base t v := hval0
 have hW' := hW
 obtain ⟨p,q,hA0,hV,rfl,hfz,hnd⟩ := hW
 have hA : DataW.TrodAll enc Tryz.prog W 0 (fun _ => true) true Tryz.f3.params.toList args.toList ds p := hA0
 rw [Tryz.params3] at hA hval
 obtain ⟨v0,vs0,d0,ds0,p0,q0,hargs,rfl,rfl,h0,r0⟩ := trodAll_cons hA
 obtain ⟨v1,vs1,d1,ds1,p1,q1,rfl,rfl,rfl,h1,r1⟩ := trodAll_cons r0
 obtain ⟨v2,vs2,d2,ds2,p2,q2,rfl,rfl,rfl,h2,r2⟩ := trodAll_cons r1
 obtain ⟨rfl,rfl,rfl⟩ := trodAll_nil r2
 obtain rfl : args = #[v0,v1,v2] := by cases args; simp_all
 obtain ⟨rfl,rfl⟩ := trodVars_none hV
 obtain ⟨a0,rfl,rfl,rfl,w0⟩ := open_int Tryz.underlying3 (hval 0 3 v0 rfl rfl) h0
 obtain ⟨a1,rfl,rfl,rfl,w1⟩ := open_int Tryz.underlying3 (hval 1 3 v1 rfl rfl) h1
 obtain ⟨a2,rfl,rfl,rfl,w2⟩ := open_int Tryz.underlying3 (hval 2 3 v2 rfl rfl) h2
 clear hA0 hval0
 simp only [List.append_nil] at hW'
 refine (srooms0 a0 a1 a2 W w0 w1 w2 (four_of_laid hL)).mono fun e W' ⟨he,bel⟩ => ?_
 subst he
 exact ⟨_,rfl,_,_,_,[],_,[],hW',trodAll_mk1 (shut_bool Tryz.underlying4 _),(trodAll_cons_mk (shut_int Tryz.underlying3 w0) (trodAll_cons_mk (shut_int Tryz.underlying3 w1) (trodAll_cons_mk (shut_int Tryz.underlying3 w2) trodAll_mk0))),rfl,bel.frame _,fun h => by cases h⟩
theorem cl1 : (Rows.storeRoomsRow.inPlace == Tryz.prog.inPlace 3) = true := by kernel_rfl
theorem cl2 : (Rows.storeRoomsRow.unfollowed == Tryz.prog.unfollowed 3) = true := by kernel_rfl
theorem cl3 : (Rows.storeRoomsRow.recurses == Tryz.prog.recurses 3) = true := by kernel_rfl
theorem cl4 : (Rows.storeRoomsRow.named == Tryz.prog.varsNamed 3) = true := by kernel_rfl
theorem closed : joinedFacts Tryz.prog 3 Tryz.f3 Rows.storeRoomsSpec Rows.storeRoomsRow = true := by
 unfold joinedFacts
 simp only [cl1,cl2,cl3,cl4,Bool.and_true]
 kernel_rfl
theorem over : Rows.storeRoomsRow.holds Tryz.pinned (OpenSpec.ofChange Rows.storeRoomsSpec) :=
 OpenClaim.holds_of_wide 3 Tryz.f3 rfl rfl rfl rfl rfl rfl rfl ⟨rfl,rfl,rfl,rfl,rfl⟩ rfl rfl rfl rfl rfl (by kernel_rfl) Tryz.func3 closed
  (of_decide_eq_true (by kernel_rfl)) (by unfold Func.isWrapper; first | (rw [if_pos (by decide +kernel)]; kernel_rfl) | (rw [if_neg (by decide +kernel)]; exact ⟨rfl,rfl⟩))
  (fun os started H enc _ => lifted os started H enc)
theorem card_holds : Claim7.holds Tryz.pinned (.plain (OpenSpec.ofChange Rows.storeRoomsSpec)) Rows.storeRoomsCard :=
 Claim7.holds_tied_plain_at .later [] [.sentinel, .sentinel, .sentinel, .sentinel] true (true, "bdec852fc436cfa413b8b3a2e9ed6dc54196238c2cfdf4131d2d5fc9d9875c2a") true
  over (fun _ h => by cases h) (by kernel_rfl) (fun _ h => by cases h) storeRooms_row_tie rfl ⟨rfl,rfl⟩ (by kernel_rfl) rfl
  (fun f fn hf hfn => by
    obtain rfl : f = 3 := Option.some.inj ((show Tryz.prog.funcNamed "clerestory/clerestorylaw12.StoreRooms" = some 3 by kernel_rfl).symm.trans hf) |>.symm
    obtain rfl : fn = Tryz.f3 := (Option.some.inj (Tryz.func3.symm.trans hfn)).symm
    exact ⟨by kernel_rfl,fun j t ht => by
     rw [Tryz.params3] at ht
     have hm : t ∈ [3,3,3] := by simpa using Array.mem_of_getElem? ht
     have hall : ([3,3,3].all fun u => !Tryz.prog.wantsStandIn u) = true := by kernel_rfl
     exact (show Tryz.prog.wantsStandIn t = false by simpa using List.all_eq_true.1 hall t hm)⟩)
  (by kernel_rfl)
theorem proved : Rows.StoreRoomsCardSaid := card_holds
end Go.Proofs.YtmpcnhpdobdmcaaGreatDoor.lawStoreRooms
