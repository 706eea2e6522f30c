import Derived.Shelf.SlSortCmp.NoneTotal
import Derived.Sort.OwnSorted
import Derived.Test.YtmpcnhpdobdmcaaGreatDoorLawNotesW
set_option linter.unusedVariables false
set_option linter.unusedSimpArgs false
set_option maxHeartbeats 2000000
set_option maxRecDepth 8000
namespace Go.Proofs.YtmpcnhpdobdmcaaGreatDoor
open Go Go.RowKit
theorem sortn_none (p : Option Addr) (cap : Nat) (fv : Value) (w : World) :
    Calls Tryz.prog 63 #[.slice p 0 cap,fv] w fun e w' => e = .returned (.tuple #[]) /\ w = w' :=
 (AnyF.slices_SortFunc_none nsortLays p cap fv w).mono fun e w' ⟨h,h'⟩ => ⟨h,h'.symm⟩
theorem dall_any (F : Nat -> Prop) (p : Nat) (S : Fl) (w : World) (h : NoIs w F p S) (hk : NOk S) :
    Calls Tryz.prog 38 #[.pointer (some ⟨p,0,none⟩)] w fun e w' => ∃ (A : Option Addr) (n c : Nat),e = .returned (.slice A n c) /\ RdT w' w'.heap.size A n S /\ n <= c /\ Below w.heap.size w w' := by
 have hlen := hk.len
 have HU := Lib.hid hk.up
 obtain ⟨m,h⟩ := h
 have c0 := h.cell
 have H := Lib.hid h
 have hml := h.own.lt
 clear h hk
 go_enter Tryz.func38,Tryz.ntmps38
 go_wp2_with (at_range; refine wpList_range_own _ rfl _ 83 rfl 3 57 keyI Tryz.underlying83 elemD m _ _ rfl H.out.own ?_; intro w0 hrg0 hg0 hs0)
 go_frame
 go_loopw [3] (fun v wr => ∃ (left : Lit -> Bool) (cnt : Nat) (ss : Fl),wr.ranges Tryz.prog 3 elemD m w.heap.size S.length (mapD S) left cnt /\ ss.length + cnt <= S.length /\
     wr.ownsRow w.heap.size 57 2 v ss.length (tRow ss) /\ MetD S left ss /\ Below w.heap.size w wr)
  (fun _ wr => wr.rangeLeft m w.heap.size)
 case atStart =>
  exact ⟨_,_,[],hrg0,by rw [size_mapD]; simp,World.ownsRow_nil _ _ _ _,MetD.start _,(Below.refl _ _).grown hg0 (Nat.le_refl _) (fun j hj => by cases hj)⟩
 case round =>
  obtain ⟨left,cnt,ss,hrg,hcs,hrow,hC,hnx⟩ := hrel
  have hss : ss.length <= 300 := by omega
  go_wp2_with (at_next; refine wpList_next_ranges _ rfl _ rfl 3 keyI elemD (Value.int .i64) (fun z : Int × ByteArray => .agg #[.int .i64 z.1,.string z.2]) (fun key kl hk => by obtain ⟨x,rfl,_⟩ := Maps.keyOf_int_inv Tryz.underlying3 hk; exact ⟨x,rfl⟩) (fun v y hv => by obtain ⟨s,rfl,_⟩ := elemD_inv hv; exact ⟨s,rfl⟩) m w.heap.size _ _ _ _ rfl hrg ?_ ?_)
  ·intro hc0 hl0
   have hso := hC.perm HU.out hl0
   have HSO := Lib.hid hso
   clear hso hlen hcs
   rcases hrow.2 with ⟨rfl,hl00⟩ | ⟨g,cap,cur,rfl,hbase,hb,h1,h2,h3,h4⟩
   ·obtain rfl : ss = [] := List.eq_nil_of_length_eq_zero hl00
    obtain rfl : S = [] := List.eq_nil_of_length_eq_zero HSO.out.length_eq.symm
    go_wp2_with (go_at_call 63; refine (sortn_none none 0 _ _).mono ?_; rintro e w' ⟨rfl,rfl⟩)
    go_ret
    exact ⟨_,_,_,rfl,RdT.of_own hrow,Nat.le_refl _,hnx⟩
   ·have hc := sortn_any w.heap.size g cap S ss wr HU.out HSO.out hrow (by omega)
    clear hrow hb h3 h4
    go_wp2_with (go_at_call 63; refine hc.mono ?_; rintro e w' ⟨rfl,ho,hg⟩)
    go_ret
    exact ⟨_,_,_,rfl,RdT.of_own ho,h1,hnx.grown hg hnx.size (fun j hj => by cases hj; exact hbase)⟩
  ·intro x ci cs kl yd yp w2 cnt2 hkey hlk hv hat hrg2 hlt hg2 hs2 hen
   obtain ⟨x',ex,rfl,_⟩ := Maps.keyOf_int_inv Tryz.underlying3 hkey
   injection ex with _ ex
   subst ex
   have hv' : (encD (ci,cs),([] : List MemPlace)) = (yd,yp) := by injection hv
   injection hv' with hy _
   subst hy
   obtain ⟨hmem,hce⟩ := mem_of_atKey hat
   dsimp only at hce
   subst hce
   have hrow2 := hrow.kept hg2 (Or.inr (row_ne_iter hrow hrg).symm)
   have hr1 := one_rdT (w2.alloc (.cells #[.int .i64 ci,.string cs] 57)) ci cs
   rw [show (w2.alloc (.cells #[.int .i64 ci,.string cs] 57)).heap.size = w2.heap.size + 1 by simp] at hr1
   have HC := Lib.hid hmem
   have HR1 := Lib.hid hr1
   clear hr1 hs2 hat hmem hv
   go_wp2_with (at_builtin; refine list_ex rfl (.tmp 15) (.tmp 17) _ _ rfl _ _ rfl rfl (run_appT w.heap.size ((hrow2.alloc _).alloc _) HR1.out ?s1 ?s2) ?_)
   case s1 => omega
   case s2 => have := hnx.size; have := hg2.size; simp; omega
   intro v' w3 hown' hg3 hat3
   have hrg3 := ((hrg2.alloc _).alloc _).kept hg3 (row_ne_low hrow2 hml) (row_ne_iter hrow2 hrg2)
   go_wp2
   go_roundw
   case rel =>
    refine ⟨_,cnt2,ss ++ [(ci,cs)],hrg3,by simp; omega,by simpa using hown',hC.step HU.out HC.out hlk,?_⟩
    exact (((hnx.grown hg2 hnx.size (fun j hj => by cases hj; exact Nat.le_refl _)).alloc (by have := hnx.size; have := hg2.size; omega) _).alloc (by have := hnx.size; have := hg2.size; simp; omega) _).grown hg3 (by have := hnx.size; have := hg2.size; simp; omega) (fun j hj => (hrow2.lt j hj).1)
   case measure => rw [hrg3.left_eq,hrg.left_eq]; exact hlt
end Go.Proofs.YtmpcnhpdobdmcaaGreatDoor
