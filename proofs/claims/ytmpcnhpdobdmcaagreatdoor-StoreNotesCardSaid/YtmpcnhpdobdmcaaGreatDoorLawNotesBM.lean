import Derived.Shelf.SlicesE.Clone
import Derived.Test.YtmpcnhpdobdmcaaGreatDoorLawNotesBI
set_option linter.unusedVariables false
set_option linter.unusedSimpArgs false
namespace Go.Proofs.YtmpcnhpdobdmcaaGreatDoor
open Go Go.RowKit
theorem msum_any (s : ByteArray) (w : World) (hs : s.size <= maxLen) :
    Calls Tryz.prog 66 #[.string s] w fun e w' => e = .returned (.string (sumT s)) /\ Below w.heap.size w w' := by
 obtain ⟨v,hv⟩ : ∃ v,tgo 1 s.data.toList = v := ⟨_,rfl⟩
 obtain ⟨q,hq⟩ : ∃ q,sumT s = q := ⟨_,rfl⟩
 have hq2 : q.data.toList = be (tcut (v : Int)) 4 := by rw [<- hq]; unfold sumT; rw [hv]
 rw [hq]
 have HV := Lib.hid hv; have HQ := Lib.hid hq2
 clear hv hq hq2
 go_enter Tryz.func66,Tryz.ntmps66
 go_wp2_with fail
 refine (of_as s v _ hs HV.out).mono ?_
 rintro e w1 ⟨rfl,b1⟩
 go_wp2_with fail
 refine (bytes_as (v : Int) q _ HQ.out).mono ?_
 rintro e w2 ⟨rfl,b2⟩
 go_wp2
 go_ret
 exact ⟨rfl,b1.trans (b2.mono b1.size)⟩
def cloneZRen : Go.Shelf.Ren := ⟨fun | 41 => 96 | n => n,fun | 22 => 38 | 23 => 3 | 4 => 4 | n => n,fun | n => n⟩
theorem cloneZLays : Go.Proofs.SlLaysE0.n41 Tryz.prog cloneZRen := {
 mixed := by kernel_rfl
 f41 := ⟨Tryz.f96.name,by decide,Tryz.func96.trans (congrArg some (by kernel_rfl))⟩
 t4 := Tryz.underlying4
 a4 := Tryz.isAgg4
 z4 := Tryz.sizeOf4
 v4 := Tryz.zeroValue4
 t22 := Tryz.underlying38
 a22 := Tryz.isAgg38
 z22 := Tryz.sizeOf38
 v22 := Tryz.zeroValue38 }
theorem intsClone_any (B n c : Nat) (A : Option Addr) (l : List Int) (w : World) (h : RdZ w B A n l) (hA : A = none \/ ∃ g o,A = some ⟨g,o,none⟩) (hn : n <= 1000000) :
    Calls Tryz.prog 96 #[.slice A n c] w fun e w' => ∃ A' c',e = .returned (.slice A' n c') /\ w'.ownsRow w.heap.size 3 1 (.slice A' n c') n (zRow l) /\ Below w.heap.size w w' := by
 obtain ⟨i,hi,hz0,hz1,hz2⟩ := info_parts infoZi
 have hl := h.1
 cases A with
 | none =>
   have h0 : n = 0 := by
    rcases Nat.eq_zero_or_pos n with h1 | h1
    ·exact h1
    ·obtain ⟨g,o,e,_⟩ := h.2 h1
     cases e
   subst h0
   obtain rfl := List.eq_nil_of_length_eq_zero hl
   refine (AnyE.slices_Clone_nil cloneZLays 0 c w).mono fun e w' ⟨he,hw⟩ => ?_
   subst hw
   exact ⟨none,0,he,own_nilZ _ _,Below.refl _ _⟩
 | some ad =>
   obtain ⟨g,o,e,hc⟩ : ∃ g o,ad = ⟨g,o,none⟩ /\ ∀ j u,(zRow l)[j]? = some u -> w.cell? (ad.add j) = some u := by
    rcases Nat.eq_zero_or_pos n with h1 | h1
    ·rcases hA with hA | ⟨g,o,e⟩
     ·cases hA
     ·injection e with e
      exact ⟨g,o,e,h.allZ⟩
    ·obtain ⟨g,o,e,_⟩ := h.2 h1
     injection e with e
     exact ⟨g,o,e,h.allZ⟩
   subst e
   refine (AnyE.slices_Clone cloneZLays i (.int .i64 0) 1 8 hi hz0 hz1 hz2 rfl (by decide) Tryz.sizeOf3 g o n c (zRow l) w (by unfold zRow; rw [List.length_map,hl,Nat.mul_one]) (by unfold maxLen; omega) (by omega) (fun j u hj => ?_) (zRow_one' l)).mono fun e w' ⟨v',he,ho,_,hb⟩ => ?_
   ·have := hc j u hj
    rw [Addr.add_lit] at this
    exact this
   ·obtain ⟨A',c',rfl,_⟩ := own_slice ho
    exact ⟨A',c',he,ho,hb⟩
end Go.Proofs.YtmpcnhpdobdmcaaGreatDoor
