import Derived.Test.YtmpcnhpdobdmcaaGreatDoorLawNotesN
import Derived.Deep.DeepCutAuto
open Go.Lib (hid)
set_option linter.unusedVariables false
set_option linter.unusedSimpArgs false
set_option maxHeartbeats 4000000
namespace Go.Proofs.YtmpcnhpdobdmcaaGreatDoor
open Go Go.RowKit
instance : DecidableEq Ce := fun x y => decidable_of_iff _ (same_iff x y)
def Ro.same (x y : Ro) : Bool := x.key.toList == y.key.toList && (x.live.same y.live && (x.gone == y.gone && (x.shade == y.shade && decide (x.cols = y.cols))))
theorem rosame_iff (x y : Ro) : x.same y = true ↔ x = y := by
 unfold Ro.same
 rw [Bool.and_eq_true,Bool.and_eq_true,Bool.and_eq_true,Bool.and_eq_true,eqB_iff,same_iff,beq_iff_eq,beq_iff_eq,decide_eq_true_iff]
 constructor
 ·rintro ⟨h1,h2,h3,h4,h5⟩
  cases x; cases y; simp_all
 ·rintro rfl
  simp
theorem checkrow_any (k s : ByteArray) (d : Bool) (a e g h : Int) (A : Option Addr) (n c B : Nat) (l : Cols) (w : World) (hr : RdK w B A n l) (hB : B <= w.heap.size) (hn : n <= 1000000000000) (hf : Few l) (hs : s.size <= maxLen) :
    Calls Tryz.prog 244 #[.agg #[.string k,.string s,.bool d,.int .i64 a,.int .i64 e,.int .i64 g,.int .i64 h,.slice A n c]] w fun x w' => x = .returned (.bool (Ro.ok ⟨k,⟨s,d,a,e⟩,g,h,l⟩)) /\ Below w.heap.size w w' := by
 obtain ⟨r,hrr⟩ : ∃ r,Ro.ok ⟨k,⟨s,d,a,e⟩,g,h,l⟩ = r := ⟨_,rfl⟩
 rw [hrr]
 unfold Ro.ok at hrr
 simp only at hrr
 obtain ⟨u1,hu1⟩ : ∃ u,decide (k.size <= 400) = u := ⟨_,rfl⟩
 have hu1i : decide (((k.size : Nat) : Int) <= 400) = u1 := by rw [<- hu1]; simp; omega
 obtain ⟨u2,hu2⟩ : ∃ u,liveB ⟨s,d,a,e⟩ = u := ⟨_,rfl⟩
 obtain ⟨u3,hu3⟩ : ∃ u,stm g = u := ⟨_,rfl⟩
 obtain ⟨u4,hu4⟩ : ∃ u,stm h = u := ⟨_,rfl⟩
 obtain ⟨u5,hu5⟩ : ∃ u,(decide (l.length <= 8) && colsB l) = u := ⟨_,rfl⟩
 rw [hu1,hu2,hu3,hu4,hu5] at hrr
 have RR := hid hrr; have U2 := hid hu2; have U3 := hid hu3; have U4 := hid hu4; have U5 := hid hu5
 have bz := (Below.refl w.heap.size w).alloc (Nat.le_refl _) (.cells #[.string k,.string s,.bool d,.int .i64 a,.int .i64 e,.int .i64 g,.int .i64 h,.slice A n c] 45)
 have ro := RoAt.new w k s d a e g h A n c
 have BZ := hid bz; have RO_ := hid ro; have HR := hid (hr.below (bz.mono hB)); have HF := hid hf
 clear hrr hu2 hu3 hu4 hu5 bz ro hr hf
 obtain ⟨U,hU⟩ : ∃ U,U = w.alloc (.cells #[.string k,.string s,.bool d,.int .i64 a,.int .i64 e,.int .i64 g,.int .i64 h,.slice A n c] 45) := ⟨_,rfl⟩
 have hUs : U.heap.size = w.heap.size + 1 := by rw [hU]; simp
 rw [<- hU] at BZ RO_ HR
 have hall : ∀ w',Below U.heap.size U w' -> w'.cell? ⟨w.heap.size,0,none⟩ = some (.string k) /\ w'.cell? ⟨w.heap.size,1,none⟩ = some (.string s) /\ w'.cell? ⟨w.heap.size,2,none⟩ = some (.bool d) /\ w'.cell? ⟨w.heap.size,3,none⟩ = some (.int .i64 a) /\ w'.cell? ⟨w.heap.size,4,none⟩ = some (.int .i64 e) /\ w'.cell? ⟨w.heap.size,5,none⟩ = some (.int .i64 g) /\ w'.cell? ⟨w.heap.size,6,none⟩ = some (.int .i64 h) /\ w'.cell? ⟨w.heap.size,7,none⟩ = some (.slice A n c) := fun w' hb => RO_.out.below hb (by omega)
 have HALL := hid hall; have HUS := hid hUs
 obtain ⟨_,_,_,_,_,_,_,_⟩ := hall U (Below.refl _ _)
 clear hall hUs
 go_enter Tryz.func244,Tryz.ntmps244
 cases u1
 ·have hv : r = false := by rw [<- RR.out]; rfl
  subst hv
  subst hU
  go_wp2
  go_ret
  exact ⟨rfl,BZ.out⟩
 ·go_wp2_with fail
  rw [<- hU]
  refine (live_any _ _ _ _ _ hs).mono ?_
  rintro x w1 ⟨rfl,b1⟩
  rw [U2.out]
  have B1 := hid b1
  obtain ⟨_,_,_,_,_,_,_,_⟩ := HALL.out _ b1
  clear b1
  cases u2
  ·have hv : r = false := by rw [<- RR.out]; rfl
   subst hv
   go_wp2
   go_ret
   exact ⟨rfl,next BZ.out B1.out⟩
  ·go_wp2_with fail
   refine (rwstamp_any _ _).mono ?_
   rintro x w2 ⟨rfl,rfl⟩
   rw [U3.out]
   cases u3
   ·have hv : r = false := by rw [<- RR.out]; rfl
    subst hv
    go_wp2
    go_ret
    exact ⟨rfl,next BZ.out B1.out⟩
   ·go_wp2_with fail
    refine (rwstamp_any _ _).mono ?_
    rintro x w2 ⟨rfl,rfl⟩
    rw [U4.out]
    cases u4
    ·have hv : r = false := by rw [<- RR.out]; rfl
     subst hv
     go_wp2
     go_ret
     exact ⟨rfl,next BZ.out B1.out⟩
    ·have HR1 := hid (HR.out.below (B1.out.mono (by have := HUS.out; omega)))
     go_wp2_with fail
     refine (cols_any A n c B l _ HR1.out (by have := (next BZ.out B1.out).size; omega) hn HF.out).mono ?_
     rintro x w3 ⟨rfl,b3⟩
     rw [U5.out]
     have hv : u5 = r := by rw [<- RR.out]; rfl
     subst hv
     have B3 := hid (next (next BZ.out B1.out) b3)
     clear b3
     go_wp2
     go_ret
     exact ⟨rfl,B3.out⟩
end Go.Proofs.YtmpcnhpdobdmcaaGreatDoor
