import Derived.Test.YtmpcnhpdobdmcaaGreatDoorLawNotesD
import Derived.Test.YtmpcnhpdobdmcaaGreatDoorLawNotesA
import Derived.Test.YtmpcnhpdobdmcaaGreatDoorLawNotesO
import Derived.Lib.SmallJoins
import Derived.Deep.QuietTactic
import Derived.Deep.RegionLaw
set_option linter.unusedVariables false
set_option linter.unusedSimpArgs false
namespace Go.Proofs.YtmpcnhpdobdmcaaGreatDoor
open Go Go.RowKit
def RdI (w : World) (B : Nat) (A : Option Addr) (n : Nat) (l : List Int) : Prop := l.length = n /\ (0 < n -> ∃ g o,A = some ⟨g,o,none⟩ /\ g < B /\ ∀ j (hj : j < l.length),w.cell? ⟨g,o + j,none⟩ = some (.int .i64 l[j]))
theorem RdI.below' {w w' : World} {B n : Nat} {A : Option Addr} {l : List Int} (h : RdI w B A n l) (hb : Below B w w') : RdI w' B A n l :=
 ⟨h.1,fun hn => by
   obtain ⟨g,o,e,hg,hc⟩ := h.2 hn
   exact ⟨g,o,e,hg,fun j hj => (hb.cell (p := ⟨g,o + j,none⟩) hg).trans (hc j hj)⟩⟩
theorem dropsN_take (S : Fl) (D : List Int) {t : Nat} (h : t < D.length) : dropsN S (D.take (t + 1)) = delF (dropsN S (D.take t)) D[t] := by
 unfold dropsN
 rw [List.take_succ_eq_append_getElem h,List.foldl_append]
 rfl
end Go.Proofs.YtmpcnhpdobdmcaaGreatDoor
namespace Go.Proofs.YtmpcnhpdobdmcaaGreatDoor
open Go Go.RowKit
structure DevN (P : World -> (Nat -> Prop) -> Nat -> Fl -> Prop) : Prop where
 kept : ∀ {w w' : World} {F G : Nat -> Prop} {p : Nat} {S : Fl},P w G p S -> Kept F w w' -> Off F G -> In G w -> P w' G p S
 new : ∀ w : World,Calls Tryz.prog 21 #[] w fun e w' => ∃ (p : Nat) (F : Nat -> Prop),e = .returned (.pointer (some ⟨p,0,none⟩)) /\ P w' F p [] /\ (∀ k,F k -> w.heap.size <= k) /\ In F w' /\ Below w.heap.size w w'
 add : ∀ (F : Nat -> Prop) (p : Nat) (S : Fl) (n : Int) (b : ByteArray) (w : World),P w F p S -> In F w -> NOk S -> (Lit.int .i64 n).wf = true -> b.size <= maxLen ->
  Calls Tryz.prog 42 #[.pointer (some ⟨p,0,none⟩),.agg #[.int .i64 n,.string b]] w fun e w' => e = .returned (.bool (addN S n b).2) /\ ∃ F',P w' F' p (addN S n b).1 /\ Step F w F' w'
 drop : ∀ (F : Nat -> Prop) (p : Nat) (S : Fl) (n : Int) (w : World),P w F p S -> In F w -> NOk S -> (Lit.int .i64 n).wf = true ->
  Calls Tryz.prog 80 #[.pointer (some ⟨p,0,none⟩),.int .i64 n] w fun e w' => e = .returned (.bool (hasF S n)) /\ ∃ F',P w' F' p (delF S n) /\ Step F w F' w'
 get : ∀ (F : Nat -> Prop) (p : Nat) (S : Fl) (n : Int) (w : World),P w F p S -> In F w -> NOk S -> (Lit.int .i64 n).wf = true ->
  Calls Tryz.prog 37 #[.pointer (some ⟨p,0,none⟩),.int .i64 n] w fun e w' => e = .returned (.tuple #[.string (getF S n),.bool (hasF S n)]) /\ Below w.heap.size w w'
 all : ∀ (F : Nat -> Prop) (p : Nat) (S : Fl) (w : World),P w F p S -> In F w -> NOk S ->
  Calls Tryz.prog 38 #[.pointer (some ⟨p,0,none⟩)] w fun e w' => ∃ (A : Option Addr) (n c : Nat),e = .returned (.slice A n c) /\ RdT w' w'.heap.size A n S /\ n <= c /\ Below w.heap.size w w'
 fits : ∀ (F : Nat -> Prop) (p : Nat) (S : Fl) (Aa Ad : Option Addr) (na ca nd cd B : Nat) (L : Fl) (D : List Int) (w : World),P w F p S -> In F w -> NOk S -> RdT w B Aa na L -> RdI w B Ad nd D -> B <= w.heap.size ->
  (∀ x ∈ L,(Lit.int .i64 x.1).wf = true /\ x.2.size <= maxLen) -> (∀ x ∈ D,(Lit.int .i64 x).wf = true) -> na <= 1000 -> nd <= 1000 -> na <= ca -> nd <= cd ->
  Calls Tryz.prog 78 #[.pointer (some ⟨p,0,none⟩),.slice Aa na ca,.slice Ad nd cd] w fun e w' => e = .returned (.bool (fitN (dropsN S D) L)) /\ Below w.heap.size w w'
variable {P : World -> (Nat -> Prop) -> Nat -> Fl -> Prop}
section
variable {W0 w w' : World} {F F' G G' : Nat -> Prop} {p q : Nat} {S S' R R' : Fl}
end
end Go.Proofs.YtmpcnhpdobdmcaaGreatDoor
