import Derived.OpenShut
import Derived.Test.YtmpcnhpdobdmcaaGreatDoorLawNotesF
import Derived.Stop.Asserts
set_option linter.unusedVariables false
set_option linter.unusedSimpArgs false
set_option maxHeartbeats 800000
set_option maxRecDepth 20000
namespace Go.Proofs.YtmpcnhpdobdmcaaGreatDoor
open Go Go.RowKit
theorem mk_eq (l : List UInt8) (q : ByteArray) (h : q.data.toList = l) : (⟨l.toArray⟩ : ByteArray) = q := by
 rw [<- h]
theorem ba_ext {a b : ByteArray} (h : a.data.toList = b.data.toList) : a = b := by
 rw [<- mk_eq _ b rfl,<- mk_eq _ a rfl,h]
theorem place_any (v n : Int) (w : World) (hn : 1 <= n) (hn2 : n <= 4611686018427387904) (hv : -9223372036854775808 <= v /\ v <= 9223372036854775807) :
    Calls Tryz.prog 8 #[.int .i64 v,.int .i64 n] w fun e w' => e = .returned (.int .i64 (v % n)) /\ w = w' := by
 obtain ⟨hv1,hv2⟩ := hv
 have hb : (n == 0) = false := by simp; omega
 by_cases h0 : 0 <= v
 ·have h1 := Int.emod_nonneg v (show n ≠ 0 by omega)
  go_enter Tryz.func8,Tryz.ntmps8
  go_wp2
  go_ret
  exact ⟨rfl,rfl⟩
 ·have hm : v.tmod n = -((-v) % n) := by
   obtain ⟨u,rfl⟩ : ∃ u,v = -u := ⟨-v,by omega⟩
   rw [Int.neg_tmod,Int.tmod_eq_emod_of_nonneg (by omega),Int.neg_neg]
  have h1 := Int.emod_nonneg (-v) (show n ≠ 0 by omega)
  have h2 := Int.emod_lt_of_pos (-v) (show 0 < n by omega)
  have h3 := Int.emod_nonneg v (show n ≠ 0 by omega)
  have h4 := Int.emod_lt_of_pos v (show 0 < n by omega)
  obtain ⟨r,hr⟩ : ∃ r,v.tmod n = r := ⟨_,rfl⟩
  have hdm := Int.mul_ediv_add_emod v n
  have hdm2 := Int.mul_ediv_add_emod (-v) n
  have hsum : v % n = (if r < 0 then r + n else r) := by
   rw [<- hr,hm]
   have e : v % n = (-(-v)) % n := by rw [Int.neg_neg]
   rw [e]
   by_cases hz : (-v) % n = 0
   ·rw [hz]
    have : n ∣ -v := Int.dvd_of_emod_eq_zero hz
    rw [Int.emod_eq_zero_of_dvd (Int.dvd_neg.2 this)]
    simp
   ·rw [if_pos (by omega)]
    have h5 := Int.neg_emod (a := -v) (b := n)
    rw [h5]
    split
    ·rename_i hd
     exact absurd (Int.emod_eq_zero_of_dvd hd) hz
    ·rw [Int.natAbs_of_nonneg (by omega)]
     omega
  rw [hm] at hr
  have HS := Lib.hid hsum
  have HM := Lib.hid hm
  have hr2 : -n < r /\ r <= 0 := by omega
  obtain ⟨hr3,hr4⟩ := hr2
  have hr' : v.tmod n = r := by rw [hm,hr]
  clear hdm hdm2 hsum hm h1 h2 h3 h4
  clear hr
  go_enter Tryz.func8,Tryz.ntmps8
  go_wp2
  ·go_ret
   exact ⟨by rw [HS.out,if_pos (by assumption)]; rfl,rfl⟩
  ·go_ret
   exact ⟨by rw [HS.out,if_neg (by omega)]; rfl,rfl⟩
structure Ce where
 s : ByteArray
 d : Bool
 a : Int
 e : Int
def icmp (x y : Int) : Int := if x < y then -1 else if y < x then 1 else 0
def bcmp (x y : Bool) : Int := if x = y then 0 else if x = true then 1 else -1
def tcmp (s t : ByteArray) : Int := if s.data.toList < t.data.toList then -1 else if t.data.toList < s.data.toList then 1 else 0
def lexI (x y : Int) : Int := if x = 0 then y else x
def Ce.cmp (x y : Ce) : Int := lexI (icmp x.a y.a) (lexI (bcmp x.d y.d) (lexI (tcmp x.s y.s) (lexI (bcmp (x.e == 0) (y.e == 0)) (icmp x.e y.e))))
def Ce.v (c : Ce) : Value := .agg #[.string c.s,.bool c.d,.int .i64 c.a,.int .i64 c.e]
def Ce.join (x y : Ce) : Ce := if x.cmp y < 0 then y else x
def Ce.same (x y : Ce) : Bool := x.s.toList == y.s.toList && (x.d == y.d && (x.a == y.a && x.e == y.e))
structure Tot {α : Type} (f : α -> α -> Int) : Prop where
 anti : ∀ x y,f y x = -f x y
 trans : ∀ x y z,f x y <= 0 -> f y z <= 0 -> f x z <= 0
 cong : ∀ x y z,f x y = 0 -> f x z = f y z
 low : ∀ x y,-1 <= f x y
theorem icmp_zero {x y : Int} : icmp x y = 0 ↔ x = y := by unfold icmp; omega
theorem icmp_tot : Tot icmp :=
 ⟨fun x y => by unfold icmp; omega,fun x y z => by unfold icmp; omega,fun x y z h => by rw [icmp_zero.1 h],fun x y => by unfold icmp; omega⟩
theorem bcmp_zero {x y : Bool} : bcmp x y = 0 ↔ x = y := by cases x <;> cases y <;> decide
theorem bcmp_tot : Tot bcmp :=
 ⟨by decide,by decide,fun x y z h => by rw [bcmp_zero.1 h],by decide⟩
theorem lt_irr' (l : List UInt8) : ¬ l < l := List.lt_irrefl l
theorem lt_tr {l m n : List UInt8} (h : l < m) (h' : m < n) : l < n := List.lt_trans h h'
theorem lt_or {l m : List UInt8} (h : ¬ l < m) (h' : ¬ m < l) : l = m := List.le_antisymm (List.not_lt.1 h') (List.not_lt.1 h)
theorem tcmp_zero {x y : ByteArray} : tcmp x y = 0 ↔ x = y := by
 unfold tcmp
 constructor
 ·intro h
  split at h
  ·cases h
  ·split at h
   ·cases h
   ·exact ba_ext (lt_or ‹_› ‹_›)
 ·rintro rfl
  rw [if_neg (lt_irr' _),if_neg (lt_irr' _)]
theorem tcmp_le {x y : ByteArray} : tcmp x y <= 0 ↔ ¬ y.data.toList < x.data.toList := by
 unfold tcmp
 split
 ·rename_i h
  exact ⟨fun _ h' => lt_irr' _ (lt_tr h h'),fun _ => by decide⟩
 ·split
  ·rename_i h
   exact ⟨fun h' => absurd h' (by decide),fun h' => absurd h h'⟩
  ·rename_i h
   exact ⟨fun _ => h,fun _ => by decide⟩
theorem tcmp_tot : Tot tcmp := by
 refine ⟨fun x y => ?_,fun x y z h h' => ?_,fun x y z h => by rw [tcmp_zero.1 h],fun x y => ?_⟩
 ·unfold tcmp
  by_cases h1 : x.data.toList < y.data.toList
  ·rw [if_pos h1,if_neg fun h' => lt_irr' _ (lt_tr h1 h'),if_pos h1]
   rfl
  ·by_cases h2 : y.data.toList < x.data.toList
   ·rw [if_pos h2,if_neg h1,if_pos h2]
   ·rw [if_neg h1,if_neg h2,if_neg h2,if_neg h1]
    rfl
 ·rw [tcmp_le] at *
  intro hzx
  by_cases hxy : x.data.toList < y.data.toList
  ·exact h' (lt_tr hzx hxy)
  ·exact h' ((lt_or hxy h) ▸ hzx)
 ·unfold tcmp; split
  ·decide
  ·split <;> decide
theorem Tot.on {α β : Type} {f : α -> α -> Int} (h : Tot f) (p : β -> α) : Tot fun x y => f (p x) (p y) :=
 ⟨fun _ _ => h.anti _ _,fun _ _ _ => h.trans _ _ _,fun _ _ _ => h.cong _ _ _,fun _ _ => h.low _ _⟩
theorem Tot.lex {α : Type} {f g : α -> α -> Int} (hf : Tot f) (hg : Tot g) : Tot fun x y => lexI (f x y) (g x y) := by
 refine ⟨fun x y => ?_,fun x y z => ?_,fun x y z => ?_,fun x y => ?_⟩
 ·have := hf.anti x y; have := hg.anti x y; simp only [lexI]; split <;> split <;> omega
 ·intro h h'
  simp only [lexI] at h h' ⊢
  have f1 : f x y <= 0 := by split at h <;> omega
  have f2 : f y z <= 0 := by split at h' <;> omega
  have f3 := hf.trans _ _ _ f1 f2
  split
  ·rename_i e
   have e1 := hf.cong _ _ y e
   have e2 := hf.anti y z
   have e3 : f x y = 0 := by omega
   have e4 := hf.cong _ _ z e3
   rw [if_pos e3] at h
   rw [if_pos (by omega)] at h'
   exact hg.trans _ _ _ h h'
  ·exact f3
 ·intro h
  simp only [lexI] at h ⊢
  have f1 : f x y = 0 := by split at h <;> omega
  rw [if_pos f1] at h
  rw [hf.cong _ _ z f1,hg.cong _ _ z h]
 ·have := hf.low x y; have := hg.low x y; simp only [lexI]; split <;> omega
theorem lexI_zero {x y : Int} : lexI x y = 0 ↔ x = 0 /\ y = 0 := by unfold lexI; split <;> omega
theorem cmp_tot : Tot Ce.cmp :=
 (icmp_tot.on Ce.a).lex ((bcmp_tot.on Ce.d).lex ((tcmp_tot.on Ce.s).lex ((bcmp_tot.on fun c => c.e == 0).lex (icmp_tot.on Ce.e))))
theorem cmp_zero {x y : Ce} : x.cmp y = 0 ↔ x = y := by
 unfold Ce.cmp
 rw [lexI_zero,lexI_zero,lexI_zero,lexI_zero,icmp_zero,bcmp_zero,tcmp_zero,icmp_zero,bcmp_zero]
 constructor
 ·rintro ⟨h1,h2,h3,_,h5⟩
  cases x; cases y; simp_all
 ·rintro rfl
  simp
theorem cmp_self (x : Ce) : x.cmp x = 0 := cmp_zero.2 rfl
theorem same_iff (x y : Ce) : x.same y = true ↔ x = y := by
 unfold Ce.same
 rw [Bool.and_eq_true,Bool.and_eq_true,Bool.and_eq_true,beq_iff_eq,beq_iff_eq,beq_iff_eq,beq_iff_eq,Lib.toList_data,Lib.toList_data]
 constructor
 ·rintro ⟨h1,h2,h3,h4⟩
  have := ba_ext h1
  cases x; cases y; simp_all
 ·rintro rfl
  simp
theorem join_or (x y : Ce) : x.join y = x \/ x.join y = y := by unfold Ce.join; split <;> simp
theorem join_le (x y : Ce) : x.cmp (x.join y) <= 0 /\ y.cmp (x.join y) <= 0 := by
 unfold Ce.join
 have := cmp_tot.anti x y
 have := cmp_self x
 have := cmp_self y
 split <;> omega
theorem cmp_anti (x y : Ce) (h : x.cmp y <= 0) (h' : y.cmp x <= 0) : x = y := by
 have := cmp_tot.anti x y
 exact cmp_zero.1 (by omega)
theorem join_least (x y z : Ce) (h : x.cmp z <= 0) (h' : y.cmp z <= 0) : (x.join y).cmp z <= 0 := by
 rcases join_or x y with e | e <;> rw [e] <;> assumption
theorem join_comm (x y : Ce) : x.join y = y.join x :=
 cmp_anti _ _ (join_least _ _ _ (join_le y x).2 (join_le y x).1) (join_least _ _ _ (join_le x y).2 (join_le x y).1)
theorem join_assoc (x y z : Ce) : (x.join y).join z = x.join (y.join z) := by
 have t := cmp_tot.trans
 refine cmp_anti _ _ (join_least _ _ _ (join_least _ _ _ (join_le _ _).1 ?_) ?_) (join_least _ _ _ ?_ (join_least _ _ _ ?_ ?_))
 ·exact t _ _ _ (join_le y z).1 (join_le _ _).2
 ·exact t _ _ _ (join_le y z).2 (join_le _ _).2
 ·exact t _ _ _ (join_le x y).1 (join_le _ _).1
 ·exact t _ _ _ (join_le x y).2 (join_le _ _).1
 ·exact (join_le _ _).2
theorem join_self (x : Ce) : x.join x = x := (join_or x x).elim id id
def nlt (a b : ByteArray) : Prop := a.data.toList < b.data.toList
theorem nlt_irr (a : ByteArray) : ¬ nlt a a := lt_irr' _
theorem nlt_tr {a b c : ByteArray} (h : nlt a b) (h' : nlt b c) : nlt a c := lt_tr h h'
theorem nlt_or (a b : ByteArray) : nlt a b \/ a = b \/ nlt b a := by
 by_cases h : nlt a b
 ·exact .inl h
 ·by_cases h' : nlt b a
  ·exact .inr (.inr h')
  ·exact .inr (.inl (ba_ext (lt_or h h')))
theorem nlt_ne {a b : ByteArray} (h : nlt a b) : a ≠ b := fun e => nlt_irr _ (e ▸ h)
instance (a b : ByteArray) : Decidable (nlt a b) := by unfold nlt; infer_instance
def noC : Ce := ⟨⟨#[]⟩,false,0,0⟩
def Has (c : Ce) : Prop := 1 <= c.a \/ c = noC
theorem no_lt {c : Ce} (h : 1 <= c.a) : noC.cmp c < 0 := by
 unfold Ce.cmp
 rw [show icmp noC.a c.a = -1 from by unfold icmp noC; simp only; omega]
 unfold lexI
 rw [if_neg (by decide)]
 decide
theorem join_no {c : Ce} (h : Has c) : c.join noC = c := by
 rcases h with h | rfl
 ·unfold Ce.join
  have := no_lt h
  have := cmp_tot.anti noC c
  rw [if_neg (by omega)]
 ·exact join_self _
theorem no_join {c : Ce} (h : Has c) : noC.join c = c := by rw [join_comm,join_no h]
theorem has_join {c d : Ce} (h : Has c) (h' : Has d) : Has (c.join d) := by rcases join_or c d with e | e <;> rw [e] <;> assumption
theorem join_a {c d : Ce} (h : 1 <= c.a) (h' : 1 <= d.a) : 1 <= (c.join d).a := by rcases join_or c d with e | e <;> rw [e] <;> assumption
abbrev Cols := List (ByteArray × Ce)
def getC : Cols -> ByteArray -> Ce
 | [],_ => noC
 | (m,c) :: l,n => if m = n then c else getC l n
def Rise : Cols -> Prop
 | [] => True
 | (m,_) :: l => (∀ x ∈ l,nlt m x.1) /\ Rise l
def Full (l : Cols) : Prop := ∀ x ∈ l,1 <= x.2.a
theorem Full.tail {x : ByteArray × Ce} {l : Cols} (h : Full (x :: l)) : Full l := fun y hy => h y (List.mem_cons_of_mem _ hy)
theorem Full.head {x : ByteArray × Ce} {l : Cols} (h : Full (x :: l)) : 1 <= x.2.a := h x (List.mem_cons_self ..)
theorem getC_none : ∀ {l : Cols} {n : ByteArray},(∀ x ∈ l,x.1 ≠ n) -> getC l n = noC
 | [],_,_ => rfl
 | (m,c) :: l,n,h => by
   show (if m = n then c else getC l n) = noC
   rw [if_neg (h (m,c) (List.mem_cons_self ..))]
   exact getC_none fun x hx => h x (List.mem_cons_of_mem _ hx)
theorem getC_low {l : Cols} {n : ByteArray} (h : ∀ x ∈ l,nlt n x.1) : getC l n = noC := getC_none fun x hx => (nlt_ne (h x hx)).symm
theorem getC_has : ∀ {l : Cols},Full l -> ∀ n,Has (getC l n)
 | [],_,_ => .inr rfl
 | (m,c) :: l,h,n => by
   show Has (if m = n then c else getC l n)
   split
   ·exact .inl h.head
   ·exact getC_has h.tail n
theorem getC_head (m : ByteArray) (c : Ce) (l : Cols) : getC ((m,c) :: l) m = c := if_pos rfl
theorem getC_next {m n : ByteArray} (c : Ce) (l : Cols) (h : m ≠ n) : getC ((m,c) :: l) n = getC l n := if_neg h
theorem cols_ext : ∀ {l k : Cols},Rise l -> Rise k -> Full l -> Full k -> (∀ n,getC l n = getC k n) -> l = k
 | [],[],_,_,_,_,_ => rfl
 | [],(m,c) :: k,_,_,_,fk,h => by
   have := h m
   rw [getC_head] at this
   have h1 := fk.head
   rw [<- this] at h1
   exact absurd h1 (by show ¬ (1 : Int) <= 0; decide)
 | (m,c) :: l,[],_,_,fl,_,h => by
   have := h m
   rw [getC_head] at this
   have h1 := fl.head
   rw [this] at h1
   exact absurd h1 (by show ¬ (1 : Int) <= 0; decide)
 | (m,c) :: l,(m',c') :: k,rl,rk,fl,fk,h => by
   rcases nlt_or m m' with h1 | h1 | h1
   ·have := h m
    rw [getC_head,getC_low fun x hx => ?_] at this
    ·have h2 := fl.head
     rw [this] at h2
     exact absurd h2 (by show ¬ (1 : Int) <= 0; decide)
    ·rcases List.mem_cons.1 hx with rfl | hx
     ·exact h1
     ·exact nlt_tr h1 (rk.1 x hx)
   ·subst h1
    have hc := h m
    rw [getC_head,getC_head] at hc
    subst hc
    congr 1
    refine cols_ext rl.2 rk.2 fl.tail fk.tail fun n => ?_
    by_cases hn : m = n
    ·subst hn
     rw [getC_low rl.1,getC_low rk.1]
    ·have := h n
     rwa [getC_next _ _ hn,getC_next _ _ hn] at this
   ·have := h m'
    rw [getC_head,getC_low fun x hx => ?_] at this
    ·have h2 := fk.head
     rw [<- this] at h2
     exact absurd h2 (by show ¬ (1 : Int) <= 0; decide)
    ·rcases List.mem_cons.1 hx with rfl | hx
     ·exact h1
     ·exact nlt_tr h1 (rl.1 x hx)
def putC : Cols -> ByteArray -> Ce -> Cols
 | [],n,c => [(n,c)]
 | (m,d) :: l,n,c => if nlt m n then (m,d) :: putC l n c else if m = n then (m,d.join c) :: l else (n,c) :: (m,d) :: l
theorem putC_low {l : Cols} {n : ByteArray} {c : Ce} {m : ByteArray} (h : ∀ x ∈ l,nlt m x.1) (hn : nlt m n) : ∀ x ∈ putC l n c,nlt m x.1 := by
 induction l with
 | nil =>
   intro x hx
   rw [List.mem_singleton.1 hx]
   exact hn
 | cons y l ih =>
   obtain ⟨k,d⟩ := y
   intro x hx
   have h1 := h (k,d) (List.mem_cons_self ..)
   have h2 := ih fun x hx => h x (List.mem_cons_of_mem _ hx)
   unfold putC at hx
   split at hx
   ·rcases List.mem_cons.1 hx with rfl | hx
    ·exact h1
    ·exact h2 x hx
   ·split at hx
    ·rcases List.mem_cons.1 hx with rfl | hx
     ·exact h1
     ·exact h x (List.mem_cons_of_mem _ hx)
    ·rcases List.mem_cons.1 hx with rfl | hx
     ·exact hn
     ·exact h x hx
theorem putC_rise : ∀ {l : Cols} (n : ByteArray) (c : Ce),Rise l -> Rise (putC l n c)
 | [],n,c,_ => ⟨(fun x hx => by cases hx),trivial⟩
 | (m,d) :: l,n,c,h => by
   unfold putC
   split
   ·rename_i h1
    exact ⟨putC_low h.1 h1,putC_rise n c h.2⟩
   ·rename_i h1
    split
    ·exact ⟨h.1,h.2⟩
    ·rename_i h2
     have h3 : nlt n m := (nlt_or m n).resolve_left h1 |>.resolve_left h2
     refine ⟨fun x hx => ?_,h⟩
     rcases List.mem_cons.1 hx with rfl | hx
     ·exact h3
     ·exact nlt_tr h3 (h.1 x hx)
theorem putC_all {p : ByteArray × Ce -> Prop} {n : ByteArray} {c : Ce} (hj : ∀ d,p (n,d) -> p (n,d.join c)) (hc : p (n,c)) : ∀ {l : Cols},(∀ x ∈ l,p x) -> ∀ x ∈ putC l n c,p x
 | [],_,x,hx => by rw [List.mem_singleton.1 hx]; exact hc
 | (m,d) :: l,h,x,hx => by
   unfold putC at hx
   split at hx
   ·rcases List.mem_cons.1 hx with rfl | hx
    ·exact h _ (List.mem_cons_self ..)
    ·exact putC_all hj hc (fun x hx => h x (List.mem_cons_of_mem _ hx)) x hx
   ·split at hx
    ·rename_i h2
     subst h2
     rcases List.mem_cons.1 hx with rfl | hx
     ·exact hj _ (h _ (List.mem_cons_self ..))
     ·exact h x (List.mem_cons_of_mem _ hx)
    ·rcases List.mem_cons.1 hx with rfl | hx
     ·exact hc
     ·exact h x hx
theorem putC_full {l : Cols} {n : ByteArray} {c : Ce} (h : Full l) (hc : 1 <= c.a) : Full (putC l n c) :=
 putC_all (p := fun x => 1 <= x.2.a) (fun d hd => join_a hd hc) hc h
theorem getC_put : ∀ {l : Cols} (n : ByteArray) (c : Ce),Rise l -> Has c -> ∀ m,getC (putC l n c) m = if n = m then (getC l n).join c else getC l m
 | [],n,c,_,hc,m => by
   show (if n = m then c else noC) = if n = m then noC.join c else noC
   rw [no_join hc]
 | (k,d) :: l,n,c,h,hc,m => by
   unfold putC
   split
   ·rename_i h1
    have hkn : k ≠ n := nlt_ne h1
    by_cases hkm : k = m
    ·subst hkm
     rw [getC_head,if_neg (Ne.symm hkn),getC_head]
    ·rw [getC_next _ _ hkm,getC_put n c h.2 hc m,getC_next _ _ hkn,getC_next _ _ hkm]
   ·rename_i h1
    split
    ·rename_i h2
     subst h2
     by_cases hkm : k = m
     ·subst hkm
      rw [getC_head,if_pos rfl,getC_head]
     ·rw [getC_next _ _ hkm,if_neg hkm,getC_next _ _ hkm]
    ·rename_i h2
     have h3 : nlt n k := (nlt_or k n).resolve_left h1 |>.resolve_left h2
     have hlow : getC ((k,d) :: l) n = noC := getC_low fun x hx => by
      rcases List.mem_cons.1 hx with rfl | hx
      ·exact h3
      ·exact nlt_tr h3 (h.1 x hx)
     by_cases hnm : n = m
     ·subst hnm
      rw [getC_head,if_pos rfl,hlow,no_join hc]
     ·rw [getC_next _ _ hnm,if_neg hnm]
theorem putC_length : ∀ (l : Cols) (n : ByteArray) (c : Ce),(putC l n c).length <= l.length + 1
 | [],_,_ => Nat.le_refl _
 | (m,d) :: l,n,c => by
   unfold putC
   split
   ·have := putC_length l n c; simp; omega
   ·split <;> simp
def mrg (l k : Cols) : Cols := k.foldl (fun l x => putC l x.1 x.2) l
theorem mrg_rise : ∀ {k l : Cols},Rise l -> Rise (mrg l k)
 | [],_,h => h
 | x :: k,l,h => mrg_rise (k := k) (putC_rise x.1 x.2 h)
theorem mrg_full : ∀ {k l : Cols},Full l -> Full k -> Full (mrg l k)
 | [],_,h,_ => h
 | x :: k,l,h,hk => mrg_full (k := k) (putC_full h hk.head) hk.tail
theorem mrg_length : ∀ (k l : Cols),(mrg l k).length <= l.length + k.length
 | [],l => Nat.le_refl _
 | x :: k,l => by
   have h1 := mrg_length k (putC l x.1 x.2)
   have h2 := putC_length l x.1 x.2
   show (mrg (putC l x.1 x.2) k).length <= _
   simp only [List.length_cons]
   omega
theorem getC_mrg : ∀ {k l : Cols},Rise l -> Full l -> Rise k -> Full k -> ∀ n,getC (mrg l k) n = (getC l n).join (getC k n)
 | [],l,_,fl,_,_,n => (join_no (getC_has fl n)).symm
 | (m,c) :: k,l,rl,fl,rk,fk,n => by
   show getC (mrg (putC l m c) k) n = _
   rw [getC_mrg (putC_rise m c rl) (putC_full fl fk.head) rk.2 fk.tail n,getC_put m c rl (.inl fk.head) n]
   by_cases h : m = n
   ·subst h
    rw [if_pos rfl,getC_head,getC_low rk.1,join_no (has_join (getC_has fl m) (.inl fk.head))]
   ·rw [if_neg h,getC_next _ _ h]
theorem mrg_eq {l k j : Cols} (rl : Rise l) (fl : Full l) (rk : Rise k) (fk : Full k) (rj : Rise j) (fj : Full j) (h : ∀ n,getC j n = (getC l n).join (getC k n)) : j = mrg l k :=
 cols_ext rj (mrg_rise rl) fj (mrg_full fl fk) fun n => by rw [h,getC_mrg rl fl rk fk]
theorem mrg_comm {l k : Cols} (rl : Rise l) (fl : Full l) (rk : Rise k) (fk : Full k) : mrg l k = mrg k l :=
 mrg_eq rk fk rl fl (mrg_rise rl) (mrg_full fl fk) fun n => by rw [getC_mrg rl fl rk fk,join_comm]
theorem mrg_assoc {l k j : Cols} (rl : Rise l) (fl : Full l) (rk : Rise k) (fk : Full k) (rj : Rise j) (fj : Full j) : mrg (mrg l k) j = mrg l (mrg k j) :=
 mrg_eq rl fl (mrg_rise rk) (mrg_full fk fj) (mrg_rise (mrg_rise rl)) (mrg_full (mrg_full fl fk) fj) fun n => by
  rw [getC_mrg (mrg_rise rl) (mrg_full fl fk) rj fj,getC_mrg rl fl rk fk,getC_mrg rk fk rj fj,join_assoc]
theorem mrg_self {l : Cols} (rl : Rise l) (fl : Full l) : mrg l l = l :=
 (mrg_eq rl fl rl fl rl fl fun n => (join_self _).symm).symm
structure Ro where
 key : ByteArray
 live : Ce
 gone : Int
 shade : Int
 cols : Cols
def Ro.join (a b : Ro) : Ro := ⟨a.key,a.live.join b.live,max a.gone b.gone,max a.shade b.shade,mrg a.cols b.cols⟩
structure Ro.Up (r : Ro) : Prop where
 rise : Rise r.cols
 full : Full r.cols
theorem Ro.Up.join {a b : Ro} (ha : a.Up) (hb : b.Up) : (a.join b).Up := ⟨mrg_rise ha.rise,mrg_full ha.full hb.full⟩
theorem ro_comm {a b : Ro} (hk : a.key = b.key) (ha : a.Up) (hb : b.Up) : a.join b = b.join a := by
 unfold Ro.join
 rw [hk,join_comm a.live,Int.max_comm a.gone,Int.max_comm a.shade,mrg_comm ha.rise ha.full hb.rise hb.full]
theorem ro_assoc {a b c : Ro} (ha : a.Up) (hb : b.Up) (hc : c.Up) : (a.join b).join c = a.join (b.join c) := by
 unfold Ro.join
 simp only
 rw [join_assoc,Int.max_assoc,Int.max_assoc,mrg_assoc ha.rise ha.full hb.rise hb.full hc.rise hc.full]
theorem ro_self {a : Ro} (ha : a.Up) : a.join a = a := by
 unfold Ro.join
 rw [join_self,Int.max_self,Int.max_self,mrg_self ha.rise ha.full]
theorem eqB_iff (a b : ByteArray) : (a.toList == b.toList) = true ↔ a = b := by
 rw [Lib.toList_data,Lib.toList_data,beq_iff_eq]
 exact ⟨fun h => ba_ext h,fun h => by rw [h]⟩
theorem eqB_true {a b : ByteArray} (h : a = b) : (a.toList == b.toList) = true := (eqB_iff a b).2 h
theorem eqB_false {a b : ByteArray} (h : a ≠ b) : (a.toList == b.toList) = false := by
 rw [Bool.eq_false_iff]
 exact fun e => h ((eqB_iff a b).1 e)
theorem list_ex {w : World} {ops : Array Oper} {rest : List Oper} {o : Oper} {a : Act} {Q : Exit -> Act -> World -> Prop} (hgd : o.guard = none) (s x : Operand) (t u : TypeId)
    (ho : o.op = .call { callee := .builtin .append,args := #[s,x],argTypes := #[t,u] }) (va vb : Value) (hs : a.eval s = va) (hx : a.eval x = vb) {R1 R2 : Value -> World -> Prop}
    (hr : ∀ ty,∃ v' w',(Builtin.append_ #[t,u] ty #[va,vb]).run Tryz.prog w = .ok v' w' /\ (R1 v' w' /\ R2 v' w'))
    (h : ∀ v' w',R1 v' w' -> R2 v' w' -> wpList Tryz.prog ops Q rest (a.put o.dst v') w') : wpList Tryz.prog ops Q (o :: rest) a w := by
 refine wpList_plain hgd fun K hK => ?_
 obtain ⟨v',w',hrun,h2,h3⟩ := hr o.type
 unfold Oper.wp execOp
 simp only [ho,resolve,invoke,builtin,Sem.run_bind,Sem.run_pure,Result.andThen_ok,List.map_toArray,List.map_cons,List.map_nil,hs,hx,hrun]
 exact hK _ _ (h v' w' h2 h3)
theorem step_ex {w : World} {ops : Array Oper} {o : Oper} {a : Act} {K : Act -> World -> Prop} {Q : Exit -> Act -> World -> Prop} {E : Prop} (hgd : o.guard = none) (s x : Operand) (t u : TypeId)
    (ho : o.op = .call { callee := .builtin .append,args := #[s,x],argTypes := #[t,u] }) (va vb : Value) (hs : a.eval s = va) (hx : a.eval x = vb) {R1 R2 : Value -> World -> Prop}
    (hr : ∀ ty,∃ v' w',(Builtin.append_ #[t,u] ty #[va,vb]).run Tryz.prog w = .ok v' w' /\ (R1 v' w' /\ R2 v' w'))
    (h : ∀ v' w',R1 v' w' -> R2 v' w' -> K (a.put o.dst v') w') : if Region.wanted o (yielded ops a.tmps) = true then Oper.wp Tryz.prog o a w K Q else E := by
 have hw : Region.wanted o (yielded ops a.tmps) = true := by simp [Region.wanted,hgd]
 rw [if_pos hw]
 obtain ⟨v',w',hrun,h2,h3⟩ := hr o.type
 unfold Oper.wp execOp
 simp only [ho,resolve,invoke,builtin,Sem.run_bind,Sem.run_pure,Result.andThen_ok,List.map_toArray,List.map_cons,List.map_nil,hs,hx,hrun]
 exact h v' w' h2 h3
theorem grown_own {w0 w w' : World} {v : Value} {n : Nat} {xs : List Value} {e : TypeId} (hb : Below w0.heap.size w0 w) (ho : w.ownsRow w0.heap.size e 1 v n xs) (hg : w.grownBy w' v.ownBlock) : Below w0.heap.size w0 w' :=
 hb.grown hg hb.size fun g h => (ho.lt g h).1
theorem own_below {w w' : World} {base n size : Nat} {e : TypeId} {v : Value} {xs : List Value} (h : w.ownsRow base e size v n xs) (hb : Below w.heap.size w w') : w'.ownsRow base e size v n xs := by
 refine ⟨h.1,?_⟩
 rcases h.2 with h1 | ⟨g,cap,cur,h1,h2,h3,h4⟩
 ·exact Or.inl h1
 ·exact Or.inr ⟨g,cap,cur,h1,h2,by rw [hb.block g (Array.getElem?_eq_some_iff.1 h3).1]; exact h3,h4⟩
theorem own_apart {w : World} {b b' n n' size size' : Nat} {e e' : TypeId} {v v' : Value} {xs xs' : List Value} (h : w.ownsRow b e size v n xs) (h' : w.ownsRow b' e' size' v' n' xs') (he : e ≠ e') : v.ownBlock = none \/ v.ownBlock ≠ v'.ownBlock := by
 rcases h.2 with ⟨rfl,_⟩ | ⟨g,cap,cur,rfl,h2,h3,h4⟩
 ·exact Or.inl rfl
 ·refine Or.inr ?_
  rcases h'.2 with ⟨rfl,_⟩ | ⟨g',cap',cur',rfl,h2',h3',h4'⟩
  ·intro hc; cases hc
  ·intro hc
   have hg : g = g' := by
    have : some g = some g' := hc
    injection this
   subst hg
   rw [h3] at h3'
   injection h3' with h3'
   injection h3' with _ h5
   exact he h5
def stm (n : Int) : Bool := decide (0 <= n) && decide (n <= 1099511627776)
def Ce.ok (c : Ce) : Bool :=
 if c.a = 0 then c.same ⟨⟨#[]⟩,false,0,0⟩ else if stm c.a = false then false else if c.d = true then c.same ⟨⟨#[]⟩,true,c.a,0⟩ else decide (c.s.size <= 100) && stm c.e
theorem run_appStr {w : World} (base : Nat) {v : Value} {n : Nat} {l : List UInt8} (hown : w.ownsRow base 5 1 v n (Lib.byteCells l)) (s : ByteArray)
    (hsz : n + s.size <= 140737488355328) (hbase : base <= w.heap.size) (ty : TypeId) :
    ∃ v' w',(Builtin.append_ #[29,9] ty #[v,.string s]).run Tryz.prog w = .ok v' w' /\ (w'.ownsRow base 5 1 v' (n + s.size) (Lib.byteCells (l ++ s.data.toList)) /\ w.grownBy w' v.ownBlock) := by
 obtain ⟨i,hi,hz0,hz1,hz2⟩ := info_parts infoB
 obtain ⟨v',w',h1,h2,h3,_⟩ := Lib.run_append_own_string (P := Tryz.prog) w base 29 9 ty 5 i Tryz.underlying29 Tryz.underlying9 hi hz0 hz1 hz2 v n (Lib.byteCells l) hown s (by unfold maxLen; omega) hsz hbase
 exact ⟨v',w',h1,by rw [Lib.byteCells_append]; exact h2,h3⟩
theorem run_appFull {w : World} {A : Option Addr} {n : Nat} {l : List UInt8} {B0 : Nat} (hr0 : Rd w B0 A n l) {B m : Nat} (c : Nat) {ad : Addr} {k : List UInt8} (hr : Rd w B (some ad) m k) (hm : 0 < m)
    (hsz : n + m <= 140737488355328) (ty : TypeId) :
    ∃ v' w',(Builtin.append_ #[29,29] ty #[.slice A n n,.slice (some ad) m c]).run Tryz.prog w = .ok v' w' /\ (w'.ownsRow w.heap.size 5 1 v' (n + m) (Lib.byteCells (l ++ k)) /\ w.grownBy w' none) := by
 obtain ⟨i,hi,hz0,hz1,hz2⟩ := info_parts infoB
 cases A with
 | none =>
   have h0 : n = 0 := by
    rcases Nat.eq_zero_or_pos n with h1 | h1
    ·exact h1
    ·obtain ⟨ad,e,_⟩ := hr0.2 h1; cases e
   subst h0
   obtain rfl : l = [] := List.eq_nil_of_length_eq_zero hr0.1
   exact run_app (ty := ty) (c := c) w.heap.size (World.ownsRow_nil w _ _ _) hr hsz (Nat.le_refl _)
 | some b =>
   obtain ⟨v',w',h1,h2,h3⟩ := run_append_arg_grows (P := Tryz.prog) w 29 ty 5 i (.int .u8 0) 1 1 Tryz.underlying29 hi hz0 hz1 hz2 rfl (by decide) b n n (Lib.byteCells l)
    (by rw [Lib.byteCells_length,hr0.1]; omega) (hr0.cells rfl) ad m c (Lib.byteCells k) (by rw [Lib.byteCells_length,hr.1]; omega) (hr.cells rfl) (by omega) (by unfold maxLen; omega) (by omega)
   exact ⟨v',w',h1,by rw [Lib.byteCells_append]; exact h2,h3⟩
theorem made_zero (n : Nat) : (madeCells (Value.int .u8 0).cells (n * 1)).toList = Lib.byteCells (List.replicate n 0) := by
 have e : (Value.int .u8 0).cells = #[Value.int .u8 0] := rfl
 unfold madeCells Lib.byteCells
 rw [e,Nat.mul_one,List.map_replicate,Array.toList_map]
 refine List.eq_replicate_iff.2 ⟨by simp,fun b hb => ?_⟩
 obtain ⟨j,_,rfl⟩ := List.mem_map.1 hb
 simp [Nat.mod_one]
theorem run_makeB (w : World) (n : Nat) (hn : n <= 70368744177664) :
    (Instr.makeSlice 29 (.int .i64 (n : Nat)) (.int .i64 (n : Nat))).run Tryz.prog w = .ok (.slice (some ⟨w.heap.size,0,none⟩) n n) (w.alloc (.cells (madeCells (Value.int .u8 0).cells (n * 1)) 5)) := by
 obtain ⟨i,hi,hz0,hz1,hz2⟩ := info_parts infoB
 have h := run_make (P := Tryz.prog) w 29 5 i (.int .u8 0) Tryz.underlying29 hi hz0 .i64 .i64 (n : Int) (n : Int) (by omega) (by omega) (by rw [hz2]; omega) (by omega)
 rw [hz1,Int.toNat_natCast] at h
 exact h
theorem made_rd (w : World) (n : Nat) : Rd (w.alloc (.cells (madeCells (Value.int .u8 0).cells (n * 1)) 5)) (w.heap.size + 1) (some ⟨w.heap.size,0,none⟩) n (List.replicate n 0) := by
 have := Rd.laid (w := w.alloc (.cells (madeCells (Value.int .u8 0).cells (n * 1)) 5)) (g := w.heap.size) (l := List.replicate n 0) (heap_alloc_new w _) (made_zero n)
 simpa using this
theorem made_own (w : World) (n : Nat) (hn : n <= 70368744177664) : (w.alloc (.cells (madeCells (Value.int .u8 0).cells (n * 1)) 5)).ownsRow w.heap.size 5 1 (.slice (some ⟨w.heap.size,0,none⟩) n n) n (Lib.byteCells (List.replicate n 0)) := by
 refine ⟨by rw [Lib.byteCells_length,List.length_replicate]; omega,Or.inr ⟨w.heap.size,n,_,rfl,Nat.le_refl _,heap_alloc_new w _,Nat.le_refl _,by unfold maxLen; omega,size_madeCells _ _,?_⟩⟩
 rw [List.take_of_length_le (by rw [Array.length_toList,size_madeCells]; exact Nat.le_refl _)]
 exact made_zero n
theorem sizeB : Tryz.prog.elem 29 = 5 := by kernel_rfl
theorem sl_lh {w : World} {B n : Nat} {A : Option Addr} {l : List UInt8} (h : Rd w B A n l) {c : Nat} (hn : n <= c) (x y : Int) (lo hi : Nat) (ex : x = (lo : Nat)) (ey : y = (hi : Nat)) (h1 : lo <= hi) (h2 : hi <= n) :
    ∃ A',(∀ wx : World,(Instr.slice 29 (.slice A n c) (some (.int .i64 x)) (some (.int .i64 y)) none).run Tryz.prog wx = .ok (.slice A' (hi - lo) (c - lo)) wx) /\ Rd w B A' (hi - lo) ((l.take hi).drop lo) := by
 refine ⟨if c = lo then A else A.map (·.add lo),fun wx => ?_,h.cut h1 h2 (by omega)⟩
 obtain ⟨i,hi',hz0,hz1,hz2⟩ := info_parts infoB
 subst ex
 subst ey
 rw [run_slice_lh (P := Tryz.prog) (t := 29) (ht := by rw [sizeB]; exact Tryz.underlying29) (h0 := by omega) (h1 := by omega) (h2 := by omega),sizeB]
 simp [sizeOf,typeInfo,hi',hz1,sliced,Result.andThen]
theorem sl_l {w : World} {B n : Nat} {A : Option Addr} {l : List UInt8} (h : Rd w B A n l) {c : Nat} (hn : n <= c) (x : Int) (lo : Nat) (ex : x = (lo : Nat)) (h1 : lo <= n) :
    ∃ A',(∀ wx : World,(Instr.slice 29 (.slice A n c) (some (.int .i64 x)) none none).run Tryz.prog wx = .ok (.slice A' (n - lo) (c - lo)) wx) /\ Rd w B A' (n - lo) (l.drop lo) := by
 have hl := h.1
 refine ⟨if c = lo then A else A.map (·.add lo),fun wx => ?_,by have := h.cut h1 (Nat.le_refl n) hn; rw [List.take_of_length_le (by omega)] at this; exact this⟩
 obtain ⟨i,hi',hz0,hz1,hz2⟩ := info_parts infoB
 subst ex
 rw [run_slice_l (P := Tryz.prog) (t := 29) (ht := by rw [sizeB]; exact Tryz.underlying29) (h0 := by omega) (h1 := by omega),sizeB]
 simp [sizeOf,typeInfo,hi',hz1,sliced,Result.andThen]
theorem sl_h {w : World} {B n : Nat} {A : Option Addr} {l : List UInt8} (h : Rd w B A n l) {c : Nat} (hn : n <= c) (hA : A = none -> c = 0) (y : Int) (hi : Nat) (ey : y = (hi : Nat)) (h2 : hi <= n) :
    (∀ wx : World,(Instr.slice 29 (.slice A n c) none (some (.int .i64 y)) none).run Tryz.prog wx = .ok (.slice A hi c) wx) /\ Rd w B A hi (l.take hi) := by
 refine ⟨fun wx => ?_,h.pre h2⟩
 obtain ⟨i,hi',hz0,hz1,hz2⟩ := info_parts infoB
 subst ey
 rw [run_slice_h (P := Tryz.prog) (t := 29) (ht := by rw [sizeB]; exact Tryz.underlying29) (h0 := by omega) (h2 := by omega),sizeB]
 cases A with
 | none => simp [sizeOf,typeInfo,hi',hz1,sliced,Result.andThen]
 | some a =>
   have e : a.add 0 = a := by unfold Addr.add; rw [if_pos rfl]
   simp [sizeOf,typeInfo,hi',hz1,sliced,Result.andThen,e]
def pushC (M : Cols) (x : ByteArray × Ce) : Cols :=
 match M.getLast? with
 | some y => if y.1 = x.1 then M.dropLast ++ [(y.1,y.2.join x.2)] else M ++ [x]
 | none => [x]
def runC : Cols -> Cols -> Cols -> Cols
 | M,[],[] => M
 | M,x :: a,[] => runC (pushC M x) a []
 | M,[],y :: b => runC (pushC M y) [] b
 | M,x :: a,y :: b => if nlt y.1 x.1 then runC (pushC M y) (x :: a) b else runC (pushC M x) a (y :: b)
termination_by _ a b => a.length + b.length
theorem runC_nil (M : Cols) : runC M [] [] = M := by unfold runC; rfl
theorem runC_a (M : Cols) (x : ByteArray × Ce) (a : Cols) : runC M (x :: a) [] = runC (pushC M x) a [] := by rw [runC]
theorem runC_b (M : Cols) (y : ByteArray × Ce) (b : Cols) : runC M [] (y :: b) = runC (pushC M y) [] b := by rw [runC]
theorem runC_ab (M : Cols) (x y : ByteArray × Ce) (a b : Cols) (h : ¬ nlt y.1 x.1) : runC M (x :: a) (y :: b) = runC (pushC M x) a (y :: b) := by rw [runC,if_neg h]
theorem runC_ba (M : Cols) (x y : ByteArray × Ce) (a b : Cols) (h : nlt y.1 x.1) : runC M (x :: a) (y :: b) = runC (pushC M y) (x :: a) b := by rw [runC,if_pos h]
theorem pushC_last (M : Cols) (y x : ByteArray × Ce) : pushC (M ++ [y]) x = if y.1 = x.1 then M ++ [(y.1,y.2.join x.2)] else (M ++ [y]) ++ [x] := by
 unfold pushC
 rw [List.getLast?_concat,List.dropLast_concat]
theorem pushC_length (M : Cols) (x : ByteArray × Ce) : (pushC M x).length <= M.length + 1 := by
 rcases List.eq_nil_or_concat M with rfl | ⟨L,y,rfl⟩
 ·simp [pushC]
 ·rw [List.concat_eq_append,pushC_last]
  split <;> simp
theorem pushC_put : ∀ {M : Cols} (x : ByteArray × Ce),Rise M -> (∀ m ∈ M,¬ nlt x.1 m.1) -> pushC M x = putC M x.1 x.2
 | [],x,_,_ => rfl
 | [(m,d)],(n,c),_,h => by
   have h1 : ¬ nlt n m := h _ (List.mem_cons_self ..)
   show pushC ([] ++ [(m,d)]) (n,c) = if nlt m n then (m,d) :: [(n,c)] else if m = n then [(m,d.join c)] else (n,c) :: [(m,d)]
   rw [pushC_last]
   by_cases h2 : m = n
   ·rw [if_pos h2,if_neg (fun h3 => nlt_ne h3 h2),if_pos h2]
    rfl
   ·rw [if_neg h2,if_pos ((nlt_or m n).resolve_right fun h3 => h3.elim h2 h1)]
    rfl
 | (m,d) :: z :: M,(n,c),hr,h => by
   have ih := pushC_put (M := z :: M) (n,c) hr.2 fun y hy => h y (List.mem_cons_of_mem _ hy)
   have h1 : nlt m n := by
    have h2 := hr.1 z (List.mem_cons_self ..)
    rcases nlt_or z.1 n with h3 | h3 | h3
    ·exact nlt_tr h2 h3
    ·exact h3 ▸ h2
    ·exact absurd h3 (h z (List.mem_cons_of_mem _ (List.mem_cons_self ..)))
   have e : pushC ((m,d) :: z :: M) (n,c) = (m,d) :: pushC (z :: M) (n,c) := by
    rcases List.eq_nil_or_concat (z :: M) with h4 | ⟨L,y,h4⟩
    ·cases h4
    ·rw [h4,List.concat_eq_append,pushC_last,<- List.cons_append,pushC_last]
     split <;> rfl
   rw [e,ih]
   show _ = if nlt m n then (m,d) :: putC (z :: M) n c else _
   rw [if_pos h1]
def Under (M l : Cols) : Prop := ∀ x ∈ l,∀ m ∈ M,¬ nlt x.1 m.1
theorem under_put {M l : Cols} {x : ByteArray × Ce} (h : Under M l) (hx : ∀ y ∈ l,¬ nlt y.1 x.1) : Under (putC M x.1 x.2) l := fun y hy m hm =>
 putC_all (p := fun z => ¬ nlt y.1 z.1) (n := x.1) (c := x.2) (fun _ hd => hd) (hx y hy) (fun z hz => h y hy z hz) m hm
theorem runC_ok : ∀ (k : Nat) (M a b : Cols),a.length + b.length <= k -> Rise M -> Full M -> Rise a -> Full a -> Rise b -> Full b -> Under M a -> Under M b ->
    Rise (runC M a b) /\ Full (runC M a b) /\ ∀ n,getC (runC M a b) n = (getC M n).join ((getC a n).join (getC b n))
 | k,M,[],[],_,rM,fM,_,_,_,_,_,_ => by
   rw [runC_nil]
   refine ⟨rM,fM,fun n => ?_⟩
   show getC M n = (getC M n).join (noC.join noC)
   rw [join_self,join_no (getC_has fM n)]
 | 0,M,x :: a,b,h,_,_,_,_,_,_,_,_ => by simp at h
 | 0,M,[],y :: b,h,_,_,_,_,_,_,_,_ => by simp at h
 | k + 1,M,x :: a,[],h,rM,fM,ra,fa,rb,fb,ua,ub => by
   have hp : pushC M x = putC M x.1 x.2 := pushC_put x rM fun m hm => ua x (List.mem_cons_self ..) m hm
   rw [runC_a,hp]
   obtain ⟨h1,h2,h3⟩ := runC_ok k (putC M x.1 x.2) a [] (by simp at h ⊢; omega) (putC_rise _ _ rM) (putC_full fM fa.head) ra.2 fa.tail rb fb
    (under_put (fun y hy m hm => ua y (List.mem_cons_of_mem _ hy) m hm) fun y hy h4 => nlt_irr _ (nlt_tr (ra.1 y hy) h4)) (fun y hy => by cases hy)
   refine ⟨h1,h2,fun n => ?_⟩
   rw [h3,getC_put x.1 x.2 rM (.inl fa.head)]
   by_cases hn : x.1 = n
   ·subst hn
    rw [if_pos rfl,show getC (x :: a) x.1 = x.2 from getC_head _ _ _,getC_low ra.1]
    show ((getC M x.1).join x.2).join (noC.join noC) = (getC M x.1).join (x.2.join noC)
    rw [join_self,join_assoc]
   ·rw [if_neg hn,show getC (x :: a) n = getC a n from getC_next _ _ hn]
 | k + 1,M,[],y :: b,h,rM,fM,ra,fa,rb,fb,ua,ub => by
   have hp : pushC M y = putC M y.1 y.2 := pushC_put y rM fun m hm => ub y (List.mem_cons_self ..) m hm
   rw [runC_b,hp]
   obtain ⟨h1,h2,h3⟩ := runC_ok k (putC M y.1 y.2) [] b (by simp at h ⊢; omega) (putC_rise _ _ rM) (putC_full fM fb.head) ra fa rb.2 fb.tail
    (fun y hy => by cases hy) (under_put (fun x hx m hm => ub x (List.mem_cons_of_mem _ hx) m hm) fun x hx h4 => nlt_irr _ (nlt_tr (rb.1 x hx) h4))
   refine ⟨h1,h2,fun n => ?_⟩
   rw [h3,getC_put y.1 y.2 rM (.inl fb.head)]
   by_cases hn : y.1 = n
   ·subst hn
    rw [if_pos rfl,show getC (y :: b) y.1 = y.2 from getC_head _ _ _,getC_low rb.1]
    show ((getC M y.1).join y.2).join (noC.join noC) = (getC M y.1).join (noC.join y.2)
    rw [join_self,join_assoc,join_comm noC]
   ·rw [if_neg hn,show getC (y :: b) n = getC b n from getC_next _ _ hn]
 | k + 1,M,x :: a,y :: b,h,rM,fM,ra,fa,rb,fb,ua,ub => by
   by_cases hyx : nlt y.1 x.1
   ·have hp : pushC M y = putC M y.1 y.2 := pushC_put y rM fun m hm => ub y (List.mem_cons_self ..) m hm
    rw [runC_ba _ _ _ _ _ hyx,hp]
    obtain ⟨h1,h2,h3⟩ := runC_ok k (putC M y.1 y.2) (x :: a) b (by simp at h ⊢; omega) (putC_rise _ _ rM) (putC_full fM fb.head) ra fa rb.2 fb.tail
     (under_put ua fun z hz h4 => by
       rcases List.mem_cons.1 hz with rfl | hz
       ·exact nlt_irr _ (nlt_tr hyx h4)
       ·exact nlt_irr _ (nlt_tr (nlt_tr hyx (ra.1 z hz)) h4))
     (under_put (fun x hx m hm => ub x (List.mem_cons_of_mem _ hx) m hm) fun x hx h4 => nlt_irr _ (nlt_tr (rb.1 x hx) h4))
    refine ⟨h1,h2,fun n => ?_⟩
    rw [h3,getC_put y.1 y.2 rM (.inl fb.head)]
    by_cases hn : y.1 = n
    ·subst hn
     have hl : getC (x :: a) y.1 = noC := getC_low fun z hz => by
      rcases List.mem_cons.1 hz with rfl | hz
      ·exact hyx
      ·exact nlt_tr hyx (ra.1 z hz)
     rw [if_pos rfl,show getC (y :: b) y.1 = y.2 from getC_head _ _ _,getC_low rb.1,hl,join_self,join_assoc,join_comm noC]
    ·rw [if_neg hn,show getC (y :: b) n = getC b n from getC_next _ _ hn]
   ·have hp : pushC M x = putC M x.1 x.2 := pushC_put x rM fun m hm => ua x (List.mem_cons_self ..) m hm
    rw [runC_ab _ _ _ _ _ hyx,hp]
    obtain ⟨h1,h2,h3⟩ := runC_ok k (putC M x.1 x.2) a (y :: b) (by simp at h ⊢; omega) (putC_rise _ _ rM) (putC_full fM fa.head) ra.2 fa.tail rb fb
     (under_put (fun y hy m hm => ua y (List.mem_cons_of_mem _ hy) m hm) fun y hy h4 => nlt_irr _ (nlt_tr (ra.1 y hy) h4))
     (under_put ub fun z hz h4 => by
       rcases List.mem_cons.1 hz with rfl | hz
       ·exact hyx h4
       ·exact hyx (nlt_tr (rb.1 z hz) h4))
    refine ⟨h1,h2,fun n => ?_⟩
    rw [h3,getC_put x.1 x.2 rM (.inl fa.head)]
    by_cases hn : x.1 = n
    ·subst hn
     rw [if_pos rfl,show getC (x :: a) x.1 = x.2 from getC_head _ _ _,getC_low ra.1,join_assoc]
     rw [no_join (getC_has fb _)]
    ·rw [if_neg hn,show getC (x :: a) n = getC a n from getC_next _ _ hn]
theorem runC_mrg {l k : Cols} (rl : Rise l) (fl : Full l) (rk : Rise k) (fk : Full k) : runC [] l k = mrg l k := by
 obtain ⟨h1,h2,h3⟩ := runC_ok _ [] l k (Nat.le_refl _) trivial (fun x hx => by cases hx) rl fl rk fk (fun x _ m hm => by cases hm) (fun x _ m hm => by cases hm)
 refine mrg_eq rl fl rk fk h1 h2 fun n => ?_
 rw [h3]
 show noC.join _ = _
 exact no_join (has_join (getC_has fl n) (getC_has fk n))
end Go.Proofs.YtmpcnhpdobdmcaaGreatDoor
namespace Go.Proofs.YtmpcnhpdobdmcaaGreatDoor
open Go Go.RowKit
structure JK {α : Type} (key : α -> ByteArray) (jn : α -> α -> α) (Good : α -> Prop) : Prop where
 key_ : ∀ x y,key x = key y -> key (jn x y) = key x
 good : ∀ {x y},Good x -> Good y -> key x = key y -> Good (jn x y)
 comm : ∀ {x y},Good x -> Good y -> key x = key y -> jn x y = jn y x
 assoc : ∀ {x y z},Good x -> Good y -> Good z -> key x = key y -> key y = key z -> jn (jn x y) z = jn x (jn y z)
 self : ∀ {x},Good x -> jn x x = x
section
variable {α : Type} (key : α -> ByteArray) (jn : α -> α -> α)
def RiseK : List α -> Prop
 | [] => True
 | x :: l => (∀ y ∈ l,nlt (key x) (key y)) /\ RiseK l
def getK : List α -> ByteArray -> Option α
 | [],_ => none
 | x :: l,n => if key x = n then some x else getK l n
def joinO : Option α -> Option α -> Option α
 | none,y => y
 | some x,none => some x
 | some x,some y => some (jn x y)
def putK : List α -> α -> List α
 | [],c => [c]
 | x :: l,c => if nlt (key x) (key c) then x :: putK l c else if key x = key c then jn x c :: l else c :: x :: l
def mrgK (l k : List α) : List α := k.foldl (putK key jn) l
end
section
variable {α : Type} {key : α -> ByteArray} {jn : α -> α -> α} {Good : α -> Prop}
theorem getK_head (x : α) (l : List α) : getK key (x :: l) (key x) = some x := if_pos rfl
theorem getK_next {x : α} {n : ByteArray} (l : List α) (h : key x ≠ n) : getK key (x :: l) n = getK key l n := if_neg h
theorem getK_none : ∀ {l : List α} {n : ByteArray},(∀ x ∈ l,key x ≠ n) -> getK key l n = none
 | [],_,_ => rfl
 | x :: l,n,h => by
   rw [getK_next l (h x (List.mem_cons_self ..))]
   exact getK_none fun y hy => h y (List.mem_cons_of_mem _ hy)
theorem getK_low {l : List α} {n : ByteArray} (h : ∀ x ∈ l,nlt n (key x)) : getK key l n = none := getK_none fun x hx => (nlt_ne (h x hx)).symm
theorem getK_some : ∀ {l : List α} {n : ByteArray} {x : α},getK key l n = some x -> x ∈ l /\ key x = n
 | y :: l,n,x,h => by
   by_cases hy : key y = n
   ·rw [show getK key (y :: l) n = some y from if_pos hy] at h
    injection h with h
    subst h
    exact ⟨List.mem_cons_self ..,hy⟩
   ·rw [getK_next l hy] at h
    have h1 := getK_some h
    exact ⟨List.mem_cons_of_mem _ h1.1,h1.2⟩
theorem getK_mem : ∀ {l : List α},RiseK key l -> ∀ {x : α},x ∈ l -> getK key l (key x) = some x
 | y :: l,hr,x,hx => by
   rcases List.mem_cons.1 hx with rfl | h
   ·exact getK_head _ _
   ·rw [getK_next l (nlt_ne (hr.1 x h)),getK_mem hr.2 h]
theorem listK_ext : ∀ {l k : List α},RiseK key l -> RiseK key k -> (∀ n,getK key l n = getK key k n) -> l = k
 | [],[],_,_,_ => rfl
 | [],y :: k,_,_,h => by
   have := h (key y)
   rw [getK_head] at this
   cases this
 | x :: l,[],_,_,h => by
   have := h (key x)
   rw [getK_head] at this
   cases this
 | x :: l,y :: k,rl,rk,h => by
   have above : ∀ {u : α} {z : List α} {n : ByteArray},nlt n (key u) -> (∀ v ∈ z,nlt (key u) (key v)) -> getK key (u :: z) n = none := fun {u z n} hu hz => getK_low fun v hv => by
    rcases List.mem_cons.1 hv with rfl | hv
    ·exact hu
    ·exact nlt_tr hu (hz v hv)
   rcases nlt_or (key x) (key y) with h1 | h1 | h1
   ·have h2 := h (key x)
    rw [getK_head,above h1 rk.1] at h2
    cases h2
   ·have h2 := h (key x)
    rw [getK_head,h1,getK_head] at h2
    injection h2 with h2
    subst h2
    congr 1
    refine listK_ext rl.2 rk.2 fun n => ?_
    by_cases hn : key x = n
    ·subst hn
     rw [getK_low rl.1,getK_low rk.1]
    ·have h3 := h n
     rwa [getK_next _ hn,getK_next _ hn] at h3
   ·have h2 := h (key y)
    rw [getK_head,above h1 rl.1] at h2
    cases h2
theorem putK_all {p : α -> Prop} {c : α} (hj : ∀ x,key x = key c -> p x -> p (jn x c)) (hc : p c) : ∀ {l : List α},(∀ x ∈ l,p x) -> ∀ x ∈ putK key jn l c,p x
 | [],_,x,hx => by rw [List.mem_singleton.1 hx]; exact hc
 | y :: l,h,x,hx => by
   have h1 := h y (List.mem_cons_self ..)
   have h2 : ∀ z ∈ l,p z := fun z hz => h z (List.mem_cons_of_mem _ hz)
   unfold putK at hx
   split at hx
   ·rcases List.mem_cons.1 hx with rfl | hx
    ·exact h1
    ·exact putK_all hj hc h2 x hx
   ·split at hx
    ·rename_i he
     rcases List.mem_cons.1 hx with rfl | hx
     ·exact hj y he h1
     ·exact h2 x hx
    ·rcases List.mem_cons.1 hx with rfl | hx
     ·exact hc
     ·exact h x hx
theorem putK_rise (hk : ∀ x y,key x = key y -> key (jn x y) = key x) : ∀ {l : List α} (c : α),RiseK key l -> RiseK key (putK key jn l c)
 | [],c,_ => ⟨(fun x hx => by cases hx),trivial⟩
 | x :: l,c,h => by
   unfold putK
   split
   ·rename_i h1
    exact ⟨putK_all (p := fun z => nlt (key x) (key z)) (fun z hz hp => by rw [hk z c hz]; exact hp) h1 h.1,putK_rise hk c h.2⟩
   ·rename_i h1
    split
    ·rename_i h2
     refine ⟨?_,h.2⟩
     rw [hk x c h2]
     exact h.1
    ·rename_i h2
     have h3 : nlt (key c) (key x) := ((nlt_or (key x) (key c)).resolve_left h1).resolve_left h2
     refine ⟨fun z hz => ?_,h⟩
     rcases List.mem_cons.1 hz with rfl | hz
     ·exact h3
     ·exact nlt_tr h3 (h.1 z hz)
theorem getK_put (hk : ∀ x y,key x = key y -> key (jn x y) = key x) : ∀ {l : List α} (c : α),RiseK key l -> ∀ m,getK key (putK key jn l c) m = if key c = m then joinO jn (getK key l m) (some c) else getK key l m
 | [],c,_,m => rfl
 | x :: l,c,h,m => by
   unfold putK
   split
   ·rename_i h1
    have hxc : key x ≠ key c := nlt_ne h1
    by_cases hxm : key x = m
    ·subst hxm
     rw [getK_head,if_neg (Ne.symm hxc),getK_head]
    ·rw [getK_next _ hxm,getK_put hk c h.2 m,getK_next _ hxm]
   ·rename_i h1
    split
    ·rename_i h2
     by_cases hxm : key x = m
     ·subst hxm
      rw [if_pos h2.symm,getK_head,show getK key (jn x c :: l) (key x) = some (jn x c) from if_pos (hk x c h2)]
      rfl
     ·rw [getK_next _ hxm,if_neg (fun e => hxm (h2.trans e)),getK_next _ (by rw [hk x c h2]; exact hxm)]
    ·rename_i h2
     have h3 : nlt (key c) (key x) := ((nlt_or (key x) (key c)).resolve_left h1).resolve_left h2
     by_cases hcm : key c = m
     ·subst hcm
      rw [getK_head,if_pos rfl,getK_low fun z hz => ?_]
      ·rfl
      ·rcases List.mem_cons.1 hz with rfl | hz
       ·exact h3
       ·exact nlt_tr h3 (h.1 z hz)
     ·rw [getK_next _ hcm,if_neg hcm]
theorem putK_length : ∀ (l : List α) (c : α),(putK key jn l c).length <= l.length + 1
 | [],_ => Nat.le_refl _
 | x :: l,c => by
   unfold putK
   split
   ·have := putK_length l c; simp; omega
   ·split <;> simp
theorem mrgK_rise (hk : ∀ x y,key x = key y -> key (jn x y) = key x) : ∀ {k l : List α},RiseK key l -> RiseK key (mrgK key jn l k)
 | [],_,h => h
 | x :: k,l,h => mrgK_rise hk (k := k) (putK_rise hk x h)
theorem mrgK_all {p : α -> Prop} (hj : ∀ x y,key x = key y -> p x -> p y -> p (jn x y)) : ∀ {k l : List α},(∀ x ∈ l,p x) -> (∀ x ∈ k,p x) -> ∀ x ∈ mrgK key jn l k,p x
 | [],_,h,_ => h
 | c :: k,l,h,hk => by
   have hc := hk c (List.mem_cons_self ..)
   exact mrgK_all hj (k := k) (putK_all (fun x hx hp => hj x c hx hp hc) hc h) fun x hx => hk x (List.mem_cons_of_mem _ hx)
theorem mrgK_length : ∀ (k l : List α),(mrgK key jn l k).length <= l.length + k.length
 | [],l => Nat.le_refl _
 | x :: k,l => by
   have h1 := mrgK_length k (putK key jn l x)
   have h2 := putK_length (key := key) (jn := jn) l x
   show (mrgK key jn (putK key jn l x) k).length <= _
   simp only [List.length_cons]
   omega
theorem joinO_none (x : Option α) : joinO jn x none = x := by cases x <;> rfl
theorem getK_mrg (hk : ∀ x y,key x = key y -> key (jn x y) = key x) : ∀ {k l : List α},RiseK key l -> RiseK key k -> ∀ n,getK key (mrgK key jn l k) n = joinO jn (getK key l n) (getK key k n)
 | [],l,_,_,n => (joinO_none _).symm
 | c :: k,l,rl,rk,n => by
   show getK key (mrgK key jn (putK key jn l c) k) n = _
   rw [getK_mrg hk (putK_rise hk c rl) rk.2 n,getK_put hk c rl n]
   by_cases h : key c = n
   ·subst h
    rw [if_pos rfl,getK_head,getK_low rk.1,joinO_none]
   ·rw [if_neg h,getK_next _ h]
theorem mrgK_eq (hk : ∀ x y,key x = key y -> key (jn x y) = key x) {l k j : List α} (rl : RiseK key l) (rk : RiseK key k) (rj : RiseK key j) (h : ∀ n,getK key j n = joinO jn (getK key l n) (getK key k n)) : j = mrgK key jn l k :=
 listK_ext rj (mrgK_rise hk rl) fun n => by rw [h,getK_mrg hk rl rk]
def AllK (Good : α -> Prop) (l : List α) : Prop := ∀ x ∈ l,Good x
theorem AllK.get {l : List α} (h : AllK Good l) {n : ByteArray} {x : α} (hx : getK key l n = some x) : Good x /\ key x = n := ⟨h x (getK_some hx).1,(getK_some hx).2⟩
theorem AllK.mrg (J : JK key jn Good) {l k : List α} (hl : AllK Good l) (hk : AllK Good k) : AllK Good (mrgK key jn l k) := mrgK_all (fun x y e hx hy => J.good hx hy e) hl hk
theorem joinO_comm (J : JK key jn Good) {l k : List α} (hl : AllK Good l) (hk : AllK Good k) (n : ByteArray) : joinO jn (getK key l n) (getK key k n) = joinO jn (getK key k n) (getK key l n) := by
 cases h : getK key l n with
 | none => rw [joinO_none]; rfl
 | some x =>
   cases h' : getK key k n with
   | none => rfl
   | some y =>
     obtain ⟨gx,ex⟩ := hl.get h
     obtain ⟨gy,ey⟩ := hk.get h'
     exact congrArg some (J.comm gx gy (ex.trans ey.symm))
theorem mrgK_comm (J : JK key jn Good) {l k : List α} (rl : RiseK key l) (hl : AllK Good l) (rk : RiseK key k) (hk : AllK Good k) : mrgK key jn l k = mrgK key jn k l :=
 mrgK_eq J.key_ rk rl (mrgK_rise J.key_ rl) fun n => by rw [getK_mrg J.key_ rl rk,joinO_comm J hl hk]
theorem joinO_assoc (J : JK key jn Good) {l k j : List α} (hl : AllK Good l) (hk : AllK Good k) (hj : AllK Good j) (n : ByteArray) :
    joinO jn (joinO jn (getK key l n) (getK key k n)) (getK key j n) = joinO jn (getK key l n) (joinO jn (getK key k n) (getK key j n)) := by
 cases h : getK key l n with
 | none => rfl
 | some x =>
   cases h' : getK key k n with
   | none => rfl
   | some y =>
     cases h'' : getK key j n with
     | none => rfl
     | some z =>
       obtain ⟨gx,ex⟩ := hl.get h
       obtain ⟨gy,ey⟩ := hk.get h'
       obtain ⟨gz,ez⟩ := hj.get h''
       exact congrArg some (J.assoc gx gy gz (ex.trans ey.symm) (ey.trans ez.symm))
theorem mrgK_assoc (J : JK key jn Good) {l k j : List α} (rl : RiseK key l) (hl : AllK Good l) (rk : RiseK key k) (hk : AllK Good k) (rj : RiseK key j) (hj : AllK Good j) : mrgK key jn (mrgK key jn l k) j = mrgK key jn l (mrgK key jn k j) :=
 mrgK_eq J.key_ rl (mrgK_rise J.key_ rk) (mrgK_rise J.key_ (mrgK_rise J.key_ rl)) fun n => by
  rw [getK_mrg J.key_ (mrgK_rise J.key_ rl) rj,getK_mrg J.key_ rl rk,getK_mrg J.key_ rk rj,joinO_assoc J hl hk hj]
theorem riseK_of : ∀ {l : List α},(∀ i (h : i + 1 < l.length),nlt (key l[i]) (key l[i + 1])) -> RiseK key l
 | [],_ => trivial
 | [x],_ => ⟨fun y hy => (by cases hy),trivial⟩
 | x :: y :: l,h => by
   have h0 : nlt (key x) (key y) := h 0 (by simp)
   have ih : RiseK key (y :: l) := riseK_of fun i hi => h (i + 1) (by simpa using hi)
   refine ⟨fun z hz => ?_,ih⟩
   rcases List.mem_cons.1 hz with rfl | hz
   ·exact h0
   ·exact nlt_tr h0 (ih.1 z hz)
section
variable (key : α -> ByteArray) (jn : α -> α -> α)
def pushK (M : List α) (x : α) : List α :=
 match M.getLast? with
 | some y => if key y = key x then M.dropLast ++ [jn y x] else M ++ [x]
 | none => [x]
def runK : List α -> List α -> List α -> List α
 | M,[],[] => M
 | M,x :: a,[] => runK (pushK key jn M x) a []
 | M,[],y :: b => runK (pushK key jn M y) [] b
 | M,x :: a,y :: b => if nlt (key y) (key x) then runK (pushK key jn M y) (x :: a) b else runK (pushK key jn M x) a (y :: b)
termination_by _ a b => a.length + b.length
end
theorem runK_nil (M : List α) : runK key jn M [] [] = M := by unfold runK; rfl
theorem runK_a (M : List α) (x : α) (a : List α) : runK key jn M (x :: a) [] = runK key jn (pushK key jn M x) a [] := by rw [runK]
theorem runK_b (M : List α) (y : α) (b : List α) : runK key jn M [] (y :: b) = runK key jn (pushK key jn M y) [] b := by rw [runK]
theorem runK_ab (M : List α) (x y : α) (a b : List α) (h : ¬ nlt (key y) (key x)) : runK key jn M (x :: a) (y :: b) = runK key jn (pushK key jn M x) a (y :: b) := by rw [runK,if_neg h]
theorem runK_ba (M : List α) (x y : α) (a b : List α) (h : nlt (key y) (key x)) : runK key jn M (x :: a) (y :: b) = runK key jn (pushK key jn M y) (x :: a) b := by rw [runK,if_pos h]
theorem pushK_last (M : List α) (y x : α) : pushK key jn (M ++ [y]) x = if key y = key x then M ++ [jn y x] else (M ++ [y]) ++ [x] := by
 unfold pushK
 rw [List.getLast?_concat,List.dropLast_concat]
theorem pushK_put : ∀ {M : List α} (x : α),RiseK key M -> (∀ m ∈ M,¬ nlt (key x) (key m)) -> pushK key jn M x = putK key jn M x
 | [],x,_,_ => rfl
 | [m],c,_,h => by
   have h1 : ¬ nlt (key c) (key m) := h _ (List.mem_cons_self ..)
   show pushK key jn ([] ++ [m]) c = if nlt (key m) (key c) then m :: [c] else if key m = key c then [jn m c] else c :: [m]
   rw [pushK_last]
   by_cases h2 : key m = key c
   ·rw [if_pos h2,if_neg (fun h3 => nlt_ne h3 h2),if_pos h2]
    rfl
   ·rw [if_neg h2,if_pos ((nlt_or (key m) (key c)).resolve_right fun h3 => h3.elim h2 h1)]
    rfl
 | m :: z :: M,c,hr,h => by
   have ih := pushK_put (M := z :: M) c hr.2 fun y hy => h y (List.mem_cons_of_mem _ hy)
   have h1 : nlt (key m) (key c) := by
    have h2 := hr.1 z (List.mem_cons_self ..)
    rcases nlt_or (key z) (key c) with h3 | h3 | h3
    ·exact nlt_tr h2 h3
    ·exact h3 ▸ h2
    ·exact absurd h3 (h z (List.mem_cons_of_mem _ (List.mem_cons_self ..)))
   have e : pushK key jn (m :: z :: M) c = m :: pushK key jn (z :: M) c := by
    rcases List.eq_nil_or_concat (z :: M) with h4 | ⟨L,y,h4⟩
    ·cases h4
    ·rw [h4,List.concat_eq_append,pushK_last,<- List.cons_append,pushK_last]
     split <;> rfl
   rw [e,ih]
   show _ = if nlt (key m) (key c) then m :: putK key jn (z :: M) c else _
   rw [if_pos h1]
def UnderK (key : α -> ByteArray) (M l : List α) : Prop := ∀ x ∈ l,∀ m ∈ M,¬ nlt (key x) (key m)
theorem underK_put (hk : ∀ x y,key x = key y -> key (jn x y) = key x) {M l : List α} {x : α} (h : UnderK key M l) (hx : ∀ y ∈ l,¬ nlt (key y) (key x)) : UnderK key (putK key jn M x) l := fun y hy m hm =>
 putK_all (p := fun z => ¬ nlt (key y) (key z)) (c := x) (fun z e hz => by rw [hk z x e]; exact hz) (hx y hy) (fun z hz => h y hy z hz) m hm
theorem runK_ok (J : JK key jn Good) : ∀ (k : Nat) (M a b : List α),a.length + b.length <= k -> RiseK key M -> AllK Good M -> RiseK key a -> AllK Good a -> RiseK key b -> AllK Good b -> UnderK key M a -> UnderK key M b ->
    runK key jn M a b = mrgK key jn (mrgK key jn M a) b
 | k,M,[],[],_,_,_,_,_,_,_,_,_ => runK_nil M
 | 0,M,x :: a,b,h,_,_,_,_,_,_,_,_ => by simp at h
 | 0,M,[],y :: b,h,_,_,_,_,_,_,_,_ => by simp at h
 | k + 1,M,x :: a,[],h,rM,gM,ra,ga,rb,gb,ua,ub => by
   have gx := ga x (List.mem_cons_self ..)
   rw [runK_a,pushK_put x rM fun m hm => ua x (List.mem_cons_self ..) m hm]
   exact runK_ok J k (putK key jn M x) a [] (by simp at h ⊢; omega) (putK_rise J.key_ _ rM) (putK_all (fun z e hz => J.good hz gx e) gx gM) ra.2 (fun z hz => ga z (List.mem_cons_of_mem _ hz)) rb gb
    (underK_put J.key_ (fun y hy m hm => ua y (List.mem_cons_of_mem _ hy) m hm) fun y hy h4 => nlt_irr _ (nlt_tr (ra.1 y hy) h4)) (fun y hy => by cases hy)
 | k + 1,M,[],y :: b,h,rM,gM,ra,ga,rb,gb,ua,ub => by
   have gy := gb y (List.mem_cons_self ..)
   rw [runK_b,pushK_put y rM fun m hm => ub y (List.mem_cons_self ..) m hm]
   exact runK_ok J k (putK key jn M y) [] b (by simp at h ⊢; omega) (putK_rise J.key_ _ rM) (putK_all (fun z e hz => J.good hz gy e) gy gM) ra ga rb.2 (fun z hz => gb z (List.mem_cons_of_mem _ hz))
    (fun y hy => by cases hy) (underK_put J.key_ (fun x hx m hm => ub x (List.mem_cons_of_mem _ hx) m hm) fun x hx h4 => nlt_irr _ (nlt_tr (rb.1 x hx) h4))
 | k + 1,M,x :: a,y :: b,h,rM,gM,ra,ga,rb,gb,ua,ub => by
   have gx := ga x (List.mem_cons_self ..)
   have gy := gb y (List.mem_cons_self ..)
   by_cases hyx : nlt (key y) (key x)
   ·rw [runK_ba _ _ _ _ _ hyx,pushK_put y rM fun m hm => ub y (List.mem_cons_self ..) m hm]
    have gMy : AllK Good (putK key jn M y) := putK_all (fun z e hz => J.good hz gy e) gy gM
    have rMy := putK_rise (jn := jn) J.key_ y rM
    rw [runK_ok J k (putK key jn M y) (x :: a) b (by simp at h ⊢; omega) rMy gMy ra ga rb.2 (fun z hz => gb z (List.mem_cons_of_mem _ hz))
     (underK_put J.key_ ua fun z hz h4 => by
       rcases List.mem_cons.1 hz with rfl | hz
       ·exact nlt_irr _ (nlt_tr hyx h4)
       ·exact nlt_irr _ (nlt_tr (nlt_tr hyx (ra.1 z hz)) h4))
     (underK_put J.key_ (fun x hx m hm => ub x (List.mem_cons_of_mem _ hx) m hm) fun x hx h4 => nlt_irr _ (nlt_tr (rb.1 x hx) h4))]
    -- y may be put in behind a
    have ry : RiseK key [y] := ⟨fun z hz => (by cases hz),trivial⟩
    have gy1 : AllK Good [y] := fun z hz => by rw [List.mem_singleton.1 hz]; exact gy
    have e1 : mrgK key jn (putK key jn M y) (x :: a) = putK key jn (mrgK key jn M (x :: a)) y := by
     show mrgK key jn (mrgK key jn M [y]) (x :: a) = mrgK key jn (mrgK key jn M (x :: a)) [y]
     rw [mrgK_assoc J rM gM ry gy1 ra ga,mrgK_comm J ry gy1 ra ga,<- mrgK_assoc J rM gM ra ga ry gy1]
    rw [e1]
    rfl
   ·rw [runK_ab _ _ _ _ _ hyx,pushK_put x rM fun m hm => ua x (List.mem_cons_self ..) m hm]
    exact runK_ok J k (putK key jn M x) a (y :: b) (by simp at h ⊢; omega) (putK_rise J.key_ _ rM) (putK_all (fun z e hz => J.good hz gx e) gx gM) ra.2 (fun z hz => ga z (List.mem_cons_of_mem _ hz)) rb gb
     (underK_put J.key_ (fun y hy m hm => ua y (List.mem_cons_of_mem _ hy) m hm) fun y hy h4 => nlt_irr _ (nlt_tr (ra.1 y hy) h4))
     (underK_put J.key_ ub fun z hz h4 => by
       rcases List.mem_cons.1 hz with rfl | hz
       ·exact hyx h4
       ·exact hyx (nlt_tr (rb.1 z hz) h4))
theorem nil_mrgK (J : JK key jn Good) {l : List α} (rl : RiseK key l) : mrgK key jn [] l = l := (mrgK_eq J.key_ (l := []) trivial rl rl fun n => rfl).symm
theorem runK_mrg (J : JK key jn Good) {l k : List α} (rl : RiseK key l) (gl : AllK Good l) (rk : RiseK key k) (gk : AllK Good k) : runK key jn [] l k = mrgK key jn l k := by
 rw [runK_ok J _ [] l k (Nat.le_refl _) trivial (fun x hx => by cases hx) rl gl rk gk (fun x _ m hm => by cases hm) (fun x _ m hm => by cases hm),nil_mrgK J rl]
end
end Go.Proofs.YtmpcnhpdobdmcaaGreatDoor
namespace Go.Proofs.YtmpcnhpdobdmcaaGreatDoor
open Go Go.RowKit
structure Kept (F : Nat -> Prop) (w w' : World) : Prop where
 os : w'.os = w.os
 tape : w'.tape = w.tape
 output : w'.output = w.output
 size : w.heap.size <= w'.heap.size
 block : ∀ k,k < w.heap.size -> ¬ F k -> w'.heap[k]? = w.heap[k]?
structure Step (F : Nat -> Prop) (w : World) (F' : Nat -> Prop) (w' : World) : Prop where
 kept : Kept F w w'
 new : ∀ k,F' k -> F k \/ (w.heap.size <= k /\ k < w'.heap.size)
def Plus (F : Nat -> Prop) (w w' : World) : Nat -> Prop := fun k => F k \/ (w.heap.size <= k /\ k < w'.heap.size)
def Off (F G : Nat -> Prop) : Prop := ∀ k,F k -> ¬ G k
def In (F : Nat -> Prop) (w : World) : Prop := ∀ k,F k -> k < w.heap.size
section
variable {F F' F'' G G' : Nat -> Prop} {w w' w'' : World}
theorem Kept.refl (F : Nat -> Prop) (w : World) : Kept F w w := ⟨rfl,rfl,rfl,Nat.le_refl _,fun _ _ _ => rfl⟩
theorem Kept.mono (h : Kept F w w') (hs : ∀ k,F k -> G k) : Kept G w w' := ⟨h.os,h.tape,h.output,h.size,fun k hk hn => h.block k hk fun hf => hn (hs k hf)⟩
theorem Kept.trans (h : Kept F w w') (h' : Kept F' w' w'') (hs : ∀ k,F' k -> F k \/ w.heap.size <= k) : Kept F w w'' :=
 ⟨h'.os.trans h.os,h'.tape.trans h.tape,h'.output.trans h.output,Nat.le_trans h.size h'.size,fun k hk hn =>
   (h'.block k (Nat.lt_of_lt_of_le hk h.size) fun hf => (hs k hf).elim hn (by omega)).trans (h.block k hk hn)⟩
theorem Kept.of_below (h : Below w.heap.size w w') (F : Nat -> Prop) : Kept F w w' := ⟨h.os,h.tape,h.output,h.size,fun k hk _ => h.block k hk⟩
theorem Kept.of_grown {row : Option Nat} (h : w.grownBy w' row) (hr : ∀ k,row = some k -> F k) : Kept F w w' :=
 ⟨h.os,h.tape,h.output,h.size,fun k hk hn => h.block k hk fun e => hn (hr k e.symm)⟩
theorem Kept.below (h : Kept F w w') {B : Nat} (hF : ∀ k,F k -> B <= k) (hB : B <= w.heap.size) : Below B w w' :=
 ⟨h.os,h.tape,h.output,h.size,fun k hk => h.block k (by omega) fun hf => by have := hF k hf; omega⟩
theorem Kept.setCell (F : Nat -> Prop) (w : World) (p : Addr) (u : Value) (hp : F p.block) : Kept F w (w.setCell p u) :=
 ⟨rfl,rfl,rfl,by simp [World.setCell],fun k hk hn => Below.heap_setCell w p u k fun e => hn (by rw [e]; exact hp)⟩
theorem Kept.alloc (F : Nat -> Prop) (w : World) (o : Obj) : Kept F w (w.alloc o) := Kept.of_below ((Below.refl _ w).alloc (Nat.le_refl _) o) F
theorem Kept.drew (h : Kept F w w') : Kept F w w'.drew := ⟨h.os,h.tape,h.output,h.size,h.block⟩
theorem Kept.undrew (h : Kept F w.drew w') : Kept F w w' := ⟨h.os,h.tape,h.output,h.size,h.block⟩
theorem Step.refl (F : Nat -> Prop) (w : World) : Step F w F w := ⟨Kept.refl F w,fun _ h => Or.inl h⟩
theorem Step.plus (h : Kept F w w') : Step F w (Plus F w w') w' := ⟨h,fun _ h => h⟩
theorem Step.same (h : Kept F w w') : Step F w F w' := ⟨h,fun _ h => Or.inl h⟩
theorem Step.trans (h : Step F w F' w') (h' : Step F' w' F'' w'') : Step F w F'' w'' :=
 ⟨h.kept.trans h'.kept fun k hk => (h.new k hk).imp id (fun x => x.1),fun k hk => by
   have h1 := h.kept.size
   have h2 := h'.kept.size
   rcases h'.new k hk with h3 | h3
   ·rcases h.new k h3 with h4 | h4
    ·exact Or.inl h4
    ·exact Or.inr (by omega)
   ·exact Or.inr (by omega)⟩
theorem Step.below (h : Step F w F' w') {B : Nat} (hF : ∀ k,F k -> B <= k) (hB : B <= w.heap.size) : Below B w w' := h.kept.below hF hB
theorem Step.above (h : Step F w F' w') {B : Nat} (hF : ∀ k,F k -> B <= k) (hB : B <= w.heap.size) : ∀ k,F' k -> B <= k := fun k hk => by
 rcases h.new k hk with h1 | h1
 ·exact hF k h1
 ·omega
theorem Step.in_ (h : Step F w F' w') (hi : In F w) : In F' w' := fun k hk => by
 have := h.kept.size
 rcases h.new k hk with h1 | h1
 ·have := hi k h1
  omega
 ·exact h1.2
theorem In.up (h : In F w) (hs : w.heap.size <= w'.heap.size) : In F w' := fun k hk => Nat.lt_of_lt_of_le (h k hk) hs
theorem Step.mono (h : Step F w F' w') (hs : ∀ k,F k -> G k) : Step G w F' w' := ⟨h.kept.mono hs,fun k hk => (h.new k hk).imp (hs k) id⟩
theorem Kept.get (h : Kept F w w') (ho : Off F G) (hG : In G w) {k : Nat} (hk : G k) : w'.heap[k]? = w.heap[k]? := h.block k (hG k hk) fun hf => ho k hf hk
theorem own_kept {b n size : Nat} {e : TypeId} {v : Value} {xs : List Value} (h : w.ownsRow b e size v n xs) (hk : ∀ g,v.ownBlock = some g -> w'.heap[g]? = w.heap[g]?) : w'.ownsRow b e size v n xs := by
 refine ⟨h.1,?_⟩
 rcases h.2 with h1 | ⟨g,cap,cur,h1,h2,h3,h4⟩
 ·exact Or.inl h1
 ·exact Or.inr ⟨g,cap,cur,h1,h2,by rw [hk g (by rw [h1]; rfl)]; exact h3,h4⟩
theorem own_cut {b n size : Nat} {e : TypeId} {A : Option Addr} {c : Nat} {xs : List Value} (h : w.ownsRow b e size (.slice A n c) n xs) {m : Nat} (hm : m <= n) : w.ownsRow b e size (.slice A m c) m (xs.take (m * size)) := by
 have hx := h.1
 have hms : m * size <= n * size := Nat.mul_le_mul_right _ hm
 refine ⟨by rw [List.length_take]; omega,?_⟩
 rcases h.2 with ⟨h1,h2⟩ | ⟨g,cap,cur,h1,h2,h3,h4,h5,h6,h7⟩
 ·have : m = 0 := by omega
  subst this
  injection h1 with h1 h1' h1''
  subst h1
  subst h1''
  exact Or.inl ⟨rfl,rfl⟩
 ·injection h1 with h1 h1' h1''
  subst h1
  subst h1''
  refine Or.inr ⟨g,c,cur,rfl,h2,h3,by omega,h5,h6,?_⟩
  rw [<- h7,List.take_take,Nat.min_eq_left hms]
theorem own_slice {b n size : Nat} {e : TypeId} {v : Value} {xs : List Value} (h : w.ownsRow b e size v n xs) : ∃ A c,v = .slice A n c /\ n <= c /\ c <= maxLen /\ (A = none -> c = 0) := by
 rcases h.2 with ⟨rfl,rfl⟩ | ⟨g,cap,cur,rfl,h2,h3,h4,h5,_⟩
 ·exact ⟨none,0,rfl,Nat.le_refl _,Nat.zero_le _,fun _ => rfl⟩
 ·exact ⟨_,cap,rfl,h4,h5,fun h => by cases h⟩
theorem own_block_lt {b n size : Nat} {e : TypeId} {v : Value} {xs : List Value} (h : w.ownsRow b e size v n xs) : ∀ g,v.ownBlock = some g -> g < w.heap.size := by
 rcases h.2 with ⟨rfl,rfl⟩ | ⟨g,cap,cur,rfl,h2,h3,h4,h5,_⟩
 ·intro g hg; cases hg
 ·intro g' hg
  injection hg with hg
  subst hg
  exact (Array.getElem?_eq_some_iff.1 h3).1
theorem own_tag {b n size : Nat} {e : TypeId} {v : Value} {xs : List Value} (h : w.ownsRow b e size v n xs) : ∀ g,v.ownBlock = some g -> ∃ cs,w.heap[g]? = some (.cells cs e (0,0)) := by
 rcases h.2 with ⟨rfl,rfl⟩ | ⟨g,cap,cur,rfl,h2,h3,h4,h5,_⟩
 ·intro g hg; cases hg
 ·intro g' hg
  injection hg with hg
  subst hg
  exact ⟨_,h3⟩
theorem cell_at {g i : Nat} {cs : Array Value} {t : TypeId} (h : w.heap[g]? = some (.cells cs t (0,0))) {v : Value} (hv : cs[i]? = some v) : w.cell? ⟨g,i,none⟩ = some v := by
 simp [World.cell?,h,hv]
theorem thawed_at {g i : Nat} {cs : Array Value} {t : TypeId} (h : w.heap[g]? = some (.cells cs t (0,0))) : w.frozen? ⟨g,i,none⟩ = false := by
 simp [World.frozen?,h]
end
end Go.Proofs.YtmpcnhpdobdmcaaGreatDoor
namespace Go.Proofs.YtmpcnhpdobdmcaaGreatDoor
open Go Go.RowKit
def RdS (w : World) (B : Nat) (A : Option Addr) (n : Nat) (l : List ByteArray) : Prop :=
 l.length = n /\ (0 < n -> ∃ ad,A = some ad /\ ad.block < B /\ ∀ j (hj : j < l.length),w.cell? (ad.add j) = some (.string l[j]))
def strRow (l : List ByteArray) : List Value := l.map Value.string
section
variable {w w' : World} {B B' n : Nat} {A : Option Addr} {l : List ByteArray}
theorem RdS.keep (h : RdS w B A n l) (hk : ∀ p : Addr,p.block < B -> w'.cell? p = w.cell? p) : RdS w' B A n l :=
 ⟨h.1,fun hn => by
   obtain ⟨ad,e,hb,hc⟩ := h.2 hn
   exact ⟨ad,e,hb,fun j hj => (hk _ (by rw [addr_block]; exact hb)).trans (hc j hj)⟩⟩
theorem RdS.below (h : RdS w B A n l) (hb : Below B w w') : RdS w' B A n l := h.keep fun _ hp => hb.cell hp
theorem RdS.at2 (h : RdS w B A n l) {j : Nat} (hj : j < n) : ∃ g o,A = some ⟨g,o,none⟩ /\ g < B /\ ∀ i (hi : i < l.length),w.cell? ⟨g,o + i,none⟩ = some (.string l[i]) := by
 obtain ⟨ad,rfl,hb,hc⟩ := h.2 (by omega)
 have h0 := hc 0 (by have := h.1; omega)
 have hs : ad.spot = none := by simpa [Addr.add] using World.cell?_spot h0
 obtain ⟨g,o,sp⟩ := ad
 simp only at hs
 subst hs
 exact ⟨g,o,rfl,hb,fun i hi => by rw [<- Addr.add_lit]; exact hc i hi⟩
theorem RdS.pre (h : RdS w B A n l) {m : Nat} (hm : m <= n) : RdS w B A m (l.take m) := by
 refine ⟨by rw [List.length_take,h.1]; omega,fun h0 => ?_⟩
 obtain ⟨ad,e,hb,hc⟩ := h.2 (by omega)
 refine ⟨ad,e,hb,fun j hj => ?_⟩
 have hj2 : j < l.length := by rw [List.length_take] at hj; omega
 rw [hc j hj2]
 simp
theorem RdS.of_own {base : Nat} {v : Value} {n : Nat} (h : w.ownsRow base 9 1 v n (strRow l)) :
    ∃ A c,v = .slice A n c /\ n <= c /\ c <= maxLen /\ (A = none -> c = 0) /\ RdS w w.heap.size A n l := by
 have hl : l.length = n := by have := h.1; unfold strRow at this; rw [List.length_map] at this; omega
 rcases h.2 with ⟨rfl,rfl⟩ | ⟨g,cap,cur,rfl,hb,hh,hn,hm,hs,ht⟩
 ·exact ⟨none,0,rfl,Nat.le_refl _,Nat.zero_le _,fun _ => rfl,hl,fun h => absurd h (by omega)⟩
 ·refine ⟨some ⟨g,0,none⟩,cap,rfl,hn,hm,fun h => (by cases h),hl,fun hn => ⟨_,rfl,(Array.getElem?_eq_some_iff.1 hh).1,fun j hj => ?_⟩⟩
  refine h.cells (g := g) rfl j _ ?_
  unfold strRow
  rw [List.getElem?_map,List.getElem?_eq_getElem hj]
  rfl
end
theorem infoS : (Tryz.prog.info? 9).map (fun i => (i.zero,i.size,i.bytes)) = some (some (.string ⟨#[]⟩),1,16) := by kernel_rfl
theorem run_appText {w : World} (base : Nat) {v : Value} {n : Nat} {l : List ByteArray} (hown : w.ownsRow base 9 1 v n (strRow l)) (s : ByteArray) {ad : Addr} (hc : w.cell? ad = some (.string s))
    (hsz : n <= 1000000000000) (hbase : base <= w.heap.size) (ty : TypeId) :
    ∃ v' w',(Builtin.append_ #[48,48] ty #[v,.slice (some ad) 1 1]).run Tryz.prog w = .ok v' w' /\ (w'.ownsRow base 9 1 v' (n + 1) (strRow (l ++ [s])) /\ w.grownBy w' v.ownBlock) := by
 obtain ⟨i,hi,hz0,hz1,hz2⟩ := info_parts infoS
 obtain ⟨v',w',h1,h2,h3,_⟩ := run_append_own (P := Tryz.prog) w base 48 ty 9 i (.string ⟨#[]⟩) 1 16 Tryz.underlying48 hi hz0 hz1 hz2 rfl (by decide) v n (strRow l) hown ad 1 1 [.string s] rfl
  (fun j u hj => by
    rcases j with _ | j
    ·have e : ad.add 0 = ad := by unfold Addr.add; rw [if_pos rfl]
     rw [e,hc]
     exact hj
    ·simp at hj)
  (fun u hu => by simp at hu; subst hu; rfl) (by unfold maxLen; omega) (by omega) hbase
 exact ⟨v',w',h1,by unfold strRow; rw [List.map_append]; exact h2,h3⟩
end Go.Proofs.YtmpcnhpdobdmcaaGreatDoor
namespace Go.Proofs.YtmpcnhpdobdmcaaGreatDoor
open Go Go.RowKit Go.Extern.Stop Go.Stop Go.Extern
abbrev eV (a : Addr) : Value := .iface 332 (.pointer (some a))
structure Ers (w : World) (a0 a1 a2 a3 : Addr) : Prop where
 v0 : w.cell? ⟨0,0,none⟩ = some (eV a0)
 v1 : w.cell? ⟨1,0,none⟩ = some (eV a1)
 v2 : w.cell? ⟨2,0,none⟩ = some (eV a2)
 v3 : w.cell? ⟨3,0,none⟩ = some (eV a3)
 c0 : ∃ c t,w.heap[a0.block]? = some (.cells c t (0,0))
 c1 : ∃ c t,w.heap[a1.block]? = some (.cells c t (0,0))
 c2 : ∃ c t,w.heap[a2.block]? = some (.cells c t (0,0))
 c3 : ∃ c t,w.heap[a3.block]? = some (.cells c t (0,0))
 n01 : a0 ≠ a1
 n02 : a0 ≠ a2
 n03 : a0 ≠ a3
 n12 : a1 ≠ a2
 n13 : a1 ≠ a3
 n23 : a2 ≠ a3
theorem cell_blk {w : World} {p : Addr} {v : Value} (h : w.cell? p = some v) : p.block < w.heap.size := by
 rcases Nat.lt_or_ge p.block w.heap.size with h1 | h1
 ·exact h1
 ·have : w.heap[p.block]? = none := Array.getElem?_eq_none h1
  unfold World.cell? at h
  rw [this] at h
  cases h
theorem Ers.below {w w' : World} {a0 a1 a2 a3 : Addr} (h : Ers w a0 a1 a2 a3) (hb : Below w.heap.size w w') : Ers w' a0 a1 a2 a3 := by
 have hv : ∀ {p : Addr} {v : Value},w.cell? p = some v -> w'.cell? p = some v := fun h => (hb.cell (cell_blk h)).trans h
 have hc : ∀ {a : Addr},(∃ c t,w.heap[a.block]? = some (.cells c t (0,0))) -> ∃ c t,w'.heap[a.block]? = some (.cells c t (0,0)) := fun ⟨c,t,h⟩ => ⟨c,t,by rw [hb.block _ (Array.getElem?_eq_some_iff.1 h).1]; exact h⟩
 exact ⟨hv h.v0,hv h.v1,hv h.v2,hv h.v3,hc h.c0,hc h.c1,hc h.c2,hc h.c3,h.n01,h.n02,h.n03,h.n12,h.n13,h.n23⟩
theorem is_nil (b : Addr) (w : World) :
    Calls Tryz.prog 43 #[.nilIface,eV b] w fun e w' => e = .returned (.bool false) /\ w' = w := by
 have hn := run_eql_iface_nil_left (P := Tryz.prog) w 332 (.pointer (some b)) Tryz.underlying72
 go_enter Tryz.func43,Tryz.ntmps43
 go_wp2
 go_ret
 exact ⟨rfl,rfl⟩
end Go.Proofs.YtmpcnhpdobdmcaaGreatDoor
namespace Go.Proofs.YtmpcnhpdobdmcaaGreatDoor
open Go Go.RowKit
theorem number_nil (a0 a1 a2 a3 : Addr) (w : World) (h : Ers w a0 a1 a2 a3) :
    Calls Tryz.prog 23 #[.nilIface] w fun e w' => e = .returned (.int .i64 0) /\ w' = w := by
 have h0 := h.v0; have h1 := h.v1; have h2 := h.v2; have h3 := h.v3
 clear h
 go_enter Tryz.func23,Tryz.ntmps23
 go_wp2_with (go_at_call 43; refine (is_nil _ _).mono ?_; rintro e w' ⟨rfl,rfl⟩)
 go_ret
 exact ⟨rfl,rfl⟩
structure ErIn (F : Nat -> Prop) (w : World) (a0 a1 a2 a3 : Addr) : Prop where
 ers : Ers w a0 a1 a2 a3
 in_ : In F w
 lo : ∃ B,(0 < B /\ 1 < B /\ 2 < B /\ 3 < B) /\ (a0.block < B /\ a1.block < B /\ a2.block < B /\ a3.block < B) /\ B <= w.heap.size /\ ∀ k,F k -> B <= k
section
variable {F F' : Nat -> Prop} {w w' : World} {a0 a1 a2 a3 : Addr}
theorem ErIn.to (h : ErIn F w a0 a1 a2 a3) (hk : Kept F w w') (hi : In F' w') (hn : ∀ k,F' k -> F k \/ w.heap.size <= k) : ErIn F' w' a0 a1 a2 a3 := by
 obtain ⟨B,⟨g0,g1,g2,g3⟩,⟨b0,b1,b2,b3⟩,hB,hF⟩ := h.lo
 have hb : ∀ k,k < B -> w'.heap[k]? = w.heap[k]? := fun k hk1 => hk.block k (by omega) fun hf => by have := hF k hf; omega
 have hv : ∀ {k : Nat} {v : Value},k < B -> w.cell? ⟨k,0,none⟩ = some v -> w'.cell? ⟨k,0,none⟩ = some v := fun hk h1 => by
  unfold World.cell? at h1 ⊢
  rw [hb _ hk]
  exact h1
 have e := h.ers
 exact ⟨⟨hv g0 e.v0,hv g1 e.v1,hv g2 e.v2,hv g3 e.v3,by rw [hb _ b0]; exact e.c0,by rw [hb _ b1]; exact e.c1,by rw [hb _ b2]; exact e.c2,by rw [hb _ b3]; exact e.c3,e.n01,e.n02,e.n03,e.n12,e.n13,e.n23⟩,hi,
  ⟨B,⟨g0,g1,g2,g3⟩,⟨b0,b1,b2,b3⟩,Nat.le_trans hB hk.size,fun k hk1 => by
    rcases hn k hk1 with h1 | h1
    ·exact hF k h1
    ·omega⟩⟩
theorem ErIn.below (h : ErIn F w a0 a1 a2 a3) (hb : Below w.heap.size w w') : ErIn F w' a0 a1 a2 a3 := h.to (Kept.of_below hb F) (h.in_.up hb.size) fun k hk => Or.inl hk
theorem ErIn.plus (h : ErIn F w a0 a1 a2 a3) (hk : Kept F w w') : ErIn (Plus F w w') w' a0 a1 a2 a3 := h.to hk (fun k h1 => by
 rcases h1 with h1 | h1
 ·have := h.in_ k h1; have := hk.size; omega
 ·exact h1.2) fun k h1 => h1.imp id fun h2 => h2.1
end
end Go.Proofs.YtmpcnhpdobdmcaaGreatDoor
