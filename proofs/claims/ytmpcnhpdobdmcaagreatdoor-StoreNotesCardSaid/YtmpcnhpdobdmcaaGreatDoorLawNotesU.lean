import Derived.Test.YtmpcnhpdobdmcaaGreatDoorLawNotesN
import Derived.Test.YtmpcnhpdobdmcaaGreatDoorLawNotesK
import Derived.Test.YtmpcnhpdobdmcaaGreatDoorLawNotesO
open Go.Lib (hid)
open List renaming getElem_toArray -> zq1,getElem_cons_succ -> zq2,getElem_cons_zero -> zq3,setIfInBounds_toArray -> zq4,set_cons_zero -> zq5,set_cons_succ -> zq6
set_option linter.unusedVariables false
set_option linter.unusedSimpArgs false
set_option maxHeartbeats 4000000
set_option maxRecDepth 8000
namespace Go.Proofs.YtmpcnhpdobdmcaaGreatDoor
open Go Go.RowKit
theorem ok_injB {α : Type} {a b : α} {w w' : World} (h : (Result.ok a w : Result α) = .ok b w') : a = b /\ w = w' := by
 injection h with h1 h2
 exact ⟨h1,h2⟩
abbrev OwnY (B : Nat) (w : World) (v : Value) (l : Bs) : Prop := w.ownsRow B 5 1 v l.length (Lib.byteCells l)
def Near (w : World) (v v' : Value) : Prop := v'.ownBlock = v.ownBlock \/ ∀ k,v'.ownBlock = some k -> w.heap.size <= k
theorem Near.on {w w1 : World} {v v1 v2 : Value} (h : Near w v v1) (hs : w.heap.size <= w1.heap.size) (h' : Near w1 v1 v2) : Near w v v2 := by
 rcases h' with h' | h'
 ·rcases h with h | h
  ·exact Or.inl (h'.trans h)
  ·exact Or.inr fun k hk => h k (h'.symm.trans hk)
 ·exact Or.inr fun k hk => Nat.le_trans hs (h' k hk)
structure Ly (B : Nat) (w : World) (v : Value) (w1 : World) (v1 : Value) (l1 : Bs) : Prop where
 own : OwnY B w1 v1 l1
 kept : Kept (fun k => v.ownBlock = some k) w w1
 near : Near w v v1
def Lays (B : Nat) (w : World) (v : Value) (l' : Bs) (e : Ending) (w' : World) : Prop := ∃ v',e = .returned v' /\ Ly B w v w' v' l'
theorem Ly.refl {B : Nat} {w : World} {v : Value} {l : Bs} (h : OwnY B w v l) : Ly B w v w v l := ⟨h,Kept.refl _ _,Or.inl rfl⟩
theorem Ly.size {B : Nat} {w w1 : World} {v v1 : Value} {l1 : Bs} (h : Ly B w v w1 v1 l1) : w.heap.size <= w1.heap.size := h.kept.size
theorem Ly.below {B : Nat} {w w1 w2 : World} {v v1 : Value} {l1 : Bs} (h : Ly B w v w1 v1 l1) (hb : Below w1.heap.size w1 w2) : Ly B w v w2 v1 l1 :=
 ⟨own_below h.own hb,Kept.trans h.kept (Kept.of_below hb (fun _ => False)) fun _ h => h.elim,h.near⟩
theorem Ly.drew {B : Nat} {w w1 : World} {v v1 : Value} {l1 : Bs} (h : Ly B w v w1 v1 l1) : Ly B w v w1.drew v1 l1 := h.below (Below.refl _ _).drew
theorem Ly.on {B : Nat} {w w1 w2 : World} {v v1 v2 : Value} {l1 l2 : Bs} (h : Ly B w v w1 v1 l1) (h' : Ly B w1 v1 w2 v2 l2) : Ly B w v w2 v2 l2 :=
 ⟨h'.own,Kept.trans h.kept h'.kept fun k hk => by
   rcases h.near with h | h
   ·exact Or.inl (h.symm.trans hk)
   ·exact Or.inr (h k hk),h.near.on h.size h'.near⟩
theorem Ly.grown {B n N : Nat} {w w1 : World} {v v1 : Value} {l1 : Bs} (ho : w1.ownsRow B 5 1 v1 n (Lib.byteCells l1)) (hn : l1.length = n) (hg : w.grownBy w1 v.ownBlock) (hl : v1.ownBlock = v.ownBlock \/ v1.ownBlock = some N) (hN : w.heap.size <= N := by first | exact Nat.le_refl _ | simp) : Ly B w v w1 v1 l1 :=
 ⟨by unfold OwnY; rw [hn]; exact ho,Kept.of_grown hg fun k hk => hk,hl.imp id fun h k hk => by
   rw [h] at hk
   injection hk with hk
   omega⟩
theorem Ly.at_ {B q : Nat} {w w1 : World} {v v1 : Value} {l l1 : Bs} (h : Ly B w v w1 v1 l1) (h0 : OwnY B w v l) {cs : Array Value} {t : TypeId} (hq : w.heap[q]? = some (.cells cs t (0,0))) (ht : 5 ≠ t) : w1.heap[q]? = some (.cells cs t (0,0)) :=
 (h.kept.block q (Array.getElem?_eq_some_iff.1 hq).1 fun hf => by
   obtain ⟨cs',h2⟩ := own_tag h0 q hf
   rw [hq] at h2
   injection h2 with h2
   injection h2 with _ h3 _
   exact ht h3.symm).trans hq
theorem Ly.base {B : Nat} {w w1 : World} {v v1 : Value} {l l1 : Bs} (h : Ly B w v w1 v1 l1) (h0 : OwnY B w v l) (hB : B <= w.heap.size) : Below B w w1 :=
 h.kept.below (fun k hk => by
  rcases h0.2 with ⟨e,_⟩ | ⟨g,cap,cur,e,h2,_⟩
  ·rw [e] at hk; cases hk
  ·rw [e] at hk
   injection hk with hk
   subst hk
   exact h2) hB
theorem Ly.same {B : Nat} {w w1 : World} {v v1 : Value} {l1 l2 : Bs} (h : Ly B w v w1 v1 l1) (e : l1 = l2) : Ly B w v w1 v1 l2 := e ▸ h
theorem OwnY.slice {B : Nat} {w : World} {v : Value} {l : Bs} (h : OwnY B w v l) : ∃ A n c,v = .slice A n c /\ l.length = n /\ n <= c /\ c <= maxLen /\ (A = none -> c = 0) /\ w.ownsRow B 5 1 (.slice A n c) n (Lib.byteCells l) := by
 obtain ⟨A,c,rfl,h1,h2,h3⟩ := own_slice h
 exact ⟨A,_,c,rfl,rfl,h1,h2,h3,h⟩
theorem run_appB_at {w : World} (base : Nat) {v : Value} {n : Nat} {l : List UInt8} (hown : w.ownsRow base 5 1 v n (Lib.byteCells l)) {B m : Nat} (c : Nat) {A : Option Addr} {k : List UInt8} (hr : Rd w B A m k)
    (hsz : n + m <= 140737488355328) (hbase : base <= w.heap.size) (ty : TypeId) :
    ∃ v' w',(Builtin.append_ #[29,29] ty #[v,.slice A m c]).run Tryz.prog w = .ok v' w' /\ (w'.ownsRow base 5 1 v' (n + m) (Lib.byteCells (l ++ k)) /\ (w.grownBy w' v.ownBlock /\ (v'.ownBlock = v.ownBlock \/ v'.ownBlock = some w.heap.size))) := by
 obtain ⟨i,hi,hz0,hz1,hz2⟩ := info_parts infoB
 cases A with
 | none =>
   have h0 : m = 0 := by
    rcases Nat.eq_zero_or_pos m with h1 | h1
    ·exact h1
    ·obtain ⟨ad,e,_⟩ := hr.2 h1; cases e
   subst h0
   obtain rfl : k = [] := List.eq_nil_of_length_eq_zero hr.1
   exact ⟨v,w,run_app_none base hown c,by simpa using hown,⟨rfl,rfl,rfl,Nat.le_refl _,fun _ _ _ => rfl⟩,Or.inl rfl⟩
 | some ad =>
   obtain ⟨v',w',h1,h2,h3,_,h5⟩ := run_append_own_at (P := Tryz.prog) w base 29 ty 5 i (.int .u8 0) 1 1 Tryz.underlying29 hi hz0 hz1 hz2 rfl (by decide) v n (Lib.byteCells l) hown ad m c (Lib.byteCells k)
    (by rw [Lib.byteCells_length,hr.1]; omega) (hr.cells rfl) (Lib.byteCells_one k) (by unfold maxLen; omega) (by omega) hbase
   exact ⟨v',w',h1,by rw [Lib.byteCells_append]; exact h2,h3,h5⟩
theorem run_appStrB_at {w : World} (base : Nat) {v : Value} {n : Nat} {l : List UInt8} (hown : w.ownsRow base 5 1 v n (Lib.byteCells l)) (s : ByteArray)
    (hsz : n + s.size <= 140737488355328) (hbase : base <= w.heap.size) (ty : TypeId) :
    ∃ v' w',(Builtin.append_ #[29,9] ty #[v,.string s]).run Tryz.prog w = .ok v' w' /\ (w'.ownsRow base 5 1 v' (n + s.size) (Lib.byteCells (l ++ s.data.toList)) /\ (w.grownBy w' v.ownBlock /\ (v'.ownBlock = v.ownBlock \/ v'.ownBlock = some w.heap.size))) := by
 obtain ⟨i,hi,hz0,hz1,hz2⟩ := info_parts infoB
 obtain ⟨v',w',h1,h2,h3,h4⟩ := Lib.run_append_own_string (P := Tryz.prog) w base 29 9 ty 5 i Tryz.underlying29 Tryz.underlying9 hi hz0 hz1 hz2 v n (Lib.byteCells l) hown s (by unfold maxLen; omega) hsz hbase
 refine ⟨v',w',h1,by rw [Lib.byteCells_append]; exact h2,h3,?_⟩
 rcases hown.2 with ⟨rfl,rfl⟩ | ⟨g,cap,cur,rfl,hbg,hg,hnc,hcm,hcs,htake⟩
 ·by_cases h0 : s.size = 0
  ·rw [h4.2 ⟨rfl,h0⟩]
   exact Or.inl rfl
  ·have hr := run_append_nil_string (P := Tryz.prog) w 29 9 ty 5 i (.int .u8 0) Tryz.underlying29 Tryz.underlying9 hi hz0 s (by omega) (by omega) (by rw [hz2]; omega)
   rw [h1] at hr
   rw [(ok_injB hr).1]
   exact Or.inr rfl
 ·by_cases hroom : n + s.size <= cap
  ·have hr := Lib.run_append_room_string (P := Tryz.prog) w 29 9 ty 5 i Tryz.underlying29 Tryz.underlying9 hi hz1 g n cap cur hg s hroom (by omega)
   rw [h1] at hr
   rw [(ok_injB hr).1]
   exact Or.inl rfl
  ·have holds : ∀ j u,(Lib.byteCells l)[j]? = some u -> w.cell? ((⟨g,0,none⟩ : Addr).add j) = some u := hown.cells (g := g) rfl
   have hr := Lib.run_append_grow_string (P := Tryz.prog) w 29 9 ty 5 i (.int .u8 0) Tryz.underlying29 Tryz.underlying9 hi hz0 ⟨g,0,none⟩ n cap (Lib.byteCells l) (by rw [hz1]; exact hown.1) holds s (by omega) (by omega) (by rw [hz2]; exact growslice_fits (by omega) (by omega))
   rw [h1] at hr
   rw [(ok_injB hr).1]
   exact Or.inr rfl
theorem own_nilY (w : World) (b : Nat) : OwnY b w (.slice none 0 0) [] := World.ownsRow_nil w b _ _
theorem OwnY.below {B : Nat} {w w' : World} {v : Value} {l : Bs} (h : OwnY B w v l) (hb : Below w.heap.size w w') : OwnY B w' v l := own_below h hb
theorem putNum_any (B : Nat) (v : Value) (l : Bs) (x : Int) (w : World) (h : OwnY B w v l) (hB : B <= w.heap.size) (h0 : 0 <= x) (h1 : x < 9223372036854775808) (hs : l.length <= 100000000000) :
    Calls Tryz.prog 143 #[v,.int .i64 x] w (Lays B w v (l ++ numL x.toNat)) := by
 have hc : IntKind.u64.wrap x = x := by rw [IntKind.wrap_u64]; omega
 have hn : (numL x.toNat).length <= 9 := numL_le (by omega)
 obtain ⟨A,n,c,rfl,hln,g1,g2,g3,_⟩ := h.slice
 have N := num_any none 0 0 x.toNat w.heap.size [] w (Rd.nil _ _) (Nat.le_refl _) (Nat.le_refl _) (by unfold maxLen; omega) (by omega) (by omega)
 rw [Int.toNat_of_nonneg h0] at N
 rw [List.nil_append] at N
 have HO := hid h; have HN := hid N; have HNL := hid hn; have HB := hid hB; have HS := hid hs; have HL := hid hln
 clear h hn g1 g2 g3 hB hs N hln
 go_enter Tryz.func143,Tryz.ntmps143
 go_wp2_with fail
 refine (HN.out).mono ?_
 rintro e w1 ⟨A2,n2,c2,rfl,hl2,hc2,hc3,hA2,hr2,hb2⟩
 have ho := OwnY.below HO.out hb2
 unfold OwnY at ho
 rw [HL.out] at ho
 go_wp2_with (at_builtin; refine list_ex rfl (.tmp 5) (.tmp 8) _ _ rfl (.slice A n c) (.slice A2 n2 c2) rfl rfl (run_appB_at B ho c2 hr2 ?s1 ?s2) ?_)
 case s1 => have h1 := HNL.out; have := HS.out; have := HL.out; omega
 case s2 => have := HB.out; have := hb2.size; omega
 intro v3 w3 h3 hg hloc
 go_wp2
 go_ret
 exact ⟨v3,rfl,((Ly.refl HO.out).below hb2).on (Ly.grown h3 (by rw [List.length_append,hl2,HL.out]) hg hloc)⟩
theorem putText_any (B : Nat) (v : Value) (l : Bs) (s : ByteArray) (w : World) (h : OwnY B w v l) (hB : B <= w.heap.size) (h1 : s.size <= 100000000000) (hs : l.length <= 10000000000) :
    Calls Tryz.prog 181 #[v,.string s] w (Lays B w v (l ++ tE s)) := by
 have hn : (numL s.size).length <= 9 := numL_le (by omega)
 have N := putNum_any B v l (s.size : Int) w h hB (by omega) (by omega) (by omega)
 rw [Int.toNat_natCast] at N
 have HN := hid N; have HNL := hid hn; have HB := hid hB; have HS := hid hs; have H1 := hid h1
 clear h hn hB hs N h1
 go_enter Tryz.func181,Tryz.ntmps181
 go_wp2_with fail
 refine (HN.out).mono ?_
 rintro e w1 ⟨v2,rfl,L2⟩
 obtain ⟨A2,n2,c2,rfl,hl2,_,_,_,ho2⟩ := L2.own.slice
 have HL2 := hid hl2
 clear hl2
 go_wp2_with (at_builtin; refine list_ex rfl (.tmp 8) (.tmp 9) _ _ rfl (.slice A2 n2 c2) (.string s) rfl rfl (run_appStrB_at B ho2 s ?s1 ?s2) ?_)
 case s1 => have h1 := HNL.out; have := HS.out; have := H1.out; have h2 := HL2.out; rw [List.length_append] at h2; omega
 case s2 => have := HB.out; have := L2.size; omega
 intro v3 w3 h3 hg hloc
 go_wp2
 go_ret
 refine ⟨v3,rfl,(L2.on (Ly.grown h3 ?_ hg hloc)).same ?_⟩
 ·have h1 := HL2.out
  have h2 : s.data.toList.length = s.size := rfl
  simp only [List.length_append] at h1 ⊢
  omega
 ·unfold tE; simp only [List.append_assoc]
theorem putCell_any (B : Nat) (v : Value) (l : Bs) (s : ByteArray) (d : Bool) (a e : Int) (w : World) (h : OwnY B w v l) (hB : B <= w.heap.size) (hg : (⟨s,d,a,e⟩ : Ce).Gd) (hs : s.size <= 1000000000) (hl : l.length <= 1000000000) :
    Calls Tryz.prog 246 #[v,.agg #[.string s,.bool d,.int .i64 a,.int .i64 e]] w (Lays B w v (l ++ cE ⟨s,d,a,e⟩)) := by
 obtain ⟨ga,gn,gd,gv⟩ := hg
 dsimp only at ga gn gd gv
 have bz := (Below.refl w.heap.size w).alloc (Nat.le_refl _) (.cells #[.string s,.bool d,.int .i64 a,.int .i64 e] 42)
 have hz := heap_alloc_new w (.cells #[.string s,.bool d,.int .i64 a,.int .i64 e] 42)
 have l0 := (Ly.refl h).below bz
 obtain ⟨V,hV⟩ : ∃ V,V = w.alloc (.cells #[.string s,.bool d,.int .i64 a,.int .i64 e] 42) := ⟨_,rfl⟩
 have hVs : V.heap.size = w.heap.size + 1 := by rw [hV]; simp
 rw [<- hV] at bz hz l0
 have hq2 := cell_at (i := 2) hz rfl
 have L0 := hid l0; have HZ := hid hz; have HB := hid hB; have HS := hid hs; have HLL := hid hl; have HVS := hid hVs; have GA := hid ga
 have hnl : (numL a.toNat).length <= 9 := stm_num ga
 have HNL := hid hnl
 clear bz hz l0 hB hs hl hVs h hnl
 go_enter Tryz.func246,Tryz.ntmps246
 go_wp2_with fail
 rw [<- hV] at *
 clear hV
 refine (putNum_any B v l a V L0.out.own (Nat.le_trans HB.out L0.out.size) ga.1 (by omega) (by have := HLL.out; omega)).mono ?_
 rintro x w1 ⟨v1,rfl,l1⟩
 have hz1 := l1.at_ L0.out.own HZ.out (by decide)
 have L1 := hid (L0.out.on l1)
 have HZ1 := hid hz1
 have hc2 := cell_at (i := 2) hz1 rfl
 have hc1 := cell_at (i := 1) hz1 rfl
 clear l1 hz1 ga hq2
 by_cases h0 : a = 0
 ·subst h0
  go_wp2
  go_ret
  refine ⟨v1,rfl,L1.out.same ?_⟩
  unfold cE tailE
  rw [if_pos rfl,List.append_nil]
 ·have e0 : (a == 0) = false := by simp; exact h0
  have e1 : decide (a = 0) = false := by simp; exact h0
  cases d with
  | true =>
    obtain ⟨A1,n1,c1,hA1,hl1,_⟩ := L1.out.own.slice
    subst hA1
    have ba := (Below.refl w1.heap.size w1).alloc (Nat.le_refl _) (.cells #[.int .u8 1] 5)
    have lb := L1.out.below ba
    have lo := lb.own
    unfold OwnY at lo
    rw [hl1] at lo
    have HL1 := hid hl1
    clear hl1
    have HTE : Hid (cE ⟨s,true,a,e⟩ = numL a.toNat ++ [1]) := hid (by unfold cE tailE; rw [if_neg h0,if_pos rfl])
    clear gn gd gv h0
    go_wp2_with (at_builtin; refine list_ex rfl (.tmp 17) (.tmp 18) _ _ rfl (.slice A1 n1 c1) (.slice (some ⟨w1.heap.size,0,none⟩) 1 1) rfl rfl (run_appB_at B lo 1 (Rd.one w1 1 1 rfl) ?s1 ?s2) ?_)
    case s1 => have := HNL.out; have := HLL.out; have h1 := HL1.out; rw [List.length_append] at h1; omega
    case s2 => have := HB.out; have := lb.size; omega
    intro v3 w3 h3 hg hloc
    go_wp2
    go_ret
    refine ⟨v3,rfl,(lb.on (Ly.grown h3 ?_ hg hloc)).same ?_⟩
    ·have h1 := HL1.out
     simp only [List.length_append,List.length_cons,List.length_nil] at h1 ⊢
     omega
    ·rw [HTE.out]; try simp only [List.append_assoc]
  | false =>
    have hge := gv h0 rfl
    have GE := hid hge.2
    have HTE : Hid (cE ⟨s,false,a,e⟩ = numL a.toNat ++ ([0] ++ (tE s ++ numL e.toNat))) := hid (by unfold cE tailE; rw [if_neg h0,if_neg (by simp)]; rfl)
    have htl : (tE s).length <= 9 + 1000000000 := tE_le HS.out (by omega)
    have HL3 : Hid ((l ++ numL a.toNat ++ [0]).length <= 10000000000) := hid (by have := HNL.out; have := HLL.out; simp only [List.length_append,List.length_cons,List.length_nil]; omega)
    have HL4 : Hid ((l ++ numL a.toNat ++ [0] ++ tE s).length <= 100000000000) := hid (by have := HNL.out; have := HLL.out; simp only [List.length_append,List.length_cons,List.length_nil] at *; omega)
    obtain ⟨A1,n1,c1,hA1,hl1,_⟩ := L1.out.own.slice
    subst hA1
    have HLN := hid hl1
    clear gn gd gv h0 hge htl hl1
    go_wp2_with fail
    refine wp_region_held_drew (S := fun w' => w'.heap[w.heap.size]? = some (.cells #[.string s,.bool false,.int .i64 a,.int .i64 e] 42 (0,0))) (by kernel_rfl) ?_ (fun hHeld => ?_)
    ·exact HZ1.out
    refine takesH [0,3,4,6,7] ?_
    repeat
     refine takesH_one (v := ?_) ?_ ?_
     rotate_left
     ·first | (refine Or.inr ⟨by rfl,?_⟩; with_reducible rfl) | (refine Or.inl ⟨by rfl,?_⟩; intro wx hSw; (try dsimp only at hSw); first | (go_simp; first | done | with_reducible rfl) | (have hc0 := cell_at (i := 0) hSw rfl; go_simp; first | done | with_reducible rfl) | (have hc3 := cell_at (i := 3) hSw rfl; go_simp; first | done | with_reducible rfl))
     try simp only [Act.put,zq1,zq2,zq3,zq4,zq5,zq6]
    refine takesH_nil ?_
    refine wpAnyH_ready (rs := [1]) (by kernel_rfl) (by simp) (AllReadyH.cons rfl (fun K hK => ?_) AllReadyH.nil)
    obtain ⟨U,hU⟩ : ∃ U,U = w1.drew := ⟨_,rfl⟩
    rw [<- hU]
    have hu : Below w1.heap.size w1 U := by rw [hU]; exact (Below.refl _ _).drew
    clear hU
    have lu := L1.out.below hu
    have hzu := (hu.block _ (Array.getElem?_eq_some_iff.1 HZ1.out).1).trans HZ1.out
    have ba := (Below.refl U.heap.size U).alloc (Nat.le_refl _) (.cells #[.int .u8 0] 5)
    have HZ2 := hid ((ba.block _ (Array.getElem?_eq_some_iff.1 hzu).1).trans hzu)
    have L2 := hid (lu.below ba)
    have lo := L2.out.own
    unfold OwnY at lo
    rw [HLN.out] at lo
    clear hu lu hzu ba
    go_simp
    refine hK.out _ _ ?_ (fun hHeld => ?_)
    ·exact HZ2.out
    clear hK K
    try simp only [Act.put,zq1,zq2,zq3,zq4,zq5,zq6]
    refine wpAnyH_ready (rs := [2]) (by kernel_rfl) (by simp) (AllReadyH.cons rfl (fun K hK => ?_) AllReadyH.nil)
    refine step_ex rfl (.tmp 20) (.tmp 21) _ _ rfl (.slice A1 n1 c1) (.slice (some ⟨U.heap.size,0,none⟩) 1 1) (by simp [Act.eval]) (by simp [Act.eval]) (run_appB_at B lo 1 (Rd.one U 0 0 rfl) ?s1 ?s2) ?_
    case s1 => have := HNL.out; have := HLL.out; have h1 := HLN.out; rw [List.length_append] at h1; omega
    case s2 => have := HB.out; have := L2.out.size; omega
    intro v3 w3 h3 hg
    obtain ⟨hg,hloc⟩ := hg
    have l3 := Ly.grown h3 (by have h1 := HLN.out; simp only [List.length_append,List.length_cons,List.length_nil] at h1 ⊢; omega) hg hloc
    have HZ3 := hid (l3.at_ L2.out.own HZ2.out (by decide))
    have L3 := hid (L2.out.on l3)
    obtain ⟨A3,n3,c3,hA3,_⟩ := L3.out.own.slice
    subst hA3
    clear h3 hg hloc l3 lo
    refine hK.out _ _ ?_ (fun hHeld => ?_)
    ·exact HZ3.out
    clear hK K
    try simp only [Act.put,zq1,zq2,zq3,zq4,zq5,zq6]
    refine wpAnyH_ready (rs := [5]) (by kernel_rfl) (by simp) (AllReadyH.cons rfl (fun K hK => ?_) AllReadyH.nil)
    go_simp
    refine (putText_any B _ (l ++ numL a.toNat ++ [0]) s w3 L3.out.own (Nat.le_trans HB.out L3.out.size) (by have := HS.out; omega) HL3.out).mono ?_
    rintro x w4 ⟨v4,rfl,l4⟩
    have HZ4 := hid (l4.at_ L3.out.own HZ3.out (by decide))
    have L4 := hid (L3.out.on l4)
    clear l4
    try go_wp2_with fail
    refine hK.out _ _ ?_ (fun hHeld => ?_)
    ·first | exact HZ4.out | exact HZ5.out
    clear hK K
    try simp only [Act.put,zq1,zq2,zq3,zq4,zq5,zq6]
    refine wpAnyH_ready (rs := [8]) (by kernel_rfl) (by simp) (AllReadyH.cons rfl (fun K hK => ?_) AllReadyH.nil)
    go_simp
    refine (putNum_any B v4 (l ++ numL a.toNat ++ [0] ++ tE s) e w4 L4.out.own (Nat.le_trans HB.out L4.out.size) GE.out.1 (by have := GE.out.2; omega) HL4.out).mono ?_
    rintro x w5 ⟨v5,rfl,l5⟩
    have HZ5 := hid (l5.at_ L4.out.own HZ4.out (by decide))
    have L5 := hid (L4.out.on l5)
    clear l5
    try go_wp2_with fail
    refine hK.out _ _ ?_ (fun hHeld => ?_)
    ·first | exact HZ4.out | exact HZ5.out
    clear hK K
    try simp only [Act.put,zq1,zq2,zq3,zq4,zq5,zq6]
    refine takesH [9] ?_
    repeat
     refine takesH_one (v := ?_) ?_ ?_
     rotate_left
     ·first | (refine Or.inr ⟨by rfl,?_⟩; with_reducible rfl) | (refine Or.inl ⟨by rfl,?_⟩; intro wx hSw; (try dsimp only at hSw); first | (go_simp; first | done | with_reducible rfl))
     try simp only [Act.put,zq1,zq2,zq3,zq4,zq5,zq6]
    refine takesH_nil ?_
    refine wpAnyH_done (by kernel_rfl) ?_ _
    go_wp2
    go_ret
    refine ⟨v5,rfl,L5.out.same ?_⟩
    rw [HTE.out]
    simp only [List.append_assoc]
theorem putCol_any (B : Nat) (v : Value) (l : Bs) (n s : ByteArray) (d : Bool) (a e : Int) (w : World) (h : OwnY B w v l) (hB : B <= w.heap.size) (hg : (⟨s,d,a,e⟩ : Ce).Gd) (hn : n.size <= 50000000) (hs : s.size <= 1000000000) (hl : l.length <= 900000000) :
    Calls Tryz.prog 248 #[v,.agg #[.string n,.string s,.bool d,.int .i64 a,.int .i64 e]] w (Lays B w v (l ++ kE (n,⟨s,d,a,e⟩))) := by
 have bz := (Below.refl w.heap.size w).alloc (Nat.le_refl _) (.cells #[.string n,.string s,.bool d,.int .i64 a,.int .i64 e] 282)
 have hz := heap_alloc_new w (.cells #[.string n,.string s,.bool d,.int .i64 a,.int .i64 e] 282)
 have l0 := (Ly.refl h).below bz
 obtain ⟨V,hV⟩ : ∃ V,V = w.alloc (.cells #[.string n,.string s,.bool d,.int .i64 a,.int .i64 e] 282) := ⟨_,rfl⟩
 rw [<- hV] at bz hz l0
 have htl : (tE n).length <= 9 + 50000000 := tE_le hn (by omega)
 have HL1 : Hid ((l ++ tE n).length <= 1000000000) := hid (by rw [List.length_append]; omega)
 have L0 := hid l0.drew; have HZ := hid hz; have HB := hid hB; have HS := hid hs; have HN := hid hn; have HLL := hid hl; have HG := hid hg
 clear bz hz l0 hB hs hl h hn hg htl
 go_enter Tryz.func248,Tryz.ntmps248
 go_wp2_with fail
 rw [<- hV]
 clear hV
 refine wp_region_held_drew (S := fun w' => w'.heap[w.heap.size]? = some (.cells #[.string n,.string s,.bool d,.int .i64 a,.int .i64 e] 282 (0,0))) (by kernel_rfl) ?_ (fun hHeld => ?_)
 ·exact HZ.out
 refine takesH [0,1,2,4,5] ?_
 repeat
  refine takesH_one (v := ?_) ?_ ?_
  rotate_left
  ·first | (refine Or.inr ⟨by rfl,?_⟩; with_reducible rfl) | (refine Or.inl ⟨by rfl,?_⟩; intro wx hSw; (try dsimp only at hSw); first | (go_simp; first | done | with_reducible rfl) | (have hc0 := cell_at (i := 0) hSw rfl; go_simp; first | done | with_reducible rfl) | (have hc1 := cell_at (i := 1) hSw rfl; have hc2 := cell_at (i := 2) hSw rfl; have hc3 := cell_at (i := 3) hSw rfl; have hc4 := cell_at (i := 4) hSw rfl; go_simp; first | done | with_reducible rfl))
  try simp only [Act.put,zq1,zq2,zq3,zq4,zq5,zq6]
 refine takesH_nil ?_
 refine wpAnyH_ready (rs := [3]) (by kernel_rfl) (by simp) (AllReadyH.cons rfl (fun K hK => ?_) AllReadyH.nil)
 go_simp
 refine (putText_any B v l n V.drew L0.out.own (Nat.le_trans HB.out L0.out.size) (by have := HN.out; omega) (by have := HLL.out; omega)).mono ?_
 rintro x w1 ⟨v1,rfl,l1⟩
 have HZ1 := hid (l1.at_ L0.out.own HZ.out (by decide))
 have L1 := hid (L0.out.on l1)
 clear l1
 try go_wp2_with fail
 refine hK.out _ _ ?_ (fun hHeld => ?_)
 ·first | exact HZ2.out | exact HZ1.out
 clear hK K
 try simp only [Act.put,zq1,zq2,zq3,zq4,zq5,zq6]
 refine wpAnyH_ready (rs := [6]) (by kernel_rfl) (by simp) (AllReadyH.cons rfl (fun K hK => ?_) AllReadyH.nil)
 go_simp
 refine (putCell_any B v1 (l ++ tE n) s d a e w1 L1.out.own (Nat.le_trans HB.out L1.out.size) HG.out HS.out HL1.out).mono ?_
 rintro x w2 ⟨v2,rfl,l2⟩
 have HZ2 := hid (l2.at_ L1.out.own HZ1.out (by decide))
 have L2 := hid (L1.out.on l2)
 clear l2
 try go_wp2_with fail
 refine hK.out _ _ ?_ (fun hHeld => ?_)
 ·first | exact HZ2.out | exact HZ1.out
 clear hK K
 try simp only [Act.put,zq1,zq2,zq3,zq4,zq5,zq6]
 refine takesH [7] ?_
 repeat
  refine takesH_one (v := ?_) ?_ ?_
  rotate_left
  ·first | (refine Or.inr ⟨by rfl,?_⟩; with_reducible rfl) | (refine Or.inl ⟨by rfl,?_⟩; intro wx hSw; (try dsimp only at hSw); first | (go_simp; first | done | with_reducible rfl))
  try simp only [Act.put,zq1,zq2,zq3,zq4,zq5,zq6]
 refine takesH_nil ?_
 refine wpAnyH_done (by kernel_rfl) ?_ _
 go_wp2
 go_ret
 exact ⟨v2,rfl,L2.out.same (by unfold kE; rw [List.append_assoc])⟩
def ColS (x : ByteArray × Ce) : Prop := x.1.size <= 1000000 /\ x.2.Gd /\ x.2.s.size <= 1000000
theorem putCols_any (B : Nat) (v : Value) (l : Bs) (A : Option Addr) (n c Bk : Nat) (K : Cols) (w : World) (h : OwnY B w v l) (hB : B <= w.heap.size) (hr : RdK w Bk A n K) (hBk : Bk <= B) (hx : ∀ x ∈ K,ColS x) (hn : n <= 1000000) (htot : (l ++ (numL n ++ K.flatMap kE)).length <= 500000000) :
    Calls Tryz.prog 247 #[v,.slice A n c,.func (.func 248) #[] #[]] w (Lays B w v (l ++ (numL n ++ K.flatMap kE))) := by
 have hl := hr.1
 obtain ⟨P,hP⟩ : ∃ P,l ++ (numL n ++ K.flatMap kE) = P := ⟨_,rfl⟩
 obtain ⟨P0,hP0⟩ : ∃ X,l ++ numL n = X := ⟨_,rfl⟩
 rw [hP] at htot ⊢
 have hst : P0 ++ (K.drop 0).flatMap kE = P := by rw [<- hP,<- hP0,List.drop_zero,List.append_assoc]
 have hl0 : l.length <= 500000000 := by have := congrArg List.length hP; rw [List.length_append] at this; omega
 have N := putNum_any B v l (n : Int) w h hB (by omega) (by omega) (by omega)
 rw [Int.toNat_natCast,hP0] at N
 have HN := hid N; have HB := hid hB; have HO := hid h; have HR := hid hr; have HX := hid hx; have HT := hid htot; have HL := hid hl; have HST := hid hst; have HBK := hid hBk; have HNN := hid hn
 clear N hB h hr hx htot hl hst hBk hP hP0 hl0 hn
 go_enter Tryz.func247,Tryz.ntmps247
 go_wp2_with fail
 refine (HN.out).mono ?_
 rintro e w1 ⟨v1,rfl,l1⟩
 have L1 := hid l1
 clear l1
 go_wp2_with fail
 go_loopw [0,15] (fun b i wr => ∃ (t : Nat) (X : Bs) (b' : Value),t <= n /\ i = .int .i64 t /\ b' = b /\ X ++ (K.drop t).flatMap kE = P /\ Ly B w v wr b' X) (fun _ i _ => n - (intOf i).toNat)
 case atStart => exact ⟨0,P0,v1,Nat.zero_le _,rfl,rfl,HST.out,L1.out⟩
 case round =>
  obtain ⟨t,X,b,ht,rfl,rfl,hX,hly⟩ := hrel
  by_cases hlt : t < n
  ·have i1 : (t : Int) < n := by omega
   have i0 : (0 : Int) <= t := by omega
   have i8 : n <= 1000000 := HNN.out
   have htl : t < K.length := by rw [HL.out]; exact hlt
   have hrd := HR.out.below ((hly.base HO.out HB.out).mono HBK.out)
   obtain ⟨g0,o0,rfl,hg0,hc⟩ := hrd.2 (by omega)
   have hcol := hc t htl
   have hs := HX.out K[t] (List.getElem_mem htl)
   rw [List.drop_eq_getElem_cons htl,List.flatMap_cons] at hX
   obtain ⟨⟨nm,⟨cs,cd,ca,ce⟩⟩,hcx⟩ : ∃ y,K[t] = y := ⟨_,rfl⟩
   rw [hcx] at hcol hs hX
   dsimp only at hcol hs hX
   have hxl : X.length <= 500000000 := by have := congrArg List.length hX; rw [List.length_append] at this; have := HT.out; omega
   obtain ⟨s1,s2,s3⟩ := hs
   dsimp only at s1 s2 s3
   obtain ⟨_,_,_,_,_⟩ := hcol
   have ba := (Below.refl wr.heap.size wr).alloc (Nat.le_refl _) (.cells #[.string nm,.string cs,.bool cd,.int .i64 ca,.int .i64 ce] 282)
   have lb := hly.below ba
   have HLB := hid lb; have HX3 := hid hX; have S1 := hid s1; have S2 := hid s2; have S3 := hid s3; have HXL := hid hxl
   clear hrd hc hX hxl s1 s2 s3 ba lb hly hcx
   go_wp2_with fail
   refine (putCol_any B b X nm cs cd ca ce _ HLB.out.own (Nat.le_trans HB.out HLB.out.size) S2.out (by have := S1.out; omega) (by have := S3.out; omega) (by have := HXL.out; omega)).mono ?_
   rintro x w2 ⟨v2,rfl,l2⟩
   have L2 := hid (HLB.out.on l2)
   clear l2
   go_wp2
   go_roundw
   case rel => exact ⟨t + 1,X ++ kE (nm,⟨cs,cd,ca,ce⟩),v2,by omega,by go_num,rfl,by rw [List.append_assoc]; exact HX3.out,L2.out⟩
   case measure => simp [intOf]; omega
  ·obtain rfl : t = n := by omega
   rw [List.drop_of_length_le (by rw [HL.out]; exact Nat.le_refl _),List.flatMap_nil,List.append_nil] at hX
   have HLY := hid (hly.same hX)
   clear hX hly
   go_wp2
   go_ret
   exact ⟨b,rfl,HLY.out⟩
def sumT (s : ByteArray) : ByteArray := ⟨(be (tcut (tgo 1 s.data.toList : Nat)) 4).toArray⟩
end Go.Proofs.YtmpcnhpdobdmcaaGreatDoor
