import Derived.Sort.MapsRangeIn
import Derived.Test.YtmpcnhpdobdmcaaGreatDoorLawNotesBI
open Go.Lib (hid)
set_option linter.unusedVariables false
set_option linter.unusedSimpArgs false
set_option maxHeartbeats 4000000
set_option maxRecDepth 20000
namespace Go.Proofs.YtmpcnhpdobdmcaaGreatDoor
open Go Go.RowKit
theorem ranges_agree {H : Type} {P : Program} {k : TypeId} {R : Value -> Option (DataW H × List MemPlace)} {w w' : World} {b r n : Nat} {D : DataW H} {left : Lit -> Bool} {cnt : Nat} (h : w.ranges P k R b r n D left cnt) (hb : w'.heap[b]? = w.heap[b]?) (hr : w'.heap[r]? = w.heap[r]?) : w'.ranges P k R b r n D left cnt := by
 obtain ⟨es,clock,since,seen,c0,h1,h2,h3,h4,h5,h6⟩ := h
 exact ⟨es,clock,since,seen,c0,by rw [hb]; exact h1,h2,h3,h4,by rw [hr]; exact h5,h6⟩
theorem ranges_iter {H : Type} {P : Program} {k : TypeId} {R : Value -> Option (DataW H × List MemPlace)} {w : World} {b r n : Nat} {D : DataW H} {left : Lit -> Bool} {cnt : Nat} (h : w.ranges P k R b r n D left cnt) : ∃ s seen c0,w.heap[r]? = some (.mapIter (some b) s seen c0) := by
 obtain ⟨es,clock,since,seen,c0,h1,h2,h3,h4,h5,h6⟩ := h
 exact ⟨_,_,_,h5⟩
theorem keyS_inv {x : ByteArray} {kl : Lit} (h : keyOf Tryz.prog 9 (.string x) = some kl) : kl = .string x.data.toList /\ x.size <= maxLen := by
 rw [keyOf_string Tryz.underlying9] at h
 unfold mapKey at h
 rw [Tryz.underlying9] at h
 dsimp only at h
 split at h
 ·rename_i h1
  injection h with h
  exact ⟨h.symm,h1⟩
 ·cases h
theorem out_met {O : List TA} {x : ByteArray} {ci : Option Nat} {kl : Lit} {yd : DataW Nat} {yp : List MemPlace} (hkey : keyOf Tryz.prog 9 (.string x) = some kl) (hv : elemM (.map ci) = some (yd,yp)) (hat : ∀ z,(mapK TA.nm TA.g O).atKey kl z = yd) : ∃ z ∈ O,z.nm = x /\ ci = some z.g /\ kl = .string x.data.toList := by
 obtain ⟨e,_⟩ := keyS_inv hkey
 rw [e] at hat
 obtain ⟨z,hz,h1,h2⟩ := mapK_met hat
 refine ⟨z,hz,h1,?_,e⟩
 obtain ⟨g,e3,e4⟩ := elemM_inv hv
 have e5 : ci = g := by unfold mV at e3; injection e3
 subst e5
 have e6 := congrArg Prod.fst e4
 dsimp only at e6
 rw [h2] at e6
 cases ci with
 | none => exact (held_nil (show (DataW.held z.g : DataW Nat) = .nil from e6)).elim
 | some g => rw [<- show z.g = g from held_inj (show (DataW.held z.g : DataW Nat) = .held g from e6)]
theorem inn_met {X : List PA} {x : ByteArray} {c : HdP} {kl : Lit} {yd : DataW HdP} {yp : List MemPlace} (hkey : keyOf Tryz.prog 9 (.string x) = some kl) (hv : elemP (hdV c) = some (yd,yp)) (hat : ∀ z,(mapK PA.k PA.hd X).atKey kl z = yd) : ∃ z ∈ X,z.k = x /\ c = z.hd /\ kl = .string x.data.toList := by
 obtain ⟨e,_⟩ := keyS_inv hkey
 rw [e] at hat
 obtain ⟨z,hz,h1,h2⟩ := mapK_met hat
 refine ⟨z,hz,h1,?_,e⟩
 rw [elemP_mk] at hv
 have hv := Option.some.inj hv
 have e6 := congrArg Prod.fst hv
 dsimp only at e6
 rw [h2] at e6
 exact held_inj e6
def over2 {α : Type} (a b : Option α) : Option α := match b with | some y => some y | none => a
def Over (T O : List TA) (D : ByteArray -> ByteArray -> Prop) (T2 : List TA) : Prop := ∀ t k,(D t k -> lookA T2 t k = over2 (lookA T t k) (lookA O t k)) /\ (¬ D t k -> lookA T2 t k = lookA T t k)
theorem Over.mono {T O T2 : List TA} {D D' : ByteArray -> ByteArray -> Prop} (h : Over T O D T2) (hd : ∀ t k,D t k -> D' t k) (hn : ∀ t k,D' t k -> ¬ D t k -> lookA O t k = none) : Over T O D' T2 := fun t k => by
 constructor
 ·intro h1
  by_cases h2 : D t k
  ·exact (h t k).1 h2
  ·rw [(h t k).2 h2,hn t k h1 h2]; rfl
 ·exact fun h1 => (h t k).2 fun h2 => h1 (hd t k h2)
theorem Over.put {T O T2 T3 : List TA} {D : ByteArray -> ByteArray -> Prop} {t0 : ByteArray} {p : PA} (h : Over T O D T2) (hl : ∀ t k,lookA T3 t k = if t0 = t /\ p.k = k then some p else lookA T2 t k) (ho : lookA O t0 p.k = some p) : Over T O (fun t k => D t k \/ (t = t0 /\ k = p.k)) T3 := fun t k => by
 rw [hl]
 by_cases e : t0 = t /\ p.k = k
 ·rw [if_pos e]
  obtain ⟨rfl,rfl⟩ := e
  exact ⟨fun _ => by rw [ho]; rfl,fun h1 => absurd (Or.inr ⟨rfl,rfl⟩) h1⟩
 ·rw [if_neg e]
  constructor
  ·rintro (h1 | ⟨rfl,rfl⟩)
   ·exact (h t k).1 h1
   ·exact absurd ⟨rfl,rfl⟩ e
  ·exact fun h1 => (h t k).2 fun h2 => h1 (Or.inl h2)
theorem look_some_of {T : List TA} (h : TaOk T) {x : TA} (hx : x ∈ T) : ∃ k p,lookA T x.nm k = some p := by
 have hne := (h.ps x hx).2
 obtain ⟨k,p,hp⟩ := getK_head_some (key := PA.k) hne
 exact ⟨k,p,by unfold lookA; rw [xsOf_some (getK_mem h.rise hx)]; exact hp⟩
theorem sub_len {T O T2 : List TA} (hT : TaOk T) (hO : TaOk O) (h2 : TaOk T2) (h : ∀ t k p,lookA T2 t k = some p -> (∃ q,lookA T t k = some q) \/ ∃ q,lookA O t k = some q) : T2.length <= T.length + O.length /\ ∀ t,(xsOf T2 t).length <= (xsOf T t).length + (xsOf O t).length := by
 constructor
 ·have := riseK_few (key := TA.nm) (l := T2) (ks := T.map TA.nm ++ O.map TA.nm) h2.rise fun x hx => by
   obtain ⟨k,p,hp⟩ := look_some_of h2 hx
   rcases h _ _ _ hp with ⟨q,hq⟩ | ⟨q,hq⟩
   ·obtain ⟨y,hy,e,_⟩ := lookA_mem hq
    exact List.mem_append_left _ (List.mem_map.2 ⟨y,hy,e⟩)
   ·obtain ⟨y,hy,e,_⟩ := lookA_mem hq
    exact List.mem_append_right _ (List.mem_map.2 ⟨y,hy,e⟩)
  simpa using this
 ·intro t
  have := riseK_few (key := PA.k) (l := xsOf T2 t) (ks := (xsOf T t).map PA.k ++ (xsOf O t).map PA.k) (h2.xsRise t) fun p hp => by
   have hl : lookA T2 t p.k = some p := getK_mem (h2.xsRise t) hp
   rcases h _ _ _ hl with ⟨q,hq⟩ | ⟨q,hq⟩
   ·have := getK_some (show getK PA.k (xsOf T t) p.k = some q from hq)
    exact List.mem_append_left _ (List.mem_map.2 ⟨q,this.1,this.2⟩)
   ·have := getK_some (show getK PA.k (xsOf O t) p.k = some q from hq)
    exact List.mem_append_right _ (List.mem_map.2 ⟨q,this.1,this.2⟩)
  simpa using this
theorem Over.sub {T O T2 : List TA} {D : ByteArray -> ByteArray -> Prop} (h : Over T O D T2) (t k : ByteArray) (p : PA) (hp : lookA T2 t k = some p) : (∃ q,lookA T t k = some q) \/ ∃ q,lookA O t k = some q := by
 by_cases hd : D t k
 ·rw [(h t k).1 hd] at hp
  cases e : lookA O t k with
  | some q => exact Or.inr ⟨q,rfl⟩
  | none => rw [e] at hp; exact Or.inl ⟨p,hp⟩
 ·rw [(h t k).2 hd] at hp
  exact Or.inl ⟨p,hp⟩
structure TookT (w w' : World) (m : Nat) (T O T' : List TA) : Prop where
 at_ : TbAt w' m T'
 look : ∀ t k,lookA T' t k = over2 (lookA T t k) (lookA O t k)
 step : Step (mapsF m T) w (mapsF m T') w'
theorem take_t (m ms : Nat) (T O : List TA) (w : World) (h : TbAt w m T) (ho : TbAt w ms O) (hoff : ∀ k,mapsF m T k -> ¬ mapsF ms O k) (hn : T.length + O.length <= 100000) (hn2 : ∀ t,(xsOf T t).length + (xsOf O t).length <= 100000) :
    Calls Tryz.prog 79 #[.map (some m),.map (some ms)] w fun e w' => e = .returned (.tuple #[]) /\ ∃ T',TookT w w' m T O T' := by
 have H := hid h; have HO := hid ho; have HF := hid hoff; have HN := hid hn; have HN2 := hid hn2
 clear h ho hoff hn hn2
 go_enter Tryz.func79,Tryz.ntmps79
 go_wp2_with (at_range; refine wpList_range_own _ rfl _ 66 rfl 9 111 keyS Tryz.underlying66 elemM ms _ _ rfl HO.out.own ?_; intro w0 hrg0 hg0 hs0)
 go_frame
 have hb0 : Below w.heap.size w w0 := (Below.refl _ _).grown hg0 (Nat.le_refl _) (fun j hj => by cases hj)
 have hat0 := H.out.below hb0
 have hat1 := HO.out.below hb0
 have HB0 := hid hb0
 have HS0 := hid hs0
 go_loopw [4] (fun v wr => ∃ (left : Lit -> Bool) (cnt : Nat) (ss T1 : List TA),wr.ranges Tryz.prog 9 elemM ms w.heap.size O.length (mapK TA.nm TA.g O) left cnt /\ TbAt wr m T1 /\ TbAt wr ms O /\ MetK TA.nm O left ss /\
     Over T O (fun t _ => ∃ y ∈ ss,y.nm = t) T1 /\ Step (mapsF m T) w (mapsF m T1) wr /\ w.heap.size < wr.heap.size)
  (fun _ wr => wr.rangeLeft ms w.heap.size)
 case atStart =>
  exact ⟨_,_,[],T,hrg0,hat0,hat1,MetK.start HO.out.ok.rise,fun t k => ⟨fun h => by (obtain ⟨y,hy,_⟩ := h; cases hy),fun _ => rfl⟩,Step.same (Kept.of_below HB0.out _),by have := HS0.out; omega⟩
 case round =>
  obtain ⟨left,cnt,ss,T1,hrg,hT1,hO1,hM,hov,hst,hlt⟩ := hrel
  have RG := hid hrg; have T1H := hid hT1; have O1H := hid hO1; have MH := hid hM; have OV := hid hov; have ST := hid hst
  clear hrg hT1 hO1 hM hov hst hrg0 hg0 hat0 hat1 hb0 hs0
  go_wp2_with (at_next; refine wpList_next_ranges _ rfl _ rfl 9 keyS elemM Value.string (fun g : Option Nat => .map g) (fun key kl hk => by obtain ⟨x,rfl⟩ := Maps.keyOf_string_inv Tryz.underlying9 hk; exact ⟨x,rfl⟩) (fun v y hv => by obtain ⟨g,rfl,_⟩ := elemM_inv hv; exact ⟨g,rfl⟩) ms w.heap.size _ _ _ _ rfl RG.out ?_ ?_)
  ·intro hc0 hl0
   go_wp2
   go_end0
   have hp := MH.out.perm HO.out.ok.rise hl0
   refine ⟨rfl,T1,T1H.out,fun t k => ?_,ST.out⟩
   by_cases hd : ∃ y ∈ ss,y.nm = t
   ·exact (OV.out t k).1 hd
   ·rw [(OV.out t k).2 hd]
    cases e : lookA O t k with
    | none => rfl
    | some q =>
      obtain ⟨y,hy,hyn,_⟩ := lookA_mem e
      exact absurd ⟨y,hp.mem_iff.2 hy,hyn⟩ hd
  ·intro x ci kl yd yp w2 cnt2 hkey hlk hv hat hrg2 hltc hg2 hs2 hen
   obtain ⟨z,hz,hzn,rfl,rfl⟩ := out_met hkey hv hat
   have hb2 : ∀ k,k ≠ w.heap.size -> k < wr.heap.size -> w2.heap[k]? = wr.heap[k]? := fun k hk hk2 => hg2.block k hk2 fun e => hk (by injection e)
   obtain ⟨si,sn,sc,hit⟩ := ranges_iter RG.out
   have hO2 : TbAt w2 ms O := O1H.out.agree hg2.size (fun k hk => hb2 k (fun e => by obtain ⟨es,c,h1⟩ := O1H.out.isMap hk; rw [e,hit] at h1; cases h1) (O1H.out.lt hk)) (fun k hk => hb2 k (fun e => by obtain ⟨es,c,fr,h1⟩ := O1H.out.isCells hk; rw [e,hit] at h1; cases h1) (O1H.out.rows_lt hk))
   have hT2 : TbAt w2 m T1 := T1H.out.agree hg2.size (fun k hk => hb2 k (fun e => by obtain ⟨es,c,h1⟩ := T1H.out.isMap hk; rw [e,hit] at h1; cases h1) (T1H.out.lt hk)) (fun k hk => hb2 k (fun e => by obtain ⟨es,c,fr,h1⟩ := T1H.out.isCells hk; rw [e,hit] at h1; cases h1) (T1H.out.rows_lt hk))
   have I2 := hid (hO2.inn z hz)
   have RG2 := hid hrg2; have T2H := hid hT2; have O2H := hid hO2; have Z := hid hz; have ZN := hid hzn
   have LK := hid hlk; have HS2 := hid hs2
   have ST2 : Hid (Step (mapsF m T) w (mapsF m T1) w2) := hid ⟨ST.out.kept.trans (Kept.of_grown (F := fun k => k = w.heap.size) hg2 fun k hk => by injection hk with hk; exact hk.symm) fun k hk => Or.inr (by omega),fun k hk => (ST.out.new k hk).imp id fun h => ⟨h.1,by have := hg2.size; omega⟩⟩
   clear hrg2 hT2 hO2 hz hzn hlk hat hv hkey hb2 hit hs2
   subst ZN
   go_wp2_with (at_range; refine wpList_range_own _ rfl _ 111 rfl 9 33 keyS Tryz.underlying111 elemP z.g _ _ rfl I2.out ?_; intro w3 hrg3 hg3 hs3)
   have hb3 : Below w2.heap.size w2 w3 := (Below.refl _ _).grown hg3 (Nat.le_refl _) (fun j hj => by cases hj)
   have T3 := hid (T2H.out.below hb3)
   have O3 := hid (O2H.out.below hb3)
   have RG3 := hid (ranges_agree RG2.out (hb3.block _ (O2H.out.lt (Or.inl rfl))) (hb3.block _ (by have := HS2.out; omega)))
   have ST3 : Hid (Step (mapsF m T) w (mapsF m T1) w3) := hid (ST2.out.trans (Step.same (Kept.of_below hb3 _)))
   have HS3 := hid hs3
   have hz3 : w2.heap.size < w3.heap.size := by omega
   have XR := hid (HO.out.ok.ps z Z.out).1
   have XS := hid (HO.out.ok.sz z Z.out)
   go_frame
   go_loopw [7] (fun v wr2 => ∃ (left2 : Lit -> Bool) (cnt3 : Nat) (ss2 : List PA) (T5 : List TA),wr2.ranges Tryz.prog 9 elemP z.g w2.heap.size z.X.length (mapK PA.k PA.hd z.X) left2 cnt3 /\ wr2.ranges Tryz.prog 9 elemM ms w.heap.size O.length (mapK TA.nm TA.g O) (fun y => left y && !y.sameKey (.string z.nm.data.toList)) cnt2 /\
       TbAt wr2 m T5 /\ TbAt wr2 ms O /\ MetK PA.k z.X left2 ss2 /\
       Over T O (fun t k => (∃ y ∈ ss,y.nm = t) \/ (t = z.nm /\ ∃ q ∈ ss2,q.k = k)) T5 /\ Step (mapsF m T) w (mapsF m T5) wr2 /\ w2.heap.size < wr2.heap.size)
    (fun _ wr2 => wr2.rangeLeft z.g w2.heap.size)
   case atStart =>
    exact ⟨_,_,[],T1,hrg3,RG3.out,T3.out,O3.out,MetK.start XR.out,OV.out.mono (fun t k h => Or.inl h) (fun t k h h' => by
     rcases h with h | ⟨_,q,hq,_⟩
     ·exact absurd h h'
     ·cases hq),ST3.out,hz3⟩
   case round =>
    obtain ⟨left2,cnt3,ss2,T5,hrg5,hro5,hT5,hO5,hM5,hov5,hst5,hlt5⟩ := hrel
    have RG5 := hid hrg5; have RO5 := hid hro5; have T5H := hid hT5; have O5H := hid hO5; have M5 := hid hM5; have OV5 := hid hov5; have ST5 := hid hst5; have L5 := hid hlt5
    clear hrg5 hro5 hT5 hO5 hM5 hov5 hst5 hrg3 hg3 hb3 hs3 hz3
    go_wp2_with (at_next; refine wpList_next_ranges _ rfl _ rfl 9 keyS elemP Value.string (fun c : HdP => .agg #[.string c.1,.int .i64 c.2.1,.slice c.2.2.1 c.2.2.2.1 c.2.2.2.2]) (fun key kl hk => by obtain ⟨x,rfl⟩ := Maps.keyOf_string_inv Tryz.underlying9 hk; exact ⟨x,rfl⟩) (fun v y hv => by obtain ⟨g,rfl,_⟩ := elemP_inv hv; exact ⟨g,rfl⟩) z.g w2.heap.size _ _ _ _ rfl RG5.out ?_ ?_)
    ·intro hc1 hl1
     go_wp2
     have hp := M5.out.perm XR.out hl1
     refine ⟨⟨_,cnt2,ss ++ [z],T5,RO5.out,T5H.out,O5H.out,MH.out.step HO.out.ok.rise Z.out LK.out,OV5.out.mono (fun t k h => ?_) (fun t k h h' => ?_),ST5.out,by have := ST5.out.kept.size; have := L5.out; have := HS2.out; omega⟩,?_⟩
     ·rcases h with ⟨y,hy,e⟩ | ⟨e,_⟩
      ·exact ⟨y,List.mem_append_left _ hy,e⟩
      ·exact ⟨z,List.mem_append_right _ (List.mem_singleton.2 rfl),e.symm⟩
     ·obtain ⟨y,hy,e⟩ := h
      rcases List.mem_append.1 hy with hy | hy
      ·exact absurd (Or.inl ⟨y,hy,e⟩) h'
      ·rw [List.mem_singleton.1 hy] at e
       cases e2 : lookA O t k with
       | none => rfl
       | some q =>
         unfold lookA at e2
         rw [<- e,xsOf_some (getK_mem HO.out.ok.rise Z.out)] at e2
         exact absurd (Or.inr ⟨e.symm,q,hp.mem_iff.2 (getK_some e2).1,(getK_some e2).2⟩) h'
     ·rw [RO5.out.left_eq,RG.out.left_eq]; exact hltc
    ·intro x5 k5 g5 A5 n5 c5 kl5 yd5 yp5 w6 cnt6 hkey5 hlk5 hv5 hat5 hrg6 hltc5 hg6 hs6 hen5
     obtain ⟨q,hq,rfl,hqh,rfl⟩ := inn_met (c := (k5,g5,A5,n5,c5)) hkey5 hv5 hat5
     unfold PA.hd at hqh
     simp only [Prod.mk.injEq] at hqh
     obtain ⟨rfl,rfl,rfl,rfl,rfl⟩ := hqh
     have hb6 : ∀ k,k ≠ w2.heap.size -> k < _ -> w6.heap[k]? = _ := fun k hk hk2 => hg6.block k hk2 fun e => hk (by injection e)
     obtain ⟨si,sn,sc,hit⟩ := ranges_iter RG5.out
     have hO6 : TbAt w6 ms O := O5H.out.agree hg6.size (fun k hk => hb6 k (fun e => by obtain ⟨es,c,h1⟩ := O5H.out.isMap hk; rw [e,hit] at h1; cases h1) (O5H.out.lt hk)) (fun k hk => hb6 k (fun e => by obtain ⟨es,c,fr,h1⟩ := O5H.out.isCells hk; rw [e,hit] at h1; cases h1) (O5H.out.rows_lt hk))
     have hT6 : TbAt w6 m T5 := T5H.out.agree hg6.size (fun k hk => hb6 k (fun e => by obtain ⟨es,c,h1⟩ := T5H.out.isMap hk; rw [e,hit] at h1; cases h1) (T5H.out.lt hk)) (fun k hk => hb6 k (fun e => by obtain ⟨es,c,fr,h1⟩ := T5H.out.isCells hk; rw [e,hit] at h1; cases h1) (T5H.out.rows_lt hk))
     have hR6 : w6.ranges Tryz.prog 9 elemM ms w.heap.size O.length (mapK TA.nm TA.g O) (fun y => left y && !y.sameKey (.string z.nm.data.toList)) cnt2 := ranges_agree RO5.out (hb6 ms (fun e => by have := O2H.out.lt (Or.inl rfl : mapsF ms O ms); omega) (O5H.out.lt (Or.inl rfl))) (hb6 _ (by have := HS2.out; omega) (by have := L5.out; have := HS2.out; omega))
     have hS6 : Step (mapsF m T) w (mapsF m T5) w6 := ⟨ST5.out.kept.trans (Kept.of_grown (F := fun k => w.heap.size <= k) hg6 fun k hk => by injection hk with hk; have := HS2.out; omega) fun k hk => Or.inr hk,fun k hk => (ST5.out.new k hk).imp id fun h => ⟨h.1,by have := hg6.size; omega⟩⟩
     have b7 := (Below.refl w6.heap.size w6).alloc (Nat.le_refl _) (.cells #[.string q.k,.int .i64 q.g,.slice q.A q.L.length q.c] 33)
     have hl7 := (hO6.lies z Z.out q hq)
     have T7 := hid (hT6.below b7)
     have O7 := hid (hO6.below b7)
     have P7 : Hid (PIn (w6.alloc (.cells #[.string q.k,.int .i64 q.g,.slice q.A q.L.length q.c] 33)) q) := hid ((PIn.mk hl7 (XS.out.2 q hq)).below b7)
     have R7 := hid (ranges_agree hR6 (b7.block ms (hO6.lt (Or.inl rfl))) (b7.block _ (by have := hg6.size; have := L5.out; have := HS2.out; omega)))
     have I7 := hid (ranges_agree hrg6 (b7.block z.g (hO6.lt (Or.inr ⟨z,Z.out,rfl⟩))) (b7.block _ (by have := hg6.size; have := L5.out; have := HS2.out; omega)))
     have S7 := hid (hS6.trans (Step.same (Kept.of_below b7 _)))
     have hlen := sub_len H.out.ok HO.out.ok T7.out.ok OV5.out.sub
     have LEN : Hid (T5.length <= 1000000 /\ (xsOf T5 z.nm).length <= 1000000) := hid ⟨by have := HN.out; omega,by have := HN2.out z.nm; have := hlen.2 z.nm; omega⟩
     have QQ := hid hq; have LK5 := hid hlk5; have G6 := hid hg6.size
     have DIS : Hid (∀ k,mapsF m T5 k -> ¬ mapsF ms O k) := hid fun k hk hk2 => by
      rcases ST5.out.new k hk with h1 | h1
      ·exact HF.out k h1 hk2
      ·have := HO.out.lt hk2; omega
     clear hrg6 hT6 hO6 hR6 hS6 b7 hl7 hlen hq hlk5 hb6 hit hv5 hat5 hkey5 hg6 hs6
     go_wp2_with fail
     refine (set_t m T5 z.nm q _ T7.out XS.out.1 P7.out LEN.out).mono ?_
     rintro e w8 ⟨rfl,T8,hP8⟩
     have P8 := hid hP8
     clear hP8
     go_wp2
     go_roundw
     case rel =>
      have hk8 : ∀ k,k < (w6.alloc (.cells #[.string q.k,.int .i64 q.g,.slice q.A q.L.length q.c] 33)).heap.size -> ¬ mapsF m T5 k -> w8.heap[k]? = _ := P8.out.step.kept.block
      have hO8 : TbAt w8 ms O := O7.out.agree P8.out.step.kept.size (fun k hk => hk8 k (O7.out.lt hk) fun h => DIS.out k h hk) (fun k hk => hk8 k (O7.out.rows_lt hk) fun h => by
       obtain ⟨es,c,h1⟩ := T7.out.isMap h
       exact O7.out.not_row h1 hk rfl)
      have hit : ∀ {r b : Nat} {s0 c0 : Nat} {sn : Array Nat},(w6.alloc (.cells #[.string q.k,.int .i64 q.g,.slice q.A q.L.length q.c] 33)).heap[r]? = some (.mapIter (some b) s0 sn c0) -> w8.heap[r]? = (w6.alloc (.cells #[.string q.k,.int .i64 q.g,.slice q.A q.L.length q.c] 33)).heap[r]? := fun {r b s0 c0 sn} h => hk8 r (Array.getElem?_eq_some_iff.1 h).1 fun h2 => by
       obtain ⟨es,c,h1⟩ := T7.out.isMap h2
       rw [h] at h1
       cases h1
      obtain ⟨s1,sn1,c1,hi1⟩ := ranges_iter R7.out
      obtain ⟨s2,sn2,c2,hi2⟩ := ranges_iter I7.out
      have hR8 := ranges_agree R7.out (hk8 ms (O7.out.lt (Or.inl rfl)) fun h => DIS.out ms h (Or.inl rfl)) (hit hi1)
      have hI8 := ranges_agree I7.out (hk8 z.g (O7.out.lt (Or.inr ⟨z,Z.out,rfl⟩)) fun h => DIS.out z.g h (Or.inr ⟨z,Z.out,rfl⟩)) (hit hi2)
      try rw [<- HS2.out] at hI8
      have ho : lookA O z.nm q.k = some q := HO.out.ok.look Z.out QQ.out
      exact ⟨_,cnt6,ss2 ++ [q],T8,hI8,hR8,P8.out.at_,hO8,M5.out.step XR.out QQ.out LK5.out,(OV5.out.put P8.out.look ho).mono (fun t k h => by
       rcases h with (h | ⟨h1,q',h2,h3⟩) | ⟨h1,h2⟩
       ·exact Or.inl h
       ·exact Or.inr ⟨h1,q',List.mem_append_left _ h2,h3⟩
       ·exact Or.inr ⟨h1,q,List.mem_append_right _ (List.mem_singleton.2 rfl),h2.symm⟩) (fun t k h h' => by
       refine absurd ?_ h'
       rcases h with h | ⟨h1,q',h2,h3⟩
       ·exact Or.inl (Or.inl h)
       ·rcases List.mem_append.1 h2 with h2 | h2
        ·exact Or.inl (Or.inr ⟨h1,q',h2,h3⟩)
        ·rw [List.mem_singleton.1 h2] at h3; exact Or.inr ⟨h1,h3.symm⟩),S7.out.trans P8.out.step,by have := P8.out.step.kept.size; have := G6.out; have := L5.out; rw [World.size_alloc] at *; omega⟩
     case measure =>
      have hk8 : ∀ k,k < (w6.alloc (.cells #[.string q.k,.int .i64 q.g,.slice q.A q.L.length q.c] 33)).heap.size -> ¬ mapsF m T5 k -> w8.heap[k]? = _ := P8.out.step.kept.block
      obtain ⟨s2,sn2,c2,hi2⟩ := ranges_iter I7.out
      have hI8 := ranges_agree I7.out (hk8 z.g (O7.out.lt (Or.inr ⟨z,Z.out,rfl⟩)) fun h => DIS.out z.g h (Or.inr ⟨z,Z.out,rfl⟩)) (hk8 _ (Array.getElem?_eq_some_iff.1 hi2).1 fun h2 => by
       obtain ⟨es,c,h1⟩ := T7.out.isMap h2
       rw [hi2] at h1
       cases h1)
      try rw [<- HS2.out] at hI8
      rw [hI8.left_eq,RG5.out.left_eq]
      exact hltc5
def newsN (T : List TA) (t : ByteArray) (X : List PA) : Nat := (X.filter fun p => (lookA T t p.k).isNone).length
theorem newsN_perm {T : List TA} {t : ByteArray} {X Y : List PA} (h : X.Perm Y) : newsN T t X = newsN T t Y := (h.filter _).length_eq
theorem newsN_snoc (T : List TA) (t : ByteArray) (X : List PA) (p : PA) : newsN T t (X ++ [p]) = newsN T t X + if (lookA T t p.k).isNone then 1 else 0 := by
 unfold newsN
 rw [List.filter_append,List.length_append,List.filter_cons]
 split <;> rfl
theorem newsN_le (T : List TA) (t : ByteArray) (X : List PA) : newsN T t X <= X.length := List.length_filter_le _ _
theorem news_t (m g : Nat) (T : List TA) (t : ByteArray) (X : List PA) (w : World) (h : TbAt w m T) (ho : w.ownsMap Tryz.prog 9 elemP g X.length (mapK PA.k PA.hd X)) (hX : RiseK PA.k X) (hs : ∀ p ∈ X,p.k.size <= 1000) (ht : t.size <= 1000) (hl : X.length <= 100000) :
    Calls Tryz.prog 174 #[.map (some m),.string t,.map (some g)] w fun e w' => e = .returned (.int .i64 (newsN T t X : Nat)) /\ Below w.heap.size w w' := by
 have H := hid h; have HO := hid ho; have HX := hid hX; have HT := hid (show t.size <= maxLen by unfold maxLen; omega); have HSZ := hid hs; have HL := hid hl
 have hgl := ho.lt
 have hml := h.lt (Or.inl rfl)
 clear h ho hX hs ht hl
 go_enter Tryz.func174,Tryz.ntmps174
 go_wp2_with (at_range; refine wpList_range_own _ rfl _ 111 rfl 9 33 keyS Tryz.underlying111 elemP g _ _ rfl HO.out ?_; intro w0 hrg0 hg0 hs0)
 go_frame
 have hb0 : Below w.heap.size w w0 := (Below.refl _ _).grown hg0 (Nat.le_refl _) (fun j hj => by cases hj)
 go_loopw [7] (fun v wr => ∃ (left : Lit -> Bool) (cnt : Nat) (ss : List PA),v = .int .i64 (newsN T t ss : Nat) /\ ss.length + cnt <= X.length /\ wr.ranges Tryz.prog 9 elemP g w.heap.size X.length (mapK PA.k PA.hd X) left cnt /\ MetK PA.k X left ss /\ Below w.heap.size w wr /\ w.heap.size < wr.heap.size)
  (fun _ wr => wr.rangeLeft g w.heap.size)
 case atStart =>
  exact ⟨_,_,[],rfl,by rw [size_mapK]; simp,hrg0,MetK.start HX.out,hb0,by omega⟩
 case round =>
  obtain ⟨left,cnt,ss,rfl,hsl,hrg,hM,hb,hlt⟩ := hrel
  have RG := hid hrg; have MH := hid hM; have BH := hid hb
  clear hrg hM hb hrg0 hg0 hb0 hs0
  obtain ⟨N,hN⟩ : ∃ N,newsN T t ss = N := ⟨_,rfl⟩
  rw [hN]
  have HN := hid hN
  have hN1 : N <= 100000 := by rw [<- hN]; exact Nat.le_trans (newsN_le _ _ _) (by have := HL.out; omega)
  clear hN
  go_wp2_with (at_next; refine wpList_next_ranges _ rfl _ rfl 9 keyS elemP Value.string (fun c : HdP => .agg #[.string c.1,.int .i64 c.2.1,.slice c.2.2.1 c.2.2.2.1 c.2.2.2.2]) (fun key kl hk => by obtain ⟨x,rfl⟩ := Maps.keyOf_string_inv Tryz.underlying9 hk; exact ⟨x,rfl⟩) (fun v y hv => by obtain ⟨g,rfl,_⟩ := elemP_inv hv; exact ⟨g,rfl⟩) g w.heap.size _ _ _ _ rfl RG.out ?_ ?_)
  ·intro hc0 hl0
   go_wp2
   go_ret
   exact ⟨by rw [<- newsN_perm (MH.out.perm HX.out hl0),HN.out]; rfl,BH.out⟩
  ·intro x5 k5 g5 A5 n5 c5 kl5 yd5 yp5 w6 cnt6 hkey5 hlk5 hv5 hat5 hrg6 hltc5 hg6 hs6 hen5
   obtain ⟨q,hq,rfl,hqh,rfl⟩ := inn_met (c := (k5,g5,A5,n5,c5)) hkey5 hv5 hat5
   unfold PA.hd at hqh
   simp only [Prod.mk.injEq] at hqh
   obtain ⟨rfl,rfl,rfl,rfl,rfl⟩ := hqh
   have hb6 : Below w.heap.size w w6 := BH.out.grown hg6 BH.out.size (fun j hj => by injection hj with hj; omega)
   have T6 := hid (H.out.below hb6)
   have RG6 := hid hrg6; have B6 := hid hb6; have QQ := hid hq; have LK5 := hid hlk5; have S6 := hid hs6
   have HK := hid (show q.k.size <= maxLen by have := HSZ.out q hq; unfold maxLen; omega)
   clear hrg6 hb6 hq hlk5 hv5 hat5 hkey5 hg6 hs6
   cases e : getK TA.nm T t with
   | none =>
     have E := hid (show (getK TA.nm T t).map TA.g = none by rw [e]; rfl)
     have hl : (lookA T t q.k).isNone = true := by unfold lookA; rw [xsOf_none e]; rfl
     have LN := hid hl
     clear e hl
     go_wp2_with (first
      | (at_lookup; refine lk_out _ rfl _ _ rfl m _ T rfl T6.out.own t rfl HT.out none E.out ?_)
      | (at_lookup; refine lk_nil _ rfl _ _ rfl rfl q.k rfl HK.out ?_))
     have hb7 := B6.out.alloc B6.out.size (.cells #[.string ⟨#[]⟩,.int .i64 0,.slice none 0 0] 33)
     exact ⟨⟨_,cnt6,ss ++ [q],by rw [newsN_snoc,HN.out,if_pos LN.out]; rfl,by rw [List.length_append,List.length_singleton]; omega,RG6.out.alloc _,MH.out.step HX.out QQ.out LK5.out,hb7,by have := S6.out; rw [World.size_alloc]; omega⟩,by rw [(RG6.out.alloc _).left_eq,RG.out.left_eq]; exact hltc5⟩
   | some x =>
     obtain ⟨hx,hnm⟩ := getK_some e
     have E := hid (show (getK TA.nm T t).map TA.g = some x.g by rw [e]; rfl)
     have I := hid (T6.out.inn x hx)
     obtain ⟨p,hp⟩ : ∃ p,(getK PA.k x.X q.k).getD zeroP = p := ⟨_,rfl⟩
     obtain ⟨b,hb⟩ : ∃ b,(getK PA.k x.X q.k).isSome = b := ⟨_,rfl⟩
     have hl : (lookA T t q.k).isNone = !b := by unfold lookA; rw [xsOf_some e,<- hb]; cases getK PA.k x.X q.k <;> rfl
     have HP := hid hp; have HB := hid hb
     have LN := hid hl
     clear e hl hx hnm hp hb
     cases b with
     | false =>
       go_wp2_with (first
        | (at_lookup; refine lk_out _ rfl _ _ rfl m _ T rfl T6.out.own t rfl HT.out (some x.g) E.out ?_)
        | (at_lookup; refine lk_inn _ rfl _ _ rfl x.g _ x.X rfl I.out q.k rfl HK.out p HP.out false HB.out ?_))
       have hb7 := B6.out.alloc B6.out.size (.cells #[.string p.k,.int .i64 p.g,.slice p.A p.L.length p.c] 33)
       exact ⟨⟨_,cnt6,ss ++ [q],by rw [newsN_snoc,HN.out,if_pos (by rw [LN.out]; rfl)]; rfl,by rw [List.length_append,List.length_singleton]; omega,RG6.out.alloc _,MH.out.step HX.out QQ.out LK5.out,hb7,by have := S6.out; rw [World.size_alloc]; omega⟩,by rw [(RG6.out.alloc _).left_eq,RG.out.left_eq]; exact hltc5⟩
     | true =>
       go_wp2_with (first
        | (at_lookup; refine lk_out _ rfl _ _ rfl m _ T rfl T6.out.own t rfl HT.out (some x.g) E.out ?_)
        | (at_lookup; refine lk_inn _ rfl _ _ rfl x.g _ x.X rfl I.out q.k rfl HK.out p HP.out true HB.out ?_))
       have hb7 := B6.out.alloc B6.out.size (.cells #[.string p.k,.int .i64 p.g,.slice p.A p.L.length p.c] 33)
       exact ⟨⟨_,cnt6,ss ++ [q],by rw [newsN_snoc,HN.out,if_neg (by rw [LN.out]; decide)]; rfl,by rw [List.length_append,List.length_singleton]; omega,RG6.out.alloc _,MH.out.step HX.out QQ.out LK5.out,hb7,by have := S6.out; rw [World.size_alloc]; omega⟩,by rw [(RG6.out.alloc _).left_eq,RG.out.left_eq]; exact hltc5⟩
def roomB (T O : List TA) : Bool := O.all (fun x => decide ((xsOf T x.nm).length + newsN T x.nm x.X <= 100)) && decide (T.length + (O.filter fun x => (getK TA.nm T x.nm).isNone).length <= 8)
theorem filt_snoc (T : List TA) (ss : List TA) (x : TA) : ((ss ++ [x]).filter fun x => (getK TA.nm T x.nm).isNone).length = (ss.filter fun x => (getK TA.nm T x.nm).isNone).length + if (getK TA.nm T x.nm).isNone then 1 else 0 := by
 rw [List.filter_append,List.length_append,List.filter_cons]
 split <;> rfl
theorem room_t (m mo : Nat) (T O : List TA) (w : World) (h : TbAt w m T) (ho : TbAt w mo O) (hn : T.length + O.length <= 100000) (hn2 : ∀ t,(xsOf T t).length + (xsOf O t).length <= 100000) :
    Calls Tryz.prog 124 #[.map (some m),.map (some mo)] w fun e w' => e = .returned (.bool (roomB T O)) /\ Below w.heap.size w w' := by
 have H := hid h; have HO := hid ho; have HN := hid hn; have HN2 := hid hn2
 have hml := h.lt (Or.inl rfl)
 have hgl := ho.lt (Or.inl rfl)
 have hlen := h.own.len Tryz.underlying66 3
 rw [size_mapK] at hlen
 have heq : ∀ (w : World) (r : Option Nat),(binOp .eql 111 (.map r) (.map none)).run Tryz.prog w = .ok (.bool r.isNone) w := fun w r => run_eql_map_nil w _ _ _ r Tryz.underlying111
 obtain ⟨L,hL⟩ : ∃ L,T.length = L := ⟨_,rfl⟩
 rw [hL] at hlen
 have LL := hid hL
 have hL1 : L <= 100000 := by omega
 clear h ho hn hn2 hL
 go_enter Tryz.func124,Tryz.ntmps124
 go_wp2_with (at_range; refine wpList_range_own _ rfl _ 66 rfl 9 111 keyS Tryz.underlying66 elemM mo _ _ rfl HO.out.own ?_; intro w0 hrg0 hg0 hs0)
 go_frame
 have hb0 : Below w.heap.size w w0 := (Below.refl _ _).grown hg0 (Nat.le_refl _) (fun j hj => by cases hj)
 clear hlen
 go_loopw [5] (fun v wr => ∃ (left : Lit -> Bool) (cnt : Nat) (ss : List TA),v = .int .i64 (L + (ss.filter fun x => (getK TA.nm T x.nm).isNone).length : Nat) /\ ss.length + cnt <= O.length /\ wr.ranges Tryz.prog 9 elemM mo w.heap.size O.length (mapK TA.nm TA.g O) left cnt /\ MetK TA.nm O left ss /\
     ss.all (fun x => decide ((xsOf T x.nm).length + newsN T x.nm x.X <= 100)) = true /\ Below w.heap.size w wr /\ w.heap.size < wr.heap.size)
  (fun _ wr => wr.rangeLeft mo w.heap.size)
 case atStart =>
  exact ⟨_,_,[],rfl,by rw [size_mapK]; simp,hrg0,MetK.start HO.out.ok.rise,rfl,hb0,by omega⟩
 case round =>
  obtain ⟨left,cnt,ss,rfl,hsl,hrg,hM,hall,hb,hlt⟩ := hrel
  have RG := hid hrg; have MH := hid hM; have BH := hid hb; have AH := hid hall
  clear hrg hM hb hrg0 hg0 hb0 hs0 hall
  obtain ⟨N,hN⟩ : ∃ N,L + (ss.filter fun x => (getK TA.nm T x.nm).isNone).length = N := ⟨_,rfl⟩
  rw [hN]
  have HNN := hid hN
  have hN1 : N <= 100000 := by rw [<- hN,<- LL.out]; have := HN.out; have := List.length_filter_le (fun x => (getK TA.nm T x.nm).isNone) ss; omega
  clear hN
  go_wp2_with (at_next; refine wpList_next_ranges _ rfl _ rfl 9 keyS elemM Value.string (fun g : Option Nat => .map g) (fun key kl hk => by obtain ⟨x,rfl⟩ := Maps.keyOf_string_inv Tryz.underlying9 hk; exact ⟨x,rfl⟩) (fun v y hv => by obtain ⟨g,rfl,_⟩ := elemM_inv hv; exact ⟨g,rfl⟩) mo w.heap.size _ _ _ _ rfl RG.out ?_ ?_)
  ·intro hc0 hl0
   have hp := MH.out.perm HO.out.ok.rise hl0
   have hR : roomB T O = decide ((N : Int) <= 8) := by
    unfold roomB
    have h1 : O.all (fun x => decide ((xsOf T x.nm).length + newsN T x.nm x.X <= 100)) = true := by
     rw [List.all_eq_true]
     have := AH.out
     rw [List.all_eq_true] at this
     exact fun x hx => this x (hp.mem_iff.2 hx)
    rw [h1,Bool.true_and,LL.out,<- (hp.filter _).length_eq,HNN.out]
    by_cases h8 : N <= 8
    ·rw [decide_eq_true h8,decide_eq_true (by omega)]
    ·rw [decide_eq_false h8,decide_eq_false (by omega)]
   have HR := hid hR
   clear hR hp
   go_wp2
   go_ret
   exact ⟨by rw [HR.out]; rfl,BH.out⟩
  ·intro x ci kl yd yp w6 cnt6 hkey hlk hv hat hrg6 hltc hg6 hs6 hen
   obtain ⟨z,hz,hzn,rfl,rfl⟩ := out_met hkey hv hat
   subst hzn
   have hb6 : Below w.heap.size w w6 := BH.out.grown hg6 BH.out.size (fun j hj => by injection hj with hj; omega)
   have T6 := hid (H.out.below hb6)
   have O6 := hid (HO.out.below hb6)
   have RG6 := hid hrg6; have B6 := hid hb6; have Z := hid hz; have LK := hid hlk; have S6 := hid hs6
   have HK := hid (show z.nm.size <= maxLen by have := (HO.out.ok.sz z hz).1; unfold maxLen; omega)
   clear hrg6 hb6 hz hlk hv hat hkey hg6 hs6
   have hnl := newsN_le T z.nm z.X
   have hXl : (xsOf T z.nm).length + z.X.length <= 100000 := by have := HN2.out z.nm; rw [xsOf_some (getK_mem HO.out.ok.rise Z.out)] at this; exact this
   obtain ⟨M,hM⟩ : ∃ M,newsN T z.nm z.X = M := ⟨_,rfl⟩
   have HM := hid hM
   rw [hM] at hnl
   have hM1 : M <= 100000 := by omega
   clear hM
   have HC : Hid (∀ w',Below w.heap.size w w' -> Calls Tryz.prog 174 #[.map (some m),.string z.nm,.map (some z.g)] w' fun e w'' => e = .returned (.int .i64 (M : Nat)) /\ Below w'.heap.size w' w'') := hid fun w' hb' => by
    have hz := HO.out.below hb'
    rw [<- HM.out]
    exact news_t m z.g T z.nm z.X w' (H.out.below hb') (hz.inn z Z.out) (HO.out.ok.ps z Z.out).1 (HO.out.ok.sz z Z.out).2 (HO.out.ok.sz z Z.out).1 (by omega)
   have FALSE : Hid (100 < (xsOf T z.nm).length + M -> roomB T O = false) := hid fun h8 => by
    unfold roomB
    have h1 : O.all (fun x => decide ((xsOf T x.nm).length + newsN T x.nm x.X <= 100)) = false := by
     rw [List.all_eq_false]
     exact ⟨z,Z.out,by rw [HM.out,decide_eq_false (by omega)]; decide⟩
    rw [h1]; rfl
   have ALL : Hid ((xsOf T z.nm).length + M <= 100 -> (ss ++ [z]).all (fun x => decide ((xsOf T x.nm).length + newsN T x.nm x.X <= 100)) = true) := hid fun h8 => by
    rw [List.all_append,AH.out,Bool.true_and]
    show (decide _ && true) = true
    rw [HM.out,decide_eq_true h8]
    rfl
   cases e : getK TA.nm T z.nm with
   | none =>
     have E := hid (show (getK TA.nm T z.nm).map TA.g = none by rw [e]; rfl)
     have EN := hid (show (getK TA.nm T z.nm).isNone = true by rw [e]; rfl)
     have XN := hid (show (xsOf T z.nm).length = 0 by rw [xsOf_none e]; rfl)
     clear e
     go_wp2_with (first
      | (at_lookup; refine lk_out _ rfl _ _ rfl m _ T rfl T6.out.own z.nm rfl HK.out none E.out ?_))
     refine (HC.out _ B6.out).mono ?_
     rintro e w7 ⟨rfl,b7⟩
     by_cases h8 : 100 < M
     ·have HR := hid (FALSE.out (by omega))
      have B7 := hid ((B6.out).trans (b7.mono B6.out.size))
      go_wp2
      go_ret
      exact ⟨by rw [HR.out]; rfl,B7.out⟩
     ·have h9 : ¬ 100 < (M : Int) := by omega
      go_wp2
      have RG7 := ranges_agree RG6.out (b7.block mo (O6.out.lt (Or.inl rfl))) (b7.block _ (by have := S6.out; omega))
      exact ⟨⟨_,cnt6,ss ++ [z],by rw [filt_snoc,if_pos EN.out,<- Nat.add_assoc,HNN.out]; rfl,by rw [List.length_append,List.length_singleton]; omega,RG7,MH.out.step HO.out.ok.rise Z.out LK.out,ALL.out (by have := h8; have := XN.out; omega),(B6.out).trans (b7.mono B6.out.size),by have := S6.out; have := b7.size; omega⟩,by rw [RG7.left_eq,RG.out.left_eq]; exact hltc⟩
   | some y =>
     obtain ⟨hy,hyn⟩ := getK_some e
     have E := hid (show (getK TA.nm T z.nm).map TA.g = some y.g by rw [e]; rfl)
     have EN := hid (show (getK TA.nm T z.nm).isNone = false by rw [e]; rfl)
     obtain ⟨K,hK⟩ : ∃ K,y.X.length = K := ⟨_,rfl⟩
     have XN := hid (show (xsOf T z.nm).length = K by rw [xsOf_some e,hK])
     have hlen := (T6.out.inn y hy).len Tryz.underlying111 3
     rw [size_mapK,hK] at hlen
     have hK1 : K <= 100000 := by have := XN.out; omega
     clear e hy hyn hK
     go_wp2_with (first
      | (at_lookup; refine lk_out _ rfl _ _ rfl m _ T rfl T6.out.own z.nm rfl HK.out (some y.g) E.out ?_))
     refine (HC.out _ B6.out).mono ?_
     rintro e w7 ⟨rfl,b7⟩
     by_cases h8 : 100 < K + M
     ·have HR := hid (FALSE.out (by have := XN.out; omega))
      have B7 := hid ((B6.out).trans (b7.mono B6.out.size))
      have h9 : 100 < (K : Int) + (M : Int) := by omega
      go_wp2
      go_ret
      exact ⟨by rw [HR.out]; rfl,B7.out⟩
     ·have h9 : ¬ 100 < (K : Int) + (M : Int) := by omega
      go_wp2
      have RG7 := ranges_agree RG6.out (b7.block mo (O6.out.lt (Or.inl rfl))) (b7.block _ (by have := S6.out; omega))
      exact ⟨⟨_,cnt6,ss ++ [z],by rw [filt_snoc,if_neg (by rw [EN.out]; decide),Nat.add_zero,HNN.out],by rw [List.length_append,List.length_singleton]; omega,RG7,MH.out.step HO.out.ok.rise Z.out LK.out,ALL.out (by have := h8; have := XN.out; omega),(B6.out).trans (b7.mono B6.out.size),by have := S6.out; have := b7.size; omega⟩,by rw [RG7.left_eq,RG.out.left_eq]; exact hltc⟩
end Go.Proofs.YtmpcnhpdobdmcaaGreatDoor
namespace Go.Proofs.YtmpcnhpdobdmcaaGreatDoor
open Go Go.RowKit
theorem putC_ge : ∀ (l : Cols) (n : ByteArray) (c : Ce),l.length <= (putC l n c).length
 | [],n,c => Nat.zero_le _
 | (m,d) :: l,n,c => by
   unfold putC
   split
   ·have := putC_ge l n c
    simp only [List.length_cons]
    omega
   ·split <;> simp only [List.length_cons] <;> omega
theorem mrg_ge : ∀ (k l : Cols),l.length <= (mrg l k).length
 | [],l => Nat.le_refl _
 | x :: k,l => Nat.le_trans (putC_ge l x.1 x.2) (mrg_ge k (putC l x.1 x.2))
theorem putK_ge {α : Type} {key : α -> ByteArray} {jn : α -> α -> α} : ∀ (l : List α) (c : α),l.length <= (putK key jn l c).length
 | [],c => Nat.zero_le _
 | x :: l,c => by
   unfold putK
   split
   ·have := putK_ge (key := key) (jn := jn) l c
    simp only [List.length_cons]
    omega
   ·split <;> simp only [List.length_cons] <;> omega
theorem mrgK_ge {α : Type} {key : α -> ByteArray} {jn : α -> α -> α} : ∀ (k l : List α),l.length <= (mrgK key jn l k).length
 | [],l => Nat.le_refl _
 | x :: k,l => Nat.le_trans (putK_ge l x) (mrgK_ge k (putK key jn l x))
def sumR (l : Rows) : Nat := (l.map fun r => r.cols.length).sum
theorem sumR_cons (r : Ro) (l : Rows) : sumR (r :: l) = r.cols.length + sumR l := by simp [sumR]
theorem sumR_put : ∀ (l : Rows) (r : Ro),sumR l <= sumR (putK Ro.key Ro.join l r) /\ sumR (putK Ro.key Ro.join l r) <= sumR l + r.cols.length
 | [],r => ⟨Nat.zero_le _,by show sumR [r] <= _; rw [sumR_cons]; omega⟩
 | x :: l,r => by
   have ih := sumR_put l r
   unfold putK
   split
   ·rw [sumR_cons,sumR_cons]; omega
   ·split
    ·have h1 : (x.join r).cols.length <= x.cols.length + r.cols.length := mrg_length _ _
     have h2 : x.cols.length <= (x.join r).cols.length := mrg_ge _ _
     rw [sumR_cons,sumR_cons]; omega
    ·simp only [sumR_cons]; omega
theorem sumR_mrg : ∀ (k l : Rows),sumR l <= sumR (mrgR l k) /\ sumR (mrgR l k) <= sumR l + sumR k
 | [],l => ⟨Nat.le_refl _,by show sumR l <= _; omega⟩
 | x :: k,l => by
   have h1 := sumR_put l x
   have h2 := sumR_mrg k (putK Ro.key Ro.join l x)
   rw [sumR_cons]
   show sumR l <= sumR (mrgR (putK Ro.key Ro.join l x) k) /\ sumR (mrgR (putK Ro.key Ro.join l x) k) <= _
   omega
theorem tot_ros (L : List RA) : tot L = sumR (ros L) := by
 unfold tot sumR ros
 rw [List.map_map]
 rfl
def Pa.tot (p : Pa) : Nat := sumR p.rows
theorem empty_join {k : ByteArray} {m : Pa} (hk : m.key = k) (hu : m.Up) (hg : 0 <= m.gone) : Pa.join ⟨k,0,[]⟩ m = m := by
 unfold Pa.join
 show Pa.mk k (max 0 m.gone) (mrgR [] m.rows) = m
 rw [show mrgR [] m.rows = m.rows from nil_mrgK JR hu.rise,show max 0 m.gone = m.gone by omega,<- hk]
structure Comes (m : ByteArray × Pa) : Prop where
 up : m.2.Up
 gone : 0 <= m.2.gone
 rows : m.2.rows.length <= 100
def hits (l : List (ByteArray × Pa)) (t k : ByteArray) : Bool := l.any fun m => decide (m.1 = t /\ m.2.key = k)
theorem hits_snoc (l : List (ByteArray × Pa)) (m : ByteArray × Pa) (t k : ByteArray) : hits (l ++ [m]) t k = (hits l t k || decide (m.1 = t /\ m.2.key = k)) := by
 unfold hits
 rw [List.any_append]
 simp
section
variable {T : List Tb} {t k : ByteArray} {l : List (ByteArray × Pa)}
theorem look_mut1 (h : TbOk T) (u : TbUp T) {m : ByteArray × Pa} (hm : Comes m) : look (mutT T m) m.1 m.2.key = some (((look T m.1 m.2.key).getD ⟨m.2.key,0,[]⟩).join m.2) := by
 rw [look_mutT h,if_pos ⟨rfl,rfl⟩]
 cases look T m.1 m.2.key with
 | none => show some m.2 = some _; rw [Option.getD_none,empty_join rfl hm.up hm.gone]
 | some p => rfl
theorem look_miss (h : TbOk T) : hits l t k = false -> look (l.foldl mutT T) t k = look T t k := by
 refine snoc_ind (P := fun l => hits l t k = false -> look (l.foldl mutT T) t k = look T t k) (fun _ => rfl) (fun l m ih hl => ?_) l
 rw [hits_snoc,Bool.or_eq_false_iff] at hl
 rw [List.foldl_append]
 show look (mutT _ m) t k = _
 rw [look_mutT (h.muts l),if_neg (by simpa using hl.2),ih hl.1]
theorem look_mono (h : TbOk T) {p : Pa} (hp : look T t k = some p) : ∀ l : List (ByteArray × Pa),∃ q,look (l.foldl mutT T) t k = some q /\ p.rows.length <= q.rows.length /\ p.tot <= q.tot := by
 refine snoc_ind ⟨p,hp,Nat.le_refl _,Nat.le_refl _⟩ fun l m ih => ?_
 obtain ⟨q,h1,h2,h3⟩ := ih
 rw [List.foldl_append]
 show ∃ q,look (mutT _ m) t k = some q /\ _
 rw [look_mutT (h.muts l),h1]
 by_cases e : m.1 = t /\ m.2.key = k
 ·rw [if_pos e]
  exact ⟨q.join m.2,rfl,Nat.le_trans h2 (mrgK_ge _ _),Nat.le_trans h3 (sumR_mrg _ _).1⟩
 ·rw [if_neg e]
  exact ⟨q,rfl,h2,h3⟩
theorem look_hit (h : TbOk T) : (look (l.foldl mutT T) t k).isSome = ((look T t k).isSome || hits l t k) := by
 refine snoc_ind (P := fun l => (look (l.foldl mutT T) t k).isSome = ((look T t k).isSome || hits l t k)) (by show (look T t k).isSome = _; simp [hits]) (fun l m ih => ?_) l
 rw [List.foldl_append]
 show (look (mutT _ m) t k).isSome = _
 rw [look_mutT (h.muts l),hits_snoc,<- Bool.or_assoc,<- ih]
 by_cases e : m.1 = t /\ m.2.key = k
 ·rw [if_pos e,decide_eq_true e]
  cases look (l.foldl mutT T) t k <;> simp [joinO]
 ·rw [if_neg e,decide_eq_false e,Bool.or_false]
end
structure FitS (S : List Tb) : Prop where
 parts : ∀ x ∈ S,x.ps.length <= 100 /\ ∀ p ∈ x.ps,p.rows.length <= 100
 tabs : S.length <= 8
theorem FitS.rows {S : List Tb} (h : FitS S) {t k : ByteArray} {p : Pa} (hp : look S t k = some p) : p.rows.length <= 100 := by
 unfold look at hp
 cases e : getK Tb.nm S t with
 | none => rw [psOf_none e] at hp; cases hp
 | some x => rw [psOf_some e] at hp; exact (h.parts x (getK_some e).1).2 p (getK_some hp).1
theorem FitS.len {S : List Tb} (h : FitS S) (t : ByteArray) : (psOf S t).length <= 100 := by
 cases e : getK Tb.nm S t with
 | none => rw [psOf_none e]; exact Nat.zero_le _
 | some x => rw [psOf_some e]; exact (h.parts x (getK_some e).1).1
theorem riseK_nodup {α : Type} {key : α -> ByteArray} : ∀ {l : List α},RiseK key l -> (l.map key).Nodup
 | [],_ => List.nodup_nil
 | x :: l,h => by
   rw [List.map_cons,List.nodup_cons]
   refine ⟨fun hx => ?_,riseK_nodup h.2⟩
   obtain ⟨y,hy,e⟩ := List.mem_map.1 hx
   have := h.1 y hy
   rw [e] at this
   exact nlt_irr _ this
theorem mem_keys {α : Type} {key : α -> ByteArray} {l : List α} {n : ByteArray} : n ∈ l.map key ↔ (getK key l n).isSome = true := by
 constructor
 ·intro h
  obtain ⟨y,hy,e⟩ := List.mem_map.1 h
  cases e2 : getK key l n with
  | some x => rfl
  | none =>
    exfalso
    clear h
    induction l with
    | nil => cases hy
    | cons x l ih =>
      rcases List.mem_cons.1 hy with rfl | hy
      ·rw [<- e,getK_head] at e2; cases e2
      ·by_cases hx : key x = n
       ·unfold getK at e2; rw [if_pos hx] at e2; cases e2
       ·rw [getK_next l hx] at e2; exact ih hy e2
 ·intro h
  obtain ⟨x,hx⟩ := Option.isSome_iff_exists.1 h
  exact List.mem_map.2 ⟨x,(getK_some hx).1,(getK_some hx).2⟩
theorem len_union {α β γ : Type} {ka : α -> ByteArray} {kb : β -> ByteArray} {kc : γ -> ByteArray} {l : List α} {X : List β} {Y : List γ} (hl : RiseK ka l) (hX : RiseK kb X) (hY : RiseK kc Y)
    (h : ∀ n,(getK ka l n).isSome = ((getK kb X n).isSome || (getK kc Y n).isSome)) : l.length = X.length + (Y.filter fun y => (getK kb X (kc y)).isNone).length := by
 have hp : (l.map ka).Perm (X.map kb ++ (Y.filter fun y => (getK kb X (kc y)).isNone).map kc) := by
  refine (List.perm_ext_iff_of_nodup (riseK_nodup hl) ?_).2 fun n => ?_
  ·refine List.nodup_append.2 ⟨riseK_nodup hX,List.Sublist.nodup ((List.filter_sublist).map kc) (riseK_nodup hY),?_⟩
   rintro a ha b hb rfl
   obtain ⟨y,hy,e⟩ := List.mem_map.1 hb
   have h1 := (List.mem_filter.1 hy).2
   have h2 := mem_keys.1 ha
   rw [<- e] at h2
   cases e3 : getK kb X (kc y) with
   | none => rw [e3] at h2; cases h2
   | some z => rw [e3] at h1; cases h1
  ·rw [List.mem_append,mem_keys,mem_keys,h n,Bool.or_eq_true]
   constructor
   ·rintro (h1 | h1)
    ·exact Or.inl h1
    ·by_cases h2 : (getK kb X n).isSome = true
     ·exact Or.inl h2
     ·obtain ⟨y,hy⟩ := Option.isSome_iff_exists.1 h1
      refine Or.inr (List.mem_map.2 ⟨y,List.mem_filter.2 ⟨(getK_some hy).1,?_⟩,(getK_some hy).2⟩)
      rw [(getK_some hy).2]
      cases e : getK kb X n with
      | none => rfl
      | some z => rw [e] at h2; exact absurd rfl h2
   ·rintro (h1 | h1)
    ·exact Or.inl h1
    ·obtain ⟨y,hy,e⟩ := List.mem_map.1 h1
     exact Or.inr (mem_keys.1 (List.mem_map.2 ⟨y,(List.mem_filter.1 hy).1,e⟩))
 have := hp.length_eq
 simpa using this
end Go.Proofs.YtmpcnhpdobdmcaaGreatDoor
namespace Go.Proofs.YtmpcnhpdobdmcaaGreatDoor
open Go Go.RowKit
theorem isSome_map {α β : Type} (f : α -> β) (x : Option α) : (x.map f).isSome = x.isSome := by cases x <;> rfl
theorem keys_tbs {T : List TA} (h : TaOk T) (t : ByteArray) : (getK TA.nm T t).isSome = true ↔ ∃ k,(lookA T t k).isSome = true := by
 constructor
 ·intro h1
  obtain ⟨x,hx⟩ := Option.isSome_iff_exists.1 h1
  obtain ⟨k,p,hp⟩ := look_some_of h (getK_some hx).1
  rw [(getK_some hx).2] at hp
  exact ⟨k,by rw [hp]; rfl⟩
 ·rintro ⟨k,hk⟩
  obtain ⟨p,hp⟩ := Option.isSome_iff_exists.1 hk
  obtain ⟨x,hx,e,_⟩ := lookA_mem hp
  rw [<- e,getK_mem h.rise hx]
  rfl
theorem keys_tb {S : List Tb} (h : TbOk S) (t : ByteArray) : (getK Tb.nm S t).isSome = true ↔ ∃ k,(look S t k).isSome = true := by
 constructor
 ·intro h1
  obtain ⟨x,hx⟩ := Option.isSome_iff_exists.1 h1
  obtain ⟨k,p,hp⟩ := h.there hx
  exact ⟨k,by rw [hp]; rfl⟩
 ·rintro ⟨k,hk⟩
  cases e : getK Tb.nm S t with
  | some x => rfl
  | none => rw [look_none e] at hk; cases hk
theorem bool_iff {a b : Bool} (h : a = true ↔ b = true) : a = b := by cases a <;> cases b <;> simp_all
theorem room_fits {T O : List TA} {l : List (ByteArray × Pa)} (hT : TaOk T) (hO : TaOk O) (ho : ∀ t k,(lookA O t k).isSome = hits l t k) (hf : FitS (tbs T)) (hr : ∀ t k p,look (l.foldl mutT (tbs T)) t k = some p -> p.rows.length <= 100) :
    roomB T O = true ↔ FitS (l.foldl mutT (tbs T)) := by
 have hS := hT.tbs.muts l
 have hlook : ∀ t k,(look (l.foldl mutT (tbs T)) t k).isSome = ((lookA T t k).isSome || (lookA O t k).isSome) := fun t k => by
  rw [look_hit hT.tbs,look_tbs,isSome_map,ho]
 have hps : ∀ t,(psOf (l.foldl mutT (tbs T)) t).length = (xsOf T t).length + newsN T t (xsOf O t) := fun t => len_union (ka := Pa.key) (kb := PA.k) (kc := PA.k) (hS.psRise t) (hT.xsRise t) (hO.xsRise t) fun n => hlook t n
 have htab : (l.foldl mutT (tbs T)).length = T.length + (O.filter fun x => (getK TA.nm T x.nm).isNone).length := len_union (ka := Tb.nm) (kb := TA.nm) (kc := TA.nm) hS.rise hT.rise hO.rise fun n => by
  refine bool_iff ?_
  rw [keys_tb hS,Bool.or_eq_true,keys_tbs hT,keys_tbs hO]
  constructor
  ·rintro ⟨k,hk⟩
   rw [hlook,Bool.or_eq_true] at hk
   exact hk.imp (fun h => ⟨k,h⟩) fun h => ⟨k,h⟩
  ·rintro (⟨k,hk⟩ | ⟨k,hk⟩)
   ·exact ⟨k,by rw [hlook,hk]; rfl⟩
   ·exact ⟨k,by rw [hlook,hk,Bool.or_true]⟩
 unfold roomB
 rw [Bool.and_eq_true,List.all_eq_true,decide_eq_true_iff,<- htab]
 constructor
 ·rintro ⟨h1,h2⟩
  refine ⟨fun x hx => ⟨?_,fun p hp => hr x.nm p.key p (by unfold look; rw [psOf_some (getK_mem hS.rise hx)]; exact getK_mem (hS.ps x hx).1 hp)⟩,h2⟩
  have e : x.ps = psOf (l.foldl mutT (tbs T)) x.nm := (psOf_some (getK_mem hS.rise hx)).symm
  rw [e,hps]
  cases e2 : getK TA.nm O x.nm with
  | some y =>
    have := h1 y (getK_some e2).1
    rw [(getK_some e2).2] at this
    rw [xsOf_some e2]
    simpa using this
  | none =>
    rw [xsOf_none e2]
    show (xsOf T x.nm).length + 0 <= 100
    have := hf.len x.nm
    rw [psOf_tbs] at this
    unfold pas at this
    rw [List.length_map] at this
    omega
 ·intro h
  refine ⟨fun y hy => ?_,h.tabs⟩
  have := h.len y.nm
  rw [hps,xsOf_some (getK_mem hO.rise hy)] at this
  exact decide_eq_true this
def Turned (T O : List TA) (l : List (ByteArray × Pa)) : Prop := ∀ t k,(lookA O t k).map paOf = if hits l t k = true then look (l.foldl mutT (tbs T)) t k else none
theorem Turned.hit {T O : List TA} {l : List (ByteArray × Pa)} (hT : TaOk T) (h : Turned T O l) (t k : ByteArray) : (lookA O t k).isSome = hits l t k := by
 have h1 := congrArg Option.isSome (h t k)
 rw [isSome_map] at h1
 rw [h1]
 by_cases e : hits l t k = true
 ·rw [if_pos e,look_hit hT.tbs,e,Bool.or_true]
 ·rw [if_neg e]
  cases e2 : hits l t k with
  | true => exact absurd e2 e
  | false => rfl
theorem Turned.cur {T O : List TA} {l : List (ByteArray × Pa)} (hT : TaOk T) (h : Turned T O l) (t k : ByteArray) : paOf ((lookA O t k).getD ((lookA T t k).getD (emptyP k))) = (look (l.foldl mutT (tbs T)) t k).getD ⟨k,0,[]⟩ := by
 have h1 := h t k
 by_cases e : hits l t k = true
 ·rw [if_pos e] at h1
  have h2 := look_hit (l := l) (t := t) (k := k) hT.tbs
  rw [e,Bool.or_true] at h2
  cases e2 : lookA O t k with
  | none => rw [e2] at h1; rw [<- h1] at h2; cases h2
  | some p => rw [e2] at h1; rw [<- h1]; rfl
 ·rw [if_neg e] at h1
  cases e2 : lookA O t k with
  | some p => rw [e2] at h1; cases h1
  | none =>
    rw [look_miss hT.tbs (by cases e3 : hits l t k with | true => exact absurd e3 e | false => rfl),look_tbs]
    cases lookA T t k <;> rfl
theorem Turned.step {T O O' : List TA} {l : List (ByteArray × Pa)} {m : ByteArray × Pa} {q : PA} (hT : TaOk T) (hu : TbUp (tbs T)) (hl : ∀ x ∈ l,Comes x) (hm : Comes m) (h : Turned T O l) (hk : q.k = m.2.key)
    (hq : paOf q = ((look (l.foldl mutT (tbs T)) m.1 m.2.key).getD ⟨m.2.key,0,[]⟩).join m.2) (ho : ∀ t k,lookA O' t k = if m.1 = t /\ q.k = k then some q else lookA O t k) : Turned T O' (l ++ [m]) := fun t k => by
 rw [ho,hits_snoc,List.foldl_append]
 show _ = if _ then look (mutT _ m) t k else none
 by_cases e : m.1 = t /\ q.k = k
 ·rw [if_pos e,decide_eq_true (by rw [<- hk]; exact e),Bool.or_true,if_pos rfl]
  obtain ⟨rfl,e2⟩ := e
  rw [hk] at e2
  subst e2
  rw [look_mut1 (hT.tbs.muts l) (hu.muts hT.tbs fun x hx => ⟨(hl x hx).up,(hl x hx).gone⟩) hm,<- hq]
  rfl
 ·have e' : ¬ (m.1 = t /\ m.2.key = k) := by rw [<- hk]; exact e
  rw [if_neg e,decide_eq_false e',Bool.or_false,look_mutT (hT.tbs.muts l),if_neg e',h t k]
theorem cur_may {T : List Tb} {l r : List (ByteArray × Pa)} (hT : TbOk T) (hu : TbUp T) (hl : ∀ x ∈ l,Comes x) (hC : ∀ t k p,look ((l ++ r).foldl mutT T) t k = some p -> p.tot <= 900000) (t k : ByteArray) :
    ((look (l.foldl mutT T) t k).getD ⟨k,0,[]⟩).Up /\ ((look (l.foldl mutT T) t k).getD ⟨k,0,[]⟩).tot <= 900000 := by
 cases e : look (l.foldl mutT T) t k with
 | none => exact ⟨⟨trivial,fun x hx => (by cases hx)⟩,Nat.zero_le _⟩
 | some p =>
   obtain ⟨q,h1,h2,h3⟩ := look_mono (hT.muts l) e r
   rw [<- List.foldl_append] at h1
   exact ⟨(hu.muts hT (fun x hx => ⟨(hl x hx).up,(hl x hx).gone⟩) t k p e).1,Nat.le_trans h3 (hC t k q h1)⟩
theorem over_fits {T : List Tb} {l r : List (ByteArray × Pa)} {m : ByteArray × Pa} (hT : TbOk T) (hu : TbUp T) (hl : ∀ x ∈ l,Comes x) (hm : Comes m) (ho : 100 < (((look (l.foldl mutT T) m.1 m.2.key).getD ⟨m.2.key,0,[]⟩).join m.2).rows.length) : ¬ FitS ((l ++ m :: r).foldl mutT T) := fun h => by
 have h1 := look_mut1 (hT.muts l) (hu.muts hT fun x hx => ⟨(hl x hx).up,(hl x hx).gone⟩) hm
 obtain ⟨q,h2,h3,_⟩ := look_mono ((hT.muts l).mut m) h1 r
 have e : (l ++ m :: r).foldl mutT T = r.foldl mutT (mutT (l.foldl mutT T) m) := by rw [List.foldl_append]; rfl
 rw [e] at h
 have := h.rows h2
 omega
theorem fresh_set3 {w w' : World} {A : Option Addr} {n c b : Nat} {M : List RA} (h : Fresh w w' (.slice A n c) M) (hb : b < w.heap.size) (u0 u1 u2 : Value) :
    n = M.length /\ Lies (((w'.setCell ⟨b,0,none⟩ u0).setCell ⟨b,1,none⟩ u1).setCell ⟨b,2,none⟩ u2) (((w'.setCell ⟨b,0,none⟩ u0).setCell ⟨b,1,none⟩ u1).setCell ⟨b,2,none⟩ u2).heap.size A M.length c M := by
 obtain ⟨e,hl,_⟩ := h.lies
 refine ⟨e,?_⟩
 subst e
 have hk := kept_set3 (w := w') b u0 u1 u2
 exact (hl.agree fun k hk2 => hk.block k (hl.cells hk2).1 (fun e => by have := h.rowsF hk2; omega)).up hk.size
structure ComesM (L : List MA) : Prop where
 comes : ∀ x ∈ L,Comes (mutOf x)
 sz : ∀ x ∈ L,x.tb.size <= 1000 /\ x.p.k.size <= 1000
 len : L.length <= 1000
structure JoinT (w w' : World) (T : List TA) (l : List (ByteArray × Pa)) (r : Bool) (mo : Option Nat) : Prop where
 fits : r = true ↔ FitS (l.foldl mutT (tbs T))
 turned : r = true -> ∃ m O,mo = some m /\ TbAt w' m O /\ Turned T O l /\ (∀ k,mapsF m O k -> w.heap.size <= k) /\ ∀ k,allRows O k -> w.heap.size <= k
 below : Below w.heap.size w w'
theorem join_t (m : Nat) (T : List TA) (A : Option Addr) (n c B : Nat) (L : List MA) (w : World) (h : TbAt w m T) (hr : LiesM w B A n c L) (hB : B <= w.heap.size) (hf : FitS (tbs T)) (hu : TbUp (tbs T)) (hL : ComesM L)
    (hC : ∀ t k p,look ((muts L).foldl mutT (tbs T)) t k = some p -> p.tot <= 900000) (hCm : ∀ x ∈ L,(mutOf x).2.tot <= 1000) :
    Calls Tryz.prog 77 #[.map (some m),.slice A n c] w fun e w' => ∃ r mo,e = .returned (.tuple #[.map mo,.bool r]) /\ JoinT w w' T (muts L) r mo := by
 have hmk := @run_makeMap Tryz.prog
 have hl := hr.rd.1
 have b0 := (Below.refl w.heap.size w).alloc (Nat.le_refl _) (.map #[] 0)
 have hm0 := (World.ownsMap_made w Tryz.prog 9 elemM)
 have H := hid h; have HR := hid hr; have HB := hid hB; have HF := hid hf; have HU := hid hu; have HL := hid hL; have HC := hid hC; have HCM := hid hCm; have HLN := hid hl
 have hn8 : n <= 1000 := by have := hL.len; omega
 clear h hr hB hf hu hL hC hCm hl
 go_enter Tryz.func77,Tryz.ntmps77
 go_wp2_with fail
 go_loopw [16] (fun i wr => ∃ (t : Nat) (O : List TA),t <= n /\ i = .int .i64 t /\ TbAt wr w.heap.size O /\ Turned T O ((muts L).take t) /\ (∀ x ∈ O,∀ p ∈ x.X,p.L.length <= 100) /\ (O.length <= t /\ ∀ a,(xsOf O a).length <= t) /\
     (∀ k,mapsF w.heap.size O k -> w.heap.size <= k) /\ (∀ k,allRows O k -> w.heap.size <= k) /\ Below w.heap.size w wr /\ w.heap.size < wr.heap.size) (fun i _ => n - (intOf i).toNat)
 case atStart =>
  refine ⟨0,[],Nat.zero_le _,rfl,⟨⟨trivial,fun x hx => (by cases hx),fun x hx => (by cases hx)⟩,hm0,fun x hx => (by cases hx),fun x hx => (by cases hx),fun x hx => (by cases hx),fun x hx => (by cases hx)⟩,fun t k => rfl,fun x hx => (by cases hx),⟨Nat.le_refl _,fun a => Nat.le_refl _⟩,fun k hk => ?_,fun k hk => ?_,b0,by simp⟩
  ·rcases hk with rfl | ⟨x,hx,_⟩
   ·exact Nat.le_refl _
   ·cases hx
  ·obtain ⟨x,hx,_⟩ := hk; cases hx
 case round =>
  obtain ⟨t,O,ht,rfl,hO,hT,hrw,hln,hmf,har,hb,hlt⟩ := hrel
  have OH := hid hO; have TH := hid hT; have RW := hid hrw; have LN := hid hln; have MF := hid hmf; have AR := hid har; have BH := hid hb; have LT := hid hlt
  clear hO hT hrw hln hmf har hb hlt hm0 b0
  by_cases hlt : t < n
  ·have i1 : (t : Int) < n := by omega
   have i0 : (0 : Int) <= t := by omega
   have htl : t < L.length := by rw [HLN.out]; exact hlt
   have hrd := HR.out.below (BH.out.mono HB.out)
   obtain ⟨g0,o0,rfl,hg0⟩ := hrd.rd.ex (by omega)
   have hcol := hrd.rd.part htl
   have hin := hrd.parts L[t] (List.getElem_mem htl)
   have hcm := HL.out.comes L[t] (List.getElem_mem htl)
   have hsz := HL.out.sz L[t] (List.getElem_mem htl)
   have hct := HCM.out L[t] (List.getElem_mem htl)
   have htk : (muts L).take (t + 1) = (muts L).take t ++ [mutOf L[t]] := by
    rw [List.take_succ_eq_append_getElem (by unfold muts; rw [List.length_map]; exact htl)]
    congr 1
    unfold muts
    rw [List.getElem_map]
   obtain ⟨x,hcx⟩ : ∃ y,L[t] = y := ⟨_,rfl⟩
   rw [hcx] at hcol hin hcm hsz hct htk
   obtain ⟨_,_,_,_⟩ := hcol
   have ba := (Below.refl wr.heap.size wr).alloc (Nat.le_refl _) (.cells #[.string x.tb,.string x.p.k,.int .i64 x.p.g,.slice x.p.A x.p.L.length x.p.c] 35)
   have nx := heap_alloc_new wr (.cells #[.string x.tb,.string x.p.k,.int .i64 x.p.g,.slice x.p.A x.p.L.length x.p.c] 35)
   obtain ⟨w1,hw1⟩ : ∃ w1,wr.alloc (.cells #[.string x.tb,.string x.p.k,.int .i64 x.p.g,.slice x.p.A x.p.L.length x.p.c] 35) = w1 := ⟨_,rfl⟩
   have hs1 : w1.heap.size = wr.heap.size + 1 := by rw [<- hw1]; simp
   rw [hw1] at ba nx
   have O1 := hid (OH.out.below ba)
   have CM := hid hcm; have SZ := hid hsz; have CT := hid hct; have TK := hid htk; have BA := hid ba; have NX := hid nx; have S1 := hid hs1
   have IN := hid hin
   have HTB := hid (show x.tb.size <= maxLen by have := hsz.1; unfold maxLen; omega)
   have HPK := hid (show x.p.k.size <= maxLen by have := hsz.2; unfold maxLen; omega)
   have x0 := cell_at (i := 0) nx rfl
   have x1 := cell_at (i := 1) nx rfl
   have x2 := cell_at (i := 2) nx rfl
   have x3 := cell_at (i := 3) nx rfl
   have kx0 : ∀ o,(w1.alloc o).cell? ⟨wr.heap.size,0,none⟩ = some (.string x.tb) := fun o => cell_at (i := 0) (new_at nx o) rfl
   have kx1 : ∀ o,(w1.alloc o).cell? ⟨wr.heap.size,1,none⟩ = some (.string x.p.k) := fun o => cell_at (i := 1) (new_at nx o) rfl
   have kx2 : ∀ o,(w1.alloc o).cell? ⟨wr.heap.size,2,none⟩ = some (.int .i64 x.p.g) := fun o => cell_at (i := 2) (new_at nx o) rfl
   have kx3 : ∀ o,(w1.alloc o).cell? ⟨wr.heap.size,3,none⟩ = some (.slice x.p.A x.p.L.length x.p.c) := fun o => cell_at (i := 3) (new_at nx o) rfl
   obtain ⟨p,hp⟩ : ∃ p,(lookA T x.tb x.p.k).getD (emptyP x.p.k) = p := ⟨_,rfl⟩
   have HP := hid hp
   clear hrd hcm hsz hct htk ba nx hs1 hin hcx hp
   cases e : getK TA.nm O x.tb with
   | none =>
     have E := hid (show (getK TA.nm O x.tb).map TA.g = none by rw [e]; rfl)
     have LO := hid (show lookA O x.tb x.p.k = none by unfold lookA; rw [xsOf_none e]; rfl)
     clear e
     go_wp2_with (first
      | (at_lookup; refine lk_out _ rfl _ _ rfl w.heap.size _ O rfl O1.out.own x.tb rfl HTB.out none E.out ?_)
      | (at_lookup; refine lk_nil _ rfl _ _ rfl rfl x.p.k rfl HPK.out ?_))
     have W2 := (Below.refl w1.heap.size w1).alloc (Nat.le_refl _) (.cells #[.string ⟨#[]⟩,.int .i64 0,.slice none 0 0] 33)
     have b2 : Below wr.heap.size wr (w1.alloc (.cells #[.string ⟨#[]⟩,.int .i64 0,.slice none 0 0] 33)) := BA.out.trans (W2.mono BA.out.size)
     have T2 := H.out.below (BH.out.trans (b2.mono BH.out.size))
     refine (get_t m T x.tb x.p.k _ T2 HTB.out HPK.out p HP.out).mono ?_
     rintro e w3 ⟨rfl,b3⟩
     have n3 := (b3.block w1.heap.size (by simp)).trans (heap_alloc_new w1 (.cells #[.string ⟨#[]⟩,.int .i64 0,.slice none 0 0] 33))
     have X3 := (b3.block wr.heap.size (by rw [World.size_alloc]; have := S1.out; omega)).trans (new_at NX.out (.cells #[.string ⟨#[]⟩,.int .i64 0,.slice none 0 0] 33))
     have u0 := thawed_at (i := 0) n3
     have r0 := cell_at (i := 0) n3 rfl
     have r1 := cell_at (i := 1) n3 rfl
     have r2 := cell_at (i := 2) n3 rfl
     have u1 := thawed_at (i := 1) n3
     have u2 := thawed_at (i := 2) n3
     have n4 := set3_block n3 (.string p.k) (.int .i64 p.g) (.slice p.A p.L.length p.c)
     have k4 := kept_set3 (w := w3) w1.heap.size (.string p.k) (.int .i64 p.g) (.slice p.A p.L.length p.c)
     have xx4 := (k4.block wr.heap.size (by have := b3.size; rw [World.size_alloc] at this; have := S1.out; omega) (by have := S1.out; omega)).trans X3
     have b4 : Below wr.heap.size wr (((w3.setCell ⟨w1.heap.size,0,none⟩ (.string p.k)).setCell ⟨w1.heap.size,1,none⟩ (.int .i64 p.g)).setCell ⟨w1.heap.size,2,none⟩ (.slice p.A p.L.length p.c)) := (b2.trans (b3.mono b2.size)).trans (k4.below (B := wr.heap.size) (fun k hk => by rw [hk,S1.out]; omega) (by have := b2.size; have := b3.size; omega))
     have lt4 : w1.heap.size < (((w3.setCell ⟨w1.heap.size,0,none⟩ (.string p.k)).setCell ⟨w1.heap.size,1,none⟩ (.int .i64 p.g)).setCell ⟨w1.heap.size,2,none⟩ (.slice p.A p.L.length p.c)).heap.size := by
      have := k4.size; have := b3.size; rw [World.size_alloc] at this; omega
     have hT0 := TH.out.cur H.out.ok x.tb x.p.k
     rw [LO.out,Option.getD_none,HP.out] at hT0
     have hpp : p.k = x.p.k /\ p.L.length <= 100 /\ Lies wr wr.heap.size p.A p.L.length p.c p.L := by
      have h9 := HP.out
      cases e9 : lookA T x.tb x.p.k with
      | none => rw [e9] at h9; rw [<- h9]; exact ⟨rfl,Nat.zero_le _,⟨⟨rfl,fun h => absurd h (by simp [emptyP])⟩,fun y hy => (by cases hy),Nat.le_refl _⟩⟩
      | some p' =>
        rw [e9] at h9
        have h9 : p' = p := h9
        subst h9
        obtain ⟨y9,hy9,_,hp9,hk9⟩ := lookA_mem e9
        have hrr := HF.out.rows (t := x.tb) (k := x.p.k) (p := paOf p') (by rw [look_tbs,e9]; rfl)
        exact ⟨hk9,by unfold paOf ros at hrr; simpa using hrr,((H.out.below BH.out).lies y9 hy9 p' hp9)⟩
     obtain ⟨hpk0,hpr0,hplr⟩ := hpp
     have hpl4 := (hplr.below b4).up b4.size
     have c0 := cell_at (i := 0) n4 rfl
     have c1 := cell_at (i := 1) n4 rfl
     have c2 := cell_at (i := 2) n4 rfl
     have d1 := cell_at (i := 1) xx4 rfl
     have d2 := cell_at (i := 2) xx4 rfl
     have d3 := cell_at (i := 3) xx4 rfl
     have PA0 := hid (hT0 : paOf p = (look (((muts L).take t).foldl mutT (tbs T)) x.tb x.p.k).getD ⟨x.p.k,0,[]⟩)
     have PK := hid (hpk0 : p.k = x.p.k)
     have PR := hid hpr0
     clear W2 b2 T2 b3 n3 X3 k4 hplr hT0 hpk0 hpr0
     go_wp2_with fail
     obtain ⟨w4,hw4⟩ : ∃ w4,(((w3.setCell ⟨w1.heap.size,0,none⟩ (.string p.k)).setCell ⟨w1.heap.size,1,none⟩ (.int .i64 p.g)).setCell ⟨w1.heap.size,2,none⟩ (.slice p.A p.L.length p.c)) = w4 := ⟨_,rfl⟩
     rw [hw4] at n4 xx4 b4 lt4 hpl4 ⊢
     clear hw4 c0 c1 c2 d1 d2 d3 u0 u1 u2 r0 r1 r2
     have PL4 := hid hpl4
     have N4 := hid n4; have X4 := hid xx4; have B4 := hid b4; have LT4 := hid lt4
     have XL4 := hid (IN.out.below (b4.mono (Nat.le_trans HB.out BH.out.size)))
     have MAY := hid (cur_may (l := (muts L).take t) (r := (muts L).drop t) H.out.ok.tbs HU.out (fun y hy => by
      obtain ⟨z,hz,e⟩ := List.mem_map.1 (List.mem_of_mem_take hy)
      rw [<- e]; exact HL.out.comes z hz) (by rw [List.take_append_drop]; exact HC.out) x.tb x.p.k)
     have UPP : Hid ((Pa.mk p.k p.g (ros p.L)).Up /\ tot p.L <= 900000) := hid (by rw [tot_ros]; have := MAY.out; rw [<- PA0.out] at this; exact this)
     have TX := hid (show tot x.p.L <= 1000 by rw [tot_ros]; exact CT.out)
     have XR := hid (show x.p.L.length <= 100 by have := CM.out.rows; unfold mutOf ros at this; simpa using this)
     have BW := hid (Nat.le_trans HB.out (Nat.le_trans BH.out.size b4.size))
     clear hpl4 n4 xx4 b4 lt4 MAY
     by_cases hj : (mrgR (ros p.L) (ros x.p.L)).length <= 100
     ·refine (pjoin_fits p.k x.p.k p.g x.p.g p.A x.p.A p.L.length x.p.L.length p.c x.p.c w4.heap.size B p.L x.p.L w4 PL4.out XL4.out (Nat.le_refl _) BW.out (by have := PR.out; have := XR.out; omega) UPP.out.1 CM.out.up (by have := UPP.out.2; have := TX.out; omega) _ rfl hj).mono ?_
      rintro e w5 ⟨M,A2,n2,c2,rfl,hM,hF⟩
      have b5 := hF.below
      have n5 := (b5.block w1.heap.size LT4.out).trans N4.out
      have y0 := thawed_at (i := 0) n5
      have r0 := cell_at (i := 0) n5 rfl
      have r1 := cell_at (i := 1) n5 rfl
      have r2 := cell_at (i := 2) n5 rfl
      have y1 := thawed_at (i := 1) n5
      have y2 := thawed_at (i := 2) n5
      obtain ⟨rfl,hl6⟩ := fresh_set3 hF LT4.out (.string p.k) (.int .i64 (max p.g x.p.g)) (.slice A2 n2 c2)
      have m6 := set3_block n5 (.string p.k) (.int .i64 (max p.g x.p.g)) (.slice A2 M.length c2)
      have k6 := kept_set3 (w := w5) w1.heap.size (.string p.k) (.int .i64 (max p.g x.p.g)) (.slice A2 M.length c2)
      have x6 := (k6.block wr.heap.size (by have := b5.size; have := LT4.out; have := S1.out; omega) (by have := S1.out; omega)).trans ((b5.block wr.heap.size (by have := LT4.out; have := S1.out; omega)).trans X4.out)
      have b6 : Below wr.heap.size wr (((w5.setCell ⟨w1.heap.size,0,none⟩ (.string p.k)).setCell ⟨w1.heap.size,1,none⟩ (.int .i64 (max p.g x.p.g))).setCell ⟨w1.heap.size,2,none⟩ (.slice A2 M.length c2)) := (B4.out.trans (b5.mono B4.out.size)).trans (k6.below (B := wr.heap.size) (fun k hk => by rw [hk,S1.out]; omega) (by have := B4.out.size; have := b5.size; omega))
      have q0 := cell_at (i := 0) m6 rfl
      have q1 := cell_at (i := 1) m6 rfl
      have q2 := cell_at (i := 2) m6 rfl
      have z0 := cell_at (i := 0) x6 rfl
      have RF := hid (fun k (hk : rowsF A2 M k) => hF.rowsF hk)
      have L6 := hid hl6; have B6 := hid b6; have HM := hid hM
      clear hM hF b5 n5 hl6 k6 b6 x6 m6
      have HKQ := hid (show p.k.size <= 1000 by rw [PK.out]; exact SZ.out.2)
      go_wp2_with fail
      refine (set_t w.heap.size O x.tb ⟨p.k,max p.g x.p.g,M,A2,c2⟩ _ (OH.out.below B6.out) SZ.out.1 ⟨L6.out,HKQ.out⟩ (by have := LN.out.1; have := LN.out.2 x.tb; omega)).mono ?_
      rintro e w7 ⟨rfl,O',hPt⟩
      have hLOOK := hPt.look
      have hq1 : paOf ⟨p.k,max p.g x.p.g,M,A2,c2⟩ = ((look (((muts L).take t).foldl mutT (tbs T)) (mutOf x).1 (mutOf x).2.key).getD ⟨(mutOf x).2.key,0,[]⟩).join (mutOf x).2 := by
       show _ = ((look (((muts L).take t).foldl mutT (tbs T)) x.tb x.p.k).getD ⟨x.p.k,0,[]⟩).join (mutOf x).2
       rw [<- PA0.out]
       show Pa.mk p.k (max p.g x.p.g) (ros M) = Pa.mk p.k (max p.g x.p.g) (mrgR (ros p.L) (ros x.p.L))
       rw [HM.out]
      have hT7 : Turned T O' ((muts L).take (t + 1)) := by
       rw [TK.out]
       exact TH.out.step (q := ⟨p.k,max p.g x.p.g,M,A2,c2⟩) H.out.ok HU.out (fun y hy => by
        obtain ⟨z,hz,e⟩ := List.mem_map.1 (List.mem_of_mem_take hy)
        rw [<- e]; exact HL.out.comes z hz) CM.out PK.out hq1 hLOOK
      have hrw7 : ∀ y ∈ O',∀ p ∈ y.X,p.L.length <= 100 := fun y hy p' hp' => by
       have h9 := hPt.at_.ok.look hy hp'
       rw [hLOOK] at h9
       split at h9
       ·injection h9 with h9
        rw [<- h9]
        show M.length <= 100
        have h8 := congrArg List.length HM.out
        unfold ros at h8
        rw [List.length_map] at h8
        unfold ros at hj
        rw [h8]
        exact hj
       ·obtain ⟨z,hz,_,h8,_⟩ := lookA_mem h9
        exact RW.out z hz p' h8
      have hmf7 : ∀ k,mapsF w.heap.size O' k -> w.heap.size <= k := fun k hk => by
       rcases hPt.step.new k hk with h9 | h9
       ·exact MF.out k h9
       ·have := B6.out.size; have := BH.out.size; omega
      have har7 : ∀ k,allRows O' k -> w.heap.size <= k := fun k hk => by
       obtain ⟨a,b,q',h9,h8⟩ := (allRows_look hPt.at_.ok).1 hk
       rw [hLOOK] at h9
       split at h9
       ·injection h9 with h9
        rw [<- h9] at h8
        have h7 := RF.out k h8
        have := B4.out.size; have := BH.out.size; omega
       ·exact AR.out k ((allRows_look OH.out.ok).2 ⟨a,b,q',h9,h8⟩)
      have hb7 : Below w.heap.size w w7 := (BH.out.trans (B6.out.mono BH.out.size)).trans (hPt.step.kept.below (B := w.heap.size) (fun k hk => MF.out k hk) (by have := B6.out.size; have := BH.out.size; omega))
      have REL : Hid (TbAt w7 w.heap.size O' /\ Turned T O' ((muts L).take (t + 1)) /\ (∀ y ∈ O',∀ p ∈ y.X,p.L.length <= 100) /\ (O'.length <= t + 1 /\ ∀ a,(xsOf O' a).length <= t + 1) /\ (∀ k,mapsF w.heap.size O' k -> w.heap.size <= k) /\ (∀ k,allRows O' k -> w.heap.size <= k) /\ Below w.heap.size w w7 /\ w.heap.size < w7.heap.size) := hid
       ⟨hPt.at_,hT7,hrw7,⟨by have := hPt.len.1; have := LN.out.1; omega,fun a => by have := hPt.len.2 a; have := LN.out.2 a; omega⟩,hmf7,har7,hb7,by have := hPt.step.kept.size; have := B6.out.size; have := LT.out; omega⟩
      clear hPt hLOOK hq1 hT7 hrw7 hmf7 har7 hb7 q0 q1 q2 z0
      go_wp2
      go_roundw
      case rel => exact ⟨t + 1,O',by omega,by go_num,REL.out.1,REL.out.2.1,REL.out.2.2.1,REL.out.2.2.2.1,REL.out.2.2.2.2.1,REL.out.2.2.2.2.2.1,REL.out.2.2.2.2.2.2.1,REL.out.2.2.2.2.2.2.2⟩
      case measure => simp [intOf]; omega
     ·refine (pjoin_over p.k x.p.k p.g x.p.g p.A x.p.A p.L.length x.p.L.length p.c x.p.c w4.heap.size B p.L x.p.L w4 PL4.out XL4.out (Nat.le_refl _) BW.out (by have := PR.out; have := XR.out; omega) UPP.out.1 CM.out.up (by have := UPP.out.2; have := TX.out; omega) _ rfl (by omega)).mono ?_
      rintro e w5 ⟨rfl,b5⟩
      have n5 := (b5.block w1.heap.size LT4.out).trans N4.out
      have y0 := thawed_at (i := 0) n5
      have r0 := cell_at (i := 0) n5 rfl
      have r1 := cell_at (i := 1) n5 rfl
      have r2 := cell_at (i := 2) n5 rfl
      have y1 := thawed_at (i := 1) n5
      have y2 := thawed_at (i := 2) n5
      have k6 := kept_set3 (w := w5) w1.heap.size (.string ⟨#[]⟩) (.int .i64 0) (.slice none 0 0)
      have b6 : Below wr.heap.size wr (((w5.setCell ⟨w1.heap.size,0,none⟩ (.string ⟨#[]⟩)).setCell ⟨w1.heap.size,1,none⟩ (.int .i64 0)).setCell ⟨w1.heap.size,2,none⟩ (.slice none 0 0)) := (B4.out.trans (b5.mono B4.out.size)).trans (k6.below (B := wr.heap.size) (fun k hk => by rw [hk,S1.out]; omega) (by have := B4.out.size; have := b5.size; omega))
      have B6 := hid b6
      have OV : Hid (¬ FitS ((muts L).foldl mutT (tbs T))) := hid (by
       have h9 := over_fits (l := (muts L).take t) (m := mutOf x) (r := (muts L).drop (t + 1)) H.out.ok.tbs HU.out (fun y hy => by
        obtain ⟨z,hz,e⟩ := List.mem_map.1 (List.mem_of_mem_take hy)
        rw [<- e]; exact HL.out.comes z hz) CM.out (by
         have h8 := PA0.out
         show 100 < (((look (((muts L).take t).foldl mutT (tbs T)) x.tb x.p.k).getD ⟨x.p.k,0,[]⟩).join (mutOf x).2).rows.length
         rw [<- h8]
         show 100 < (mrgR (ros p.L) (ros x.p.L)).length
         omega)
       have e9 : (muts L).take t ++ mutOf x :: (muts L).drop (t + 1) = muts L := by
        rw [List.append_cons,<- TK.out,List.take_append_drop]
       rw [e9] at h9
       exact h9)
      clear b5 n5 k6 b6
      go_wp2
      go_ret2
      exact ⟨false,none,rfl,⟨fun h => (by cases h),fun h => absurd h OV.out⟩,fun h => (by cases h),BH.out.trans (B6.out.mono BH.out.size)⟩
   | some y =>
     obtain ⟨hy,hyn⟩ := getK_some e
     have E := hid (show (getK TA.nm O x.tb).map TA.g = some y.g by rw [e]; rfl)
     have I := hid (O1.out.inn y hy)
     have hlo : lookA O x.tb x.p.k = getK PA.k y.X x.p.k := by unfold lookA; rw [xsOf_some e]
     cases e2 : getK PA.k y.X x.p.k with
     | none =>
       have GN := hid e2
       rw [e2] at hlo
       have LO := hid hlo
       clear e e2 hy hyn hlo
       go_wp2_with (first
        | (at_lookup; refine lk_out _ rfl _ _ rfl w.heap.size _ O rfl O1.out.own x.tb rfl HTB.out (some y.g) E.out ?_)
        | (at_lookup; refine lk_none _ rfl _ _ rfl y.g _ y.X rfl I.out x.p.k rfl HPK.out GN.out ?_))
       have W2 := (Below.refl w1.heap.size w1).alloc (Nat.le_refl _) (.cells #[.string ⟨#[]⟩,.int .i64 0,.slice none 0 0] 33)
       have b2 : Below wr.heap.size wr (w1.alloc (.cells #[.string ⟨#[]⟩,.int .i64 0,.slice none 0 0] 33)) := BA.out.trans (W2.mono BA.out.size)
       have T2 := H.out.below (BH.out.trans (b2.mono BH.out.size))
       refine (get_t m T x.tb x.p.k _ T2 HTB.out HPK.out p HP.out).mono ?_
       rintro e w3 ⟨rfl,b3⟩
       have n3 := (b3.block w1.heap.size (by simp)).trans (heap_alloc_new w1 (.cells #[.string ⟨#[]⟩,.int .i64 0,.slice none 0 0] 33))
       have X3 := (b3.block wr.heap.size (by rw [World.size_alloc]; have := S1.out; omega)).trans (new_at NX.out (.cells #[.string ⟨#[]⟩,.int .i64 0,.slice none 0 0] 33))
       have u0 := thawed_at (i := 0) n3
       have r0 := cell_at (i := 0) n3 rfl
       have r1 := cell_at (i := 1) n3 rfl
       have r2 := cell_at (i := 2) n3 rfl
       have u1 := thawed_at (i := 1) n3
       have u2 := thawed_at (i := 2) n3
       have n4 := set3_block n3 (.string p.k) (.int .i64 p.g) (.slice p.A p.L.length p.c)
       have k4 := kept_set3 (w := w3) w1.heap.size (.string p.k) (.int .i64 p.g) (.slice p.A p.L.length p.c)
       have xx4 := (k4.block wr.heap.size (by have := b3.size; rw [World.size_alloc] at this; have := S1.out; omega) (by have := S1.out; omega)).trans X3
       have b4 : Below wr.heap.size wr (((w3.setCell ⟨w1.heap.size,0,none⟩ (.string p.k)).setCell ⟨w1.heap.size,1,none⟩ (.int .i64 p.g)).setCell ⟨w1.heap.size,2,none⟩ (.slice p.A p.L.length p.c)) := (b2.trans (b3.mono b2.size)).trans (k4.below (B := wr.heap.size) (fun k hk => by rw [hk,S1.out]; omega) (by have := b2.size; have := b3.size; omega))
       have lt4 : w1.heap.size < (((w3.setCell ⟨w1.heap.size,0,none⟩ (.string p.k)).setCell ⟨w1.heap.size,1,none⟩ (.int .i64 p.g)).setCell ⟨w1.heap.size,2,none⟩ (.slice p.A p.L.length p.c)).heap.size := by
        have := k4.size; have := b3.size; rw [World.size_alloc] at this; omega
       have hT0 := TH.out.cur H.out.ok x.tb x.p.k
       rw [LO.out,Option.getD_none,HP.out] at hT0
       have hpp : p.k = x.p.k /\ p.L.length <= 100 /\ Lies wr wr.heap.size p.A p.L.length p.c p.L := by
        have h9 := HP.out
        cases e9 : lookA T x.tb x.p.k with
        | none => rw [e9] at h9; rw [<- h9]; exact ⟨rfl,Nat.zero_le _,⟨⟨rfl,fun h => absurd h (by simp [emptyP])⟩,fun y hy => (by cases hy),Nat.le_refl _⟩⟩
        | some p' =>
          rw [e9] at h9
          have h9 : p' = p := h9
          subst h9
          obtain ⟨y9,hy9,_,hp9,hk9⟩ := lookA_mem e9
          have hrr := HF.out.rows (t := x.tb) (k := x.p.k) (p := paOf p') (by rw [look_tbs,e9]; rfl)
          exact ⟨hk9,by unfold paOf ros at hrr; simpa using hrr,((H.out.below BH.out).lies y9 hy9 p' hp9)⟩
       obtain ⟨hpk0,hpr0,hplr⟩ := hpp
       have hpl4 := (hplr.below b4).up b4.size
       have c0 := cell_at (i := 0) n4 rfl
       have c1 := cell_at (i := 1) n4 rfl
       have c2 := cell_at (i := 2) n4 rfl
       have d1 := cell_at (i := 1) xx4 rfl
       have d2 := cell_at (i := 2) xx4 rfl
       have d3 := cell_at (i := 3) xx4 rfl
       have PA0 := hid (hT0 : paOf p = (look (((muts L).take t).foldl mutT (tbs T)) x.tb x.p.k).getD ⟨x.p.k,0,[]⟩)
       have PK := hid (hpk0 : p.k = x.p.k)
       have PR := hid hpr0
       clear W2 b2 T2 b3 n3 X3 k4 hplr hT0 hpk0 hpr0
       go_wp2_with fail
       obtain ⟨w4,hw4⟩ : ∃ w4,(((w3.setCell ⟨w1.heap.size,0,none⟩ (.string p.k)).setCell ⟨w1.heap.size,1,none⟩ (.int .i64 p.g)).setCell ⟨w1.heap.size,2,none⟩ (.slice p.A p.L.length p.c)) = w4 := ⟨_,rfl⟩
       rw [hw4] at n4 xx4 b4 lt4 hpl4 ⊢
       clear hw4 c0 c1 c2 d1 d2 d3 u0 u1 u2 r0 r1 r2
       have PL4 := hid hpl4
       have N4 := hid n4; have X4 := hid xx4; have B4 := hid b4; have LT4 := hid lt4
       have XL4 := hid (IN.out.below (b4.mono (Nat.le_trans HB.out BH.out.size)))
       have MAY := hid (cur_may (l := (muts L).take t) (r := (muts L).drop t) H.out.ok.tbs HU.out (fun y hy => by
        obtain ⟨z,hz,e⟩ := List.mem_map.1 (List.mem_of_mem_take hy)
        rw [<- e]; exact HL.out.comes z hz) (by rw [List.take_append_drop]; exact HC.out) x.tb x.p.k)
       have UPP : Hid ((Pa.mk p.k p.g (ros p.L)).Up /\ tot p.L <= 900000) := hid (by rw [tot_ros]; have := MAY.out; rw [<- PA0.out] at this; exact this)
       have TX := hid (show tot x.p.L <= 1000 by rw [tot_ros]; exact CT.out)
       have XR := hid (show x.p.L.length <= 100 by have := CM.out.rows; unfold mutOf ros at this; simpa using this)
       have BW := hid (Nat.le_trans HB.out (Nat.le_trans BH.out.size b4.size))
       clear hpl4 n4 xx4 b4 lt4 MAY
       by_cases hj : (mrgR (ros p.L) (ros x.p.L)).length <= 100
       ·refine (pjoin_fits p.k x.p.k p.g x.p.g p.A x.p.A p.L.length x.p.L.length p.c x.p.c w4.heap.size B p.L x.p.L w4 PL4.out XL4.out (Nat.le_refl _) BW.out (by have := PR.out; have := XR.out; omega) UPP.out.1 CM.out.up (by have := UPP.out.2; have := TX.out; omega) _ rfl hj).mono ?_
        rintro e w5 ⟨M,A2,n2,c2,rfl,hM,hF⟩
        have b5 := hF.below
        have n5 := (b5.block w1.heap.size LT4.out).trans N4.out
        have y0 := thawed_at (i := 0) n5
        have r0 := cell_at (i := 0) n5 rfl
        have r1 := cell_at (i := 1) n5 rfl
        have r2 := cell_at (i := 2) n5 rfl
        have y1 := thawed_at (i := 1) n5
        have y2 := thawed_at (i := 2) n5
        obtain ⟨rfl,hl6⟩ := fresh_set3 hF LT4.out (.string p.k) (.int .i64 (max p.g x.p.g)) (.slice A2 n2 c2)
        have m6 := set3_block n5 (.string p.k) (.int .i64 (max p.g x.p.g)) (.slice A2 M.length c2)
        have k6 := kept_set3 (w := w5) w1.heap.size (.string p.k) (.int .i64 (max p.g x.p.g)) (.slice A2 M.length c2)
        have x6 := (k6.block wr.heap.size (by have := b5.size; have := LT4.out; have := S1.out; omega) (by have := S1.out; omega)).trans ((b5.block wr.heap.size (by have := LT4.out; have := S1.out; omega)).trans X4.out)
        have b6 : Below wr.heap.size wr (((w5.setCell ⟨w1.heap.size,0,none⟩ (.string p.k)).setCell ⟨w1.heap.size,1,none⟩ (.int .i64 (max p.g x.p.g))).setCell ⟨w1.heap.size,2,none⟩ (.slice A2 M.length c2)) := (B4.out.trans (b5.mono B4.out.size)).trans (k6.below (B := wr.heap.size) (fun k hk => by rw [hk,S1.out]; omega) (by have := B4.out.size; have := b5.size; omega))
        have q0 := cell_at (i := 0) m6 rfl
        have q1 := cell_at (i := 1) m6 rfl
        have q2 := cell_at (i := 2) m6 rfl
        have z0 := cell_at (i := 0) x6 rfl
        have RF := hid (fun k (hk : rowsF A2 M k) => hF.rowsF hk)
        have L6 := hid hl6; have B6 := hid b6; have HM := hid hM
        clear hM hF b5 n5 hl6 k6 b6 x6 m6
        have HKQ := hid (show p.k.size <= 1000 by rw [PK.out]; exact SZ.out.2)
        go_wp2_with fail
        refine (set_t w.heap.size O x.tb ⟨p.k,max p.g x.p.g,M,A2,c2⟩ _ (OH.out.below B6.out) SZ.out.1 ⟨L6.out,HKQ.out⟩ (by have := LN.out.1; have := LN.out.2 x.tb; omega)).mono ?_
        rintro e w7 ⟨rfl,O',hPt⟩
        have hLOOK := hPt.look
        have hq1 : paOf ⟨p.k,max p.g x.p.g,M,A2,c2⟩ = ((look (((muts L).take t).foldl mutT (tbs T)) (mutOf x).1 (mutOf x).2.key).getD ⟨(mutOf x).2.key,0,[]⟩).join (mutOf x).2 := by
         show _ = ((look (((muts L).take t).foldl mutT (tbs T)) x.tb x.p.k).getD ⟨x.p.k,0,[]⟩).join (mutOf x).2
         rw [<- PA0.out]
         show Pa.mk p.k (max p.g x.p.g) (ros M) = Pa.mk p.k (max p.g x.p.g) (mrgR (ros p.L) (ros x.p.L))
         rw [HM.out]
        have hT7 : Turned T O' ((muts L).take (t + 1)) := by
         rw [TK.out]
         exact TH.out.step (q := ⟨p.k,max p.g x.p.g,M,A2,c2⟩) H.out.ok HU.out (fun y hy => by
          obtain ⟨z,hz,e⟩ := List.mem_map.1 (List.mem_of_mem_take hy)
          rw [<- e]; exact HL.out.comes z hz) CM.out PK.out hq1 hLOOK
        have hrw7 : ∀ y ∈ O',∀ p ∈ y.X,p.L.length <= 100 := fun y hy p' hp' => by
         have h9 := hPt.at_.ok.look hy hp'
         rw [hLOOK] at h9
         split at h9
         ·injection h9 with h9
          rw [<- h9]
          show M.length <= 100
          have h8 := congrArg List.length HM.out
          unfold ros at h8
          rw [List.length_map] at h8
          unfold ros at hj
          rw [h8]
          exact hj
         ·obtain ⟨z,hz,_,h8,_⟩ := lookA_mem h9
          exact RW.out z hz p' h8
        have hmf7 : ∀ k,mapsF w.heap.size O' k -> w.heap.size <= k := fun k hk => by
         rcases hPt.step.new k hk with h9 | h9
         ·exact MF.out k h9
         ·have := B6.out.size; have := BH.out.size; omega
        have har7 : ∀ k,allRows O' k -> w.heap.size <= k := fun k hk => by
         obtain ⟨a,b,q',h9,h8⟩ := (allRows_look hPt.at_.ok).1 hk
         rw [hLOOK] at h9
         split at h9
         ·injection h9 with h9
          rw [<- h9] at h8
          have h7 := RF.out k h8
          have := B4.out.size; have := BH.out.size; omega
         ·exact AR.out k ((allRows_look OH.out.ok).2 ⟨a,b,q',h9,h8⟩)
        have hb7 : Below w.heap.size w w7 := (BH.out.trans (B6.out.mono BH.out.size)).trans (hPt.step.kept.below (B := w.heap.size) (fun k hk => MF.out k hk) (by have := B6.out.size; have := BH.out.size; omega))
        have REL : Hid (TbAt w7 w.heap.size O' /\ Turned T O' ((muts L).take (t + 1)) /\ (∀ y ∈ O',∀ p ∈ y.X,p.L.length <= 100) /\ (O'.length <= t + 1 /\ ∀ a,(xsOf O' a).length <= t + 1) /\ (∀ k,mapsF w.heap.size O' k -> w.heap.size <= k) /\ (∀ k,allRows O' k -> w.heap.size <= k) /\ Below w.heap.size w w7 /\ w.heap.size < w7.heap.size) := hid
         ⟨hPt.at_,hT7,hrw7,⟨by have := hPt.len.1; have := LN.out.1; omega,fun a => by have := hPt.len.2 a; have := LN.out.2 a; omega⟩,hmf7,har7,hb7,by have := hPt.step.kept.size; have := B6.out.size; have := LT.out; omega⟩
        clear hPt hLOOK hq1 hT7 hrw7 hmf7 har7 hb7 q0 q1 q2 z0
        go_wp2
        go_roundw
        case rel => exact ⟨t + 1,O',by omega,by go_num,REL.out.1,REL.out.2.1,REL.out.2.2.1,REL.out.2.2.2.1,REL.out.2.2.2.2.1,REL.out.2.2.2.2.2.1,REL.out.2.2.2.2.2.2.1,REL.out.2.2.2.2.2.2.2⟩
        case measure => simp [intOf]; omega
       ·refine (pjoin_over p.k x.p.k p.g x.p.g p.A x.p.A p.L.length x.p.L.length p.c x.p.c w4.heap.size B p.L x.p.L w4 PL4.out XL4.out (Nat.le_refl _) BW.out (by have := PR.out; have := XR.out; omega) UPP.out.1 CM.out.up (by have := UPP.out.2; have := TX.out; omega) _ rfl (by omega)).mono ?_
        rintro e w5 ⟨rfl,b5⟩
        have n5 := (b5.block w1.heap.size LT4.out).trans N4.out
        have y0 := thawed_at (i := 0) n5
        have r0 := cell_at (i := 0) n5 rfl
        have r1 := cell_at (i := 1) n5 rfl
        have r2 := cell_at (i := 2) n5 rfl
        have y1 := thawed_at (i := 1) n5
        have y2 := thawed_at (i := 2) n5
        have k6 := kept_set3 (w := w5) w1.heap.size (.string ⟨#[]⟩) (.int .i64 0) (.slice none 0 0)
        have b6 : Below wr.heap.size wr (((w5.setCell ⟨w1.heap.size,0,none⟩ (.string ⟨#[]⟩)).setCell ⟨w1.heap.size,1,none⟩ (.int .i64 0)).setCell ⟨w1.heap.size,2,none⟩ (.slice none 0 0)) := (B4.out.trans (b5.mono B4.out.size)).trans (k6.below (B := wr.heap.size) (fun k hk => by rw [hk,S1.out]; omega) (by have := B4.out.size; have := b5.size; omega))
        have B6 := hid b6
        have OV : Hid (¬ FitS ((muts L).foldl mutT (tbs T))) := hid (by
         have h9 := over_fits (l := (muts L).take t) (m := mutOf x) (r := (muts L).drop (t + 1)) H.out.ok.tbs HU.out (fun y hy => by
          obtain ⟨z,hz,e⟩ := List.mem_map.1 (List.mem_of_mem_take hy)
          rw [<- e]; exact HL.out.comes z hz) CM.out (by
           have h8 := PA0.out
           show 100 < (((look (((muts L).take t).foldl mutT (tbs T)) x.tb x.p.k).getD ⟨x.p.k,0,[]⟩).join (mutOf x).2).rows.length
           rw [<- h8]
           show 100 < (mrgR (ros p.L) (ros x.p.L)).length
           omega)
         have e9 : (muts L).take t ++ mutOf x :: (muts L).drop (t + 1) = muts L := by
          rw [List.append_cons,<- TK.out,List.take_append_drop]
         rw [e9] at h9
         exact h9)
        clear b5 n5 k6 b6
        go_wp2
        go_ret2
        exact ⟨false,none,rfl,⟨fun h => (by cases h),fun h => absurd h OV.out⟩,fun h => (by cases h),BH.out.trans (B6.out.mono BH.out.size)⟩
     | some p =>
       rw [e2] at hlo
       clear HP
       have hT0 := TH.out.cur H.out.ok x.tb x.p.k
       rw [hlo,Option.getD_some] at hT0
       have hpk0 : p.k = x.p.k := (getK_some e2).2
       have hpr0 := RW.out y hy p (getK_some e2).1
       have hplr := OH.out.lies y hy p (getK_some e2).1
       have GP := hid (show (getK PA.k y.X x.p.k).getD zeroP = p by rw [e2]; rfl)
       have GB := hid (show (getK PA.k y.X x.p.k).isSome = true by rw [e2]; rfl)
       have PA0 := hid (hT0 : paOf p = (look (((muts L).take t).foldl mutT (tbs T)) x.tb x.p.k).getD ⟨x.p.k,0,[]⟩)
       have PK := hid (hpk0 : p.k = x.p.k)
       have PR := hid hpr0
       have PLR := hid hplr
       clear e e2 hy hyn hlo hT0 hpk0 hpr0 hplr
       go_wp2_with (first
        | (at_lookup; refine lk_out _ rfl _ _ rfl w.heap.size _ O rfl O1.out.own x.tb rfl HTB.out (some y.g) E.out ?_)
        | (at_lookup; refine lk_inn _ rfl _ _ rfl y.g _ y.X rfl I.out x.p.k rfl HPK.out p GP.out true GB.out ?_))
       have n4 := heap_alloc_new w1 (.cells #[.string p.k,.int .i64 p.g,.slice p.A p.L.length p.c] 33)
       have xx4 := new_at NX.out (.cells #[.string p.k,.int .i64 p.g,.slice p.A p.L.length p.c] 33)
       have b4 : Below wr.heap.size wr (w1.alloc (.cells #[.string p.k,.int .i64 p.g,.slice p.A p.L.length p.c] 33)) := BA.out.trans (((Below.refl w1.heap.size w1).alloc (Nat.le_refl _) _).mono BA.out.size)
       have lt4 : w1.heap.size < (w1.alloc (.cells #[.string p.k,.int .i64 p.g,.slice p.A p.L.length p.c] 33)).heap.size := by simp
       have hpl4 := (PLR.out.below b4).up b4.size
       obtain ⟨w4,hw4⟩ : ∃ w4,(w1.alloc (.cells #[.string p.k,.int .i64 p.g,.slice p.A p.L.length p.c] 33)) = w4 := ⟨_,rfl⟩
       rw [hw4] at n4 xx4 b4 lt4 hpl4 ⊢
       clear hw4
       have PL4 := hid hpl4
       have N4 := hid n4; have X4 := hid xx4; have B4 := hid b4; have LT4 := hid lt4
       have XL4 := hid (IN.out.below (b4.mono (Nat.le_trans HB.out BH.out.size)))
       have MAY := hid (cur_may (l := (muts L).take t) (r := (muts L).drop t) H.out.ok.tbs HU.out (fun y hy => by
        obtain ⟨z,hz,e⟩ := List.mem_map.1 (List.mem_of_mem_take hy)
        rw [<- e]; exact HL.out.comes z hz) (by rw [List.take_append_drop]; exact HC.out) x.tb x.p.k)
       have UPP : Hid ((Pa.mk p.k p.g (ros p.L)).Up /\ tot p.L <= 900000) := hid (by rw [tot_ros]; have := MAY.out; rw [<- PA0.out] at this; exact this)
       have TX := hid (show tot x.p.L <= 1000 by rw [tot_ros]; exact CT.out)
       have XR := hid (show x.p.L.length <= 100 by have := CM.out.rows; unfold mutOf ros at this; simpa using this)
       have BW := hid (Nat.le_trans HB.out (Nat.le_trans BH.out.size b4.size))
       clear hpl4 n4 xx4 b4 lt4 MAY
       by_cases hj : (mrgR (ros p.L) (ros x.p.L)).length <= 100
       ·refine (pjoin_fits p.k x.p.k p.g x.p.g p.A x.p.A p.L.length x.p.L.length p.c x.p.c w4.heap.size B p.L x.p.L w4 PL4.out XL4.out (Nat.le_refl _) BW.out (by have := PR.out; have := XR.out; omega) UPP.out.1 CM.out.up (by have := UPP.out.2; have := TX.out; omega) _ rfl hj).mono ?_
        rintro e w5 ⟨M,A2,n2,c2,rfl,hM,hF⟩
        have b5 := hF.below
        have n5 := (b5.block w1.heap.size LT4.out).trans N4.out
        have y0 := thawed_at (i := 0) n5
        have r0 := cell_at (i := 0) n5 rfl
        have r1 := cell_at (i := 1) n5 rfl
        have r2 := cell_at (i := 2) n5 rfl
        have y1 := thawed_at (i := 1) n5
        have y2 := thawed_at (i := 2) n5
        obtain ⟨rfl,hl6⟩ := fresh_set3 hF LT4.out (.string p.k) (.int .i64 (max p.g x.p.g)) (.slice A2 n2 c2)
        have m6 := set3_block n5 (.string p.k) (.int .i64 (max p.g x.p.g)) (.slice A2 M.length c2)
        have k6 := kept_set3 (w := w5) w1.heap.size (.string p.k) (.int .i64 (max p.g x.p.g)) (.slice A2 M.length c2)
        have x6 := (k6.block wr.heap.size (by have := b5.size; have := LT4.out; have := S1.out; omega) (by have := S1.out; omega)).trans ((b5.block wr.heap.size (by have := LT4.out; have := S1.out; omega)).trans X4.out)
        have b6 : Below wr.heap.size wr (((w5.setCell ⟨w1.heap.size,0,none⟩ (.string p.k)).setCell ⟨w1.heap.size,1,none⟩ (.int .i64 (max p.g x.p.g))).setCell ⟨w1.heap.size,2,none⟩ (.slice A2 M.length c2)) := (B4.out.trans (b5.mono B4.out.size)).trans (k6.below (B := wr.heap.size) (fun k hk => by rw [hk,S1.out]; omega) (by have := B4.out.size; have := b5.size; omega))
        have q0 := cell_at (i := 0) m6 rfl
        have q1 := cell_at (i := 1) m6 rfl
        have q2 := cell_at (i := 2) m6 rfl
        have z0 := cell_at (i := 0) x6 rfl
        have RF := hid (fun k (hk : rowsF A2 M k) => hF.rowsF hk)
        have L6 := hid hl6; have B6 := hid b6; have HM := hid hM
        clear hM hF b5 n5 hl6 k6 b6 x6 m6
        have HKQ := hid (show p.k.size <= 1000 by rw [PK.out]; exact SZ.out.2)
        go_wp2_with fail
        refine (set_t w.heap.size O x.tb ⟨p.k,max p.g x.p.g,M,A2,c2⟩ _ (OH.out.below B6.out) SZ.out.1 ⟨L6.out,HKQ.out⟩ (by have := LN.out.1; have := LN.out.2 x.tb; omega)).mono ?_
        rintro e w7 ⟨rfl,O',hPt⟩
        have hLOOK := hPt.look
        have hq1 : paOf ⟨p.k,max p.g x.p.g,M,A2,c2⟩ = ((look (((muts L).take t).foldl mutT (tbs T)) (mutOf x).1 (mutOf x).2.key).getD ⟨(mutOf x).2.key,0,[]⟩).join (mutOf x).2 := by
         show _ = ((look (((muts L).take t).foldl mutT (tbs T)) x.tb x.p.k).getD ⟨x.p.k,0,[]⟩).join (mutOf x).2
         rw [<- PA0.out]
         show Pa.mk p.k (max p.g x.p.g) (ros M) = Pa.mk p.k (max p.g x.p.g) (mrgR (ros p.L) (ros x.p.L))
         rw [HM.out]
        have hT7 : Turned T O' ((muts L).take (t + 1)) := by
         rw [TK.out]
         exact TH.out.step (q := ⟨p.k,max p.g x.p.g,M,A2,c2⟩) H.out.ok HU.out (fun y hy => by
          obtain ⟨z,hz,e⟩ := List.mem_map.1 (List.mem_of_mem_take hy)
          rw [<- e]; exact HL.out.comes z hz) CM.out PK.out hq1 hLOOK
        have hrw7 : ∀ y ∈ O',∀ p ∈ y.X,p.L.length <= 100 := fun y hy p' hp' => by
         have h9 := hPt.at_.ok.look hy hp'
         rw [hLOOK] at h9
         split at h9
         ·injection h9 with h9
          rw [<- h9]
          show M.length <= 100
          have h8 := congrArg List.length HM.out
          unfold ros at h8
          rw [List.length_map] at h8
          unfold ros at hj
          rw [h8]
          exact hj
         ·obtain ⟨z,hz,_,h8,_⟩ := lookA_mem h9
          exact RW.out z hz p' h8
        have hmf7 : ∀ k,mapsF w.heap.size O' k -> w.heap.size <= k := fun k hk => by
         rcases hPt.step.new k hk with h9 | h9
         ·exact MF.out k h9
         ·have := B6.out.size; have := BH.out.size; omega
        have har7 : ∀ k,allRows O' k -> w.heap.size <= k := fun k hk => by
         obtain ⟨a,b,q',h9,h8⟩ := (allRows_look hPt.at_.ok).1 hk
         rw [hLOOK] at h9
         split at h9
         ·injection h9 with h9
          rw [<- h9] at h8
          have h7 := RF.out k h8
          have := B4.out.size; have := BH.out.size; omega
         ·exact AR.out k ((allRows_look OH.out.ok).2 ⟨a,b,q',h9,h8⟩)
        have hb7 : Below w.heap.size w w7 := (BH.out.trans (B6.out.mono BH.out.size)).trans (hPt.step.kept.below (B := w.heap.size) (fun k hk => MF.out k hk) (by have := B6.out.size; have := BH.out.size; omega))
        have REL : Hid (TbAt w7 w.heap.size O' /\ Turned T O' ((muts L).take (t + 1)) /\ (∀ y ∈ O',∀ p ∈ y.X,p.L.length <= 100) /\ (O'.length <= t + 1 /\ ∀ a,(xsOf O' a).length <= t + 1) /\ (∀ k,mapsF w.heap.size O' k -> w.heap.size <= k) /\ (∀ k,allRows O' k -> w.heap.size <= k) /\ Below w.heap.size w w7 /\ w.heap.size < w7.heap.size) := hid
         ⟨hPt.at_,hT7,hrw7,⟨by have := hPt.len.1; have := LN.out.1; omega,fun a => by have := hPt.len.2 a; have := LN.out.2 a; omega⟩,hmf7,har7,hb7,by have := hPt.step.kept.size; have := B6.out.size; have := LT.out; omega⟩
        clear hPt hLOOK hq1 hT7 hrw7 hmf7 har7 hb7 q0 q1 q2 z0
        go_wp2
        go_roundw
        case rel => exact ⟨t + 1,O',by omega,by go_num,REL.out.1,REL.out.2.1,REL.out.2.2.1,REL.out.2.2.2.1,REL.out.2.2.2.2.1,REL.out.2.2.2.2.2.1,REL.out.2.2.2.2.2.2.1,REL.out.2.2.2.2.2.2.2⟩
        case measure => simp [intOf]; omega
       ·refine (pjoin_over p.k x.p.k p.g x.p.g p.A x.p.A p.L.length x.p.L.length p.c x.p.c w4.heap.size B p.L x.p.L w4 PL4.out XL4.out (Nat.le_refl _) BW.out (by have := PR.out; have := XR.out; omega) UPP.out.1 CM.out.up (by have := UPP.out.2; have := TX.out; omega) _ rfl (by omega)).mono ?_
        rintro e w5 ⟨rfl,b5⟩
        have n5 := (b5.block w1.heap.size LT4.out).trans N4.out
        have y0 := thawed_at (i := 0) n5
        have r0 := cell_at (i := 0) n5 rfl
        have r1 := cell_at (i := 1) n5 rfl
        have r2 := cell_at (i := 2) n5 rfl
        have y1 := thawed_at (i := 1) n5
        have y2 := thawed_at (i := 2) n5
        have k6 := kept_set3 (w := w5) w1.heap.size (.string ⟨#[]⟩) (.int .i64 0) (.slice none 0 0)
        have b6 : Below wr.heap.size wr (((w5.setCell ⟨w1.heap.size,0,none⟩ (.string ⟨#[]⟩)).setCell ⟨w1.heap.size,1,none⟩ (.int .i64 0)).setCell ⟨w1.heap.size,2,none⟩ (.slice none 0 0)) := (B4.out.trans (b5.mono B4.out.size)).trans (k6.below (B := wr.heap.size) (fun k hk => by rw [hk,S1.out]; omega) (by have := B4.out.size; have := b5.size; omega))
        have B6 := hid b6
        have OV : Hid (¬ FitS ((muts L).foldl mutT (tbs T))) := hid (by
         have h9 := over_fits (l := (muts L).take t) (m := mutOf x) (r := (muts L).drop (t + 1)) H.out.ok.tbs HU.out (fun y hy => by
          obtain ⟨z,hz,e⟩ := List.mem_map.1 (List.mem_of_mem_take hy)
          rw [<- e]; exact HL.out.comes z hz) CM.out (by
           have h8 := PA0.out
           show 100 < (((look (((muts L).take t).foldl mutT (tbs T)) x.tb x.p.k).getD ⟨x.p.k,0,[]⟩).join (mutOf x).2).rows.length
           rw [<- h8]
           show 100 < (mrgR (ros p.L) (ros x.p.L)).length
           omega)
         have e9 : (muts L).take t ++ mutOf x :: (muts L).drop (t + 1) = muts L := by
          rw [List.append_cons,<- TK.out,List.take_append_drop]
         rw [e9] at h9
         exact h9)
        clear b5 n5 k6 b6
        go_wp2
        go_ret2
        exact ⟨false,none,rfl,⟨fun h => (by cases h),fun h => absurd h OV.out⟩,fun h => (by cases h),BH.out.trans (B6.out.mono BH.out.size)⟩
  ·obtain rfl : t = n := by omega
   have hall : (muts L).take t = muts L := List.take_of_length_le (by unfold muts; rw [List.length_map,HLN.out]; exact Nat.le_refl _)
   have TF := hid (show Turned T O (muts L) by have := TH.out; rw [hall] at this; exact this)
   clear hall
   have RM := room_fits H.out.ok OH.out.ok (fun t k => TF.out.hit H.out.ok t k) HF.out (fun t k p hp => by
    have h1 := TF.out t k
    by_cases e : hits (muts L) t k = true
    ·rw [if_pos e,hp] at h1
     cases e2 : lookA O t k with
     | none => rw [e2] at h1; cases h1
     | some q =>
       rw [e2] at h1
       injection h1 with h1
       obtain ⟨y,hy,_,hq,_⟩ := lookA_mem e2
       rw [<- h1]
       show (ros q.L).length <= 100
       unfold ros
       rw [List.length_map]
       exact RW.out y hy q hq
    ·rw [look_miss H.out.ok.tbs (by cases e3 : hits (muts L) t k with | true => exact absurd e3 e | false => rfl)] at hp
     exact HF.out.rows hp)
   have hXT : ∀ t,(xsOf T t).length <= 100 := fun t => by
    have := HF.out.len t
    rw [psOf_tbs] at this
    unfold pas at this
    rwa [List.length_map] at this
   have hTL : T.length <= 8 := by have := HF.out.tabs; unfold tbs at this; rwa [List.length_map] at this
   have HRM := hid RM; have HX := hid hXT
   clear RM hXT
   go_wp2_with fail
   refine (room_t m w.heap.size T O wr (H.out.below BH.out) OH.out (by have := LN.out.1; omega) (fun t => by have := HX.out t; have := LN.out.2 t; omega)).mono ?_
   rintro e w2 ⟨rfl,b2⟩
   have B2 := hid b2
   clear b2
   go_wp2
   go_ret2
   exact ⟨roomB T O,some w.heap.size,rfl,HRM.out,fun hr => ⟨w.heap.size,O,rfl,OH.out.below B2.out,TF.out,MF.out,AR.out⟩,BH.out.trans (B2.out.mono BH.out.size)⟩
abbrev Mt := ByteArray × Pa
def hitM (t k : ByteArray) (m : Mt) : Prop := m.1 = t /\ m.2.key = k
instance (t k : ByteArray) (m : Mt) : Decidable (hitM t k m) := inferInstanceAs (Decidable (_ /\ _))
theorem ok_nil : TbOk [] := ⟨trivial,fun x hx => (by cases hx)⟩
end Go.Proofs.YtmpcnhpdobdmcaaGreatDoor
namespace Go.Proofs.YtmpcnhpdobdmcaaGreatDoor
open Go Go.RowKit
theorem up_nil : TbUp [] := fun t k p hp => by cases hp
section
variable {T : List Tb} {M : List Mt}
theorem since_look (h : TbOk T) (u : TbUp T) (hM : ∀ m ∈ M,m.2.Up /\ 0 <= m.2.gone) {t k : ByteArray} {q : Pa} (hq : look (M.foldl mutT []) t k = some q) :
    ∃ p,look (M.foldl mutT T) t k = some p /\ q.rows.length <= p.rows.length /\ q.tot <= p.tot := by
 have hqu := (up_nil.muts ok_nil hM) t k q hq
 rw [look_muts h u hM,hq]
 cases e : look T t k with
 | none => exact ⟨q,rfl,Nat.le_refl _,Nat.le_refl _⟩
 | some p =>
   have hpu := u t k p e
   have hk : p.key = q.key := by
    unfold look at e hq
    rw [(getK_some e).2,(getK_some hq).2]
   refine ⟨p.join q,rfl,?_⟩
   rw [pa_comm hk hpu.1 hqu.1]
   exact ⟨mrgK_ge _ _,(sumR_mrg _ _).1⟩
theorem since_fits (h : TbOk T) (u : TbUp T) (hM : ∀ m ∈ M,m.2.Up /\ 0 <= m.2.gone) (hf : FitS (M.foldl mutT T)) : FitS (M.foldl mutT []) := by
 have hS := ok_nil.muts M
 have hA := h.muts M
 refine ⟨fun x hx => ⟨?_,fun p hp => ?_⟩,?_⟩
 ·have := riseK_few (key := Pa.key) (l := x.ps) (ks := (psOf (M.foldl mutT T) x.nm).map Pa.key) (hS.ps x hx).1 fun p hp => by
   have hl : look (M.foldl mutT []) x.nm p.key = some p := by unfold look; rw [psOf_some (getK_mem hS.rise hx)]; exact getK_mem (hS.ps x hx).1 hp
   obtain ⟨q,hq,_⟩ := since_look h u hM hl
   refine mem_keys.2 ?_
   rw [show getK Pa.key (psOf (M.foldl mutT T) x.nm) p.key = some q from hq]
   rfl
  rw [List.length_map] at this
  exact Nat.le_trans this (hf.len x.nm)
 ·have hl : look (M.foldl mutT []) x.nm p.key = some p := by unfold look; rw [psOf_some (getK_mem hS.rise hx)]; exact getK_mem (hS.ps x hx).1 hp
  obtain ⟨q,hq,h1,_⟩ := since_look h u hM hl
  exact Nat.le_trans h1 (hf.rows hq)
 ·have := riseK_few (key := Tb.nm) (l := M.foldl mutT []) (ks := (M.foldl mutT T).map Tb.nm) hS.rise fun x hx => by
   obtain ⟨k,p,hp⟩ := hS.there (getK_mem hS.rise hx)
   obtain ⟨q,hq,_⟩ := since_look h u hM hp
   refine mem_keys.2 ((keys_tb hA x.nm).2 ⟨k,by rw [hq]; rfl⟩)
  rw [List.length_map] at this
  exact Nat.le_trans this hf.tabs
end
end Go.Proofs.YtmpcnhpdobdmcaaGreatDoor
