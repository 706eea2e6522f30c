import Derived.Lib.ItoaNum
set_option linter.unusedVariables false
set_option linter.unusedSimpArgs false
namespace Go.Proofs.YtmpcnhpdobdmcaaGreatDoor
open Go
def be (v : Nat) : Nat -> List UInt8
 | 0 => []
 | n + 1 => UInt8.ofNat (v / 256 ^ n) :: be v n
theorem be_length (v : Nat) : ∀ n,(be v n).length = n
 | 0 => rfl
 | n + 1 => by rw [be,List.length_cons,be_length v n]
def vlF (a : Nat) (l : List UInt8) : Nat := l.foldl (fun a c => a * 256 + c.toNat) a
def vl (l : List UInt8) : Nat := vlF 0 l
theorem vlF_cons (a : Nat) (c : UInt8) (l : List UInt8) : vlF a (c :: l) = vlF (a * 256 + c.toNat) l := rfl
theorem vlF_eq : ∀ (l : List UInt8) (a : Nat),vlF a l = a * 256 ^ l.length + vl l
 | [],a => by simp [vlF,vl]
 | c :: l,a => by
   rw [vlF_cons,vlF_eq l,show vl (c :: l) = vlF (0 * 256 + c.toNat) l from rfl,vlF_eq l (0 * 256 + c.toNat),List.length_cons,Nat.pow_succ]
   rw [Nat.add_mul,Nat.zero_mul,Nat.zero_add,Nat.mul_assoc,Nat.mul_comm 256,Nat.add_assoc]
theorem vl_snoc (l : List UInt8) (c : UInt8) : vl (l ++ [c]) = vl l * 256 + c.toNat := by
 unfold vl vlF
 rw [List.foldl_append]
 rfl
theorem vl_cons (c : UInt8) (l : List UInt8) : vl (c :: l) = c.toNat * 256 ^ l.length + vl l := by
 rw [show vl (c :: l) = vlF (0 * 256 + c.toNat) l from rfl,vlF_eq,Nat.zero_mul,Nat.zero_add]
theorem vl_lt : ∀ l : List UInt8,vl l < 256 ^ l.length
 | [] => by simp [vl,vlF]
 | c :: l => by
   have h1 := vl_lt l
   have h2 := c.toNat_lt
   rw [vl_cons,List.length_cons,Nat.pow_succ]
   have h3 : c.toNat * 256 ^ l.length <= 255 * 256 ^ l.length := Nat.mul_le_mul_right _ (by omega)
   omega
theorem vl_be (v : Nat) : ∀ n,vl (be v n) = v % 256 ^ n
 | 0 => by simp [be,vl,vlF,Nat.mod_one]
 | n + 1 => by
   rw [be,vl_cons,be_length,vl_be v n,UInt8.toNat_ofNat']
   rw [show (2 : Nat) ^ 8 = 256 from rfl,Nat.mul_comm,Nat.pow_succ,Nat.add_comm,Nat.mod_mul]
theorem be_vl : ∀ l : List UInt8,be (vl l) l.length = l
 | [] => rfl
 | c :: l => by
   have h1 := vl_lt l
   have hp : 0 < 256 ^ l.length := Nat.pow_pos (by omega)
   have e : ∀ a b n : Nat,be (a * 256 ^ n + b) n = be b n := by
    intro a b n
    have g : ∀ m,m <= n -> be (a * 256 ^ n + b) m = be b m := by
     intro m
     induction m with
     | zero => intro _; rfl
     | succ m ih =>
       intro hm
       rw [be,be,ih (by omega)]
       congr 1
       apply UInt8.toNat_inj.1
       rw [UInt8.toNat_ofNat',UInt8.toNat_ofNat']
       obtain ⟨k,rfl⟩ : ∃ k,n = m + 1 + k := ⟨n - (m + 1),by omega⟩
       rw [show a * 256 ^ (m + 1 + k) + b = b + 256 ^ m * (256 * (a * 256 ^ k)) from by
        rw [Nat.pow_add,Nat.pow_succ,Nat.add_comm]; congr 1; ac_rfl]
       rw [Nat.add_mul_div_left _ _ (Nat.pow_pos (by omega)),show (2 : Nat) ^ 8 = 256 from rfl,Nat.add_mul_mod_self_left]
    exact g n (Nat.le_refl n)
   rw [List.length_cons,be,vl_cons,e,be_vl l]
   congr 1
   apply UInt8.toNat_inj.1
   rw [UInt8.toNat_ofNat',Nat.mul_comm,Nat.mul_add_div hp,Nat.div_eq_of_lt h1]
   have := c.toNat_lt
   omega
def nb (v : Nat) : Nat := (Lib.bitLen v + 7) / 8
theorem bitLen_facts (v : Nat) (h : v < 18446744073709551616) : Lib.bitLen v <= 64 /\ v < 2 ^ Lib.bitLen v /\ (v ≠ 0 -> 1 <= Lib.bitLen v /\ 2 ^ (Lib.bitLen v - 1) <= v) := by
 by_cases h0 : v = 0
 ·subst h0
  exact ⟨by decide,by decide,fun h => absurd rfl h⟩
 ·have := Lib.bitLenAux_bounds 64 v (by simpa using h) h0
  exact ⟨Lib.bitLen_le v 64 (by omega) (by simpa using h),this.2.2,fun _ => ⟨this.1,this.2.1⟩⟩
theorem nb_facts (v : Nat) (h : v < 18446744073709551616) : nb v <= 8 /\ v < 256 ^ nb v /\ (v ≠ 0 -> 1 <= nb v /\ 256 ^ (nb v - 1) <= v) := by
 obtain ⟨h1,h2,h3⟩ := bitLen_facts v h
 unfold nb
 refine ⟨by omega,?_,fun h0 => ?_⟩
 ·refine Nat.lt_of_lt_of_le h2 ?_
  rw [show (256 : Nat) = 2 ^ 8 from rfl,<- Nat.pow_mul]
  exact Nat.pow_le_pow_right (by omega) (by omega)
 ·obtain ⟨h4,h5⟩ := h3 h0
  refine ⟨by omega,Nat.le_trans ?_ h5⟩
  rw [show (256 : Nat) = 2 ^ 8 from rfl,<- Nat.pow_mul]
  exact Nat.pow_le_pow_right (by omega) (by omega)
theorem nb_zero : nb 0 = 0 := by decide
theorem nb_unique (v k : Nat) (h : v < 18446744073709551616) (h1 : v < 256 ^ k) (h2 : k ≠ 0 -> 256 ^ (k - 1) <= v) : nb v = k := by
 obtain ⟨g1,g2,g3⟩ := nb_facts v h
 by_cases h0 : v = 0
 ·subst h0
  rw [nb_zero]
  by_cases hk : k = 0
  ·exact hk.symm
  ·have := h2 hk
   have hp : 0 < 256 ^ (k - 1) := Nat.pow_pos (by omega)
   omega
 ·obtain ⟨g4,g5⟩ := g3 h0
  rcases Nat.lt_trichotomy (nb v) k with hlt | heq | hgt
  ·have a := h2 (by omega)
   have b : 256 ^ nb v <= 256 ^ (k - 1) := Nat.pow_le_pow_right (by omega) (by omega)
   omega
  ·exact heq
  ·have b : 256 ^ k <= 256 ^ (nb v - 1) := Nat.pow_le_pow_right (by omega) (by omega)
   omega
def numL (v : Nat) : List UInt8 := UInt8.ofNat (nb v) :: be v (nb v)
theorem numL_length (v : Nat) : (numL v).length = nb v + 1 := by rw [numL,List.length_cons,be_length]
def gnum (l : List UInt8) (i : Int) : Nat × Int × Int :=
 if i < 0 \/ (l.length : Int) < i then (0,0,1)
 else match l.drop i.toNat with
 | [] => (0,0,8)
 | c :: r => if 8 < c.toNat \/ (0 < c.toNat /\ r.head? = some 0) then (0,0,6) else if r.length < c.toNat then (0,0,8) else (vl (r.take c.toNat),(i.toNat + 1 + c.toNat : Nat),0)
def tstep (h : Nat) (b : UInt8) : Nat := (h * 257 + b.toNat + 1) % 2147483647
def tgo (h : Nat) (l : List UInt8) : Nat := l.foldl tstep h
def tcut (t : Int) : Nat := if t <= 0 then 0 else if 2147483646 <= t then 2147483646 else t.toNat
theorem tstep_lt (h : Nat) (b : UInt8) : tstep h b < 2147483647 := Nat.mod_lt _ (by omega)
theorem tgo_lt : ∀ (l : List UInt8) (h : Nat),h < 2147483647 -> tgo h l < 2147483647
 | [],_,hh => hh
 | b :: l,h,_ => tgo_lt l (tstep h b) (tstep_lt h b)
theorem tgo_append (h : Nat) (a b : List UInt8) : tgo h (a ++ b) = tgo (tgo h a) b := by unfold tgo; rw [List.foldl_append]
theorem tgo_snoc (h : Nat) (a : List UInt8) (b : UInt8) : tgo h (a ++ [b]) = tstep (tgo h a) b := by rw [tgo_append]; rfl
theorem tgo_take (h : Nat) (l : List UInt8) (k : Nat) (hk : k < l.length) : tgo h (l.take (k + 1)) = tstep (tgo h (l.take k)) l[k] := by
 rw [List.take_succ_eq_append_getElem hk,tgo_snoc]
theorem tcut_lt (t : Int) : tcut t < 2147483647 := by
 unfold tcut
 split
 ·omega
 ·split <;> omega
theorem tcut_of (t : Nat) (h : t < 2147483647) : tcut (t : Nat) = t := by
 unfold tcut
 split
 ·omega
 ·split <;> omega
end Go.Proofs.YtmpcnhpdobdmcaaGreatDoor
namespace Go.Proofs.YtmpcnhpdobdmcaaGreatDoor
open Go
abbrev Bs := List UInt8
abbrev Pz (α : Type) := Bs -> Except Int (α × Bs)
def retP {α : Type} (x : α) : Pz α := fun l => .ok (x,l)
def bindP {α β : Type} (p : Pz α) (f : α -> Pz β) : Pz β := fun l => match p l with
 | .error c => .error c
 | .ok x => f x.1 x.2
def rawP : Pz Nat
 | [] => .error 8
 | c :: r => if 8 < c.toNat \/ (0 < c.toNat /\ r.head? = some 0) then .error 6 else if r.length < c.toNat then .error 8 else .ok (vl (r.take c.toNat),r.drop c.toNat)
theorem rawP_cons (c : UInt8) (r : Bs) : rawP (c :: r) = if 8 < c.toNat \/ (0 < c.toNat /\ r.head? = some 0) then .error 6 else if r.length < c.toNat then .error 8 else .ok (vl (r.take c.toNat),r.drop c.toNat) := rfl
def numP : Pz Int := bindP rawP fun v l => if 1099511627776 < v then .error 6 else .ok ((v : Int),l)
def cntP : Pz Nat := bindP rawP fun v l => if l.length < v then .error 8 else .ok (v,l)
def bodyP : Pz Bs := bindP cntP fun n l => .ok (l.take n,l.drop n)
def txtP : Pz ByteArray := bindP bodyP fun b => retP ⟨b.toArray⟩
def manyP {α : Type} (p : Pz α) : Nat -> Pz (List α)
 | 0 => retP []
 | n + 1 => bindP p fun x => bindP (manyP p n) fun xs => retP (x :: xs)
def listP {α : Type} (p : Pz α) : Pz (List α) := bindP cntP fun n => manyP p n
def nestP {α : Type} (p : Pz α) : Pz α := bindP bodyP fun b l => match p b with
 | .error c => .error c
 | .ok x => if x.2 = [] then .ok (x.1,l) else .error 6
structure Codec {α : Type} (p : Pz α) (e : α -> Bs) (G T : α -> Prop) : Prop where
 back : ∀ {x} (r : Bs),G x -> p (e x ++ r) = .ok (x,r)
 canon : ∀ {l x r},p l = .ok (x,r) -> l = e x ++ r /\ T x
 cut : ∀ {x k},G x -> k < (e x).length -> p ((e x).take k) = .error 8
 errs : ∀ {l c},p l = .error c -> c = 8 \/ c = 6
theorem raw_back (v : Nat) (h : v < 18446744073709551616) (r : Bs) : rawP (numL v ++ r) = .ok (v,r) := by
 obtain ⟨h1,h2,h3⟩ := nb_facts v h
 have e8 : (UInt8.ofNat (nb v)).toNat = nb v := by rw [UInt8.toNat_ofNat',Nat.mod_eq_of_lt (by omega)]
 have hl := be_length v (nb v)
 show rawP (UInt8.ofNat (nb v) :: (be v (nb v) ++ r)) = _
 rw [rawP_cons,e8]
 have hh : ¬ (8 < nb v \/ (0 < nb v /\ (be v (nb v) ++ r).head? = some 0)) := by
  rintro (h4 | ⟨h4,h5⟩)
  ·omega
  ·cases hn : nb v with
   | zero => omega
   | succ m =>
     rw [hn,be,List.cons_append,List.head?_cons] at h5
     injection h5 with h5
     have h0 : v ≠ 0 := fun e => by rw [e,nb_zero] at hn; cases hn
     have h6 := (h3 h0).2
     rw [hn,Nat.add_sub_cancel] at h6
     have h7 : v / 256 ^ m < 256 := by
      rw [Nat.div_lt_iff_lt_mul (Nat.pow_pos (by omega)),Nat.mul_comm]; rw [hn,Nat.pow_succ] at h2; exact h2
     have h8 : 0 < v / 256 ^ m := Nat.div_pos h6 (Nat.pow_pos (by omega))
     have h9 := congrArg UInt8.toNat h5
     rw [UInt8.toNat_ofNat',Nat.mod_eq_of_lt h7] at h9
     have : (0 : UInt8).toNat = 0 := rfl
     omega
 rw [if_neg hh,if_neg (by rw [List.length_append,hl]; omega),List.take_left' hl,List.drop_left' hl,vl_be,Nat.mod_eq_of_lt h2]
theorem raw_canon {l : Bs} {v : Nat} {r : Bs} (h : rawP l = .ok (v,r)) : l = numL v ++ r /\ v < 18446744073709551616 := by
 cases l with
 | nil => cases h
 | cons c t =>
   rw [rawP_cons] at h
   split at h
   ·cases h
   ·rename_i hc
    split at h
    ·cases h
    ·rename_i hl
     injection h with h
     injection h with hv hr
     have h8 : c.toNat <= 8 := by
      rcases Nat.lt_or_ge 8 c.toNat with h1 | h1
      ·exact absurd (Or.inl h1) hc
      ·exact h1
     have htl : (t.take c.toNat).length = c.toNat := by rw [List.length_take]; omega
     have hlt := vl_lt (t.take c.toNat)
     rw [htl,hv] at hlt
     have hv64 : v < 18446744073709551616 := Nat.lt_of_lt_of_le hlt (by
      have : 256 ^ c.toNat <= 256 ^ 8 := Nat.pow_le_pow_right (by omega) h8
      exact this)
     have hnb : nb v = c.toNat := by
      refine nb_unique v c.toNat hv64 hlt fun h0 => ?_
      cases hcn : c.toNat with
      | zero => exact absurd hcn h0
      | succ m =>
        cases t with
        | nil => rw [hcn] at hl; simp at hl
        | cons b t =>
          rw [hcn] at hv
          rw [List.take_succ_cons,vl_cons] at hv
          have hb : b ≠ 0 := fun e => hc (Or.inr ⟨by omega,by rw [e]; rfl⟩)
          have hb2 : 1 <= b.toNat := by
           rcases Nat.eq_zero_or_pos b.toNat with h1 | h1
           ·exact absurd (UInt8.toNat_inj.1 h1) hb
           ·exact h1
          have hml : (t.take m).length = m := by rw [hcn] at hl; simp at hl; rw [List.length_take]; omega
          rw [hml] at hv
          rw [Nat.add_sub_cancel,<- hv]
          have := Nat.mul_le_mul_right (256 ^ m) hb2
          omega
     refine ⟨?_,hv64⟩
     have hbe := be_vl (t.take c.toNat)
     rw [htl,hv] at hbe
     show c :: t = UInt8.ofNat (nb v) :: (be v (nb v) ++ r)
     rw [hnb,hbe,<- hr,List.take_append_drop]
     congr 1
     apply UInt8.toNat_inj.1
     rw [UInt8.toNat_ofNat',Nat.mod_eq_of_lt (by omega)]
theorem raw_cut (v : Nat) (h : v < 18446744073709551616) {k : Nat} (hk : k < (numL v).length) : rawP ((numL v).take k) = .error 8 := by
 cases k with
 | zero => rfl
 | succ k =>
   obtain ⟨h1,h2,h3⟩ := nb_facts v h
   have e8 : (UInt8.ofNat (nb v)).toNat = nb v := by rw [UInt8.toNat_ofNat',Nat.mod_eq_of_lt (by omega)]
   rw [numL_length] at hk
   have hl := be_length v (nb v)
   have hb := raw_back v h []
   rw [List.append_nil] at hb
   show rawP (UInt8.ofNat (nb v) :: (be v (nb v)).take k) = _
   have hb' : rawP (UInt8.ofNat (nb v) :: be v (nb v)) = .ok (v,[]) := hb
   rw [rawP_cons,e8] at hb' ⊢
   have hn : ¬ (8 < nb v \/ (0 < nb v /\ ((be v (nb v)).take k).head? = some 0)) := by
    rintro (h4 | ⟨h4,h5⟩)
    ·omega
    ·refine absurd hb' ?_
     rw [if_pos]
     ·intro h; cases h
     ·refine Or.inr ⟨h4,?_⟩
      cases k with
      | zero => simp at h5
      | succ k =>
        cases hbe : be v (nb v) with
        | nil => rw [hbe] at h5; simp at h5
        | cons b t => rw [hbe,List.take_succ_cons,List.head?_cons] at h5; exact h5
   rw [if_neg hn,if_pos (by rw [List.length_take,hl]; omega)]
theorem raw_errs {l : Bs} {c : Int} (h : rawP l = .error c) : c = 8 \/ c = 6 := by
 cases l with
 | nil => injection h with h; exact Or.inl h.symm
 | cons b t =>
   rw [rawP_cons] at h
   split at h
   ·injection h with h; exact Or.inr h.symm
   ·split at h
    ·injection h with h; exact Or.inl h.symm
    ·cases h
theorem num_codec : Codec numP (fun v => numL v.toNat) (fun v => 0 <= v /\ v <= 1099511627776) (fun v => 0 <= v /\ v <= 1099511627776) where
 back := fun {x} r hx => by
  unfold numP bindP
  rw [raw_back x.toNat (by omega) r]
  show (if 1099511627776 < x.toNat then _ else _) = _
  rw [if_neg (by omega),show ((x.toNat : Nat) : Int) = x by omega]
 canon := fun {l x r} h => by
  unfold numP bindP at h
  split at h
  ·cases h
  ·rename_i y hy
   obtain ⟨v,t⟩ := y
   dsimp only at h
   split at h
   ·cases h
   ·rename_i hn
    injection h with h
    injection h with h1 h2
    have := (raw_canon hy).1
    try simp only at h1 h2 hn
    subst h1; subst h2
    exact ⟨this,by omega,by omega⟩
 cut := fun {x k} hx hk => by
  unfold numP bindP
  rw [raw_cut x.toNat (by omega) hk]
 errs := fun {l c} h => by
  unfold numP bindP at h
  split at h
  ·rename_i e he
   injection h with h
   subst h
   exact raw_errs he
  ·dsimp only at h
   split at h
   ·injection h with h; exact Or.inr h.symm
   ·cases h
section
variable {α β : Type} {p : Pz α} {e : α -> Bs} {G T : α -> Prop}
theorem bind_ok {f : α -> Pz β} {l : Bs} {x : α} {r : Bs} (h : p l = .ok (x,r)) : bindP p f l = f x r := by unfold bindP; rw [h]
theorem bind_err {f : α -> Pz β} {l : Bs} {c : Int} (h : p l = .error c) : bindP p f l = .error c := by unfold bindP; rw [h]
theorem bind_cases {f : α -> Pz β} {l : Bs} {y : Except Int (β × Bs)} (h : bindP p f l = y) : (∃ c,p l = .error c /\ y = .error c) \/ ∃ x r,p l = .ok (x,r) /\ f x r = y := by
 unfold bindP at h
 split at h
 ·rename_i c hc; exact Or.inl ⟨c,hc,h.symm⟩
 ·rename_i x hx; exact Or.inr ⟨x.1,x.2,hx,h⟩
theorem Codec.seq {q : α -> Pz β} {f : α -> β -> Bs} {H U : α -> β -> Prop} (h : Codec p e G T) (k : ∀ x,Codec (q x) (f x) (H x) (U x)) :
    Codec (bindP p fun x => bindP (q x) fun y => retP (x,y)) (fun z => e z.1 ++ f z.1 z.2) (fun z => G z.1 /\ H z.1 z.2) (fun z => T z.1 /\ U z.1 z.2) where
 back := fun {z} r hz => by
  obtain ⟨x,y⟩ := z
  rw [List.append_assoc,bind_ok (h.back _ hz.1),bind_ok ((k x).back r hz.2)]
  rfl
 canon := fun {l z r} hz => by
  rcases bind_cases hz with ⟨c,_,hc⟩ | ⟨x,t,hx,hq⟩
  ·cases hc
  ·rcases bind_cases hq with ⟨c,_,hc⟩ | ⟨y,u,hy,hr⟩
   ·cases hc
   ·injection hr with hr
    injection hr with h1 h2
    subst h1; subst h2
    have a := h.canon hx
    have b := (k x).canon hy
    exact ⟨by rw [a.1,b.1,List.append_assoc],a.2,b.2⟩
 cut := fun {z j} hz hj => by
  obtain ⟨x,y⟩ := z
  rw [List.length_append] at hj
  dsimp only at hj ⊢
  rcases Nat.lt_or_ge j (e x).length with h1 | h1
  ·rw [List.take_append_of_le_length (Nat.le_of_lt h1)]
   exact bind_err (h.cut hz.1 h1)
  ·rw [List.take_append,List.take_of_length_le h1,bind_ok (h.back _ hz.1)]
   exact bind_err ((k x).cut hz.2 (by omega))
 errs := fun {l c} hc => by
  rcases bind_cases hc with ⟨c',h1,h2⟩ | ⟨x,t,hx,hq⟩
  ·injection h2 with h2; subst h2; exact h.errs h1
  ·rcases bind_cases hq with ⟨c',h1,h2⟩ | ⟨y,u,hy,hr⟩
   ·injection h2 with h2; subst h2; exact (k x).errs h1
   ·cases hr
theorem Codec.map (h : Codec p e G T) (g : α -> β) (b : β -> α) (H U : β -> Prop) (hg : ∀ y,H y -> g (b y) = y) (hG : ∀ y,H y -> G (b y)) (hb : ∀ x,T x -> b (g x) = x) (hU : ∀ x,T x -> U (g x)) :
    Codec (bindP p fun x => retP (g x)) (fun y => e (b y)) H U where
 back := fun {y} r hy => by rw [bind_ok (h.back r (hG y hy))]; unfold retP; rw [hg y hy]
 canon := fun {l y r} hl => by
  rcases bind_cases hl with ⟨c,_,hc⟩ | ⟨x,t,hx,hq⟩
  ·cases hc
  ·injection hq with hq
   injection hq with h1 h2
   subst h1; subst h2
   have a := h.canon hx
   exact ⟨by rw [hb x a.2]; exact a.1,hU x a.2⟩
 cut := fun {y k} hy hk => bind_err (h.cut (hG y hy) hk)
 errs := fun {l c} hc => by
  rcases bind_cases hc with ⟨c',h1,h2⟩ | ⟨x,t,hx,hq⟩
  ·injection h2 with h2; subst h2; exact h.errs h1
  ·cases hq
theorem Codec.many (h : Codec p e G T) : ∀ n,Codec (manyP p n) (fun xs => xs.flatMap e) (fun xs => xs.length = n /\ ∀ x ∈ xs,G x) (fun xs => xs.length = n /\ ∀ x ∈ xs,T x)
 | 0 => {
   back := fun {x} r hx => by
    have : x = [] := List.length_eq_zero_iff.1 hx.1
    subst this; rfl
   canon := fun {l x r} hl => by
    injection hl with hl
    injection hl with h1 h2
    subst h1; subst h2
    exact ⟨rfl,rfl,fun x hx => by cases hx⟩
   cut := fun {x k} hx hk => by
    have : x = [] := List.length_eq_zero_iff.1 hx.1
    subst this
    exact absurd hk (by simp)
   errs := fun {l c} hc => by cases hc }
 | n + 1 => {
   back := fun {x} r hx => by
    cases x with
    | nil => exact absurd hx.1 (by simp)
    | cons y ys =>
      rw [List.flatMap_cons,List.append_assoc]
      show bindP p _ _ = _
      rw [bind_ok (h.back _ (hx.2 y (List.mem_cons_self ..))),bind_ok ((Codec.many h n).back r ⟨by simpa using hx.1,fun z hz => hx.2 z (List.mem_cons_of_mem _ hz)⟩)]
      rfl
   canon := fun {l x r} hl => by
    rcases bind_cases hl with ⟨c,_,hc⟩ | ⟨y,t,hy,hq⟩
    ·cases hc
    ·rcases bind_cases hq with ⟨c,_,hc⟩ | ⟨ys,u,hys,hr⟩
     ·cases hc
     ·injection hr with hr
      injection hr with h1 h2
      subst h1; subst h2
      have a := h.canon hy
      have b := (Codec.many h n).canon hys
      refine ⟨by rw [a.1,b.1,List.flatMap_cons,List.append_assoc],by rw [List.length_cons,b.2.1],fun z hz => ?_⟩
      rcases List.mem_cons.1 hz with rfl | hz
      ·exact a.2
      ·exact b.2.2 z hz
   cut := fun {x k} hx hk => by
    cases x with
    | nil => exact absurd hx.1 (by simp)
    | cons y ys =>
      rw [List.flatMap_cons] at hk ⊢
      rw [List.length_append] at hk
      have gy := hx.2 y (List.mem_cons_self ..)
      show bindP p _ _ = _
      rcases Nat.lt_or_ge k (e y).length with h1 | h1
      ·rw [List.take_append_of_le_length (Nat.le_of_lt h1)]
       exact bind_err (h.cut gy h1)
      ·rw [List.take_append,List.take_of_length_le h1,bind_ok (h.back _ gy)]
       exact bind_err ((Codec.many h n).cut ⟨by simpa using hx.1,fun z hz => hx.2 z (List.mem_cons_of_mem _ hz)⟩ (by omega))
   errs := fun {l c} hc => by
    rcases bind_cases hc with ⟨c',h1,h2⟩ | ⟨x,t,hx,hq⟩
    ·injection h2 with h2; subst h2; exact h.errs h1
    ·rcases bind_cases hq with ⟨c',h1,h2⟩ | ⟨y,u,hy,hr⟩
     ·injection h2 with h2; subst h2; exact (Codec.many h n).errs h1
     ·cases hr }
theorem flat_length {xs : List α} {e : α -> Bs} (h : ∀ x ∈ xs,1 <= (e x).length) : xs.length <= (xs.flatMap e).length := by
 induction xs with
 | nil => exact Nat.le_refl _
 | cons x xs ih =>
   rw [List.flatMap_cons,List.length_append,List.length_cons]
   have := h x (List.mem_cons_self ..)
   have := ih fun y hy => h y (List.mem_cons_of_mem _ hy)
   omega
theorem cnt_back (n : Nat) (h : n < 18446744073709551616) {r : Bs} (hr : n <= r.length) : cntP (numL n ++ r) = .ok (n,r) := by
 unfold cntP
 rw [bind_ok (raw_back n h r),if_neg (by omega)]
theorem cnt_short (n : Nat) (h : n < 18446744073709551616) {r : Bs} (hr : r.length < n) : cntP (numL n ++ r) = .error 8 := by
 unfold cntP
 rw [bind_ok (raw_back n h r),if_pos hr]
theorem cnt_cut (n : Nat) (h : n < 18446744073709551616) {k : Nat} (hk : k < (numL n).length) : cntP ((numL n).take k) = .error 8 := bind_err (raw_cut n h hk)
theorem cnt_canon {l : Bs} {n : Nat} {r : Bs} (h : cntP l = .ok (n,r)) : l = numL n ++ r /\ n <= r.length /\ n < 18446744073709551616 := by
 rcases bind_cases h with ⟨c,_,hc⟩ | ⟨x,t,hx,hq⟩
 ·cases hc
 ·split at hq
  ·cases hq
  ·injection hq with hq
   injection hq with h1 h2
   subst h1; subst h2
   exact ⟨(raw_canon hx).1,by omega,(raw_canon hx).2⟩
theorem cnt_errs {l : Bs} {c : Int} (h : cntP l = .error c) : c = 8 \/ c = 6 := by
 rcases bind_cases h with ⟨c',h1,h2⟩ | ⟨x,t,hx,hq⟩
 ·injection h2 with h2; subst h2; exact raw_errs h1
 ·split at hq
  ·injection hq with hq; exact Or.inl hq.symm
  ·cases hq
theorem Codec.list (h : Codec p e G T) (h1 : ∀ x,G x -> 1 <= (e x).length) :
    Codec (listP p) (fun xs => numL xs.length ++ xs.flatMap e) (fun xs => xs.length < 18446744073709551616 /\ ∀ x ∈ xs,G x) (fun xs => xs.length < 18446744073709551616 /\ ∀ x ∈ xs,T x) where
 back := fun {xs} r hx => by
  have hl := flat_length fun x hm => h1 x (hx.2 x hm)
  rw [List.append_assoc]
  unfold listP
  rw [bind_ok (cnt_back xs.length hx.1 (by rw [List.length_append]; omega))]
  exact (h.many xs.length).back r ⟨rfl,hx.2⟩
 canon := fun {l xs r} hl => by
  rcases bind_cases hl with ⟨c,_,hc⟩ | ⟨n,t,hn,hq⟩
  ·cases hc
  ·have a := cnt_canon hn
   have b := (h.many n).canon hq
   exact ⟨by rw [a.1,b.1,<- b.2.1,List.append_assoc],by rw [b.2.1]; exact a.2.2,b.2.2⟩
 cut := fun {xs k} hx hk => by
  rw [List.length_append] at hk
  unfold listP
  rcases Nat.lt_or_ge k (numL xs.length).length with h2 | h2
  ·rw [List.take_append_of_le_length (Nat.le_of_lt h2)]
   exact bind_err (cnt_cut xs.length hx.1 h2)
  ·rw [List.take_append,List.take_of_length_le h2]
   rcases Nat.lt_or_ge ((xs.flatMap e).take (k - (numL xs.length).length)).length xs.length with h3 | h3
   ·exact bind_err (cnt_short xs.length hx.1 h3)
   ·rw [bind_ok (cnt_back xs.length hx.1 h3)]
    exact (h.many xs.length).cut ⟨rfl,hx.2⟩ (by omega)
 errs := fun {l c} hc => by
  rcases bind_cases hc with ⟨c',h2,h3⟩ | ⟨n,t,hn,hq⟩
  ·injection h3 with h3; subst h3; exact cnt_errs h2
  ·exact (h.many n).errs hq
theorem body_codec : Codec bodyP (fun b => numL b.length ++ b) (fun b => b.length < 18446744073709551616) (fun b => b.length < 18446744073709551616) where
 back := fun {b} r hb => by
  rw [List.append_assoc]
  unfold bodyP
  rw [bind_ok (cnt_back b.length hb (by rw [List.length_append]; omega)),List.take_left' rfl,List.drop_left' rfl]
 canon := fun {l b r} hl => by
  rcases bind_cases hl with ⟨c,_,hc⟩ | ⟨n,t,hn,hq⟩
  ·cases hc
  ·injection hq with hq
   injection hq with h1 h2
   have a := cnt_canon hn
   have hlen : b.length = n := by rw [<- h1,List.length_take]; omega
   rw [hlen,<- h1,<- h2,List.append_assoc,List.take_append_drop]
   exact ⟨a.1,a.2.2⟩
 cut := fun {b k} hb hk => by
  rw [List.length_append] at hk
  unfold bodyP
  rcases Nat.lt_or_ge k (numL b.length).length with h2 | h2
  ·rw [List.take_append_of_le_length (Nat.le_of_lt h2)]
   exact bind_err (cnt_cut b.length hb h2)
  ·rw [List.take_append,List.take_of_length_le h2]
   exact bind_err (cnt_short b.length hb (by rw [List.length_take]; omega))
 errs := fun {l c} hc => by
  rcases bind_cases hc with ⟨c',h2,h3⟩ | ⟨n,t,hn,hq⟩
  ·injection h3 with h3; subst h3; exact cnt_errs h2
  ·cases hq
def tE (s : ByteArray) : Bs := numL s.size ++ s.data.toList
theorem txt_codec : Codec txtP tE (fun s => s.size < 18446744073709551616) (fun s => s.size < 18446744073709551616) :=
 (body_codec.map (fun b => (⟨b.toArray⟩ : ByteArray)) (fun s => s.data.toList) (fun s => s.size < 18446744073709551616) (fun s => s.size < 18446744073709551616) (fun y _ => rfl) (fun y hy => hy) (fun x _ => rfl) (fun _ h => h))
theorem Codec.nest (h : Codec p e G T) : Codec (nestP p) (fun x => numL (e x).length ++ e x) (fun x => G x /\ (e x).length < 18446744073709551616) T where
 back := fun {x} r hx => by
  unfold nestP
  rw [bind_ok (body_codec.back r hx.2)]
  have hb := h.back [] hx.1
  rw [List.append_nil] at hb
  show (match p (e x) with | .error c => _ | .ok y => _) = _
  rw [hb]
  exact if_pos rfl
 canon := fun {l x r} hl => by
  rcases bind_cases hl with ⟨c,_,hc⟩ | ⟨b,t,hb,hq⟩
  ·cases hc
  ·have a := body_codec.canon hb
   try dsimp only at hq
   cases hp : p b with
   | error c => rw [hp] at hq; cases hq
   | ok y =>
     rw [hp] at hq
     dsimp only at hq
     split at hq
     ·rename_i h0
      injection hq with hq
      injection hq with h1 h2
      subst h1; subst h2
      have hp' : p b = .ok (y.1,[]) := by rw [hp,<- h0]
      have d := h.canon hp'
      rw [List.append_nil] at d
      exact ⟨by rw [a.1,d.1],d.2⟩
     ·cases hq
 cut := fun {x k} hx hk => bind_err (body_codec.cut hx.2 hk)
 errs := fun {l c} hc => by
  rcases bind_cases hc with ⟨c',h2,h3⟩ | ⟨b,t,hb,hq⟩
  ·injection h3 with h3; subst h3; exact body_codec.errs h2
  ·try dsimp only at hq
   cases hp : p b with
   | error c' => rw [hp] at hq; injection hq with hq; subst hq; exact h.errs hp
   | ok y =>
     rw [hp] at hq
     dsimp only at hq
     split at hq
     ·cases hq
     ·injection hq with hq; exact Or.inr hq.symm
def putP (e : α -> Bs) (ok : α -> Bool) (x : α) : Except Int Bs := if ok x = true then (if 262144 < (e x).length then .error 2 else .ok (e x)) else .error 1
def getP (p : Pz α) (ok : α -> Bool) (l : Bs) : Except Int α := if 262144 < l.length then .error 2 else match p l with
 | .error c => .error c
 | .ok x => if x.2 = [] then (if ok x.1 = true then .ok x.1 else .error 1) else .error 6
variable {ok : α -> Bool}
theorem put_ok {x : α} {b : Bs} (h : putP e ok x = .ok b) : ok x = true /\ (e x).length <= 262144 /\ b = e x := by
 unfold putP at h
 split at h
 ·split at h
  ·cases h
  ·injection h with h
   exact ⟨‹_›,by omega,h.symm⟩
 ·cases h
theorem Codec.same (h : Codec p e G T) {x : α} {b : Bs} (hg : getP p ok b = .ok x) : putP e ok x = .ok b /\ T x := by
 unfold getP at hg
 split at hg
 ·cases hg
 ·rename_i hl
  cases hp : p b with
  | error c => rw [hp] at hg; cases hg
  | ok y =>
    rw [hp] at hg
    dsimp only at hg
    split at hg
    ·rename_i h0
     split at hg
     ·rename_i h1
      injection hg with hg
      subst hg
      have hp' : p b = .ok (y.1,[]) := by rw [hp,<- h0]
      have d := h.canon hp'
      rw [List.append_nil] at d
      unfold putP
      rw [if_pos h1,<- d.1,if_neg hl]
      exact ⟨rfl,d.2⟩
     ·cases hg
    ·cases hg
end
end Go.Proofs.YtmpcnhpdobdmcaaGreatDoor
namespace Go.Proofs.YtmpcnhpdobdmcaaGreatDoor
open Go
def pk (o e : Bool) : UInt8 := if o then (if e then 1 else 2) else if e then 4 else 3
def hdr (k : UInt8) (x : List UInt8) : List UInt8 := [k,UInt8.ofNat x.length]
def mrk (k : UInt8) (x : List UInt8) : List UInt8 := hdr k x ++ be (tgo 1 (hdr k x ++ x)) 4
def pc (k : UInt8) (x : List UInt8) : List UInt8 := mrk k x ++ x
theorem mrk_length (k : UInt8) (x : List UInt8) : (mrk k x).length = 6 := by
 unfold mrk hdr
 rw [List.length_append,be_length]
 rfl
theorem pc_length (k : UInt8) (x : List UInt8) : (pc k x).length = 6 + x.length := by
 unfold pc
 rw [List.length_append,mrk_length]
theorem pk_inj {o e o' e' : Bool} (h : pk o e = pk o' e') : o = o' /\ e = e' := by
 revert h
 cases o <;> cases e <;> cases o' <;> cases e' <;> decide
theorem pc_front {k : UInt8} {x t : List UInt8} (h : pc k x <+: t) : ∃ u,t = k :: UInt8.ofNat x.length :: (be (tgo 1 (hdr k x ++ x)) 4 ++ (x ++ u)) := by
 obtain ⟨u,rfl⟩ := h
 refine ⟨u,?_⟩
 unfold pc mrk
 generalize tgo 1 (hdr k x ++ x) = g
 unfold hdr
 simp only [List.append_assoc,List.cons_append,List.nil_append]
theorem pc_inj {k k' : UInt8} {x x' t : List UInt8} (hx : x.length < 256) (hx' : x'.length < 256) (h : pc k x <+: t) (h' : pc k' x' <+: t) : k = k' /\ x = x' := by
 obtain ⟨u,hu⟩ := pc_front h
 obtain ⟨u',hu'⟩ := pc_front h'
 rw [hu] at hu'
 injection hu' with h1 h2
 injection h2 with h2 h3
 refine ⟨h1,?_⟩
 have hl : x.length = x'.length := by
  have := congrArg UInt8.toNat h2
  simp only [UInt8.toNat_ofNat'] at this
  omega
 have h4 := (List.append_inj h3 (by rw [be_length,be_length])).2
 exact (List.append_inj h4 hl).1
def lay (r : Nat) (o : Bool) (c : List UInt8) : List UInt8 :=
 if h : c.length <= r \/ r = 0 then pc (pk o true) c else pc (pk o false) (c.take r) ++ lay 122 false (c.drop r)
termination_by c.length
decreasing_by simp; omega
theorem lay_short {r : Nat} {o : Bool} {c : List UInt8} (h : c.length <= r) : lay r o c = pc (pk o true) c := by
 rw [lay,dif_pos (Or.inl h)]
theorem lay_long {r : Nat} {o : Bool} {c : List UInt8} (h0 : 0 < r) (h : r < c.length) : lay r o c = pc (pk o false) (c.take r) ++ lay 122 false (c.drop r) := by
 rw [lay,dif_neg (by omega)]
theorem lay_more {r : Nat} {o : Bool} {x c : List UInt8} (h0 : 0 < r) (hx : x.length = r) (hc : c ≠ []) : lay r o (x ++ c) = pc (pk o false) x ++ lay 122 false c := by
 have := List.length_pos_iff.2 hc
 rw [lay_long h0 (by rw [List.length_append]; omega),<- hx,List.take_left,List.drop_left]
theorem lay_length_ge (r : Nat) (o : Bool) (c : List UInt8) : 6 <= (lay r o c).length := by
 rw [lay]
 split
 ·rw [pc_length]; omega
 ·rw [List.length_append,pc_length]; omega
theorem lay_inj : ∀ (n : Nat) (c c' t : List UInt8) (r : Nat) (o : Bool),c.length <= n -> 0 < r -> r <= 122 -> lay r o c <+: t -> lay r o c' <+: t -> c = c'
 | n,c,c',t,r,o,hn,h0,hr,h,h' => by
   by_cases hc : c.length <= r
   ·rw [lay_short hc] at h
    by_cases hc' : c'.length <= r
    ·rw [lay_short hc'] at h'
     exact (pc_inj (by omega) (by omega) h h').2
    ·rw [lay_long h0 (by omega)] at h'
     have := (pc_inj (by omega) (by rw [List.length_take]; omega) h ((List.prefix_append _ _).trans h')).1
     have := (pk_inj this).2
     cases this
   ·rw [lay_long h0 (by omega)] at h
    by_cases hc' : c'.length <= r
    ·rw [lay_short hc'] at h'
     have := (pc_inj (by rw [List.length_take]; omega) (by omega) ((List.prefix_append _ _).trans h) h').1
     have := (pk_inj this).2
     cases this
    ·rw [lay_long h0 (by omega)] at h'
     have e := (pc_inj (by rw [List.length_take]; omega) (by rw [List.length_take]; omega) ((List.prefix_append _ _).trans h) ((List.prefix_append _ _).trans h')).2
     rw [<- e] at h'
     obtain ⟨u,rfl⟩ := h
     rw [List.append_assoc,List.prefix_append_right_inj] at h'
     match n,hn with
     | 0,hn => omega
     | n + 1,hn =>
       have e2 := lay_inj n (c.drop r) (c'.drop r) _ 122 false (by rw [List.length_drop]; omega) (by omega) (by omega) (List.prefix_append _ u) h'
       rw [<- List.take_append_drop r c,e,e2,List.take_append_drop]
def left (p : Nat) : Nat := 128 - p % 128
def gap (p : Nat) : Nat := if left p < 7 then left p else 0
def rm (p : Nat) : Nat := if left p < 7 then 122 else left p - 6
theorem rm_pos (p : Nat) : 0 < rm p /\ rm p <= 122 := by
 unfold rm left
 split <;> omega
def frm (p : Nat) (o : Bool) (c : List UInt8) : List UInt8 := List.replicate (gap p) 0 ++ lay (rm p) o c
def put (p : Nat) (b : List UInt8) : List UInt8 := frm p true b
theorem frm_length_ge (p : Nat) (o : Bool) (c : List UInt8) : 6 <= (frm p o c).length := by
 unfold frm
 rw [List.length_append]
 have := lay_length_ge (rm p) o c
 omega
theorem frm_inj {p : Nat} {o : Bool} {c c' t : List UInt8} (h : frm p o c <+: t) (h' : frm p o c' <+: t) : c = c' := by
 unfold frm at h h'
 obtain ⟨u,rfl⟩ := h
 rw [List.append_assoc,List.prefix_append_right_inj] at h'
 exact lay_inj c.length c c' _ (rm p) o (Nat.le_refl _) (rm_pos p).1 (rm_pos p).2 (List.prefix_append _ u) h'
theorem put_inj {p : Nat} {c c' t : List UInt8} (h : put p c <+: t) (h' : put p c' <+: t) : c = c' := frm_inj h h'
theorem frm_gap (p : Nat) (o : Bool) (c : List UInt8) : frm p o c = List.replicate (gap p) 0 ++ frm (p + gap p) o c := by
 have h1 : gap (p + gap p) = 0 := by
  unfold gap left
  split
  ·rw [if_neg (by omega)]
  ·rw [Nat.add_zero,if_neg (by assumption)]
 have h2 : rm (p + gap p) = rm p := by
  unfold rm gap left
  split
  ·rw [if_neg (by omega)]; omega
  ·rw [Nat.add_zero,if_neg (by assumption)]
 unfold frm
 rw [h1,h2]
 rfl
theorem frm_of {p : Nat} (hg : gap p = 0) (o : Bool) (c : List UInt8) : frm p o c = lay (rm p) o c := by
 unfold frm
 rw [hg]
 rfl
theorem at_full {p : Nat} (h : p % 128 = 0) : gap p = 0 /\ rm p = 122 := by
 unfold gap rm left
 rw [if_neg (by omega),if_neg (by omega)]
 omega
theorem next_full {p : Nat} (hg : gap p = 0) : (p + 6 + rm p) % 128 = 0 /\ rm p = 122 - p % 128 := by
 unfold gap left at hg
 unfold rm left
 split at hg
 ·omega
 ·rw [if_neg (by assumption)]
  omega
def puts (p : Nat) : List (List UInt8) -> List UInt8
 | [] => []
 | b :: l => put p b ++ puts (p + (put p b).length) l
theorem puts_append : ∀ (l m : List (List UInt8)) (p : Nat),puts p (l ++ m) = puts p l ++ puts (p + (puts p l).length) m
 | [],m,p => by simp [puts]
 | b :: l,m,p => by
   rw [List.cons_append,puts,puts_append l m,puts,List.append_assoc,List.length_append,Nat.add_assoc]
theorem puts_snoc (l : List (List UInt8)) (b : List UInt8) : puts 0 (l ++ [b]) = puts 0 l ++ put (puts 0 l).length b := by
 rw [puts_append]
 simp [puts]
theorem puts_comp : ∀ (l m : List (List UInt8)) (p : Nat) (t : List UInt8),puts p l <+: t -> puts p m <+: t -> l <+: m \/ m <+: l
 | [],m,p,t,_,_ => Or.inl (List.nil_prefix)
 | b :: l,[],p,t,_,_ => Or.inr (List.nil_prefix)
 | b :: l,d :: m,p,t,h,h' => by
   rw [puts] at h h'
   obtain rfl : b = d := put_inj ((List.prefix_append _ _).trans h) ((List.prefix_append _ _).trans h')
   obtain ⟨u,rfl⟩ := h
   rw [List.append_assoc,List.prefix_append_right_inj] at h'
   rcases puts_comp l m _ _ (List.prefix_append _ u) h' with h1 | h1
   ·exact Or.inl ((List.prefix_cons_inj b).2 h1)
   ·exact Or.inr ((List.prefix_cons_inj b).2 h1)
def Ans (s : List UInt8) (l : List (List UInt8)) : Prop := puts 0 l <+: s /\ ∀ b,¬ puts 0 (l ++ [b]) <+: s
theorem Ans.front {s : List UInt8} {l m : List (List UInt8)} (h : Ans s m) (hl : puts 0 l <+: s) : l <+: m := by
 rcases puts_comp l m 0 s hl h.1 with h1 | ⟨r,rfl⟩
 ·exact h1
 ·cases r with
  | nil => simp
  | cons b r =>
    refine absurd (List.IsPrefix.trans ?_ hl) (h.2 b)
    rw [show m ++ b :: r = (m ++ [b]) ++ r by simp,puts_append (m ++ [b]) r]
    exact List.prefix_append _ _
theorem Ans.unique {s : List UInt8} {l m : List (List UInt8)} (h : Ans s l) (h' : Ans s m) : l = m :=
 (h'.front h.1).eq_of_length_le (h.front h'.1).length_le
theorem Ans.torn (l : List (List UInt8)) (n k : Nat) (hk : (puts 0 (l.take n)).length <= k) (hn : n < l.length -> k < (puts 0 (l.take (n + 1))).length) : Ans ((puts 0 l).take k) (l.take n) := by
 have e : puts 0 l = puts 0 (l.take n) ++ puts (0 + (puts 0 (l.take n)).length) (l.drop n) := by
  rw [<- puts_append,List.take_append_drop]
 refine ⟨?_,fun b hb => ?_⟩
 ·rw [e,List.take_append]
  rw [List.take_of_length_le hk]
  exact List.prefix_append _ _
 ·have hb2 := hb.trans (List.take_prefix _ _)
  have hlen : (puts 0 (l.take n ++ [b])).length <= k := Nat.le_trans hb.length_le (by rw [List.length_take]; exact Nat.min_le_left _ _)
  by_cases hl : n < l.length
  ·have h3 : puts 0 (l.take (n + 1)) <+: puts 0 l := by
    have : puts 0 l = puts 0 (l.take (n + 1)) ++ puts (0 + (puts 0 (l.take (n + 1))).length) (l.drop (n + 1)) := by
     rw [<- puts_append,List.take_append_drop]
    rw [this]
    exact List.prefix_append _ _
   have h4 := hn hl
   rw [List.take_succ_eq_append_getElem hl] at h3 h4
   rw [puts_snoc] at hb2 h3 hlen h4
   obtain ⟨u,hu⟩ := h3
   rw [<- hu,List.append_assoc,List.prefix_append_right_inj] at hb2
   rw [put_inj hb2 (List.prefix_append _ u)] at hlen
   omega
  ·rw [List.take_of_length_le (by omega)] at hb2
   have h3 := hb2.length_le
   rw [puts_snoc,List.length_append] at h3
   have := frm_length_ge (puts 0 l).length true b
   unfold put at h3
   omega
theorem Ans.all (l : List (List UInt8)) : Ans (puts 0 l) l := by
 have := Ans.torn l l.length (puts 0 l).length (by rw [List.take_length]; exact Nat.le_refl _) (fun h => absurd h (by omega))
 rw [List.take_length,List.take_length] at this
 exact this
def Fit (t : List UInt8) (r : Nat) (o : Bool) (x : List UInt8) (e : Bool) : Prop :=
 pc (pk o e) x <+: t /\ x.length <= r /\ (e = false -> x.length = r) /\ (o = false -> e = true -> x ≠ [])
theorem lay_fit {r : Nat} {o : Bool} {c t : List UInt8} (h0 : 0 < r) (hc : o = false -> c ≠ []) (h : lay r o c <+: t) :
    (Fit t r o c true) \/ (∃ x d,Fit t r o x false /\ c = x ++ d /\ d ≠ []) := by
 by_cases hl : c.length <= r
 ·rw [lay_short hl] at h
  exact Or.inl ⟨h,hl,fun e => (by cases e),fun ho _ => hc ho⟩
 ·rw [lay_long h0 (by omega)] at h
  refine Or.inr ⟨c.take r,c.drop r,⟨(List.prefix_append _ _).trans h,?_,fun _ => ?_,fun _ e => by cases e⟩,(List.take_append_drop r c).symm,?_⟩
  ·rw [List.length_take]; omega
  ·rw [List.length_take]; omega
  ·intro e
   have := congrArg List.length e
   rw [List.length_drop] at this
   simp at this
   omega
structure Scn (s : List UInt8) (q p : Nat) (o : Bool) (a : List UInt8) : Prop where
 le : q <= p
 pl : p <= s.length
 al : o = false -> p % 128 = 0
 eq : ∀ c,(o = false -> c ≠ []) -> put q (a ++ c) = (s.drop q).take (p - q) ++ frm p o c
 only : ∀ b,put q b <+: s.drop q -> ∃ c,b = a ++ c /\ (o = false -> c ≠ [])
theorem Scn.start {s : List UInt8} {q : Nat} (h : q <= s.length) : Scn s q q true [] :=
 ⟨Nat.le_refl _,h,fun e => (by cases e),fun c _ => by rw [Nat.sub_self]; rfl,fun b _ => ⟨b,rfl,fun e => by cases e⟩⟩
section
variable {s : List UInt8} {q p : Nat} {o : Bool} {a : List UInt8}
theorem Scn.split (h : Scn s q p o a) : s.drop q = (s.drop q).take (p - q) ++ s.drop p := by
 have h1 := h.le
 have e : s.drop p = (s.drop q).drop (p - q) := by rw [List.drop_drop]; congr 1; omega
 rw [e,List.take_append_drop]
theorem Scn.has (h : Scn s q p o a) {b : List UInt8} (hb : put q b <+: s.drop q) : ∃ c,b = a ++ c /\ (o = false -> c ≠ []) /\ frm p o c <+: s.drop p := by
 obtain ⟨c,rfl,hc⟩ := h.only b hb
 refine ⟨c,rfl,hc,?_⟩
 rw [h.eq c hc,h.split,List.take_left' (by rw [List.length_take,List.length_drop]; have := h.pl; have := h.le; omega),List.prefix_append_right_inj] at hb
 exact hb
theorem Scn.take_more (h : Scn s q p o a) {z : List UInt8} (hz : z <+: s.drop p) : (s.drop q).take (p + z.length - q) = (s.drop q).take (p - q) ++ z := by
 have h1 := h.le
 have h2 := h.pl
 obtain ⟨u,hu⟩ := hz
 have e : s.drop q = (s.drop q).take (p - q) ++ (z ++ u) := by rw [hu]; exact h.split
 have hl : ((s.drop q).take (p - q)).length = p - q := by rw [List.length_take,List.length_drop]; omega
 have e2 : (s.drop q).take (p + z.length - q) = ((s.drop q).take (p - q) ++ (z ++ u)).take (p + z.length - q) := by rw [<- e]
 rw [e2,List.take_append,hl,List.take_of_length_le (by omega),show p + z.length - q - (p - q) = z.length from by omega,List.take_left]
theorem Scn.zero (h : Scn s q p o a) (ho : o = true) (hz : List.replicate (gap p) 0 <+: s.drop p) : Scn s q (p + gap p) o a := by
 have hl := hz.length_le
 rw [List.length_replicate,List.length_drop] at hl
 have h1 := h.pl
 have h2 := h.le
 refine ⟨by omega,by omega,fun e => (by rw [ho] at e; cases e),fun c hc => ?_,h.only⟩
 have e := h.take_more hz
 rw [List.length_replicate] at e
 rw [h.eq c hc,e,frm_gap p,List.append_assoc]
theorem Scn.piece (h : Scn s q p o a) (hg : gap p = 0) {x : List UInt8} (f : Fit (s.drop p) (rm p) o x false) : Scn s q (p + 6 + x.length) false (a ++ x) := by
 obtain ⟨f1,f2,f3,f4⟩ := f
 have hx := f3 rfl
 have hr := rm_pos p
 have hl := f1.length_le
 rw [pc_length,List.length_drop] at hl
 have h1 := h.pl
 have h2 := h.le
 have hn := (next_full hg).1
 rw [<- hx] at hn
 refine ⟨by omega,by omega,fun _ => hn,fun c hc => ?_,fun b hb => ?_⟩
 ·have hc := hc rfl
  have e := h.take_more f1
  rw [pc_length,<- Nat.add_assoc] at e
  rw [List.append_assoc,h.eq (x ++ c) (fun _ => by simp [hc]),e,frm_of hg,lay_more hr.1 hx hc,frm_of (at_full hn).1,(at_full hn).2,List.append_assoc]
 ·obtain ⟨c,rfl,hc,hf⟩ := h.has hb
  rw [frm_of hg] at hf
  rcases lay_fit hr.1 hc hf with g | ⟨x',d,g,rfl,hd⟩
  ·have := (pc_inj (by omega) (by have := g.2.1; omega) f1 g.1).1
   have := (pk_inj this).2
   cases this
  ·have := (pc_inj (by omega) (by have := g.2.1; omega) f1 g.1).2
   subst this
   exact ⟨d,by simp,fun _ => hd⟩
theorem Scn.done (h : Scn s q p o a) (hg : gap p = 0) {x : List UInt8} (f : Fit (s.drop p) (rm p) o x true) : put q (a ++ x) <+: s.drop q /\ q + (put q (a ++ x)).length = p + 6 + x.length := by
 obtain ⟨f1,f2,f3,f4⟩ := f
 have h1 := h.pl
 have h2 := h.le
 have e : put q (a ++ x) = (s.drop q).take (p - q) ++ pc (pk o true) x := by
  rw [h.eq x (fun ho => f4 ho rfl),frm_of hg,lay_short f2]
 refine ⟨?_,?_⟩
 ·rw [e,h.split,List.take_left' (by rw [List.length_take,List.length_drop]; omega),List.prefix_append_right_inj]
  exact f1
 ·rw [e,List.length_append,List.length_take,List.length_drop,pc_length]
  omega
theorem Scn.stop (h : Scn s q p o a) (hg : gap p = 0) (hf : ∀ x e,¬ Fit (s.drop p) (rm p) o x e) (b : List UInt8) : ¬ put q b <+: s.drop q := by
 intro hb
 obtain ⟨c,rfl,hc,hf2⟩ := h.has hb
 rw [frm_of hg] at hf2
 rcases lay_fit (rm_pos p).1 hc hf2 with g | ⟨x',d,g,rfl,hd⟩
 ·exact hf _ _ g
 ·exact hf _ _ g
theorem Scn.stopZ (h : Scn s q p o a) (hz : ¬ List.replicate (gap p) 0 <+: s.drop p) (b : List UInt8) : ¬ put q b <+: s.drop q := by
 intro hb
 obtain ⟨c,rfl,hc,hf2⟩ := h.has hb
 exact hz ((List.prefix_append _ _).trans hf2)
theorem Scn.stopEnd (h : Scn s q p o a) (hp : s.length <= p) (b : List UInt8) : ¬ put q b <+: s.drop q := by
 intro hb
 obtain ⟨c,rfl,hc,hf2⟩ := h.has hb
 have h1 := hf2.length_le
 have h2 := frm_length_ge p o c
 rw [List.length_drop] at h1
 omega
end
theorem ans_of {s : List UInt8} {l : List (List UInt8)} (h : puts 0 l <+: s) (hb : ∀ b,¬ put (puts 0 l).length b <+: s.drop (puts 0 l).length) : Ans s l := by
 refine ⟨h,fun b h2 => hb b ?_⟩
 obtain ⟨u,rfl⟩ := h
 rw [puts_snoc,List.prefix_append_right_inj] at h2
 rw [List.drop_left]
 exact h2
theorem puts_more {s : List UInt8} {l : List (List UInt8)} {b : List UInt8} (h : puts 0 l <+: s) (hb : put (puts 0 l).length b <+: s.drop (puts 0 l).length) : puts 0 (l ++ [b]) <+: s := by
 obtain ⟨u,rfl⟩ := h
 rw [List.drop_left] at hb
 rw [puts_snoc,List.prefix_append_right_inj]
 exact hb
theorem puts_snoc_length (l : List (List UInt8)) (b : List UInt8) : (puts 0 (l ++ [b])).length = (puts 0 l).length + (put (puts 0 l).length b).length := by
 rw [puts_snoc,List.length_append]
end Go.Proofs.YtmpcnhpdobdmcaaGreatDoor
