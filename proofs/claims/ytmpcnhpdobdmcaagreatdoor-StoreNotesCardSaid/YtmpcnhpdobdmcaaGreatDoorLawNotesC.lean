import Derived.Laws.RangeAny
import Derived.Lib.Strings
set_option linter.unusedVariables false
set_option linter.unusedSimpArgs false
set_option maxRecDepth 100000
namespace Go.Proofs.YtmpcnhpdobdmcaaGreatDoor
open Go
def cpsF (s : ByteArray) : Nat -> Nat -> List (Nat × Nat × Nat)
 | 0,_ => []
 | f + 1,p => if p < s.size then ((Utf8.decode s p).1,p,(Utf8.decode s p).2) :: cpsF s f (p + (Utf8.decode s p).2) else []
def cps (s : ByteArray) : List (Nat × Nat × Nat) := cpsF s s.size 0
theorem width_pos (s : ByteArray) (pos : Nat) (h : pos < s.size) : 1 <= (Utf8.decode s pos).2 := by
 by_cases ha : (s[pos]'h).toNat < 128
 ·rw [decode_ascii s pos h ha]
  exact Nat.le_refl _
 ·exact (decode_high s pos h (by omega)).2
theorem cpsF_end (s : ByteArray) (f p : Nat) (h : ¬ p < s.size) : cpsF s f p = [] := by
 cases f with
 | zero => rfl
 | succ f => simp [cpsF,h]
theorem cpsF_step (s : ByteArray) (f p : Nat) (h : p < s.size) (hf : s.size <= p + f) :
    ∃ g,f = g + 1 /\ cpsF s f p = ((Utf8.decode s p).1,p,(Utf8.decode s p).2) :: cpsF s g (p + (Utf8.decode s p).2) /\ s.size <= p + (Utf8.decode s p).2 + g := by
 have := width_pos s p h
 cases f with
 | zero => omega
 | succ g => exact ⟨g,rfl,by simp [cpsF,h],by omega⟩
theorem get!_eq (s : ByteArray) (i : Nat) (h : i < s.size) : s.data.toList[i]? = some (s.get! i) := by
 have h' : i < s.data.size := h
 rw [Array.getElem?_toList,Array.getElem?_eq_getElem h']
 simp only [ByteArray.get!]
 rw [getElem!_pos s.data i h']
theorem hasPrefix3 (s : ByteArray) (p : Nat) (a b c : UInt8) :
    Lib.hasPrefix (s.data.toList.drop p) [a,b,c] = (decide (p + 2 < s.size) && (s.get! p == a) && (s.get! (p + 1) == b) && (s.get! (p + 2) == c)) := by
 have hsz : s.data.toList.length = s.size := by rw [Lib.size_eq]
 by_cases h : p + 2 < s.size
 ·have e0 := get!_eq s p (by omega)
  have e1 := get!_eq s (p + 1) (by omega)
  have e2 := get!_eq s (p + 2) (by omega)
  obtain ⟨l,hl⟩ : ∃ l,s.data.toList.drop p = s.get! p :: s.get! (p + 1) :: s.get! (p + 2) :: l := by
   refine ⟨s.data.toList.drop (p + 3),?_⟩
   rw [List.getElem?_eq_getElem (by omega)] at e0 e1 e2
   rw [List.drop_eq_getElem_cons (by omega),List.drop_eq_getElem_cons (by omega),List.drop_eq_getElem_cons (by omega)]
   simp only [Option.some.injEq] at e0 e1 e2
   rw [e0,e1,e2]
  rw [hl]
  simp only [Lib.hasPrefix,List.isPrefixOf,h,decide_true,Bool.true_and,Bool.and_true]
  rw [BEq.comm (a := a),BEq.comm (a := b),BEq.comm (a := c),Bool.and_assoc]
 ·have hd : (s.data.toList.drop p).length < 3 := by rw [List.length_drop]; omega
  rw [show decide (p + 2 < s.size) = false from by simp; omega]
  simp only [Bool.false_and,Lib.hasPrefix]
  rw [Bool.eq_false_iff]
  intro hc
  have := (List.isPrefixOf_iff_prefix.1 hc).length_le
  simp only [List.length_cons,List.length_nil] at this
  omega
def bt (s : ByteArray) (i : Nat) : Nat := (s.get! i).toNat
def goesOn (s : ByteArray) (i : Nat) : Prop := i < s.size /\ 128 <= bt s i /\ bt s i < 192
theorem bt_lt (s : ByteArray) (i : Nat) : bt s i < 256 := (s.get! i).toNat_lt
theorem decode_cases (s : ByteArray) (p : Nat) :
    (bt s p < 128 /\ Utf8.decode s p = (bt s p,1)) \/
    (194 <= bt s p /\ bt s p < 224 /\ goesOn s (p + 1) /\ Utf8.decode s p = ((bt s p % 32) * 64 + bt s (p + 1) % 64,2)) \/
    (224 <= bt s p /\ bt s p < 240 /\ goesOn s (p + 1) /\ goesOn s (p + 2) /\ (∃ c,c = (bt s p % 16) * 4096 + (bt s (p + 1) % 64) * 64 + bt s (p + 2) % 64 /\ 2048 <= c /\ ¬ (55296 <= c /\ c < 57344) /\ Utf8.decode s p = (c,3))) \/
    (240 <= bt s p /\ bt s p < 248 /\ goesOn s (p + 1) /\ goesOn s (p + 2) /\ goesOn s (p + 3) /\ (∃ c,c = (bt s p % 8) * 262144 + (bt s (p + 1) % 64) * 4096 + (bt s (p + 2) % 64) * 64 + bt s (p + 3) % 64 /\ 65536 <= c /\ c <= 1114111 /\ Utf8.decode s p = (c,4))) \/
    (128 <= bt s p /\ Utf8.decode s p = (65533,1) /\
      ¬ (194 <= bt s p /\ bt s p < 224 /\ goesOn s (p + 1)) /\
      ¬ (224 <= bt s p /\ bt s p < 240 /\ goesOn s (p + 1) /\ goesOn s (p + 2) /\ 2048 <= (bt s p % 16) * 4096 + (bt s (p + 1) % 64) * 64 + bt s (p + 2) % 64 /\
          ¬ (55296 <= (bt s p % 16) * 4096 + (bt s (p + 1) % 64) * 64 + bt s (p + 2) % 64 /\ (bt s p % 16) * 4096 + (bt s (p + 1) % 64) * 64 + bt s (p + 2) % 64 < 57344)) /\
      ¬ (240 <= bt s p /\ bt s p < 248 /\ goesOn s (p + 1) /\ goesOn s (p + 2) /\ goesOn s (p + 3) /\
          65536 <= (bt s p % 8) * 262144 + (bt s (p + 1) % 64) * 4096 + (bt s (p + 2) % 64) * 64 + bt s (p + 3) % 64 /\
          (bt s p % 8) * 262144 + (bt s (p + 1) % 64) * 4096 + (bt s (p + 2) % 64) * 64 + bt s (p + 3) % 64 <= 1114111)) := by
 have t0 := bt_lt s p
 have t1 := bt_lt s (p + 1)
 have t2 := bt_lt s (p + 2)
 have t3 := bt_lt s (p + 3)
 obtain ⟨d,e⟩ : ∃ d,d = Utf8.decode s p := ⟨_,rfl⟩
 rw [<- e]
 have b0 : bt s p = (s.get! (p + 0)).toNat := rfl
 have b1 : bt s (p + 1) = (s.get! (p + 1)).toNat := rfl
 have b2 : bt s (p + 2) = (s.get! (p + 2)).toNat := rfl
 have b3 : bt s (p + 3) = (s.get! (p + 3)).toNat := rfl
 unfold goesOn
 unfold Utf8.decode at e
 dsimp only at e
 generalize bt s p = c0 at *
 generalize bt s (p + 1) = c1 at *
 generalize bt s (p + 2) = c2 at *
 generalize bt s (p + 3) = c3 at *
 split at e
 ·rename_i h0
  left; exact ⟨by omega,by rw [e,b0]⟩
 rename_i h0
 split at e
 ·rename_i h1
  simp only [Bool.and_eq_true,beq_iff_eq,decide_eq_true_eq] at h1
  split at e
  ·right; left; exact ⟨by omega,by omega,by omega,by rw [e,b0,b1]⟩
  ·right; right; right; right; exact ⟨by omega,e,by omega,by omega,by omega⟩
 rename_i h1
 simp only [Bool.and_eq_true,beq_iff_eq,decide_eq_true_eq] at h1
 split at e
 ·rename_i h2
  simp only [Bool.and_eq_true,beq_iff_eq,decide_eq_true_eq] at h2
  split at e
  ·rename_i h3
   simp only [Utf8.valid,Bool.and_eq_true,Bool.or_eq_true,decide_eq_true_eq] at h3
   right; right; left; exact ⟨by omega,by omega,by omega,by omega,_,rfl,by omega,by omega,by rw [e,b0,b1,b2]⟩
  ·rename_i h3
   simp only [Utf8.valid,Bool.and_eq_true,Bool.or_eq_true,decide_eq_true_eq] at h3
   right; right; right; right; exact ⟨by omega,e,by omega,by omega,by omega⟩
 rename_i h2
 simp only [Bool.and_eq_true,beq_iff_eq,decide_eq_true_eq] at h2
 split at e
 ·rename_i h3
  simp only [Bool.and_eq_true,beq_iff_eq,decide_eq_true_eq] at h3
  split at e
  ·rename_i h4
   simp only [Utf8.valid,Bool.and_eq_true,Bool.or_eq_true,decide_eq_true_eq] at h4
   right; right; right; left; exact ⟨by omega,by omega,by omega,by omega,by omega,_,rfl,by omega,by omega,by rw [e,b0,b1,b2,b3]⟩
  ·rename_i h4
   simp only [Utf8.valid,Bool.and_eq_true,Bool.or_eq_true,decide_eq_true_eq] at h4
   right; right; right; right; exact ⟨by omega,e,by omega,by omega,by omega⟩
 rename_i h3
 simp only [Bool.and_eq_true,beq_iff_eq,decide_eq_true_eq] at h3
 right; right; right; right; exact ⟨by omega,e,by omega,by omega,by omega⟩
theorem right_width (s : ByteArray) (p : Nat) (hr : (Utf8.decode s p).1 = 65533) :
    Lib.hasPrefix (s.data.toList.drop p) [239,191,189] = decide ((Utf8.decode s p).2 = 3) := by
 rw [hasPrefix3]
 have hb : ∀ (i n : Nat),n < 256 -> (s.get! i == UInt8.ofNat n) = decide (bt s i = n) := by
  intro i n hn
  rw [Bool.eq_iff_iff]
  simp only [beq_iff_eq,decide_eq_true_eq]
  rw [<- UInt8.toNat_inj]
  simp [Nat.mod_eq_of_lt hn,bt]
 have e0 := hb p 239 (by omega)
 have e1 := hb (p + 1) 191 (by omega)
 have e2 := hb (p + 2) 189 (by omega)
 rw [show (239 : UInt8) = UInt8.ofNat 239 from rfl,show (191 : UInt8) = UInt8.ofNat 191 from rfl,show (189 : UInt8) = UInt8.ofNat 189 from rfl,e0,e1,e2]
 clear e0 e1 e2 hb
 have t0 := bt_lt s p
 have t1 := bt_lt s (p + 1)
 have t2 := bt_lt s (p + 2)
 rw [Bool.eq_iff_iff]
 simp only [Bool.and_eq_true,decide_eq_true_eq]
 have hc := decode_cases s p
 unfold goesOn at hc
 rcases hc with ⟨h0,e⟩ | ⟨h0,h1,h2,e⟩ | ⟨h0,h1,h2,h3,c,hc,h4,h5,e⟩ | ⟨h0,h1,h2,h3,h4,c,hc,h5,h6,e⟩ | ⟨h0,e,h1,h2,h3⟩
 all_goals
  rw [e] at hr ⊢
  dsimp only at hr ⊢
  constructor
  ·intro hx; omega
  ·intro hx; first | omega | (exact absurd hx (by omega))
def rightB (c : Nat × Nat × Nat) : Bool := !(c.1 == 65533) || decide (c.2.2 = 3)
end Go.Proofs.YtmpcnhpdobdmcaaGreatDoor
