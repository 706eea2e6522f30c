import Derived.Test.YtmpcnhpdobdmcaaGreatDoorLawNotesBC
import Derived.Deep.LoopGhost
open Go.Lib (hid)
set_option linter.unusedVariables false
set_option linter.unusedSimpArgs false
set_option maxHeartbeats 8000000
set_option maxRecDepth 100000
namespace Go.Proofs.YtmpcnhpdobdmcaaGreatDoor
open Go Go.RowKit
def ScanQ (s : List UInt8) (w : World) (e : Ending) (w' : World) : Prop :=
 ∃ A n c l,e = .returned (.tuple #[.slice A n c,.int .i64 ((puts 0 (lists l)).length : Nat)]) /\ Below w.heap.size w w' /\ RdS w' w'.heap.size A n l /\ n <= c /\ c <= maxLen /\ (A = none -> c = 0) /\ Ans s (lists l) /\ ∀ g o,A = some ⟨g,o,none⟩ -> w.heap.size <= g
theorem own_ge_slice {w : World} {B m n c g o : Nat} {t : TypeId} {u : Nat} {row : List Value} (h : w.ownsRow B t u (.slice (some ⟨g,o,none⟩) n c) m row) : B <= g := by
 rcases h.2 with ⟨h2,h3⟩ | ⟨g,cap,cur,h2,h3,_⟩
 ·injection h2 with h2
  cases h2
 ·injection h2 with h2
  injection h2 with h2
  injection h2 with h2
  omega
theorem scanQ_of {s : List UInt8} {w w' : World} {T : List ByteArray} {nT q : Nat} {v : Value} (ho : w'.ownsRow w.heap.size 9 1 v nT (strRow T)) (hb : Below w.heap.size w w') (hq : q = (puts 0 (lists T)).length) (hT : puts 0 (lists T) <+: s) (hs : ∀ b,¬ put q b <+: s.drop q) :
    ScanQ s w (.returned (.tuple #[v,.int .i64 (q : Nat)])) w' := by
 have ho2 := ho
 obtain ⟨A,c,rfl,h1,h2,h3,h4⟩ := RdS.of_own ho
 subst hq
 exact ⟨A,nT,c,T,rfl,hb,h4,h1,h2,h3,ans_of hT hs,fun g o e => by subst e; exact own_ge_slice ho2⟩
theorem at_next {s : List UInt8} {q f p hi : Nat} {o : Bool} {a : List UInt8} (h : Scn s q (f + p) o a) (hf : f % 128 = 0) (hp : 121 < p) (hp2 : p <= 128) (hh : (hi = f + 128 /\ f + 128 <= s.length) \/ (hi = s.length /\ s.length < f + 128))
    (hz : (((s.take hi).drop f).drop p).all (· == 0) = true) : AtBlock s q (f + 128) o a := by
 rcases hh with ⟨h1,h2⟩ | ⟨h1,h2⟩
 ·exact Or.inl (h.blk_next hf hp hp2 h1 h2 hz)
 ·exact Or.inr ⟨by omega,h.blk_last hf hp hp2 h2⟩
theorem scan_anyQ (A : Option Addr) (n c B : Nat) (s : List UInt8) (w : World) (hr : Rd w B A n s) (hB : B <= w.heap.size) (hnc : n <= c) (hcm : c <= maxLen) (hn : n <= 1000000000000) :
    Calls Tryz.prog 44 #[.slice A n c] w (ScanQ s w) := by
 have hl := hr.1
 have HL := hid hl
 have HCM := hid hcm
 unfold maxLen at hcm
 clear hl
 go_enter Tryz.func44,Tryz.ntmps44
 go_wp2
 go_step3
 go_wp2
 go_step3
 go_wp2
 go_loopg [4,5,6,7,8] (n + 256) (fun k v4 v5 v6 v7 v8 wr => ∃ (T : List ByteArray) (nT na q f : Nat) (a : List UInt8) (o : Bool),v6 = .int .i64 q /\ v7 = .bool o /\ v8 = .int .i64 f /\ f <= n + 128 /\ f % 128 = 0 /\ na <= f /\ wr.ownsRow w.heap.size 9 1 v4 nT (strRow T) /\ wr.ownsRow w.heap.size 5 1 v5 na (Lib.byteCells a) /\ Below w.heap.size w wr /\ q = (puts 0 (lists T)).length /\ puts 0 (lists T) <+: s /\ AtBlock s q f o a /\ f + k = n + 256)
 case atStart => exact ⟨[],0,0,0,0,[],true,rfl,rfl,rfl,by omega,rfl,Nat.le_refl _,World.ownsRow_nil _ _ _ _,World.ownsRow_nil _ _ _ _,Below.refl _ _,rfl,List.nil_prefix,Or.inl (Scn.start (Nat.zero_le _)),by omega⟩
 case round =>
  obtain ⟨T,nT,na,q,f,a,o,rfl,rfl,rfl,hf,hf8,hna,hoT,hoa,hb,hq,hT,hat,hfk⟩ := hrel
  have HQ := hid hq
  have HT := hid hT
  have HAT := hid hat
  clear hq hT hat
  by_cases hlt : f < n
  ·have hS : Scn s q f o a := by
    rcases HAT.out with h | ⟨h,_⟩
    ·exact h
    ·rw [HL.out] at h; omega
   have HS := hid hS
   clear hS HAT
   obtain ⟨hi,hhi⟩ : ∃ hi : Nat,(if f + 128 <= n then f + 128 else n) = hi := ⟨_,rfl⟩
   have hhi2 : hi <= n /\ f <= hi /\ hi <= f + 128 := by rw [<- hhi]; split <;> omega
   have hhi3 : (f + 128 <= n /\ hi = f + 128) \/ (n < f + 128 /\ hi = n) := by rw [<- hhi]; split <;> omega
   obtain ⟨h1,h2,h3⟩ := hhi2
   clear hhi
   obtain ⟨Ab,hsb,hrb⟩ := sl_lh hr hnc (f : Int) (hi : Int) f hi rfl rfl h2 h1
   have hhs : (hi = f + 128 /\ f + 128 <= s.length) \/ (hi = s.length /\ s.length < f + 128) := by rw [HL.out]; omega
   have HHS := hid hhs
   clear hhs
   have HFK := hid hfk
   have hgk : n + 256 - f = gk := by omega
   have HGK := hid hgk
   clear hgk hfk
   have hpm : (f + 128 <= n /\ (hi : Int) = (f : Int) + 128) \/ (n < f + 128 /\ (hi : Int) = n) := by omega
   clear hhi3
   rcases hpm with ⟨hfull,hie⟩ | ⟨hfull,hie⟩
   all_goals
    rw [hie] at hsb
    clear hie
    go_wp2_with fail
    go_loopg [4,5,6,7,10] 128 (fun k v4 v5 v6 v7 v10 wx => ∃ (T : List ByteArray) (nT na q p : Nat) (a : List UInt8) (o : Bool),v6 = .int .i64 q /\ v7 = .bool o /\ v10 = .int .i64 p /\ p <= 128 /\ na <= f + p /\ wx.ownsRow w.heap.size 9 1 v4 nT (strRow T) /\ wx.ownsRow w.heap.size 5 1 v5 na (Lib.byteCells a) /\ Below w.heap.size w wx /\ q = (puts 0 (lists T)).length /\ puts 0 (lists T) <+: s /\ Scn s q (f + p) o a /\ p + k = 128)
    case atStart => exact ⟨T,nT,na,q,0,a,o,rfl,rfl,rfl,by omega,by omega,hoT,hoa,hb,HQ.out,HT.out,HS.out,by omega⟩
    case round =>
     obtain ⟨T,nT,na,q,p,a,o,rfl,rfl,rfl,hp,hna2,hoT,hoa,hb2,hq,hT,hS,hpk⟩ := hrel
     have hz2 := hb2.size
     have HQ := hid hq
     have HT := hid hT
     have HS := hid hS
     have hpl : f + p <= n := by have := hS.pl; rw [HL.out] at this; exact this
     have hnT : nT <= n := by
      have h5 := puts_count (lists T) 0
      have h6 := hT.length_le
      have h7 := hoT.1
      unfold strRow at h7
      rw [List.length_map] at h7
      rw [lists_length] at h5
      rw [HL.out] at h6
      omega
     clear hq hT hS
     by_cases hp1 : p <= 121
     ·go_wp2_with fail
      refine (read_any Ab (hi - f) (c - f) p B o _ _ (hrb.below (hb2.mono hB)) (Nat.le_trans hB hz2) (by omega) (by unfold maxLen; omega) (by omega) hp1).mono ?_
      rintro e w1 ⟨x,d,ok,rfl,b1,hfit,hno⟩
      have hb3 := hb2.trans (b1.mono hz2)
      cases ok
      ·have hstop := HS.out.stop (pos_in hf8 hp1).1 fun x d hx => hno rfl x d ((HS.out.blk_fit hf8 hp1 (by have := HHS.out; omega) x d).2 hx)
       have HST := hid hstop
       clear hstop hfit hno
       go_wp2
       rw [Exit.noGoto_ret]
       go_ret2
       exact scanQ_of (own_below hoT b1) hb3 HQ.out HT.out HST.out
      ·have hft := (HS.out.blk_fit hf8 hp1 (by have := HHS.out; omega) x.data.toList d).1 (hfit rfl)
       have hxl := (hfit rfl).2.1
       rw [<- Lib.size_eq] at hxl
       have hx122 : x.size <= 122 := by omega
       have hxp : p + 6 + x.size <= 128 := by omega
       have hg0 := (pos_in hf8 hp1).1
       have hoT1 := own_below hoT b1
       have hoa1 := own_below hoa b1
       clear hfit hno
       cases d
       ·have hS2 := HS.out.piece hg0 hft
        rw [<- Lib.size_eq] at hS2
        have HS2 := hid hS2
        clear hS2 hft
        go_wp2_with (at_builtin; refine list_ex rfl (.tmp 46) (.tmp 47) _ _ rfl _ _ rfl rfl (run_appStr w.heap.size hoa1 x ?s1 ?s2) ?_)
        case s1 => omega
        case s2 => exact hb3.size
        intro v5 w2 ho5 hg5
        have hb4 := grown_own hb3 hoa1 hg5
        have hoT2 := hoT1.kept hg5 (own_apart hoT1 hoa1 (by decide))
        go_wp2
        go_roundg (gk - 6 - x.size)
        case measure => omega
        case rel => exact ⟨T,nT,na + x.size,q,p + (6 + x.size),_,false,rfl,rfl,by go_num,by omega,by omega,hoT2,ho5,hb4,HQ.out,HT.out,by have := HS2.out; rw [show f + p + 6 + x.size = f + (p + (6 + x.size)) from by omega] at this; exact this,by omega⟩
       ·have hd := HS.out.done hg0 hft
        rw [<- Lib.size_eq] at hd
        have HD := hid hd
        clear hd hft
        go_wp2_with (at_builtin; refine list_ex rfl (.tmp 46) (.tmp 47) _ _ rfl _ _ rfl rfl (run_appStr w.heap.size hoa1 x ?s1 ?s2) ?_)
        case s1 => omega
        case s2 => exact hb3.size
        intro v5 w2 ho5 hg5
        have hb4 := grown_own hb3 hoa1 hg5
        have hoT2 := hoT1.kept hg5 (own_apart hoT1 hoa1 (by decide))
        obtain ⟨A5,c5,rfl,k1,k2,k3,k4⟩ := Rd.of_own ho5
        obtain ⟨y,hy⟩ : ∃ y : ByteArray,y.data.toList = a ++ x.data.toList := ⟨⟨(a ++ x.data.toList).toArray⟩,rfl⟩
        have hcv := cv_as k4 c5 y hy
        have hs0 := (sl_h k4 k1 k3 0 0 rfl (Nat.zero_le _)).1
        have HY := hid hy
        clear hy
        have hcell : (w2.alloc (.cells #[.string y] 9)).cell? ⟨w2.heap.size,0,none⟩ = some (.string y) := cell_of_one (heap_alloc_new w2 _)
        have HC2 := hid hcell
        clear hcell
        have hz4 := hb4.size
        go_wp2_with (at_builtin; refine list_ex rfl (.tmp 51) (.tmp 54) _ _ rfl _ _ rfl rfl (run_appText w.heap.size (hoT2.alloc _) y HC2.out ?s3 ?s4) ?_)
        case s3 => omega
        case s4 => simp; omega
        intro v6 w3 ho6 hg6
        have hb5 := grown_own (hb4.alloc hz4 (.cells #[.string y] 9)) (hoT2.alloc _) hg6
        have hoz := own_zero ((ho5.alloc (.cells #[.string y] 9)).kept hg6 (own_apart ho5 hoT2 (by decide)))
        have hnew : f + (p + (6 + x.size)) = (puts 0 (lists (T ++ [y]))).length := by
         rw [lists_snoc,puts_snoc_length,HY.out,<- HQ.out]
         have := HD.out.2
         omega
        have hpre : puts 0 (lists (T ++ [y])) <+: s := by
         rw [lists_snoc,HY.out]
         refine puts_more HT.out ?_
         rw [<- HQ.out]
         exact HD.out.1
        have HNEW := hid hnew
        have HPRE := hid hpre
        clear hnew hpre k1 k2 k3 k4 hcv
        go_wp2
        go_roundg (gk - 6 - x.size)
        case measure => omega
        case rel => exact ⟨T ++ [y],nT + 1,0,f + (p + (6 + x.size)),p + (6 + x.size),[],true,by go_num,rfl,by go_num,by omega,by omega,ho6,hoz,hb5,HNEW.out,HPRE.out,Scn.start (by have := HD.out.1.length_le; have h10 := HS.out.le; have h9 := HD.out.2; have h8 := HL.out; rw [List.length_drop] at this; omega),by omega⟩
     ·obtain ⟨An,hsn,hrn⟩ := sl_l hrb (show hi - f <= c - f by omega) (p : Int) p rfl (by have := HHS.out; have h8 := HL.out; omega)
      go_wp2_with fail
      refine (noughts_any An _ _ B _ _ (hrn.below (hb2.mono hB)) (by omega)).mono ?_
      rintro e w1 ⟨rfl,rfl⟩
      obtain ⟨z,hz⟩ : ∃ z : Bool,(((s.take hi).drop f).drop p).all (· == 0) = z := ⟨_,rfl⟩
      have HZ := hid hz
      rw [hz]
      clear hz
      cases z
      ·have hstop := HS.out.blk_bad hf8 (by omega) hp h3 HZ.out
       have HST := hid hstop
       clear hstop
       go_wp2
       rw [Exit.noGoto_ret]
       go_ret2
       exact scanQ_of hoT hb2 HQ.out HT.out HST.out
      ·have hnx := at_next HS.out hf8 (by omega) hp HHS.out HZ.out
       have HNX := hid hnx
       clear hnx
       go_wp2
       go_roundg (n + 256 - (f + 128))
       case measure => have := HGK.out; have h7 := HFK.out; omega
       case rel => exact ⟨T,nT,na,q,f + 128,a,o,rfl,rfl,by go_num,by omega,by omega,by omega,hoT,hoa,hb2,HQ.out,HT.out,HNX.out,by omega⟩
  ·have hstop : ∀ b,¬ put q b <+: s.drop q := by
    rcases HAT.out with h | ⟨_,h⟩
    ·exact h.stopEnd (by rw [HL.out]; omega)
    ·exact h
   have HST := hid hstop
   clear hstop
   go_wp2
   go_ret2
   exact scanQ_of hoT hb HQ.out HT.out HST.out
end Go.Proofs.YtmpcnhpdobdmcaaGreatDoor
