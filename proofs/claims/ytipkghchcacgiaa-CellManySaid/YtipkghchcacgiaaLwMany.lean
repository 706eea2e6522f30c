/-
  The walk of CellMany.
-/
import Derived.Test.YtipkghchcacgiaaMany
import Derived.Deep.RegionWith
import Derived.Deep.DeepCutAuto
set_option linter.unusedVariables false
set_option linter.unusedSimpArgs false
namespace Go.Proofs.Ytipkghchcacgiaa
open Go Go.RowKit Go.Joins

theorem many_long (A : Option Addr) (n c : Nat) (l : List Int) (by_ : Int) (w : World) (h : 60 < n) :
    Calls Try.prog 7 #[.slice A n c, .int .i64 by_] w fun e w' => e = .returned (.bool true) ∧ Below w.heap.size w w' := by
  have d1 : decide ((60 : Int) < (n : Nat)) = true := by simp; omega
  go_enter Try.func7, Try.ntmps7
  go_wp2_with fail
  refine (awake_any _).mono ?_
  rintro x w2 ⟨rfl, b2⟩
  go_wp2
  go_ret
  exact ⟨rfl, b2⟩

/-- What has been made of the first k numbers. -/
structure Made (w wr : World) (q n c : Nat) (l : List Int) (k : Nat) (mv : Value) (C : List Ce) : Prop where
  left : ∃ A', LAt wr q A' (n - k) (c - k) ∧ RdZ wr w.heap.size A' (n - k) (l.drop k)
  own : wr.ownsRow w.heap.size 23 4 mv k (C.flatMap Ce.cs)
  ok : ∀ x ∈ C, Ce.ok x = true ∧ x.s.size ≤ 1
  off : mv.ownBlock ≠ some q
  below : Below w.heap.size w wr
theorem Made.len {w wr : World} {q n c : Nat} {l : List Int} {k : Nat} {mv : Value} {C : List Ce} (h : Made w wr q n c l k mv C) : C.length = k := by
  have := h.own.1
  rw [cs_length] at this
  omega

theorem made_on {w wr w1 w3 : World} {n c k : Nat} {l : List Int} {v v3 : Value} {C : List Ce} {x : Ce} {A2 : Option Addr} {o : Obj} (h : Made w wr w.heap.size n c l k v C) (hk : k < n) (hok : Ce.ok x = true) (hs : x.s.size ≤ 1)
    (hL : LAt w1 w.heap.size A2 (n - k - 1) (c - k - 1)) (hZ : RdZ w1 w.heap.size A2 (n - k - 1) (l.drop (k + 1))) (kp : Kept (fun j => j = w.heap.size) wr w1) (ho : w3.ownsRow w.heap.size 23 4 v3 (k + 1) (C.flatMap Ce.cs ++ x.cs))
    (hg : (w1.alloc o).grownBy w3 v.ownBlock) (hloc : v3.ownBlock = v.ownBlock ∨ v3.ownBlock = some (w1.heap.size + 1)) : Made w w3 w.heap.size n c l (k + 1) v3 (C ++ [x]) := by
  have hq : w.heap.size < w1.heap.size := (Array.getElem?_eq_some_iff.1 hL).1
  have k3 : Kept (fun j => v.ownBlock = some j) w1 w3 := (Kept.alloc _ w1 o).trans (Kept.of_grown hg fun j hj => hj) fun j hj => Or.inl hj
  have hlow : ∀ j, v.ownBlock = some j → w.heap.size ≤ j := fun j hj => (h.own.lt j hj).1
  have b3 : Below w.heap.size w1 w3 := k3.below hlow (by omega)
  refine ⟨⟨A2, ?_, ?_⟩, by rw [List.flatMap_append, show [x].flatMap Ce.cs = x.cs by simp]; exact ho, ?_, ?_, ?_⟩
  · rw [show n - (k + 1) = n - k - 1 by omega, show c - (k + 1) = c - k - 1 by omega]
    exact (k3.block _ hq h.off).trans hL
  · rw [show n - (k + 1) = n - k - 1 by omega]
    exact hZ.below b3
  · intro y hy
    rcases List.mem_append.1 hy with h1 | h1
    · exact h.ok y h1
    · rw [List.mem_singleton.1 h1]
      exact ⟨hok, hs⟩
  · rcases hloc with e | e
    · rw [e]; exact h.off
    · rw [e]
      intro e2
      injection e2 with e2
      omega
  · exact (h.below.trans (kp.below (fun j hj => by omega) h.below.size)).trans b3
/-- Two cells of the call's own, behind all that was there in wr. -/
structure Two2 (wr wx : World) (x y : Ce) : Prop where
  one : wx.heap[wr.heap.size]? = some (.cells #[.string x.s, .bool x.d, .int .i64 x.a, .int .i64 x.e] 23 (0, 0))
  two : wx.heap[wr.heap.size + 1]? = some (.cells #[.string y.s, .bool y.d, .int .i64 y.a, .int .i64 y.e] 23 (0, 0))
  below : Below wr.heap.size wr wx
theorem Two2.new (wr : World) : Two2 wr ((wr.alloc (.cells #[.string ⟨#[]⟩, .bool false, .int .i64 0, .int .i64 0] 23)).alloc (.cells #[.string ⟨#[]⟩, .bool false, .int .i64 0, .int .i64 0] 23)) zeroC zeroC := by
  have h := heap_alloc_new (wr.alloc (.cells #[.string ⟨#[]⟩, .bool false, .int .i64 0, .int .i64 0] 23)) (.cells #[.string ⟨#[]⟩, .bool false, .int .i64 0, .int .i64 0] 23)
  rw [World.size_alloc] at h
  exact ⟨at_new (heap_alloc_new wr _) _, h, ((Below.refl _ wr).alloc (Nat.le_refl _) _).alloc (by simp) _⟩
theorem Two2.on {wr wx wy : World} {x y : Ce} (h : Two2 wr wx x y) (b : Below wx.heap.size wx wy) : Two2 wr wy x y :=
  ⟨(b.block _ (Array.getElem?_eq_some_iff.1 h.one).1).trans h.one, (b.block _ (Array.getElem?_eq_some_iff.1 h.two).1).trans h.two, h.below.trans (b.mono h.below.size)⟩
theorem Two2.first {wr wx : World} {x y z : Ce} (h : Two2 wr wx x y) : Two2 wr ((((wx.setCell ⟨wr.heap.size, 0, none⟩ (.string z.s)).setCell ⟨wr.heap.size, 1, none⟩ (.bool z.d)).setCell ⟨wr.heap.size, 2, none⟩ (.int .i64 z.a)).setCell ⟨wr.heap.size, 3, none⟩ (.int .i64 z.e)) z y := by
  have h1 := block_setCell (i := 3) (block_setCell (i := 2) (block_setCell (i := 1) (block_setCell (i := 0) h.one (.string z.s)) (.bool z.d)) (.int .i64 z.a)) (.int .i64 z.e)
  refine ⟨h1, ?_, (((h.below.setCell (by simp) _).setCell (by simp) _).setCell (by simp) _).setCell (by simp) _⟩
  rw [Below.heap_setCell _ _ _ _ (by simp), Below.heap_setCell _ _ _ _ (by simp), Below.heap_setCell _ _ _ _ (by simp), Below.heap_setCell _ _ _ _ (by simp)]
  exact h.two
theorem Two2.second {wr wx : World} {x y z : Ce} (h : Two2 wr wx x y) : Two2 wr ((((wx.setCell ⟨wr.heap.size + 1, 0, none⟩ (.string z.s)).setCell ⟨wr.heap.size + 1, 1, none⟩ (.bool z.d)).setCell ⟨wr.heap.size + 1, 2, none⟩ (.int .i64 z.a)).setCell ⟨wr.heap.size + 1, 3, none⟩ (.int .i64 z.e)) x z := by
  have h1 := block_setCell (i := 3) (block_setCell (i := 2) (block_setCell (i := 1) (block_setCell (i := 0) h.two (.string z.s)) (.bool z.d)) (.int .i64 z.a)) (.int .i64 z.e)
  refine ⟨?_, h1, (((h.below.setCell (by simp) _).setCell (by simp) _).setCell (by simp) _).setCell (by simp) _⟩
  rw [Below.heap_setCell _ _ _ _ (by simp), Below.heap_setCell _ _ _ _ (by simp), Below.heap_setCell _ _ _ _ (by simp), Below.heap_setCell _ _ _ _ (by simp)]
  exact h.one
set_option maxHeartbeats 8000000 in
theorem many_short (A : Option Addr) (n c : Nat) (l : List Int) (by_ : Int) (w : World) (h : n ≤ 60) (hr : RdZ w w.heap.size A n l) (hnc : n ≤ c) (hc : c ≤ maxLen) (hx : ∀ x ∈ l, (Lit.int .i64 x).wf = true) (hb : (Lit.int .i64 by_).wf = true) :
    Calls Try.prog 7 #[.slice A n c, .int .i64 by_] w fun e w' => e = .returned (.bool true) ∧ Below w.heap.size w w' := by
  have d1 : decide ((60 : Int) < (n : Nat)) = false := by simp; omega
  have hl := hr.1
  have bz := (Below.refl w.heap.size w).alloc (Nat.le_refl _) (.cells #[.slice A n c] 38)
  have m0 : Made w (w.alloc (.cells #[.slice A n c] 38)) w.heap.size n c l 0 (.slice none 0 0) [] :=
    ⟨⟨A, heap_alloc_new w _, hr.below bz⟩, World.ownsRow_nil _ _ _ _, (fun x hx => by cases hx), (fun h => by cases h), bz⟩
  have M0 := Lib.hid m0
  have HX := Lib.hid hx
  have HB := Lib.hid hb
  have HLL := Lib.hid hl
  clear m0 bz hr hx hb hl
  go_enter Try.func7, Try.ntmps7
  go_wp2
  go_loopw [6] (fun mv wr => ∃ k C, k ≤ n ∧ Made w wr w.heap.size n c l k mv C) (fun mv _ => n - lenV mv)
  case atStart => exact ⟨0, [], Nat.zero_le _, M0.out⟩
  case round =>
    obtain ⟨k, C, hk, hm⟩ := hrel
    obtain ⟨A', hL, hZ⟩ := hm.left
    obtain ⟨A1, c1, rfl, hc1, hc2, hA1⟩ := own_slice hm.own
    have q0 := cell_at (i := 0) hL rfl
    have HM := Lib.hid hm; have HL := Lib.hid hL; have HZ := Lib.hid hZ
    clear hm hL hZ
    by_cases hlt : k < n
    · have i1 : (0 : Int) < (n - k : Nat) := by omega
      have d2 : decide ((0 : Int) < ((n - k : Nat) : Int)) = true := by simp; omega
      have hkl : k < l.length := by rw [HLL.out]; exact hlt
      have hd : l.drop k = l[k] :: l.drop (k + 1) := List.drop_eq_getElem_cons hkl
      have HD := Lib.hid hd
      clear hd
      go_wp2_with fail
      refine (cell_num w.heap.size (n - k) (c - k) w.heap.size A' l[k] (l.drop (k + 1)) wr HL.out (by rw [← HD.out]; exact HZ.out) (by omega) (by omega) (Nat.le_refl _) (bounds_i64 (HX.out _ (List.getElem_mem hkl)))).mono ?_
      rintro e w1 ⟨s, d, a, b, rfl, hok, hs, A2, hL2, hZ2, kp⟩
      have hown1 : w1.ownsRow w.heap.size 23 4 (.slice A1 k c1) k (C.flatMap Ce.cs) := own_kept HM.out.own fun g hg => kp.block g (own_block_lt HM.out.own g hg) fun e => HM.out.off (by rw [hg, e])
      have hown2 := own_below hown1 ((Below.refl w1.heap.size w1).alloc (Nat.le_refl _) (.cells #[.string s, .bool d, .int .i64 a, .int .i64 b] 23))
      have hb1 : w.heap.size ≤ w1.heap.size := Nat.le_trans HM.out.below.size kp.size
      have hcs : ∀ (j : Nat) (u : Value), (Ce.cs ⟨s, d, a, b⟩)[j]? = some u → (w1.alloc (.cells #[.string s, .bool d, .int .i64 a, .int .i64 b] 23)).cell? ((⟨w1.heap.size, 0, none⟩ : Addr).add j) = some u := fun j u hu => by
        rw [Addr.add_lit]
        simpa [Ce.cs] using hu
      have HOK := Lib.hid hok; have HS := Lib.hid hs; have HL2 := Lib.hid hL2; have HZ2 := Lib.hid hZ2; have KP := Lib.hid kp
      have HO2 := Lib.hid hown2; have HCS := Lib.hid hcs
      clear hok hs hL2 hZ2 kp hown1 hown2 hcs
      go_wp2_with (at_builtin; refine list_ex rfl (.tmp 25) (.tmp 28) _ _ rfl (.slice A1 k c1) (.slice (some ⟨w1.heap.size, 0, none⟩) 1 1) rfl rfl (run_appC w.heap.size HO2.out HCS.out ?s1 ?s2) ?_)
      case s1 => omega
      case s2 => simp; omega
      intro v3 w3 ho3 hg3 hloc3
      obtain ⟨A3, c3, rfl, _⟩ := own_slice ho3
      have hmade := made_on HM.out hlt HOK.out HS.out HL2.out HZ2.out KP.out ho3 hg3 hloc3
      have HMD := Lib.hid hmade
      clear ho3 hg3 hloc3 hmade
      go_wp2
      go_roundw
      case rel => exact ⟨k + 1, C ++ [⟨s, d, a, b⟩], by omega, HMD.out⟩
      case measure => simp [lenV]; omega
    · obtain rfl : k = n := by omega
      obtain ⟨V, hV⟩ : ∃ V, V = wr := ⟨_, rfl⟩
      subst hV
      obtain ⟨cc, hcc⟩ : ∃ m : Nat, by_ % ((k : Int) + 1) = (m : Nat) := ⟨(by_ % ((k : Int) + 1)).toNat, (Int.toNat_of_nonneg (Int.emod_nonneg _ (by omega))).symm⟩
      have hcc2 : cc ≤ k := by have := Int.emod_lt_of_pos by_ (show (0 : Int) < (k : Int) + 1 by omega); omega
      have HCC := Lib.hid hcc
      clear hcc
      go_wp2_with fail
      refine (place_any by_ ((k : Int) + 1) _ (by omega) (by omega) (bounds_i64 HB.out)).mono ?_
      rintro e w1 ⟨rfl, rfl⟩
      rw [HCC.out]
      have hlen := HM.out.len
      have hrd := RdC.of_own HM.out.own
      have b0 := HM.out.below
      have hok0 := HM.out.ok
      have f1 : V.heap.size < (V.alloc (.cells #[.string ⟨#[]⟩, .bool false, .int .i64 0, .int .i64 0] 23)).heap.size := by simp
      have twos : Two2 V ((V.alloc (.cells #[.string ⟨#[]⟩, .bool false, .int .i64 0, .int .i64 0] 23)).alloc (.cells #[.string ⟨#[]⟩, .bool false, .int .i64 0, .int .i64 0] 23)) zeroC zeroC := Two2.new V
      have TW := Lib.hid twos; have HRD := Lib.hid hrd; have B0 := Lib.hid b0; have HK0 := Lib.hid hok0; have HLEN := Lib.hid hlen
      clear q0 HM HL HZ hA1 M0 HX HB HLL f1 twos hrd b0 hok0 hlen
      go_wp2
      go_loopw [10] (fun i wx => ∃ (j : Nat) (x y : Ce), j ≤ k ∧ i = .int .i64 j ∧ Two2 V wx x y ∧ UpTo C (fun t => t) j x ∧ UpTo C (fun t => (t + cc) % C.length) j y) (fun i _ => k - (intOf i).toNat)
      case atStart => exact ⟨0, zeroC, zeroC, Nat.zero_le _, rfl, TW.out, UpTo.zero _ _, UpTo.zero _ _⟩
      case round =>
        obtain ⟨j, ⟨sx, dx, ax, ex⟩, ⟨sy, dy, ay, ey⟩, hj, rfl, htw, hu1, hu2⟩ := hrel
        have HTW := Lib.hid htw; have U1 := Lib.hid hu1; have U2 := Lib.hid hu2
        clear htw hu1 hu2 TW
        by_cases hlt2 : j < k
        · have i1 : (j : Int) < k := by omega
          have i0 : (0 : Int) ≤ j := by omega
          have w0 : (0 : Int) < k := by omega
          have kne : ((k : Int) == 0) = false := by simp; omega
          have hjl : j < C.length := by rw [HLEN.out]; exact hlt2
          obtain ⟨⟨st, dt, at_, et⟩, hct⟩ : ∃ z, C[j] = z := ⟨_, rfl⟩
          obtain ⟨⟨sz, dz, az, ez⟩, hcz⟩ : ∃ z, Ce.join ⟨sx, dx, ax, ex⟩ ⟨st, dt, at_, et⟩ = z := ⟨_, rfl⟩
          have J1 := Lib.hid (congrArg Ce.v hcz)
          unfold Ce.v at J1
          have hU1 := U1.out.step hjl (y := ⟨sz, dz, az, ez⟩) (by rw [hct, hcz])
          obtain ⟨m, hm⟩ : ∃ m, (j + cc) % k = m := ⟨_, rfl⟩
          have hmk : m < k := by rw [← hm]; exact Nat.mod_lt _ (by omega)
          have hml : m < C.length := by rw [HLEN.out]; exact hmk
          obtain ⟨⟨sq, dq, aq, eq⟩, hcq⟩ : ∃ z, C[m] = z := ⟨_, rfl⟩
          obtain ⟨⟨su, du, au, eu⟩, hcu⟩ : ∃ z, Ce.join ⟨sq, dq, aq, eq⟩ ⟨sy, dy, ay, ey⟩ = z := ⟨_, rfl⟩
          have J2 := Lib.hid (congrArg Ce.v hcu)
          unfold Ce.v at J2
          have hfm : (fun t => (t + cc) % C.length) j = m := by show (j + cc) % C.length = m; rw [HLEN.out]; exact hm
          have hU2 : UpTo C (fun t => (t + cc) % C.length) (j + 1) ⟨su, du, au, eu⟩ := U2.out.step (by show (j + cc) % C.length < C.length; exact Nat.mod_lt _ (by omega)) (by
            rw [← hcu, join_comm, ← hcq]
            congr 2
            exact hfm.symm)
          have HU2 := Lib.hid hU2
          have HC2 := Lib.hid hcq
          have wa : IntKind.i64.wrap ((j : Int) + (cc : Int)) = (j : Int) + cc := by rw [IntKind.wrap_i64]; omega
          have wr_ : ((j : Int) + (cc : Int)).tmod (k : Int) = (m : Nat) := by rw [Int.tmod_eq_emod_of_nonneg (by omega), ← hm]; push_cast; rfl
          have im : (m : Int) < k := by omega
          have im0 : (0 : Int) ≤ m := by omega
          clear hcq hcu hfm hU2 hm
          obtain ⟨g, o, rfl, hgV, hcells⟩ := (HRD.out.below HTW.out.below).2 (by omega)
          obtain ⟨e0, e1, e2, e3⟩ := hcells j hjl
          rw [hct] at e0 e1 e2 e3
          have a0 := cell_at (i := 0) HTW.out.one rfl
          have a1 := cell_at (i := 1) HTW.out.one rfl
          have a2 := cell_at (i := 2) HTW.out.one rfl
          have a3 := cell_at (i := 3) HTW.out.one rfl
          have HU1 := Lib.hid hU1
          have HCT := Lib.hid hct
          have HCZ := Lib.hid hcz
          clear hcells hct hcz hU1
          go_wp2_with fail
          go_region_with (first
            | (go_at_call 11; refine (join_any _ _ _ _ _ _ _ _ _).mono ?_; rintro x w2 ⟨rfl, b2⟩; unfold Ce.v; rw [J1.out]
               have b2' := next (w := wr) (by first | exact (Below.refl _ _).drew | exact below_draws _ _ _ | exact Below.refl _ _) b2
               have T2 := HTW.out.on b2'
               have z0 := cell_at (i := 0) T2.one rfl
               have z1 := cell_at (i := 1) T2.one rfl
               have z2 := cell_at (i := 2) T2.one rfl
               have z3 := cell_at (i := 3) T2.one rfl
               have y0 := thawed_at (i := 0) T2.one
               have y1 := thawed_at (i := 1) T2.one
               have y2 := thawed_at (i := 2) T2.one
               have y3 := thawed_at (i := 3) T2.one
               have HT2 := Lib.hid T2
               clear T2))
          all_goals
            have T3 := Two2.first HT2.out (z := ⟨sz, dz, az, ez⟩)
            simp only at T3
            generalize hw3 : ((((w2.setCell ⟨V.heap.size, 0, none⟩ (.string sz)).setCell ⟨V.heap.size, 1, none⟩ (.bool dz)).setCell ⟨V.heap.size, 2, none⟩ (.int .i64 az)).setCell ⟨V.heap.size, 3, none⟩ (.int .i64 ez)) = w3 at T3 ⊢
            have HT3 := Lib.hid T3
            have k0 := cell_at (i := 0) T3.two rfl
            have k1 := cell_at (i := 1) T3.two rfl
            have k2 := cell_at (i := 2) T3.two rfl
            have k3 := cell_at (i := 3) T3.two rfl
            clear T3 hw3 z0 z1 z2 z3 y0 y1 y2 y3 e0 e1 e2 e3 a0 a1 a2 a3 b2 b2' HT2
            obtain ⟨g', o', hgo, hgV', hcells⟩ := (HRD.out.below HT3.out.below).2 (by omega)
            injection hgo with hgo
            injection hgo with hg1 ho1
            subst hg1
            subst ho1
            obtain ⟨e0, e1, e2, e3⟩ := hcells m hml
            rw [HC2.out] at e0 e1 e2 e3
            clear hcells
            go_wp2_with fail
            go_region_with (first
              | (go_at_call 11; refine (join_any _ _ _ _ _ _ _ _ _).mono ?_; rintro x w4 ⟨rfl, b4⟩; unfold Ce.v; rw [J2.out]
                 have b4' := next (w := w3) (by first | exact (Below.refl _ _).drew | exact below_draws _ _ _ | exact Below.refl _ _) b4
                 have T4 := HT3.out.on b4'
                 have z0 := cell_at (i := 0) T4.two rfl
                 have z1 := cell_at (i := 1) T4.two rfl
                 have z2 := cell_at (i := 2) T4.two rfl
                 have z3 := cell_at (i := 3) T4.two rfl
                 have y0 := thawed_at (i := 0) T4.two
                 have y1 := thawed_at (i := 1) T4.two
                 have y2 := thawed_at (i := 2) T4.two
                 have y3 := thawed_at (i := 3) T4.two
                 have HT4 := Lib.hid T4
                 clear T4))
          all_goals
            have T5 := Two2.second HT4.out (z := ⟨su, du, au, eu⟩)
            simp only at T5
            generalize hw5 : ((((w4.setCell ⟨V.heap.size + 1, 0, none⟩ (.string su)).setCell ⟨V.heap.size + 1, 1, none⟩ (.bool du)).setCell ⟨V.heap.size + 1, 2, none⟩ (.int .i64 au)).setCell ⟨V.heap.size + 1, 3, none⟩ (.int .i64 eu)) = w5 at T5 ⊢
            have HT5 := Lib.hid T5
            clear T5 hw5 z0 z1 z2 z3 y0 y1 y2 y3 e0 e1 e2 e3 b4 b4' HT4
            go_wp2
            go_roundw
            case rel => exact ⟨j + 1, ⟨sz, dz, az, ez⟩, ⟨su, du, au, eu⟩, by omega, by go_num, HT5.out, HU1.out, HU2.out⟩
            case measure => simp [intOf]; omega
        · obtain rfl : j = k := by omega
          have hxy : (⟨sx, dx, ax, ex⟩ : Ce) = ⟨sy, dy, ay, ey⟩ := by
            refine UpTo.same (C := C) (c := cc) ?_ ?_
            · rw [HLEN.out]; exact U1.out
            · rw [HLEN.out]; exact HLEN.out ▸ U2.out
          injection hxy with h1 h2 h3 h4
          subst h1; subst h2; subst h3; subst h4
          have hup := U1.out.1
          have HUP := Lib.hid hup
          have S1 := Lib.hid (same_self ⟨sx, dx, ax, ex⟩)
          clear hup U1 U2
          go_wp2
          go_loopw [11] (fun i wx => ∃ (t : Nat), t ≤ j ∧ i = .int .i64 t ∧ Two2 V wx ⟨sx, dx, ax, ex⟩ ⟨sx, dx, ax, ex⟩) (fun i _ => j - (intOf i).toNat)
          case atStart => exact ⟨0, Nat.zero_le _, rfl, HTW.out⟩
          case round =>
            clear HTW
            obtain ⟨t, ht, rfl, htw⟩ := hrel
            have HTW := Lib.hid htw
            have a0 := cell_at (i := 0) htw.one rfl
            have a1 := cell_at (i := 1) htw.one rfl
            have a2 := cell_at (i := 2) htw.one rfl
            have a3 := cell_at (i := 3) htw.one rfl
            by_cases hlt3 : t < j
            · have i1 : (t : Int) < j := by omega
              have i0 : (0 : Int) ≤ t := by omega
              have htl : t < C.length := by rw [HLEN.out]; exact hlt3
              obtain ⟨⟨st, dt, at_, et⟩, hct⟩ : ∃ z, C[t] = z := ⟨_, rfl⟩
              obtain ⟨r, hr⟩ : ∃ r, Ce.cmp ⟨st, dt, at_, et⟩ ⟨sx, dx, ax, ex⟩ = r := ⟨_, rfl⟩
              have hr0 : r ≤ 0 := by rw [← hr, ← hct]; exact HUP.out t hlt3 htl
              have dr : decide (0 < r) = false := decide_eq_false (by omega)
              have hok := HK0.out C[t] (List.getElem_mem htl)
              rw [hct] at hok
              have R := Lib.hid hr
              have OKK := Lib.hid hok.1
              have hsz : st.size ≤ maxLen := by have := hok.2; simp only at this; unfold maxLen; omega
              have HSZ := Lib.hid hsz
              obtain ⟨g, o, rfl, hgV, hcells⟩ := (HRD.out.below HTW.out.below).2 (by omega)
              obtain ⟨e0, e1, e2, e3⟩ := hcells t htl
              rw [hct] at e0 e1 e2 e3
              have hg' : g < wr.heap.size := Nat.lt_of_lt_of_le hgV HTW.out.below.size
              have hall := fun w' (hb : Below wr.heap.size wr w') => And.intro (And.intro (cell_at (i := 0) (HTW.out.on hb).one rfl) (And.intro (cell_at (i := 1) (HTW.out.on hb).one rfl) (And.intro (cell_at (i := 2) (HTW.out.on hb).one rfl) (cell_at (i := 3) (HTW.out.on hb).one rfl))))
                (And.intro ((hb.cell (p := ⟨g, _, none⟩) hg').trans e0) (And.intro ((hb.cell (p := ⟨g, _, none⟩) hg').trans e1) (And.intro ((hb.cell (p := ⟨g, _, none⟩) hg').trans e2) ((hb.cell (p := ⟨g, _, none⟩) hg').trans e3))))
              have HALL := Lib.hid hall
              have hB0 : Below wr.heap.size wr wr.drew := (Below.refl _ _).drew
              clear hcells hall hct hr hok hsz htw
              go_wp2_with fail
              go_region_held3 (fun w' => (w'.cell? ⟨V.heap.size, 0, none⟩ = some (.string sx) ∧ w'.cell? ⟨V.heap.size, 1, none⟩ = some (.bool dx) ∧ w'.cell? ⟨V.heap.size, 2, none⟩ = some (.int .i64 ax) ∧ w'.cell? ⟨V.heap.size, 3, none⟩ = some (.int .i64 ex)) ∧ w'.cell? ⟨g, o + t * 4, none⟩ = some (.string st) ∧ w'.cell? ⟨g, o + t * 4 + 1, none⟩ = some (.bool dt) ∧ w'.cell? ⟨g, o + t * 4 + 2, none⟩ = some (.int .i64 at_) ∧ w'.cell? ⟨g, o + t * 4 + 3, none⟩ = some (.int .i64 et)) (refine ⟨⟨?_, ?_, ?_, ?_⟩, ?_, ?_, ?_, ?_⟩ <;> assumption) (first
                | (go_at_call 15; refine (cmp_any _ _ _ _ _ _ _ _ _).mono ?_; rintro x w2 ⟨rfl, b2⟩; rw [R.out]; have hB2 := next (w := wr) (by assumption) b2; obtain ⟨⟨_, _, _, _⟩, _, _, _, _⟩ := HALL.out _ hB2)
                | (go_at_call 13; refine (check_any _ _ _ _ _ HSZ.out).mono ?_; rintro x w3 ⟨rfl, b3⟩; rw [OKK.out]; have hB3 := next (w := wr) (by assumption) b3; obtain ⟨⟨_, _, _, _⟩, _, _, _, _⟩ := HALL.out _ hB3))
              go_wp2
              go_roundw
              case rel => exact ⟨t + 1, by omega, by go_num, HTW.out.on (by assumption)⟩
              case measure => simp [intOf]; omega
            · obtain rfl : t = j := by omega
              have b0 := cell_at (i := 0) htw.two rfl
              have b1 := cell_at (i := 1) htw.two rfl
              have b2 := cell_at (i := 2) htw.two rfl
              have b3 := cell_at (i := 3) htw.two rfl
              clear htw
              go_wp2_with fail
              refine (same_any _ _ _ _ _ _ _ _ _).mono ?_
              rintro x w2 ⟨rfl, b2⟩
              rw [S1.out]
              go_wp2_with fail
              refine (awake_any _).mono ?_
              rintro x w3 ⟨rfl, b3⟩
              go_wp2
              go_ret
              exact ⟨rfl, next (next (B0.out.trans (HTW.out.below.mono B0.out.size)) b2) b3⟩

theorem many_law (A : Option Addr) (n c : Nat) (l : List Int) (by_ : Int) (w : World) (hr : RdZ w w.heap.size A n l) (hnc : n ≤ c) (hc : c ≤ maxLen) (hx : ∀ x ∈ l, (Lit.int .i64 x).wf = true) (hb : (Lit.int .i64 by_).wf = true) :
    Calls Try.prog 7 #[.slice A n c, .int .i64 by_] w fun e w' => e = .returned (.bool true) ∧ Below w.heap.size w w' := by
  by_cases h : 60 < n
  · exact many_long A n c l by_ w h
  · exact many_short A n c l by_ w (by omega) hr hnc hc hx hb
end Go.Proofs.Ytipkghchcacgiaa
