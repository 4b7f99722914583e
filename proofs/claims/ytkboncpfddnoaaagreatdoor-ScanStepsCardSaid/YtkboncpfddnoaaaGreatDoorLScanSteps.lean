/- For every row and either knowledge the law ScanSteps answers true and leaves its arguments as they were; the package's tables of kinds of sums and of longer sizes are tied to the program's text. No conditions. -/
import Derived.Test.YtkboncpfddnoaaaGreatDoorRows
import Derived.Test.YtkboncpfddnoaaaGreatDoorCards
import Derived.Test.YtkboncpfddnoaaaGreatDoorTie
import Derived.Test.YtkboncpfddnoaaaGreatDoorScA
import Derived.Test.YtkboncpfddnoaaaGreatDoorGa
import Derived.WalkKit
import Derived.ProofKit
import Derived.OpenShut
import Derived.ShutString
import Derived.ChangeOld
import Derived.Below
import Derived.Carry
import Derived.Lib.SmallJoins
import Derived.Deep.RegionWith
import Derived.Deep.RegionHeld3
import Derived.LaidMore
import Derived.LaidLaws
import Derived.Stop.Joined
import Derived.SevenTiedAt
namespace Go.Proofs.YtkboncpfddnoaaaGreatDoor.scanSteps
open Go.ChangeShapes Go.WideShapes Go.ChangeAt Go.RowKit Go.Joins
set_option linter.unusedVariables false
set_option linter.unusedSimpArgs false
theorem own : ownKnob Tryz.prog.godebug = none := by kernel_rfl
theorem laidOut : laidOutB Tryz.prog = true := by kernel_rfl
set_option maxHeartbeats 8000000 in
set_option maxRecDepth 100000 in
theorem walk (w : World) (hK : Both w) (a0 : Option Addr) (cap0 : Nat) (l0 : List Nat) (h0 : Bs w a0 cap0 l0) (n0 : a0 = none → cap0 = 0) (a1 : Bool) :
    Calls Tryz.prog 3 #[.slice a0 l0.length cap0, .bool a1] w fun e w' => e = .returned (.bool true) ∧ Nb w w' := by
  have hL0 := h0.len
  have HK := Lib.hid hK
  have HA := Lib.hid h0
  clear hK h0 n0
  by_cases h400 : 400 < l0.length
  · have d0 : decide (400 < (l0.length : Int)) = true := decide_eq_true (by omega)
    clear h400
    go_enter Tryz.func3, Tryz.ntmps3
    go_wp2_with fail
    refine (alive9_any _ HK.out).mono ?_
    rintro e w1 ⟨rfl, n1⟩
    have M1 := Lib.hid n1
    clear n1
    go_wp2
    go_ret
    exact ⟨rfl, M1.out⟩
  have d0 : decide (400 < (l0.length : Int)) = false := decide_eq_false (by omega)
  have hl0 : l0.length ≤ 400 := by omega
  clear h400
  go_enter Tryz.func3, Tryz.ntmps3
  go_wp2_with fail
  refine (alive9_any _ HK.out).mono ?_
  rintro e w1 ⟨rfl, n1⟩
  have M1 := Lib.hid n1
  clear n1
  go_wp2_with fail
  refine (new9_any a1 w1 (HK.out.below M1.out)).mono ?_
  rintro e w5 ⟨⟨v, F, rfl, hm, hF⟩, n5⟩
  have HM := Lib.hid hm
  have HF := Lib.hid hF
  have N5 := Lib.hid n5
  clear n5 hm hF
  go_wp2
  go_loopw [6, 29] (fun sv ix wr => ∃ j : Nat, j ≤ l0.length ∧ ix = .int .i64 j ∧ (∃ Fj, MachAt wr v a1 (seenL l0 j) Fj ∧ Kp F w5 wr ∧ (∀ k, Fj k → F k ∨ w5.heap.size ≤ k) ∧ ∀ g, sv.ownBlock = some g → w5.heap.size ≤ g ∧ ¬ Fj g) ∧ OwnB wr sv (seenL l0 j)) (fun _ ix _ => l0.length - (intOf ix).toNat)
  case atStart => exact ⟨0, Nat.zero_le _, rfl, ⟨F, HM.out, Kp.rfl, fun _ h => .inl h, by simp [Value.ownBlock]⟩, OwnB.nil _⟩
  case round =>
    obtain ⟨j, hj, rfl, ⟨Fj, hmj, hkj, hfj, hdj⟩, hoj⟩ := hrel
    have NJ := Lib.hid (show Nb w1 wr from N5.out.trans (hkj.toBelow N5.out.size HF.out))
    have MJ := Lib.hid (M1.out.tr NJ.out)
    have HMJ := Lib.hid hmj
    have HKJ := Lib.hid hkj
    have HFJ := Lib.hid hfj
    have HDJ := Lib.hid hdj
    have HOJ := Lib.hid hoj
    obtain ⟨as_, ks, rfl, bs, _⟩ := hoj.bs
    have BS := Lib.hid bs
    have hsl := seenL_len l0 j
    have SL := Lib.hid hsl
    have hsl4 : (seenL l0 j).length ≤ 400 := by omega
    clear hmj hkj hfj hdj hoj bs hsl
    by_cases hlt : j < l0.length
    · obtain ⟨b0, o0, rfl, hcl⟩ := (HA.out.below MJ.out).hcells (by omega)
      obtain ⟨b, hb⟩ : ∃ b, l0.getD j 0 = b := ⟨_, rfl⟩
      have z0 := hcl j hlt
      rw [hb] at z0
      have hb2 : b < 256 := by rw [← hb]; exact HA.out.getD_lt j
      have hstep := seenL_succ (l := l0) hlt
      rw [hb] at hstep
      clear hcl hb
      by_cases hb1 : b ≤ 1
      · rw [if_pos hb1] at hstep
        have SEE := Lib.hid (see9_any v a1 (seenL l0 j) Fj b wr HMJ.out hb1 (by omega) (HK.out.below MJ.out))
        have dgt : decide ((1 : Int) < (b : Int)) = false := decide_eq_false (by omega)
        have ETK := Lib.hid hstep.symm
        have hch1 : chk (seenL l0 (j + 1)) = true := chk_of (seenL_bit l0 (j + 1)) (by have := seenL_len l0 (j + 1); omega)
        have hrow := rowS_of (kn := a1) hch1
        have SC := Lib.hid (fun w' (a' : Option Addr) (c' : Nat) (n : Nb w w') (h : Bs w' a' c' (seenL l0 (j + 1))) => by
          have := scan9_any a1 a' c' _ w' h (HK.out.below n)
          rw [hrow, chkE, if_pos hch1] at this
          exact this)
        have hln1 := seenL_len l0 (j + 1)
        clear hstep hch1 hrow
        go_wp2_with fail
        refine SEE.out.mono ?_
        rintro e wx ⟨F', ⟨a', c', rfl, bx, hblk⟩, hm', hk', hf'⟩
        rw [ETK.out] at bx hm' ⊢
        have hFj := mach_lt HMJ.out
        have NX := Lib.hid (show Nb w1 wx from N5.out.trans ((HKJ.out.tr hk' HFJ.out).toBelow N5.out.size HF.out))
        have KX := Lib.hid (HKJ.out.tr hk' HFJ.out)
        have FX := Lib.hid (show ∀ k, F' k → F k ∨ w5.heap.size ≤ k from fun k h => by
          rcases hf' k h with h | h
          · exact HFJ.out k h
          · exact .inr (Nat.le_trans HKJ.out.size h))
        have hown : OwnB wx (.slice as_ (seenL l0 j).length ks) (seenL l0 j) := HOJ.out.keep hk' (fun g hg h => (HDJ.out g hg).2 h)
        have DX := Lib.hid (show ∀ g, (Value.slice as_ (seenL l0 j).length ks).ownBlock = some g → w5.heap.size ≤ g ∧ ¬ F' g from fun g hg => ⟨(HDJ.out g hg).1, fun h => by
          rcases hf' g h with h | h
          · exact (HDJ.out g hg).2 h
          · have := HOJ.out.lt hg
            omega⟩)
        have LX := Lib.hid (show ∀ g, (Value.slice as_ (seenL l0 j).length ks).ownBlock = some g → ∀ b o t, a' = some ⟨b, o, t⟩ → b ≠ g from fun g hg b o t hab he => by
          subst he
          rcases hblk b o t hab with h | h
          · exact (DX.out b hg).2 h
          · have := HOJ.out.lt hg
            omega)
        have HX := Lib.hid hm'
        have BX := Lib.hid bx
        have MX := Lib.hid (M1.out.tr NX.out)
        clear hk' hf' hm' bx hblk SEE HMJ HKJ HFJ HDJ HOJ BS z0 hFj
        generalize hS : staOf (scS a1 (seenL l0 (j + 1))) = S at *
        simp only [staV]
        obtain ⟨wy, hwy⟩ : ∃ wy, wy = wx.alloc (.cells #[.int .i64 S.k, .int .i64 S.e, .int .i64 S.f.K, .int .u32 S.f.I, .bool S.f.X, .bool S.f.R, .bool S.f.B, .bool S.f.E, .bool S.f.S, .int .u8 S.f.D, .int .u8 S.f.V, .int .u32 S.f.A, .slice a' S.l.length c'] 31) := ⟨_, rfl⟩
        have nxy : Nb wx wy := by rw [hwy]; exact Nb.rfl.al _
        have XY := Lib.hid (show Blk wy wx.heap.size #[.int .i64 S.k, .int .i64 S.e, .int .i64 S.f.K, .int .u32 S.f.I, .bool S.f.X, .bool S.f.R, .bool S.f.B, .bool S.f.E, .bool S.f.S, .int .u8 S.f.D, .int .u8 S.f.V, .int .u32 S.f.A, .slice a' S.l.length c'] 31 by rw [hwy]; exact Blk.new _ _ _)
        have HS1 := Lib.hid hS
        have hs2 : wy.heap.size = wx.heap.size + 1 := by rw [hwy, World.size_alloc]
        have HSY := Lib.hid hs2
        have EY := Lib.hid hwy
        have hone := Bs.one wy b (by omega) 5
        have hownY : OwnB (wy.alloc (.cells #[.int .u8 (b : Int)] 5)) (.slice as_ (seenL l0 j).length ks) (seenL l0 j) := hown.keep (F := fun _ => False) (Kp.ofNb (nxy.al _)) (by simp)
        have KY := Lib.hid (show Kp (fun k => (Value.slice as_ (seenL l0 j).length ks).ownBlock = some k) wx (wy.alloc (.cells #[.int .u8 (b : Int)] 5)) from Kp.ofNb (nxy.al _))
        have LT := Lib.hid (show ∀ g, (Value.slice as_ (seenL l0 j).length ks).ownBlock = some g → g < wx.heap.size from fun g hg => hown.lt hg)
        have XY2 := Lib.hid (XY.out.nb (Nb.rfl.al (.cells #[.int .u8 (b : Int)] 5)))
        rw [hwy, World.size_alloc] at hone
        rw [hwy] at hownY
        clear hS hs2 nxy hown XY
        go_wp2_with (at_builtin; refine wpList_appB _ rfl (.tmp 55) (.tmp 57) rfl (.slice as_ (seenL l0 j).length ks) (seenL l0 j) rfl hownY _ _ [b] 1 rfl rfl hone (by simp) (by simp; omega) ?_)
        intro v2 wq ho hkq hgq
        rw [← EY.out] at hkq
        rw [ETK.out] at ho
        have KW := Lib.hid (show Kp (fun k => (Value.slice as_ (seenL l0 j).length ks).ownBlock = some k) wx wq from KY.out.tr hkq (fun _ h => .inl h))
        have KQ := Lib.hid (KX.out.tr KW.out (fun k h => .inr (DX.out k h).1))
        have HQ := Lib.hid (mach_keep HX.out KW.out (fun k hk h => (DX.out k h).2 hk))
        have BQ := Lib.hid (BX.out.keepKp KW.out (fun b o t hab h => LX.out b h b o t hab rfl))
        have XQ := Lib.hid (XY2.out.keep hkq (fun h => by have := LT.out _ h; omega))
        have MQ := Lib.hid (M1.out.tr (N5.out.trans (KQ.out.toBelow N5.out.size HF.out)))
        have hxl := mach_lt HX.out
        have hxs := KX.out.size
        have GQ := Lib.hid (show ∀ g, v2.ownBlock = some g → w5.heap.size ≤ g ∧ ¬ F' g from fun g hg => by
          rcases hgq g hg with h | h
          · exact DX.out g h
          · exact ⟨by omega, fun hf => by have := hxl g hf; omega⟩)
        obtain ⟨a2, c2, rfl, b2, _⟩ := ho.bs
        have HO := Lib.hid ho
        have B2 := Lib.hid b2
        clear hkq ho b2 hgq hxl hxs hone hownY hwy KY XY2 LT LX DX HX BX MX NX KX EY HSY
        go_wp2_with fail
        refine (SC.out wq a2 c2 MQ.out B2.out).mono ?_
        rintro e w3 ⟨⟨a3, c3, rfl, b3⟩, n3⟩
        simp only [staV]
        obtain ⟨wt, hwt⟩ : ∃ wt, wt = w3.alloc (.cells #[.int .i64 S.k, .int .i64 S.e, .int .i64 S.f.K, .int .u32 S.f.I, .bool S.f.X, .bool S.f.R, .bool S.f.B, .bool S.f.E, .bool S.f.S, .int .u8 S.f.D, .int .u8 S.f.V, .int .u32 S.f.A, .slice a3 S.l.length c3] 31) := ⟨_, rfl⟩
        have nt : Nb wq wt := by rw [hwt]; exact n3.al _
        have XT := Lib.hid (XQ.out.nb nt)
        have TT := Lib.hid (show Blk wt w3.heap.size #[.int .i64 S.k, .int .i64 S.e, .int .i64 S.f.K, .int .u32 S.f.I, .bool S.f.X, .bool S.f.R, .bool S.f.B, .bool S.f.E, .bool S.f.S, .int .u8 S.f.D, .int .u8 S.f.V, .int .u32 S.f.A, .slice a3 S.l.length c3] 31 by rw [hwt]; exact Blk.new _ _ _)
        have D3 := Lib.hid (show Bs wt a3 c3 S.l by rw [hwt]; exact b3.below (Nb.rfl.al _))
        have D1 := Lib.hid (BQ.out.below nt)
        have HT := Lib.hid (mach_keep HQ.out (Kp.ofNb (F := fun _ => False) nt) (fun _ _ h => h))
        have ET := Lib.hid hwt
        have MT := Lib.hid (MQ.out.tr nt)
        have NT := Lib.hid nt
        have ST0 := status9_any v a1 (seenL l0 (j + 1)) F' wt HT.out (HK.out.below MT.out)
        rw [HS1.out] at ST0
        have STA := Lib.hid ST0
        clear nt n3 b3 hwt ST0 XQ BQ SC
        go_wp2_with fail
        rw [← ET.out]
        refine STA.out.mono ?_
        rintro e w4 ⟨⟨a4, c4, rfl, b4⟩, n4⟩
        simp only [staV]
        obtain ⟨wu, hwu⟩ : ∃ wu, wu = w4.alloc (.cells #[.int .i64 S.k, .int .i64 S.e, .int .i64 S.f.K, .int .u32 S.f.I, .bool S.f.X, .bool S.f.R, .bool S.f.B, .bool S.f.E, .bool S.f.S, .int .u8 S.f.D, .int .u8 S.f.V, .int .u32 S.f.A, .slice a4 S.l.length c4] 31) := ⟨_, rfl⟩
        have nu : Nb wt wu := by rw [hwu]; exact n4.al _
        have XU := Lib.hid (XT.out.nb nu)
        have TU := Lib.hid (TT.out.nb nu)
        have UU := Lib.hid (show Blk wu w4.heap.size #[.int .i64 S.k, .int .i64 S.e, .int .i64 S.f.K, .int .u32 S.f.I, .bool S.f.X, .bool S.f.R, .bool S.f.B, .bool S.f.E, .bool S.f.S, .int .u8 S.f.D, .int .u8 S.f.V, .int .u32 S.f.A, .slice a4 S.l.length c4] 31 by rw [hwu]; exact Blk.new _ _ _)
        have G4 := Lib.hid (show Bs wu a4 c4 S.l by rw [hwu]; exact b4.below (Nb.rfl.al _))
        have G3 := Lib.hid (D3.out.below nu)
        have G1 := Lib.hid (D1.out.below nu)
        have HU := Lib.hid (mach_keep HT.out (Kp.ofNb (F := fun _ => False) nu) (fun _ _ h => h))
        have EU := Lib.hid hwu
        have NU := Lib.hid (NT.out.tr nu)
        obtain ⟨x0, x1, x2, x3, x4, x5, x6, x7, x8, x9, x10, x11, x12⟩ := XU.out.c13
        obtain ⟨y0, y1, y2, y3, y4, y5, y6, y7, y8, y9, y10, y11, y12⟩ := TU.out.c13
        rw [hwu] at x0 x1 x2 x3 x4 x5 x6 x7 x8 x9 x10 x11 x12 y0 y1 y2 y3 y4 y5 y6 y7 y8 y9 y10 y11 y12
        clear nu n4 b4 hwu XT TT D3 D1 HT STA ET HQ
        go_wp2_with fail
        rw [← EU.out]
        refine (same9_any S S a' a3 c' c3 _ G1.out G3.out).mono ?_
        rintro e w9 ⟨rfl, n9⟩
        rw [sameT_rfl]
        clear x0 x1 x2 x3 x4 x5 x6 x7 x8 x9 x10 x11 x12 y0 y1 y2 y3 y4 y5 y6 y7 y8 y9 y10 y11 y12
        obtain ⟨x0, x1, x2, x3, x4, x5, x6, x7, x8, x9, x10, x11, x12⟩ := (XU.out.nb n9).c13
        obtain ⟨y0, y1, y2, y3, y4, y5, y6, y7, y8, y9, y10, y11, y12⟩ := (UU.out.nb n9).c13
        have N9 := Lib.hid (NU.out.tr n9)
        have G19 := Lib.hid (G1.out.below n9)
        have G49 := Lib.hid (G4.out.below n9)
        have H9 := Lib.hid (mach_keep HU.out (Kp.ofNb (F := fun _ => False) n9) (fun _ _ h => h))
        clear n9
        go_wp2_with fail
        refine (same9_any S S a' a4 c' c4 _ G19.out G49.out).mono ?_
        rintro e wz ⟨rfl, nz⟩
        rw [sameT_rfl]
        clear x0 x1 x2 x3 x4 x5 x6 x7 x8 x9 x10 x11 x12 y0 y1 y2 y3 y4 y5 y6 y7 y8 y9 y10 y11 y12
        have NZ := Lib.hid (N9.out.tr nz)
        have SN := Lib.hid (seen9_any v a1 (seenL l0 (j + 1)) F' wz (mach_keep H9.out (Kp.ofNb (F := fun _ => False) nz) (fun _ _ h => h)))
        have HZ := Lib.hid (mach_keep H9.out (Kp.ofNb (F := fun _ => False) nz) (fun _ _ h => h))
        clear nz H9 N9 NU
        go_wp2_with fail
        refine SN.out.mono ?_
        rintro e we ⟨rfl, ne⟩
        have NE := Lib.hid (NZ.out.tr ne)
        have HE := Lib.hid (mach_keep HZ.out (Kp.ofNb (F := fun _ => False) ne) (fun _ _ h => h))
        clear ne
        go_wp2
        go_roundw
        case rel => exact ⟨j + 1, by omega, by go_num, ⟨F', HE.out, KQ.out.tr (Kp.ofNb (F := fun _ => False) NE.out) (fun _ h => h.elim), FX.out, GQ.out⟩, HO.out.keep (F := fun _ => False) (Kp.ofNb NE.out) (by simp)⟩
        case measure => simp [intOf]; try omega
      · rw [if_neg hb1] at hstep
        have dgt : decide ((1 : Int) < (b : Int)) = true := decide_eq_true (by omega)
        have SEE := Lib.hid (see9_bad v a1 (seenL l0 j) Fj b wr HMJ.out (by omega) hb2 (HK.out.below MJ.out))
        have HST := Lib.hid hstep
        clear hstep
        go_wp2_with fail
        refine SEE.out.mono ?_
        rintro e wx ⟨rfl, nx⟩
        simp only [staV, moreS, noF]
        have HNX := Lib.hid nx
        have HMX := Lib.hid (mach_keep HMJ.out (Kp.ofNb (F := fun _ => False) (nx.al (.cells #[.int .i64 0, .int .i64 0, .int .i64 0, .int .u32 0, .bool false, .bool false, .bool false, .bool false, .bool false, .int .u8 0, .int .u8 0, .int .u32 0, .slice none 0 0] 31))) (fun _ _ h => h))
        have SN := Lib.hid (seen9_any v a1 (seenL l0 j) Fj _ HMX.out)
        clear nx SEE z0
        go_wp2_with fail
        refine SN.out.mono ?_
        rintro e wz ⟨rfl, nz⟩
        have NZ := Lib.hid (show Nb wr wz from (HNX.out.al _).tr nz)
        clear nz
        go_wp2
        go_roundw
        case rel => exact ⟨j + 1, by omega, by go_num, by rw [HST.out]; exact ⟨Fj, mach_keep HMJ.out (Kp.ofNb (F := fun _ => False) NZ.out) (fun _ _ h => h), HKJ.out.tr (Kp.ofNb (F := fun _ => False) NZ.out) (fun _ h => h.elim), HFJ.out, HDJ.out⟩, by rw [HST.out]; exact HOJ.out.keep (F := fun _ => False) (Kp.ofNb NZ.out) (by simp)⟩
        case measure => simp [intOf]; try omega
    · obtain rfl : j = l0.length := by omega
      go_wp2_with fail
      refine (see9_nil _).mono ?_
      rintro e wa ⟨rfl, na⟩
      simp only [staV, moreS, noF]
      have NA := Lib.hid (MJ.out.tr na)
      clear na
      go_wp2_with fail
      refine (status9_nil _).mono ?_
      rintro e wb ⟨rfl, nb⟩
      simp only [staV, moreS, noF]
      have NB := Lib.hid ((NA.out.al _).tr nb)
      clear nb
      go_wp2_with fail
      refine (seen9_nil _).mono ?_
      rintro e wc ⟨rfl, nc⟩
      have NC := Lib.hid ((NB.out.al _).tr nc)
      clear nc
      go_wp2
      go_ret
      exact ⟨rfl, NC.out⟩

theorem door_met (os : Os) (args : Array Value) : laidMetH Tryz.prog Rows.scanStepsRow.laid ((World.doorLaid Tryz.prog 24 os).forCall (fun _ _ => 0) ⟨#[], args, []⟩).memory :=
  laidMetH_of_parts3 (fuel := 8) (laidMet_of_run' 8 (by kernel_rfl) (by kernel_rfl)) (by kernel_rfl) (by kernel_rfl)
set_option maxHeartbeats 2000000 in
set_option maxRecDepth 100000 in
theorem lifted (os : Os) (started : os.Started) (H : Type) (enc : TypeId × Value → H) :
    ReturnsInHanded {} Tryz.checked os 3 .any (fun w args => (Rows.scanStepsSpec.pre enc Tryz.prog Tryz.f3 [] false w args ∧ laidMetH Tryz.prog Rows.scanStepsRow.laid w) ∧ sizedMet enc Tryz.prog Tryz.f3 (OpenSpec.ofChange Rows.scanStepsSpec) false w args)
      (Rows.scanStepsSpec.post enc Tryz.prog Tryz.f3 false true false false) := by
  refine returnsInHanded_of_change_and (C := Tryz.checked) (X := fun w _ => laidMetH Tryz.prog Rows.scanStepsRow.laid w) (fun _ _ _ hh h => h.of_heap hh) own started (by kernel_rfl) Tryz.func3
    (ChangeSpec.witness_shaped (enc := enc) (C := Tryz.checked) (os := os) (X := fun w _ => laidMetH Tryz.prog Rows.scanStepsRow.laid w) false (World.doorLaid Tryz.prog 24 os) #[.slice none 0 0, .bool false] 8 rfl (World.shaped_of_RefB (by kernel_rfl) (by kernel_rfl)) (by kernel_rfl) (by kernel_rfl) (by kernel_rfl) (door_met os _)) ?_
  intro W base args ds gs before hval0 hW _ hR hL _
  have hval : ∀ (j : Nat) t v, Tryz.f3.params[j]? = some t → args[j]? = some v → Value.okWide Tryz.prog W .any base t v := hval0
  have hW' := hW
  obtain ⟨p, q, hA0, hV, rfl, hfz, hnd⟩ := hW
  have hA : DataW.TrodAll enc Tryz.prog W 0 (fun _ => true) true Tryz.f3.params.toList args.toList ds p := hA0
  rw [Tryz.params3] at hA hval
  obtain ⟨v0, vs0, d0, ds0, p0, q0, hargs, rfl, rfl, h0, r0⟩ := trodAll_cons hA
  obtain ⟨v1, vs1, d1, ds1, p1, q1, rfl, rfl, rfl, h1, r1⟩ := trodAll_cons r0
  obtain ⟨rfl, rfl, rfl⟩ := trodAll_nil r1
  obtain rfl : args = #[v0, v1] := by cases args; simp_all
  obtain ⟨rfl, rfl⟩ := trodVars_none hV
  have k0 := h0
  have lt0 : ∀ x ∈ p0, x.block < W.heap.size := by obtain ⟨m, hm⟩ := k0; exact DataW.trod_lt m _ _ _ hm
  have k1 := h1
  have lt1 : ∀ x ∈ p1, x.block < W.heap.size := by obtain ⟨m, hm⟩ := k1; exact DataW.trod_lt m _ _ _ hm
  clear hA0
  obtain ⟨a0, lc0, cap0, rfl⟩ := okWide_slice Tryz.underlying22 (hval 0 22 v0 rfl rfl)
  obtain ⟨fu0, hf0⟩ := h0
  have hc0 : DataW.trod enc Tryz.prog W 0 (fun _ => true) true fu0 22 [.slice a0 lc0 cap0] = some (d0, p0) := hf0
  obtain ⟨b0, cb0, l0, e0, hb0, n0⟩ := bytes_open hc0
  simp only [Value.slice.injEq] at e0
  obtain ⟨rfl, rfl, rfl⟩ := e0
  obtain ⟨a1, rfl, rfl, rfl⟩ := open_bool Tryz.underlying4 (hval 1 4 v1 rfl rfl) h1
  refine (walk W (both_of hL) a0 cap0 l0 hb0 n0 a1).mono fun e W' ⟨he, bel⟩ => ?_
  subst he
  exact ⟨_, rfl, _, _, _, [], _, [], hW', trodAll_mk1 (shut_bool Tryz.underlying4 _), (trodAll_cons_mk (Below.trod laidOut (by kernel_rfl) (of_decide_eq_true (by kernel_rfl)) k0 bel lt0) (trodAll_cons_mk (Below.trod laidOut (by kernel_rfl) (of_decide_eq_true (by kernel_rfl)) k1 bel lt1) trodAll_mk0)), rfl, bel.frame _, fun h => by cases h⟩

theorem over : Rows.scanStepsRow.holds Tryz.pinned (OpenSpec.ofChange Rows.scanStepsSpec) :=
  OpenClaim.holds_of_wide 3 Tryz.f3 rfl rfl rfl rfl rfl rfl rfl ⟨rfl, rfl, rfl, rfl, rfl⟩ rfl rfl rfl rfl rfl (by kernel_rfl) Tryz.func3 (by kernel_rfl)
    (of_decide_eq_true (by kernel_rfl)) (by unfold Func.isWrapper; first | (rw [if_pos (by decide +kernel)]; kernel_rfl) | (rw [if_neg (by decide +kernel)]; exact ⟨rfl, rfl⟩))
    (fun os started H enc _ => lifted os started H enc)

theorem plain (f : FuncId) (fn : Func) (hf : Tryz.pinned.checked.prog.funcNamed "omnibus/omnibuslaw09.ScanSteps" = some f) (hfn : Tryz.pinned.checked.prog.funcs[f]? = some fn) :
    false = Tryz.pinned.checked.prog.looks [] ∧ ∀ (j : Nat) t, fn.params[j]? = some t → Tryz.pinned.checked.prog.wantsStandIn t = false := by
  obtain rfl : f = 3 := Option.some.inj ((show Tryz.prog.funcNamed "omnibus/omnibuslaw09.ScanSteps" = some 3 by kernel_rfl).symm.trans hf) |>.symm
  obtain rfl : fn = Tryz.f3 := (Option.some.inj (Tryz.func3.symm.trans hfn)).symm
  refine ⟨by kernel_rfl, fun j t ht => ?_⟩
  rw [Tryz.params3] at ht
  have hm : t ∈ [22, 4] := by have := Array.mem_of_getElem? ht; simp at this ⊢; omega
  have hall : ([22, 4].all fun u => !Tryz.prog.wantsStandIn u) = true := by kernel_rfl
  exact (show Tryz.prog.wantsStandIn t = false by simpa using List.all_eq_true.1 hall t hm)
theorem proved : Rows.ScanStepsCardSaid :=
  Claim7.holds_tied_plain_at .later [] _ _ _ _ over (fun _ h => by cases h) (by kernel_rfl) (fun _ h => by cases h) scanSteps_row_tie rfl ⟨rfl, rfl⟩ (by kernel_rfl) rfl plain (by kernel_rfl)
#print axioms proved
end Go.Proofs.YtkboncpfddnoaaaGreatDoor.scanSteps
