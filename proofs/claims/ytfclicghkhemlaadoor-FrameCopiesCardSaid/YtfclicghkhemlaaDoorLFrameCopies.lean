/- For every frame and choice the law FrameCopies answers true and leaves its argument as it was; the package's table of longer sizes is tied to the program's text. No conditions. -/
import Derived.Test.YtfclicghkhemlaaDoorRows
import Derived.Test.YtfclicghkhemlaaDoorCards
import Derived.Test.YtfclicghkhemlaaDoorTie
import Derived.Test.YtfclicghkhemlaaDoorFrmA
import Derived.Test.YtfclicghkhemlaaDoorFrmN
import Derived.Test.YtfclicghkhemlaaDoorOpn
import Derived.WalkKit
import Derived.ProofKit
import Derived.OpenShut
import Derived.ShutString
import Derived.ChangeOld
import Derived.Below
import Derived.Carry
import Derived.Lib.SmallJoins
import Derived.Deep.RegionWith
import Derived.Deep.RegionHeld3
import Derived.LaidMore
import Derived.LaidLaws
import Derived.Stop.Joined
import Derived.SevenTiedAt
namespace Go.Proofs.YtfclicghkhemlaaDoor.frameCopies
open Go.ChangeShapes Go.WideShapes Go.ChangeAt Go.RowKit Go.Joins
set_option linter.unusedVariables false
theorem own : ownKnob Tryd.prog.godebug = none := by kernel_rfl
theorem laidOut : laidOutB Tryd.prog = true := by kernel_rfl
theorem arr11 {α : Type} {cs : Array α} (h : cs.size = 11) : ∃ c0 c1 c2 c3 c4 c5 c6 c7 c8 c9 c10, cs = #[c0, c1, c2, c3, c4, c5, c6, c7, c8, c9, c10] := by
  obtain ⟨l⟩ := cs
  match l, h with
  | [c0, c1, c2, c3, c4, c5, c6, c7, c8, c9, c10], _ => exact ⟨c0, c1, c2, c3, c4, c5, c6, c7, c8, c9, c10, rfl⟩
theorem same_ff (f : Hd) (a a' : Option Addr) (cap cap' : Nat) (l : List Nat) (w : World) (h : Bs w a cap l) (h' : Bs w a' cap' l) :
    Calls Tryd.prog 12 #[.agg (f.cs (.slice a l.length cap)), .agg (f.cs (.slice a' l.length cap'))] w fun e w' => e = .returned (.bool true) ∧ Nb w w' := by
  have := same5_any f f a a' cap cap' l l w h h'
  rwa [sameF_rfl] at this
theorem same_ne (f g : Hd) (a a' : Option Addr) (cap cap' : Nat) (l l' : List Nat) (w : World) (h : Bs w a cap l) (h' : Bs w a' cap' l') (hn : f ≠ g ∨ l ≠ l') :
    Calls Tryd.prog 12 #[.agg (f.cs (.slice a l.length cap)), .agg (g.cs (.slice a' l'.length cap'))] w fun e w' => e = .returned (.bool false) ∧ Nb w w' := by
  have := same5_any f g a a' cap cap' l l' w h h'
  rwa [show sameF f g l l' = false from by
    cases h : sameF f g l l' with
    | false => rfl
    | true =>
      obtain ⟨h1, h2⟩ := (sameF_iff f g l l').1 h
      rcases hn with h3 | h3
      · exact absurd h1 h3
      · exact absurd h2 h3] at this
theorem inc8_ne {a : Int} (h : (Lit.int .u8 a).wf = true) : (a + 1) % 256 ≠ a := by
  simp [Lit.wf, IntKind.min, IntKind.max, IntKind.signed, IntKind.bits] at h
  omega
theorem inc32_ne {a : Int} (h : (Lit.int .u32 a).wf = true) : (a + 1) % 4294967296 ≠ a := by
  simp [Lit.wf, IntKind.min, IntKind.max, IntKind.signed, IntKind.bits] at h
  omega
theorem inc64_ne {a : Int} (h : (Lit.int .i64 a).wf = true) : wrap64 (a + 1) ≠ a := by
  rw [← IntWalk.i64_left]
  simp [Lit.wf, IntKind.min, IntKind.max, IntKind.signed, IntKind.bits] at h
  by_cases h1 : a < 9223372036854775807
  · rw [IntWalk.i64_in _ (by omega)]; omega
  · obtain rfl : a = 9223372036854775807 := by omega
    decide
set_option maxHeartbeats 16000000 in
set_option maxRecDepth 100000 in
theorem walk (w : World) (hK : Longer w) (a0_0 : Int) (w0_0 : (Lit.int .i64 a0_0).wf = true) (a0_1 : Int) (w0_1 : (Lit.int .u32 a0_1).wf = true) (a0_2 : Bool) (a0_3 : Bool) (a0_4 : Bool) (a0_5 : Bool) (a0_6 : Bool) (a0_7 : Int) (w0_7 : (Lit.int .u8 a0_7).wf = true) (a0_8 : Int) (w0_8 : (Lit.int .u8 a0_8).wf = true) (a0_9 : Int) (w0_9 : (Lit.int .u32 a0_9).wf = true) (a0_10 : Option Addr) (cap0_10 : Nat) (l0_10 : List Nat) (h0_10 : Bs w a0_10 cap0_10 l0_10) (n0_10 : a0_10 = none → cap0_10 = 0) (a1 : Int) (w1 : (Lit.int .u8 a1).wf = true) :
    Calls Tryd.prog 7 #[.agg #[.int .i64 a0_0, .int .u32 a0_1, .bool a0_2, .bool a0_3, .bool a0_4, .bool a0_5, .bool a0_6, .int .u8 a0_7, .int .u8 a0_8, .int .u32 a0_9, .slice a0_10 l0_10.length cap0_10], .int .u8 a1] w fun e w' => e = .returned (.bool true) ∧ Nb w w' := by
  obtain ⟨t, rfl, ht⟩ := u8_of_wf w1
  have HK := Lib.hid hK
  have hL := h0_10.len
  have HA := Lib.hid h0_10
  have HN := Lib.hid n0_10
  have QA := Lib.hid (Blk.new w #[.int .i64 a0_0, .int .u32 a0_1, .bool a0_2, .bool a0_3, .bool a0_4, .bool a0_5, .bool a0_6, .int .u8 a0_7, .int .u8 a0_8, .int .u32 a0_9, .slice a0_10 l0_10.length cap0_10] 25)
  clear hK h0_10 w1 n0_10
  by_cases g1 : 5000 < l0_10.length
  · clear w0_0 w0_1 w0_7 w0_8 w0_9
    go_enter Tryd.func7, Tryd.ntmps7
    go_wp2_with fail
    refine (alive5_any _ (HK.out.below (Nb.rfl.al _))).mono ?_
    rintro e w1 ⟨rfl, n1⟩
    have c10 := (QA.out.nb n1).cell 10
    go_wp2
    go_ret
    exact ⟨rfl, (Nb.rfl.al _).tr n1⟩
  have hlen : l0_10.length ≤ 5000 := by omega
  have F2 := Lib.hid (fun w' (h : Nb w w') => copy_any ⟨a0_0, a0_1, a0_2, a0_3, a0_4, a0_5, a0_6, a0_7, a0_8, a0_9⟩ a0_10 cap0_10 l0_10 w' (HA.out.below h) HN.out (by omega))
  have FC := Lib.hid (fun (a : Option Addr) (c : Nat) w' (h : Nb w w') (hb : Bs w' a c l0_10) => check5_any ⟨a0_0, a0_1, a0_2, a0_3, a0_4, a0_5, a0_6, a0_7, a0_8, a0_9⟩ a c l0_10 w' hb (HK.out.below h))
  generalize checkN ⟨a0_0, a0_1, a0_2, a0_3, a0_4, a0_5, a0_6, a0_7, a0_8, a0_9⟩ l0_10 = cn at *
  simp only [Hd.cs] at F2 FC
  have W0 := Lib.hid w0_0
  have W1 := Lib.hid w0_1
  have W7 := Lib.hid w0_7
  have W8 := Lib.hid w0_8
  have W9 := Lib.hid w0_9
  clear g1 w0_0 w0_1 w0_7 w0_8 w0_9
  go_enter Tryd.func7, Tryd.ntmps7
  go_wp2_with fail
  refine (alive5_any _ (HK.out.below (Nb.rfl.al _))).mono ?_
  rintro e w1 ⟨rfl, n1⟩
  have Q1 := Lib.hid (QA.out.nb n1)
  have m1 : Nb w w1 := (Nb.rfl.al _).tr n1
  obtain ⟨c0, c1, c2, c3, c4, c5, c6, c7, c8, c9, c10⟩ := Q1.out.c11
  clear n1
  go_wp2_with fail
  refine (F2.out _ m1).mono ?_
  rintro e w2 ⟨⟨p1, zc1, rfl, fr1⟩, n2⟩
  clear c0 c1 c2 c3 c4 c5 c6 c7 c8 c9 c10
  have Q2 := Lib.hid (Q1.out.nb n2)
  have m2 : Nb w w2 := m1.tr n2
  have FR1 := Lib.hid fr1
  have hlt1 : ∀ g, (Value.slice p1 l0_10.length zc1).ownBlock = some g → g < w2.heap.size := fun g hg => fr1.1.lt hg
  have hge1 : ∀ g, (Value.slice p1 l0_10.length zc1).ownBlock = some g → w.heap.size < g := fun g hg => Nat.lt_of_lt_of_le Q1.out.lt (fr1.2 g hg)
  have LT1 := Lib.hid hlt1
  have GE1 := Lib.hid hge1
  obtain ⟨w3, hw3⟩ : ∃ w3, w3 = w2.alloc (.cells #[.int .i64 a0_0, .int .u32 a0_1, .bool a0_2, .bool a0_3, .bool a0_4, .bool a0_5, .bool a0_6, .int .u8 a0_7, .int .u8 a0_8, .int .u32 a0_9, .slice p1 l0_10.length zc1] 25) := ⟨_, rfl⟩
  have QC := Lib.hid (show Blk w3 w2.heap.size #[.int .i64 a0_0, .int .u32 a0_1, .bool a0_2, .bool a0_3, .bool a0_4, .bool a0_5, .bool a0_6, .int .u8 a0_7, .int .u8 a0_8, .int .u32 a0_9, .slice p1 l0_10.length zc1] 25 by rw [hw3]; exact Blk.new w2 _ _)
  have n23 : Nb w2 w3 := by rw [hw3]; exact Nb.rfl.al _
  have Q3 := Lib.hid (Q2.out.nb n23)
  have m3 : Nb w w3 := m2.tr n23
  have B1 := Lib.hid (fun w' (h : Nb w3 w') => (fr1.bs.1.below n23).below h)
  have M3 := Lib.hid m3
  have N23 := Lib.hid n23
  have hsz : w.heap.size < w2.heap.size := Nat.lt_of_lt_of_le Q1.out.lt n2.size
  obtain ⟨c0, c1, c2, c3, c4, c5, c6, c7, c8, c9, c10⟩ := Q3.out.c11
  obtain ⟨d0, d1, d2, d3, d4, d5, d6, d7, d8, d9, d10⟩ := QC.out.c11
  clear fr1 n2 hlt1 hge1 n23 m1 m3
  go_wp2_with fail
  rw [← hw3]
  clear hw3
  have NB : RowKit.Hid (Nb w3 w3.drew) := Lib.hid (Below.drew (Below.refl _ _))
  go_region_held3 (fun w' => (w'.cell? ⟨w.heap.size, 0, none⟩ = some (.int .i64 a0_0) ∧ w'.cell? ⟨w.heap.size, 1, none⟩ = some (.int .u32 a0_1) ∧ w'.cell? ⟨w.heap.size, 2, none⟩ = some (.bool a0_2) ∧ w'.cell? ⟨w.heap.size, 3, none⟩ = some (.bool a0_3) ∧ w'.cell? ⟨w.heap.size, 4, none⟩ = some (.bool a0_4) ∧ w'.cell? ⟨w.heap.size, 5, none⟩ = some (.bool a0_5) ∧ w'.cell? ⟨w.heap.size, 6, none⟩ = some (.bool a0_6) ∧ w'.cell? ⟨w.heap.size, 7, none⟩ = some (.int .u8 a0_7) ∧ w'.cell? ⟨w.heap.size, 8, none⟩ = some (.int .u8 a0_8) ∧ w'.cell? ⟨w.heap.size, 9, none⟩ = some (.int .u32 a0_9) ∧ w'.cell? ⟨w.heap.size, 10, none⟩ = some (.slice a0_10 l0_10.length cap0_10)) ∧ (w'.cell? ⟨w2.heap.size, 0, none⟩ = some (.int .i64 a0_0) ∧ w'.cell? ⟨w2.heap.size, 1, none⟩ = some (.int .u32 a0_1) ∧ w'.cell? ⟨w2.heap.size, 2, none⟩ = some (.bool a0_2) ∧ w'.cell? ⟨w2.heap.size, 3, none⟩ = some (.bool a0_3) ∧ w'.cell? ⟨w2.heap.size, 4, none⟩ = some (.bool a0_4) ∧ w'.cell? ⟨w2.heap.size, 5, none⟩ = some (.bool a0_5) ∧ w'.cell? ⟨w2.heap.size, 6, none⟩ = some (.bool a0_6) ∧ w'.cell? ⟨w2.heap.size, 7, none⟩ = some (.int .u8 a0_7) ∧ w'.cell? ⟨w2.heap.size, 8, none⟩ = some (.int .u8 a0_8) ∧ w'.cell? ⟨w2.heap.size, 9, none⟩ = some (.int .u32 a0_9) ∧ w'.cell? ⟨w2.heap.size, 10, none⟩ = some (.slice p1 l0_10.length zc1))) (first | go_keep | exact ⟨(Q3.out.nb NB.out).c11, (QC.out.nb NB.out).c11⟩)
    (first
      | (go_at_call 12
         refine (same_ff ⟨a0_0, a0_1, a0_2, a0_3, a0_4, a0_5, a0_6, a0_7, a0_8, a0_9⟩ _ _ _ _ l0_10 _ ?_ ?_).mono ?_
         · first
             | exact B1.out _ NB.out
             | exact HA.out.below (M3.out.tr NB.out)
         · first
             | exact B1.out _ NB.out
             | exact HA.out.below (M3.out.tr NB.out)
         rintro e w7 ⟨rfl, n7⟩
         have NB := Lib.hid (NB.out.tr n7))
      | (go_at_call 10
         refine (FC.out _ _ _ (M3.out.tr NB.out) ?_).mono ?_
         · first
             | exact B1.out _ NB.out
             | exact HA.out.below (M3.out.tr NB.out)
         rintro e w7 ⟨rfl, n7⟩
         have NB := Lib.hid (NB.out.tr n7)))
  have n37 : Nb w3 w7 := NB.out
  have m7 : Nb w w7 := M3.out.tr n37
  have Q7 := Lib.hid (Q3.out.nb n37)
  have QC7 := Lib.hid (QC.out.nb n37)
  have N37 := Lib.hid n37
  clear NB c0 c1 c2 c3 c4 c5 c6 c7 c8 c9 c10 d0 d1 d2 d3 d4 d5 d6 d7 d8 d9 d10
  obtain ⟨c0, c1, c2, c3, c4, c5, c6, c7, c8, c9, c10⟩ := Q7.out.c11
  go_wp2_with fail

  refine (F2.out _ m7).mono ?_
  rintro e w8 ⟨⟨p2, zc2, rfl, fr2⟩, n8⟩
  clear c0 c1 c2 c3 c4 c5 c6 c7 c8 c9 c10
  have Q8 := Lib.hid (Q7.out.nb n8)
  have QC8 := Lib.hid (QC7.out.nb n8)
  have m8 : Nb w w8 := m7.tr n8
  have hlt2 : ∀ g, (Value.slice p2 l0_10.length zc2).ownBlock = some g → g < w8.heap.size := fun g hg => fr2.1.lt hg
  have hge2 : ∀ g, (Value.slice p2 l0_10.length zc2).ownBlock = some g → w7.heap.size ≤ g := fun g hg => fr2.2 g hg
  obtain ⟨w9, hw9⟩ : ∃ w9, w9 = w8.alloc (.cells #[.int .i64 a0_0, .int .u32 a0_1, .bool a0_2, .bool a0_3, .bool a0_4, .bool a0_5, .bool a0_6, .int .u8 a0_7, .int .u8 a0_8, .int .u32 a0_9, .slice p2 l0_10.length zc2] 25) := ⟨_, rfl⟩
  have QD9 := Lib.hid (show Blk w9 w8.heap.size #[.int .i64 a0_0, .int .u32 a0_1, .bool a0_2, .bool a0_3, .bool a0_4, .bool a0_5, .bool a0_6, .int .u8 a0_7, .int .u8 a0_8, .int .u32 a0_9, .slice p2 l0_10.length zc2] 25 by rw [hw9]; exact Blk.new w8 _ _)
  have n89 : Nb w8 w9 := by rw [hw9]; exact Nb.rfl.al _
  have Q9 := Lib.hid (Q8.out.nb n89)
  have QC9 := Lib.hid (QC8.out.nb n89)
  have m9 : Nb w w9 := m8.tr n89
  have O2 := Lib.hid (fr2.1.keep (F := fun _ => False) (Kp.ofNb n89) (by simp))
  have O1 := Lib.hid (FR1.out.1.keep (F := fun _ => False) (Kp.ofNb (((N23.out.tr N37.out).tr n8).tr n89)) (by simp))
  have hsz7 : w2.heap.size < w7.heap.size := QC7.out.lt
  have hsz8 : w7.heap.size ≤ w8.heap.size := n8.size
  have LT2 := Lib.hid hlt2
  have GE2 := Lib.hid hge2
  have M9 := Lib.hid m9
  have hdc := QD9.out.cell 10
  have hBs0 := Lib.hid (fun w' (h : Nb w w') => HA.out.below h)
  clear fr2 hlt2 hge2 n8 n89 m8 m9 m7
  go_wp2_with fail
  rw [← hw9]
  clear hw9
  go_wp2
  go_loopw [38] (fun i wr => ∃ (k : Nat) (m : List Nat), k ≤ l0_10.length ∧ i = .int .i64 k ∧ m.length = l0_10.length ∧ OwnB wr (.slice p2 l0_10.length zc2) m ∧ Kp (fun g => (Value.slice p2 l0_10.length zc2).ownBlock = some g) w9 wr ∧ m.getD 0 0 = (if k = 0 then l0_10.getD 0 0 else (l0_10.getD 0 0 + 1) % 256)) (fun i _ => l0_10.length - (intOf i).toNat)
  case atStart => exact ⟨0, l0_10, Nat.zero_le _, rfl, rfl, O2.out, Kp.rfl, rfl⟩
  case round =>
    obtain ⟨k, m, hk, rfl, hml, ho, hkp, hm0⟩ := hrel
    have HM0 := Lib.hid hm0
    have HML := Lib.hid hml
    clear hm0
    have hnd : ¬ (Value.slice p2 l0_10.length zc2).ownBlock = some w8.heap.size := fun h => by have := LT2.out _ h; omega
    have hncb : ¬ (Value.slice p2 l0_10.length zc2).ownBlock = some w2.heap.size := fun h => by have := GE2.out _ h; omega
    have hnfb : ¬ (Value.slice p2 l0_10.length zc2).ownBlock = some w.heap.size := fun h => by have := GE2.out _ h; omega
    have dk := QD9.out.keep hkp hnd
    by_cases hlt : k < l0_10.length
    · have d10 := dk.cell 10
      obtain ⟨g, cap, hv⟩ := ho.shape (by omega)
      simp only [Value.slice.injEq] at hv
      obtain ⟨rfl, _, rfl⟩ := hv
      obtain ⟨x, hx⟩ : ∃ x, m.getD k 0 = x := ⟨_, rfl⟩
      have hx256 : x < 256 := by rw [← hx]; exact ho.asBs.1.getD_lt k
      have cx : wr.cell? ⟨g, k, none⟩ = some (.int .u8 (x : Int)) := by rw [← hx]; exact ho.cell k (by omega)
      have fx := ho.frozen (g := g) rfl k
      have hset := ho.setByte (g := g) rfl k (by omega) ((x + 1) % 256) (by omega)
      have hkp2 := hkp.tr (Kp.set (F := fun y => y = g) (w := wr) (p := ⟨g, k, none⟩) (u := .int .u8 (((x + 1) % 256 : Nat) : Int)) rfl) (fun y hy => .inl (by rw [hy]; rfl))
      have hxe : ((x : Int) + 1) % 256 = (((x + 1) % 256 : Nat) : Int) := by omega
      have hset0 : (m.set k ((x + 1) % 256)).getD 0 0 = (if k + 1 = 0 then l0_10.getD 0 0 else (l0_10.getD 0 0 + 1) % 256) := by
        rw [set_getD _ _ _ _ (by omega), if_neg (by omega : ¬ k + 1 = 0)]
        by_cases h0 : 0 = k
        · subst h0
          rw [if_pos rfl, ← hx, HM0.out, if_pos rfl]
        · rw [if_neg h0, HM0.out, if_neg (by omega)]
      have HS0 := Lib.hid hset0
      have HS := Lib.hid hset
      have HL2 := Lib.hid (show (m.set k ((x + 1) % 256)).length = l0_10.length by rw [List.length_set]; exact hml)
      have HKP := Lib.hid hkp2
      generalize m.set k ((x + 1) % 256) = m2 at *
      obtain ⟨y, hy⟩ : ∃ y, (x + 1) % 256 = y := ⟨_, rfl⟩
      rw [hy] at hxe HS HKP
      clear hset hkp2 hset0 hx ho hkp hml hy dk hnd hncb hnfb
      go_wp2
      go_roundw
      case rel => exact ⟨k + 1, m2, by omega, by go_num, HL2.out, HS.out, HKP.out, HS0.out⟩
      case measure => simp [intOf]; omega
    · obtain rfl : k = l0_10.length := by omega
      have fk := Q9.out.keep hkp hnfb
      have ck := QC9.out.keep hkp hncb
      have hbel : Nb w wr := M9.out.trans (hkp.toBelow M9.out.size (fun g hg => by have := GE2.out g hg; have := m2.size; omega))
      have hO1 := O1.out.keep hkp (fun g hg h => by have := LT1.out g hg; have := GE2.out g h; omega)
      have hb2 := ho.asBs.1
      obtain ⟨c0, c1, c2, c3, c4, c5, c6, c7, c8, c9, c10⟩ := fk.c11
      obtain ⟨d0, d1, d2, d3, d4, d5, d6, d7, d8, d9, d10⟩ := ck.c11
      obtain ⟨e0, e1, e2, e3, e4, e5, e6, e7, e8, e9, e10⟩ := dk.c11
      have FK := Lib.hid fk
      have CK := Lib.hid ck
      have DK := Lib.hid dk
      have BEL := Lib.hid hbel
      have OO1 := Lib.hid hO1
      have BB2 := Lib.hid hb2
      have SCF := Lib.hid (fun w' (h : Nb wr w') => same_ff ⟨a0_0, a0_1, a0_2, a0_3, a0_4, a0_5, a0_6, a0_7, a0_8, a0_9⟩ p1 a0_10 zc1 cap0_10 l0_10 w' (OO1.out.asBs.1.below h) (HA.out.below (BEL.out.tr h)))
      clear fk ck dk hbel hO1 hb2 hkp ho
      have hpost : ∃ w10, True := ⟨wr, trivial⟩
      by_cases h0 : l0_10.length = 0
      · have hd0 : (l0_10.length : Int) < 1 := by omega
        simp only [Hd.cs] at SCF
        clear h0 hpost hml
        go_wp2_with fail
        refine (SCF.out _ Nb.rfl).mono ?_
        rintro e w11 ⟨rfl, n1⟩
        have hcz := CK.out.nb n1
        obtain ⟨c0, c1, c2, c3, c4, c5, c6, c7, c8, c9, c10⟩ := (FK.out.nb n1).c11
        obtain ⟨d0, d1, d2, d3, d4, d5, d6, d7, d8, d9, d10⟩ := hcz.c11
        obtain ⟨f0, f1, f2, f3, f4, f5, f6, f7, f8, f9, f10⟩ := hcz.f11
        have SO := Lib.hid (fun (i : Nat) (u : Value) => (OO1.out.keep (F := fun _ => False) (Kp.ofNb n1) (by simp)).keep (Kp.set (F := fun g => g = w2.heap.size) (w := w11) (p := ⟨w2.heap.size, i, none⟩) (u := u) rfl) (fun g hg h => by have := LT1.out g hg; omega))
        have hwz : Nb w w11 := BEL.out.tr n1
        have SN := Lib.hid (fun (i : Nat) (u : Value) => hwz.st (p := ⟨w2.heap.size, i, none⟩) (by show w.heap.size ≤ w2.heap.size; omega) u)
        have OZ := Lib.hid (OO1.out.keep (F := fun _ => False) (Kp.ofNb n1) (by simp))
        have CZ := Lib.hid hcz
        have FZ := Lib.hid (FK.out.nb n1)
        have WN := Lib.hid hwz
        clear hcz hwz n1
        have hr := Nat.mod_lt t (show 11 > 0 by decide)
        have hk1 : (t : Int).tmod 11 = ((t % 11 : Nat) : Int) := by push_cast; exact Int.tmod_eq_emod_of_nonneg (by omega)
        have hk2 : (t : Int) % 11 = ((t % 11 : Nat) : Int) := by push_cast; rfl
        rcases (by omega : t % 11 = 0 ∨ t % 11 = 1 ∨ t % 11 = 2 ∨ t % 11 = 3 ∨ t % 11 = 4 ∨ t % 11 = 5 ∨ t % 11 = 6 ∨ t % 11 = 7 ∨ t % 11 = 8 ∨ t % 11 = 9 ∨ t % 11 = 10) with h | h | h | h | h | h | h | h | h | h | h <;> rw [h] at hk1 hk2 <;> clear h hr
        · go_wp2_with fail
          refine (same_ne ⟨_, a0_1, a0_2, a0_3, a0_4, a0_5, a0_6, a0_7, a0_8, a0_9⟩ ⟨a0_0, a0_1, a0_2, a0_3, a0_4, a0_5, a0_6, a0_7, a0_8, a0_9⟩ _ _ _ _ l0_10 l0_10 _ ?_ ?_ (.inl ?_)).mono ?_
          · exact (SO.out _ _).asBs.1
          · exact HA.out.below (SN.out _ _)
          · exact fun h => inc64_ne W0.out (congrArg Hd.K h)
          rintro e wf ⟨rfl, nf⟩
          go_wp2
          go_ret
          exact ⟨rfl, (SN.out _ _).tr nf⟩
        · go_wp2_with fail
          refine (same_ne ⟨a0_0, _, a0_2, a0_3, a0_4, a0_5, a0_6, a0_7, a0_8, a0_9⟩ ⟨a0_0, a0_1, a0_2, a0_3, a0_4, a0_5, a0_6, a0_7, a0_8, a0_9⟩ _ _ _ _ l0_10 l0_10 _ ?_ ?_ (.inl ?_)).mono ?_
          · exact (SO.out _ _).asBs.1
          · exact HA.out.below (SN.out _ _)
          · exact fun h => inc32_ne W1.out (congrArg Hd.I h)
          rintro e wf ⟨rfl, nf⟩
          go_wp2
          go_ret
          exact ⟨rfl, (SN.out _ _).tr nf⟩
        · go_wp2_with fail
          refine (same_ne ⟨a0_0, a0_1, _, a0_3, a0_4, a0_5, a0_6, a0_7, a0_8, a0_9⟩ ⟨a0_0, a0_1, a0_2, a0_3, a0_4, a0_5, a0_6, a0_7, a0_8, a0_9⟩ _ _ _ _ l0_10 l0_10 _ ?_ ?_ (.inl ?_)).mono ?_
          · exact (SO.out _ _).asBs.1
          · exact HA.out.below (SN.out _ _)
          · exact fun h => absurd (congrArg Hd.X h) (by cases a0_2 <;> simp)
          rintro e wf ⟨rfl, nf⟩
          go_wp2
          go_ret
          exact ⟨rfl, (SN.out _ _).tr nf⟩
        · go_wp2_with fail
          refine (same_ne ⟨a0_0, a0_1, a0_2, _, a0_4, a0_5, a0_6, a0_7, a0_8, a0_9⟩ ⟨a0_0, a0_1, a0_2, a0_3, a0_4, a0_5, a0_6, a0_7, a0_8, a0_9⟩ _ _ _ _ l0_10 l0_10 _ ?_ ?_ (.inl ?_)).mono ?_
          · exact (SO.out _ _).asBs.1
          · exact HA.out.below (SN.out _ _)
          · exact fun h => absurd (congrArg Hd.R h) (by cases a0_3 <;> simp)
          rintro e wf ⟨rfl, nf⟩
          go_wp2
          go_ret
          exact ⟨rfl, (SN.out _ _).tr nf⟩
        · go_wp2_with fail
          refine (same_ne ⟨a0_0, a0_1, a0_2, a0_3, _, a0_5, a0_6, a0_7, a0_8, a0_9⟩ ⟨a0_0, a0_1, a0_2, a0_3, a0_4, a0_5, a0_6, a0_7, a0_8, a0_9⟩ _ _ _ _ l0_10 l0_10 _ ?_ ?_ (.inl ?_)).mono ?_
          · exact (SO.out _ _).asBs.1
          · exact HA.out.below (SN.out _ _)
          · exact fun h => absurd (congrArg Hd.B h) (by cases a0_4 <;> simp)
          rintro e wf ⟨rfl, nf⟩
          go_wp2
          go_ret
          exact ⟨rfl, (SN.out _ _).tr nf⟩
        · go_wp2_with fail
          refine (same_ne ⟨a0_0, a0_1, a0_2, a0_3, a0_4, _, a0_6, a0_7, a0_8, a0_9⟩ ⟨a0_0, a0_1, a0_2, a0_3, a0_4, a0_5, a0_6, a0_7, a0_8, a0_9⟩ _ _ _ _ l0_10 l0_10 _ ?_ ?_ (.inl ?_)).mono ?_
          · exact (SO.out _ _).asBs.1
          · exact HA.out.below (SN.out _ _)
          · exact fun h => absurd (congrArg Hd.E h) (by cases a0_5 <;> simp)
          rintro e wf ⟨rfl, nf⟩
          go_wp2
          go_ret
          exact ⟨rfl, (SN.out _ _).tr nf⟩
        · go_wp2_with fail
          refine (same_ne ⟨a0_0, a0_1, a0_2, a0_3, a0_4, a0_5, _, a0_7, a0_8, a0_9⟩ ⟨a0_0, a0_1, a0_2, a0_3, a0_4, a0_5, a0_6, a0_7, a0_8, a0_9⟩ _ _ _ _ l0_10 l0_10 _ ?_ ?_ (.inl ?_)).mono ?_
          · exact (SO.out _ _).asBs.1
          · exact HA.out.below (SN.out _ _)
          · exact fun h => absurd (congrArg Hd.S h) (by cases a0_6 <;> simp)
          rintro e wf ⟨rfl, nf⟩
          go_wp2
          go_ret
          exact ⟨rfl, (SN.out _ _).tr nf⟩
        · go_wp2_with fail
          refine (same_ne ⟨a0_0, a0_1, a0_2, a0_3, a0_4, a0_5, a0_6, _, a0_8, a0_9⟩ ⟨a0_0, a0_1, a0_2, a0_3, a0_4, a0_5, a0_6, a0_7, a0_8, a0_9⟩ _ _ _ _ l0_10 l0_10 _ ?_ ?_ (.inl ?_)).mono ?_
          · exact (SO.out _ _).asBs.1
          · exact HA.out.below (SN.out _ _)
          · exact fun h => inc8_ne W7.out (congrArg Hd.D h)
          rintro e wf ⟨rfl, nf⟩
          go_wp2
          go_ret
          exact ⟨rfl, (SN.out _ _).tr nf⟩
        · go_wp2_with fail
          refine (same_ne ⟨a0_0, a0_1, a0_2, a0_3, a0_4, a0_5, a0_6, a0_7, _, a0_9⟩ ⟨a0_0, a0_1, a0_2, a0_3, a0_4, a0_5, a0_6, a0_7, a0_8, a0_9⟩ _ _ _ _ l0_10 l0_10 _ ?_ ?_ (.inl ?_)).mono ?_
          · exact (SO.out _ _).asBs.1
          · exact HA.out.below (SN.out _ _)
          · exact fun h => inc8_ne W8.out (congrArg Hd.V h)
          rintro e wf ⟨rfl, nf⟩
          go_wp2
          go_ret
          exact ⟨rfl, (SN.out _ _).tr nf⟩
        · go_wp2_with fail
          refine (same_ne ⟨a0_0, a0_1, a0_2, a0_3, a0_4, a0_5, a0_6, a0_7, a0_8, _⟩ ⟨a0_0, a0_1, a0_2, a0_3, a0_4, a0_5, a0_6, a0_7, a0_8, a0_9⟩ _ _ _ _ l0_10 l0_10 _ ?_ ?_ (.inl ?_)).mono ?_
          · exact (SO.out _ _).asBs.1
          · exact HA.out.below (SN.out _ _)
          · exact fun h => inc32_ne W9.out (congrArg Hd.A h)
          rintro e wf ⟨rfl, nf⟩
          go_wp2
          go_ret
          exact ⟨rfl, (SN.out _ _).tr nf⟩
        · have hone : Bs (w11.alloc (.cells #[.int .u8 0] 5)) (some ⟨w11.heap.size, 0, none⟩) 1 [0] :=
            ⟨by simp, by simp [maxLen], by simp, fun _ => ⟨_, 0, rfl, fun j hj => by
              obtain rfl : j = 0 := by simp at hj; omega
              exact (Blk.new w11 #[.int .u8 0] 5).cell 0⟩⟩
          have ho11 := OZ.out.keep (Kp.alloc (F := fun _ => False) (o := .cells #[.int .u8 0] 5)) (by simp)
          have HO := Lib.hid hone
          have OO := Lib.hid ho11
          clear hone ho11
          go_wp2_with (at_builtin; refine wpList_appB _ rfl (.tmp 129) (.tmp 130) rfl _ l0_10 rfl OO.out (some ⟨w11.heap.size, 0, none⟩) 1 [0] 1 rfl rfl HO.out (by simp) (by simp; omega) ?_)
          intro v12 w12 ho12 hk12 hf12
          obtain ⟨m2, hm2⟩ : ∃ m2, m2 = l0_10 ++ [0] := ⟨_, rfl⟩
          rw [← hm2] at ho12
          have hne : m2 ≠ l0_10 := fun h => by
            have h2 := congrArg List.length h
            rw [hm2] at h2
            simp only [List.length_append, List.length_cons, List.length_nil] at h2
            omega
          obtain ⟨a12, zc12, rfl, _⟩ := ho12.bs
          have hk13 : Kp (fun g => (Value.slice p1 l0_10.length zc1).ownBlock = some g) w11 w12 := (Kp.alloc (F := fun g => (Value.slice p1 l0_10.length zc1).ownBlock = some g)).tr hk12 (fun _ h => .inl h)
          have hcb := CZ.out.keep hk13 (fun h => by have := LT1.out _ h; omega)
          have hfb := (FZ.out).keep hk13 (fun h => by have := GE1.out _ h; omega)
          have hbel : Nb w w12 := WN.out.trans (hk13.toBelow WN.out.size (fun g hg => by have := GE1.out g hg; omega))
          have hown : ∀ u, OwnB (w12.setCell ⟨w2.heap.size, 10, none⟩ u) (.slice a12 m2.length zc12) m2 := fun u => ho12.keep (Kp.set (F := fun g => g = w2.heap.size) rfl) (fun g hg h => by
            have hlt := CZ.out.lt
            rcases hf12 g hg with h3 | h3
            · have := LT1.out g h3; omega
            · first | omega | (simp at h3; omega))
          have hnb : ∀ u, Nb w (w12.setCell ⟨w2.heap.size, 10, none⟩ u) := fun u => hbel.st (p := ⟨w2.heap.size, 10, none⟩) (by show w.heap.size ≤ w2.heap.size; omega) u
          have hl2 : m2.length ≤ 6000 := by rw [hm2, List.length_append]; simp; omega
          have NE := Lib.hid hne
          have OW := Lib.hid hown
          have NW := Lib.hid hnb
          clear c0 c1 c2 c3 c4 c5 c6 c7 c8 c9 c10 d0 d1 d2 d3 d4 d5 d6 d7 d8 d9 d10 f0 f1 f2 f3 f4 f5 f6 f7 f8 f9 f10 hm2 hne hown hnb ho12 hk12 hf12 hk13 hbel
          obtain ⟨c0, c1, c2, c3, c4, c5, c6, c7, c8, c9, c10⟩ := hfb.c11
          obtain ⟨d0, d1, d2, d3, d4, d5, d6, d7, d8, d9, d10⟩ := hcb.c11
          obtain ⟨f0, f1, f2, f3, f4, f5, f6, f7, f8, f9, f10⟩ := hcb.f11
          clear hcb hfb
          go_wp2_with fail
          refine (same_ne ⟨a0_0, a0_1, a0_2, a0_3, a0_4, a0_5, a0_6, a0_7, a0_8, a0_9⟩ ⟨a0_0, a0_1, a0_2, a0_3, a0_4, a0_5, a0_6, a0_7, a0_8, a0_9⟩ _ _ _ _ m2 l0_10 _ ?_ ?_ (.inr NE.out)).mono ?_
          · exact (OW.out _).asBs.1
          · exact HA.out.below (NW.out _)
          rintro e wf ⟨rfl, nf⟩
          go_wp2
          go_ret
          exact ⟨rfl, (NW.out _).tr nf⟩
      · have hpos : 0 < l0_10.length := by omega
        have hne : m ≠ l0_10 := fun h => by
          have h2 := HM0.out
          rw [if_neg h0, h] at h2
          have := HA.out.getD_lt 0
          omega
        have SDF := same_ne ⟨a0_0, a0_1, a0_2, a0_3, a0_4, a0_5, a0_6, a0_7, a0_8, a0_9⟩ ⟨a0_0, a0_1, a0_2, a0_3, a0_4, a0_5, a0_6, a0_7, a0_8, a0_9⟩ p2 a0_10 zc2 cap0_10 m l0_10 wr BB2.out (HA.out.below BEL.out) (.inr hne)
        rw [HML.out] at SDF
        simp only [Hd.cs] at SDF SCF
        have SD := Lib.hid SDF
        clear SDF hne h0 hpost hml
        go_wp2_with fail
        refine SD.out.mono ?_
        rintro e w10 ⟨rfl, n10⟩
        obtain ⟨c0, c1, c2, c3, c4, c5, c6, c7, c8, c9, c10⟩ := (FK.out.nb n10).c11
        obtain ⟨d0, d1, d2, d3, d4, d5, d6, d7, d8, d9, d10⟩ := (CK.out.nb n10).c11
        go_wp2_with fail
        refine (SCF.out _ n10).mono ?_
        rintro e w11 ⟨rfl, n11⟩
        have n1 : Nb wr w11 := n10.tr n11
        clear c0 c1 c2 c3 c4 c5 c6 c7 c8 c9 c10 d0 d1 d2 d3 d4 d5 d6 d7 d8 d9 d10 n10 n11
        have hcz := CK.out.nb n1
        obtain ⟨c0, c1, c2, c3, c4, c5, c6, c7, c8, c9, c10⟩ := (FK.out.nb n1).c11
        obtain ⟨d0, d1, d2, d3, d4, d5, d6, d7, d8, d9, d10⟩ := hcz.c11
        obtain ⟨f0, f1, f2, f3, f4, f5, f6, f7, f8, f9, f10⟩ := hcz.f11
        have SO := Lib.hid (fun (i : Nat) (u : Value) => (OO1.out.keep (F := fun _ => False) (Kp.ofNb n1) (by simp)).keep (Kp.set (F := fun g => g = w2.heap.size) (w := w11) (p := ⟨w2.heap.size, i, none⟩) (u := u) rfl) (fun g hg h => by have := LT1.out g hg; omega))
        have hwz : Nb w w11 := BEL.out.tr n1
        have SN := Lib.hid (fun (i : Nat) (u : Value) => hwz.st (p := ⟨w2.heap.size, i, none⟩) (by show w.heap.size ≤ w2.heap.size; omega) u)
        have OZ := Lib.hid (OO1.out.keep (F := fun _ => False) (Kp.ofNb n1) (by simp))
        have CZ := Lib.hid hcz
        have FZ := Lib.hid (FK.out.nb n1)
        have WN := Lib.hid hwz
        clear hcz hwz n1
        have hr := Nat.mod_lt t (show 11 > 0 by decide)
        have hk1 : (t : Int).tmod 11 = ((t % 11 : Nat) : Int) := by push_cast; exact Int.tmod_eq_emod_of_nonneg (by omega)
        have hk2 : (t : Int) % 11 = ((t % 11 : Nat) : Int) := by push_cast; rfl
        rcases (by omega : t % 11 = 0 ∨ t % 11 = 1 ∨ t % 11 = 2 ∨ t % 11 = 3 ∨ t % 11 = 4 ∨ t % 11 = 5 ∨ t % 11 = 6 ∨ t % 11 = 7 ∨ t % 11 = 8 ∨ t % 11 = 9 ∨ t % 11 = 10) with h | h | h | h | h | h | h | h | h | h | h <;> rw [h] at hk1 hk2 <;> clear h hr
        · go_wp2_with fail
          refine (same_ne ⟨_, a0_1, a0_2, a0_3, a0_4, a0_5, a0_6, a0_7, a0_8, a0_9⟩ ⟨a0_0, a0_1, a0_2, a0_3, a0_4, a0_5, a0_6, a0_7, a0_8, a0_9⟩ _ _ _ _ l0_10 l0_10 _ ?_ ?_ (.inl ?_)).mono ?_
          · exact (SO.out _ _).asBs.1
          · exact HA.out.below (SN.out _ _)
          · exact fun h => inc64_ne W0.out (congrArg Hd.K h)
          rintro e wf ⟨rfl, nf⟩
          go_wp2
          go_ret
          exact ⟨rfl, (SN.out _ _).tr nf⟩
        · go_wp2_with fail
          refine (same_ne ⟨a0_0, _, a0_2, a0_3, a0_4, a0_5, a0_6, a0_7, a0_8, a0_9⟩ ⟨a0_0, a0_1, a0_2, a0_3, a0_4, a0_5, a0_6, a0_7, a0_8, a0_9⟩ _ _ _ _ l0_10 l0_10 _ ?_ ?_ (.inl ?_)).mono ?_
          · exact (SO.out _ _).asBs.1
          · exact HA.out.below (SN.out _ _)
          · exact fun h => inc32_ne W1.out (congrArg Hd.I h)
          rintro e wf ⟨rfl, nf⟩
          go_wp2
          go_ret
          exact ⟨rfl, (SN.out _ _).tr nf⟩
        · go_wp2_with fail
          refine (same_ne ⟨a0_0, a0_1, _, a0_3, a0_4, a0_5, a0_6, a0_7, a0_8, a0_9⟩ ⟨a0_0, a0_1, a0_2, a0_3, a0_4, a0_5, a0_6, a0_7, a0_8, a0_9⟩ _ _ _ _ l0_10 l0_10 _ ?_ ?_ (.inl ?_)).mono ?_
          · exact (SO.out _ _).asBs.1
          · exact HA.out.below (SN.out _ _)
          · exact fun h => absurd (congrArg Hd.X h) (by cases a0_2 <;> simp)
          rintro e wf ⟨rfl, nf⟩
          go_wp2
          go_ret
          exact ⟨rfl, (SN.out _ _).tr nf⟩
        · go_wp2_with fail
          refine (same_ne ⟨a0_0, a0_1, a0_2, _, a0_4, a0_5, a0_6, a0_7, a0_8, a0_9⟩ ⟨a0_0, a0_1, a0_2, a0_3, a0_4, a0_5, a0_6, a0_7, a0_8, a0_9⟩ _ _ _ _ l0_10 l0_10 _ ?_ ?_ (.inl ?_)).mono ?_
          · exact (SO.out _ _).asBs.1
          · exact HA.out.below (SN.out _ _)
          · exact fun h => absurd (congrArg Hd.R h) (by cases a0_3 <;> simp)
          rintro e wf ⟨rfl, nf⟩
          go_wp2
          go_ret
          exact ⟨rfl, (SN.out _ _).tr nf⟩
        · go_wp2_with fail
          refine (same_ne ⟨a0_0, a0_1, a0_2, a0_3, _, a0_5, a0_6, a0_7, a0_8, a0_9⟩ ⟨a0_0, a0_1, a0_2, a0_3, a0_4, a0_5, a0_6, a0_7, a0_8, a0_9⟩ _ _ _ _ l0_10 l0_10 _ ?_ ?_ (.inl ?_)).mono ?_
          · exact (SO.out _ _).asBs.1
          · exact HA.out.below (SN.out _ _)
          · exact fun h => absurd (congrArg Hd.B h) (by cases a0_4 <;> simp)
          rintro e wf ⟨rfl, nf⟩
          go_wp2
          go_ret
          exact ⟨rfl, (SN.out _ _).tr nf⟩
        · go_wp2_with fail
          refine (same_ne ⟨a0_0, a0_1, a0_2, a0_3, a0_4, _, a0_6, a0_7, a0_8, a0_9⟩ ⟨a0_0, a0_1, a0_2, a0_3, a0_4, a0_5, a0_6, a0_7, a0_8, a0_9⟩ _ _ _ _ l0_10 l0_10 _ ?_ ?_ (.inl ?_)).mono ?_
          · exact (SO.out _ _).asBs.1
          · exact HA.out.below (SN.out _ _)
          · exact fun h => absurd (congrArg Hd.E h) (by cases a0_5 <;> simp)
          rintro e wf ⟨rfl, nf⟩
          go_wp2
          go_ret
          exact ⟨rfl, (SN.out _ _).tr nf⟩
        · go_wp2_with fail
          refine (same_ne ⟨a0_0, a0_1, a0_2, a0_3, a0_4, a0_5, _, a0_7, a0_8, a0_9⟩ ⟨a0_0, a0_1, a0_2, a0_3, a0_4, a0_5, a0_6, a0_7, a0_8, a0_9⟩ _ _ _ _ l0_10 l0_10 _ ?_ ?_ (.inl ?_)).mono ?_
          · exact (SO.out _ _).asBs.1
          · exact HA.out.below (SN.out _ _)
          · exact fun h => absurd (congrArg Hd.S h) (by cases a0_6 <;> simp)
          rintro e wf ⟨rfl, nf⟩
          go_wp2
          go_ret
          exact ⟨rfl, (SN.out _ _).tr nf⟩
        · go_wp2_with fail
          refine (same_ne ⟨a0_0, a0_1, a0_2, a0_3, a0_4, a0_5, a0_6, _, a0_8, a0_9⟩ ⟨a0_0, a0_1, a0_2, a0_3, a0_4, a0_5, a0_6, a0_7, a0_8, a0_9⟩ _ _ _ _ l0_10 l0_10 _ ?_ ?_ (.inl ?_)).mono ?_
          · exact (SO.out _ _).asBs.1
          · exact HA.out.below (SN.out _ _)
          · exact fun h => inc8_ne W7.out (congrArg Hd.D h)
          rintro e wf ⟨rfl, nf⟩
          go_wp2
          go_ret
          exact ⟨rfl, (SN.out _ _).tr nf⟩
        · go_wp2_with fail
          refine (same_ne ⟨a0_0, a0_1, a0_2, a0_3, a0_4, a0_5, a0_6, a0_7, _, a0_9⟩ ⟨a0_0, a0_1, a0_2, a0_3, a0_4, a0_5, a0_6, a0_7, a0_8, a0_9⟩ _ _ _ _ l0_10 l0_10 _ ?_ ?_ (.inl ?_)).mono ?_
          · exact (SO.out _ _).asBs.1
          · exact HA.out.below (SN.out _ _)
          · exact fun h => inc8_ne W8.out (congrArg Hd.V h)
          rintro e wf ⟨rfl, nf⟩
          go_wp2
          go_ret
          exact ⟨rfl, (SN.out _ _).tr nf⟩
        · go_wp2_with fail
          refine (same_ne ⟨a0_0, a0_1, a0_2, a0_3, a0_4, a0_5, a0_6, a0_7, a0_8, _⟩ ⟨a0_0, a0_1, a0_2, a0_3, a0_4, a0_5, a0_6, a0_7, a0_8, a0_9⟩ _ _ _ _ l0_10 l0_10 _ ?_ ?_ (.inl ?_)).mono ?_
          · exact (SO.out _ _).asBs.1
          · exact HA.out.below (SN.out _ _)
          · exact fun h => inc32_ne W9.out (congrArg Hd.A h)
          rintro e wf ⟨rfl, nf⟩
          go_wp2
          go_ret
          exact ⟨rfl, (SN.out _ _).tr nf⟩
        · have hone : Bs (w11.alloc (.cells #[.int .u8 0] 5)) (some ⟨w11.heap.size, 0, none⟩) 1 [0] :=
            ⟨by simp, by simp [maxLen], by simp, fun _ => ⟨_, 0, rfl, fun j hj => by
              obtain rfl : j = 0 := by simp at hj; omega
              exact (Blk.new w11 #[.int .u8 0] 5).cell 0⟩⟩
          have ho11 := OZ.out.keep (Kp.alloc (F := fun _ => False) (o := .cells #[.int .u8 0] 5)) (by simp)
          have HO := Lib.hid hone
          have OO := Lib.hid ho11
          clear hone ho11
          go_wp2_with (at_builtin; refine wpList_appB _ rfl (.tmp 129) (.tmp 130) rfl _ l0_10 rfl OO.out (some ⟨w11.heap.size, 0, none⟩) 1 [0] 1 rfl rfl HO.out (by simp) (by simp; omega) ?_)
          intro v12 w12 ho12 hk12 hf12
          obtain ⟨m2, hm2⟩ : ∃ m2, m2 = l0_10 ++ [0] := ⟨_, rfl⟩
          rw [← hm2] at ho12
          have hne : m2 ≠ l0_10 := fun h => by
            have h2 := congrArg List.length h
            rw [hm2] at h2
            simp only [List.length_append, List.length_cons, List.length_nil] at h2
            omega
          obtain ⟨a12, zc12, rfl, _⟩ := ho12.bs
          have hk13 : Kp (fun g => (Value.slice p1 l0_10.length zc1).ownBlock = some g) w11 w12 := (Kp.alloc (F := fun g => (Value.slice p1 l0_10.length zc1).ownBlock = some g)).tr hk12 (fun _ h => .inl h)
          have hcb := CZ.out.keep hk13 (fun h => by have := LT1.out _ h; omega)
          have hfb := (FZ.out).keep hk13 (fun h => by have := GE1.out _ h; omega)
          have hbel : Nb w w12 := WN.out.trans (hk13.toBelow WN.out.size (fun g hg => by have := GE1.out g hg; omega))
          have hown : ∀ u, OwnB (w12.setCell ⟨w2.heap.size, 10, none⟩ u) (.slice a12 m2.length zc12) m2 := fun u => ho12.keep (Kp.set (F := fun g => g = w2.heap.size) rfl) (fun g hg h => by
            have hlt := CZ.out.lt
            rcases hf12 g hg with h3 | h3
            · have := LT1.out g h3; omega
            · first | omega | (simp at h3; omega))
          have hnb : ∀ u, Nb w (w12.setCell ⟨w2.heap.size, 10, none⟩ u) := fun u => hbel.st (p := ⟨w2.heap.size, 10, none⟩) (by show w.heap.size ≤ w2.heap.size; omega) u
          have hl2 : m2.length ≤ 6000 := by rw [hm2, List.length_append]; simp; omega
          have NE := Lib.hid hne
          have OW := Lib.hid hown
          have NW := Lib.hid hnb
          clear c0 c1 c2 c3 c4 c5 c6 c7 c8 c9 c10 d0 d1 d2 d3 d4 d5 d6 d7 d8 d9 d10 f0 f1 f2 f3 f4 f5 f6 f7 f8 f9 f10 hm2 hne hown hnb ho12 hk12 hf12 hk13 hbel
          obtain ⟨c0, c1, c2, c3, c4, c5, c6, c7, c8, c9, c10⟩ := hfb.c11
          obtain ⟨d0, d1, d2, d3, d4, d5, d6, d7, d8, d9, d10⟩ := hcb.c11
          obtain ⟨f0, f1, f2, f3, f4, f5, f6, f7, f8, f9, f10⟩ := hcb.f11
          clear hcb hfb
          go_wp2_with fail
          refine (same_ne ⟨a0_0, a0_1, a0_2, a0_3, a0_4, a0_5, a0_6, a0_7, a0_8, a0_9⟩ ⟨a0_0, a0_1, a0_2, a0_3, a0_4, a0_5, a0_6, a0_7, a0_8, a0_9⟩ _ _ _ _ m2 l0_10 _ ?_ ?_ (.inr NE.out)).mono ?_
          · exact (OW.out _).asBs.1
          · exact HA.out.below (NW.out _)
          rintro e wf ⟨rfl, nf⟩
          go_wp2
          go_ret
          exact ⟨rfl, (NW.out _).tr nf⟩

theorem door_met (os : Os) (args : Array Value) : laidMetH Tryd.prog Rows.frameCopiesRow.laid ((World.doorLaid Tryd.prog 14 os).forCall (fun _ _ => 0) ⟨#[], args, []⟩).memory :=
  laidMetH_of_parts3 (fuel := 8) (laidMet_of_run' 8 (by kernel_rfl) (by kernel_rfl)) (by kernel_rfl) (by kernel_rfl)
set_option maxHeartbeats 2000000 in
set_option maxRecDepth 100000 in
theorem lifted (os : Os) (started : os.Started) (H : Type) (enc : TypeId × Value → H) :
    ReturnsInHanded {} Tryd.checked os 7 .any (fun w args => (Rows.frameCopiesSpec.pre enc Tryd.prog Tryd.f7 [] false w args ∧ laidMetH Tryd.prog Rows.frameCopiesRow.laid w) ∧ sizedMet enc Tryd.prog Tryd.f7 (OpenSpec.ofChange Rows.frameCopiesSpec) false w args)
      (Rows.frameCopiesSpec.post enc Tryd.prog Tryd.f7 false true false false) := by
  refine returnsInHanded_of_change_and (C := Tryd.checked) (X := fun w _ => laidMetH Tryd.prog Rows.frameCopiesRow.laid w) (fun _ _ _ hh h => h.of_heap hh) own started (by kernel_rfl) Tryd.func7
    (ChangeSpec.witness_shaped (enc := enc) (C := Tryd.checked) (os := os) (X := fun w _ => laidMetH Tryd.prog Rows.frameCopiesRow.laid w) false (World.doorLaid Tryd.prog 14 os) #[.agg #[.int .i64 0, .int .u32 0, .bool false, .bool false, .bool false, .bool false, .bool false, .int .u8 0, .int .u8 0, .int .u32 0, .slice none 0 0], .int .u8 0] 8 rfl (World.shaped_of_RefB (by kernel_rfl) (by kernel_rfl)) (by kernel_rfl) (by kernel_rfl) (by kernel_rfl) (door_met os _)) ?_
  intro W base args ds gs before hval0 hW _ hR hL _
  have hval : ∀ (j : Nat) t v, Tryd.f7.params[j]? = some t → args[j]? = some v → Value.okWide Tryd.prog W .any base t v := hval0
  have hW' := hW
  obtain ⟨p, q, hA0, hV, rfl, hfz, hnd⟩ := hW
  have hA : DataW.TrodAll enc Tryd.prog W 0 (fun _ => true) true Tryd.f7.params.toList args.toList ds p := hA0
  rw [Tryd.params7] at hA hval
  obtain ⟨v0, vs0, d0, ds0, p0, q0, hargs, rfl, rfl, h0, r0⟩ := trodAll_cons hA
  obtain ⟨v1, vs1, d1, ds1, p1, q1, rfl, rfl, rfl, h1, r1⟩ := trodAll_cons r0
  obtain ⟨rfl, rfl, rfl⟩ := trodAll_nil r1
  obtain rfl : args = #[v0, v1] := by cases args; simp_all
  obtain ⟨rfl, rfl⟩ := trodVars_none hV
  have k0 := h0
  have lt0 : ∀ x ∈ p0, x.block < W.heap.size := by obtain ⟨m, hm⟩ := k0; exact DataW.trod_lt m _ _ _ hm
  have k1 := h1
  have lt1 : ∀ x ∈ p1, x.block < W.heap.size := by obtain ⟨m, hm⟩ := k1; exact DataW.trod_lt m _ _ _ hm
  clear hA0
  obtain ⟨cs0, rfl, hz0⟩ := okWide_struct Tryd.underlying25 (hval 0 25 v0 rfl rfl)
  obtain ⟨c0_0, c0_1, c0_2, c0_3, c0_4, c0_5, c0_6, c0_7, c0_8, c0_9, c0_10, rfl⟩ := arr11 (hz0.trans (by kernel_rfl))
  obtain ⟨fu0, hf0⟩ := h0
  have hc0 : DataW.trod enc Tryd.prog W 0 (fun _ => true) true fu0 25 [c0_0, c0_1, c0_2, c0_3, c0_4, c0_5, c0_6, c0_7, c0_8, c0_9, c0_10] = some (d0, p0) := hf0
  obtain ⟨m0_0, y0_0, g0_0⟩ := open_fld Tryd.underlying25 hc0 0 _ rfl
  have t0_0 : DataW.trod enc Tryd.prog W 0 (fun _ => true) true m0_0 3 (([c0_0, c0_1, c0_2, c0_3, c0_4, c0_5, c0_6, c0_7, c0_8, c0_9, c0_10].drop 0).take (Tryd.prog.cellsOf 3)) = some y0_0 := g0_0
  rw [show Tryd.prog.cellsOf 3 = 1 from by kernel_rfl] at t0_0
  have u0_0 : DataW.trod enc Tryd.prog W 0 (fun _ => true) true m0_0 3 [c0_0] = some y0_0 := t0_0
  obtain ⟨m0_1, y0_1, g0_1⟩ := open_fld Tryd.underlying25 hc0 1 _ rfl
  have t0_1 : DataW.trod enc Tryd.prog W 0 (fun _ => true) true m0_1 22 (([c0_0, c0_1, c0_2, c0_3, c0_4, c0_5, c0_6, c0_7, c0_8, c0_9, c0_10].drop 1).take (Tryd.prog.cellsOf 22)) = some y0_1 := g0_1
  rw [show Tryd.prog.cellsOf 22 = 1 from by kernel_rfl] at t0_1
  have u0_1 : DataW.trod enc Tryd.prog W 0 (fun _ => true) true m0_1 22 [c0_1] = some y0_1 := t0_1
  obtain ⟨m0_2, y0_2, g0_2⟩ := open_fld Tryd.underlying25 hc0 2 _ rfl
  have t0_2 : DataW.trod enc Tryd.prog W 0 (fun _ => true) true m0_2 4 (([c0_0, c0_1, c0_2, c0_3, c0_4, c0_5, c0_6, c0_7, c0_8, c0_9, c0_10].drop 2).take (Tryd.prog.cellsOf 4)) = some y0_2 := g0_2
  rw [show Tryd.prog.cellsOf 4 = 1 from by kernel_rfl] at t0_2
  have u0_2 : DataW.trod enc Tryd.prog W 0 (fun _ => true) true m0_2 4 [c0_2] = some y0_2 := t0_2
  obtain ⟨m0_3, y0_3, g0_3⟩ := open_fld Tryd.underlying25 hc0 3 _ rfl
  have t0_3 : DataW.trod enc Tryd.prog W 0 (fun _ => true) true m0_3 4 (([c0_0, c0_1, c0_2, c0_3, c0_4, c0_5, c0_6, c0_7, c0_8, c0_9, c0_10].drop 3).take (Tryd.prog.cellsOf 4)) = some y0_3 := g0_3
  rw [show Tryd.prog.cellsOf 4 = 1 from by kernel_rfl] at t0_3
  have u0_3 : DataW.trod enc Tryd.prog W 0 (fun _ => true) true m0_3 4 [c0_3] = some y0_3 := t0_3
  obtain ⟨m0_4, y0_4, g0_4⟩ := open_fld Tryd.underlying25 hc0 4 _ rfl
  have t0_4 : DataW.trod enc Tryd.prog W 0 (fun _ => true) true m0_4 4 (([c0_0, c0_1, c0_2, c0_3, c0_4, c0_5, c0_6, c0_7, c0_8, c0_9, c0_10].drop 4).take (Tryd.prog.cellsOf 4)) = some y0_4 := g0_4
  rw [show Tryd.prog.cellsOf 4 = 1 from by kernel_rfl] at t0_4
  have u0_4 : DataW.trod enc Tryd.prog W 0 (fun _ => true) true m0_4 4 [c0_4] = some y0_4 := t0_4
  obtain ⟨m0_5, y0_5, g0_5⟩ := open_fld Tryd.underlying25 hc0 5 _ rfl
  have t0_5 : DataW.trod enc Tryd.prog W 0 (fun _ => true) true m0_5 4 (([c0_0, c0_1, c0_2, c0_3, c0_4, c0_5, c0_6, c0_7, c0_8, c0_9, c0_10].drop 5).take (Tryd.prog.cellsOf 4)) = some y0_5 := g0_5
  rw [show Tryd.prog.cellsOf 4 = 1 from by kernel_rfl] at t0_5
  have u0_5 : DataW.trod enc Tryd.prog W 0 (fun _ => true) true m0_5 4 [c0_5] = some y0_5 := t0_5
  obtain ⟨m0_6, y0_6, g0_6⟩ := open_fld Tryd.underlying25 hc0 6 _ rfl
  have t0_6 : DataW.trod enc Tryd.prog W 0 (fun _ => true) true m0_6 4 (([c0_0, c0_1, c0_2, c0_3, c0_4, c0_5, c0_6, c0_7, c0_8, c0_9, c0_10].drop 6).take (Tryd.prog.cellsOf 4)) = some y0_6 := g0_6
  rw [show Tryd.prog.cellsOf 4 = 1 from by kernel_rfl] at t0_6
  have u0_6 : DataW.trod enc Tryd.prog W 0 (fun _ => true) true m0_6 4 [c0_6] = some y0_6 := t0_6
  obtain ⟨m0_7, y0_7, g0_7⟩ := open_fld Tryd.underlying25 hc0 7 _ rfl
  have t0_7 : DataW.trod enc Tryd.prog W 0 (fun _ => true) true m0_7 5 (([c0_0, c0_1, c0_2, c0_3, c0_4, c0_5, c0_6, c0_7, c0_8, c0_9, c0_10].drop 7).take (Tryd.prog.cellsOf 5)) = some y0_7 := g0_7
  rw [show Tryd.prog.cellsOf 5 = 1 from by kernel_rfl] at t0_7
  have u0_7 : DataW.trod enc Tryd.prog W 0 (fun _ => true) true m0_7 5 [c0_7] = some y0_7 := t0_7
  obtain ⟨m0_8, y0_8, g0_8⟩ := open_fld Tryd.underlying25 hc0 8 _ rfl
  have t0_8 : DataW.trod enc Tryd.prog W 0 (fun _ => true) true m0_8 5 (([c0_0, c0_1, c0_2, c0_3, c0_4, c0_5, c0_6, c0_7, c0_8, c0_9, c0_10].drop 8).take (Tryd.prog.cellsOf 5)) = some y0_8 := g0_8
  rw [show Tryd.prog.cellsOf 5 = 1 from by kernel_rfl] at t0_8
  have u0_8 : DataW.trod enc Tryd.prog W 0 (fun _ => true) true m0_8 5 [c0_8] = some y0_8 := t0_8
  obtain ⟨m0_9, y0_9, g0_9⟩ := open_fld Tryd.underlying25 hc0 9 _ rfl
  have t0_9 : DataW.trod enc Tryd.prog W 0 (fun _ => true) true m0_9 22 (([c0_0, c0_1, c0_2, c0_3, c0_4, c0_5, c0_6, c0_7, c0_8, c0_9, c0_10].drop 9).take (Tryd.prog.cellsOf 22)) = some y0_9 := g0_9
  rw [show Tryd.prog.cellsOf 22 = 1 from by kernel_rfl] at t0_9
  have u0_9 : DataW.trod enc Tryd.prog W 0 (fun _ => true) true m0_9 22 [c0_9] = some y0_9 := t0_9
  obtain ⟨m0_10, y0_10, g0_10⟩ := open_fld Tryd.underlying25 hc0 10 _ rfl
  have t0_10 : DataW.trod enc Tryd.prog W 0 (fun _ => true) true m0_10 23 (([c0_0, c0_1, c0_2, c0_3, c0_4, c0_5, c0_6, c0_7, c0_8, c0_9, c0_10].drop 10).take (Tryd.prog.cellsOf 23)) = some y0_10 := g0_10
  rw [show Tryd.prog.cellsOf 23 = 1 from by kernel_rfl] at t0_10
  have u0_10 : DataW.trod enc Tryd.prog W 0 (fun _ => true) true m0_10 23 [c0_10] = some y0_10 := t0_10
  obtain ⟨a0_0, e0_0, x0_0, w0_0⟩ := DataW.trod_int Tryd.underlying3 u0_0
  obtain rfl : c0_0 = .int .i64 a0_0 := by simpa using e0_0
  obtain ⟨a0_1, e0_1, x0_1, w0_1⟩ := DataW.trod_int Tryd.underlying22 u0_1
  obtain rfl : c0_1 = .int .u32 a0_1 := by simpa using e0_1
  obtain ⟨a0_2, e0_2, x0_2⟩ := DataW.trod_bool Tryd.underlying4 u0_2
  obtain rfl : c0_2 = .bool a0_2 := by simpa using e0_2
  obtain ⟨a0_3, e0_3, x0_3⟩ := DataW.trod_bool Tryd.underlying4 u0_3
  obtain rfl : c0_3 = .bool a0_3 := by simpa using e0_3
  obtain ⟨a0_4, e0_4, x0_4⟩ := DataW.trod_bool Tryd.underlying4 u0_4
  obtain rfl : c0_4 = .bool a0_4 := by simpa using e0_4
  obtain ⟨a0_5, e0_5, x0_5⟩ := DataW.trod_bool Tryd.underlying4 u0_5
  obtain rfl : c0_5 = .bool a0_5 := by simpa using e0_5
  obtain ⟨a0_6, e0_6, x0_6⟩ := DataW.trod_bool Tryd.underlying4 u0_6
  obtain rfl : c0_6 = .bool a0_6 := by simpa using e0_6
  obtain ⟨a0_7, e0_7, x0_7, w0_7⟩ := DataW.trod_int Tryd.underlying5 u0_7
  obtain rfl : c0_7 = .int .u8 a0_7 := by simpa using e0_7
  obtain ⟨a0_8, e0_8, x0_8, w0_8⟩ := DataW.trod_int Tryd.underlying5 u0_8
  obtain rfl : c0_8 = .int .u8 a0_8 := by simpa using e0_8
  obtain ⟨a0_9, e0_9, x0_9, w0_9⟩ := DataW.trod_int Tryd.underlying22 u0_9
  obtain rfl : c0_9 = .int .u32 a0_9 := by simpa using e0_9
  obtain ⟨a0_10, cap0_10, l0_10, e0_10, hb0_10, n0_10⟩ := bytes_open u0_10
  subst e0_10
  obtain ⟨a1, rfl, rfl, rfl, w1⟩ := open_int Tryd.underlying5 (hval 1 5 v1 rfl rfl) h1
  refine (walk W (longer_of hL) a0_0 w0_0 a0_1 w0_1 a0_2 a0_3 a0_4 a0_5 a0_6 a0_7 w0_7 a0_8 w0_8 a0_9 w0_9 a0_10 cap0_10 l0_10 hb0_10 n0_10 a1 w1).mono fun e W' ⟨he, bel⟩ => ?_
  subst he
  exact ⟨_, rfl, _, _, _, [], _, [], hW', trodAll_mk1 (shut_bool Tryd.underlying4 _), (trodAll_cons_mk (Below.trod laidOut (by kernel_rfl) (of_decide_eq_true (by kernel_rfl)) k0 bel lt0) (trodAll_cons_mk (Below.trod laidOut (by kernel_rfl) (of_decide_eq_true (by kernel_rfl)) k1 bel lt1) trodAll_mk0)), rfl, bel.frame _, fun h => by cases h⟩

theorem over : Rows.frameCopiesRow.holds Tryd.pinned (OpenSpec.ofChange Rows.frameCopiesSpec) :=
  OpenClaim.holds_of_wide 7 Tryd.f7 rfl rfl rfl rfl rfl rfl rfl ⟨rfl, rfl, rfl, rfl, rfl⟩ rfl rfl rfl rfl rfl (by kernel_rfl) Tryd.func7 (by kernel_rfl)
    (of_decide_eq_true (by kernel_rfl)) (by unfold Func.isWrapper; first | (rw [if_pos (by decide +kernel)]; kernel_rfl) | (rw [if_neg (by decide +kernel)]; exact ⟨rfl, rfl⟩))
    (fun os started H enc _ => lifted os started H enc)

theorem plain (f : FuncId) (fn : Func) (hf : Tryd.pinned.checked.prog.funcNamed "omnibus/omnibuslaw05.FrameCopies" = some f) (hfn : Tryd.pinned.checked.prog.funcs[f]? = some fn) :
    false = Tryd.pinned.checked.prog.looks [] ∧ ∀ (j : Nat) t, fn.params[j]? = some t → Tryd.pinned.checked.prog.wantsStandIn t = false := by
  obtain rfl : f = 7 := Option.some.inj ((show Tryd.prog.funcNamed "omnibus/omnibuslaw05.FrameCopies" = some 7 by kernel_rfl).symm.trans hf) |>.symm
  obtain rfl : fn = Tryd.f7 := (Option.some.inj (Tryd.func7.symm.trans hfn)).symm
  refine ⟨by kernel_rfl, fun j t ht => ?_⟩
  rw [Tryd.params7] at ht
  have hm : t ∈ [25, 5] := by have := Array.mem_of_getElem? ht; simp at this ⊢; omega
  have hall : ([25, 5].all fun u => !Tryd.prog.wantsStandIn u) = true := by kernel_rfl
  exact (show Tryd.prog.wantsStandIn t = false by simpa using List.all_eq_true.1 hall t hm)
theorem proved : Rows.FrameCopiesCardSaid :=
  Claim7.holds_tied_plain_at .later [] _ _ _ _ over (fun _ h => by cases h) (by kernel_rfl) (fun _ h => by cases h) frameCopies_row_tie rfl ⟨rfl, rfl⟩ (by kernel_rfl) rfl plain (by kernel_rfl)
#print axioms proved
end Go.Proofs.YtfclicghkhemlaaDoor.frameCopies
