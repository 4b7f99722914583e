
/- Contracts of package xl's parts, Body, way and Most. Condition: the tables of kinds and of longer sizes hold what the program's text lays there. -/
import Derived.Test.YtfcmoamooafomaaDoorXlD
namespace Go.Proofs.YtfcmoamooafomaaDoor
set_option linter.unusedVariables false
set_option linter.unusedSimpArgs false
open Go.RowKit

def hxC (f : Hd) (l : List Nat) : List Nat := if okX f l then putL (headX f.I.toNat) else []
/-- An answer of two new slices of bytes and an error. -/
def AnsP (w : World) (p l : List Nat) (er : Nat) (e : Ending) (w' : World) : Prop := ∃ a c a2 c2, e = .returned (.tuple #[.slice a p.length c, .slice a2 l.length c2, .int .i64 er]) ∧ Fresh w w' (.slice a p.length c) p ∧ Fresh w w' (.slice a2 l.length c2) l

set_option maxHeartbeats 1600000 in
set_option maxRecDepth 100000 in
theorem parts8_no (f : Hd) (a : Option Addr) (cap : Nat) (l : List Nat) (w : World) (hL : l.length ≤ 9223372036854775807) (hK : (f.K == 3) = false) :
    Calls Tryd.prog 54 #[.agg (f.cs (.slice a l.length cap))] w fun e w' => AnsP w [] [] 2 e w' ∧ Nb w w' := by
  obtain ⟨K, I, X, R, B, E, S, D, V, A⟩ := f
  simp only [Hd.cs]
  have d : (K != 3) = true := by simpa [bne] using hK
  clear hK
  go_enter Tryd.func54, Tryd.ntmps54
  go_wp2
  go_ret3
  exact ⟨⟨_, _, _, _, rfl, Fresh.nil _ _, Fresh.nil _ _⟩, Nb.rfl.al _⟩

set_option maxHeartbeats 1600000 in
set_option maxRecDepth 100000 in
theorem parts8_bad (f : Hd) (a : Option Addr) (cap : Nat) (l : List Nat) (w : World) (h : Bs w a cap l) (hl : Longer w) (hK : f.K = 3) (ho : okF f l = false) :
    Calls Tryd.prog 54 #[.agg (f.cs (.slice a l.length cap))] w fun e w' => AnsP w [] [] 2 e w' ∧ Nb w w' := by
  have hL := h.len
  have hc := check5_any f a cap l _ (h.below (Nb.rfl.al (.cells (f.cs (.slice a l.length cap)) 25))) (hl.below (Nb.rfl.al (.cells (f.cs (.slice a l.length cap)) 25)))
  rw [show checkN f l = 2 by simp [checkN, ho]] at hc
  obtain ⟨K, I, X, R, B, E, S, D, V, A⟩ := f
  simp only at hK
  subst hK
  simp only [Hd.cs] at hc ⊢
  have HC := Lib.hid hc
  clear hc h hl ho
  go_enter Tryd.func54, Tryd.ntmps54
  go_wp2_with fail
  refine HC.out.mono ?_
  rintro e w1 ⟨rfl, n1⟩
  go_wp2
  go_ret3
  exact ⟨⟨_, _, _, _, rfl, Fresh.nil _ _, Fresh.nil _ _⟩, (Nb.rfl.al _).tr n1⟩

set_option maxHeartbeats 4000000 in
set_option maxRecDepth 100000 in
theorem parts8_ok (i d v A : Nat) (S : Bool) (a : Option Addr) (cap : Nat) (l : List Nat) (w : World) (h : Bs w a cap l) (hok : okX ⟨3, (i : Int), false, false, false, false, S, (d : Int), (v : Int), (A : Int)⟩ l = true)
    (hl1 : 1 ≤ l.length) (hl2 : l.length ≤ 2048) (hi : i < 2048) (hd : d < 256) (hv : v < 256) (hA : A < 4294967296) (hk : Kinds w) (hl : Longer w) :
    Calls Tryd.prog 54 #[.agg (Hd.cs ⟨3, (i : Int), false, false, false, false, S, (d : Int), (v : Int), (A : Int)⟩ (.slice a l.length cap))] w fun e w' => AnsP w (putL (headX i)) (bodyX i d v A S l) 0 e w' ∧ Nb w w' := by
  have hL := h.len
  have hokF : okF ⟨3, (i : Int), false, false, false, false, S, (d : Int), (v : Int), (A : Int)⟩ l = true := by simpa [okX] using hok
  have P1 := Lib.hid (fun w' (n : Nb w w') => by
    have := check5_any ⟨3, (i : Int), false, false, false, false, S, (d : Int), (v : Int), (A : Int)⟩ a cap l w' (h.below n) (hl.below n)
    rw [show checkN ⟨3, (i : Int), false, false, false, false, S, (d : Int), (v : Int), (A : Int)⟩ l = 0 by simp [checkN, hokF]] at this
    simp only [Hd.cs] at this
    exact this)
  have P2 := Lib.hid (fun w' => headof8_any i 3 false false false false S (d : Int) (v : Int) (A : Int) (.slice a l.length cap) w' hi)
  have hch : chk (headX i) = true := chk_of (headX_bit i) (by rw [headX_len]; omega)
  obtain ⟨s1, s2, s3⟩ := sp_ok hch (by rw [headX_len]; omega)
  have P3 := Lib.hid (fun w' (a' : Option Addr) (c' : Nat) (hb : Bs w' a' c' (headX i)) => by
    have := sput_u a' c' (headX i) w' hb
    rw [s1, s2] at this
    exact this)
  have hpl := (putL_len2 (headX i)).1
  have hpl2 := (putL_len2 (headX i)).2
  have hHl := headX_len i
  have P5 := Lib.hid (fun w' (a1 a2 : Option Addr) (c1 c2 : Nat) (n : Nb w w') (h1 : Bs w' a1 c1 (headX i)) (hn1 : a1 = none → c1 = 0) (h2 : Bs w' a2 c2 (tallyX i)) => by
    have := dataof8_any i d v A S (headX i) (tallyX i) a a1 a2 cap c1 c2 l w' (h.below n) h1 hn1 h2 hl1 hl2 (headX_len i) (headX_bit i) (tallyL_len _) (tallyL_bit _) hd hv hA (hk.below n) (hl.below n)
    rw [← bodyX_data] at this
    simp only [Hd.cs] at this
    exact this)
  obtain ⟨k, hkk⟩ : ∃ k, (putL (headX i)).length - (headX i).length = k := ⟨_, rfl⟩
  have hT : tallyX i = tallyL k := by rw [tallyX, hkk]
  have hp4 := fun w' => tally_u (k : Int) w' (WalkArith.wf_i64 (by omega))
  rw [show tyL (k : Int) = tallyL k by rw [tyL, if_neg (by omega), Int.toNat_natCast], show tyE (k : Int) = 0 by rw [tyE, if_neg (by omega)], ← hT] at hp4
  have P4 := Lib.hid hp4
  have hkI : ((putL (headX i)).length : Int) - ((headX i).length : Int) = (k : Int) := by omega
  generalize bodyX i d v A S l = Z at *
  generalize tallyX i = T at *
  generalize putL (headX i) = PH at *
  generalize headX i = H at *
  have hkb : k ≤ 100 := by omega
  have hpb : PH.length ≤ 100 := by omega
  clear h hok hokF hch s1 s2 s3 hkk hT hp4 hk hl hHl hpl hpl2
  simp only [Hd.cs]
  go_enter Tryd.func54, Tryd.ntmps54
  go_wp2_with fail
  refine (P1.out _ (Nb.rfl.al _)).mono ?_
  rintro e w2 ⟨rfl, n2⟩
  have M2 := Lib.hid ((Nb.rfl.al _).tr n2 : Nb w w2)
  have B2 := Lib.hid ((Blk.new w #[.int .i64 3, .int .u32 i, .bool false, .bool false, .bool false, .bool false, .bool S, .int .u8 d, .int .u8 v, .int .u32 A, .slice a l.length cap] 25).nb n2)
  clear n2
  obtain ⟨c0, c1, c2, c3, c4, c5, c6, c7, c8, c9, c10⟩ := B2.out.c11
  go_wp2_with fail
  refine (P2.out _).mono ?_
  rintro e w3 ⟨⟨a3, d3, rfl, f3⟩, n3⟩
  have M3 := Lib.hid (M2.out.tr n3)
  have B3 := Lib.hid (B2.out.nb n3)
  have F3 := Lib.hid f3.bs
  clear n3 f3 c0 c1 c2 c3 c4 c5 c6 c7 c8 c9 c10
  go_wp2_with fail
  refine (P3.out _ a3 d3 F3.out.1).mono ?_
  rintro e w4 ⟨⟨a4, d4, rfl, f4⟩, n4⟩
  have M4 := Lib.hid (M3.out.tr n4)
  have B4 := Lib.hid (B3.out.nb n4)
  have F4 := Lib.hid (f4.less M3.out.size)
  have G4 := Lib.hid (F3.out.1.below n4)
  clear n4 f4
  go_wp2_with fail
  refine (P4.out _).mono ?_
  rintro e w5 ⟨⟨a5, d5, rfl, f5⟩, n5⟩
  have M5 := Lib.hid (M4.out.tr n5)
  have B5 := Lib.hid (B4.out.nb n5)
  have F5 := Lib.hid (F4.out.keep n5)
  have G5 := Lib.hid (G4.out.below n5)
  have T5 := Lib.hid f5.bs.1
  clear n5 f5
  obtain ⟨c0, c1, c2, c3, c4, c5, c6, c7, c8, c9, c10⟩ := B5.out.c11
  go_wp2_with fail
  refine (P5.out _ a3 a5 d3 d5 M5.out G5.out F3.out.2 T5.out).mono ?_
  rintro e w6 ⟨⟨a6, d6, rfl, f6⟩, n6⟩
  have M6 := Lib.hid (M5.out.tr n6)
  have F6 := Lib.hid (F5.out.keep n6)
  have Z6 := Lib.hid (f6.less M5.out.size)
  clear n6 f6 c0 c1 c2 c3 c4 c5 c6 c7 c8 c9 c10
  go_wp2
  go_ret3
  exact ⟨⟨_, _, _, _, rfl, F6.out, Z6.out⟩, M6.out⟩

theorem parts8_any (f : Hd) (a : Option Addr) (cap : Nat) (l : List Nat) (w : World) (h : Bs w a cap l) (hW : WdX f) (hk : Kinds w) (hl : Longer w) :
    Calls Tryd.prog 54 #[.agg (f.cs (.slice a l.length cap))] w fun e w' => AnsP w (hxC f l) (bxC f l) (okXE f l) e w' ∧ Nb w w' := by
  cases hok : okX f l with
  | true =>
    obtain ⟨i, d, v, A, S, rfl, h1, h2, h3, h4, h5, h6, eb, ee, et⟩ := okX_nums hok hW
    rw [eb, ee, show hxC _ l = putL (headX i) by rw [hxC, if_pos hok, et]]
    exact parts8_ok i d v A S a cap l w h hok h1 h2 h3 h4 h5 h6 hk hl
  | false =>
    rw [show hxC f l = [] by simp [hxC, hok], show bxC f l = [] by simp [bxC, hok], show okXE f l = 2 by simp [okXE, hok]]
    cases hK : f.K == 3 with
    | false => exact parts8_no f a cap l w h.len hK
    | true => exact parts8_bad f a cap l w h hl (by simpa using hK) (by simpa [okX, hK] using hok)

set_option maxHeartbeats 400000 in
set_option maxRecDepth 100000 in
theorem way8_any (w : World) : Calls Tryd.prog 56 #[] w fun e w' => e = .returned (.agg #[.int .i64 8, .bool false]) ∧ Nb w w' := by
  go_enter Tryd.func56, Tryd.ntmps56
  go_wp2
  refine bodyPost_ret (v := .agg #[.int .i64 8, .bool false]) (by simp [results, Tryd.results56, go_sem]) rfl ⟨rfl, Nb.rfl.al _⟩

end Go.Proofs.YtfcmoamooafomaaDoor
