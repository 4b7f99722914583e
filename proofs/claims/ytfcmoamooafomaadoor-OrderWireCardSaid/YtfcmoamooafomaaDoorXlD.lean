
/- Contract of package xl's dataOf. Condition: the tables of kinds and of longer sizes hold what the program's text lays there. -/
import Derived.Test.YtfcmoamooafomaaDoorXlC
namespace Go.Proofs.YtfcmoamooafomaaDoor
set_option linter.unusedVariables false
set_option linter.unusedSimpArgs false
open Go.RowKit

/-- A data part of any head and any tally. -/
def dataX (H T : List Nat) (d v a n : Nat) (S : Bool) (l : List Nat) : List Nat :=
  ((bitsN d 8 ++ ([bitB S] ++ (bitsN (n - 1) 11 ++ T)) ++ sumC 4 (H ++ (bitsN d 8 ++ ([bitB S] ++ (bitsN (n - 1) 11 ++ T))))) ++ (bitsN v 8 ++ (bitsN a 32 ++ bytesBits l))) ++
    sumC 5 ((bitsN d 8 ++ ([bitB S] ++ (bitsN (n - 1) 11 ++ T)) ++ sumC 4 (H ++ (bitsN d 8 ++ ([bitB S] ++ (bitsN (n - 1) 11 ++ T))))) ++ (bitsN v 8 ++ (bitsN a 32 ++ bytesBits l)))
theorem bodyX_data (i d v a : Nat) (S : Bool) (l : List Nat) : bodyX i d v a S l = dataX (headX i) (tallyX i) d v a l.length S l := rfl
theorem code3 {n : Nat} (h1 : 1 ≤ n) (h2 : n ≤ 2048) : codeV 3 (n : Int) = n - 1 ∧ codeE 3 (n : Int) = 0 := by
  have hc : n - 1 < cntF 3 := by show n - 1 < 2048; omega
  have hi : isC 3 ((n - 1 : Nat) : Int) = true := (isC_nat 3 (n - 1)).2 hc
  exact code_hit 3 (n : Int) (n - 1) hi (by
    rw [sizeV, if_pos hi, Int.toNat_natCast, at3]
    omega)

set_option maxHeartbeats 8000000 in
set_option maxRecDepth 100000 in
theorem dataof8_any (i d v A : Nat) (S : Bool) (H T : List Nat) (a a1 a2 : Option Addr) (cap cap1 cap2 : Nat) (l : List Nat) (w : World) (h : Bs w a cap l) (h1 : Bs w a1 cap1 H) (hn1 : a1 = none → cap1 = 0) (h2 : Bs w a2 cap2 T)
    (hl1 : 1 ≤ l.length) (hl2 : l.length ≤ 2048) (hH : H.length = 17) (hHb : ∀ x ∈ H, x ≤ 1) (hT : T.length = 4) (hTb : ∀ x ∈ T, x ≤ 1) (hd : d < 256) (hv : v < 256) (hA : A < 4294967296) (hk : Kinds w) (hl : Longer w) :
    Calls Tryd.prog 77 #[.agg (Hd.cs ⟨3, (i : Int), false, false, false, false, S, (d : Int), (v : Int), (A : Int)⟩ (.slice a l.length cap)), .slice a1 H.length cap1, .slice a2 T.length cap2] w fun e w' => AnsF w (dataX H T d v A l.length S l) 0 e w' ∧ Nb w w' := by
  obtain ⟨ec, hcE⟩ := code3 hl1 hl2
  have P1 := Lib.hid (fun w' (n : Nb w w') => by
    have := code_any 3 (l.length : Int) w' (hl.below n)
    rw [hcE, ec] at this
    exact this)
  obtain ⟨c, hc⟩ : ∃ c, l.length - 1 = c := ⟨_, rfl⟩
  have hc2 : c < 2048 := by omega
  rw [hc] at P1
  obtain ⟨pre, hpre⟩ : ∃ pre, pre = bitsN d 8 ++ ([bitB S] ++ (bitsN (l.length - 1) 11 ++ T)) := ⟨_, rfl⟩
  have hprel : pre.length = 24 := by rw [hpre]; simp [bitsN_length, hT]
  have hpreb : ∀ x ∈ pre, x ≤ 1 := by
    intro x hx
    rw [hpre] at hx
    simp only [List.mem_append, List.mem_cons, List.not_mem_nil, or_false] at hx
    rcases hx with hx | rfl | hx | hx
    · exact bitsN_le _ _ x hx
    · exact bitB_le S
    · exact bitsN_le _ _ x hx
    · exact hTb x hx
  have hcat : chk (H ++ pre) = true := chk_of (fun x hx => by
    rcases List.mem_append.1 hx with hx | hx
    · exact hHb x hx
    · exact hpreb x hx) (by rw [List.length_append]; omega)
  have hm4 := moreOk_start (k := 4) (by decide) hcat
  obtain ⟨sm, hsm⟩ : ∃ sm, runC (szK 4) (polyK 4) (startK 4) (H ++ pre) = sm := ⟨_, rfl⟩
  have hsm2 : sm < 8192 := by rw [← hsm]; exact runC_lt (kindOk 4 (by decide)).poly _ _ (kindOk 4 (by decide)).start
  have P2 := Lib.hid (fun w' (a' : Option Addr) (c' : Nat) (hn' : Nb w w') (hb : Bs w' a' c' (H ++ pre)) => by
    have := sum_u 4 a' c' (H ++ pre) w' (hk.below hn') hb
    rw [(sumN_ok hm4).1, (sumN_ok hm4).2, hsm] at this
    exact this)
  have hS4 : sumC 4 (H ++ pre) = bitsN sm 13 := by rw [sumC, hsm]; rfl
  obtain ⟨pre2, hpre2⟩ : ∃ pre2, pre2 = (pre ++ bitsN sm 13) ++ (bitsN v 8 ++ (bitsN A 32 ++ bytesBits l)) := ⟨_, rfl⟩
  have hdat : dataX H T d v A l.length S l = pre2 ++ sumC 5 pre2 := by rw [dataX, ← hpre, hS4, ← hpre2]
  have hpre2l : pre2.length = 77 + 8 * l.length := by rw [hpre2]; simp only [List.length_append, bitsN_length, bytesBits_len]; omega
  have hpre2b : ∀ x ∈ pre2, x ≤ 1 := by
    intro x hx
    rw [hpre2] at hx
    simp only [List.mem_append] at hx
    rcases hx with (hx | hx) | hx | hx | hx
    · exact hpreb x hx
    · exact bitsN_le _ _ x hx
    · exact bitsN_le _ _ x hx
    · exact bitsN_le _ _ x hx
    · exact bytesBits_bit l x hx
  have hcat2 : chk pre2 = true := chk_of hpre2b (by omega)
  obtain ⟨q1, q2⟩ := sum_add (k := 5) (by decide) hcat2
  have P3 := Lib.hid (fun w' (a' : Option Addr) (c' : Nat) (hn' : Nb w w') (hb : Bs w' a' c' pre2) (hnn : a' = none → c' = 0) => by
    have := add_u 5 a' c' pre2 w' (hk.below hn') hb hnn
    rw [q1, q2, ← hdat] at this
    exact this)
  have P4 := Lib.hid (fun w' (n : Nb w w') => by
    have := size_any 4 w' (hk.below n)
    rw [show szK 4 = 13 by decide] at this
    exact this)
  have EQ := Lib.hid (show bitsN d 8 ++ bitsN (bitB S) 1 ++ bitsN c 11 ++ T = pre by rw [hpre, ← hc]; simp [bitsN_b1])
  have e32 : IntKind.u32.wrap (sm : Int) = sm := by rw [IntKind.wrap_u32]; omega
  have EQ2 := Lib.hid (show pre ++ bitsN sm 13 ++ bitsN v 8 ++ bitsN A 32 ++ bytesBits l = pre2 by rw [hpre2]; simp)
  generalize hM : H ++ pre = M at *
  have HM := Lib.hid hM
  have PL := Lib.hid hprel
  have HL := Lib.hid h
  have H1 := Lib.hid h1
  have HN1 := Lib.hid hn1
  have H2 := Lib.hid h2
  have HH := Lib.hid hH
  have HT := Lib.hid hT
  have HP2 := Lib.hid hpre2l
  have hL := h.len
  have hmf : ∀ (fn : Fn) (first cap : Array Value) (w : World), (Instr.makeFunc fn first cap).run Tryd.prog w = .ok (.func fn first cap) w := fun _ _ _ _ => rfl
  have hb0 := bitB_le S
  generalize dataX H T d v A l.length S l = Z at *
  clear h h1 hn1 h2 hl hk hcE ec hc hpre hpreb hcat hm4 hsm hS4 hpre2 hdat hpre2b hcat2 q1 q2 hH hHb hT hTb hprel hpre2l hM
  simp only [Hd.cs]
  go_enter Tryd.func77, Tryd.ntmps77
  go_wp2_with fail
  refine (P1.out _ (Nb.rfl.al _)).mono ?_
  rintro e w3 ⟨rfl, n3⟩
  have m3 : Nb w w3 := (Nb.rfl.al _).tr n3
  have b3 := Lib.hid ((Blk.new w #[.int .i64 3, .int .u32 i, .bool false, .bool false, .bool false, .bool false, .bool S, .int .u8 d, .int .u8 v, .int .u32 A, .slice a l.length cap] 25).nb n3)
  have lt3 : w.heap.size < w3.heap.size := b3.out.lt
  have ne3 : ¬ w.heap.size = w3.heap.size := by omega
  clear n3
  obtain ⟨w4, hw4⟩ : ∃ w4, w4 = w3.alloc (.cells #[.slice none 0 0] 103) := ⟨_, rfl⟩
  have r4 : RowAt w4 103 w3.heap.size (.slice none 0 0) [] := by rw [hw4]; exact ⟨Blk.new _ _ _, OwnB.nil _, by simp [Value.ownBlock]⟩
  have m4 := Lib.hid (show Nb w w4 by rw [hw4]; exact m3.al _)
  have b4 := Lib.hid (b3.out.nb (show Nb w3 w4 by rw [hw4]; exact Nb.rfl.al _))
  have NF := Lib.hid (show ¬ Foot w3.heap.size (.slice none 0 0) w.heap.size by rintro (h | h); omega; simp [Value.ownBlock] at h)
  have hR : w.heap.size ≤ w3.heap.size := by omega
  have S0 := Lib.hid (show RowStep w4 103 w3.heap.size (.slice none 0 0) [] w4 from ⟨_, r4, Kp.rfl, fun _ h => .inl h⟩)
  have HW := Lib.hid hw4
  obtain ⟨c0, c1, c2, c3, c4, c5, c6, c7, c8, c9, c10⟩ := b3.out.c11
  clear r4 hw4 m3
  go_wp2_with fail
  rw [← HW.out]
  clear c0 c1 c2 c3 c4 c5 c6 c7 c8 c9 c10
  obtain ⟨v5, r5, k5, f5⟩ := S0.out
  refine (cput_any w3.heap.size v5 _ d 8 _ r5 (by omega) (by omega) (by omega) (by (try simp only [List.length_append, bitsN_length, List.length_nil]); omega)).mono ?_
  rintro e x1 ⟨rfl, s5⟩
  have S1 := Lib.hid (RowStep.tr2 k5 f5 s5)
  clear s5 r5 k5 f5 S0
  obtain ⟨v5, r5, k5, f5⟩ := S1.out
  obtain ⟨c0, c1, c2, c3, c4, c5, c6, c7, c8, c9, c10⟩ := (b4.out.keep k5 NF.out).c11
  go_wp2_with fail
  refine (flag6_any S _).mono ?_
  rintro e w4' ⟨rfl, rfl⟩
  go_wp2_with fail
  refine (cput_any w3.heap.size v5 _ (bitB S) 1 _ r5 (by omega) (by omega) (by omega) (by (try simp only [List.length_append, bitsN_length, List.length_nil]); omega)).mono ?_
  rintro e x2 ⟨rfl, s5⟩
  have S2 := Lib.hid (RowStep.tr2 k5 f5 s5)
  clear s5 r5 k5 f5 c0 c1 c2 c3 c4 c5 c6 c7 c8 c9 c10 S1
  obtain ⟨v5, r5, k5, f5⟩ := S2.out
  go_wp2_with fail
  refine (cput_any w3.heap.size v5 _ c 11 _ r5 (by omega) (by omega) (by omega) (by (try simp only [List.length_append, bitsN_length, List.length_nil]); omega)).mono ?_
  rintro e x3 ⟨rfl, s5⟩
  have s6 := RowStep.tr2 k5 f5 s5
  obtain ⟨L3, hL3⟩ : ∃ L3, L3 = [] ++ bitsN d 8 ++ bitsN (bitB S) 1 ++ bitsN c 11 := ⟨_, rfl⟩
  have LN := Lib.hid (show L3.length = 20 by rw [hL3]; simp [bitsN_length])
  have EQ3 := Lib.hid (show L3 ++ T = pre by rw [hL3, List.nil_append, EQ.out])
  rw [← hL3] at s6
  have S3 := Lib.hid s6
  clear s5 s6 r5 k5 f5 S2 hL3 EQ
  obtain ⟨v5, r5, k5, f5⟩ := S3.out
  have hx3 : Nb w x3 := S3.out.below m4.out hR
  obtain ⟨g0, q0, rfl⟩ := r5.own.shape (by rw [LN.out]; omega)
  have y0 : x3.cell? ⟨w3.heap.size, 0, none⟩ = some (.slice (some ⟨g0, 0, none⟩) L3.length q0) := r5.blk.cell 0
  have h2' := H2.out.below hx3
  go_wp2_with (at_builtin; refine wpList_appB _ rfl (.tmp 41) (.tmp 42) rfl (.slice (some ⟨g0, 0, none⟩) L3.length q0) L3 rfl r5.own a2 cap2 T T.length rfl rfl h2' (h2'.noneN rfl (by rw [HT.out]; omega)) (by rw [HT.out, LN.out]; omega) ?_)
  intro v6 w6 ho hk6 hg
  rw [EQ3.out] at ho
  have hb6 := r5.blk.keep hk6 r5.ne
  have z0 : w6.cell? ⟨w3.heap.size, 0, none⟩ = some (.slice (some ⟨g0, 0, none⟩) L3.length q0) := hb6.cell 0
  have z1 := hb6.frozen 0
  obtain ⟨g6, q6, rfl⟩ := ho.shape (by rw [PL.out]; omega)
  obtain ⟨r6, k6, f6⟩ := r5.app ho hk6 hg
  obtain ⟨x6, hx6⟩ : ∃ x6, x6 = w6.setCell ⟨w3.heap.size, 0, none⟩ (.slice (some ⟨g6, 0, none⟩) pre.length q6) := ⟨_, rfl⟩
  have hsz : w6.heap.size = x6.heap.size := by rw [hx6]; simp [World.setCell]
  rw [← hx6] at r6 k6
  have S6 := Lib.hid (RowStep.tr2 k5 f5 ⟨_, r6, k6, f6⟩)
  have B6 := Lib.hid r6.own.asBs.1
  have HX := Lib.hid (S6.out.below m4.out hR)
  have HX6 := Lib.hid hx6
  have HSZ := Lib.hid hsz
  clear ho hk6 hg h2' hx3 hx6 hb6 r5 k5 f5 y0 S3 r6 k6 f6 hsz EQ3
  have hle : pre.length ≤ 9223372036854775807 := by rw [PL.out]; omega
  go_wp2_with fail
  rw [← HX6.out, HSZ.out]
  refine (concat_any x6.heap.size 0 a1 (some ⟨g6, 0, none⟩) cap1 q6 H pre _ (by simp) (by simp) ((H1.out.below HX.out).below (Nb.rfl.al _)) (B6.out.below (Nb.rfl.al _)) (by rw [PL.out]; omega) HN1.out (by rw [HH.out]; omega) (by rw [PL.out]; omega)).mono ?_
  rintro e x7 ⟨⟨a7, d7, rfl, f7⟩, n7⟩
  rw [HM.out] at f7
  rw [HM.out]
  have N7 := Lib.hid ((Nb.rfl.al _).tr n7 : Nb x6 x7)
  have F7 := Lib.hid f7.bs
  clear f7 n7 z0 z1 hle
  go_wp2_with fail
  refine (P2.out _ a7 d7 (HX.out.tr N7.out) F7.out.1).mono ?_
  rintro e x8 ⟨rfl, n8⟩
  have N8 := Lib.hid (N7.out.tr n8)
  clear n8
  go_wp2_with fail
  refine (P4.out _ (HX.out.tr N8.out)).mono ?_
  rintro e x9 ⟨rfl, n9⟩
  have S9 := Lib.hid (S6.out.nb (N8.out.tr n9))
  clear n9 S6 N8 N7 F7
  obtain ⟨v5, r5, k5, f5⟩ := S9.out
  go_wp2_with fail
  refine (cput_any w3.heap.size v5 _ sm 13 _ r5 (by omega) (by omega) (by omega) (by rw [PL.out]; omega)).mono ?_
  rintro e y1 ⟨rfl, s5⟩
  have S := Lib.hid (RowStep.tr2 k5 f5 s5)
  clear s5 r5 k5 f5 S9
  obtain ⟨v5, r5, k5, f5⟩ := S.out
  obtain ⟨c0, c1, c2, c3, c4, c5, c6, c7, c8, c9, c10⟩ := (b4.out.keep k5 NF.out).c11
  go_wp2_with fail
  refine (cput_any w3.heap.size v5 _ v 8 _ r5 (by omega) (by omega) (by omega) (by simp only [List.length_append, bitsN_length, PL.out]; omega)).mono ?_
  rintro e y2 ⟨rfl, s5⟩
  have S := Lib.hid (RowStep.tr2 k5 f5 s5)
  clear s5 r5 k5 f5 c0 c1 c2 c3 c4 c5 c6 c7 c8 c9 c10
  obtain ⟨v5, r5, k5, f5⟩ := S.out
  obtain ⟨c0, c1, c2, c3, c4, c5, c6, c7, c8, c9, c10⟩ := (b4.out.keep k5 NF.out).c11
  go_wp2_with fail
  refine (cput_any w3.heap.size v5 _ A 32 _ r5 (by omega) (by omega) (by omega) (by simp only [List.length_append, bitsN_length, PL.out]; omega)).mono ?_
  rintro e y3 ⟨rfl, s5⟩
  have S := Lib.hid (RowStep.tr2 k5 f5 s5)
  clear s5 r5 k5 f5 c0 c1 c2 c3 c4 c5 c6 c7 c8 c9 c10
  obtain ⟨v5, r5, k5, f5⟩ := S.out
  obtain ⟨c0, c1, c2, c3, c4, c5, c6, c7, c8, c9, c10⟩ := (b4.out.keep k5 NF.out).c11
  go_wp2_with fail
  refine (rbytes_any w3.heap.size v5 _ a cap l _ r5 (HL.out.below (S.out.below m4.out hR)) (by simp only [List.length_append, bitsN_length, PL.out]; omega) (by simp only [List.length_append, bitsN_length, PL.out]; omega) (by omega)).mono ?_
  rintro e y4 ⟨rfl, s7⟩
  have s8 := RowStep.tr2 k5 f5 s7
  rw [EQ2.out] at s8
  have nr : Nb w y4 := s8.below m4.out hR
  obtain ⟨a9, d9, u9, f9⟩ := s8.fresh m4.out hR
  have F9 := Lib.hid f9.bs
  have NR := Lib.hid nr
  clear s8 s7 f9 r5 k5 f5 S c0 c1 c2 c3 c4 c5 c6 c7 c8 c9 c10 nr
  go_wp2_with fail
  refine (P3.out _ a9 d9 NR.out F9.out.1 F9.out.2).mono ?_
  rintro e z4 ⟨⟨a4, d4, rfl, f4⟩, n4⟩
  have F4 := Lib.hid (f4.less NR.out.size)
  clear f4
  go_wp2
  go_ret2
  exact ⟨⟨_, _, rfl, F4.out⟩, NR.out.tr n4⟩
end Go.Proofs.YtfcmoamooafomaaDoor
