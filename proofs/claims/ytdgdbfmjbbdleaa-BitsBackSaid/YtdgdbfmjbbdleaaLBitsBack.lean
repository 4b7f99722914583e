/- For every number, all bytes and rows the law BitsBack answers true and leaves its arguments as they were. No conditions. -/
import Derived.Test.YtdgdbfmjbbdleaaRows
import Derived.Test.YtdgdbfmjbbdleaaUni
import Derived.WalkKit
import Derived.ProofKit
import Derived.OpenShut
import Derived.ShutString
import Derived.ChangeOld
import Derived.Below
namespace Go.Proofs.Ytdgdbfmjbbdleaa.bitsBack
open Go.ChangeShapes Go.WideShapes Go.ChangeAt Go.RowKit
open Go.ChangeMaps (open_string shut_string)
set_option linter.unusedVariables false

theorem own : ownKnob Try.prog.godebug = none := by kernel_rfl
theorem laidOut : laidOutB Try.prog = true := by kernel_rfl

/-- WHAT THE WALK IS TOLD OF A SLICE OF INTEGERS THAT CAME IN: it is nil; or it leads to a row of 'cap' cells, the numbers 'zs' (the first 'len' are its elements, the rest its spare room), each fitting its kind. -/
def IsRow (k : IntKind) (w : World) (a : Option Addr) (len cap : Nat) (zs : List Int) : Prop :=
  (a = none ∧ len = 0 ∧ cap = 0 ∧ zs = []) ∨
  ∃ x, a = some x ∧ len ≤ cap ∧ cap ≤ maxLen ∧ zs.length = cap ∧ (∀ i, i < zs.length → w.cell? (x.add i) = some (.int k (zs.getD i 0))) ∧ ∀ n ∈ zs, (Lit.int k n).wf = true

set_option maxHeartbeats 2000000 in
set_option maxRecDepth 100000 in
theorem walk (a0 : Int) (a1 : Option Addr) (len1 cap1 : Nat) (z1 : List Int) (a2 : Option Addr) (len2 cap2 : Nat) (z2 : List Int) (w : World) (w0 : (Lit.int .u64 a0).wf = true) (w1 : IsRow .u8 w a1 len1 cap1 z1) (w2 : IsRow .u8 w a2 len2 cap2 z2) :
    Calls Try.prog 6 #[.int .u64 a0, .slice a1 len1 cap1, .slice a2 len2 cap2] w fun e w' => e = .returned (.bool true) ∧ Below w.heap.size w w' := by
-- For every number, all bytes and rows the law BitsBack answers true and leaves its arguments as they were. No conditions.
  obtain ⟨b, rfl, hb⟩ := Bs.ofRow w1
  obtain ⟨l, rfl, h⟩ := Bs.ofRow w2
  obtain ⟨n, rfl, hn⟩ := u64_of_wf w0
  have H := Lib.hid h
  have HB := Lib.hid hb
  have HN := Lib.hid hn
  have hL := h.len
  have hLb := hb.len
  clear h hb hn w0 w1 w2
  by_cases hbig : 2000 < b.length ∨ 5000 < l.length
  · by_cases hb1 : 2000 < b.length
    · go_enter Try.func6, Try.ntmps6
      go_wp2_with fail
      refine (alive_any w).mono ?_
      rintro e w1 ⟨rfl, hnb⟩
      go_wp2
      go_ret
      exact ⟨rfl, hnb⟩
    · have hb2 : 5000 < l.length := by omega
      clear hbig
      go_enter Try.func6, Try.ntmps6
      go_wp2_with fail
      refine (alive_any w).mono ?_
      rintro e w1 ⟨rfl, hnb⟩
      go_wp2
      go_ret
      exact ⟨rfl, hnb⟩
  · have hb1 : b.length ≤ 2000 := by omega
    have hb2 : l.length ≤ 5000 := by omega
    clear hbig
    have hg1 : getOk (bitsN n 64) = true := by
      simp only [getOk, chk, bitsN_length, Bool.and_eq_true, decide_eq_true_eq, List.all_eq_true]
      exact ⟨by omega, by omega, fun x hx => by have := bitsN_lt n 64 x hx; omega⟩
    have hg2 : numN (bitsN n 64) = n := numN_bitsN n 64 HN.out
    have hp : packN (bytesBits b) = b := packN_bytes b HB.out.hbyte
    have HG := Lib.hid hg1
    have HG2 := Lib.hid hg2
    have HP := Lib.hid hp
    clear hg1 hg2 hp
    have h64 := bitsN_length n 64
    go_enter Try.func6, Try.ntmps6
    go_wp2_with fail
    refine (alive_any w).mono ?_
    rintro e w1 ⟨rfl, n1⟩
    go_wp2_with fail
    refine (put_ok n 64 _ (by omega) HN.out).mono ?_
    rintro e w2 ⟨⟨p1, c1, rfl, b1⟩, n2⟩
    have B1 := Lib.hid b1
    clear b1
    go_wp2_with fail
    have hget := get_ok p1 c1 (bitsN n 64) w2 B1.out HG.out
    rw [HG2.out, h64] at hget
    refine hget.mono ?_
    rintro e w3 ⟨rfl, n3⟩
    clear hget
    go_wp2_with fail
    refine (bytes_u a1 cap1 b _ (HB.out.below ((n1.tr n2).tr n3)) (by omega)).mono ?_
    rintro e w4 ⟨⟨p3, c3, rfl, b3⟩, n4⟩
    have B3 := Lib.hid b3
    clear b3
    go_wp2_with fail
    have hpk := pack_ok p3 c3 (bytesBits b) w4 B3.out (bytesBits_chk b (by omega)) (by rw [bytesBits_len]; omega)
    rw [HP.out] at hpk
    refine hpk.mono ?_
    rintro e w5 ⟨⟨p4, c4, rfl, b4⟩, n5⟩
    have B4 := Lib.hid b4
    clear b4 hpk
    go_wp2_with fail
    refine (same_any p4 a1 c4 cap1 b b w5 B4.out (HB.out.below ((((n1.tr n2).tr n3).tr n4).tr n5))).mono ?_
    rintro e w6 ⟨rfl, n6⟩
    have N6 : Nb w w6 := (((((n1.tr n2).tr n3).tr n4).tr n5).tr n6)
    have hd : decide (b = b) = true := by simp
    clear n1 n2 n3 n4 n5 n6 B1 B3 B4
    by_cases hc : chk l = true
    · by_cases h8 : l.length % 8 = 0
      · have hbp : bytesBits (packN l) = l := bytes_packN l (chk_bit hc) h8
        have HBP := Lib.hid hbp
        have HC := Lib.hid hc
        have H8 := Lib.hid h8
        clear hbp hc h8
        go_wp2_with fail
        refine (pack_ok a2 cap2 l _ (H.out.below N6) HC.out H8.out).mono ?_
        rintro e w7 ⟨⟨p5, c5, rfl, b5⟩, n7⟩
        have B5 := Lib.hid b5
        clear b5
        go_wp2_with fail
        have hbt := bytes_u p5 c5 (packN l) w7 B5.out (by rw [packN_length]; omega)
        rw [HBP.out] at hbt
        refine hbt.mono ?_
        rintro e w8 ⟨⟨p6, c6, rfl, b6⟩, n8⟩
        have B6 := Lib.hid b6
        clear b6 hbt
        go_wp2_with fail
        refine (same_any p6 a2 c6 cap2 l l w8 B6.out (H.out.below ((N6.tr n7).tr n8))).mono ?_
        rintro e w9 ⟨rfl, n9⟩
        have hd2 : decide (l = l) = true := by simp
        go_wp2
        go_ret
        exact ⟨rfl, ((N6.tr n7).tr n8).tr n9⟩
      · have HC := Lib.hid hc
        have H8 := Lib.hid h8
        clear hc h8
        go_wp2_with fail
        refine (pack_short a2 cap2 l _ (H.out.below N6) HC.out H8.out).mono ?_
        rintro e w7 ⟨rfl, n7⟩
        go_wp2
        go_ret
        exact ⟨rfl, N6.tr n7⟩
    · have HC := Lib.hid (Bool.eq_false_iff.2 hc)
      clear hc
      go_wp2_with fail
      refine (pack_bad a2 cap2 l _ (H.out.below N6) HC.out).mono ?_
      rintro e w7 ⟨rfl, n7⟩
      go_wp2
      go_ret
      exact ⟨rfl, N6.tr n7⟩

/-! ### THE ROW's STEP: WRITTEN OUT: LEAVE IT -/
set_option maxRecDepth 100000 in
theorem lifted (os : Os) (started : os.Started) (H : Type) (enc : TypeId × Value → H) :
    ReturnsInHanded {} Try.checked os 6 .any (Rows.bitsBackSpec.pre6 enc Try.prog Try.f6 Rows.bitsBackRow.domain false) (Rows.bitsBackSpec.post enc Try.prog Try.f6 false true false false) := by
  refine returnsInHanded_of_change (C := Try.checked) own started (by kernel_rfl) Try.func6
    (ChangeSpec.witness6 (enc := enc) (C := Try.checked) false ⟨#[], #[.int .u64 0, .slice none 0 0, .slice none 0 0], []⟩ 8 (by kernel_rfl) (by kernel_rfl) (by kernel_rfl) (by kernel_rfl)) ?_
  intro W base args ds gs before hval0 hW hcnd _
  have hval : ∀ (j : Nat) t v, Try.f6.params[j]? = some t → args[j]? = some v → Value.okWide Try.prog W .any base t v := hval0
  have hW' := hW
  obtain ⟨p, q, hA0, hV, rfl, hfz, hnd⟩ := hW
  have hA : DataW.TrodAll enc Try.prog W 0 (fun _ => true) true Try.f6.params.toList args.toList ds p := hA0
  rw [Try.params6] at hA hval
  obtain ⟨v0, vs0, d0, ds0, p0, q0, hargs, rfl, rfl, h0, r0⟩ := trodAll_cons hA
  obtain ⟨v1, vs1, d1, ds1, p1, q1, rfl, rfl, rfl, h1, r1⟩ := trodAll_cons r0
  obtain ⟨v2, vs2, d2, ds2, p2, q2, rfl, rfl, rfl, h2, r2⟩ := trodAll_cons r1
  obtain ⟨rfl, rfl, rfl⟩ := trodAll_nil r2
  obtain rfl : args = #[v0, v1, v2] := by cases args; simp_all
  obtain ⟨rfl, rfl⟩ := trodVars_none hV
  obtain ⟨a0, rfl, rfl, rfl, w0⟩ := open_int Try.underlying22 (hval 0 22 v0 rfl rfl) h0
  obtain ⟨a1, len1, cap1, rfl⟩ := okWide_slice Try.underlying23 (hval 1 23 v1 rfl rfl)
  have k1 := h1
  have lt1 : ∀ x ∈ p1, x.block < W.heap.size := by obtain ⟨m, hm⟩ := k1; exact DataW.trod_lt m _ _ _ hm
  obtain ⟨z1, w1⟩ : ∃ zs, IsRow .u8 W a1 len1 cap1 zs := by
    obtain ⟨fuel, hf⟩ := h1
    rcases open_ints Try.underlying23 Try.underlying5 (by kernel_rfl) hf with ⟨hcs, _⟩ | ⟨x, l, c, zs, hcs, _, hl, hm, hz, _, hcell, hwz⟩
    · simp [Value.cells] at hcs
      obtain ⟨rfl, rfl, rfl⟩ := hcs
      exact ⟨[], .inl ⟨rfl, rfl, rfl, rfl⟩⟩
    · simp [Value.cells] at hcs
      obtain ⟨rfl, rfl, rfl⟩ := hcs
      exact ⟨zs, .inr ⟨_, rfl, hl, hm, by simpa using hz, hcell, hwz⟩⟩
  obtain ⟨a2, len2, cap2, rfl⟩ := okWide_slice Try.underlying23 (hval 2 23 v2 rfl rfl)
  have k2 := h2
  have lt2 : ∀ x ∈ p2, x.block < W.heap.size := by obtain ⟨m, hm⟩ := k2; exact DataW.trod_lt m _ _ _ hm
  obtain ⟨z2, w2⟩ : ∃ zs, IsRow .u8 W a2 len2 cap2 zs := by
    obtain ⟨fuel, hf⟩ := h2
    rcases open_ints Try.underlying23 Try.underlying5 (by kernel_rfl) hf with ⟨hcs, _⟩ | ⟨x, l, c, zs, hcs, _, hl, hm, hz, _, hcell, hwz⟩
    · simp [Value.cells] at hcs
      obtain ⟨rfl, rfl, rfl⟩ := hcs
      exact ⟨[], .inl ⟨rfl, rfl, rfl, rfl⟩⟩
    · simp [Value.cells] at hcs
      obtain ⟨rfl, rfl, rfl⟩ := hcs
      exact ⟨zs, .inr ⟨_, rfl, hl, hm, by simpa using hz, hcell, hwz⟩⟩
  clear hA0 hval0
  refine (walk a0 a1 len1 cap1 z1 a2 len2 cap2 z2 W w0 w1 w2).mono fun e W' ⟨he, bel⟩ => ?_
  subst he
  exact ⟨_, rfl, _, _, _, [], _, [], hW', trodAll_mk1 (shut_bool Try.underlying4 _), (trodAll_cons_mk (shut_int Try.underlying22 w0) (trodAll_cons_mk (Below.trod laidOut (by kernel_rfl) (of_decide_eq_true (by kernel_rfl)) k1 bel lt1) (trodAll_cons_mk (Below.trod laidOut (by kernel_rfl) (of_decide_eq_true (by kernel_rfl)) k2 bel lt2) trodAll_mk0))), rfl, bel.frame _, fun h => by cases h⟩

theorem over : Rows.bitsBackRow.holds Try.pinned (OpenSpec.ofChange Rows.bitsBackSpec) :=
  OpenClaim.holds_of_wide 6 Try.f6 rfl rfl rfl rfl rfl rfl rfl ⟨rfl, rfl, rfl, rfl, rfl⟩ rfl rfl rfl rfl rfl (by kernel_rfl) Try.func6 (by kernel_rfl)
    (of_decide_eq_true (by kernel_rfl)) (by unfold Func.isWrapper; first | (rw [if_pos (by decide +kernel)]; kernel_rfl) | (rw [if_neg (by decide +kernel)]; exact ⟨rfl, rfl⟩))
    (fun os started H enc _ => lifted os started H enc)

/-- ████ THE STATEMENT ████ -/
theorem proved : Rows.BitsBackSaid := over
#print axioms proved
end Go.Proofs.Ytdgdbfmjbbdleaa.bitsBack
