/- For every row, place and sign the law BitsReads answers true and leaves its arguments as they were. No conditions. -/
import Derived.Test.YtdgdbfmjbbdleaaRows
import Derived.Test.YtdgdbfmjbbdleaaUni
import Derived.WalkKit
import Derived.ProofKit
import Derived.OpenShut
import Derived.ShutString
import Derived.ChangeOld
import Derived.Below
import Derived.WalkSpells
import Derived.Deep.RegionWith
import Derived.Lib.Bytealg
namespace Go.Proofs.Ytdgdbfmjbbdleaa.bitsReads
open Go.ChangeShapes Go.WideShapes Go.ChangeAt Go.RowKit
open Go.ChangeMaps (open_string shut_string)
set_option linter.unusedVariables false

theorem own : ownKnob Try.prog.godebug = none := by kernel_rfl
theorem laidOut : laidOutB Try.prog = true := by kernel_rfl

/-- WHAT THE WALK IS TOLD OF A SLICE OF INTEGERS THAT CAME IN: it is nil; or it leads to a row of 'cap' cells, the numbers 'zs' (the first 'len' are its elements, the rest its spare room), each fitting its kind. -/
def IsRow (k : IntKind) (w : World) (a : Option Addr) (len cap : Nat) (zs : List Int) : Prop :=
  (a = none ∧ len = 0 ∧ cap = 0 ∧ zs = []) ∨
  ∃ x, a = some x ∧ len ≤ cap ∧ cap ≤ maxLen ∧ zs.length = cap ∧ (∀ i, i < zs.length → w.cell? (x.add i) = some (.int k (zs.getD i 0))) ∧ ∀ n ∈ zs, (Lit.int k n).wf = true

theorem strOf_to (S : List Nat) (k : Nat) : (strOf S).extract 0 k = strOf (S.take k) := by
  apply ByteArray.ext
  simp [strOf]
theorem strOf_from (S : List Nat) (k n : Nat) (hn : S.length = n) : (strOf S).extract k n = strOf (S.drop k) := by
  apply ByteArray.ext
  subst hn
  simp [strOf]
  rw [List.take_of_length_le (by simp)]
theorem rdBits_append (a b : List Nat) : rdBits (a ++ b) = rdBits a ++ rdBits b := by simp [rdBits]
theorem rdBits_text (l : List Nat) : rdBits (l.map (48 + ·)) = l := by
  induction l with
  | nil => rfl
  | cons x l ih =>
    have h : rdBits ((x :: l).map (48 + ·)) = rdBits [48 + x] ++ rdBits (l.map (48 + ·)) := rdBits_append [48 + x] _
    rw [h, ih]
    have : rdBits [48 + x] = [x] := by
      unfold rdBits
      rw [List.filter_cons_of_pos (by rw [decide_eq_true_eq]; omega)]
      simp
    rw [this]; rfl

set_option maxHeartbeats 800000 in
set_option maxRecDepth 100000 in
theorem indexByte_any (c : Nat) (w : World) (hc : c < 256) :
    Calls Try.prog 27 #[.string ⟨#[48, 49, 32]⟩, .int .u8 c] w fun e w' => (∃ r : Int, e = .returned (.int .i64 r) ∧ (0 ≤ r ↔ okLetter c = true)) ∧ w = w' := by
  have hx : ∀ w : World, (callFunc 41 #[.string ⟨#[48, 49, 32]⟩, .int .u8 (c : Int)]).run Try.prog w = .ok (.value (.int .i64 (Lib.indexByte [48, 49, 32] (c : Int).toNat.toUInt8))) w := fun w => by
    rw [run_callFunc_extern (e := Extern.BytealgIndexByte.indexByte) Try.func41 (by kernel_rfl) (by kernel_rfl) (by kernel_rfl) (by kernel_rfl), Lib.run_indexByteString]
    rfl
  have hd : ∀ c : Fin 256, decide (0 ≤ Lib.indexByte [48, 49, 32] (((c : Nat) : Int).toNat.toUInt8)) = okLetter c := by decide +kernel
  have h1 := hd ⟨c, hc⟩
  have HD := Lib.hid h1
  clear hd h1
  generalize Lib.indexByte [48, 49, 32] (c : Int).toNat.toUInt8 = r at *
  go_enter Try.func27, Try.ntmps27
  go_wp2
  go_ret
  exact ⟨⟨r, rfl, by rw [← HD.out]; simp⟩, rfl⟩
set_option maxHeartbeats 2000000 in
set_option maxRecDepth 100000 in
theorem walk (a0 : Option Addr) (len0 cap0 : Nat) (z0 : List Int) (a1 : Int) (a2 : Int) (w : World) (w0 : IsRow .u8 w a0 len0 cap0 z0) (w1 : (Lit.int .u16 a1).wf = true) (w2 : (Lit.int .u8 a2).wf = true) :
    Calls Try.prog 7 #[.slice a0 len0 cap0, .int .u16 a1, .int .u8 a2] w fun e w' => e = .returned (.bool true) ∧ Below w.heap.size w w' := by
-- For every row, place and sign the law BitsReads answers true and leaves its arguments as they were. No conditions.
  obtain ⟨l, rfl, h⟩ := Bs.ofRow w0
  obtain ⟨sg, rfl, hsg⟩ := u8_of_wf w2
  obtain ⟨at_, rfl, hat⟩ : ∃ n : Nat, a1 = n ∧ n < 65536 := by
    have : 0 ≤ a1 ∧ a1 < 65536 := by
      simp [Lit.wf, IntKind.min, IntKind.max, IntKind.signed, IntKind.bits] at w1
      omega
    obtain ⟨n, rfl⟩ := Int.eq_ofNat_of_zero_le this.1
    exact ⟨n, rfl, by omega⟩
  have H := Lib.hid h
  have hL := h.len
  clear h w0 w1 w2
  by_cases hbig : 2000 < l.length
  · go_enter Try.func7, Try.ntmps7
    go_wp2_with fail
    refine (alive_any w).mono ?_
    rintro e w1 ⟨rfl, hnb⟩
    go_wp2
    go_ret
    exact ⟨rfl, hnb⟩
  by_cases hc : chk l = true
  · have HC := Lib.hid hc
    have hS : ∀ x ∈ l.map (48 + ·), x = 48 ∨ x = 49 := by
      intro x hx
      obtain ⟨y, hy, rfl⟩ := List.mem_map.1 hx
      have := chk_bit hc y hy
      omega
    have HS := Lib.hid hS
    have hSl : (l.map (48 + ·)).length = l.length := by simp
    obtain ⟨S, hSd⟩ : ∃ S, S = l.map (48 + ·) := ⟨_, rfl⟩
    rw [← hSd] at HS hSl
    have HSD := Lib.hid hSd
    have hsz := strOf_size S
    rw [hSl] at hsz
    have hall : S.all okLetter = true := by
      simp only [List.all_eq_true, okLetter, Bool.or_eq_true, decide_eq_true_eq]
      intro x hx
      have := HS.out x hx
      omega
    have hrb : rdBits S = l := by rw [hSd]; exact rdBits_text l
    have hR0 : readL S = l ∧ readE S = 0 := by
      have : rdOk S = true := by simp [rdOk, hall, hrb]; omega
      simp [readL, readE, this, hrb]
    have hT1 : ∀ k, readL ([32] ++ S.take k ++ [32, 32] ++ S.drop k) = l ∧ readE ([32] ++ S.take k ++ [32, 32] ++ S.drop k) = 0 := by
      intro k
      have e1 : rdBits ([32] ++ S.take k ++ [32, 32] ++ S.drop k) = l := by
        rw [rdBits_append, rdBits_append, rdBits_append]
        have : rdBits [32] = [] := rfl
        have h2 : rdBits [32, 32] = [] := rfl
        rw [this, h2, List.nil_append, List.append_nil, ← rdBits_append, List.take_append_drop, hrb]
      have e2 : ([32] ++ S.take k ++ [32, 32] ++ S.drop k).all okLetter = true := by
        have h1 : (S.take k).all okLetter = true ∧ (S.drop k).all okLetter = true := by
          rw [← List.take_append_drop k S, List.all_append, Bool.and_eq_true] at hall
          exact hall
        simp only [List.all_append, h1.1, h1.2]
        rfl
      have e3 : rdOk ([32] ++ S.take k ++ [32, 32] ++ S.drop k) = true := by
        simp only [rdOk, e1, e2, Bool.true_and, decide_eq_true_eq]
        omega
      simp only [readL, readE, e3, if_true, e1, and_self]
    have hT2 : ∀ k, (okLetter sg = true → readE (S.take k ++ [sg] ++ S.drop k) = 0) ∧ (okLetter sg = false → readE (S.take k ++ [sg] ++ S.drop k) = 2 ∧ readL (S.take k ++ [sg] ++ S.drop k) = []) := by
      intro k
      have h1 : (S.take k).all okLetter = true ∧ (S.drop k).all okLetter = true := by
        rw [← List.take_append_drop k S, List.all_append, Bool.and_eq_true] at hall
        exact hall
      constructor
      · intro hs
        have e2 : (S.take k ++ [sg] ++ S.drop k).all okLetter = true := by
          simp only [List.all_append, h1.1, h1.2, List.all_cons, List.all_nil, hs]
          rfl
        have e3 : rdOk (S.take k ++ [sg] ++ S.drop k) = true := by
          simp only [rdOk, e2, Bool.true_and, decide_eq_true_eq]
          refine Nat.le_trans (rdBits_length_le _) ?_
          simp only [List.length_append, List.length_take, List.length_drop, List.length_singleton]
          omega
        simp only [readE, e3, if_true]
      · intro hs
        have e3 : rdOk (S.take k ++ [sg] ++ S.drop k) = false := by
          simp only [rdOk, List.all_append, List.all_cons, List.all_nil, hs]
          simp
        simp only [readE, readL, e3, Bool.false_eq_true, if_false, and_self]
    have HR0 := Lib.hid hR0
    have HT1 := Lib.hid hT1
    have HT2 := Lib.hid hT2
    have hcv : ∀ W : World, (convert 23 9 (.slice (some ⟨W.heap.size, 0, none⟩) 1 1)).run Try.prog (W.alloc (.cells #[.int .u8 (sg : Int)] 5)) = .ok (.string (strOf [sg])) (W.alloc (.cells #[.int .u8 (sg : Int)] 5)) := fun W => run_convB _ _ 1 [sg] (Bs.one W sg hsg _)
    have hcv2 : ∀ W : World, (convert 23 9 (.slice (some ⟨W.heap.size, 0, none⟩) 1 1)).run Try.prog (W.alloc (.cells #[.int .u8 (sg : Int)] 5)).drew = .ok (.string (strOf [sg])) (W.alloc (.cells #[.int .u8 (sg : Int)] 5)).drew := fun W => run_convB _ _ 1 [sg] (Bs.one W.drew sg hsg _)
    clear hS hSd hc hall hrb hR0 hT1 hT2
    go_enter Try.func7, Try.ntmps7
    go_wp2_with fail
    refine (alive_any w).mono ?_
    rintro e w1 ⟨rfl, n1⟩
    go_wp2_with fail
    have ht := text_ok a0 cap0 l _ (H.out.below n1) HC.out
    rw [← HSD.out] at ht
    refine ht.mono ?_
    rintro e w2 ⟨rfl, n2⟩
    have N2 := n1.tr n2
    clear ht n1 n2
    go_wp2_with fail
    refine (read_u S _ (fun x hx => by have := HS.out x hx; omega) (by omega)).mono ?_
    rintro e w3 ⟨⟨p1, c1, rfl, b1⟩, n3⟩
    have N3 := N2.tr n3
    have B1 := Lib.hid b1
    clear b1 N2 n3
    go_wp2_with fail
    obtain ⟨k, hk, hkl⟩ : ∃ k : Nat, ((at_ : Int) % ((l.length : Int) + 1)) = (k : Int) ∧ k ≤ l.length := ⟨at_ % (l.length + 1), by push_cast; rfl, by have := Nat.mod_lt at_ (show 0 < l.length + 1 by omega); omega⟩
    rw [hk]
    clear hk
    have hE1 : ((⟨#[32]⟩ : ByteArray) ++ (strOf S).extract 0 k ++ ⟨#[32, 32]⟩ ++ (strOf S).extract k l.length) = strOf ([32] ++ S.take k ++ [32, 32] ++ S.drop k) := by
      rw [strOf_to, strOf_from S k l.length hSl, ← strOf_append, ← strOf_append, ← strOf_append]
      rfl
    have hE2 : ((strOf S).extract 0 k ++ strOf [sg] ++ (strOf S).extract k l.length) = strOf (S.take k ++ [sg] ++ S.drop k) := by
      rw [strOf_to, strOf_from S k l.length hSl, ← strOf_append, ← strOf_append]
    have HE1 := Lib.hid hE1
    have HE2 := Lib.hid hE2
    have hTl : ([32] ++ S.take k ++ [32, 32] ++ S.drop k).length ≤ 70368744177664 := by
      simp only [List.length_append, List.length_take, List.length_drop, List.length_cons, List.length_nil]
      omega
    have hTl2 : (S.take k ++ [sg] ++ S.drop k).length ≤ 70368744177664 := by
      simp only [List.length_append, List.length_take, List.length_drop, List.length_cons, List.length_nil]
      omega
    have hTb : ∀ x ∈ [32] ++ S.take k ++ [32, 32] ++ S.drop k, x < 256 := by
      intro x hx
      simp only [List.mem_append, List.mem_cons, List.not_mem_nil, or_false] at hx
      rcases hx with ((h | h) | h) | h
      · omega
      · have := HS.out x (List.mem_of_mem_take h); omega
      · omega
      · have := HS.out x (List.mem_of_mem_drop h); omega
    have hTb2 : ∀ x ∈ S.take k ++ [sg] ++ S.drop k, x < 256 := by
      intro x hx
      simp only [List.mem_append, List.mem_cons, List.not_mem_nil, or_false] at hx
      rcases hx with (h | h) | h
      · have := HS.out x (List.mem_of_mem_take h); omega
      · omega
      · have := HS.out x (List.mem_of_mem_drop h); omega
    have q0 := HR0.out
    have q1 := HT1.out k
    have q2 := Lib.hid (HT2.out k)
    rw [q0.2]
    have B1' := Lib.hid B1.out
    clear HR0 HT1 HT2 B1
    generalize [32] ++ S.take k ++ [32, 32] ++ S.drop k = T1 at *
    generalize S.take k ++ [sg] ++ S.drop k = T2 at *
    have HTB := Lib.hid hTb
    have HTB2 := Lib.hid hTb2
    have Q1 := Lib.hid q1
    have Q0 := Lib.hid q0
    clear hE1 hE2 hTb hTb2 q1 q0
    go_region_with ((go_at_call 25; rw [HE1.out]; refine (read_u T1 _ HTB.out hTl).mono ?_; rintro e w4 ⟨⟨p2, c2, rfl, b2⟩, n4⟩))
    have B2 := Lib.hid b2
    have N4 : Nb w w4 := (N3.tr (Below.drew (Below.refl _ _))).tr n4
    have B3 := Lib.hid (B1'.out.below (Nb.tr ((Below.refl _ _).drew) n4 : Nb w3 w4))
    rw [Q1.out.2]
    clear b2 n4 N3 B1'
    have hs1 : (strOf [sg]).size = 1 := strOf_size [sg]
    go_wp2_with fail
    go_region_with ((go_at_call 25; rw [HE2.out]; refine (read_u T2 _ HTB2.out hTl2).mono ?_; rintro e w5 ⟨⟨p3, c3, rfl, b5⟩, n5⟩))
    have N5 : Nb w w5 := by first | exact Nb.tr (Below.drew (Nb.al N4 _)) n5 | exact Nb.tr (Nb.al (Below.drew N4) _) n5
    have N45 : Nb w4 w5 := by first | exact Nb.tr (Below.drew (Nb.al Nb.rfl _)) n5 | exact Nb.tr (Nb.al (Below.drew Nb.rfl) _) n5
    have hd1 : decide (readL S = l) = true := by rw [Q0.out.1]; simp
    have hd2 : decide (readL T1 = l) = true := by rw [Q1.out.1]; simp
    clear b5 n5
    go_wp2_with fail
    refine (same_any p1 a0 c1 cap0 (readL S) l w5 (B3.out.below N45) (H.out.below N5)).mono ?_
    rintro e w6 ⟨rfl, n6⟩
    rw [hd1]
    go_wp2_with fail
    refine (same_any p2 a0 c2 cap0 (readL T1) l w6 (B2.out.below (N45.tr n6)) (H.out.below (N5.tr n6))).mono ?_
    rintro e w7 ⟨rfl, n7⟩
    rw [hd2]
    go_wp2_with fail
    refine (indexByte_any sg w7 hsg).mono ?_
    rintro e w' ⟨⟨r, rfl, hr⟩, rfl⟩
    have N7 := (N5.tr n6).tr n7
    cases hs : okLetter sg with
    | true =>
      have hr0 : 0 ≤ r := hr.2 hs
      have q3 := q2.out.1 hs
      rw [q3]
      clear q3 hs hr
      go_wp2
      go_ret
      exact ⟨rfl, N7⟩
    | false =>
      have hr0 : r < 0 := by
        by_cases h : 0 ≤ r
        · have := hr.1 h; rw [hs] at this; cases this
        · omega
      obtain ⟨q3, q4⟩ := q2.out.2 hs
      rw [q3, q4]
      clear q3 q4 hs hr
      go_wp2
      go_ret
      exact ⟨rfl, N7⟩
  · have HC := Lib.hid (Bool.eq_false_iff.2 hc)
    clear hc
    go_enter Try.func7, Try.ntmps7
    go_wp2_with fail
    refine (alive_any w).mono ?_
    rintro e w1 ⟨rfl, n1⟩
    go_wp2_with fail
    refine (text_bad a0 cap0 l _ (H.out.below n1) HC.out).mono ?_
    rintro e w2 ⟨rfl, n2⟩
    rw [show strOf [] = ⟨#[]⟩ from rfl]
    go_wp2_with fail
    refine (check_bad a0 cap0 l _ (H.out.below (n1.tr n2)) HC.out).mono ?_
    rintro e w' ⟨rfl, rfl⟩
    go_wp2
    go_ret
    exact ⟨rfl, n1.tr n2⟩

/-! ### THE ROW's STEP: WRITTEN OUT: LEAVE IT -/
set_option maxRecDepth 100000 in
theorem lifted (os : Os) (started : os.Started) (H : Type) (enc : TypeId × Value → H) :
    ReturnsInHanded {} Try.checked os 7 .any (Rows.bitsReadsSpec.pre6 enc Try.prog Try.f7 Rows.bitsReadsRow.domain false) (Rows.bitsReadsSpec.post enc Try.prog Try.f7 false true false false) := by
  refine returnsInHanded_of_change (C := Try.checked) own started (by kernel_rfl) Try.func7
    (ChangeSpec.witness6 (enc := enc) (C := Try.checked) false ⟨#[], #[.slice none 0 0, .int .u16 0, .int .u8 0], []⟩ 8 (by kernel_rfl) (by kernel_rfl) (by kernel_rfl) (by kernel_rfl)) ?_
  intro W base args ds gs before hval0 hW hcnd _
  have hval : ∀ (j : Nat) t v, Try.f7.params[j]? = some t → args[j]? = some v → Value.okWide Try.prog W .any base t v := hval0
  have hW' := hW
  obtain ⟨p, q, hA0, hV, rfl, hfz, hnd⟩ := hW
  have hA : DataW.TrodAll enc Try.prog W 0 (fun _ => true) true Try.f7.params.toList args.toList ds p := hA0
  rw [Try.params7] at hA hval
  obtain ⟨v0, vs0, d0, ds0, p0, q0, hargs, rfl, rfl, h0, r0⟩ := trodAll_cons hA
  obtain ⟨v1, vs1, d1, ds1, p1, q1, rfl, rfl, rfl, h1, r1⟩ := trodAll_cons r0
  obtain ⟨v2, vs2, d2, ds2, p2, q2, rfl, rfl, rfl, h2, r2⟩ := trodAll_cons r1
  obtain ⟨rfl, rfl, rfl⟩ := trodAll_nil r2
  obtain rfl : args = #[v0, v1, v2] := by cases args; simp_all
  obtain ⟨rfl, rfl⟩ := trodVars_none hV
  obtain ⟨a0, len0, cap0, rfl⟩ := okWide_slice Try.underlying23 (hval 0 23 v0 rfl rfl)
  have k0 := h0
  have lt0 : ∀ x ∈ p0, x.block < W.heap.size := by obtain ⟨m, hm⟩ := k0; exact DataW.trod_lt m _ _ _ hm
  obtain ⟨z0, w0⟩ : ∃ zs, IsRow .u8 W a0 len0 cap0 zs := by
    obtain ⟨fuel, hf⟩ := h0
    rcases open_ints Try.underlying23 Try.underlying5 (by kernel_rfl) hf with ⟨hcs, _⟩ | ⟨x, l, c, zs, hcs, _, hl, hm, hz, _, hcell, hwz⟩
    · simp [Value.cells] at hcs
      obtain ⟨rfl, rfl, rfl⟩ := hcs
      exact ⟨[], .inl ⟨rfl, rfl, rfl, rfl⟩⟩
    · simp [Value.cells] at hcs
      obtain ⟨rfl, rfl, rfl⟩ := hcs
      exact ⟨zs, .inr ⟨_, rfl, hl, hm, by simpa using hz, hcell, hwz⟩⟩
  obtain ⟨a1, rfl, rfl, rfl, w1⟩ := open_int Try.underlying41 (hval 1 41 v1 rfl rfl) h1
  obtain ⟨a2, rfl, rfl, rfl, w2⟩ := open_int Try.underlying5 (hval 2 5 v2 rfl rfl) h2
  clear hA0 hval0
  refine (walk a0 len0 cap0 z0 a1 a2 W w0 w1 w2).mono fun e W' ⟨he, bel⟩ => ?_
  subst he
  exact ⟨_, rfl, _, _, _, [], _, [], hW', trodAll_mk1 (shut_bool Try.underlying4 _), (trodAll_cons_mk (Below.trod laidOut (by kernel_rfl) (of_decide_eq_true (by kernel_rfl)) k0 bel lt0) (trodAll_cons_mk (shut_int Try.underlying41 w1) (trodAll_cons_mk (shut_int Try.underlying5 w2) trodAll_mk0))), rfl, bel.frame _, fun h => by cases h⟩

theorem over : Rows.bitsReadsRow.holds Try.pinned (OpenSpec.ofChange Rows.bitsReadsSpec) :=
  OpenClaim.holds_of_wide 7 Try.f7 rfl rfl rfl rfl rfl rfl rfl ⟨rfl, rfl, rfl, rfl, rfl⟩ rfl rfl rfl rfl rfl (by kernel_rfl) Try.func7 (by kernel_rfl)
    (of_decide_eq_true (by kernel_rfl)) (by unfold Func.isWrapper; first | (rw [if_pos (by decide +kernel)]; kernel_rfl) | (rw [if_neg (by decide +kernel)]; exact ⟨rfl, rfl⟩))
    (fun os started H enc _ => lifted os started H enc)

/-- ████ THE STATEMENT ████ -/
theorem proved : Rows.BitsReadsSaid := over
#print axioms proved
end Go.Proofs.Ytdgdbfmjbbdleaa.bitsReads
