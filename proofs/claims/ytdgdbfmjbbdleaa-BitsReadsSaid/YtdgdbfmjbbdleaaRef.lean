/- Contracts of the document's Bits, Put, Get, Bytes, Pack and Text. Condition: at most a million bytes. -/
import Derived.Test.YtdgdbfmjbbdleaaRead
import Derived.Test.YtdgdbfmjbbdleaaRun
/-
  The document's answers.
-/
namespace Go.Proofs.Ytdgdbfmjbbdleaa
open Go.RowKit

theorem run_makeFull (w : World) (n : Nat) (hn : n ≤ 140737488355328) : (Instr.makeSlice 23 (.int .i64 (n : Int)) (.int .i64 (n : Int))).run Try.prog w = .ok (.slice (some ⟨w.heap.size, 0, none⟩) n n) (w.alloc (.cells (madeCells #[.int .u8 0] n) 5)) := by
  obtain ⟨i0, hi, hz0, hz1, hz2⟩ := info_parts infoU8
  have h := run_make w 23 5 i0 (.int .u8 0) Try.underlying23 hi hz0 .i64 .i64 n n (by omega) (by omega) (by rw [hz2]; omega) (by omega)
  rw [hz1] at h
  simpa [Value.cells] using h

theorem madeCells_toList (n : Nat) : (madeCells #[.int .u8 0] n).toList = List.replicate n (.int .u8 0) := by
  apply List.ext_getElem?
  intro i
  by_cases hi : i < n
  · simp [madeCells, hi, List.getElem?_replicate, Nat.mod_one]
  · simp [madeCells, hi, List.getElem?_replicate]

theorem OwnB.full (w : World) (n : Nat) (hn : n ≤ 140737488355328) : OwnB (w.alloc (.cells (madeCells #[.int .u8 0] n) 5)) (.slice (some ⟨w.heap.size, 0, none⟩) n n) (List.replicate n 0) := by
  refine ⟨⟨by simp, .inr ⟨w.heap.size, n, madeCells #[.int .u8 0] n, by simp, Nat.zero_le _, heap_alloc_new w _, by simp, by unfold maxLen; omega, by simp [size_madeCells], ?_⟩⟩, by simp⟩
  rw [madeCells_toList]
  simp

theorem OwnB.nil (w : World) : OwnB w (.slice none 0 0) [] := ⟨World.ownsRow_nil _ _ _ _, by simp⟩
theorem OwnB.drewN {w : World} {v : Value} {l : List Nat} (h : OwnB w v l) (n : Nat) : OwnB (w.drewN n) v l := h

set_option maxHeartbeats 800000 in
set_option maxRecDepth 100000 in
theorem refbits_any (n size : Nat) (w : World) (hn : n < 2 ^ 64) (hs : size ≤ 64) :
    Calls Try.prog 30 #[.int .u64 n, .int .i64 size] w fun e w' => (∃ a c, e = .returned (.slice a size c) ∧ Bs w' a c (bitsN n size)) ∧ Nb w w' := by
  have hm : ∀ w, (Instr.makeSlice 23 (.int .i64 (size : Int)) (.int .i64 (size : Int))).run Try.prog w = _ := fun w => run_makeFull w size (by omega)
  have h0 := OwnB.full w size (by omega)
  have HO := Lib.hid h0
  have HN := Lib.hid hn
  clear h0 hn
  go_enter Try.func30, Try.ntmps30
  go_wp2
  go_loopw [0, 6] (fun m i wr => ∃ k : Nat, k ≤ size ∧ i = .int .i64 ((k : Int) - 1) ∧ m = .int .u64 ((n / 2 ^ (size - k) : Nat) : Int) ∧ OwnB wr (.slice (some ⟨w.heap.size, 0, none⟩) size size) (List.replicate k 0 ++ (bitsN n size).drop k) ∧ Nb w wr) (fun _ i _ => (intOf i + 1).toNat)
  case atStart =>
    refine ⟨size, Nat.le_refl _, rfl, by simp, ?_, Nb.rfl.al _⟩
    rw [List.drop_of_length_le (by rw [bitsN_length]; exact Nat.le_refl _), List.append_nil]
    exact HO.out
  case round =>
    obtain ⟨k, hk, rfl, rfl, ho, hnb⟩ := hrel
    cases k with
    | succ k =>
      have hlen : (List.replicate (k + 1) 0 ++ (bitsN n size).drop (k + 1)).length = size := by simp [bitsN_length]; omega
      have hf : wr.frozen? ⟨w.heap.size, k, none⟩ = false := ho.frozen rfl _
      have hc : wr.cell? ⟨w.heap.size, k, none⟩ = some (.int .u8 ((0 : Nat) : Int)) := by
        obtain ⟨a, cp, hv, hbs, _⟩ := ho.bs
        obtain ⟨b, o, rfl, hcl⟩ := hbs.hcells (by omega)
        simp only [Value.slice.injEq, Option.some.injEq, Addr.mk.injEq, and_true] at hv
        obtain ⟨⟨rfl, rfl⟩, _, rfl⟩ := hv
        have h3 := hcl k (by omega)
        rw [Nat.zero_add] at h3
        rw [h3]
        simp [List.getD, List.getElem?_append_left, List.getElem?_replicate]
      have hq : n / 2 ^ (size - (k + 1)) < 2 ^ 64 := Nat.lt_of_le_of_lt (Nat.div_le_self _ _) HN.out
      have hset := ho.setByte (g := w.heap.size) rfl k (by omega) (n / 2 ^ (size - (k + 1)) % 2) (by omega)
      have e1 : (List.replicate (k + 1) 0 ++ (bitsN n size).drop (k + 1)).set k (n / 2 ^ (size - (k + 1)) % 2) = List.replicate k 0 ++ (bitsN n size).drop k := by
        rw [List.drop_eq_getElem_cons (i := k) (by rw [bitsN_length]; omega), List.replicate_succ', List.append_assoc, List.set_append_right _ _ (by simp)]
        simp [bitsN, show size - 1 - k = size - (k + 1) from by omega]
      rw [e1] at hset
      have e2 : n / 2 ^ (size - (k + 1)) / 2 = n / 2 ^ (size - k) := by rw [Nat.div_div_eq_div_mul, ← Nat.pow_succ, show (size - (k + 1)).succ = size - k from by omega]
      have HS := Lib.hid hset
      have HE := Lib.hid e2
      have d1 : (k : Int) + 1 - 1 = k := by omega
      clear hset e1 e2 ho hlen
      rw [show ((k + 1 : Nat) : Int) - 1 = (k : Int) from by omega]
      clear d1
      generalize n / 2 ^ (size - (k + 1)) = q at *
      have dq : ((q % 2 : Nat) : Int) = ((q : Int) % 2) := by omega
      have DQ := Lib.hid dq
      clear dq
      go_wp2
      go_roundw
      case rel =>
        refine ⟨k, by omega, rfl, ?_, ?_, hnb.st (by simp) _⟩
        · rw [← HE.out]; go_num
        · rw [← DQ.out]; exact HS.out
      case measure => simp [intOf]
    | zero =>
      have hl : (List.replicate 0 0 ++ (bitsN n size).drop 0) = bitsN n size := by simp
      rw [hl] at ho
      obtain ⟨a, c, hv, hbs, _⟩ := ho.bs
      simp only [Value.slice.injEq, bitsN_length, true_and] at hv
      obtain ⟨rfl, rfl⟩ := hv
      clear ho hl
      go_wp2
      go_ret
      exact ⟨⟨_, _, rfl, hbs⟩, hnb⟩

set_option maxHeartbeats 800000 in
set_option maxRecDepth 100000 in
theorem refput_ok (n size : Nat) (w : World) (hs : size ≤ 64) (hn : n < 2 ^ size) :
    Calls Try.prog 11 #[.int .u64 n, .int .i64 size] w fun e w' => (∃ a c, e = .returned (.tuple #[.slice a size c, .int .i64 0]) ∧ Bs w' a c (bitsN n size)) ∧ Nb w w' := by
  have hn64 : n < 2 ^ 64 := Nat.lt_of_lt_of_le hn (Nat.pow_le_pow_right (by omega) hs)
  have hsh : decide (0 < (n : Int) / 2 ^ size) = false := by
    have : ((n : Int) / 2 ^ size) = ((n / 2 ^ size : Nat) : Int) := by push_cast; rfl
    rw [this, Nat.div_eq_of_lt hn]; rfl
  have d1 : decide ((size : Int) < 0) = false := by simp
  have d2 : decide (64 < (size : Int)) = false := by simp; omega
  have HN := Lib.hid hn64
  clear hn hn64
  by_cases h64 : size < 64
  all_goals
    go_enter Try.func11, Try.ntmps11
    go_wp2_with fail
    refine (refbits_any n size _ HN.out hs).mono ?_
    rintro e w1 ⟨⟨a, c, rfl, hbs⟩, hnb⟩
    have HB := Lib.hid hbs
    clear hbs
    go_wp2
    go_ret2
    exact ⟨⟨a, c, rfl, HB.out⟩, hnb⟩

set_option maxHeartbeats 800000 in
set_option maxRecDepth 100000 in
theorem refput_bad (n : Nat) (size : Int) (w : World) (hn : n < 2 ^ 64) (h : ¬ PutOk n size) :
    Calls Try.prog 11 #[.int .u64 n, .int .i64 size] w fun e w' => e = .returned (.tuple #[.slice none 0 0, .int .i64 2]) ∧ Nb w w' := by
  have HN := Lib.hid hn
  have H := Lib.hid h
  clear hn h
  by_cases h0 : size < 0
  · go_enter Try.func11, Try.ntmps11
    go_wp2
    go_ret2
    exact ⟨rfl, Nb.rfl⟩
  by_cases h1 : 64 < size
  · go_enter Try.func11, Try.ntmps11
    go_wp2
    go_ret2
    exact ⟨rfl, Nb.rfl⟩
  obtain ⟨m, rfl⟩ := Int.eq_ofNat_of_zero_le (by omega : 0 ≤ size)
  have hm : m < 64 := by
    by_cases hm : m = 64
    · exact absurd ⟨by omega, by omega, by rw [hm]; exact HN.out⟩ H.out
    · omega
  have h2 : decide (0 < (n : Int) / 2 ^ m) = true := by
    have h := H.out
    unfold PutOk at h
    have e : ((n : Int) / 2 ^ m) = ((n / 2 ^ m : Nat) : Int) := by push_cast; rfl
    rw [e]
    have : n / 2 ^ m ≠ 0 := by
      intro hz
      rcases Nat.div_eq_zero_iff.1 hz with h' | h'
      · have := Nat.two_pow_pos m; omega
      · exact h ⟨by omega, by omega, by simpa using h'⟩
    simp only [decide_eq_true_eq]
    clear h e
    generalize n / 2 ^ m = q at *
    omega
  have d1 : decide ((m : Int) < 0) = false := by simp
  have d2 : decide (64 < (m : Int)) = false := by simp; omega
  go_enter Try.func11, Try.ntmps11
  go_wp2
  go_ret2
  exact ⟨rfl, Nb.rfl⟩

set_option maxHeartbeats 800000 in
set_option maxRecDepth 100000 in
theorem refget_ok (a : Option Addr) (cap : Nat) (l : List Nat) (w : World) (h : Bs w a cap l) (hc : getOk l = true) :
    Calls Try.prog 13 #[.slice a l.length cap] w fun e w' => e = .returned (.tuple #[.int .u64 (numN l), .int .i64 0]) ∧ Nb w w' := by
  have hL := h.len
  have h1 : l.length ≤ 64 := by simp [getOk] at hc; exact hc.1
  have hc' : chk l = true := by simpa [getOk, h1] using hc
  have hbit := Lib.hid (chk_bit hc')
  have HC := Lib.hid hc'
  have H := Lib.hid h
  clear hc hc' h
  have d1 : decide (64 < (l.length : Int)) = false := by simp; omega
  go_enter Try.func13, Try.ntmps13
  go_wp2_with fail
  refine (refcheck_ok a cap l w H.out HC.out).mono ?_
  rintro e w' ⟨rfl, rfl⟩
  go_wp2_with fail
  refine (num_any a cap l _ H.out hbit.out h1).mono ?_
  rintro e w' ⟨rfl, rfl⟩
  go_wp2
  go_ret2
  exact ⟨rfl, Nb.rfl⟩

set_option maxHeartbeats 800000 in
set_option maxRecDepth 100000 in
theorem refbytes_any (a : Option Addr) (cap : Nat) (l : List Nat) (w : World) (h : Bs w a cap l) (hl : l.length ≤ 1000000) :
    Calls Try.prog 22 #[.slice a l.length cap] w fun e w' => (∃ a c, e = .returned (.slice a (8 * l.length) c) ∧ Bs w' a c (l.flatMap fun x => bitsN x 8)) ∧ Nb w w' := by
  have H := Lib.hid h
  have hfl : ∀ k, k ≤ l.length → ((l.take k).flatMap fun x => bitsN x 8).length = 8 * k := by
    intro k hk
    induction k with
    | zero => simp
    | succ k ih =>
      rw [take_snoc' (x := l[k]) (by simp), List.flatMap_append, List.length_append, ih (by omega)]
      simp [bitsN_length]
      omega
  have HF := Lib.hid hfl
  clear h hfl
  go_enter Try.func22, Try.ntmps22
  go_wp2
  go_loopw [3, 8] (fun v i wr => ∃ k : Nat, k ≤ l.length ∧ i = .int .i64 k ∧ OwnB wr v ((l.take k).flatMap fun x => bitsN x 8) ∧ (∀ g, v.ownBlock = some g → w.heap.size ≤ g) ∧ Nb w wr) (fun _ i _ => l.length - (intOf i).toNat)
  case atStart => exact ⟨0, Nat.zero_le _, rfl, by simpa using OwnB.nil w, by simp [Value.ownBlock], Nb.rfl⟩
  case round =>
    obtain ⟨k, hk, rfl, ho, hfr, hnb⟩ := hrel
    have hsz := HF.out k hk
    by_cases hlt : k < l.length
    · obtain ⟨b, o, rfl, hcl⟩ := (H.out.below hnb).hcells (by omega)
      obtain ⟨x, hx⟩ : ∃ x, l[k]? = some x := ⟨l[k], by simp [hlt]⟩
      have c1 := hcl k hlt
      rw [show l.getD k 0 = x from by simp [List.getD, hx]] at c1
      have hx1 : x < 256 := H.out.hbyte x (List.mem_of_getElem? hx)
      have HX := Lib.hid hx
      have HO := Lib.hid ho
      have HZ := Lib.hid hsz
      clear hcl hx ho hsz
      go_wp2_with fail
      refine (refbits_any x 8 _ (by omega) (by omega)).mono ?_
      rintro e w1 ⟨⟨a', c', rfl, hbs⟩, hnb1⟩
      have ho1 := HO.out.keep (F := fun _ => False) (Kp.ofNb hnb1) (by simp)
      have ha' : a' = none → 8 = 0 ∧ c' = 0 := by
        rintro rfl
        obtain ⟨_, _, h, _⟩ := hbs.hcells (by rw [bitsN_length]; omega)
        cases h
      have hsz := HZ.out
      go_wp2_with (at_builtin; refine wpList_appB _ rfl (.tmp 12) (.tmp 15) rfl _ _ rfl ho1 a' c' (bitsN x 8) 8 (by rw [bitsN_length]) rfl hbs ha' (by rw [hsz, bitsN_length]; omega) ?_)
      intro v' w2 hown hk2 hfr2
      have hrel : OwnB w2 v' ((l.take (k + 1)).flatMap fun x => bitsN x 8) := by
        rw [take_snoc' HX.out, List.flatMap_append]
        simpa using hown
      have hfr' : ∀ g, v'.ownBlock = some g → w.heap.size ≤ g := fun g hg => by
        rcases hfr2 g hg with h | h
        · exact hfr g h
        · exact Nat.le_trans hnb.size (Nat.le_trans hnb1.size h)
      have hnb2 : Nb w w2 := (hnb.tr hnb1).trans (hk2.toBelow (Nat.le_trans hnb.size hnb1.size) hfr)
      clear hown hk2 hfr2 hbs ho1
      go_wp2
      go_roundw
      case rel => exact ⟨k + 1, by omega, by go_num, hrel, hfr', hnb2⟩
      case measure => simp [intOf]; omega
    · obtain rfl : k = l.length := by omega
      rw [List.take_of_length_le (Nat.le_refl _)] at ho hsz
      obtain ⟨a', c', rfl, hbs, _⟩ := ho.bs
      have HB := Lib.hid hbs
      have HZ := Lib.hid hsz
      clear ho hbs hsz
      go_wp2
      go_ret
      exact ⟨⟨a', c', by rw [← HZ.out]; rfl, HB.out⟩, hnb⟩

set_option maxHeartbeats 800000 in
set_option maxRecDepth 100000 in
theorem refpack_bad (a : Option Addr) (cap : Nat) (l : List Nat) (w : World) (h : Bs w a cap l) (hc : chk l = false) :
    Calls Try.prog 20 #[.slice a l.length cap] w fun e w' => e = .returned (.tuple #[.slice none 0 0, .int .i64 2]) ∧ Nb w w' := by
  have HC := Lib.hid hc
  have H := Lib.hid h
  clear hc h
  go_enter Try.func20, Try.ntmps20
  go_wp2_with fail
  refine (refcheck_bad a cap l w H.out HC.out).mono ?_
  rintro e w' ⟨rfl, rfl⟩
  go_wp2
  go_ret2
  exact ⟨rfl, Nb.rfl⟩

set_option maxHeartbeats 800000 in
set_option maxRecDepth 100000 in
theorem refpack_short (a : Option Addr) (cap : Nat) (l : List Nat) (w : World) (h : Bs w a cap l) (hc : chk l = true) (h8 : l.length % 8 ≠ 0) :
    Calls Try.prog 20 #[.slice a l.length cap] w fun e w' => e = .returned (.tuple #[.slice none 0 0, .int .i64 3]) ∧ Nb w w' := by
  have HC := Lib.hid hc
  have H := Lib.hid h
  have hL := h.len
  have d8 : decide (0 < (l.length : Int) % 8) = true := by rw [decide_eq_true_eq]; omega
  clear hc h
  go_enter Try.func20, Try.ntmps20
  go_wp2_with fail
  refine (refcheck_ok a cap l w H.out HC.out).mono ?_
  rintro e w' ⟨rfl, rfl⟩
  go_wp2
  go_ret2
  exact ⟨rfl, Nb.rfl⟩

theorem packN_take_succ (l : List Nat) (m : Nat) (h : m < l.length / 8) : (packN l).take (m + 1) = (packN l).take m ++ [numN ((l.drop (8 * m)).take 8)] :=
  take_snoc' (by simp only [packN, List.getElem?_map, List.getElem?_range h, Option.map_some])

/-- A piece of a slice of bytes, behind its beginning. -/
theorem Bs.cut {w : World} {b o cap : Nat} {l : List Nat} (h : Bs w (some ⟨b, o, none⟩) cap l) (i n : Nat) (hi : i + n ≤ l.length) : Bs w (some ⟨b, o + i, none⟩) (cap - i) ((l.drop i).take n) := by
  have hlen : ((l.drop i).take n).length = n := by rw [List.length_take, List.length_drop]; omega
  have hc := h.hcap
  have hm := h.hmax
  refine ⟨by omega, by omega, fun x hx => h.hbyte x (List.mem_of_mem_drop (List.mem_of_mem_take hx)), fun h0 => ⟨b, o + i, rfl, fun j hj => ?_⟩⟩
  obtain ⟨b', o', he, hcl⟩ := h.hcells (by omega)
  simp only [Option.some.injEq, Addr.mk.injEq, and_true] at he
  obtain ⟨rfl, rfl⟩ := he
  have := hcl (i + j) (by omega)
  rw [Nat.add_assoc, this]
  simp [List.getD, show j < n by omega]

set_option maxHeartbeats 1600000 in
set_option maxRecDepth 100000 in
theorem refpack_ok (a : Option Addr) (cap : Nat) (l : List Nat) (w : World) (h : Bs w a cap l) (hc : chk l = true) (h8 : l.length % 8 = 0) :
    Calls Try.prog 20 #[.slice a l.length cap] w fun e w' => (∃ a c, e = .returned (.tuple #[.slice a (packN l).length c, .int .i64 0]) ∧ Bs w' a c (packN l)) ∧ Nb w w' := by
  have HC := Lib.hid hc
  have H := Lib.hid h
  have hL := h.len
  have hlen := chk_len hc
  have hcap := h.hcap
  have hbit := Lib.hid (chk_bit hc)
  obtain ⟨m, hm⟩ : ∃ m, l.length = 8 * m := ⟨l.length / 8, by omega⟩
  have HM := Lib.hid hm
  have hm1 : l.length ≤ 8 * m := by omega
  have hm2 : 8 * m ≤ l.length := by omega
  have d8 : decide (0 < (l.length : Int) % 8) = false := by rw [decide_eq_false_iff_not]; omega
  clear hc h h8 hm
  go_enter Try.func20, Try.ntmps20
  go_wp2_with fail
  refine (refcheck_ok a cap l w H.out HC.out).mono ?_
  rintro e w' ⟨rfl, rfl⟩
  go_wp2
  go_loopw [5, 6] (fun v i wr => ∃ k : Nat, k ≤ m ∧ i = .int .i64 ((8 * k : Nat) : Int) ∧ OwnB wr v ((packN l).take k) ∧ (∀ g, v.ownBlock = some g → w.heap.size ≤ g) ∧ Nb w wr) (fun _ i _ => l.length - (intOf i).toNat)
  case atStart => exact ⟨0, Nat.zero_le _, rfl, by simpa using OwnB.nil w, by simp [Value.ownBlock], Nb.rfl⟩
  case round =>
    obtain ⟨k, hk, rfl, ho, hfr, hnb⟩ := hrel
    have hplen : ((packN l).take k).length ≤ 65536 := by rw [List.length_take, packN_length]; omega
    by_cases hlt : k < m
    · obtain ⟨b, o, rfl, hcl⟩ := (H.out.below hnb).hcells (by omega)
      have HO := Lib.hid ho
      have hcut := (H.out.below hnb).cut (8 * k) 8 (by omega)
      have HK := Lib.hid hcut
      have h8l : ((l.drop (8 * k)).take 8).length = 8 := by rw [List.length_take, List.length_drop]; omega
      have H8 := Lib.hid h8l
      have hnum := numN_lt ((l.drop (8 * k)).take 8) (fun x hx => hbit.out x (List.mem_of_mem_drop (List.mem_of_mem_take hx)))
      rw [h8l] at hnum
      have hnum' : numN ((l.drop (8 * k)).take 8) < 256 := hnum
      have e8 : ((8 * k : Nat) : Int) + 8 = ((8 * k + 8 : Nat) : Int) := by push_cast; rfl
      clear hcl ho hcut h8l hnum e8
      go_wp2_with fail
      have hn := num_any (some ⟨b, o + 8 * k, none⟩) (cap - 8 * k) _ wr HK.out (fun x hx => hbit.out x (List.mem_of_mem_drop (List.mem_of_mem_take hx))) (by rw [H8.out]; omega)
      rw [H8.out] at hn
      refine hn.mono ?_
      rintro e w' ⟨rfl, rfl⟩
      have ht := packN_take_succ l k (by omega)
      clear hn
      generalize numN ((l.drop (8 * k)).take 8) = q at *
      have HT := Lib.hid ht
      have hal : Kp (fun _ => False) wr (wr.alloc (.cells #[.int .u8 (q : Int)] 5)) := Kp.alloc
      have ho1 := HO.out.keep hal (by simp)
      clear ht
      go_wp2_with (at_builtin; refine wpList_appB _ rfl (.tmp 22) (.tmp 30) rfl _ _ rfl ho1 _ _ [q] 1 rfl rfl (Bs.one wr q hnum' _) (by simp) (by simp; omega) ?_)
      intro v' w2 hown hk2 hfr2
      have hrel : OwnB w2 v' ((packN l).take (k + 1)) := by
        rw [HT.out]
        exact hown
      have hfr' : ∀ g, v'.ownBlock = some g → w.heap.size ≤ g := fun g hg => by
        rcases hfr2 g hg with h | h
        · exact hfr g h
        · have := hnb.size; omega
      have hnb2 : Nb w w2 := (hnb.al _).trans (hk2.toBelow (Nat.le_trans hnb.size hal.size) hfr)
      clear hown hk2 hfr2 ho1 hal
      go_wp2
      go_roundw
      case rel => exact ⟨k + 1, by omega, by go_num, hrel, hfr', hnb2⟩
      case measure => simp [intOf]; omega
    · obtain rfl : k = m := by omega
      rw [List.take_of_length_le (by rw [packN_length]; omega)] at ho
      obtain ⟨a', c', rfl, hbs, _⟩ := ho.bs
      have HB := Lib.hid hbs
      clear ho hbs
      go_wp2
      go_ret2
      exact ⟨⟨a', c', rfl, HB.out⟩, hnb⟩

set_option maxHeartbeats 800000 in
set_option maxRecDepth 100000 in
theorem reftext_bad (a : Option Addr) (cap : Nat) (l : List Nat) (w : World) (h : Bs w a cap l) (hc : chk l = false) :
    Calls Try.prog 24 #[.slice a l.length cap] w fun e w' => e = .returned (.tuple #[.string (strOf []), .int .i64 2]) ∧ Nb w w' := by
  have HC := Lib.hid hc
  have H := Lib.hid h
  clear hc h
  go_enter Try.func24, Try.ntmps24
  go_wp2_with fail
  refine (refcheck_bad a cap l w H.out HC.out).mono ?_
  rintro e w' ⟨rfl, rfl⟩
  go_wp2
  go_ret2
  exact ⟨rfl, Nb.rfl⟩

set_option maxHeartbeats 1600000 in
set_option maxRecDepth 100000 in
theorem reftext_ok (a : Option Addr) (cap : Nat) (l : List Nat) (w : World) (h : Bs w a cap l) (hc : chk l = true) :
    Calls Try.prog 24 #[.slice a l.length cap] w fun e w' => e = .returned (.tuple #[.string (strOf (l.map (48 + ·))), .int .i64 0]) ∧ Nb w w' := by
  have HC := Lib.hid hc
  have H := Lib.hid h
  have hL := h.len
  have hlen := chk_len hc
  have hbit := Lib.hid (chk_bit hc)
  clear hc h
  go_enter Try.func24, Try.ntmps24
  go_wp2_with fail
  refine (refcheck_ok a cap l w H.out HC.out).mono ?_
  rintro e w' ⟨rfl, rfl⟩
  go_wp2
  go_loopw [5, 15] (fun v i wr => ∃ k : Nat, k ≤ l.length ∧ i = .int .i64 k ∧ OwnB wr v ((l.take k).map (48 + ·)) ∧ (∀ g, v.ownBlock = some g → w.heap.size ≤ g) ∧ Nb w wr) (fun _ i _ => l.length - (intOf i).toNat)
  case atStart => exact ⟨0, Nat.zero_le _, rfl, by simpa using OwnB.nil w, by simp [Value.ownBlock], Nb.rfl⟩
  case round =>
    obtain ⟨k, hk, rfl, ho, hfr, hnb⟩ := hrel
    by_cases hlt : k < l.length
    · obtain ⟨b, o, rfl, hcl⟩ := (H.out.below hnb).hcells (by omega)
      obtain ⟨x, hx⟩ : ∃ x, l[k]? = some x := ⟨l[k], by simp [hlt]⟩
      have c1 := hcl k hlt
      rw [show l.getD k 0 = x from by simp [List.getD, hx]] at c1
      have hx1 : x ≤ 1 := hbit.out x (List.mem_of_getElem? hx)
      have HX := Lib.hid hx
      have hal : Kp (fun _ => False) wr (wr.alloc (.cells #[.int .u8 ((48 + x : Nat) : Int)] 5)) := Kp.alloc
      have ho1 := ho.keep hal (by simp)
      have hb1 := Bs.one wr (48 + x) (by omega) 5
      have e48 : ((48 + x : Nat) : Int) = 48 + (x : Int) := by push_cast; rfl
      rw [e48] at hal ho1 hb1
      clear hcl hx ho e48
      go_wp2_with (at_builtin; refine wpList_appB _ rfl (.tmp 19) (.tmp 22) rfl _ _ rfl ho1 _ _ [48 + x] 1 rfl rfl hb1 (by simp) (by simp; omega) ?_)
      intro v' w2 hown hk2 hfr2
      have hrel : OwnB w2 v' ((l.take (k + 1)).map (48 + ·)) := by
        rw [take_snoc' HX.out, List.map_append]
        simpa [List.map_take] using hown
      have hfr' : ∀ g, v'.ownBlock = some g → w.heap.size ≤ g := fun g hg => by
        rcases hfr2 g hg with h | h
        · exact hfr g h
        · have := hnb.size; omega
      have hnb2 : Nb w w2 := (hnb.al _).trans (hk2.toBelow (Nat.le_trans hnb.size hal.size) hfr)
      clear hown hk2 hfr2 ho1 hal hb1
      go_wp2
      go_roundw
      case rel => exact ⟨k + 1, by omega, by go_num, hrel, hfr', hnb2⟩
      case measure => simp [intOf]; omega
    · obtain rfl : k = l.length := by omega
      rw [List.take_of_length_le (Nat.le_refl _)] at ho
      obtain ⟨a', c', rfl, hbs, _⟩ := ho.bs
      have hcv := run_convB wr a' c' _ hbs
      rw [List.length_map] at hcv
      clear ho hbs
      go_wp2
      go_ret2
      exact ⟨rfl, hnb⟩
end Go.Proofs.Ytdgdbfmjbbdleaa
