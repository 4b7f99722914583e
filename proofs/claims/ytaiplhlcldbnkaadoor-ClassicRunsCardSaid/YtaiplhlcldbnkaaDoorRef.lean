
/- Contracts of the document's Bits, Put, Get, Bytes, Pack and Text. Condition: at most a million bytes. -/
import Derived.Test.YtaiplhlcldbnkaaDoorRead
import Derived.Test.YtaiplhlcldbnkaaDoorRun
/-
  The document's answers.
-/
namespace Go.Proofs.YtaiplhlcldbnkaaDoor
set_option linter.unusedVariables false
set_option linter.unusedSimpArgs false
open Go.RowKit

set_option maxHeartbeats 800000 in
set_option maxRecDepth 100000 in
theorem refbits_any (n size : Nat) (w : World) (hn : n < 2 ^ 64) (hs : size ≤ 64) :
    Calls Tryd.prog 30 #[.int .u64 n, .int .i64 size] w fun e w' => (∃ a c, e = .returned (.slice a size c) ∧ Bs w' a c (bitsN n size)) ∧ Nb w w' := by
  have hm : ∀ w, (Instr.makeSlice 23 (.int .i64 (size : Int)) (.int .i64 (size : Int))).run Tryd.prog w = _ := fun w => run_makeFull w size (by omega)
  have h0 := OwnB.full w size (by omega)
  have HO := Lib.hid h0
  have HN := Lib.hid hn
  clear h0 hn
  go_enter Tryd.func30, Tryd.ntmps30
  go_wp2
  go_loopw [0, 6] (fun m i wr => ∃ k : Nat, k ≤ size ∧ i = .int .i64 ((k : Int) - 1) ∧ m = .int .u64 ((n / 2 ^ (size - k) : Nat) : Int) ∧ OwnB wr (.slice (some ⟨w.heap.size, 0, none⟩) size size) (List.replicate k 0 ++ (bitsN n size).drop k) ∧ Nb w wr) (fun _ i _ => (intOf i + 1).toNat)
  case atStart =>
    refine ⟨size, Nat.le_refl _, rfl, by simp, ?_, Nb.rfl.al _⟩
    rw [List.drop_of_length_le (by rw [bitsN_length]; exact Nat.le_refl _), List.append_nil]
    exact HO.out
  case round =>
    obtain ⟨k, hk, rfl, rfl, ho, hnb⟩ := hrel
    cases k with
    | succ k =>
      have hlen : (List.replicate (k + 1) 0 ++ (bitsN n size).drop (k + 1)).length = size := by simp [bitsN_length]; omega
      have hf : wr.frozen? ⟨w.heap.size, k, none⟩ = false := ho.frozen rfl _
      have hc : wr.cell? ⟨w.heap.size, k, none⟩ = some (.int .u8 ((0 : Nat) : Int)) := by
        obtain ⟨a, cp, hv, hbs, _⟩ := ho.bs
        obtain ⟨b, o, rfl, hcl⟩ := hbs.hcells (by omega)
        simp only [Value.slice.injEq, Option.some.injEq, Addr.mk.injEq, and_true] at hv
        obtain ⟨⟨rfl, rfl⟩, _, rfl⟩ := hv
        have h3 := hcl k (by omega)
        rw [Nat.zero_add] at h3
        rw [h3]
        simp [List.getD, List.getElem?_append_left, List.getElem?_replicate]
      have hq : n / 2 ^ (size - (k + 1)) < 2 ^ 64 := Nat.lt_of_le_of_lt (Nat.div_le_self _ _) HN.out
      have hset := ho.setByte (g := w.heap.size) rfl k (by omega) (n / 2 ^ (size - (k + 1)) % 2) (by omega)
      have e1 : (List.replicate (k + 1) 0 ++ (bitsN n size).drop (k + 1)).set k (n / 2 ^ (size - (k + 1)) % 2) = List.replicate k 0 ++ (bitsN n size).drop k := by
        rw [List.drop_eq_getElem_cons (i := k) (by rw [bitsN_length]; omega), List.replicate_succ', List.append_assoc, List.set_append_right _ _ (by simp)]
        simp [bitsN, show size - 1 - k = size - (k + 1) from by omega]
      rw [e1] at hset
      have e2 : n / 2 ^ (size - (k + 1)) / 2 = n / 2 ^ (size - k) := by rw [Nat.div_div_eq_div_mul, ← Nat.pow_succ, show (size - (k + 1)).succ = size - k from by omega]
      have HS := Lib.hid hset
      have HE := Lib.hid e2
      have d1 : (k : Int) + 1 - 1 = k := by omega
      clear hset e1 e2 ho hlen
      rw [show ((k + 1 : Nat) : Int) - 1 = (k : Int) from by omega]
      clear d1
      generalize n / 2 ^ (size - (k + 1)) = q at *
      have dq : ((q % 2 : Nat) : Int) = ((q : Int) % 2) := by omega
      have DQ := Lib.hid dq
      clear dq
      go_wp2
      go_roundw
      case rel =>
        refine ⟨k, by omega, rfl, ?_, ?_, hnb.st (by simp) _⟩
        · rw [← HE.out]; go_num
        · rw [← DQ.out]; exact HS.out
      case measure => simp [intOf]
    | zero =>
      have hl : (List.replicate 0 0 ++ (bitsN n size).drop 0) = bitsN n size := by simp
      rw [hl] at ho
      obtain ⟨a, c, hv, hbs, _⟩ := ho.bs
      simp only [Value.slice.injEq, bitsN_length, true_and] at hv
      obtain ⟨rfl, rfl⟩ := hv
      clear ho hl
      go_wp2
      go_ret
      exact ⟨⟨_, _, rfl, hbs⟩, hnb⟩

set_option maxHeartbeats 800000 in
set_option maxRecDepth 100000 in
theorem refbytes_any (a : Option Addr) (cap : Nat) (l : List Nat) (w : World) (h : Bs w a cap l) (hl : l.length ≤ 1000000) :
    Calls Tryd.prog 31 #[.slice a l.length cap] w fun e w' => (∃ a c, e = .returned (.slice a (8 * l.length) c) ∧ Bs w' a c (l.flatMap fun x => bitsN x 8)) ∧ Nb w w' := by
  have H := Lib.hid h
  have hfl : ∀ k, k ≤ l.length → ((l.take k).flatMap fun x => bitsN x 8).length = 8 * k := by
    intro k hk
    induction k with
    | zero => simp
    | succ k ih =>
      rw [take_snoc' (x := l[k]) (by simp), List.flatMap_append, List.length_append, ih (by omega)]
      simp [bitsN_length]
      omega
  have HF := Lib.hid hfl
  clear h hfl
  go_enter Tryd.func31, Tryd.ntmps31
  go_wp2
  go_loopw [3, 8] (fun v i wr => ∃ k : Nat, k ≤ l.length ∧ i = .int .i64 k ∧ OwnB wr v ((l.take k).flatMap fun x => bitsN x 8) ∧ (∀ g, v.ownBlock = some g → w.heap.size ≤ g) ∧ Nb w wr) (fun _ i _ => l.length - (intOf i).toNat)
  case atStart => exact ⟨0, Nat.zero_le _, rfl, by simpa using OwnB.nil w, by simp [Value.ownBlock], Nb.rfl⟩
  case round =>
    obtain ⟨k, hk, rfl, ho, hfr, hnb⟩ := hrel
    have hsz := HF.out k hk
    by_cases hlt : k < l.length
    · obtain ⟨b, o, rfl, hcl⟩ := (H.out.below hnb).hcells (by omega)
      obtain ⟨x, hx⟩ : ∃ x, l[k]? = some x := ⟨l[k], by simp [hlt]⟩
      have c1 := hcl k hlt
      rw [show l.getD k 0 = x from by simp [List.getD, hx]] at c1
      have hx1 : x < 256 := H.out.hbyte x (List.mem_of_getElem? hx)
      have HX := Lib.hid hx
      have HO := Lib.hid ho
      have HZ := Lib.hid hsz
      clear hcl hx ho hsz
      go_wp2_with fail
      refine (refbits_any x 8 _ (by omega) (by omega)).mono ?_
      rintro e w1 ⟨⟨a', c', rfl, hbs⟩, hnb1⟩
      have ho1 := HO.out.keep (F := fun _ => False) (Kp.ofNb hnb1) (by simp)
      have ha' : a' = none → 8 = 0 ∧ c' = 0 := by
        rintro rfl
        obtain ⟨_, _, h, _⟩ := hbs.hcells (by rw [bitsN_length]; omega)
        cases h
      have hsz := HZ.out
      go_wp2_with (at_builtin; refine wpList_appB _ rfl (.tmp 12) (.tmp 15) rfl _ _ rfl ho1 a' c' (bitsN x 8) 8 (by rw [bitsN_length]) rfl hbs ha' (by rw [hsz, bitsN_length]; omega) ?_)
      intro v' w2 hown hk2 hfr2
      have hrel : OwnB w2 v' ((l.take (k + 1)).flatMap fun x => bitsN x 8) := by
        rw [take_snoc' HX.out, List.flatMap_append]
        simpa using hown
      have hfr' : ∀ g, v'.ownBlock = some g → w.heap.size ≤ g := fun g hg => by
        rcases hfr2 g hg with h | h
        · exact hfr g h
        · exact Nat.le_trans hnb.size (Nat.le_trans hnb1.size h)
      have hnb2 : Nb w w2 := (hnb.tr hnb1).trans (hk2.toBelow (Nat.le_trans hnb.size hnb1.size) hfr)
      clear hown hk2 hfr2 hbs ho1
      go_wp2
      go_roundw
      case rel => exact ⟨k + 1, by omega, by go_num, hrel, hfr', hnb2⟩
      case measure => simp [intOf]; omega
    · obtain rfl : k = l.length := by omega
      rw [List.take_of_length_le (Nat.le_refl _)] at ho hsz
      obtain ⟨a', c', rfl, hbs, _⟩ := ho.bs
      have HB := Lib.hid hbs
      have HZ := Lib.hid hsz
      clear ho hbs hsz
      go_wp2
      go_ret
      exact ⟨⟨a', c', by rw [← HZ.out]; rfl, HB.out⟩, hnb⟩

theorem packN_take_succ (l : List Nat) (m : Nat) (h : m < l.length / 8) : (packN l).take (m + 1) = (packN l).take m ++ [numN ((l.drop (8 * m)).take 8)] :=
  take_snoc' (by simp only [packN, List.getElem?_map, List.getElem?_range h, Option.map_some])

end Go.Proofs.YtaiplhlcldbnkaaDoor
