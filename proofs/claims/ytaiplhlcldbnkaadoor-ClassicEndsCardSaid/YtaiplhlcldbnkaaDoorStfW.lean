
/- Contract of package stuff's Put, and the document's. No conditions. -/
import Derived.Test.YtaiplhlcldbnkaaDoorStfM
namespace Go.Proofs.YtaiplhlcldbnkaaDoor
set_option linter.unusedVariables false
set_option linter.unusedSimpArgs false
open Go.RowKit

set_option maxHeartbeats 1600000 in
set_option maxRecDepth 100000 in
theorem sput_ok (a : Option Addr) (cap : Nat) (l : List Nat) (w : World) (h : Bs w a cap l) (hc : chk l = true) (er : Nat) (out : List Nat) (ho : ((putL l).length ≤ 65536 ∧ er = 0 ∧ out = putL l) ∨ (65536 < (putL l).length ∧ er = 2 ∧ out = [])) :
    Calls Tryd.prog 22 #[.slice a l.length cap] w fun e w' => AnsF w out er e w' ∧ Nb w w' := by
  have hL := h.len
  have hlen := chk_len hc
  have hbit := Lib.hid (chk_bit hc)
  have HC := Lib.hid hc
  have H := Lib.hid h
  have HO := Lib.hid ho
  obtain ⟨q, hq⟩ : ∃ q, q = l.length / 4 := ⟨_, rfl⟩
  have h4 : ((l.length : Int) / 4) = (q : Int) := by rw [hq]; push_cast; rfl
  have hq2 : q ≤ 16384 := by omega
  have hq3 : ((l.length : Int) + (q : Int)) = ((l.length + q : Nat) : Int) := by push_cast; rfl
  have hmf : ∀ (fn : Fn) (first cap : Array Value) (w : World), (Instr.makeFunc fn first cap).run Tryd.prog w = .ok (.func fn first cap) w := fun _ _ _ _ => rfl
  have hm : ∀ w, (Instr.makeSlice 23 (.int .i64 0) (.int .i64 ((l.length : Int) + (q : Int)))).run Tryd.prog w = .ok (.slice (some ⟨w.heap.size, 0, none⟩) 0 (l.length + q)) (w.alloc (.cells (madeCells #[.int .u8 0] (l.length + q)) 5)) := fun w => by rw [hq3]; exact run_makeB w _ (by omega)
  have hmade := fun w => OwnB.made w (l.length + q) (by omega)
  have HMd := Lib.hid hmade
  clear h hc ho hmade hq hq3
  go_enter Tryd.func22, Tryd.ntmps22
  go_wp2_with fail
  refine (check_ok a cap l w H.out HC.out).mono ?_
  rintro e w' ⟨rfl, rfl⟩
  go_wp2_with fail
  have hs1 : (w.alloc (.cells (madeCells #[.int .u8 0] (l.length + q)) 5)).heap.size = w.heap.size + 1 := by simp
  have nb0 : Nb w ((w.alloc (.cells (madeCells #[.int .u8 0] (l.length + q)) 5)).alloc (.cells #[.int .u8 0, .int .i64 0, .slice (some ⟨w.heap.size, 0, none⟩) 0 (l.length + q)] 64)) := (Nb.rfl.al _).al _
  have hat0 : WrAt ((w.alloc (.cells (madeCells #[.int .u8 0] (l.length + q)) 5)).alloc (.cells #[.int .u8 0, .int .i64 0, .slice (some ⟨w.heap.size, 0, none⟩) 0 (l.length + q)] 64)) (w.heap.size + 1) (.slice (some ⟨w.heap.size, 0, none⟩) 0 (l.length + q)) [] :=
    ⟨by have := Blk.new (w.alloc (.cells (madeCells #[.int .u8 0] (l.length + q)) 5)) #[.int .u8 0, .int .i64 0, .slice (some ⟨w.heap.size, 0, none⟩) 0 (l.length + q)] 64; rw [hs1] at this; exact this, (HMd.out w).keep (Kp.alloc (F := fun _ => False)) (by simp), by simp [Value.ownBlock]⟩
  refine (steach_any 40 (.pointer (some ⟨w.heap.size + 1, 0, none⟩)) a cap l (fun k wr => (∃ v, WrAt wr (w.heap.size + 1) v (putL (l.take k)) ∧ ∀ j, (j = w.heap.size + 1 ∨ v.ownBlock = some j) → w.heap.size ≤ j) ∧ Nb w wr) (fun _ _ => False) _ hL
    ⟨⟨_, by simpa [putL] using hat0, by rintro k (rfl | hk); exact Nat.le_succ _; simp [Value.ownBlock] at hk; omega⟩, nb0⟩ (fun k wr hI => H.out.below hI.2) (hcf _ _ Tryd.func40 (by rfl) (by decide +kernel)) ?_).mono ?_
  · rintro k x wr ⟨⟨v, ha, hf⟩, hnb⟩ hx
    have hk : k < l.length := (List.getElem?_eq_some_iff.1 hx).1
    have hbT : ∀ y ∈ l.take k, y ≤ 1 := fun y hy => hbit.out y (List.mem_of_mem_take hy)
    have hl2 := (putL_len2 (l.take k)).1
    rw [List.length_take] at hl2
    refine (wrtake_any (w.heap.size + 1) v _ x wr ha (putL_bit hbT) (okS_run (okS_putL hbT)) (hbit.out x (List.mem_of_getElem? hx)) (by omega)).mono ?_
    rintro e w' ⟨rfl, v', ha', hk', hf'⟩
    refine .inl ⟨rfl, ⟨v', by rw [take_snoc' hx, putL_snoc]; exact ha', fun j hj => ?_⟩, hnb.trans (hk'.toBelow hnb.size hf)⟩
    rcases hf' j hj with h1 | h1
    · exact hf j h1
    · exact Nat.le_trans hnb.size h1
  · rintro e w2 ⟨k, rfl, hJ⟩
    refine Or.elim hJ ?_ (fun h => h.2.elim)
    rintro ⟨rfl, ⟨v, ha, hf⟩, hnb⟩
    rw [List.take_of_length_le (Nat.le_refl _)] at ha
    have c0 : w2.cell? ⟨w.heap.size + 1, 2, none⟩ = some v := ha.blk.cell 2
    have hown := ha.own
    obtain ⟨a', c', rfl, hbs, _⟩ := hown.bs
    have hfr : Fresh w w2 (.slice a' (putL l).length c') (putL l) := ⟨hown, fun g hg => hf g (.inr hg)⟩
    have HFr := Lib.hid hfr
    clear ha hfr hown hbs hf hat0 nb0
    have hl2 := (putL_len2 l).1
    have hmx : (putL l).length ≤ 131072 := by omega
    rcases HO.out with ⟨h1, rfl, rfl⟩ | ⟨h1, rfl, rfl⟩
    · go_wp2
      go_ret2
      exact ⟨⟨_, _, rfl, HFr.out⟩, hnb⟩
    · go_wp2
      go_ret2
      exact ⟨⟨_, _, rfl, Fresh.nil _ _⟩, hnb⟩

set_option maxHeartbeats 1600000 in
set_option maxRecDepth 100000 in
theorem sput_bad (a : Option Addr) (cap : Nat) (l : List Nat) (w : World) (h : Bs w a cap l) (hc : chk l = false) :
    Calls Tryd.prog 22 #[.slice a l.length cap] w fun e w' => AnsF w [] 2 e w' ∧ Nb w w' := by
  have HC := Lib.hid hc
  have H := Lib.hid h
  clear h hc
  go_enter Tryd.func22, Tryd.ntmps22
  go_wp2_with fail
  refine (check_bad a cap l w H.out HC.out).mono ?_
  rintro e w' ⟨rfl, rfl⟩
  go_wp2
  go_ret2
  exact ⟨⟨_, _, rfl, Fresh.nil _ _⟩, Nb.rfl⟩

theorem sput_u (a : Option Addr) (cap : Nat) (l : List Nat) (w : World) (h : Bs w a cap l) :
    Calls Tryd.prog 22 #[.slice a l.length cap] w fun e w' => AnsF w (spL l) (spE l) e w' ∧ Nb w w' := by
  cases hc : chk l with
  | true =>
    simp only [spL, spE, hc, if_true]
    by_cases h6 : (putL l).length ≤ 65536
    · rw [if_pos h6, if_pos h6]
      exact sput_ok a cap l w h hc 0 (putL l) (.inl ⟨h6, rfl, rfl⟩)
    · rw [if_neg h6, if_neg h6]
      exact sput_ok a cap l w h hc 2 [] (.inr ⟨by omega, rfl, rfl⟩)
  | false =>
    simp only [spL, spE, hc, Bool.false_eq_true, if_false]
    exact sput_bad a cap l w h hc
end Go.Proofs.YtaiplhlcldbnkaaDoor
