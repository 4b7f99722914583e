/- Contracts of Get, Bytes and Pack. Condition: at most a million bytes. -/
import Derived.Test.YtdgdbfmjbbdleaaPackP
import Derived.RegionTactic
/-
  Get, Bytes, Pack.
-/
namespace Go.Proofs.Ytdgdbfmjbbdleaa
open Go.RowKit

def getOk (l : List Nat) : Bool := decide (l.length ≤ 64) && chk l

theorem hcf (F : Nat) (fn : Func) (hf : Try.prog.funcs[F]? = some fn) (hb : fn.body.isNone = false) (hn : (fn.name == "runtime.NumGoroutine") = false) : ∀ args w, (callFunc F args).run Try.prog w = .ok (.enter F args) w := by
  intro args w
  have h1 : ¬ fn.name = "runtime.NumGoroutine" := by simpa using hn
  have h2 : ¬ fn.body = none := by intro h; rw [h] at hb; simp at hb
  simp [callFunc, hf, h1, h2]

set_option maxHeartbeats 800000 in
set_option maxRecDepth 100000 in
theorem get_bad (a : Option Addr) (cap : Nat) (l : List Nat) (w : World) (h : Bs w a cap l) (hc : getOk l = false) :
    Calls Try.prog 12 #[.slice a l.length cap] w fun e w' => e = .returned (.tuple #[.int .u64 0, .int .i64 2]) ∧ Nb w w' := by
  have hL := h.len
  by_cases h1 : l.length ≤ 64
  · have hc' : chk l = false := by simpa [getOk, h1] using hc
    have HC := Lib.hid hc'
    have H := Lib.hid h
    clear hc hc' h
    have d1 : decide (64 < (l.length : Int)) = false := by simp; omega
    go_enter Try.func12, Try.ntmps12
    go_wp2_with fail
    refine (check_bad a cap l w H.out HC.out).mono ?_
    rintro e w' ⟨rfl, rfl⟩
    go_wp2
    go_ret2
    exact ⟨rfl, Nb.rfl⟩
  · clear hc
    have d1 : decide (64 < (l.length : Int)) = true := by simp; omega
    go_enter Try.func12, Try.ntmps12
    go_wp2
    go_ret2
    exact ⟨rfl, Nb.rfl⟩
set_option maxHeartbeats 800000 in
set_option maxRecDepth 100000 in
theorem refget_bad (a : Option Addr) (cap : Nat) (l : List Nat) (w : World) (h : Bs w a cap l) (hc : getOk l = false) :
    Calls Try.prog 13 #[.slice a l.length cap] w fun e w' => e = .returned (.tuple #[.int .u64 0, .int .i64 2]) ∧ Nb w w' := by
  have hL := h.len
  by_cases h1 : l.length ≤ 64
  · have hc' : chk l = false := by simpa [getOk, h1] using hc
    have HC := Lib.hid hc'
    have H := Lib.hid h
    clear hc hc' h
    have d1 : decide (64 < (l.length : Int)) = false := by simp; omega
    go_enter Try.func13, Try.ntmps13
    go_wp2_with fail
    refine (refcheck_bad a cap l w H.out HC.out).mono ?_
    rintro e w' ⟨rfl, rfl⟩
    go_wp2
    go_ret2
    exact ⟨rfl, Nb.rfl⟩
  · clear hc
    have d1 : decide (64 < (l.length : Int)) = true := by simp; omega
    go_enter Try.func13, Try.ntmps13
    go_wp2
    go_ret2
    exact ⟨rfl, Nb.rfl⟩

set_option maxHeartbeats 800000 in
set_option maxRecDepth 100000 in
theorem get_ok (a : Option Addr) (cap : Nat) (l : List Nat) (w : World) (h : Bs w a cap l) (hc : getOk l = true) :
    Calls Try.prog 12 #[.slice a l.length cap] w fun e w' => e = .returned (.tuple #[.int .u64 (numN l), .int .i64 0]) ∧ Nb w w' := by
  have hL := h.len
  have h1 : l.length ≤ 64 := by simp [getOk] at hc; exact hc.1
  have hc' : chk l = true := by simpa [getOk, h1] using hc
  have hbit := Lib.hid (chk_bit hc')
  have HC := Lib.hid hc'
  have H := Lib.hid h
  clear hc hc' h
  have d1 : decide (64 < (l.length : Int)) = false := by simp; omega
  have hmf : ∀ (fn : Fn) (first cap : Array Value) (w : World), (Instr.makeFunc fn first cap).run Try.prog w = .ok (.func fn first cap) w := fun _ _ _ _ => rfl
  go_enter Try.func12, Try.ntmps12
  go_wp2_with fail
  refine (check_ok a cap l w H.out HC.out).mono ?_
  rintro e w' ⟨rfl, rfl⟩
  go_wp2_with fail
  refine (eachB_any 32 (.pointer (some ⟨w.heap.size, 0, none⟩)) a cap l (fun k wr => Blk wr w.heap.size #[.int .u64 (numN (l.take k))] 52 ∧ Nb w wr) _ hL ⟨Blk.new _ _ _, Nb.rfl.al _⟩ (fun k wr hI => H.out.below hI.2) (hcf _ _ Try.func32 (by rfl) (by decide +kernel)) ?_).mono ?_
  · rintro k x wr ⟨hb, hnb⟩ hx
    have hk : k < l.length := (List.getElem?_eq_some_iff.1 hx).1
    have h1 := numN_lt (l.take k) (fun x hx => hbit.out x (List.mem_of_mem_take hx))
    rw [List.length_take, Nat.min_eq_left (by omega)] at h1
    have h2 : 2 ^ k ≤ 2 ^ 63 := Nat.pow_le_pow_right (by omega) (by omega)
    refine (numbit_any w.heap.size (numN (l.take k)) x wr hb (by omega) (hbit.out x (List.mem_of_getElem? hx))).mono ?_
    rintro e w' ⟨rfl, hb', hk'⟩
    exact ⟨rfl, by rw [take_snoc' hx, numN_snoc]; exact hb', hnb.trans (hk'.toBelow hnb.size (by rintro k rfl; exact Nat.le_refl _))⟩
  · rintro e w2 ⟨rfl, hb, hnb⟩
    rw [List.take_of_length_le (Nat.le_refl _)] at hb
    have c0 : w2.cell? ⟨w.heap.size, 0, none⟩ = some (.int .u64 (numN l)) := hb.cell 0
    clear hb
    go_wp2
    go_ret2
    exact ⟨rfl, hnb⟩

set_option maxHeartbeats 800000 in
set_option maxRecDepth 100000 in
theorem bytes_any (a : Option Addr) (cap : Nat) (l : List Nat) (w : World) (h : Bs w a cap l) (hl : l.length ≤ 1000000) :
    Calls Try.prog 21 #[.slice a l.length cap] w fun e w' => (∃ a c, e = .returned (.slice a (8 * l.length) c) ∧ Bs w' a c (l.flatMap fun x => bitsN x 8)) ∧ Nb w w' := by
  have hmf : ∀ (fn : Fn) (first cap : Array Value) (w : World), (Instr.makeFunc fn first cap).run Try.prog w = .ok (.func fn first cap) w := fun _ _ _ _ => rfl
  have H := Lib.hid h
  have hfl : ∀ k, k ≤ l.length → ((l.take k).flatMap fun x => bitsN x 8).length = 8 * k := by
    intro k hk
    induction k with
    | zero => simp
    | succ k ih =>
      rw [take_snoc' (x := l[k]) (by simp), List.flatMap_append, List.length_append, ih (by omega)]
      simp [bitsN_length]
      omega
  have HF := Lib.hid hfl
  clear h hfl
  go_enter Try.func21, Try.ntmps21
  go_wp2_with fail
  rw [show (8 * (l.length : Int)) = ((8 * l.length : Nat) : Int) from by push_cast; rfl]
  refine (newRow_any (8 * l.length) _ (by omega)).mono ?_
  rintro e w1 ⟨⟨g, c, rfl, ho, hg⟩, hnb⟩
  have hal : Kp (fun _ => False) w1 (w1.alloc (.cells #[.slice (some ⟨g, 0, none⟩) 0 c] 46)) := Kp.alloc
  have hlt := ho.lt (g := g) rfl
  have hrow : RowAt (w1.alloc (.cells #[.slice (some ⟨g, 0, none⟩) 0 c] 46)) 46 w1.heap.size (.slice (some ⟨g, 0, none⟩) 0 c) [] :=
    ⟨Blk.new _ _ _, ho.keep hal (by simp), by simp [Value.ownBlock]; omega⟩
  have HR := Lib.hid hrow
  clear hrow ho hal
  go_wp2_with fail
  refine (eachB_any 35 (.pointer (some ⟨w1.heap.size, 0, none⟩)) a cap l (fun k wr => (∃ v, RowAt wr 46 w1.heap.size v ((l.take k).flatMap fun x => bitsN x 8) ∧ ∀ j, Foot w1.heap.size v j → w.heap.size ≤ j) ∧ Nb w wr) _ (by omega)
    ⟨⟨_, by simpa using HR.out, by rintro k (rfl | hk); exact hnb.size; simp [Value.ownBlock] at hk; omega⟩, hnb.al _⟩ (fun k wr hI => H.out.below hI.2) (hcf _ _ Try.func35 (by rfl) (by decide +kernel)) ?_).mono ?_
  · rintro k x wr ⟨⟨v, hr, hf⟩, hnb⟩ hx
    have hk : k < l.length := (List.getElem?_eq_some_iff.1 hx).1
    refine (rowoctet_any w1.heap.size v _ x wr hr (H.out.hbyte x (List.mem_of_getElem? hx)) (by rw [HF.out k (by omega)]; omega)).mono ?_
    rintro e w' ⟨rfl, v', hr', hk', hf'⟩
    refine ⟨rfl, ⟨v', by rw [take_snoc' hx, List.flatMap_append]; simpa using hr', fun j hj => ?_⟩, hnb.trans (hk'.toBelow hnb.size hf)⟩
    rcases hf' j hj with h1 | h1
    · exact hf j h1
    · exact Nat.le_trans hnb.size h1
  · rintro e w2 ⟨rfl, ⟨v, hr, hf⟩, hnb⟩
    have hlen := HF.out l.length (Nat.le_refl _)
    rw [List.take_of_length_le (Nat.le_refl _)] at hr hlen
    obtain ⟨a', c', rfl, hbs, _⟩ := hr.own.bs
    have c0 : w2.cell? ⟨w1.heap.size, 0, none⟩ = _ := hr.blk.cell 0
    rw [hlen] at c0
    have HB := Lib.hid hbs
    clear hr hbs hlen
    go_wp2
    go_ret
    exact ⟨⟨a', c', rfl, HB.out⟩, hnb⟩

/-- Bytes that grow bit by bit, and how many bits were seen. -/
structure OctAt (w : World) (R : Nat) (v : Value) (l : List Nat) (s : Nat) : Prop where
  blk : Blk w R #[v, .int .i64 s] 57
  own : OwnB w v l
  ne : v.ownBlock ≠ some R

def OctStep (w : World) (R : Nat) (v : Value) (l : List Nat) (s : Nat) (w' : World) : Prop :=
  ∃ v', OctAt w' R v' l s ∧ Kp (Foot R v) w w' ∧ ∀ k, Foot R v' k → Foot R v k ∨ w.heap.size ≤ k

theorem oct_tail {w W : World} {R g cap : Nat} {v : Value} {l l' : List Nat} {s y : Nat} (h : OctAt W R (.slice (some ⟨g, 0, none⟩) l.length cap) l s) (hk : Kp (Foot R v) w W)
    (hf : v.ownBlock = some g ∨ w.heap.size ≤ g) (hl : 0 < l.length) (hy : y < 256) (he : l' = l.set (l.length - 1) y) :
    OctStep w R v l' (s + 1) ((W.drew.setCell ⟨g, l.length - 1, none⟩ (.int .u8 y)).setCell ⟨R, 1, none⟩ (.int .i64 ((s : Int) + 1))) := by
  subst he
  have hgR : g ≠ R := by have := h.ne; simpa [Value.ownBlock] using this
  have hkd : Kp (Foot R v) w W.drew := ⟨hk.os, hk.tape, hk.output, hk.size, hk.block⟩
  have ho : OwnB W.drew (.slice (some ⟨g, 0, none⟩) l.length cap) l := h.own
  have hb : Blk W.drew R #[.slice (some ⟨g, 0, none⟩) l.length cap, .int .i64 s] 57 := h.blk
  have ho2 := ho.setByte (g := g) rfl (l.length - 1) (by omega) y hy
  have hb2 := hb.keep (Kp.set (F := (· = g)) (p := ⟨g, l.length - 1, none⟩) (u := .int .u8 (y : Int)) rfl) (by omega)
  have ho3 := ho2.keep (Kp.set (F := (· = R)) (p := ⟨R, 1, none⟩) (u := .int .i64 ((s : Int) + 1)) rfl) (by simpa [Value.ownBlock] using hgR)
  have hb3 := hb2.set 1 (.int .i64 ((s : Int) + 1))
  refine ⟨.slice (some ⟨g, 0, none⟩) l.length cap, ⟨by simpa using hb3, ho3, h.ne⟩, ?_, ?_⟩
  · exact (hkd.tr (Kp.set (F := (· = g)) rfl) (by rintro k rfl; rcases hf with h | h; exact .inl (.inr h); exact .inr h)).tr (Kp.set (F := (· = R)) rfl) (by rintro k rfl; exact .inl (.inl rfl))
  · rintro k (rfl | hk')
    · exact .inl (.inl rfl)
    · simp [Value.ownBlock] at hk'
      subst hk'
      rcases hf with h | h
      · exact .inl (.inr h)
      · exact .inr h

set_option maxHeartbeats 800000 in
set_option maxRecDepth 100000 in
theorem octbit0 (R : Nat) (v : Value) (l : List Nat) (s x : Nat) (w : World) (h : OctAt w R v l s) (hx : x ≤ 1) (hl : l.length < 70368744177664) (hs : s < 70368744177664) (h8 : s % 8 = 0) :
    Calls Try.prog 34 #[.pointer (some ⟨R, 0, none⟩), .int .u8 x] w fun e w' => e = .returned (.tuple #[]) ∧ OctStep w R v (l ++ [x]) (s + 1) w' := by
  have c0 : w.cell? ⟨R, 0, none⟩ = some v := h.blk.cell 0
  have c1 : w.cell? ⟨R, 0 + 1, none⟩ = some (.int .i64 s) := h.blk.cell 1
  have f0 := h.blk.frozen 0
  have f1 := h.blk.frozen 1
  have hR := h.blk.lt
  have h80 : ((s : Int) % 8 == 0) = true := by rw [beq_iff_eq]; omega
  have hal : Kp (fun _ => False) w (w.alloc (.cells #[.int .u8 ((0 : Nat) : Int)] 5)) := Kp.alloc
  have hown := h.own.keep hal (by simp)
  have hbl := h.blk.keep hal (by simp)
  have hne := h.ne
  clear h
  go_enter Try.func34, Try.ntmps34
  go_wp2_with (at_builtin; refine wpList_appB _ rfl (.tmp 15) (.tmp 16) rfl v l rfl hown _ _ [0] 1 rfl rfl (Bs.one w 0 (by omega) _) (by simp) (by simp; omega) ?_)
  intro v' w1 hown' hk hfr
  obtain ⟨g, cap, rfl⟩ := hown'.shape (by simp)
  have hbl' := hbl.keep hk hne
  have hgR : g ≠ R := by
    rintro rfl
    rcases hfr g rfl with h1 | h1
    · exact hne h1
    · have := hal.size; omega
  have hg : v.ownBlock = some g ∨ w.heap.size ≤ g := by
    rcases hfr g rfl with h1 | h1
    · exact .inl h1
    · exact .inr (by omega)
  have d0 : w1.cell? ⟨R, 0, none⟩ = some v := hbl'.cell 0
  have e0 := hbl'.frozen 0
  rw [List.length_append, List.length_singleton] at *
  have hW : OctAt (w1.setCell ⟨R, 0, none⟩ (.slice (some ⟨g, 0, none⟩) (l.length + 1) cap)) R (.slice (some ⟨g, 0, none⟩) (l.length + 1) cap) (l ++ [0]) s :=
    ⟨hbl'.set 0 _, hown'.keep (Kp.set (F := (· = R)) rfl) (by simpa [Value.ownBlock] using hgR), by simpa [Value.ownBlock] using hgR⟩
  have hkW : Kp (Foot R v) w (w1.setCell ⟨R, 0, none⟩ (.slice (some ⟨g, 0, none⟩) (l.length + 1) cap)) :=
    ((hal.mono (fun _ _ h => h.elim)).tr (hk.mono (fun k _ h => .inr h)) (fun k h => .inl h)).tr (Kp.set (F := (· = R)) rfl) (fun k h => .inl (.inl h))
  have HW := Lib.hid hW
  have HK := Lib.hid hkW
  clear hown' hk hfr hbl' hal hown hbl hW hkW
  have W0 : (w1.setCell ⟨R, 0, none⟩ (.slice (some ⟨g, 0, none⟩) (l.length + 1) cap)).cell? ⟨R, 0, none⟩ = some (.slice (some ⟨g, 0, none⟩) (l.length + 1) cap) := HW.out.blk.cell 0
  go_wp2
  generalize w1.setCell ⟨R, 0, none⟩ (.slice (some ⟨g, 0, none⟩) (l.length + 1) cap) = W at *
  have W1 : W.cell? ⟨R, 1, none⟩ = some (.int .i64 s) := HW.out.blk.cell 1
  have F1 : W.frozen? ⟨R, 1, none⟩ = false := HW.out.blk.frozen 1
  have W2 : W.cell? ⟨g, l.length, none⟩ = some (.int .u8 ((0 : Nat) : Int)) := by
    obtain ⟨a, cp, hv, hbs, _⟩ := HW.out.own.bs
    obtain ⟨b, o, rfl, hcl⟩ := hbs.hcells (by simp)
    simp only [Value.slice.injEq, Option.some.injEq, Addr.mk.injEq, and_true] at hv
    obtain ⟨⟨rfl, rfl⟩, _, rfl⟩ := hv
    have := hcl l.length (by simp)
    simpa using this
  have F2 : W.frozen? ⟨g, l.length, none⟩ = false := HW.out.own.frozen rfl _
  have hfin := oct_tail (l := l ++ [0]) (l' := l ++ [x]) (y := x) (cap := cap) (s := s) (by simpa using HW.out) HK.out hg (by simp) (by omega) (by simp)
  have hz : bits BinOp.or IntKind.u8 0 (x : Int) = (x : Int) := by simpa using u8_or_nat 0 x (by omega) (by omega)
  have HZ := Lib.hid hz
  have HF := Lib.hid hfin
  clear hfin d0 e0 c0 c1 f0 f1 hg hz
  go_region
  all_goals go_wp2
  go_end0
  refine ⟨rfl, ?_⟩
  have hF := HF.out
  simp only [List.length_append, List.length_singleton, Nat.add_sub_cancel] at hF
  rw [HZ.out]
  exact hF

set_option maxHeartbeats 800000 in
set_option maxRecDepth 100000 in
theorem octbit1 (R : Nat) (v : Value) (l : List Nat) (s x : Nat) (w : World) (h : OctAt w R v l s) (hx : x ≤ 1) (hl : l.length < 70368744177664) (hs : s < 70368744177664) (h8 : s % 8 ≠ 0) (hl0 : 0 < l.length) (hlast : l.getD (l.length - 1) 0 < 128) :
    Calls Try.prog 34 #[.pointer (some ⟨R, 0, none⟩), .int .u8 x] w fun e w' => e = .returned (.tuple #[]) ∧ OctStep w R v (l.set (l.length - 1) (l.getD (l.length - 1) 0 * 2 + x)) (s + 1) w' := by
  obtain ⟨g, cap, rfl⟩ := h.own.shape hl0
  have hgR : g ≠ R := by have := h.ne; simpa [Value.ownBlock] using this
  have W0 : w.cell? ⟨R, 0, none⟩ = some (.slice (some ⟨g, 0, none⟩) l.length cap) := h.blk.cell 0
  have W1 : w.cell? ⟨R, 1, none⟩ = some (.int .i64 s) := h.blk.cell 1
  have F1 := h.blk.frozen 1
  have hR := h.blk.lt
  have h80 : ((s : Int) % 8 == 0) = false := by rw [beq_eq_false_iff_ne]; omega
  have F2 : w.frozen? ⟨g, l.length - 1, none⟩ = false := h.own.frozen rfl _
  obtain ⟨q, hq⟩ : ∃ q, l.getD (l.length - 1) 0 = q := ⟨_, rfl⟩
  rw [hq] at hlast
  have W2 : w.cell? ⟨g, l.length - 1, none⟩ = some (.int .u8 (q : Int)) := by
    obtain ⟨a, cp, hv, hbs, _⟩ := h.own.bs
    obtain ⟨b, o, rfl, hcl⟩ := hbs.hcells hl0
    simp only [Value.slice.injEq, Option.some.injEq, Addr.mk.injEq, and_true] at hv
    obtain ⟨⟨rfl, rfl⟩, _, rfl⟩ := hv
    have := hcl (l.length - 1) (by omega)
    rw [hq] at this
    simpa using this
  have ho : bits BinOp.or IntKind.u8 ((q : Int) * 2) (x : Int) = ((q * 2 + x : Nat) : Int) := by
    have h1 := u8_or_nat (q * 2) x (by omega) (by omega)
    rw [Nat.mul_comm q 2, ← Nat.two_pow_add_eq_or_of_lt (i := 1) (by omega) q] at h1
    rw [← Nat.mul_comm 2 q]
    simpa [Nat.mul_comm] using h1
  have hfin := oct_tail (l' := l.set (l.length - 1) (l.getD (l.length - 1) 0 * 2 + x)) (y := q * 2 + x) h (Kp.rfl (F := Foot R (.slice (some ⟨g, 0, none⟩) l.length cap))) (.inl rfl) hl0 (by omega) (by rw [hq])
  have HF := Lib.hid hfin
  have HO := Lib.hid ho
  have HQ := Lib.hid hq
  clear hfin h hq ho
  go_enter Try.func34, Try.ntmps34
  go_wp2
  go_region
  all_goals go_wp2
  go_end0
  refine ⟨rfl, ?_⟩
  rw [HO.out]
  exact HF.out
/-- Both ways. -/
theorem octbit_any (R : Nat) (v : Value) (l : List Nat) (s x : Nat) (w : World) (h : OctAt w R v l s) (hx : x ≤ 1) (hl : l.length < 70368744177664) (hs : s < 70368744177664) (hl0 : s % 8 ≠ 0 → 0 < l.length ∧ l.getD (l.length - 1) 0 < 128) :
    Calls Try.prog 34 #[.pointer (some ⟨R, 0, none⟩), .int .u8 x] w fun e w' => e = .returned (.tuple #[]) ∧ OctStep w R v (octStep l s x) (s + 1) w' := by
  by_cases h8 : s % 8 = 0
  · simp only [octStep, h8, if_true]
    exact octbit0 R v l s x w h hx hl hs h8
  · simp only [octStep, h8, if_false]
    exact octbit1 R v l s x w h hx hl hs h8 (hl0 h8).1 (hl0 h8).2

set_option maxHeartbeats 800000 in
set_option maxRecDepth 100000 in
theorem pack_bad (a : Option Addr) (cap : Nat) (l : List Nat) (w : World) (h : Bs w a cap l) (hc : chk l = false) :
    Calls Try.prog 19 #[.slice a l.length cap] w fun e w' => e = .returned (.tuple #[.slice none 0 0, .int .i64 2]) ∧ Nb w w' := by
  have HC := Lib.hid hc
  have H := Lib.hid h
  clear hc h
  go_enter Try.func19, Try.ntmps19
  go_wp2_with fail
  refine (check_bad a cap l w H.out HC.out).mono ?_
  rintro e w' ⟨rfl, rfl⟩
  go_wp2
  go_ret2
  exact ⟨rfl, Nb.rfl⟩

set_option maxHeartbeats 800000 in
set_option maxRecDepth 100000 in
theorem pack_short (a : Option Addr) (cap : Nat) (l : List Nat) (w : World) (h : Bs w a cap l) (hc : chk l = true) (h8 : l.length % 8 ≠ 0) :
    Calls Try.prog 19 #[.slice a l.length cap] w fun e w' => e = .returned (.tuple #[.slice none 0 0, .int .i64 3]) ∧ Nb w w' := by
  have HC := Lib.hid hc
  have H := Lib.hid h
  have hL := h.len
  have d8 : ((l.length : Int) % 8 != 0) = true := by rw [bne_iff_ne]; omega
  clear hc h
  go_enter Try.func19, Try.ntmps19
  go_wp2_with fail
  refine (check_ok a cap l w H.out HC.out).mono ?_
  rintro e w' ⟨rfl, rfl⟩
  go_wp2
  go_ret2
  exact ⟨rfl, Nb.rfl⟩

set_option maxHeartbeats 800000 in
set_option maxRecDepth 100000 in
theorem pack_ok (a : Option Addr) (cap : Nat) (l : List Nat) (w : World) (h : Bs w a cap l) (hc : chk l = true) (h8 : l.length % 8 = 0) :
    Calls Try.prog 19 #[.slice a l.length cap] w fun e w' => (∃ a c, e = .returned (.tuple #[.slice a (packN l).length c, .int .i64 0]) ∧ Bs w' a c (packN l)) ∧ Nb w w' := by
  have HC := Lib.hid hc
  have H := Lib.hid h
  have hL := h.len
  have hlen := chk_len hc
  have hbit := Lib.hid (chk_bit hc)
  have H8 := Lib.hid h8
  have d8 : ((l.length : Int) % 8 != 0) = false := by rw [bne_eq_false_iff_eq]; omega
  have hdv : (l.length : Int) / 8 = ((l.length / 8 : Nat) : Int) := by omega
  have hm : ∀ w, (Instr.makeSlice 23 (.int .i64 0) (.int .i64 ((l.length : Int) / 8))).run Try.prog w = .ok (.slice (some ⟨w.heap.size, 0, none⟩) 0 (l.length / 8)) (w.alloc (.cells (madeCells #[.int .u8 0] (l.length / 8)) 5)) := fun w => by
    rw [hdv]; exact run_makeB w (l.length / 8) (by omega)
  have hmf : ∀ (fn : Fn) (first cap : Array Value) (w : World), (Instr.makeFunc fn first cap).run Try.prog w = .ok (.func fn first cap) w := fun _ _ _ _ => rfl
  clear hc h h8 hdv
  go_enter Try.func19, Try.ntmps19
  go_wp2_with fail
  refine (check_ok a cap l w H.out HC.out).mono ?_
  rintro e w' ⟨rfl, rfl⟩
  go_wp2_with fail
  refine (eachB_any 34 (.pointer (some ⟨w.heap.size + 1, 0, none⟩)) a cap l (fun k wr => (∃ v, OctAt wr (w.heap.size + 1) v (octsK l k) k ∧ ∀ j, Foot (w.heap.size + 1) v j → w.heap.size ≤ j) ∧ Nb w wr) _ hL
    ⟨⟨.slice (some ⟨w.heap.size, 0, none⟩) 0 (l.length / 8), ⟨?i1, ?i2, by simp [Value.ownBlock]⟩, ?i3⟩, (Nb.rfl.al _).al _⟩ (fun k wr hI => H.out.below hI.2) (hcf _ _ Try.func34 (by rfl) (by decide +kernel)) ?st).mono ?en
  case i1 =>
    have := Blk.new (w.alloc (.cells (madeCells #[.int .u8 0] (l.length / 8)) 5)) #[.slice (some ⟨w.heap.size, 0, none⟩) 0 (l.length / 8), .int .i64 ((0 : Nat) : Int)] 57
    simpa using this
  case i2 => exact (OwnB.made w (l.length / 8) (by omega)).keep (Kp.alloc (F := fun _ => False)) (by simp)
  case i3 => rintro j (rfl | hj); omega; simp [Value.ownBlock] at hj; omega
  case st =>
    rintro k x wr ⟨⟨v, ho, hf⟩, hnb⟩ hx
    have hk : k < l.length := (List.getElem?_eq_some_iff.1 hx).1
    obtain ⟨q1, q2⟩ := octsK_spec l k (by omega)
    refine (octbit_any (w.heap.size + 1) v (octsK l k) k x wr ho (hbit.out x (List.mem_of_getElem? hx)) (by omega) (by omega) (fun h8 => ⟨by omega, octsK_last l hbit.out k (by omega) h8⟩)).mono ?_
    rintro e w' ⟨rfl, v', ho', hk', hf'⟩
    refine ⟨rfl, ⟨v', by simpa [octsK, List.getD, hx] using ho', fun j hj => ?_⟩, hnb.trans (hk'.toBelow hnb.size hf)⟩
    rcases hf' j hj with h1 | h1
    · exact hf j h1
    · exact Nat.le_trans hnb.size h1
  case en =>
    rintro e w2 ⟨rfl, ⟨v, ho, hf⟩, hnb⟩
    rw [octsK_full l H8.out] at ho
    obtain ⟨a', c', rfl, hbs, _⟩ := ho.own.bs
    have c0 : w2.cell? ⟨w.heap.size + 1, 0, none⟩ = _ := ho.blk.cell 0
    have HB := Lib.hid hbs
    clear ho hbs
    go_wp2
    go_ret2
    exact ⟨⟨a', c', rfl, HB.out⟩, hnb⟩
end Go.Proofs.Ytdgdbfmjbbdleaa
