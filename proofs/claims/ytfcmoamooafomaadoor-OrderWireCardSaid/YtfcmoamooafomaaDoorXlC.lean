
/- A row of the own call that is appended to in place; contract of package xl's headOf. No conditions. -/
import Derived.Test.YtfcmoamooafomaaDoorRwC
import Derived.Test.YtfcmoamooafomaaDoorClaR
import Derived.Test.YtfcmoamooafomaaDoorFrmH
import Derived.Test.YtfcmoamooafomaaDoorXlM
import Derived.Test.YtfcmoamooafomaaDoorGx
namespace Go.Proofs.YtfcmoamooafomaaDoor
set_option linter.unusedVariables false
set_option linter.unusedSimpArgs false
open Go.RowKit

theorem bitsN_65 : bitsN 6 5 = [0, 0, 1, 1, 0] := by decide

/-- An append that is stored back into the row. -/
theorem RowAt.app {w w2 : World} {t : TypeId} {R : Nat} {v v' : Value} {l l2 : List Nat} (h : RowAt w t R v l) (ho : OwnB w2 v' l2) (hk : Kp (fun k => v.ownBlock = some k) w w2) (hg : ∀ g, v'.ownBlock = some g → v.ownBlock = some g ∨ w.heap.size ≤ g) :
    RowAt (w2.setCell ⟨R, 0, none⟩ v') t R v' l2 ∧ Kp (Foot R v) w (w2.setCell ⟨R, 0, none⟩ v') ∧ ∀ k, Foot R v' k → Foot R v k ∨ w.heap.size ≤ k := by
  have hbl := h.blk.keep hk h.ne
  have hne : ∀ g, v'.ownBlock = some g → g ≠ R := by
    rintro g hv rfl
    rcases hg g hv with h1 | h1
    · exact h.ne h1
    · have := h.blk.lt
      omega
  refine ⟨⟨by simpa using hbl.set 0 v', ho.keep (Kp.set (F := (· = R)) rfl) hne, fun e => hne R e rfl⟩, ?_, ?_⟩
  · exact (hk.mono (F' := Foot R v) (fun k _ h => .inr h)).tr (Kp.set (F := (· = R)) rfl) (fun k h => .inl (.inl h))
  · rintro k (rfl | hk)
    · exact .inl (.inl rfl)
    · rcases hg k hk with h1 | h1
      · exact .inl (.inr h1)
      · exact .inr h1
theorem RowStep.nb {w w1 w2 : World} {t : TypeId} {R : Nat} {v : Value} {l : List Nat} (h : RowStep w t R v l w1) (n : Nb w1 w2) : RowStep w t R v l w2 := by
  obtain ⟨v', r, k, f⟩ := h
  exact ⟨v', r.keep (F := fun _ => False) (Kp.ofNb n) (by simp), k.tr (F' := fun _ => False) (Kp.ofNb n) (by simp), f⟩

set_option maxHeartbeats 4000000 in
set_option maxRecDepth 100000 in
theorem headof8_any (i : Nat) (K : Int) (X R B E S : Bool) (D V A : Int) (dv : Value) (w : World) (hi : i < 2048) :
    Calls Tryd.prog 76 #[.agg #[.int .i64 K, .int .u32 i, .bool X, .bool R, .bool B, .bool E, .bool S, .int .u8 D, .int .u8 V, .int .u32 A, dv]] w fun e w' => (∃ a c, e = .returned (.slice a (headX i).length c) ∧ Fresh w w' (.slice a (headX i).length c) (headX i)) ∧ Nb w w' := by
  have EQ := Lib.hid (show bitsN 0 1 ++ bitsN i 11 ++ bitsN 6 5 = headX i by simp [headX, bitsN_01, bitsN_65])
  have hmf : ∀ (fn : Fn) (first cap : Array Value) (w : World), (Instr.makeFunc fn first cap).run Tryd.prog w = .ok (.func fn first cap) w := fun _ _ _ _ => rfl
  obtain ⟨w4, hw4⟩ : ∃ w4, w4 = (w.alloc (.cells #[.int .i64 K, .int .u32 i, .bool X, .bool R, .bool B, .bool E, .bool S, .int .u8 D, .int .u8 V, .int .u32 A, dv] 25)).alloc (.cells #[.slice none 0 0] 103) := ⟨_, rfl⟩
  have b4 := Lib.hid (show Blk w4 w.heap.size #[.int .i64 K, .int .u32 i, .bool X, .bool R, .bool B, .bool E, .bool S, .int .u8 D, .int .u8 V, .int .u32 A, dv] 25 by rw [hw4]; exact (Blk.new _ _ _).nb (Nb.rfl.al _))
  have m4 : Nb w w4 := by rw [hw4]; exact (Nb.rfl.al _).al _
  have r4 : RowAt w4 103 (w.heap.size + 1) (.slice none 0 0) [] := by
    rw [hw4]
    refine ⟨?_, OwnB.nil _, by simp [Value.ownBlock]⟩
    have := Blk.new (w.alloc (.cells #[.int .i64 K, .int .u32 i, .bool X, .bool R, .bool B, .bool E, .bool S, .int .u8 D, .int .u8 V, .int .u32 A, dv] 25)) #[.slice none 0 0] 103
    rwa [World.size_alloc] at this
  have NF := Lib.hid (show ¬ Foot (w.heap.size + 1) (.slice none 0 0) w.heap.size by rintro (h | h); omega; simp [Value.ownBlock] at h)
  have hR : w.heap.size ≤ w.heap.size + 1 := by omega
  have S := Lib.hid (show RowStep w4 103 (w.heap.size + 1) (.slice none 0 0) [] w4 from ⟨_, r4, Kp.rfl, fun _ h => .inl h⟩)
  have HW := Lib.hid hw4
  have M4 := Lib.hid m4
  clear r4 m4 hw4
  go_enter Tryd.func76, Tryd.ntmps76
  go_wp2_with fail
  rw [← HW.out]
  obtain ⟨v5, r5, k5, f5⟩ := S.out
  refine (cput_any (w.heap.size + 1) v5 _ 0 1 _ r5 (by omega) (by omega) (by decide) (by (try simp only [List.length_append, bitsN_length, List.length_nil]); omega)).mono ?_
  rintro e x1 ⟨rfl, s5⟩
  have S := Lib.hid (RowStep.tr2 k5 f5 s5)
  clear s5 r5 k5 f5
  obtain ⟨v5, r5, k5, f5⟩ := S.out
  obtain ⟨c0, c1, c2, c3, c4, c5, c6, c7, c8, c9, c10⟩ := (b4.out.keep k5 NF.out).c11
  go_wp2_with fail
  refine (cput_any (w.heap.size + 1) v5 _ i 11 _ r5 (by omega) (by omega) (by omega) (by (try simp only [List.length_append, bitsN_length, List.length_nil]); omega)).mono ?_
  rintro e x2 ⟨rfl, s5⟩
  have S := Lib.hid (RowStep.tr2 k5 f5 s5)
  clear s5 r5 k5 f5 c0 c1 c2 c3 c4 c5 c6 c7 c8 c9 c10
  obtain ⟨v5, r5, k5, f5⟩ := S.out
  go_wp2_with fail
  refine (cput_any (w.heap.size + 1) v5 _ 6 5 _ r5 (by omega) (by omega) (by decide) (by (try simp only [List.length_append, bitsN_length, List.length_nil]); omega)).mono ?_
  rintro e x3 ⟨rfl, s5⟩
  have s8 := RowStep.tr2 k5 f5 s5
  rw [List.nil_append, EQ.out] at s8
  have nr : Nb w x3 := s8.below M4.out hR
  obtain ⟨a7, d7, y7, f7⟩ := s8.fresh M4.out hR
  have F7 := Lib.hid f7
  clear s8 f7 s5 r5 k5 f5 S
  go_wp2
  go_ret
  exact ⟨⟨a7, d7, rfl, F7.out⟩, nr⟩

end Go.Proofs.YtfcmoamooafomaaDoor
