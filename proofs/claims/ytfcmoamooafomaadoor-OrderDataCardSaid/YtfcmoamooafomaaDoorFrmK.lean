
/- Contract of frame.Check, and when a frame may be. Condition: the table of longer sizes holds what the program's text lays there. -/
import Derived.Test.YtfcmoamooafomaaDoorFrmT
import Derived.Test.YtfcmoamooafomaaDoorGf
import Derived.Deep.RegionHeld3
namespace Go.Proofs.YtfcmoamooafomaaDoor
set_option linter.unusedVariables false
set_option linter.unusedSimpArgs false
open Go.RowKit

/-- What of a frame's bytes its kind tells. -/
def toldL (f : Hd) (l : List Nat) : List Nat := if f.K = 1 ∧ f.R = true then [] else l
def toldA (f : Hd) (a : Option Addr) : Option Addr := if f.K = 1 ∧ f.R = true then none else a
def toldC (f : Hd) (c : Nat) : Nat := if f.K = 1 ∧ f.R = true then 0 else c
theorem toldV_eq (f : Hd) (a : Option Addr) (l : List Nat) (cap : Nat) : toldV f (.slice a l.length cap) = .slice (toldA f a) (toldL f l).length (toldC f cap) := by
  unfold toldV toldA toldL toldC
  split <;> rfl
theorem toldV_bs {f : Hd} {w : World} {a : Option Addr} {l : List Nat} {cap : Nat} (h : Bs w a cap l) : Bs w (toldA f a) (toldC f cap) (toldL f l) := by
  unfold toldA toldL toldC
  split
  · exact Bs.nil w
  · exact h
/-- May a frame be? -/
def okF (f : Hd) (l : List Nat) : Bool := hasF f.K (l.length : Int) && (decide (f.I < (idsF f : Int)) && sameF f (toldH f) l (toldL f l))
def checkN (f : Hd) (l : List Nat) : Nat := if okF f l then 0 else 2

theorem Blk.c11 {w : World} {R : Nat} {u0 u1 u2 u3 u4 u5 u6 u7 u8 u9 u10 : Value} {t : TypeId} (h : Blk w R #[u0, u1, u2, u3, u4, u5, u6, u7, u8, u9, u10] t) : w.cell? ⟨R, 0, none⟩ = some u0 ∧ w.cell? ⟨R, 1, none⟩ = some u1 ∧ w.cell? ⟨R, 2, none⟩ = some u2 ∧ w.cell? ⟨R, 3, none⟩ = some u3 ∧ w.cell? ⟨R, 4, none⟩ = some u4 ∧ w.cell? ⟨R, 5, none⟩ = some u5 ∧ w.cell? ⟨R, 6, none⟩ = some u6 ∧ w.cell? ⟨R, 7, none⟩ = some u7 ∧ w.cell? ⟨R, 8, none⟩ = some u8 ∧ w.cell? ⟨R, 9, none⟩ = some u9 ∧ w.cell? ⟨R, 10, none⟩ = some u10 := ⟨h.cell 0, h.cell 1, h.cell 2, h.cell 3, h.cell 4, h.cell 5, h.cell 6, h.cell 7, h.cell 8, h.cell 9, h.cell 10⟩
theorem Blk.f11 {w : World} {R : Nat} {u0 u1 u2 u3 u4 u5 u6 u7 u8 u9 u10 : Value} {t : TypeId} (h : Blk w R #[u0, u1, u2, u3, u4, u5, u6, u7, u8, u9, u10] t) : w.frozen? ⟨R, 0, none⟩ = false ∧ w.frozen? ⟨R, 1, none⟩ = false ∧ w.frozen? ⟨R, 2, none⟩ = false ∧ w.frozen? ⟨R, 3, none⟩ = false ∧ w.frozen? ⟨R, 4, none⟩ = false ∧ w.frozen? ⟨R, 5, none⟩ = false ∧ w.frozen? ⟨R, 6, none⟩ = false ∧ w.frozen? ⟨R, 7, none⟩ = false ∧ w.frozen? ⟨R, 8, none⟩ = false ∧ w.frozen? ⟨R, 9, none⟩ = false ∧ w.frozen? ⟨R, 10, none⟩ = false := ⟨h.frozen 0, h.frozen 1, h.frozen 2, h.frozen 3, h.frozen 4, h.frozen 5, h.frozen 6, h.frozen 7, h.frozen 8, h.frozen 9, h.frozen 10⟩

set_option maxHeartbeats 4000000 in
set_option maxRecDepth 100000 in
theorem check5_any (f : Hd) (a : Option Addr) (cap : Nat) (l : List Nat) (w : World) (h : Bs w a cap l) (hl : Longer w) :
    Calls Tryd.prog 19 #[.agg (f.cs (.slice a l.length cap))] w fun e w' => e = .returned (.int .i64 (checkN f l : Nat)) ∧ Nb w w' := by
  have hL := h.len
  have hCode := Lib.hid (code_any f.K (l.length : Int) _ (hl.below (Nb.rfl.al (.cells (f.cs (.slice a l.length cap)) 25))))
  have hIds := Lib.hid (ids_any f (.slice a l.length cap))
  have hTold := Lib.hid (told_any f a l.length cap)
  have hSame := Lib.hid (fun w' (hn : Nb w w') => same5_any f (toldH f) a (toldA f a) cap (toldC f cap) l (toldL f l) w' (h.below hn) (toldV_bs (h.below hn)))
  simp only [← toldV_eq] at hSame
  cases hh : hasF f.K (l.length : Int) with
  | false =>
    rw [show codeE f.K (l.length : Int) = 2 by simp [codeE, hh], show codeV f.K (l.length : Int) = 0 by simp [codeV, hh]] at hCode
    rw [show checkN f l = 2 by simp [checkN, okF, hh]]
    clear hh h hl hIds hTold hSame
    obtain ⟨K, I, X, R, B, E, S, D, V, A⟩ := f
    simp only [Hd.cs] at hCode ⊢
    go_enter Tryd.func19, Tryd.ntmps19
    go_wp2_with fail
    refine hCode.out.mono ?_
    rintro e w1 ⟨rfl, n1⟩
    obtain ⟨c0, c1, c2, c3, c4, c5, c6, c7, c8, c9, c10⟩ := ((Blk.new w _ _).nb n1).c11
    go_wp2_with fail
    go_quiet (fail)
    go_wp2
    go_ret
    exact ⟨rfl, ((Nb.rfl.al _).tr n1).tr (Nb.drewN _ _)⟩
  | true =>
    rw [show codeE f.K (l.length : Int) = 0 by simp [codeE, hh]] at hCode
    by_cases hi : f.I < (idsF f : Int)
    · have hi2 : decide ((idsF f : Int) ≤ f.I) = false := by simpa using hi
      rw [show checkN f l = if sameF f (toldH f) l (toldL f l) then 0 else 2 by simp [checkN, okF, hh, hi]]
      clear hh h hl hi
      generalize codeV f.K (l.length : Int) = cv at *
      generalize (Value.agg ((toldH f).cs (toldV f (.slice a l.length cap)))) = tv at *
      generalize sameF f (toldH f) l (toldL f l) = sb at *
      obtain ⟨K, I, X, R, B, E, S, D, V, A⟩ := f
      generalize idsF _ = idn at *
      simp only [Hd.cs] at hCode hIds hTold hSame hi2 ⊢
      go_enter Tryd.func19, Tryd.ntmps19
      go_wp2_with fail
      refine hCode.out.mono ?_
      rintro e w1 ⟨rfl, n1⟩
      have HB := Lib.hid ((Blk.new w #[.int .i64 K, .int .u32 I, .bool X, .bool R, .bool B, .bool E, .bool S, .int .u8 D, .int .u8 V, .int .u32 A, .slice a l.length cap] 25).nb n1)
      have m1 := Lib.hid ((Nb.rfl.al _).tr n1 : Nb w w1)
      obtain ⟨c0, c1, c2, c3, c4, c5, c6, c7, c8, c9, c10⟩ := HB.out.c11
      clear n1
      go_wp2_with fail
      go_region_held3 (fun w' => w'.cell? ⟨w.heap.size, 0, none⟩ = some (.int .i64 K) ∧ w'.cell? ⟨w.heap.size, 1, none⟩ = some (.int .u32 I) ∧ w'.cell? ⟨w.heap.size, 2, none⟩ = some (.bool X) ∧ w'.cell? ⟨w.heap.size, 3, none⟩ = some (.bool R) ∧ w'.cell? ⟨w.heap.size, 4, none⟩ = some (.bool B) ∧ w'.cell? ⟨w.heap.size, 5, none⟩ = some (.bool E) ∧ w'.cell? ⟨w.heap.size, 6, none⟩ = some (.bool S) ∧ w'.cell? ⟨w.heap.size, 7, none⟩ = some (.int .u8 D) ∧ w'.cell? ⟨w.heap.size, 8, none⟩ = some (.int .u8 V) ∧ w'.cell? ⟨w.heap.size, 9, none⟩ = some (.int .u32 A) ∧ w'.cell? ⟨w.heap.size, 10, none⟩ = some (.slice a l.length cap)) (first | go_keep | exact (HB.out.nb (Nb.tr (Below.drew (Below.refl _ _) : Nb w1 w1.drew) n5)).c11 | exact (HB.out.nb ((Nb.tr (Below.drew (Below.refl _ _) : Nb w1 w1.drew) n5).tr n6)).c11 | exact (HB.out.nb (((Nb.tr (Below.drew (Below.refl _ _) : Nb w1 w1.drew) n5).tr n6).tr n7)).c11)
        (first
          | (go_at_call 32; refine (hIds.out _).mono ?_; rintro e w5 ⟨rfl, n5⟩)
          | (go_at_call 34; refine (hTold.out _).mono ?_; rintro e w6 ⟨rfl, n6⟩)
          | (go_at_call 33; refine (hSame.out _ (((m1.out.tr (Below.drew (Below.refl _ _) : Nb w1 w1.drew)).tr n5).tr n6)).mono ?_; rintro e w7 ⟨rfl, n7⟩))
      cases sb
      all_goals go_wp2
      all_goals go_ret
      all_goals exact ⟨rfl, (((m1.out.tr (Below.drew (Below.refl _ _) : Nb w1 w1.drew)).tr n5).tr n6).tr n7⟩
    · have hi2 : decide ((idsF f : Int) ≤ f.I) = true := by simpa using hi
      rw [show checkN f l = 2 by simp [checkN, okF, hh, hi]]
      clear hh h hl hi hTold hSame
      generalize codeV f.K (l.length : Int) = cv at *
      obtain ⟨K, I, X, R, B, E, S, D, V, A⟩ := f
      generalize idsF _ = idn at *
      simp only [Hd.cs] at hCode hIds hi2 ⊢
      go_enter Tryd.func19, Tryd.ntmps19
      go_wp2_with fail
      refine hCode.out.mono ?_
      rintro e w1 ⟨rfl, n1⟩
      have HB := Lib.hid ((Blk.new w #[.int .i64 K, .int .u32 I, .bool X, .bool R, .bool B, .bool E, .bool S, .int .u8 D, .int .u8 V, .int .u32 A, .slice a l.length cap] 25).nb n1)
      have m1 := Lib.hid ((Nb.rfl.al _).tr n1 : Nb w w1)
      obtain ⟨c0, c1, c2, c3, c4, c5, c6, c7, c8, c9, c10⟩ := HB.out.c11
      clear n1
      go_wp2_with fail
      go_region_with ((go_at_call 32; refine (hIds.out _).mono ?_; rintro e w5 ⟨rfl, n5⟩; obtain ⟨c0, c1, c2, c3, c4, c5, c6, c7, c8, c9, c10⟩ := (HB.out.nb (Nb.tr (Below.drew (Below.refl _ _) : Nb w1 w1.drew) n5)).c11))
      all_goals go_wp2
      all_goals go_ret
      all_goals exact ⟨rfl, (m1.out.tr (Below.drew (Below.refl _ _) : Nb w1 w1.drew)).tr n5⟩
end Go.Proofs.YtfcmoamooafomaaDoor
