
/- Contract of frame.Copy. Condition: a frame's bytes are at most 2 to the 47. -/
import Derived.Test.YtkboncpfddnoaaaGreatDoorFrmK
namespace Go.Proofs.YtkboncpfddnoaaaGreatDoor
set_option linter.unusedVariables false
set_option linter.unusedSimpArgs false
open Go.RowKit

theorem Bs.none_len' {w : World} {cap : Nat} {l : List Nat} (h : Bs w none cap l) : l.length = 0 := by
  cases l with
  | nil => rfl
  | cons x l => obtain ⟨_, _, h, _⟩ := h.hcells (by simp); cases h

set_option maxHeartbeats 1600000 in
set_option maxRecDepth 100000 in
theorem clone_any (a : Option Addr) (cap : Nat) (l : List Nat) (w : World) (h : Bs w a cap l) (hn : a = none → cap = 0) (hl : l.length ≤ 140737488355328) :
    Calls Tryz.prog 40 #[.slice a l.length cap] w fun e w' => (∃ a' c', e = .returned (.slice a' l.length c') ∧ Fresh w w' (.slice a' l.length c') l) ∧ Nb w w' := by
  have H := Lib.hid h
  have hL := h.len
  have hN := Lib.hid hn
  cases a with
  | none =>
    have h0 := h.none_len'
    obtain rfl : l = [] := List.length_eq_zero_iff.1 h0
    obtain rfl := hn rfl
    clear h h0 hn hl hL
    have he : ∀ w : World, (binOp .eql 22 (.slice none 0 0) (.slice none 0 0)).run Tryz.prog w = .ok (.bool true) w := fun _ => rfl
    go_enter Tryz.func40, Tryz.ntmps40
    go_wp2
    go_ret
    exact ⟨⟨none, 0, rfl, OwnB.nil _, by simp [Value.ownBlock]⟩, Nb.rfl⟩
  | some ad =>
    clear h hn
    have he : ∀ w : World, (binOp .eql 22 (.slice (some ad) l.length cap) (.slice none 0 0)).run Tryz.prog w = .ok (.bool false) w := fun _ => rfl
    go_enter Tryz.func40, Tryz.ntmps40
    go_wp2_with (at_builtin; refine wpList_appB _ rfl (.tmp 5) (.tmp 6) rfl _ [] rfl (OwnB.fresh0 _) (some ad) cap l l.length rfl rfl (H.out.below (Nb.rfl.al _)) (by simp) (by simpa using hl) ?_)
    intro v1 w1 ho hk hf
    have fr : Fresh w w1 v1 l := ⟨ho, fun g hg => by
      rcases hf g hg with h | h
      · simp [Value.ownBlock] at h
        omega
      · first | omega | (simp at h; omega)⟩
    have nb1 : Nb w w1 := ((Nb.rfl.al _)).trans (hk.toBelow (by simp) (by intro g hg; simp [Value.ownBlock] at hg; omega))
    obtain ⟨a1, c1, rfl, _⟩ := ho.bs
    have FR := Lib.hid fr
    clear fr ho hk hf
    go_wp2
    go_ret
    exact ⟨⟨a1, c1, rfl, FR.out⟩, nb1⟩

def put11 (w : World) (b : Nat) (v0 v1 v2 v3 v4 v5 v6 v7 v8 v9 v10 : Value) : World := ((((((((((w.setCell ⟨b, 0, none⟩ v0).setCell ⟨b, 1, none⟩ v1).setCell ⟨b, 2, none⟩ v2).setCell ⟨b, 3, none⟩ v3).setCell ⟨b, 4, none⟩ v4).setCell ⟨b, 5, none⟩ v5).setCell ⟨b, 6, none⟩ v6).setCell ⟨b, 7, none⟩ v7).setCell ⟨b, 8, none⟩ v8).setCell ⟨b, 9, none⟩ v9).setCell ⟨b, 10, none⟩ v10
theorem put11_blk {w : World} {b : Nat} {u0 u1 u2 u3 u4 u5 u6 u7 u8 u9 u10 v0 v1 v2 v3 v4 v5 v6 v7 v8 v9 v10 : Value} {t : TypeId} (h : Blk w b #[u0, u1, u2, u3, u4, u5, u6, u7, u8, u9, u10] t) :
    Blk (put11 w b v0 v1 v2 v3 v4 v5 v6 v7 v8 v9 v10) b #[v0, v1, v2, v3, v4, v5, v6, v7, v8, v9, v10] t := by
  have := ((((((((((h.set 0 v0).set 1 v1).set 2 v2).set 3 v3).set 4 v4).set 5 v5).set 6 v6).set 7 v7).set 8 v8).set 9 v9).set 10 v10
  simpa [put11] using this
theorem put11_kp (w : World) (b : Nat) (v0 v1 v2 v3 v4 v5 v6 v7 v8 v9 v10 : Value) : Kp (fun x => x = b) w (put11 w b v0 v1 v2 v3 v4 v5 v6 v7 v8 v9 v10) := by
  unfold put11
  exact ((((((((((Kp.set (F := fun x => x = b) rfl).tr (Kp.set (F := fun x => x = b) rfl) (fun _ h => .inl h)).tr (Kp.set (F := fun x => x = b) rfl) (fun _ h => .inl h)).tr (Kp.set (F := fun x => x = b) rfl) (fun _ h => .inl h)).tr (Kp.set (F := fun x => x = b) rfl) (fun _ h => .inl h)).tr (Kp.set (F := fun x => x = b) rfl) (fun _ h => .inl h)).tr (Kp.set (F := fun x => x = b) rfl) (fun _ h => .inl h)).tr (Kp.set (F := fun x => x = b) rfl) (fun _ h => .inl h)).tr (Kp.set (F := fun x => x = b) rfl) (fun _ h => .inl h)).tr (Kp.set (F := fun x => x = b) rfl) (fun _ h => .inl h)).tr (Kp.set (F := fun x => x = b) rfl) (fun _ h => .inl h)

set_option maxHeartbeats 4000000 in
set_option maxRecDepth 100000 in
theorem copy_any (f : Hd) (a : Option Addr) (cap : Nat) (l : List Nat) (w : World) (h : Bs w a cap l) (hn : a = none → cap = 0) (hl : l.length ≤ 140737488355328) :
    Calls Tryz.prog 23 #[.agg (f.cs (.slice a l.length cap))] w fun e w' => (∃ a' c', e = .returned (.agg (f.cs (.slice a' l.length c'))) ∧ Fresh w w' (.slice a' l.length c') l) ∧ Nb w w' := by
  have H := Lib.hid h
  have hL := h.len
  have hN := Lib.hid hn
  obtain ⟨K, I, X, R, B, E, S, D, V, A⟩ := f
  simp only [Hd.cs]
  clear h hn
  go_enter Tryz.func23, Tryz.ntmps23
  go_wp2_with fail
  refine (clone_any a cap l _ (H.out.below ((Nb.rfl.al _).al _)) hN.out hl).mono ?_
  rintro e w1 ⟨⟨a1, ca, rfl, hfr⟩, n1⟩
  have hf := ((Blk.new w #[.int .i64 K, .int .u32 I, .bool X, .bool R, .bool B, .bool E, .bool S, .int .u8 D, .int .u8 V, .int .u32 A, .slice a l.length cap] 29).nb (Nb.rfl.al (.cells #[.int .i64 0, .int .u32 0, .bool false, .bool false, .bool false, .bool false, .bool false, .int .u8 0, .int .u8 0, .int .u32 0, .slice none 0 0] 29))).nb n1
  have hx := (Blk.new (w.alloc (.cells #[.int .i64 K, .int .u32 I, .bool X, .bool R, .bool B, .bool E, .bool S, .int .u8 D, .int .u8 V, .int .u32 A, .slice a l.length cap] 29)) #[.int .i64 0, .int .u32 0, .bool false, .bool false, .bool false, .bool false, .bool false, .int .u8 0, .int .u8 0, .int .u32 0, .slice none 0 0] 29).nb n1
  rw [World.size_alloc] at hx
  have M := Lib.hid (((Nb.rfl.al _).al _).tr n1 : Nb w w1)
  obtain ⟨c0, c1, c2, c3, c4, c5, c6, c7, c8, c9, c10⟩ := hf.c11
  obtain ⟨y0, y1, y2, y3, y4, y5, y6, y7, y8, y9, y10⟩ := hf.f11
  obtain ⟨d0, d1, d2, d3, d4, d5, d6, d7, d8, d9, d10⟩ := hx.c11
  obtain ⟨g0, g1, g2, g3, g4, g5, g6, g7, g8, g9, g10⟩ := hx.f11
  have hs1 : w1.heap.size = w1.heap.size := rfl
  have hB := put11_blk (v0 := .int .i64 K) (v1 := .int .u32 I) (v2 := .bool X) (v3 := .bool R) (v4 := .bool B) (v5 := .bool E) (v6 := .bool S) (v7 := .int .u8 D) (v8 := .int .u8 V) (v9 := .int .u32 A) (v10 := .slice a1 l.length ca) (hx.other (p := ⟨w.heap.size, 10, none⟩) (by simp) (.slice a1 l.length ca))
  have hk : Kp (fun x => x = w.heap.size ∨ x = w.heap.size + 1) w1 (put11 (w1.setCell ⟨w.heap.size, 10, none⟩ (.slice a1 l.length ca)) (w.heap.size + 1) (.int .i64 K) (.int .u32 I) (.bool X) (.bool R) (.bool B) (.bool E) (.bool S) (.int .u8 D) (.int .u8 V) (.int .u32 A) (.slice a1 l.length ca)) :=
    (Kp.set (F := fun x => x = w.heap.size ∨ x = w.heap.size + 1) (.inl rfl)).tr ((put11_kp _ _ _ _ _ _ _ _ _ _ _ _ _).mono (F' := fun x => x = w.heap.size ∨ x = w.heap.size + 1) (fun _ _ h => .inr h)) (fun _ h => .inl h)
  have hbel : Nb w (put11 (w1.setCell ⟨w.heap.size, 10, none⟩ (.slice a1 l.length ca)) (w.heap.size + 1) (.int .i64 K) (.int .u32 I) (.bool X) (.bool R) (.bool B) (.bool E) (.bool S) (.int .u8 D) (.int .u8 V) (.int .u32 A) (.slice a1 l.length ca)) := M.out.trans (hk.toBelow M.out.size (fun k hk => by omega))
  have hfr2 : Fresh w (put11 (w1.setCell ⟨w.heap.size, 10, none⟩ (.slice a1 l.length ca)) (w.heap.size + 1) (.int .i64 K) (.int .u32 I) (.bool X) (.bool R) (.bool B) (.bool E) (.bool S) (.int .u8 D) (.int .u8 V) (.int .u32 A) (.slice a1 l.length ca)) (.slice a1 l.length ca) l := ⟨hfr.1.keep hk (fun g hg h => by
      have := hfr.2 g hg
      simp at this
      omega), fun g hg => by
      have := hfr.2 g hg
      simp at this
      omega⟩
  have HB := Lib.hid hB
  have HW := Lib.hid hbel
  have FR := Lib.hid hfr2
  clear hf hx n1 hfr hB hbel hfr2 hk hs1
  go_wp2
  change bodyPost _ _ _ _ _ (put11 (w1.setCell ⟨w.heap.size, 10, none⟩ (.slice a1 l.length ca)) (w.heap.size + 1) (.int .i64 K) (.int .u32 I) (.bool X) (.bool R) (.bool B) (.bool E) (.bool S) (.int .u8 D) (.int .u8 V) (.int .u32 A) (.slice a1 l.length ca))
  generalize put11 (w1.setCell ⟨w.heap.size, 10, none⟩ (.slice a1 l.length ca)) (w.heap.size + 1) (.int .i64 K) (.int .u32 I) (.bool X) (.bool R) (.bool B) (.bool E) (.bool S) (.int .u8 D) (.int .u8 V) (.int .u32 A) (.slice a1 l.length ca) = W at *
  obtain ⟨e0, e1, e2, e3, e4, e5, e6, e7, e8, e9, e10⟩ := HB.out.c11
  exact bodyPost_ret (v := .agg (Hd.cs ⟨K, I, X, R, B, E, S, D, V, A⟩ (.slice a1 l.length ca))) (by simp [results, Tryz.results23, go_sem, Hd.cs, e0, e1, e2, e3, e4, e5, e6, e7, e8, e9, e10]) rfl ⟨⟨_, _, rfl, FR.out⟩, HW.out⟩
end Go.Proofs.YtkboncpfddnoaaaGreatDoor
