
/- The program's heap of places: which of two is ahead, two exchanged, the last one taken. Condition: at most a thousand places. -/
import Derived.Test.YtfcmoamooafomaaDoorHpM
namespace Go.Proofs.YtfcmoamooafomaaDoor
set_option linter.unusedVariables false
set_option linter.unusedSimpArgs false
open Go.RowKit

theorem pcells {R G cap : Nat} {l : List (Nat × Nat)} {w : World} (h : PlAt w R G (some ⟨G, 0, none⟩) cap l) {i j : Nat} (hi : i < l.length) (hj : j < l.length) :
    w.cell? ⟨R, 0, none⟩ = some (.slice (some ⟨G, 0, none⟩) l.length cap) ∧ w.cell? ⟨R, 1, none⟩ = some ahF ∧ w.cell? ⟨G, i * 2, none⟩ = some (.int .u64 ((l.getD i d0).1 : Nat)) ∧ w.cell? ⟨G, i * 2 + 1, none⟩ = some (.int .i64 ((l.getD i d0).2 : Nat)) ∧
      w.cell? ⟨G, j * 2, none⟩ = some (.int .u64 ((l.getD j d0).1 : Nat)) ∧ w.cell? ⟨G, j * 2 + 1, none⟩ = some (.int .i64 ((l.getD j d0).2 : Nat)) := by
  have hr := (h.rows (by omega)).2
  exact ⟨h.blk.cell 0, h.blk.cell 1, (hr.cell hi).1, (hr.cell hi).2.1, (hr.cell hj).1, (hr.cell hj).2.1⟩
theorem PlAt.swap {R G cap : Nat} {a : Option Addr} {l : List (Nat × Nat)} {w : World} (h : PlAt w R G a cap l) {i j : Nat} (hi : i < l.length) (hj : j < l.length) :
    PlAt ((((w.setCell ⟨G, i * 2, none⟩ (.int .u64 ((l.getD j d0).1 : Nat))).setCell ⟨G, i * 2 + 1, none⟩ (.int .i64 ((l.getD j d0).2 : Nat))).setCell ⟨G, j * 2, none⟩ (.int .u64 ((l.getD i d0).1 : Nat))).setCell ⟨G, j * 2 + 1, none⟩ (.int .i64 ((l.getD i d0).2 : Nat))) R G a cap (swp l i j) := by
  have hn : R ≠ G := fun e => h.ne e.symm
  refine ⟨?_, h.ne, by rw [swp_len]; exact h.hcap, h.hmax, fun h0 => ⟨(h.rows (by omega)).1, ?_⟩⟩
  · rw [swp_len]
    exact (((h.blk.other hn _).other hn _).other hn _).other hn _
  · exact ((h.rows (by omega)).2.put (l.getD j d0)).put (l.getD i d0)
theorem PlAt.popped {R G cap n : Nat} {a : Option Addr} {l : List (Nat × Nat)} {w : World} (h : PlAt w R G a cap l) (hn : n ≤ l.length) :
    PlAt (w.setCell ⟨R, 0, none⟩ (.slice a n cap)) R G a cap (l.take n) := by
  have hl : (l.take n).length = n := by rw [List.length_take]; omega
  have hc := h.hcap
  refine ⟨?_, h.ne, by omega, h.hmax, fun h0 => ⟨(h.rows (by omega)).1, ?_⟩⟩
  · rw [hl]
    exact h.blk.set 0 (.slice a n cap)
  · exact ((h.rows (by omega)).2.keep (Kp.set (F := (· = R)) rfl) h.ne).less n
theorem kp_set4 (w : World) (G a b c d : Nat) (u v x y : Value) : Kp (· = G) w ((((w.setCell ⟨G, a, none⟩ u).setCell ⟨G, b, none⟩ v).setCell ⟨G, c, none⟩ x).setCell ⟨G, d, none⟩ y) :=
  (((Kp.set (F := (· = G)) rfl).tr (Kp.set (F := (· = G)) rfl) (fun _ h => .inl h)).tr (Kp.set (F := (· = G)) rfl) (fun _ h => .inl h)).tr (Kp.set (F := (· = G)) rfl) (fun _ h => .inl h)

set_option maxHeartbeats 1600000 in
set_option maxRecDepth 100000 in
theorem pless_any (R G : Nat) (a : Option Addr) (cap : Nat) (l : List (Nat × Nat)) (w : World) (h : PlAt w R G a cap l) (i j : Nat) (hi : i < l.length) (hj : j < l.length) (hl : l.length ≤ 1000) :
    Calls Tryd.prog 126 #[.pointer (some ⟨R, 0, none⟩), .int .i64 (i : Nat), .int .i64 (j : Nat)] w fun e w' => e = .returned (.bool (ahB (l.getD i d0) (l.getD j d0))) ∧ Nb w w' := by
  obtain ⟨rfl, hr⟩ := h.rows (by omega)
  have c0 := h.blk.cell 0
  have c1 := h.blk.cell 1
  simp only [List.getElem?_toArray, List.getElem?_cons_zero, List.getElem?_cons_succ, ahF] at c0 c1
  obtain ⟨u0, u1, _, _⟩ := hr.cell hi
  obtain ⟨v0, v1, _, _⟩ := hr.cell hj
  have CF := Lib.hid (fun w' (n : Nb w w') => pcells (h.nb n) hi hj)
  clear h hr
  unfold ahF at CF
  generalize l.getD i d0 = p at *
  generalize l.getD j d0 = q at *
  have i1 : (i : Int) < (l.length : Int) := by omega
  have j1 : (j : Int) < (l.length : Int) := by omega
  have HA := Lib.hid (fun w => ahead_any p q w)
  clear hi hj
  generalize l.length = n at *
  go_enter Tryd.func126, Tryd.ntmps126
  go_wp2_with fail
  go_region_held3 (fun w' => w'.cell? ⟨R, 0, none⟩ = some (.slice (some ⟨G, 0, none⟩) n cap) ∧ w'.cell? ⟨R, 1, none⟩ = some (.func (.func 41) #[] #[]) ∧ w'.cell? ⟨G, i * 2, none⟩ = some (.int .u64 (p.1 : Nat)) ∧ w'.cell? ⟨G, i * 2 + 1, none⟩ = some (.int .i64 (p.2 : Nat)) ∧ w'.cell? ⟨G, j * 2, none⟩ = some (.int .u64 (q.1 : Nat)) ∧ w'.cell? ⟨G, j * 2 + 1, none⟩ = some (.int .i64 (q.2 : Nat))) (first | go_keep | exact CF.out _ (Nb.tr (Below.drew (Below.refl _ _) : Nb w w.drew) n7)) ((go_at_call 41; refine (HA.out _).mono ?_; rintro e w7 ⟨rfl, n7⟩))
  have N7 := Lib.hid (Nb.tr (Below.drew (Below.refl _ _) : Nb w w.drew) n7)
  clear n7
  go_wp2
  go_ret
  exact ⟨rfl, N7.out⟩

set_option maxHeartbeats 1600000 in
set_option maxRecDepth 100000 in
theorem pswap_any (R G : Nat) (a : Option Addr) (cap : Nat) (l : List (Nat × Nat)) (w : World) (h : PlAt w R G a cap l) (i j : Nat) (hi : i < l.length) (hj : j < l.length) (hl : l.length ≤ 1000) (hne : i ≠ j) :
    Calls Tryd.prog 128 #[.pointer (some ⟨R, 0, none⟩), .int .i64 (i : Nat), .int .i64 (j : Nat)] w fun e w' => e = .returned (.tuple #[]) ∧ PlAt w' R G a cap (swp l i j) ∧ Kp (· = G) w w' := by
  obtain ⟨rfl, hr⟩ := h.rows (by omega)
  have c0 := h.blk.cell 0
  have hne2 := h.ne
  simp only [List.getElem?_toArray, List.getElem?_cons_zero, List.getElem?_cons_succ, ahF] at c0
  obtain ⟨u0, u1, fu0, fu1⟩ := hr.cell hi
  obtain ⟨v0, v1, fv0, fv1⟩ := hr.cell hj
  have H := Lib.hid (h.swap hi hj)
  clear h hr
  have i1 : (i : Int) < (l.length : Int) := by omega
  have j1 : (j : Int) < (l.length : Int) := by omega
  generalize l.getD i d0 = p at *
  generalize l.getD j d0 = q at *
  clear hi hj
  have k1 : ¬ i * 2 = j * 2 := by omega
  have k2 : ¬ i * 2 = j * 2 + 1 := by omega
  have k3 : ¬ i * 2 + 1 = j * 2 := by omega
  have k4 : ¬ j * 2 = i * 2 := by omega
  have k5 : ¬ j * 2 + 1 = i * 2 := by omega
  have k6 : ¬ j * 2 = i * 2 + 1 := by omega
  have k7 : ¬ i = j := hne
  have k8 : ¬ j = i := fun h => hne h.symm
  clear hne
  generalize l.length = n at *
  go_enter Tryd.func128, Tryd.ntmps128
  go_wp2_with fail
  go_region
  go_end0
  exact ⟨rfl, H.out.nb (Below.drew (Below.refl _ _)), (kp_set4 w G _ _ _ _ _ _ _ _).tr (Kp.ofNb (F := fun _ => False) (Below.drew (Below.refl _ _))) (fun _ h => h.elim)⟩

set_option maxHeartbeats 1600000 in
set_option maxRecDepth 100000 in
theorem pswap_same (R G : Nat) (a : Option Addr) (cap : Nat) (l : List (Nat × Nat)) (w : World) (h : PlAt w R G a cap l) (i : Nat) (hi : i < l.length) (hl : l.length ≤ 1000) :
    Calls Tryd.prog 128 #[.pointer (some ⟨R, 0, none⟩), .int .i64 (i : Nat), .int .i64 (i : Nat)] w fun e w' => e = .returned (.tuple #[]) ∧ PlAt w' R G a cap (swp l i i) ∧ Kp (· = G) w w' := by
  obtain ⟨rfl, hr⟩ := h.rows (by omega)
  have c0 := h.blk.cell 0
  have hne2 := h.ne
  simp only [List.getElem?_toArray, List.getElem?_cons_zero, List.getElem?_cons_succ, ahF] at c0
  obtain ⟨u0, u1, fu0, fu1⟩ := hr.cell hi
  have H := Lib.hid (h.swap hi hi)
  clear h hr
  have i1 : (i : Int) < (l.length : Int) := by omega
  generalize l.getD i d0 = p at *
  clear hi
  generalize l.length = n at *
  go_enter Tryd.func128, Tryd.ntmps128
  go_wp2_with fail
  go_region
  go_end0
  exact ⟨rfl, H.out.nb (Below.drew (Below.refl _ _)), (kp_set4 w G _ _ _ _ _ _ _ _).tr (Kp.ofNb (F := fun _ => False) (Below.drew (Below.refl _ _))) (fun _ h => h.elim)⟩
theorem pswap_all (R G : Nat) (a : Option Addr) (cap : Nat) (l : List (Nat × Nat)) (w : World) (h : PlAt w R G a cap l) (i j : Nat) (hi : i < l.length) (hj : j < l.length) (hl : l.length ≤ 1000) :
    Calls Tryd.prog 128 #[.pointer (some ⟨R, 0, none⟩), .int .i64 (i : Nat), .int .i64 (j : Nat)] w fun e w' => e = .returned (.tuple #[]) ∧ PlAt w' R G a cap (swp l i j) ∧ Kp (· = G) w w' := by
  by_cases hij : i = j
  · subst hij
    exact pswap_same R G a cap l w h i hi hl
  · exact pswap_any R G a cap l w h i j hi hj hl hij

set_option maxHeartbeats 1600000 in
set_option maxRecDepth 100000 in
theorem ppop_any (R G : Nat) (a : Option Addr) (cap : Nat) (l : List (Nat × Nat)) (n : Nat) (w : World) (h : PlAt w R G a cap l) (hn : l.length = n + 1) (hl : l.length ≤ 1000) :
    Calls Tryd.prog 127 #[.pointer (some ⟨R, 0, none⟩)] w fun e w' => e = .returned (.iface 67 (.agg #[.int .u64 ((l.getD n d0).1 : Nat), .int .i64 ((l.getD n d0).2 : Nat)])) ∧ PlAt w' R G a cap (l.take n) ∧ Kp (· = R) w w' := by
  obtain ⟨rfl, hr⟩ := h.rows (by omega)
  have hcap := h.hcap
  have hmax := h.hmax
  have c0 := h.blk.cell 0
  have f0 := h.blk.frozen 0
  have hR := h.blk.lt
  have hne2 := h.ne
  simp only [List.getElem?_toArray, List.getElem?_cons_zero, List.getElem?_cons_succ, ahF] at c0
  obtain ⟨u0, u1, fu0, fu1⟩ := hr.cell (j := n) (by omega)
  have H := Lib.hid (h.popped (n := n) (by omega))
  clear h hr
  rw [hn] at c0 hcap hl
  have HN := Lib.hid hn
  clear hn
  generalize l.getD n d0 = p at *
  go_enter Tryd.func127, Tryd.ntmps127
  go_wp2
  go_ret
  exact ⟨rfl, H.out.nb (Nb.rfl.al _), (Kp.set (F := (· = R)) rfl).tr Kp.alloc (fun _ h => h)⟩
end Go.Proofs.YtfcmoamooafomaaDoor
