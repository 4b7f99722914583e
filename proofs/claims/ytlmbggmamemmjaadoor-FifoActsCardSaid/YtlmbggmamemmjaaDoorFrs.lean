
/- What a slice of frames is that came in. No conditions. -/
import Derived.Test.YtlmbggmamemmjaaDoorFrmE
import Derived.Test.YtlmbggmamemmjaaDoorGa
import Derived.Test.YtlmbggmamemmjaaDoorWdx
import Derived.Deep.Slices
namespace Go.Proofs.YtlmbggmamemmjaaDoor
set_option linter.unusedVariables false
set_option linter.unusedSimpArgs false
open Go.RowKit Go.ChangeShapes Go.WideShapes

abbrev dF : Hd × List Nat := (⟨0, 0, false, false, false, false, false, 0, 0, 0⟩, [])
/-- The fields' own widths. -/
theorem wd_of {f : Hd} (h1 : (Lit.int .u32 f.I).wf = true) (h2 : (Lit.int .u8 f.D).wf = true) (h3 : (Lit.int .u8 f.V).wf = true) (h4 : (Lit.int .u32 f.A).wf = true) : WdX f := by
  simp [Lit.wf, IntKind.min, IntKind.max, IntKind.signed, IntKind.bits] at h1 h2 h3 h4
  unfold WdX
  omega
theorem list11 {α : Type} {cs : List α} (h : cs.length = 11) : ∃ c0 c1 c2 c3 c4 c5 c6 c7 c8 c9 c10, cs = [c0, c1, c2, c3, c4, c5, c6, c7, c8, c9, c10] := by
  match cs, h with
  | [c0, c1, c2, c3, c4, c5, c6, c7, c8, c9, c10], _ => exact ⟨c0, c1, c2, c3, c4, c5, c6, c7, c8, c9, c10, rfl⟩

set_option maxHeartbeats 1600000 in
theorem frame_open {H : Type} {enc : TypeId × Value → H} {w : World} {fuel : Nat} {cs : List Value} {y : DataW H × List MemPlace} (hn : cs.length = 11)
    (h : DataW.trod enc Tryd.prog w 0 (fun _ => true) true fuel 36 cs = some y) :
    ∃ (f : Hd) (l : List Nat) (a : Option Addr) (cap : Nat), cs = (f.cs (.slice a l.length cap)).toList ∧ WdX f ∧ (Lit.int .i64 f.K).wf = true ∧ Bs w a cap l ∧ (a = none → cap = 0) := by
  obtain ⟨c0, c1, c2, c3, c4, c5, c6, c7, c8, c9, c10, rfl⟩ := list11 hn
  obtain ⟨m0, y0, g0⟩ := open_fld Tryd.underlying36 h 0 _ rfl
  have t0 : DataW.trod enc Tryd.prog w 0 (fun _ => true) true m0 3 (([c0, c1, c2, c3, c4, c5, c6, c7, c8, c9, c10].drop 0).take (Tryd.prog.cellsOf 3)) = some y0 := g0
  rw [show Tryd.prog.cellsOf 3 = 1 from by kernel_rfl] at t0
  have u0 : DataW.trod enc Tryd.prog w 0 (fun _ => true) true m0 3 [c0] = some y0 := t0
  obtain ⟨m1, y1, g1⟩ := open_fld Tryd.underlying36 h 1 _ rfl
  have t1 : DataW.trod enc Tryd.prog w 0 (fun _ => true) true m1 33 (([c0, c1, c2, c3, c4, c5, c6, c7, c8, c9, c10].drop 1).take (Tryd.prog.cellsOf 33)) = some y1 := g1
  rw [show Tryd.prog.cellsOf 33 = 1 from by kernel_rfl] at t1
  have u1 : DataW.trod enc Tryd.prog w 0 (fun _ => true) true m1 33 [c1] = some y1 := t1
  obtain ⟨m2, y2, g2⟩ := open_fld Tryd.underlying36 h 2 _ rfl
  have t2 : DataW.trod enc Tryd.prog w 0 (fun _ => true) true m2 4 (([c0, c1, c2, c3, c4, c5, c6, c7, c8, c9, c10].drop 2).take (Tryd.prog.cellsOf 4)) = some y2 := g2
  rw [show Tryd.prog.cellsOf 4 = 1 from by kernel_rfl] at t2
  have u2 : DataW.trod enc Tryd.prog w 0 (fun _ => true) true m2 4 [c2] = some y2 := t2
  obtain ⟨m3, y3, g3⟩ := open_fld Tryd.underlying36 h 3 _ rfl
  have t3 : DataW.trod enc Tryd.prog w 0 (fun _ => true) true m3 4 (([c0, c1, c2, c3, c4, c5, c6, c7, c8, c9, c10].drop 3).take (Tryd.prog.cellsOf 4)) = some y3 := g3
  rw [show Tryd.prog.cellsOf 4 = 1 from by kernel_rfl] at t3
  have u3 : DataW.trod enc Tryd.prog w 0 (fun _ => true) true m3 4 [c3] = some y3 := t3
  obtain ⟨m4, y4, g4⟩ := open_fld Tryd.underlying36 h 4 _ rfl
  have t4 : DataW.trod enc Tryd.prog w 0 (fun _ => true) true m4 4 (([c0, c1, c2, c3, c4, c5, c6, c7, c8, c9, c10].drop 4).take (Tryd.prog.cellsOf 4)) = some y4 := g4
  rw [show Tryd.prog.cellsOf 4 = 1 from by kernel_rfl] at t4
  have u4 : DataW.trod enc Tryd.prog w 0 (fun _ => true) true m4 4 [c4] = some y4 := t4
  obtain ⟨m5, y5, g5⟩ := open_fld Tryd.underlying36 h 5 _ rfl
  have t5 : DataW.trod enc Tryd.prog w 0 (fun _ => true) true m5 4 (([c0, c1, c2, c3, c4, c5, c6, c7, c8, c9, c10].drop 5).take (Tryd.prog.cellsOf 4)) = some y5 := g5
  rw [show Tryd.prog.cellsOf 4 = 1 from by kernel_rfl] at t5
  have u5 : DataW.trod enc Tryd.prog w 0 (fun _ => true) true m5 4 [c5] = some y5 := t5
  obtain ⟨m6, y6, g6⟩ := open_fld Tryd.underlying36 h 6 _ rfl
  have t6 : DataW.trod enc Tryd.prog w 0 (fun _ => true) true m6 4 (([c0, c1, c2, c3, c4, c5, c6, c7, c8, c9, c10].drop 6).take (Tryd.prog.cellsOf 4)) = some y6 := g6
  rw [show Tryd.prog.cellsOf 4 = 1 from by kernel_rfl] at t6
  have u6 : DataW.trod enc Tryd.prog w 0 (fun _ => true) true m6 4 [c6] = some y6 := t6
  obtain ⟨m7, y7, g7⟩ := open_fld Tryd.underlying36 h 7 _ rfl
  have t7 : DataW.trod enc Tryd.prog w 0 (fun _ => true) true m7 5 (([c0, c1, c2, c3, c4, c5, c6, c7, c8, c9, c10].drop 7).take (Tryd.prog.cellsOf 5)) = some y7 := g7
  rw [show Tryd.prog.cellsOf 5 = 1 from by kernel_rfl] at t7
  have u7 : DataW.trod enc Tryd.prog w 0 (fun _ => true) true m7 5 [c7] = some y7 := t7
  obtain ⟨m8, y8, g8⟩ := open_fld Tryd.underlying36 h 8 _ rfl
  have t8 : DataW.trod enc Tryd.prog w 0 (fun _ => true) true m8 5 (([c0, c1, c2, c3, c4, c5, c6, c7, c8, c9, c10].drop 8).take (Tryd.prog.cellsOf 5)) = some y8 := g8
  rw [show Tryd.prog.cellsOf 5 = 1 from by kernel_rfl] at t8
  have u8 : DataW.trod enc Tryd.prog w 0 (fun _ => true) true m8 5 [c8] = some y8 := t8
  obtain ⟨m9, y9, g9⟩ := open_fld Tryd.underlying36 h 9 _ rfl
  have t9 : DataW.trod enc Tryd.prog w 0 (fun _ => true) true m9 33 (([c0, c1, c2, c3, c4, c5, c6, c7, c8, c9, c10].drop 9).take (Tryd.prog.cellsOf 33)) = some y9 := g9
  rw [show Tryd.prog.cellsOf 33 = 1 from by kernel_rfl] at t9
  have u9 : DataW.trod enc Tryd.prog w 0 (fun _ => true) true m9 33 [c9] = some y9 := t9
  obtain ⟨m10, y10, g10⟩ := open_fld Tryd.underlying36 h 10 _ rfl
  have t10 : DataW.trod enc Tryd.prog w 0 (fun _ => true) true m10 34 (([c0, c1, c2, c3, c4, c5, c6, c7, c8, c9, c10].drop 10).take (Tryd.prog.cellsOf 34)) = some y10 := g10
  rw [show Tryd.prog.cellsOf 34 = 1 from by kernel_rfl] at t10
  have u10 : DataW.trod enc Tryd.prog w 0 (fun _ => true) true m10 34 [c10] = some y10 := t10
  obtain ⟨K, e0, x0, w0⟩ := DataW.trod_int Tryd.underlying3 u0
  obtain rfl : c0 = .int .i64 K := by simpa using e0
  obtain ⟨I, e1, x1, w1⟩ := DataW.trod_int Tryd.underlying33 u1
  obtain rfl : c1 = .int .u32 I := by simpa using e1
  obtain ⟨X, e2, x2⟩ := DataW.trod_bool Tryd.underlying4 u2
  obtain rfl : c2 = .bool X := by simpa using e2
  obtain ⟨R, e3, x3⟩ := DataW.trod_bool Tryd.underlying4 u3
  obtain rfl : c3 = .bool R := by simpa using e3
  obtain ⟨B, e4, x4⟩ := DataW.trod_bool Tryd.underlying4 u4
  obtain rfl : c4 = .bool B := by simpa using e4
  obtain ⟨E, e5, x5⟩ := DataW.trod_bool Tryd.underlying4 u5
  obtain rfl : c5 = .bool E := by simpa using e5
  obtain ⟨S, e6, x6⟩ := DataW.trod_bool Tryd.underlying4 u6
  obtain rfl : c6 = .bool S := by simpa using e6
  obtain ⟨D, e7, x7, w7⟩ := DataW.trod_int Tryd.underlying5 u7
  obtain rfl : c7 = .int .u8 D := by simpa using e7
  obtain ⟨V, e8, x8, w8⟩ := DataW.trod_int Tryd.underlying5 u8
  obtain rfl : c8 = .int .u8 V := by simpa using e8
  obtain ⟨A, e9, x9, w9⟩ := DataW.trod_int Tryd.underlying33 u9
  obtain rfl : c9 = .int .u32 A := by simpa using e9
  obtain ⟨a, cap, l, e10, hb, hnn⟩ := bytes_open u10
  subst e10
  exact ⟨⟨K, I, X, R, B, E, S, D, V, A⟩, l, a, cap, rfl, wd_of w1 w7 w8 w9, w0, hb, hnn⟩

/-- The slice value with this address and this capacity reads as these frames. -/
structure FrsAt (w : World) (a : Option Addr) (cap : Nat) (fs : List (Hd × List Nat)) : Prop where
  hcap : fs.length ≤ cap
  hmax : cap ≤ maxLen
  hcells : 0 < fs.length → ∃ b o, a = some ⟨b, o, none⟩ ∧ ∀ j, j < fs.length → ∃ a' c', (∀ i u, ((fs.getD j dF).1.cs (.slice a' (fs.getD j dF).2.length c')).toList[i]? = some u → w.cell? ⟨b, o + j * 11 + i, none⟩ = some u) ∧ WdX (fs.getD j dF).1 ∧ (Lit.int .i64 (fs.getD j dF).1.K).wf = true ∧ Bs w a' c' (fs.getD j dF).2 ∧ (a' = none → c' = 0)
theorem FrsAt.nil (w : World) : FrsAt w none 0 [] := ⟨Nat.le_refl _, by simp [maxLen], by simp⟩
theorem FrsAt.len {w : World} {a : Option Addr} {cap : Nat} {fs : List (Hd × List Nat)} (h : FrsAt w a cap fs) : fs.length ≤ 9223372036854775807 := by
  have h1 := h.hcap
  have h2 := h.hmax
  unfold maxLen at h2
  omega
theorem FrsAt.below {w w' : World} {a : Option Addr} {cap : Nat} {fs : List (Hd × List Nat)} (h : FrsAt w a cap fs) (hb : Nb w w') : FrsAt w' a cap fs := by
  refine ⟨h.hcap, h.hmax, fun hl => ?_⟩
  obtain ⟨b, o, ha, hc⟩ := h.hcells hl
  refine ⟨b, o, ha, fun j hj => ?_⟩
  obtain ⟨a', c', h1, h2, h3, h4, h5⟩ := hc j hj
  exact ⟨a', c', fun i u hu => by
    have := h1 i u hu
    rw [hb.cell (p := ⟨b, o + j * 11 + i, none⟩) (World.block_lt_of_cell? _ _ this)]
    exact this, h2, h3, h4.below hb, h5⟩
/-- The cells of one of them. -/
theorem FrsAt.at {w : World} {b o cap : Nat} {fs : List (Hd × List Nat)} (h : FrsAt w (some ⟨b, o, none⟩) cap fs) {j : Nat} (hj : j < fs.length) {K I : Int} {X R B E S : Bool} {D V A : Int} {l : List Nat} (hf : fs.getD j dF = (⟨K, I, X, R, B, E, S, D, V, A⟩, l)) :
    ∃ a' c', (w.cell? ⟨b, o + j * 11, none⟩ = some (.int .i64 K) ∧ w.cell? ⟨b, o + j * 11 + 1, none⟩ = some (.int .u32 I) ∧ w.cell? ⟨b, o + j * 11 + 2, none⟩ = some (.bool X) ∧ w.cell? ⟨b, o + j * 11 + 3, none⟩ = some (.bool R) ∧ w.cell? ⟨b, o + j * 11 + 4, none⟩ = some (.bool B) ∧ w.cell? ⟨b, o + j * 11 + 5, none⟩ = some (.bool E) ∧ w.cell? ⟨b, o + j * 11 + 6, none⟩ = some (.bool S) ∧ w.cell? ⟨b, o + j * 11 + 7, none⟩ = some (.int .u8 D) ∧ w.cell? ⟨b, o + j * 11 + 8, none⟩ = some (.int .u8 V) ∧ w.cell? ⟨b, o + j * 11 + 9, none⟩ = some (.int .u32 A) ∧ w.cell? ⟨b, o + j * 11 + 10, none⟩ = some (.slice a' l.length c')) ∧
      WdX ⟨K, I, X, R, B, E, S, D, V, A⟩ ∧ (Lit.int .i64 K).wf = true ∧ Bs w a' c' l ∧ (a' = none → c' = 0) := by
  obtain ⟨b', o', e, hc⟩ := h.hcells (by omega)
  simp only [Option.some.injEq, Addr.mk.injEq, and_true] at e
  obtain ⟨rfl, rfl⟩ := e
  obtain ⟨a', c', h1, h2, h3, h4, h5⟩ := hc j hj
  rw [hf] at h1 h2 h3 h4
  exact ⟨a', c', ⟨h1 0 _ rfl, h1 1 _ rfl, h1 2 _ rfl, h1 3 _ rfl, h1 4 _ rfl, h1 5 _ rfl, h1 6 _ rfl, h1 7 _ rfl, h1 8 _ rfl, h1 9 _ rfl, h1 10 _ rfl⟩, h2, h3, h4, h5⟩

set_option maxHeartbeats 800000 in
theorem frames_open {H : Type} {enc : TypeId × Value → H} {w : World} {fuel : Nat} {v : Value} {y : DataW H × List MemPlace}
    (h : DataW.trod enc Tryd.prog w 0 (fun _ => true) true fuel 30 [v] = some y) :
    ∃ a cap fs, v = .slice a (List.length fs) cap ∧ FrsAt w a cap fs ∧ (a = none → cap = 0) := by
  rcases Go.Deep.open_slice Tryd.underlying30 h with ⟨hcs, _⟩ | ⟨a, len, cap, m, n, D, Pl, hcs, _, hl, hm, hmm, _, hx⟩
  · exact ⟨none, 0, [], by simpa using hcs, FrsAt.nil w, fun _ => rfl⟩
  rw [show Tryd.prog.cellsOf 36 = 11 from by kernel_rfl] at hx
  have hle : len ≤ m := by rw [hmm]; split <;> omega
  have hk : ∀ j, j < len → ∃ p : Hd × List Nat, ∃ a' c', (∀ i u, (p.1.cs (.slice a' p.2.length c')).toList[i]? = some u → w.cell? ((a.add (j * 11)).add i) = some u) ∧ WdX p.1 ∧ (Lit.int .i64 p.1.K).wf = true ∧ Bs w a' c' p.2 ∧ (a' = none → c' = 0) := by
    intro j hj
    obtain ⟨cs, h1, h2⟩ := hx j (by omega)
    obtain ⟨_, hlen, hcell⟩ := World.cells?_some h1
    obtain ⟨f, l, a', c', rfl, hw, hK, hb, hnn⟩ := frame_open hlen h2
    refine ⟨(f, l), a', c', fun i u hu => ?_, hw, hK, hb, hnn⟩
    have hi : i < 11 := by rw [← hlen]; exact (List.getElem?_eq_some_iff.1 hu).1
    rw [hcell i hi]
    exact hu
  haveI : Inhabited (Hd × List Nat) := ⟨dF⟩
  obtain ⟨g, hg⟩ := Go.Deep.choose_lt hk
  refine ⟨some a, cap, (List.range len).map g, by simpa using hcs, ⟨by simpa using hl, hm, fun h0 => ?_⟩, fun h => by cases h⟩
  simp only [List.length_map, List.length_range] at h0 ⊢
  obtain ⟨b, o, s⟩ := a
  have hs : s = none := by
    obtain ⟨a', c', h1, _⟩ := hg 0 h0
    have := h1 0 _ rfl
    simpa [Addr.add] using World.cell?_spot this
  subst hs
  refine ⟨b, o, rfl, fun j hj => ?_⟩
  have e : ((List.range len).map g).getD j dF = g j := by simp [List.getD, hj]
  rw [e]
  obtain ⟨a', c', h1, h2, h3, h4, h5⟩ := hg j hj
  refine ⟨a', c', fun i u hu => ?_, h2, h3, h4, h5⟩
  have := h1 i u hu
  rwa [Addr.add_lit, Addr.add_lit] at this
end Go.Proofs.YtlmbggmamemmjaaDoor
