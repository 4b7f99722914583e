
/- Rows of rules in memory: that came in, read, appended to, stored into. No conditions. -/
import Derived.Test.YtaohmgklhecjbaaDoorFlP
import Derived.Test.YtaohmgklhecjbaaDoorGa
import Derived.Deep.Slices
import Derived.Deep.MidRow
namespace Go.Proofs.YtaohmgklhecjbaaDoor
set_option linter.unusedVariables false
set_option linter.unusedSimpArgs false
open Go.RowKit Go.ChangeShapes Go.WideShapes

/-- The slice value with this address and this capacity reads as these rules. -/
structure Rls (w : World) (a : Option Addr) (cap : Nat) (L : List Rl) : Prop where
  hcap : L.length ≤ cap
  hmax : cap ≤ maxLen
  hcells : 0 < L.length → ∃ b o, a = some ⟨b, o, none⟩ ∧ ∀ j, j < L.length → (∀ i u, (L.getD j dRl).cs[i]? = some u → w.cell? ⟨b, o + j * 10 + i, none⟩ = some u)
  wd : ∀ r ∈ L, WdR r
theorem Rls.nil (w : World) : Rls w none 0 [] := ⟨Nat.le_refl _, by simp [maxLen], by simp, by simp⟩
theorem Rls.len {w : World} {a : Option Addr} {cap : Nat} {L : List Rl} (h : Rls w a cap L) : L.length ≤ 9223372036854775807 := by
  have h1 := h.hcap
  have h2 := h.hmax
  unfold maxLen at h2
  omega
theorem Rls.below {w w' : World} {a : Option Addr} {cap : Nat} {L : List Rl} (h : Rls w a cap L) (hb : Nb w w') : Rls w' a cap L := by
  refine ⟨h.hcap, h.hmax, fun hl => ?_, h.wd⟩
  obtain ⟨b, o, ha, hc⟩ := h.hcells hl
  refine ⟨b, o, ha, fun j hj i u hu => ?_⟩
  have := hc j hj i u hu
  rw [hb.cell (p := ⟨b, o + j * 10 + i, none⟩) (World.block_lt_of_cell? _ _ this)]
  exact this
theorem Rl.mem {L : List Rl} {j : Nat} (hj : j < L.length) : L.getD j dRl ∈ L := by
  rw [show L.getD j dRl = L[j] by simp [List.getD, hj]]
  exact List.getElem_mem hj
/-- The cells of one of them. -/
theorem Rls.at {w : World} {b o cap : Nat} {L : List Rl} (h : Rls w (some ⟨b, o, none⟩) cap L) {j : Nat} (hj : j < L.length) {r : Rl} (hr : L.getD j dRl = r) :
    w.cell? ⟨b, o + j * 10, none⟩ = some (.int .i64 r.K) ∧ w.cell? ⟨b, o + j * 10 + 1, none⟩ = some (.int .u32 r.I) ∧ w.cell? ⟨b, o + j * 10 + 2, none⟩ = some (.int .u32 r.IM) ∧ w.cell? ⟨b, o + j * 10 + 3, none⟩ = some (.int .u8 r.S) ∧ w.cell? ⟨b, o + j * 10 + 4, none⟩ = some (.int .u8 r.SM) ∧
    w.cell? ⟨b, o + j * 10 + 5, none⟩ = some (.int .u8 r.V) ∧ w.cell? ⟨b, o + j * 10 + 6, none⟩ = some (.int .u8 r.VM) ∧ w.cell? ⟨b, o + j * 10 + 7, none⟩ = some (.int .u32 r.A) ∧ w.cell? ⟨b, o + j * 10 + 8, none⟩ = some (.int .u32 r.AM) ∧ w.cell? ⟨b, o + j * 10 + 9, none⟩ = some (.bool r.N) := by
  obtain ⟨b', o', e, hc⟩ := h.hcells (by omega)
  simp only [Option.some.injEq, Addr.mk.injEq, and_true] at e
  obtain ⟨rfl, rfl⟩ := e
  have h1 := hc j hj
  rw [hr] at h1
  exact ⟨h1 0 _ rfl, h1 1 _ rfl, h1 2 _ rfl, h1 3 _ rfl, h1 4 _ rfl, h1 5 _ rfl, h1 6 _ rfl, h1 7 _ rfl, h1 8 _ rfl, h1 9 _ rfl⟩
theorem Rls.addr {w : World} {a : Option Addr} {cap : Nat} {L : List Rl} (h : Rls w a cap L) (hl : 0 < L.length) : ∃ b o, a = some ⟨b, o, none⟩ := by
  obtain ⟨b, o, e, _⟩ := h.hcells hl
  exact ⟨b, o, e⟩

/-! What came in. -/
theorem list10 {α : Type} {cs : List α} (h : cs.length = 10) : ∃ c0 c1 c2 c3 c4 c5 c6 c7 c8 c9, cs = [c0, c1, c2, c3, c4, c5, c6, c7, c8, c9] := by
  match cs, h with
  | [c0, c1, c2, c3, c4, c5, c6, c7, c8, c9], _ => exact ⟨c0, c1, c2, c3, c4, c5, c6, c7, c8, c9, rfl⟩

set_option maxHeartbeats 1600000 in
theorem rule_open {H : Type} {enc : TypeId × Value → H} {w : World} {fuel : Nat} {cs : List Value} {y : DataW H × List MemPlace} (hn : cs.length = 10)
    (h : DataW.trod enc Tryd.prog w 0 (fun _ => true) true fuel 42 cs = some y) : ∃ r : Rl, cs = r.cs ∧ WdR r := by
  obtain ⟨c0, c1, c2, c3, c4, c5, c6, c7, c8, c9, rfl⟩ := list10 hn
  obtain ⟨m0, y0, g0⟩ := open_fld Tryd.underlying42 h 0 _ rfl
  have t0 : DataW.trod enc Tryd.prog w 0 (fun _ => true) true m0 3 (([c0, c1, c2, c3, c4, c5, c6, c7, c8, c9].drop 0).take (Tryd.prog.cellsOf 3)) = some y0 := g0
  rw [show Tryd.prog.cellsOf 3 = 1 from by kernel_rfl] at t0
  have u0 : DataW.trod enc Tryd.prog w 0 (fun _ => true) true m0 3 [c0] = some y0 := t0
  obtain ⟨m1, y1, g1⟩ := open_fld Tryd.underlying42 h 1 _ rfl
  have t1 : DataW.trod enc Tryd.prog w 0 (fun _ => true) true m1 25 (([c0, c1, c2, c3, c4, c5, c6, c7, c8, c9].drop 1).take (Tryd.prog.cellsOf 25)) = some y1 := g1
  rw [show Tryd.prog.cellsOf 25 = 1 from by kernel_rfl] at t1
  have u1 : DataW.trod enc Tryd.prog w 0 (fun _ => true) true m1 25 [c1] = some y1 := t1
  obtain ⟨m2, y2, g2⟩ := open_fld Tryd.underlying42 h 2 _ rfl
  have t2 : DataW.trod enc Tryd.prog w 0 (fun _ => true) true m2 25 (([c0, c1, c2, c3, c4, c5, c6, c7, c8, c9].drop 2).take (Tryd.prog.cellsOf 25)) = some y2 := g2
  rw [show Tryd.prog.cellsOf 25 = 1 from by kernel_rfl] at t2
  have u2 : DataW.trod enc Tryd.prog w 0 (fun _ => true) true m2 25 [c2] = some y2 := t2
  obtain ⟨m3, y3, g3⟩ := open_fld Tryd.underlying42 h 3 _ rfl
  have t3 : DataW.trod enc Tryd.prog w 0 (fun _ => true) true m3 5 (([c0, c1, c2, c3, c4, c5, c6, c7, c8, c9].drop 3).take (Tryd.prog.cellsOf 5)) = some y3 := g3
  rw [show Tryd.prog.cellsOf 5 = 1 from by kernel_rfl] at t3
  have u3 : DataW.trod enc Tryd.prog w 0 (fun _ => true) true m3 5 [c3] = some y3 := t3
  obtain ⟨m4, y4, g4⟩ := open_fld Tryd.underlying42 h 4 _ rfl
  have t4 : DataW.trod enc Tryd.prog w 0 (fun _ => true) true m4 5 (([c0, c1, c2, c3, c4, c5, c6, c7, c8, c9].drop 4).take (Tryd.prog.cellsOf 5)) = some y4 := g4
  rw [show Tryd.prog.cellsOf 5 = 1 from by kernel_rfl] at t4
  have u4 : DataW.trod enc Tryd.prog w 0 (fun _ => true) true m4 5 [c4] = some y4 := t4
  obtain ⟨m5, y5, g5⟩ := open_fld Tryd.underlying42 h 5 _ rfl
  have t5 : DataW.trod enc Tryd.prog w 0 (fun _ => true) true m5 5 (([c0, c1, c2, c3, c4, c5, c6, c7, c8, c9].drop 5).take (Tryd.prog.cellsOf 5)) = some y5 := g5
  rw [show Tryd.prog.cellsOf 5 = 1 from by kernel_rfl] at t5
  have u5 : DataW.trod enc Tryd.prog w 0 (fun _ => true) true m5 5 [c5] = some y5 := t5
  obtain ⟨m6, y6, g6⟩ := open_fld Tryd.underlying42 h 6 _ rfl
  have t6 : DataW.trod enc Tryd.prog w 0 (fun _ => true) true m6 5 (([c0, c1, c2, c3, c4, c5, c6, c7, c8, c9].drop 6).take (Tryd.prog.cellsOf 5)) = some y6 := g6
  rw [show Tryd.prog.cellsOf 5 = 1 from by kernel_rfl] at t6
  have u6 : DataW.trod enc Tryd.prog w 0 (fun _ => true) true m6 5 [c6] = some y6 := t6
  obtain ⟨m7, y7, g7⟩ := open_fld Tryd.underlying42 h 7 _ rfl
  have t7 : DataW.trod enc Tryd.prog w 0 (fun _ => true) true m7 25 (([c0, c1, c2, c3, c4, c5, c6, c7, c8, c9].drop 7).take (Tryd.prog.cellsOf 25)) = some y7 := g7
  rw [show Tryd.prog.cellsOf 25 = 1 from by kernel_rfl] at t7
  have u7 : DataW.trod enc Tryd.prog w 0 (fun _ => true) true m7 25 [c7] = some y7 := t7
  obtain ⟨m8, y8, g8⟩ := open_fld Tryd.underlying42 h 8 _ rfl
  have t8 : DataW.trod enc Tryd.prog w 0 (fun _ => true) true m8 25 (([c0, c1, c2, c3, c4, c5, c6, c7, c8, c9].drop 8).take (Tryd.prog.cellsOf 25)) = some y8 := g8
  rw [show Tryd.prog.cellsOf 25 = 1 from by kernel_rfl] at t8
  have u8 : DataW.trod enc Tryd.prog w 0 (fun _ => true) true m8 25 [c8] = some y8 := t8
  obtain ⟨m9, y9, g9⟩ := open_fld Tryd.underlying42 h 9 _ rfl
  have t9 : DataW.trod enc Tryd.prog w 0 (fun _ => true) true m9 4 (([c0, c1, c2, c3, c4, c5, c6, c7, c8, c9].drop 9).take (Tryd.prog.cellsOf 4)) = some y9 := g9
  rw [show Tryd.prog.cellsOf 4 = 1 from by kernel_rfl] at t9
  have u9 : DataW.trod enc Tryd.prog w 0 (fun _ => true) true m9 4 [c9] = some y9 := t9
  obtain ⟨K0, e0, x0, w0⟩ := DataW.trod_int Tryd.underlying3 u0
  obtain rfl : c0 = .int .i64 K0 := by simpa using e0
  obtain ⟨K1, e1, x1, w1⟩ := DataW.trod_int Tryd.underlying25 u1
  obtain rfl : c1 = .int .u32 K1 := by simpa using e1
  obtain ⟨K2, e2, x2, w2⟩ := DataW.trod_int Tryd.underlying25 u2
  obtain rfl : c2 = .int .u32 K2 := by simpa using e2
  obtain ⟨K3, e3, x3, w3⟩ := DataW.trod_int Tryd.underlying5 u3
  obtain rfl : c3 = .int .u8 K3 := by simpa using e3
  obtain ⟨K4, e4, x4, w4⟩ := DataW.trod_int Tryd.underlying5 u4
  obtain rfl : c4 = .int .u8 K4 := by simpa using e4
  obtain ⟨K5, e5, x5, w5⟩ := DataW.trod_int Tryd.underlying5 u5
  obtain rfl : c5 = .int .u8 K5 := by simpa using e5
  obtain ⟨K6, e6, x6, w6⟩ := DataW.trod_int Tryd.underlying5 u6
  obtain rfl : c6 = .int .u8 K6 := by simpa using e6
  obtain ⟨K7, e7, x7, w7⟩ := DataW.trod_int Tryd.underlying25 u7
  obtain rfl : c7 = .int .u32 K7 := by simpa using e7
  obtain ⟨K8, e8, x8, w8⟩ := DataW.trod_int Tryd.underlying25 u8
  obtain rfl : c8 = .int .u32 K8 := by simpa using e8
  obtain ⟨N, e9, x9⟩ := DataW.trod_bool Tryd.underlying4 u9
  obtain rfl : c9 = .bool N := by simpa using e9
  exact ⟨⟨K0, K1, K2, K3, K4, K5, K6, K7, K8, N⟩, rfl, ⟨w0, wf32 w1, wf32 w2, wf8 w3, wf8 w4, wf8 w5, wf8 w6, wf32 w7, wf32 w8⟩⟩

set_option maxHeartbeats 800000 in
theorem rules_open {H : Type} {enc : TypeId × Value → H} {w : World} {fuel : Nat} {v : Value} {y : DataW H × List MemPlace}
    (h : DataW.trod enc Tryd.prog w 0 (fun _ => true) true fuel 22 [v] = some y) (hr : (y.1.weights Tryd.prog 22).all (· ≤ reachBytes) = true) :
    ∃ a cap L, v = .slice a (List.length L) cap ∧ Rls w a cap L ∧ (a = none → cap = 0) ∧ cap * 32 ≤ 140737488351232 := by
  rcases Go.Deep.open_slice Tryd.underlying22 h with ⟨hcs, _⟩ | ⟨a, len, cap, m, n, D, Pl, hcs, _, hl, hm, hmm, hy, hx⟩
  · exact ⟨none, 0, [], by simpa using hcs, Rls.nil w, fun _ => rfl, by omega⟩
  have hcap : cap * 32 ≤ 140737488351232 := by
    subst hy
    simp only [DataW.weights, Tryd.underlying22, List.all_cons, Bool.and_eq_true, show Tryd.prog.bytesOf 42 = 32 from by kernel_rfl, List.length_map, List.length_range, reachBytes] at hr
    have h1 := of_decide_eq_true hr.1
    rw [if_pos rfl] at hmm
    have h2 : len + (m - len) = cap := by omega
    rw [h2] at h1
    omega
  rw [show Tryd.prog.cellsOf 42 = 10 from by kernel_rfl] at hx
  have hle : len ≤ m := by rw [hmm]; split <;> omega
  have hk : ∀ j, j < len → ∃ r : Rl, (∀ i u, r.cs[i]? = some u → w.cell? ((a.add (j * 10)).add i) = some u) ∧ WdR r := by
    intro j hj
    obtain ⟨cs, h1, h2⟩ := hx j (by omega)
    obtain ⟨_, hlen, hcell⟩ := World.cells?_some h1
    obtain ⟨r, rfl, hw⟩ := rule_open hlen h2
    refine ⟨r, fun i u hu => ?_, hw⟩
    have hi : i < 10 := by rw [← hlen]; exact (List.getElem?_eq_some_iff.1 hu).1
    rw [hcell i hi]
    exact hu
  haveI : Inhabited Rl := ⟨dRl⟩
  obtain ⟨g, hg⟩ := Go.Deep.choose_lt hk
  refine ⟨some a, cap, (List.range len).map g, by simpa using hcs, ⟨by simpa using hl, hm, fun h0 => ?_, fun r hr => ?_⟩, (fun h => by cases h), hcap⟩
  · simp only [List.length_map, List.length_range] at h0 ⊢
    obtain ⟨b, o, s⟩ := a
    have hs : s = none := by
      obtain ⟨h1, _⟩ := hg 0 h0
      have := h1 0 _ rfl
      simpa [Addr.add] using World.cell?_spot this
    subst hs
    refine ⟨b, o, rfl, fun j hj => ?_⟩
    have e : ((List.range len).map g).getD j dRl = g j := by simp [List.getD, hj]
    rw [e]
    obtain ⟨h1, h2⟩ := hg j hj
    intro i u hu
    have := h1 i u hu
    rwa [Addr.add_lit, Addr.add_lit] at this
  · obtain ⟨j, hj, rfl⟩ := List.mem_map.1 hr
    exact (hg j (by simpa using hj)).2

/-! Rows of the own call. -/
theorem Rl.cs_len (r : Rl) : r.cs.length = 10 := rfl
theorem Rl.one (r : Rl) (u : Value) (hu : u ∈ r.cs) : u.oneCell' = true := by
  simp [Rl.cs] at hu
  rcases hu with rfl | rfl | rfl | rfl | rfl | rfl | rfl | rfl | rfl | rfl <;> rfl
def cellsL (L : List Rl) : List Value := L.flatMap Rl.cs
theorem cellsL_len (L : List Rl) : (cellsL L).length = L.length * 10 := by
  induction L with
  | nil => rfl
  | cons p L ih =>
    show (p.cs ++ cellsL L).length = _
    rw [List.length_append, Rl.cs_len, ih, List.length_cons]
    omega
theorem cellsL_app (l m : List Rl) : cellsL (l ++ m) = cellsL l ++ cellsL m := by simp [cellsL]
theorem cellsL_get (L : List Rl) : ∀ j, j < L.length → ∀ i, i < 10 → (cellsL L)[j * 10 + i]? = ((L.getD j dRl).cs)[i]? := by
  induction L with
  | nil => intro j h; simp at h
  | cons p L ih =>
    intro j h i hi
    have e : cellsL (p :: L) = p.cs ++ cellsL L := rfl
    rw [e]
    cases j with
    | zero =>
      rw [List.getElem?_append_left (by rw [Rl.cs_len]; omega), Nat.zero_mul, Nat.zero_add]
      rfl
    | succ j =>
      rw [List.getElem?_append_right (by rw [Rl.cs_len]; omega), Rl.cs_len, show (j + 1) * 10 + i - 10 = j * 10 + i by omega]
      exact ih j (by simpa using h) i hi
theorem cellsL_one (L : List Rl) (u : Value) (hu : u ∈ cellsL L) : u.oneCell' = true := by
  obtain ⟨p, hp, hm⟩ := List.mem_flatMap.1 hu
  exact Rl.one p u hm
/-- A row of one, that was just laid. -/
theorem Rls.lit {w : World} {g : Nat} {r : Rl} {t : TypeId} (hw : WdR r) (h : Blk w g r.ca t) : Rls w (some ⟨g, 0, none⟩) 1 [r] :=
  ⟨by simp, by simp [maxLen], fun _ => ⟨g, 0, rfl, fun j hj i u hu => by
    have hj0 : j = 0 := by simp at hj; omega
    subst hj0
    rw [h.cell]
    have e : 0 + 0 * 10 + i = i := by omega
    rw [e]
    simpa [Rl.ca, Rl.cs] using hu⟩, by simpa using hw⟩

theorem infoLR : (Tryd.prog.info? 44).map (fun i => (i.zero, i.size, i.bytes)) = some (some (.agg #[.int .i64 0, .int .u32 0, .int .u32 0, .int .u8 0, .int .u8 0, .int .u8 0, .int .u8 0, .int .u32 0, .int .u32 0, .bool false]), 10, 32) := by kernel_rfl
def OwnR (w : World) (v : Value) (L : List Rl) : Prop := w.ownsRow 0 44 10 v L.length (cellsL L) ∧ ∀ r ∈ L, WdR r
theorem OwnR.nil (w : World) : OwnR w (.slice none 0 0) [] := ⟨World.ownsRow_nil _ _ _ _, by simp⟩
theorem OwnR.keep {F : Nat → Prop} {w w' : World} {v : Value} {L : List Rl} (h : OwnR w v L) (hk : Kp F w w') (hn : ∀ g, v.ownBlock = some g → ¬ F g) : OwnR w' v L := by
  obtain ⟨⟨h1, h2⟩, h3⟩ := h
  refine ⟨⟨h1, ?_⟩, h3⟩
  rcases h2 with h2 | ⟨g, cap, cur, rfl, hb, hg, r⟩
  · exact .inl h2
  · exact .inr ⟨g, cap, cur, rfl, hb, (hk.block g (Array.getElem?_eq_some_iff.1 hg).1 (hn g rfl)).trans hg, r⟩
theorem OwnR.nb {w w' : World} {v : Value} {L : List Rl} (h : OwnR w v L) (hb : Nb w w') : OwnR w' v L := h.keep (F := fun _ => False) (Kp.ofNb hb) (by simp)
theorem OwnR.lt {w : World} {v : Value} {L : List Rl} (h : OwnR w v L) {g : Nat} (hg : v.ownBlock = some g) : g < w.heap.size := (World.ownsRow.lt h.1 g hg).2
theorem OwnR.shape {w : World} {v : Value} {L : List Rl} (h : OwnR w v L) : ∃ a cap, v = .slice a L.length cap ∧ (0 < L.length → ∃ g, a = some ⟨g, 0, none⟩) ∧ L.length ≤ cap ∧ cap ≤ maxLen ∧ (a = none → cap = 0) := by
  rcases h.1.2 with ⟨rfl, h2⟩ | ⟨g, cap, cur, rfl, hb, hg, hn, hc, r⟩
  · exact ⟨none, 0, by rw [h2], fun h => by omega, by omega, by simp [maxLen], fun _ => rfl⟩
  · exact ⟨_, cap, rfl, fun _ => ⟨g, rfl⟩, hn, hc, fun h => by cases h⟩
/-- Block g holds so many, with so much room. -/
def RwR (w : World) (g cap : Nat) (L : List Rl) : Prop := (∃ cs, Blk w g cs 44 ∧ cs.size = cap * 10 ∧ L.length ≤ cap ∧ cap ≤ maxLen ∧ ∀ j, j < L.length → ∀ i, i < 10 → cs[j * 10 + i]? = ((L.getD j dRl).cs)[i]?) ∧ ∀ r ∈ L, WdR r
theorem OwnR.rw {w : World} {g n cap : Nat} {L : List Rl} (h : OwnR w (.slice (some ⟨g, 0, none⟩) n cap) L) : n = L.length ∧ RwR w g cap L := by
  rcases h.1.2 with ⟨h0, h2⟩ | ⟨g', cap', cur, hv, hb0, hg, hn, hc, hs, ht⟩
  · cases h0
  · simp only [Value.slice.injEq, Option.some.injEq, Addr.mk.injEq, and_true] at hv
    obtain ⟨rfl, rfl, rfl⟩ := hv
    refine ⟨rfl, ⟨cur, hg, hs, hn, hc, fun j hj i hi => ?_⟩, h.2⟩
    rw [← cellsL_get L j hj i hi, ← ht, List.getElem?_take_of_lt (by omega), Array.getElem?_toList]
theorem RwR.own {w : World} {g cap : Nat} {L : List Rl} (h : RwR w g cap L) : OwnR w (.slice (some ⟨g, 0, none⟩) L.length cap) L := by
  obtain ⟨⟨cs, hb, hs, h1, h2, hc⟩, hw⟩ := h
  refine ⟨⟨cellsL_len L, .inr ⟨g, cap, cs, rfl, Nat.zero_le _, hb, h1, h2, hs, ?_⟩⟩, hw⟩
  apply List.ext_getElem?
  intro k
  by_cases hk : k < L.length * 10
  · rw [List.getElem?_take_of_lt hk, Array.getElem?_toList]
    have e : k = k / 10 * 10 + k % 10 := by omega
    rw [e, hc (k / 10) (by omega) (k % 10) (by omega), cellsL_get L (k / 10) (by omega) (k % 10) (by omega)]
  · rw [List.getElem?_take_eq_none (by omega), List.getElem?_eq_none (by rw [cellsL_len]; omega)]
theorem RwR.keep {F : Nat → Prop} {w w' : World} {g cap : Nat} {L : List Rl} (h : RwR w g cap L) (hk : Kp F w w') (hn : ¬ F g) : RwR w' g cap L := by
  obtain ⟨⟨cs, hb, h1⟩, hw⟩ := h
  exact ⟨⟨cs, hb.keep hk hn, h1⟩, hw⟩
theorem RwR.nb {w w' : World} {g cap : Nat} {L : List Rl} (h : RwR w g cap L) (hb : Nb w w') : RwR w' g cap L := h.keep (F := fun _ => False) (Kp.ofNb hb) (by simp)
theorem RwR.lt {w : World} {g cap : Nat} {L : List Rl} (h : RwR w g cap L) : g < w.heap.size := by
  obtain ⟨⟨cs, hb, _⟩, _⟩ := h
  exact hb.lt
theorem RwR.cell {w : World} {g cap : Nat} {L : List Rl} (h : RwR w g cap L) {j : Nat} (hj : j < L.length) {i : Nat} {u : Value} (hu : ((L.getD j dRl).cs)[i]? = some u) : w.cell? ⟨g, j * 10 + i, none⟩ = some u ∧ w.frozen? ⟨g, j * 10 + i, none⟩ = false := by
  obtain ⟨⟨cs, hb, _, _, _, hc⟩, _⟩ := h
  have hi : i < 10 := by
    have := (List.getElem?_eq_some_iff.1 hu).1
    rw [Rl.cs_len] at this
    exact this
  exact ⟨(hb.cell _).trans ((hc j hj i hi).trans hu), hb.frozen _⟩
/-- Fewer, and whatever lies behind them. -/
theorem RwR.less {w : World} {g cap : Nat} {L : List Rl} (h : RwR w g cap L) (n : Nat) : RwR w g cap (L.take n) := by
  obtain ⟨⟨cs, hb, h1, h2, h3, h4⟩, hw⟩ := h
  refine ⟨⟨cs, hb, h1, by rw [List.length_take]; omega, h3, fun j hj i hi => ?_⟩, fun r hr => hw r (List.mem_of_mem_take hr)⟩
  rw [List.length_take] at hj
  rw [show (L.take n).getD j dRl = L.getD j dRl by simp [List.getD, show j < n by omega]]
  exact h4 j (by omega) i hi
/-- One cell of one rule turned. -/
theorem RwR.set {w : World} {g cap : Nat} {L : List Rl} (h : RwR w g cap L) {j : Nat} (hj : j < L.length) {i : Nat} (hi : i < 10) (u : Value) (r : Rl) (hr : WdR r) (hc : ∀ k, k < 10 → r.cs[k]? = if k = i then some u else ((L.getD j dRl).cs)[k]?) : RwR (w.setCell ⟨g, j * 10 + i, none⟩ u) g cap (L.set j r) := by
  obtain ⟨⟨cs, hb, h1, h2, h3, h4⟩, hw⟩ := h
  refine ⟨⟨cs.setIfInBounds (j * 10 + i) u, hb.set _ u, by simpa using h1, by rw [List.length_set]; exact h2, h3, fun k hk q hq => ?_⟩, fun x hx => by rcases List.mem_or_eq_of_mem_set hx with h | rfl; exact hw x h; exact hr⟩
  rw [List.length_set] at hk
  by_cases hjk : j = k
  · subst hjk
    rw [show (L.set j r).getD j dRl = r by simp [List.getD, hj], hc q hq]
    by_cases hqi : q = i
    · subst hqi
      rw [if_pos rfl, Array.getElem?_setIfInBounds_self_of_lt (by omega)]
    · rw [if_neg hqi, Array.getElem?_setIfInBounds_ne (by omega), h4 j hk q hq]
  · rw [show (L.set j r).getD k dRl = L.getD k dRl by simp [List.getD, List.getElem?_set_ne hjk], Array.getElem?_setIfInBounds_ne (by omega), h4 k hk q hq]
theorem OwnR.rls {w : World} {a : Option Addr} {n cap : Nat} {L : List Rl} (h : OwnR w (.slice a n cap) L) : n = L.length ∧ Rls w a cap L := by
  obtain ⟨a', c', e, h1, h2, h3, _⟩ := h.shape
  simp only [Value.slice.injEq] at e
  obtain ⟨rfl, rfl, rfl⟩ := e
  refine ⟨rfl, h2, h3, fun hl => ?_, h.2⟩
  obtain ⟨g, rfl⟩ := h1 hl
  exact ⟨g, 0, rfl, fun j hj i u hu => by rw [Nat.zero_add]; exact (h.rw.2.cell hj hu).1⟩
/-- Some more. -/
theorem wpList_appR (w : World) {ops : Array Oper} {rest : List Oper} {o : Oper} {a : Act} {Q : Exit → Act → World → Prop}
    (hg : o.guard = none) (s x : Operand) (hop : o.op = Op.call { callee := Callee.builtin Builtin.append, args := #[s, x], argTypes := #[30, 30] })
    (v : Value) (L : List Rl) (hs : a.eval s = v) (hown : OwnR w v L)
    (ao : Option Addr) (m c : Nat) (M : List Rl) (hm : m = M.length) (hx : a.eval x = .slice ao m c) (hM : Rls w ao c M) (hnone : ao = none → c = 0) (b1 : (L.length + M.length) * 32 ≤ 140737488355328)
    (hK : ∀ v' w', OwnR w' v' (L ++ M) → Kp (fun k => v.ownBlock = some k) w w' → (∀ g, v'.ownBlock = some g → v.ownBlock = some g ∨ w.heap.size ≤ g) → wpList Tryd.prog ops Q rest (a.put o.dst v') w') :
    wpList Tryd.prog ops Q (o :: rest) a w := by
  obtain ⟨i0, hi, hz0, hz1, hz2⟩ := info_parts infoLR
  subst hm
  refine wpList_app w hg s x 30 hop 44 i0 (.agg #[.int .i64 0, .int .u32 0, .int .u32 0, .int .u8 0, .int .u8 0, .int .u8 0, .int .u8 0, .int .u32 0, .int .u32 0, .bool false]) 10 32 Tryd.underlying30 hi hz0 hz1 hz2 rfl (by decide) v L.length _ hs hown.1 ao M.length c (cellsL M) hx (cellsL_len M) (fun h => ?_) (fun ad had j u hu => ?_) (fun u hu => cellsL_one M u hu) (by unfold maxLen; omega) b1 ?_
  · have := hnone h
    have := hM.hcap
    omega
  · have hj : j < M.length * 10 := by
      have := (List.getElem?_eq_some_iff.1 hu).1
      rwa [cellsL_len] at this
    obtain ⟨b, o2, e, hc⟩ := hM.hcells (by omega)
    rw [e] at had
    obtain rfl := Option.some.inj had
    have e2 : j = j / 10 * 10 + j % 10 := by omega
    rw [e2, cellsL_get M (j / 10) (by omega) (j % 10) (by omega)] at hu
    rw [Addr.add_lit, show o2 + j = o2 + j / 10 * 10 + j % 10 by omega]
    exact hc (j / 10) (by omega) (j % 10) u hu
  · intro v' w' ho hgr hbl
    refine hK v' w' ⟨?_, ?_⟩ (Kp.grown hgr (fun k hk => hk)) hbl
    · rw [List.length_append, cellsL_app]
      exact ho
    · intro r hr
      rcases List.mem_append.1 hr with h | h
      · exact hown.2 r h
      · exact hM.wd r h
theorem infoLG : (Tryd.prog.info? 42).map (fun i => (i.zero, i.size, i.bytes)) = some (some (.agg #[.int .i64 0, .int .u32 0, .int .u32 0, .int .u8 0, .int .u8 0, .int .u8 0, .int .u8 0, .int .u32 0, .int .u32 0, .bool false]), 10, 32) := by kernel_rfl
def OwnG (w : World) (v : Value) (L : List Rl) : Prop := w.ownsRow 0 42 10 v L.length (cellsL L) ∧ ∀ r ∈ L, WdR r
theorem OwnG.nil (w : World) : OwnG w (.slice none 0 0) [] := ⟨World.ownsRow_nil _ _ _ _, by simp⟩
theorem OwnG.keep {F : Nat → Prop} {w w' : World} {v : Value} {L : List Rl} (h : OwnG w v L) (hk : Kp F w w') (hn : ∀ g, v.ownBlock = some g → ¬ F g) : OwnG w' v L := by
  obtain ⟨⟨h1, h2⟩, h3⟩ := h
  refine ⟨⟨h1, ?_⟩, h3⟩
  rcases h2 with h2 | ⟨g, cap, cur, rfl, hb, hg, r⟩
  · exact .inl h2
  · exact .inr ⟨g, cap, cur, rfl, hb, (hk.block g (Array.getElem?_eq_some_iff.1 hg).1 (hn g rfl)).trans hg, r⟩
theorem OwnG.nb {w w' : World} {v : Value} {L : List Rl} (h : OwnG w v L) (hb : Nb w w') : OwnG w' v L := h.keep (F := fun _ => False) (Kp.ofNb hb) (by simp)
theorem OwnG.lt {w : World} {v : Value} {L : List Rl} (h : OwnG w v L) {g : Nat} (hg : v.ownBlock = some g) : g < w.heap.size := (World.ownsRow.lt h.1 g hg).2
theorem OwnG.shape {w : World} {v : Value} {L : List Rl} (h : OwnG w v L) : ∃ a cap, v = .slice a L.length cap ∧ (0 < L.length → ∃ g, a = some ⟨g, 0, none⟩) ∧ L.length ≤ cap ∧ cap ≤ maxLen ∧ (a = none → cap = 0) := by
  rcases h.1.2 with ⟨rfl, h2⟩ | ⟨g, cap, cur, rfl, hb, hg, hn, hc, r⟩
  · exact ⟨none, 0, by rw [h2], fun h => by omega, by omega, by simp [maxLen], fun _ => rfl⟩
  · exact ⟨_, cap, rfl, fun _ => ⟨g, rfl⟩, hn, hc, fun h => by cases h⟩
/-- Block g holds so many, with so much room. -/
def RwG (w : World) (g cap : Nat) (L : List Rl) : Prop := (∃ cs, Blk w g cs 42 ∧ cs.size = cap * 10 ∧ L.length ≤ cap ∧ cap ≤ maxLen ∧ ∀ j, j < L.length → ∀ i, i < 10 → cs[j * 10 + i]? = ((L.getD j dRl).cs)[i]?) ∧ ∀ r ∈ L, WdR r
theorem OwnG.rw {w : World} {g n cap : Nat} {L : List Rl} (h : OwnG w (.slice (some ⟨g, 0, none⟩) n cap) L) : n = L.length ∧ RwG w g cap L := by
  rcases h.1.2 with ⟨h0, h2⟩ | ⟨g', cap', cur, hv, hb0, hg, hn, hc, hs, ht⟩
  · cases h0
  · simp only [Value.slice.injEq, Option.some.injEq, Addr.mk.injEq, and_true] at hv
    obtain ⟨rfl, rfl, rfl⟩ := hv
    refine ⟨rfl, ⟨cur, hg, hs, hn, hc, fun j hj i hi => ?_⟩, h.2⟩
    rw [← cellsL_get L j hj i hi, ← ht, List.getElem?_take_of_lt (by omega), Array.getElem?_toList]
theorem RwG.own {w : World} {g cap : Nat} {L : List Rl} (h : RwG w g cap L) : OwnG w (.slice (some ⟨g, 0, none⟩) L.length cap) L := by
  obtain ⟨⟨cs, hb, hs, h1, h2, hc⟩, hw⟩ := h
  refine ⟨⟨cellsL_len L, .inr ⟨g, cap, cs, rfl, Nat.zero_le _, hb, h1, h2, hs, ?_⟩⟩, hw⟩
  apply List.ext_getElem?
  intro k
  by_cases hk : k < L.length * 10
  · rw [List.getElem?_take_of_lt hk, Array.getElem?_toList]
    have e : k = k / 10 * 10 + k % 10 := by omega
    rw [e, hc (k / 10) (by omega) (k % 10) (by omega), cellsL_get L (k / 10) (by omega) (k % 10) (by omega)]
  · rw [List.getElem?_take_eq_none (by omega), List.getElem?_eq_none (by rw [cellsL_len]; omega)]
theorem RwG.keep {F : Nat → Prop} {w w' : World} {g cap : Nat} {L : List Rl} (h : RwG w g cap L) (hk : Kp F w w') (hn : ¬ F g) : RwG w' g cap L := by
  obtain ⟨⟨cs, hb, h1⟩, hw⟩ := h
  exact ⟨⟨cs, hb.keep hk hn, h1⟩, hw⟩
theorem RwG.nb {w w' : World} {g cap : Nat} {L : List Rl} (h : RwG w g cap L) (hb : Nb w w') : RwG w' g cap L := h.keep (F := fun _ => False) (Kp.ofNb hb) (by simp)
theorem RwG.lt {w : World} {g cap : Nat} {L : List Rl} (h : RwG w g cap L) : g < w.heap.size := by
  obtain ⟨⟨cs, hb, _⟩, _⟩ := h
  exact hb.lt
theorem RwG.cell {w : World} {g cap : Nat} {L : List Rl} (h : RwG w g cap L) {j : Nat} (hj : j < L.length) {i : Nat} {u : Value} (hu : ((L.getD j dRl).cs)[i]? = some u) : w.cell? ⟨g, j * 10 + i, none⟩ = some u ∧ w.frozen? ⟨g, j * 10 + i, none⟩ = false := by
  obtain ⟨⟨cs, hb, _, _, _, hc⟩, _⟩ := h
  have hi : i < 10 := by
    have := (List.getElem?_eq_some_iff.1 hu).1
    rw [Rl.cs_len] at this
    exact this
  exact ⟨(hb.cell _).trans ((hc j hj i hi).trans hu), hb.frozen _⟩
/-- Fewer, and whatever lies behind them. -/
theorem RwG.less {w : World} {g cap : Nat} {L : List Rl} (h : RwG w g cap L) (n : Nat) : RwG w g cap (L.take n) := by
  obtain ⟨⟨cs, hb, h1, h2, h3, h4⟩, hw⟩ := h
  refine ⟨⟨cs, hb, h1, by rw [List.length_take]; omega, h3, fun j hj i hi => ?_⟩, fun r hr => hw r (List.mem_of_mem_take hr)⟩
  rw [List.length_take] at hj
  rw [show (L.take n).getD j dRl = L.getD j dRl by simp [List.getD, show j < n by omega]]
  exact h4 j (by omega) i hi
/-- One cell of one rule turned. -/
theorem RwG.set {w : World} {g cap : Nat} {L : List Rl} (h : RwG w g cap L) {j : Nat} (hj : j < L.length) {i : Nat} (hi : i < 10) (u : Value) (r : Rl) (hr : WdR r) (hc : ∀ k, k < 10 → r.cs[k]? = if k = i then some u else ((L.getD j dRl).cs)[k]?) : RwG (w.setCell ⟨g, j * 10 + i, none⟩ u) g cap (L.set j r) := by
  obtain ⟨⟨cs, hb, h1, h2, h3, h4⟩, hw⟩ := h
  refine ⟨⟨cs.setIfInBounds (j * 10 + i) u, hb.set _ u, by simpa using h1, by rw [List.length_set]; exact h2, h3, fun k hk q hq => ?_⟩, fun x hx => by rcases List.mem_or_eq_of_mem_set hx with h | rfl; exact hw x h; exact hr⟩
  rw [List.length_set] at hk
  by_cases hjk : j = k
  · subst hjk
    rw [show (L.set j r).getD j dRl = r by simp [List.getD, hj], hc q hq]
    by_cases hqi : q = i
    · subst hqi
      rw [if_pos rfl, Array.getElem?_setIfInBounds_self_of_lt (by omega)]
    · rw [if_neg hqi, Array.getElem?_setIfInBounds_ne (by omega), h4 j hk q hq]
  · rw [show (L.set j r).getD k dRl = L.getD k dRl by simp [List.getD, List.getElem?_set_ne hjk], Array.getElem?_setIfInBounds_ne (by omega), h4 k hk q hq]
theorem OwnG.rls {w : World} {a : Option Addr} {n cap : Nat} {L : List Rl} (h : OwnG w (.slice a n cap) L) : n = L.length ∧ Rls w a cap L := by
  obtain ⟨a', c', e, h1, h2, h3, _⟩ := h.shape
  simp only [Value.slice.injEq] at e
  obtain ⟨rfl, rfl, rfl⟩ := e
  refine ⟨rfl, h2, h3, fun hl => ?_, h.2⟩
  obtain ⟨g, rfl⟩ := h1 hl
  exact ⟨g, 0, rfl, fun j hj i u hu => by rw [Nat.zero_add]; exact (h.rw.2.cell hj hu).1⟩
/-- Some more. -/
theorem wpList_appG (w : World) {ops : Array Oper} {rest : List Oper} {o : Oper} {a : Act} {Q : Exit → Act → World → Prop}
    (hg : o.guard = none) (s x : Operand) (hop : o.op = Op.call { callee := Callee.builtin Builtin.append, args := #[s, x], argTypes := #[22, 22] })
    (v : Value) (L : List Rl) (hs : a.eval s = v) (hown : OwnG w v L)
    (ao : Option Addr) (m c : Nat) (M : List Rl) (hm : m = M.length) (hx : a.eval x = .slice ao m c) (hM : Rls w ao c M) (hnone : ao = none → c = 0) (b1 : (L.length + M.length) * 32 ≤ 140737488355328)
    (hK : ∀ v' w', OwnG w' v' (L ++ M) → Kp (fun k => v.ownBlock = some k) w w' → (∀ g, v'.ownBlock = some g → v.ownBlock = some g ∨ w.heap.size ≤ g) → wpList Tryd.prog ops Q rest (a.put o.dst v') w') :
    wpList Tryd.prog ops Q (o :: rest) a w := by
  obtain ⟨i0, hi, hz0, hz1, hz2⟩ := info_parts infoLG
  subst hm
  refine wpList_app w hg s x 22 hop 42 i0 (.agg #[.int .i64 0, .int .u32 0, .int .u32 0, .int .u8 0, .int .u8 0, .int .u8 0, .int .u8 0, .int .u32 0, .int .u32 0, .bool false]) 10 32 Tryd.underlying22 hi hz0 hz1 hz2 rfl (by decide) v L.length _ hs hown.1 ao M.length c (cellsL M) hx (cellsL_len M) (fun h => ?_) (fun ad had j u hu => ?_) (fun u hu => cellsL_one M u hu) (by unfold maxLen; omega) b1 ?_
  · have := hnone h
    have := hM.hcap
    omega
  · have hj : j < M.length * 10 := by
      have := (List.getElem?_eq_some_iff.1 hu).1
      rwa [cellsL_len] at this
    obtain ⟨b, o2, e, hc⟩ := hM.hcells (by omega)
    rw [e] at had
    obtain rfl := Option.some.inj had
    have e2 : j = j / 10 * 10 + j % 10 := by omega
    rw [e2, cellsL_get M (j / 10) (by omega) (j % 10) (by omega)] at hu
    rw [Addr.add_lit, show o2 + j = o2 + j / 10 * 10 + j % 10 by omega]
    exact hc (j / 10) (by omega) (j % 10) u hu
  · intro v' w' ho hgr hbl
    refine hK v' w' ⟨?_, ?_⟩ (Kp.grown hgr (fun k hk => hk)) hbl
    · rw [List.length_append, cellsL_app]
      exact ho
    · intro r hr
      rcases List.mem_append.1 hr with h | h
      · exact hown.2 r h
      · exact hM.wd r h
end Go.Proofs.YtaohmgklhecjbaaDoor
