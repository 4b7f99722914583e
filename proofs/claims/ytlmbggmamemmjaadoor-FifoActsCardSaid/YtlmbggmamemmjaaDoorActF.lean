
/- What a slice of layer 16's acts is that came in. No conditions. -/
import Derived.Test.YtlmbggmamemmjaaDoorFrs
namespace Go.Proofs.YtlmbggmamemmjaaDoor
set_option linter.unusedVariables false
set_option linter.unusedSimpArgs false
open Go.RowKit Go.ChangeShapes Go.WideShapes

/-- An act on a fifo. -/
structure ActF where
  k : Int
  f : Hd
  l : List Nat
abbrev dAF : ActF := ⟨0, dF.1, dF.2⟩
def ActF.cs (x : ActF) (v : Value) : List Value := .int .i64 x.k :: (x.f.cs v).toList
structure ActF.Wd (x : ActF) : Prop where
  f : WdX x.f
  K : (Lit.int .i64 x.f.K).wf = true
  k : (Lit.int .i64 x.k).wf = true
theorem list12 {α : Type} {cs : List α} (h : cs.length = 12) : ∃ c0 c1 c2 c3 c4 c5 c6 c7 c8 c9 c10 c11, cs = [c0, c1, c2, c3, c4, c5, c6, c7, c8, c9, c10, c11] := by
  match cs, h with
  | [c0, c1, c2, c3, c4, c5, c6, c7, c8, c9, c10, c11], _ => exact ⟨c0, c1, c2, c3, c4, c5, c6, c7, c8, c9, c10, c11, rfl⟩

set_option maxHeartbeats 1600000 in
theorem actf_open {H : Type} {enc : TypeId × Value → H} {w : World} {fuel : Nat} {cs : List Value} {y : DataW H × List MemPlace} (hn : cs.length = 12)
    (h : DataW.trod enc Tryd.prog w 0 (fun _ => true) true fuel 38 cs = some y) :
    ∃ (x : ActF) (a : Option Addr) (cap : Nat), cs = x.cs (.slice a x.l.length cap) ∧ x.Wd ∧ Bs w a cap x.l ∧ (a = none → cap = 0) := by
  obtain ⟨c0, c1, c2, c3, c4, c5, c6, c7, c8, c9, c10, c11, rfl⟩ := list12 hn
  obtain ⟨m0, y0, g0⟩ := open_fld Tryd.underlying38 h 0 _ rfl
  have t0 : DataW.trod enc Tryd.prog w 0 (fun _ => true) true m0 3 (([c0, c1, c2, c3, c4, c5, c6, c7, c8, c9, c10, c11].drop 0).take (Tryd.prog.cellsOf 3)) = some y0 := g0
  rw [show Tryd.prog.cellsOf 3 = 1 from by kernel_rfl] at t0
  have u0 : DataW.trod enc Tryd.prog w 0 (fun _ => true) true m0 3 [c0] = some y0 := t0
  obtain ⟨m1, y1, g1⟩ := open_fld Tryd.underlying38 h 1 _ rfl
  have t1 : DataW.trod enc Tryd.prog w 0 (fun _ => true) true m1 36 (([c0, c1, c2, c3, c4, c5, c6, c7, c8, c9, c10, c11].drop 1).take (Tryd.prog.cellsOf 36)) = some y1 := g1
  rw [show Tryd.prog.cellsOf 36 = 11 from by kernel_rfl] at t1
  have u1 : DataW.trod enc Tryd.prog w 0 (fun _ => true) true m1 36 [c1,c2,c3,c4,c5,c6,c7,c8,c9,c10,c11] = some y1 := t1
  obtain ⟨k, e0, x0, w0⟩ := DataW.trod_int Tryd.underlying3 u0
  obtain rfl : c0 = .int .i64 k := by simpa using e0
  obtain ⟨f, l, a, cap, e2, hW, hK, hb, hnn⟩ := frame_open rfl u1
  refine ⟨⟨k, f, l⟩, a, cap, ?_, ⟨hW, hK, w0⟩, hb, hnn⟩
  show _ = .int .i64 k :: (f.cs (.slice a l.length cap)).toList
  rw [← e2]

/-- The slice value with this address and this capacity reads as these acts. -/
structure ActsF (w : World) (a : Option Addr) (cap : Nat) (xs : List ActF) : Prop where
  hcap : xs.length ≤ cap
  hmax : cap ≤ maxLen
  hcells : 0 < xs.length → ∃ b o, a = some ⟨b, o, none⟩ ∧ ∀ j, j < xs.length → ∃ a' c', (∀ i u, ((xs.getD j dAF).cs (.slice a' (xs.getD j dAF).l.length c'))[i]? = some u → w.cell? ⟨b, o + j * 12 + i, none⟩ = some u) ∧ (xs.getD j dAF).Wd ∧ Bs w a' c' (xs.getD j dAF).l ∧ (a' = none → c' = 0)
theorem ActsF.nil (w : World) : ActsF w none 0 [] := ⟨Nat.le_refl _, by simp [maxLen], by simp⟩
theorem ActsF.len {w : World} {a : Option Addr} {cap : Nat} {xs : List ActF} (h : ActsF w a cap xs) : xs.length ≤ 9223372036854775807 := by
  have h1 := h.hcap
  have h2 := h.hmax
  unfold maxLen at h2
  omega
theorem ActsF.below {w w' : World} {a : Option Addr} {cap : Nat} {xs : List ActF} (h : ActsF w a cap xs) (hb : Nb w w') : ActsF w' a cap xs := by
  refine ⟨h.hcap, h.hmax, fun hl => ?_⟩
  obtain ⟨b, o, ha, hc⟩ := h.hcells hl
  refine ⟨b, o, ha, fun j hj => ?_⟩
  obtain ⟨a', c', h1, h2, h4, h5⟩ := hc j hj
  exact ⟨a', c', fun i u hu => by
    have := h1 i u hu
    rw [hb.cell (p := ⟨b, o + j * 12 + i, none⟩) (World.block_lt_of_cell? _ _ this)]
    exact this, h2, h4.below hb, h5⟩

set_option maxHeartbeats 800000 in
theorem actsf_open {H : Type} {enc : TypeId × Value → H} {w : World} {fuel : Nat} {v : Value} {y : DataW H × List MemPlace}
    (h : DataW.trod enc Tryd.prog w 0 (fun _ => true) true fuel 22 [v] = some y) :
    ∃ a cap xs, v = .slice a (List.length xs) cap ∧ ActsF w a cap xs ∧ (a = none → cap = 0) := by
  rcases Go.Deep.open_slice Tryd.underlying22 h with ⟨hcs, _⟩ | ⟨a, len, cap, m, n, D, Pl, hcs, _, hl, hm, hmm, _, hx⟩
  · exact ⟨none, 0, [], by simpa using hcs, ActsF.nil w, fun _ => rfl⟩
  rw [show Tryd.prog.cellsOf 38 = 12 from by kernel_rfl] at hx
  have hle : len ≤ m := by rw [hmm]; split <;> omega
  have hk : ∀ j, j < len → ∃ p : ActF, ∃ a' c', (∀ i u, (p.cs (.slice a' p.l.length c'))[i]? = some u → w.cell? ((a.add (j * 12)).add i) = some u) ∧ p.Wd ∧ Bs w a' c' p.l ∧ (a' = none → c' = 0) := by
    intro j hj
    obtain ⟨cs, h1, h2⟩ := hx j (by omega)
    obtain ⟨_, hlen, hcell⟩ := World.cells?_some h1
    obtain ⟨x, a', c', rfl, hw, hb, hnn⟩ := actf_open hlen h2
    refine ⟨x, a', c', fun i u hu => ?_, hw, hb, hnn⟩
    have hi : i < 12 := by rw [← hlen]; exact (List.getElem?_eq_some_iff.1 hu).1
    rw [hcell i hi]
    exact hu
  haveI : Inhabited ActF := ⟨dAF⟩
  obtain ⟨g, hg⟩ := Go.Deep.choose_lt hk
  refine ⟨some a, cap, (List.range len).map g, by simpa using hcs, ⟨by simpa using hl, hm, fun h0 => ?_⟩, fun h => by cases h⟩
  simp only [List.length_map, List.length_range] at h0 ⊢
  obtain ⟨b, o, s⟩ := a
  have hs : s = none := by
    obtain ⟨a', c', h1, _⟩ := hg 0 h0
    have := h1 0 _ rfl
    simpa [Addr.add] using World.cell?_spot this
  subst hs
  refine ⟨b, o, rfl, fun j hj => ?_⟩
  have e : ((List.range len).map g).getD j dAF = g j := by simp [List.getD, hj]
  rw [e]
  obtain ⟨a', c', h1, h2, h4, h5⟩ := hg j hj
  refine ⟨a', c', fun i u hu => ?_, h2, h4, h5⟩
  have := h1 i u hu
  rwa [Addr.add_lit, Addr.add_lit] at this
theorem Blk.c12f {w : World} {R : Nat} {u0 u1 u2 u3 u4 u5 u6 u7 u8 u9 u10 u11 : Value} {t : TypeId} (h : Blk w R #[u0, u1, u2, u3, u4, u5, u6, u7, u8, u9, u10, u11] t) : w.cell? ⟨R, 0, none⟩ = some u0 ∧ w.cell? ⟨R, 1, none⟩ = some u1 ∧ w.cell? ⟨R, 2, none⟩ = some u2 ∧ w.cell? ⟨R, 3, none⟩ = some u3 ∧ w.cell? ⟨R, 4, none⟩ = some u4 ∧ w.cell? ⟨R, 5, none⟩ = some u5 ∧ w.cell? ⟨R, 6, none⟩ = some u6 ∧ w.cell? ⟨R, 7, none⟩ = some u7 ∧ w.cell? ⟨R, 8, none⟩ = some u8 ∧ w.cell? ⟨R, 9, none⟩ = some u9 ∧ w.cell? ⟨R, 10, none⟩ = some u10 ∧ w.cell? ⟨R, 11, none⟩ = some u11 :=
  ⟨h.cell 0, h.cell 1, h.cell 2, h.cell 3, h.cell 4, h.cell 5, h.cell 6, h.cell 7, h.cell 8, h.cell 9, h.cell 10, h.cell 11⟩
theorem ActsF.at {w : World} {b o cap : Nat} {xs : List ActF} (h : ActsF w (some ⟨b, o, none⟩) cap xs) {j : Nat} (hj : j < xs.length) {k : Int} {K I : Int} {X R B E S : Bool} {D V A : Int} {l : List Nat} (hf : xs.getD j dAF = ⟨k, ⟨K, I, X, R, B, E, S, D, V, A⟩, l⟩) :
    ∃ a' c', ∀ w', Nb w w' → (w'.cell? ⟨b, o + j * 12, none⟩ = some (.int .i64 k) ∧ w'.cell? ⟨b, o + j * 12 + 1, none⟩ = some (.int .i64 K) ∧ w'.cell? ⟨b, o + j * 12 + 2, none⟩ = some (.int .u32 I) ∧ w'.cell? ⟨b, o + j * 12 + 3, none⟩ = some (.bool X) ∧ w'.cell? ⟨b, o + j * 12 + 4, none⟩ = some (.bool R) ∧ w'.cell? ⟨b, o + j * 12 + 5, none⟩ = some (.bool B) ∧ w'.cell? ⟨b, o + j * 12 + 6, none⟩ = some (.bool E) ∧ w'.cell? ⟨b, o + j * 12 + 7, none⟩ = some (.bool S) ∧ w'.cell? ⟨b, o + j * 12 + 8, none⟩ = some (.int .u8 D) ∧ w'.cell? ⟨b, o + j * 12 + 9, none⟩ = some (.int .u8 V) ∧ w'.cell? ⟨b, o + j * 12 + 10, none⟩ = some (.int .u32 A) ∧ w'.cell? ⟨b, o + j * 12 + 11, none⟩ = some (.slice a' l.length c')) ∧ Bs w' a' c' l ∧ (a' = none → c' = 0) := by
  obtain ⟨b', o', e', hc⟩ := h.hcells (by omega)
  simp only [Option.some.injEq, Addr.mk.injEq, and_true] at e'
  obtain ⟨rfl, rfl⟩ := e'
  obtain ⟨a', c', h1, h2, h3, h4⟩ := hc j hj
  rw [hf] at h1 h2 h3
  refine ⟨a', c', fun w' hb => ?_⟩
  have tr : ∀ {i : Nat} {u : Value}, w.cell? ⟨b, i, none⟩ = some u → w'.cell? ⟨b, i, none⟩ = some u := fun {i u} q => by
    rw [hb.cell (p := ⟨b, i, none⟩) (World.block_lt_of_cell? _ _ q)]
    exact q
  exact ⟨⟨tr (h1 0 _ rfl), tr (h1 1 _ rfl), tr (h1 2 _ rfl), tr (h1 3 _ rfl), tr (h1 4 _ rfl), tr (h1 5 _ rfl), tr (h1 6 _ rfl), tr (h1 7 _ rfl), tr (h1 8 _ rfl), tr (h1 9 _ rfl), tr (h1 10 _ rfl), tr (h1 11 _ rfl)⟩, h3.below hb, h4⟩
set_option maxHeartbeats 1600000 in
set_option maxRecDepth 100000 in
theorem great16_any (a : Option Addr) (cap : Nat) (xs : List ActF) (w : World) (h : ActsF w a cap xs) :
    Calls Tryd.prog 10 #[.slice a xs.length cap] w fun e w' => ∃ r, e = .returned (.bool r) ∧ (r = false → xs.length ≤ 300) ∧ Nb w w' := by
  have hl2 := h.len
  have H := Lib.hid h
  clear h
  go_enter Tryd.func10, Tryd.ntmps10
  go_wp2
  go_loopw [3, 8] (fun sv ix wr => ∃ (k : Nat) (v : Int), k ≤ xs.length ∧ ix = .int .i64 k ∧ sv = .int .i64 v ∧ Nb w wr) (fun _ ix _ => xs.length - (intOf ix).toNat)
  case atStart => exact ⟨0, 0, Nat.zero_le _, rfl, rfl, Nb.rfl⟩
  case round =>
    obtain ⟨k, v, hk, rfl, rfl, hN⟩ := hrel
    have N := Lib.hid hN
    clear hN
    by_cases hlt : k < xs.length
    · have hlt' : decide ((k : Int) < (xs.length : Int)) = true := decide_eq_true (by omega)
      obtain ⟨⟨ak, ⟨K, I, X, R, B, E, S, D, V, A⟩, l⟩, hx⟩ : ∃ x, xs.getD k dAF = x := ⟨_, rfl⟩
      obtain ⟨b, o, rfl, _⟩ := H.out.hcells (by omega)
      obtain ⟨p, c, hcl⟩ := H.out.at hlt hx
      obtain ⟨⟨x0, x1, x2, x3, x4, x5, x6, x7, x8, x9, x10, x11⟩, hb, _⟩ := hcl wr N.out
      have hL := hb.len
      clear hx hb hcl
      go_wp2
      go_roundw
      case rel => exact ⟨k + 1, _, by omega, by go_num, rfl, by first | exact N.out.al _ | exact (N.out.al _).al _⟩
      case measure => simp [intOf]; omega
    have hlt' : decide ((k : Int) < (xs.length : Int)) = false := decide_eq_false (by omega)
    obtain rfl : k = xs.length := by omega
    clear hlt hk
    by_cases h2 : 300 < xs.length
    · have d2 : decide ((300 : Int) < (xs.length : Int)) = true := decide_eq_true (by omega)
      clear h2
      go_wp2
      go_ret
      exact ⟨true, rfl, fun e => (by cases e), N.out⟩
    have d2 : decide ((300 : Int) < (xs.length : Int)) = false := decide_eq_false (by omega)
    have hh := Lib.hid (show xs.length ≤ 300 by omega)
    clear h2
    go_wp2
    go_ret
    exact ⟨_, rfl, fun _ => hh.out, N.out⟩
end Go.Proofs.YtlmbggmamemmjaaDoor
