
/- The document's fifo of layer 16 in memory: Push, Pop. No conditions. -/
import Derived.Test.YtlmbggmamemmjaaDoorFiT
import Derived.Test.YtlmbggmamemmjaaDoorFiK
import Derived.Test.YtlmbggmamemmjaaDoorGj
namespace Go.Proofs.YtlmbggmamemmjaaDoor
set_option linter.unusedVariables false
set_option linter.unusedSimpArgs false
open Go.RowKit

theorem FrP.cutL {w : World} {a : Option Addr} {cap : Nat} {es : List (Hd × List Nat)} {P : Nat → Prop} (h : FrP w a cap es P) (k : Nat) (hk : k ≤ es.length) : FrP w (cutFr a cap k) (cap - k) (es.drop k) P := by
  have hc := h.hcap
  have hm := h.hmax
  refine ⟨by rw [List.length_drop]; omega, by omega, fun h0 => ?_⟩
  rw [List.length_drop] at h0
  obtain ⟨b, o, rfl, hp, hcl⟩ := h.hcells (by omega)
  refine ⟨b, o + k * 11, by unfold cutFr; rw [if_neg (by omega)]; simp [Addr.add], hp, fun j hj => ?_⟩
  rw [List.length_drop] at hj
  have e : (es.drop k).getD j dF = es.getD (k + j) dF := by simp [List.getD, List.getElem?_drop]
  rw [e]
  obtain ⟨a', c', h1, h2⟩ := hcl (k + j) (by omega)
  refine ⟨a', c', fun i hi => ?_, h2⟩
  rw [show o + k * 11 + j * 11 + i = o + (k + j) * 11 + i by omega]
  exact h1 i hi
/-- The document's fifo at m, all that it holds in blocks of P. -/
def RF (w : World) (m : Nat) (q : Fi) (P : Nat → Prop) : Prop := ∃ a c, Blk w m #[.int .i64 (q.room : Nat), .int .i64 (q.over : Nat), .slice a q.its.length c] 32 ∧ FrP w a c q.its P ∧ ¬ P m ∧ (∀ k, P k → k < w.heap.size) ∧ (a = none → c = 0)
theorem RF.keep {F : Nat → Prop} {w w' : World} {m : Nat} {q : Fi} {P : Nat → Prop} (h : RF w m q P) (hk : Kp F w w') (hm : ¬ F m) (hP : ∀ k, P k → ¬ F k) : RF w' m q P := by
  obtain ⟨a, c, h1, h2, h3, h4, h5⟩ := h
  exact ⟨a, c, h1.keep hk hm, h2.keep hk hP, h3, fun k hk' => Nat.lt_of_lt_of_le (h4 k hk') hk.size, h5⟩
theorem RF.nb {w w' : World} {m : Nat} {q : Fi} {P : Nat → Prop} (h : RF w m q P) (hb : Nb w w') : RF w' m q P := h.keep (F := fun _ => False) (Kp.ofNb hb) (by simp) (by simp)
theorem Nb.trans' {w0 w1 w2 : World} {v : Value} (h : Nb w0 w1) (hk : Kp (fun k => v.ownBlock = some k) w1 w2) (hg : ∀ g, v.ownBlock = some g → w0.heap.size ≤ g) : Nb w0 w2 := h.trans (hk.toBelow h.size hg)
theorem FiX.turnX {w w1 w2 : World} {v : Value} {q : Fi} {X Y Z : Nat → Prop} (h : FiX w w1 v q X) (hk : Kp Y w1 w2) (hY : ∀ k, Y k → X k ∧ w.heap.size ≤ k) (hZ : ∀ k, Z k → (X k ∨ w1.heap.size ≤ k) ∧ k < w2.heap.size) : FiX w w2 v q Z := by
  obtain ⟨F, h1, h2, h3, h4⟩ := h
  refine ⟨F, fi_keep h1 hk (fun k q r => (h2 k q).2 (hY k r).1), fun k hk' => ⟨(h2 k hk').1, fun q => ?_⟩, fun k q => (hZ k q).2, h4.trans (hk.toBelow h4.size fun k q => (hY k q).2)⟩
  rcases (hZ k q).1 with r | r
  · exact (h2 k hk').2 r
  · have := fi_lt h1 k hk'
    omega
theorem one_cells {w : World} {g : Nat} {f : Hd} {l : List Nat} {v : Value} {t : TypeId} (h : Blk w g (f.cs v) t) : ∀ ad, some (⟨g, 0, none⟩ : Addr) = some ad → ∀ j u, (cellsF [((f, l), v)])[j]? = some u → w.cell? (ad.add j) = some u := by
  intro ad had j u hu
  obtain rfl := Option.some.inj had
  rw [Addr.add_lit, Nat.zero_add, h.cell]
  have : j < 11 := (List.getElem?_eq_some_iff.1 hu).1
  rw [← Array.getElem?_toList]
  exact hu
/-- A new one. -/
theorem RF.new (w : World) (n : Nat) : RF (w.alloc (.cells #[.int .i64 (n : Nat), .int .i64 0, .slice none 0 0] 32)) w.heap.size ⟨n, 0, []⟩ (fun _ => False) :=
  ⟨none, 0, Blk.new w _ _, FrP.nil _ _, fun h => h, fun k h => h.elim, fun _ => rfl⟩

set_option maxHeartbeats 3200000 in
set_option maxRecDepth 100000 in
theorem refpopF_any (m : Nat) (q : Fi) (P : Nat → Prop) (w : World) (h : RF w m q P) :
    Calls Tryd.prog 13 #[.pointer (some ⟨m, 0, none⟩)] w fun e w' => ∃ a c, e = .returned (.tuple #[.agg (q.head.1.cs (.slice a q.head.2.length c)), .int .i64 (q.popE : Nat)]) ∧ Bs w' a c q.head.2 ∧ RF w' m q.pop P ∧ Kp (fun k => k = m) w w' := by
  have HR := Lib.hid h
  obtain ⟨a, c, hb, hi, hPm, hPl, hnn⟩ := h
  have hcl := hi.rd.len
  have hm := hb.lt
  have r0 := hb.cell 0
  have r1 := hb.cell 1
  have r2 := hb.cell 2
  have s2 := hb.frozen 2
  simp only [List.getElem?_toArray, List.getElem?_cons_zero, List.getElem?_cons_succ] at r0 r1 r2
  by_cases h0 : q.its.length = 0
  · obtain ⟨z1, z2, z3⟩ := Fi.pop_nil h0
    rw [z1, z2, z3]
    rw [h0] at r2
    clear hb hi r0 r1 h0 z1 z2 z3 hcl hPm hPl hnn s2
    go_enter Tryd.func13, Tryd.ntmps13
    go_wp2
    exact bodyPost_ret (v := .tuple #[.agg (dF.1.cs (.slice none 0 0)), .int .i64 9]) (by simp [results, Tryd.results13, go_sem, Hd.cs]) rfl ⟨none, 0, rfl, Bs.nil _, HR.out.nb (Nb.rfl.al _), Kp.ofNb (Nb.rfl.al _)⟩
  · have hpe : q.popE = 0 := by simp [Fi.popE, h0]
    rw [hpe]
    obtain ⟨⟨⟨K, I, X, R, B, E, S, V1, V, A⟩, l⟩, hx⟩ : ∃ x, q.its.getD 0 dF = x := ⟨_, rfl⟩
    have hh : q.head = (⟨K, I, X, R, B, E, S, V1, V, A⟩, l) := hx
    rw [hh]
    obtain ⟨b, o, rfl, -⟩ := hi.hcells (by omega)
    obtain ⟨hPb, pa, pc, hat⟩ := hi.atD (j := 0) (by omega) hx
    obtain ⟨⟨g0, g1, g2, g3, g4, g5, g6, g7, g8, g9, g10⟩, hd⟩ := hat w Nb.rfl
    simp only [Nat.zero_mul, Nat.add_zero] at g0 g1 g2 g3 g4 g5 g6 g7 g8 g9 g10
    have d1 : ((q.its.length : Int) == 0) = false := by rw [beq_eq_false_iff_ne]; omega
    have d3 : (0 : Int) < (q.its.length : Int) := by omega
    have d4 : 0 < q.its.length := by omega
    have hcut : ∀ w, (Instr.sliceAt 30 (.slice (some ⟨b, o, none⟩) q.its.length c) (some (.int .i64 1)) none none).run Tryd.prog w = .ok (.slice (cutFr (some ⟨b, o, none⟩) c 1) (q.its.length - 1) (c - 1)) w := fun w => run_cutFrL (some ⟨b, o, none⟩) _ c 1 (by omega) w
    have hbm : ¬ b = m := fun e => hPm (by rw [← e]; exact hPb)
    have k2 : Kp (fun k => k = m) w (w.setCell ⟨m, 2, none⟩ (.slice (cutFr (some ⟨b, o, none⟩) c 1) (q.its.length - 1) (c - 1))) := Kp.set (F := fun k => k = m) rfl
    have hPm' : ∀ k, P k → ¬ k = m := fun k hk e => hPm (by rw [← e]; exact hk)
    have RP := Lib.hid (show RF (w.setCell ⟨m, 2, none⟩ (.slice (cutFr (some ⟨b, o, none⟩) c 1) (q.its.length - 1) (c - 1))) m q.pop P from ⟨cutFr (some ⟨b, o, none⟩) c 1, c - 1, by
      have h := hb.set 2 (.slice (cutFr (some ⟨b, o, none⟩) c 1) (q.its.length - 1) (c - 1))
      have e : q.pop.its.length = q.its.length - 1 := List.length_tail
      rw [e]
      exact h, by
      have h := (hi.cutL 1 (by omega)).keep k2 hPm'
      rw [List.drop_one] at h
      exact h, hPm, fun k hk => Nat.lt_of_lt_of_le (hPl k hk) k2.size, fun h => by unfold cutFr at h; split at h <;> simp at h⟩)
    have DD := Lib.hid (hd.keep k2 hPm')
    have KK := Lib.hid k2
    have hm' : ¬ m = w.heap.size := by omega
    have hm2 : ¬ w.heap.size = m := by omega
    have hbl : b < w.heap.size := hPl b hPb
    have hb2 : ¬ b = w.heap.size := by omega
    have hm3 : ¬ m = w.heap.size + 1 := by omega
    have hm4 : ¬ w.heap.size + 1 = m := by omega
    clear hb hi r0 r1 h0 hcl hPm hPl hnn hat hd hx hh hPb k2 hPm' hpe
    go_enter Tryd.func13, Tryd.ntmps13
    simp only [Hd.cs]
    have hUs : (w.setCell ⟨m, 2, none⟩ (.slice (cutFr (some ⟨b, o, none⟩) c 1) (q.its.length - 1) (c - 1))).heap.size = w.heap.size := by simp [World.setCell]
    have HUS := Lib.hid hUs
    clear hUs
    go_wp2
    generalize w.setCell ⟨m, 2, none⟩ (.slice (cutFr (some ⟨b, o, none⟩) c 1) (q.its.length - 1) (c - 1)) = U at *
    have bz := (Blk.new U #[.int .i64 K, .int .u32 I, .bool X, .bool R, .bool B, .bool E, .bool S, .int .u8 V1, .int .u8 V, .int .u32 A, .slice pa l.length pc] 36).nb (Nb.rfl.al (.cells #[.int .i64 K, .int .u32 I, .bool X, .bool R, .bool B, .bool E, .bool S, .int .u8 V1, .int .u8 V, .int .u32 A, .slice pa l.length pc] 36))
    rw [HUS.out] at bz
    obtain ⟨e0, e1, e2, e3, e4, e5, e6, e7, e8, e9, e10⟩ := bz.c11
    exact bodyPost_ret (v := .tuple #[.agg #[.int .i64 K, .int .u32 I, .bool X, .bool R, .bool B, .bool E, .bool S, .int .u8 V1, .int .u8 V, .int .u32 A, .slice pa l.length pc], .int .i64 0]) (by simp [results, Tryd.results13, go_sem, e0, e1, e2, e3, e4, e5, e6, e7, e8, e9, e10]) rfl ⟨pa, pc, rfl, (DD.out.nb ((Nb.rfl.al _).al _)).1, RP.out.nb ((Nb.rfl.al _).al _), KK.out.tr (Kp.ofNb (F := fun _ => False) ((Nb.rfl.al _).al _)) (fun _ h => h.elim)⟩

theorem push_end {w W4 w8 : World} {m : Nat} {q : Fi} {P : Nat → Prop} {a a8 : Option Addr} {c c8 : Nat} {LQ L8 : List FrI} {f : Hd} {l : List Nat} {a3 : Option Addr} {c3 : Nat} {X : Nat → Prop} {r : Ending}
    (hb : Blk w m #[.int .i64 (q.room : Nat), .int .i64 (q.over : Nat), .slice a q.its.length c] 32) (n4 : Nb w W4) (hPm : ¬ P m) (hPl : ∀ k, P k → k < w.heap.size)
    (hd : DatP W4 a3 c3 l X) (hX : ∀ k, X k → w.heap.size ≤ k ∧ k < W4.heap.size) (hw : RowF (fun a c l => DatP W4 a c l P) LQ) (hm : LQ.map Prod.fst = q.its) (hL : L8 = [] ++ LQ ++ [((f, l), .slice a3 l.length c3)]) (n8 : Nb W4 w8) (ho : OwnF w8 (.slice a8 L8.length c8) L8) (hg : ∀ g, Value.ownBlock (.slice a8 L8.length c8) = some g → W4.heap.size ≤ g) (hn : a8 = none → c8 = 0) :
    r = r ∧ ∃ P', RF (w8.setCell ⟨m, 2, none⟩ (.slice a8 L8.length c8)) m ⟨q.room, q.over, q.its ++ [(f, l)]⟩ P' ∧ Kp (fun k => k = m) w (w8.setCell ⟨m, 2, none⟩ (.slice a8 L8.length c8)) ∧ ∀ k, P' k → P k ∨ w.heap.size ≤ k := by
  have hml := hb.lt
  have s4 := n4.size
  have s8 := n8.size
  have hb8 := (hb.nb (n4.tr n8)).set 2 (.slice a8 L8.length c8)
  have k8 : Kp (fun k => k = m) w8 (w8.setCell ⟨m, 2, none⟩ (.slice a8 L8.length c8)) := Kp.set (F := fun k => k = m) rfl
  have kw : Kp (fun k => k = m) w (w8.setCell ⟨m, 2, none⟩ (.slice a8 L8.length c8)) := (Kp.ofNb (F := fun k => k = m) (n4.tr n8)).tr k8 (fun k hk => .inl hk)
  have hits : L8.map Prod.fst = q.its ++ [(f, l)] := by rw [hL, List.nil_append, List.map_append, hm]; rfl
  have hlen : L8.length = (q.its ++ [(f, l)]).length := by rw [← hits, List.length_map]
  have fr := ((OwnF.frp2 (P := fun k => P k ∨ (w.heap.size ≤ k ∧ k < w8.heap.size)) ho (by
    rw [hL, List.nil_append]
    exact (hw.imp (fun _ _ _ d => (d.nb n8).up (fun k hk => Or.inl hk))).app (RowF.one (f := f) ((hd.nb n8).up (fun k hk => Or.inr ⟨(hX k hk).1, by have := (hX k hk).2; omega⟩))))).2.frp).up (Q := fun k => P k ∨ (w.heap.size ≤ k ∧ k < w8.heap.size)) (fun k hk => by
    rcases hk with hk | hk
    · exact hk
    · exact .inr ⟨by have := hg k hk; omega, ho.lt hk⟩)
  rw [hits] at fr
  have hPm' : ∀ k, (P k ∨ (w.heap.size ≤ k ∧ k < w8.heap.size)) → ¬ k = m := fun k hk e => by
    subst e
    rcases hk with h | h
    · exact hPm h
    · omega
  refine ⟨rfl, fun k => P k ∨ (w.heap.size ≤ k ∧ k < w8.heap.size), ⟨a8, c8, ?_, fr.keep k8 hPm', fun h => hPm' m h rfl, fun k hk => ?_, hn⟩, kw, fun k hk => ?_⟩
  · show Blk _ m #[.int .i64 (q.room : Nat), .int .i64 (q.over : Nat), .slice a8 (q.its ++ [(f, l)]).length c8] _
    rw [← hlen]
    exact hb8
  · rcases hk with h | h
    · exact Nat.lt_of_lt_of_le (hPl k h) kw.size
    · exact Nat.lt_of_lt_of_le h.2 k8.size
  · rcases hk with h | h
    · exact .inl h
    · exact .inr h.1

set_option maxHeartbeats 4000000 in
set_option maxRecDepth 100000 in
theorem refpushF_any (m : Nat) (q : Fi) (P : Nat → Prop) (f : Hd) (a' : Option Addr) (c' : Nat) (l : List Nat) (w : World) (h : RF w m q P) (ho : q.Ok) (hov : q.over ≤ 1000000) (hbs : Bs w a' c' l) (hnn' : a' = none → c' = 0) :
    Calls Tryd.prog 18 #[.pointer (some ⟨m, 0, none⟩), .agg (f.cs (.slice a' l.length c'))] w fun e w' => e = .returned (.tuple #[.bool (q.pushB f l), .int .i64 (checkN f l : Nat)]) ∧ ∃ P', RF w' m (q.push f l) P' ∧ Kp (fun k => k = m) w w' ∧ ∀ k, P' k → P k ∨ w.heap.size ≤ k := by
  have HR := Lib.hid h
  have HBS := Lib.hid hbs
  have hLl := hbs.len
  obtain ⟨a, c, hb, hi, hPm, hPl, hnn⟩ := h
  obtain ⟨K, I, X, R, B, E, S, V1, V, A⟩ := f
  have CK := Lib.hid (fun w' => refcheck5_any ⟨K, I, X, R, B, E, S, V1, V, A⟩ a' c' l w' hLl)
  have hm := hb.lt
  have HB := Lib.hid hb
  have HI := Lib.hid hi
  have HPL := Lib.hid hPl
  have HPM := Lib.hid hPm
  have BF := Lib.hid (Blk.new w #[.int .i64 K, .int .u32 I, .bool X, .bool R, .bool B, .bool E, .bool S, .int .u8 V1, .int .u8 V, .int .u32 A, .slice a' l.length c'] 36)
  have hi64 : q.its.length ≤ 64 := by
    have := ho.its
    have := ho.room
    omega
  simp only [Hd.cs] at CK ⊢
  cases hok : okF ⟨K, I, X, R, B, E, S, V1, V, A⟩ l with
  | false =>
    rw [show checkN ⟨K, I, X, R, B, E, S, V1, V, A⟩ l = 2 by simp [checkN, hok]] at CK ⊢
    rw [(push_bad hok).1, (push_bad hok).2]
    clear hb hi hPm hPl hnn hbs hok
    go_enter Tryd.func18, Tryd.ntmps18
    go_wp2_with fail
    refine (CK.out _).mono ?_
    rintro e w1 ⟨rfl, n1⟩
    have N1 := Lib.hid ((Nb.rfl.al _).tr n1)
    go_wp2
    go_ret2
    exact ⟨rfl, P, HR.out.nb N1.out, Kp.ofNb N1.out, fun k hk => .inl hk⟩
  | true =>
    rw [show checkN ⟨K, I, X, R, B, E, S, V1, V, A⟩ l = 0 by simp [checkN, hok]] at CK ⊢
    by_cases hlt : q.its.length < q.room
    · rw [show q.push ⟨K, I, X, R, B, E, S, V1, V, A⟩ l = ⟨q.room, q.over, q.its ++ [(⟨K, I, X, R, B, E, S, V1, V, A⟩, l)]⟩ by simp [Fi.push, hok, hlt], show q.pushB ⟨K, I, X, R, B, E, S, V1, V, A⟩ l = true by simp [Fi.pushB, hok, hlt]]
      have d1 : decide ((q.room : Int) ≤ (q.its.length : Int)) = false := decide_eq_false (by omega)
      have d2 : decide (q.room ≤ q.its.length) = false := decide_eq_false (by omega)
      have HL2 := Lib.hid (okF_le hok)
      have NN := Lib.hid (show a' = none → l.length = 0 ∧ c' = 0 from fun h => by subst h; exact ⟨hbs.none_len', hnn' rfl⟩)
      have NN2 := Lib.hid hnn
      clear hb hi hPm hPl hnn hbs hok hlt hov hnn'
      go_enter Tryd.func18, Tryd.ntmps18
      go_wp2_with fail
      refine (CK.out _).mono ?_
      rintro e w1 ⟨rfl, n1⟩
      have N1 := Lib.hid n1
      have hb1 := HB.out.nb ((Nb.rfl.al _).tr n1)
      have r0 := hb1.cell 0
      have r2 := hb1.cell 2
      simp only [List.getElem?_toArray, List.getElem?_cons_zero, List.getElem?_cons_succ] at r0 r2
      clear n1 hb1
      go_wp2_with fail
      go_quiet (fail)
      rename_i nq
      have ND := Lib.hid (N1.out.tr (Nb.drewN w1 nq))
      clear r0 r2 N1
      generalize w1.drewN nq = wd at *
      have NW := Lib.hid ((Nb.rfl.al _).tr ND.out)
      have bf := BF.out.nb ND.out
      have i10 := bf.cell 10
      simp only [List.getElem?_toArray, List.getElem?_cons_zero, List.getElem?_cons_succ] at i10
      have j10 := bf.frozen 10
      have hwd : w.heap.size < wd.heap.size := bf.lt
      clear bf
      go_wp2_with (at_builtin; refine wpList_appB _ rfl (.tmp 26) (.tmp 28) rfl _ [] rfl (OwnB.fresh0 _) a' c' l l.length rfl rfl (HBS.out.below (NW.out.al _)) NN.out (by have := HL2.out; simp only [List.length_nil]; omega) ?_)
      intro v3 w3 ho3 hk3 hf3
      obtain ⟨a3, c3, rfl, hb3, -⟩ := ho3.bs
      have n3 : Nb wd w3 := (Nb.rfl.al _ : Nb wd _).trans (hk3.toBelow (by simp) (fun g hg => by simp [Value.ownBlock] at hg; omega))
      have hg3 : ∀ g, Value.ownBlock (.slice a3 l.length c3) = some g → wd.heap.size ≤ g := fun g hg => by
        rcases hf3 g hg with h | h
        · simp [Value.ownBlock] at h
          omega
        · omega
      have bf3 := (BF.out.nb ND.out).nb n3
      have i10' := bf3.cell 10
      simp only [List.getElem?_toArray, List.getElem?_cons_zero, List.getElem?_cons_succ] at i10'
      have j10' := bf3.frozen 10
      have b4 : Blk (w3.setCell ⟨w.heap.size, 10, none⟩ (.slice a3 l.length c3)) w.heap.size #[.int .i64 K, .int .u32 I, .bool X, .bool R, .bool B, .bool E, .bool S, .int .u8 V1, .int .u8 V, .int .u32 A, .slice a3 l.length c3] 36 := bf3.set 10 _
      have k4 : Kp (fun k => k = w.heap.size) w3 (w3.setCell ⟨w.heap.size, 10, none⟩ (.slice a3 l.length c3)) := Kp.set (F := fun k => k = w.heap.size) rfl
      have d4 : DatP (w3.setCell ⟨w.heap.size, 10, none⟩ (.slice a3 l.length c3)) a3 c3 l (fun k => Value.ownBlock (.slice a3 l.length c3) = some k) := (OwnB.dat (X := fun k => Value.ownBlock (.slice a3 l.length c3) = some k) ho3 (fun g hg => hg)).keep k4 (fun k hk e => by have := hg3 k hk; omega)
      have nw4 : Nb w (w3.setCell ⟨w.heap.size, 10, none⟩ (.slice a3 l.length c3)) := (NW.out.tr n3).trans (k4.toBelow (NW.out.tr n3).size (fun k hk => by omega))
      have l4 : ∀ k, Value.ownBlock (.slice a3 l.length c3) = some k → w.heap.size ≤ k ∧ k < (w3.setCell ⟨w.heap.size, 10, none⟩ (.slice a3 l.length c3)).heap.size := fun k hk => ⟨by have := hg3 k hk; omega, Nat.lt_of_lt_of_le (ho3.lt hk) k4.size⟩
      have B4 := Lib.hid b4
      have D4 := Lib.hid d4
      have W4N := Lib.hid nw4
      have L4 := Lib.hid l4
      clear ho3 hk3 hf3 hb3 n3 hg3 bf3 b4 k4 d4 nw4 l4 i10 j10
      go_wp2_with fail
      obtain ⟨W4, hW4⟩ : ∃ W4, W4 = w3.setCell ⟨w.heap.size, 10, none⟩ (.slice a3 l.length c3) := ⟨_, rfl⟩
      rw [← hW4] at B4 D4 W4N L4 ⊢
      clear hW4 i10' j10'
      obtain ⟨LQ, m1, m2, m3, m4⟩ := (HI.out.nb W4N.out).cells
      have hlq : q.its.length = LQ.length := by rw [← m1, List.length_map]
      have hb4 := HB.out.nb W4N.out
      have r2 := hb4.cell 2
      simp only [List.getElem?_toArray, List.getElem?_cons_zero, List.getElem?_cons_succ] at r2
      obtain ⟨c0, c1, c2, c3', c4, c5, c6, c7, c8, c9, c10⟩ := B4.out.c11
      have hmw : ¬ m = w.heap.size := by omega
      have R2 := Lib.hid (fun w' (h : Nb W4 w') => (show w'.cell? ⟨m, 2, none⟩ = some (.slice a q.its.length c) from (HB.out.nb (W4N.out.tr h)).cell 2))
      have G2 := Lib.hid (fun w' (h : Nb W4 w') => (HB.out.nb (W4N.out.tr h)).frozen 2)
      have C1 := Lib.hid (fun w' (h : Nb W4 w') ad (had : a = some ad) j u (hu : (cellsF LQ)[j]? = some u) => (show w'.cell? (ad.add j) = some u from by
        have e := m3 ad had j u hu
        rw [h.cell (World.block_lt_of_cell? _ _ e)]
        exact e))
      have LL := Lib.hid hlq
      have MM := Lib.hid m1
      have WW := Lib.hid m2
      have ON := Lib.hid (show a = none → q.its.length = 0 ∧ c = 0 from fun h => ⟨by rw [hlq]; exact m4 h, NN2.out h⟩)
      have OO := Lib.hid (RowF.one' m2)
      have hmw4 : ¬ m = W4.heap.size := by have := W4N.out.size; omega
      have hww4 : ¬ w.heap.size = W4.heap.size := by have := B4.out.lt; omega
      have hml4 : m < W4.heap.size := by have := W4N.out.size; omega
      have hwl4 : w.heap.size < W4.heap.size := B4.out.lt
      have hmw5 : ¬ m = W4.heap.size + 1 := by have := W4N.out.size; omega
      have hww5 : ¬ w.heap.size = W4.heap.size + 1 := by have := B4.out.lt; omega
      clear m1 m2 m3 m4 hlq hb4
      go_region_law (first
          | (refine step_appF _ rfl (.tmp 32) (.tmp 36) rfl (.slice (some ⟨W4.heap.size, 0, none⟩) 0 0) [] (by simp [Act.eval, Act.put]) ((OwnF.lit0 W4).nb (Nb.drewN _ 1)) a q.its.length c LQ LL.out (by simp [Act.eval, Act.put]) ON.out (C1.out _ ((Nb.rfl.al (.cells #[] 36)).tr (Nb.drewN _ 1) : Nb W4 (W4.alloc (.cells #[] 36)).drew)) OO.out (by have := LL.out; simp only [List.length_nil]; omega) ?_
             intro v7 w7 ho hk7 hg
             have O7 := Lib.hid ho
             have N7 := Lib.hid (show Nb W4 w7 from Nb.trans' ((Nb.rfl.al (.cells #[] 36)).tr (Nb.drewN _ 1) : Nb W4 (W4.alloc (.cells #[] 36)).drew) hk7 (fun g hg => by simp only [Value.ownBlock, Option.some.injEq] at hg; omega))
             have G7 := Lib.hid (show ∀ g, v7.ownBlock = some g → W4.heap.size ≤ g from fun g hh => by
               rcases hg g hh with h | h
               · simp only [Value.ownBlock, Option.some.injEq] at h
                 omega
               · exact Nat.le_trans (Below.size ((Nb.rfl.al (.cells #[] 36)).tr (Nb.drewN _ 1) : Nb W4 (W4.alloc (.cells #[] 36)).drew)) h)
             have r7 := R2.out _ N7.out
             have g7 := G2.out _ N7.out
             obtain ⟨k0, k1, k2, k3, k4, k5, k6, k7, k8, k9, k10⟩ := (B4.out.nb N7.out).c11
             have hm7 : ¬ m = w7.heap.size := by have := N7.out.size; omega
             have hw7 : ¬ w.heap.size = w7.heap.size := by have := N7.out.size; omega
             have hm7l : m < w7.heap.size := by have := N7.out.size; omega
             have hw7l : w.heap.size < w7.heap.size := by have := N7.out.size; omega
             clear ho hk7 hg)
          | (refine step_appF _ rfl (.tmp 32) (.tmp 36) rfl (.slice (some ⟨W4.heap.size, 0, none⟩) 0 0) [] (by simp [Act.eval, Act.put]) (((OwnF.lit0 W4).nb (Nb.rfl.al (.cells #[.int .i64 K, .int .u32 I, .bool X, .bool R, .bool B, .bool E, .bool S, .int .u8 V1, .int .u8 V, .int .u32 A, .slice a3 l.length c3] 36))).nb (Nb.drewN _ 1)) a q.its.length c LQ LL.out (by simp [Act.eval, Act.put]) ON.out (C1.out _ (((Nb.rfl.al (.cells #[] 36)).al (.cells #[.int .i64 K, .int .u32 I, .bool X, .bool R, .bool B, .bool E, .bool S, .int .u8 V1, .int .u8 V, .int .u32 A, .slice a3 l.length c3] 36)).tr (Nb.drewN _ 1) : Nb W4 ((W4.alloc (.cells #[] 36)).alloc (.cells #[.int .i64 K, .int .u32 I, .bool X, .bool R, .bool B, .bool E, .bool S, .int .u8 V1, .int .u8 V, .int .u32 A, .slice a3 l.length c3] 36)).drew)) OO.out (by have := LL.out; simp only [List.length_nil]; omega) ?_
             intro v7 w7 ho hk7 hg
             have O7 := Lib.hid ho
             have N7 := Lib.hid (show Nb W4 w7 from Nb.trans' (((Nb.rfl.al (.cells #[] 36)).al (.cells #[.int .i64 K, .int .u32 I, .bool X, .bool R, .bool B, .bool E, .bool S, .int .u8 V1, .int .u8 V, .int .u32 A, .slice a3 l.length c3] 36)).tr (Nb.drewN _ 1) : Nb W4 ((W4.alloc (.cells #[] 36)).alloc (.cells #[.int .i64 K, .int .u32 I, .bool X, .bool R, .bool B, .bool E, .bool S, .int .u8 V1, .int .u8 V, .int .u32 A, .slice a3 l.length c3] 36)).drew) hk7 (fun g hg => by simp only [Value.ownBlock, Option.some.injEq] at hg; omega))
             have G7 := Lib.hid (show ∀ g, v7.ownBlock = some g → W4.heap.size ≤ g from fun g hh => by
               rcases hg g hh with h | h
               · simp only [Value.ownBlock, Option.some.injEq] at h
                 omega
               · exact Nat.le_trans (Below.size (((Nb.rfl.al (.cells #[] 36)).al (.cells #[.int .i64 K, .int .u32 I, .bool X, .bool R, .bool B, .bool E, .bool S, .int .u8 V1, .int .u8 V, .int .u32 A, .slice a3 l.length c3] 36)).tr (Nb.drewN _ 1) : Nb W4 ((W4.alloc (.cells #[] 36)).alloc (.cells #[.int .i64 K, .int .u32 I, .bool X, .bool R, .bool B, .bool E, .bool S, .int .u8 V1, .int .u8 V, .int .u32 A, .slice a3 l.length c3] 36)).drew)) h)
             have bf := (((Blk.new (W4.alloc (.cells #[] 36)) #[.int .i64 K, .int .u32 I, .bool X, .bool R, .bool B, .bool E, .bool S, .int .u8 V1, .int .u8 V, .int .u32 A, .slice a3 l.length c3] 36).nb (Nb.drewN _ 1)).keep hk7 (fun h => by simp [Value.ownBlock] at h))
             rw [World.size_alloc] at bf
             have BF7 := Lib.hid bf
             have r7 := R2.out _ N7.out
             have g7 := G2.out _ N7.out
             obtain ⟨k0, k1, k2, k3, k4, k5, k6, k7, k8, k9, k10⟩ := (B4.out.nb N7.out).c11
             have hm7 : ¬ m = w7.heap.size := by have := N7.out.size; omega
             have hw7 : ¬ w.heap.size = w7.heap.size := by have := N7.out.size; omega
             have hm7l : m < w7.heap.size := by have := N7.out.size; omega
             have hw7l : w.heap.size < w7.heap.size := by have := N7.out.size; omega
             clear ho hk7 hg)
          | (refine step_appF _ rfl (.tmp 32) (.tmp 36) rfl (.slice (some ⟨W4.heap.size + 1, 0, none⟩) 0 0) [] (by simp [Act.eval, Act.put]) (by have h := (OwnF.lit0 (W4.alloc (.cells #[.int .i64 K, .int .u32 I, .bool X, .bool R, .bool B, .bool E, .bool S, .int .u8 V1, .int .u8 V, .int .u32 A, .slice a3 l.length c3] 36))).nb (Nb.drewN _ 1); rw [World.size_alloc] at h; exact h) a q.its.length c LQ LL.out (by simp [Act.eval, Act.put]) ON.out (C1.out _ (((Nb.rfl.al (.cells #[.int .i64 K, .int .u32 I, .bool X, .bool R, .bool B, .bool E, .bool S, .int .u8 V1, .int .u8 V, .int .u32 A, .slice a3 l.length c3] 36)).al (.cells #[] 36)).tr (Nb.drewN _ 1) : Nb W4 ((W4.alloc (.cells #[.int .i64 K, .int .u32 I, .bool X, .bool R, .bool B, .bool E, .bool S, .int .u8 V1, .int .u8 V, .int .u32 A, .slice a3 l.length c3] 36)).alloc (.cells #[] 36)).drew)) OO.out (by have := LL.out; simp only [List.length_nil]; omega) ?_
             intro v7 w7 ho hk7 hg
             have O7 := Lib.hid ho
             have N7 := Lib.hid (show Nb W4 w7 from Nb.trans' (((Nb.rfl.al (.cells #[.int .i64 K, .int .u32 I, .bool X, .bool R, .bool B, .bool E, .bool S, .int .u8 V1, .int .u8 V, .int .u32 A, .slice a3 l.length c3] 36)).al (.cells #[] 36)).tr (Nb.drewN _ 1) : Nb W4 ((W4.alloc (.cells #[.int .i64 K, .int .u32 I, .bool X, .bool R, .bool B, .bool E, .bool S, .int .u8 V1, .int .u8 V, .int .u32 A, .slice a3 l.length c3] 36)).alloc (.cells #[] 36)).drew) hk7 (fun g hg => by simp only [Value.ownBlock, Option.some.injEq] at hg; omega))
             have G7 := Lib.hid (show ∀ g, v7.ownBlock = some g → W4.heap.size ≤ g from fun g hh => by
               rcases hg g hh with h | h
               · simp only [Value.ownBlock, Option.some.injEq] at h
                 omega
               · exact Nat.le_trans (Below.size (((Nb.rfl.al (.cells #[.int .i64 K, .int .u32 I, .bool X, .bool R, .bool B, .bool E, .bool S, .int .u8 V1, .int .u8 V, .int .u32 A, .slice a3 l.length c3] 36)).al (.cells #[] 36)).tr (Nb.drewN _ 1) : Nb W4 ((W4.alloc (.cells #[.int .i64 K, .int .u32 I, .bool X, .bool R, .bool B, .bool E, .bool S, .int .u8 V1, .int .u8 V, .int .u32 A, .slice a3 l.length c3] 36)).alloc (.cells #[] 36)).drew)) h)
             have BF7 := Lib.hid (((((Blk.new W4 #[.int .i64 K, .int .u32 I, .bool X, .bool R, .bool B, .bool E, .bool S, .int .u8 V1, .int .u8 V, .int .u32 A, .slice a3 l.length c3] 36).nb (Nb.rfl.al (.cells #[] 36))).nb (Nb.drewN _ 1)).keep hk7 (fun h => by simp [Value.ownBlock] at h)))
             have r7 := R2.out _ N7.out
             have g7 := G2.out _ N7.out
             obtain ⟨k0, k1, k2, k3, k4, k5, k6, k7, k8, k9, k10⟩ := (B4.out.nb N7.out).c11
             have hm7 : ¬ m = w7.heap.size := by have := N7.out.size; omega
             have hw7 : ¬ w.heap.size = w7.heap.size := by have := N7.out.size; omega
             have hm7l : m < w7.heap.size := by have := N7.out.size; omega
             have hw7l : w.heap.size < w7.heap.size := by have := N7.out.size; omega
             clear ho hk7 hg)
          | (refine step_appF _ rfl (.tmp 37) (.tmp 39) rfl v7 ([] ++ LQ) (by simp [Act.eval, Act.put]) (O7.out.nb (Nb.rfl.al _)) (some ⟨w7.heap.size, 0, none⟩) 1 1 [((⟨K, I, X, R, B, E, S, V1, V, A⟩, l), .slice a3 l.length c3)] rfl (by simp [Act.eval, Act.put]) (fun h => by cases h) (one_cells (Blk.new w7 #[.int .i64 K, .int .u32 I, .bool X, .bool R, .bool B, .bool E, .bool S, .int .u8 V1, .int .u8 V, .int .u32 A, .slice a3 l.length c3] 36)) (RowF.one' (D := fun _ _ _ => True) (RowF.one trivial)) (by have := LL.out; simp only [List.nil_append, List.length_singleton]; omega) ?_
             intro v8 w8 ho hk8 hg
             obtain ⟨L8, hL8⟩ : ∃ L9 : List FrI, L9 = [] ++ LQ ++ ([((⟨K, I, X, R, B, E, S, V1, V, A⟩, l), .slice a3 l.length c3)] : List FrI) := ⟨_, rfl⟩
             rw [← hL8] at ho
             have HL8 := Lib.hid hL8
             clear hL8
             have O8 := Lib.hid ho
             have N8 := Lib.hid (show Nb W4 w8 from Nb.trans' (N7.out.al (.cells #[.int .i64 K, .int .u32 I, .bool X, .bool R, .bool B, .bool E, .bool S, .int .u8 V1, .int .u8 V, .int .u32 A, .slice a3 l.length c3] 36)) hk8 (fun g hg => G7.out g hg))
             have G8 := Lib.hid (show ∀ g, v8.ownBlock = some g → W4.heap.size ≤ g from fun g hh => by
               rcases hg g hh with h | h
               · exact G7.out g h
               · exact Nat.le_trans (Below.size (N7.out.al (.cells #[.int .i64 K, .int .u32 I, .bool X, .bool R, .bool B, .bool E, .bool S, .int .u8 V1, .int .u8 V, .int .u32 A, .slice a3 l.length c3] 36))) h)
             have r8 := R2.out _ N8.out
             have g8 := G2.out _ N8.out
             obtain ⟨a8, c8, rfl, -, -, -, hn8⟩ := O8.out.shape
             clear ho hk8 hg)
          | (refine step_appF _ rfl (.tmp 37) (.tmp 39) rfl v7 ([] ++ LQ) (by simp [Act.eval, Act.put]) O7.out (some ⟨W4.heap.size + 1, 0, none⟩) 1 1 [((⟨K, I, X, R, B, E, S, V1, V, A⟩, l), .slice a3 l.length c3)] rfl (by simp [Act.eval, Act.put]) (fun h => by cases h) (one_cells BF7.out) (RowF.one' (D := fun _ _ _ => True) (RowF.one trivial)) (by have := LL.out; simp only [List.nil_append, List.length_singleton]; omega) ?_
             intro v8 w8 ho hk8 hg
             obtain ⟨L8, hL8⟩ : ∃ L9 : List FrI, L9 = [] ++ LQ ++ ([((⟨K, I, X, R, B, E, S, V1, V, A⟩, l), .slice a3 l.length c3)] : List FrI) := ⟨_, rfl⟩
             rw [← hL8] at ho
             have HL8 := Lib.hid hL8
             clear hL8
             have O8 := Lib.hid ho
             have N8 := Lib.hid (show Nb W4 w8 from Nb.trans' N7.out hk8 (fun g hg => G7.out g hg))
             have G8 := Lib.hid (show ∀ g, v8.ownBlock = some g → W4.heap.size ≤ g from fun g hh => by
               rcases hg g hh with h | h
               · exact G7.out g h
               · exact Nat.le_trans (Below.size N7.out) h)
             have r8 := R2.out _ N8.out
             have g8 := G2.out _ N8.out
             obtain ⟨a8, c8, rfl, -, -, -, hn8⟩ := O8.out.shape
             clear ho hk8 hg)
          | (refine step_appF _ rfl (.tmp 37) (.tmp 39) rfl v7 ([] ++ LQ) (by simp [Act.eval, Act.put]) O7.out (some ⟨W4.heap.size, 0, none⟩) 1 1 [((⟨K, I, X, R, B, E, S, V1, V, A⟩, l), .slice a3 l.length c3)] rfl (by simp [Act.eval, Act.put]) (fun h => by cases h) (one_cells BF7.out) (RowF.one' (D := fun _ _ _ => True) (RowF.one trivial)) (by have := LL.out; simp only [List.nil_append, List.length_singleton]; omega) ?_
             intro v8 w8 ho hk8 hg
             obtain ⟨L8, hL8⟩ : ∃ L9 : List FrI, L9 = [] ++ LQ ++ ([((⟨K, I, X, R, B, E, S, V1, V, A⟩, l), .slice a3 l.length c3)] : List FrI) := ⟨_, rfl⟩
             rw [← hL8] at ho
             have HL8 := Lib.hid hL8
             clear hL8
             have O8 := Lib.hid ho
             have N8 := Lib.hid (show Nb W4 w8 from Nb.trans' N7.out hk8 (fun g hg => G7.out g hg))
             have G8 := Lib.hid (show ∀ g, v8.ownBlock = some g → W4.heap.size ≤ g from fun g hh => by
               rcases hg g hh with h | h
               · exact G7.out g h
               · exact Nat.le_trans (Below.size N7.out) h)
             have r8 := R2.out _ N8.out
             have g8 := G2.out _ N8.out
             obtain ⟨a8, c8, rfl, -, -, -, hn8⟩ := O8.out.shape
             clear ho hk8 hg))
      all_goals
        go_wp2
        go_ret2
        exact push_end HB.out W4N.out HPM.out HPL.out D4.out L4.out WW.out MM.out HL8.out N8.out O8.out G8.out hn8
    · rw [show q.push ⟨K, I, X, R, B, E, S, V1, V, A⟩ l = ⟨q.room, q.over + 1, q.its⟩ by simp [Fi.push, hok, hlt], show q.pushB ⟨K, I, X, R, B, E, S, V1, V, A⟩ l = false by simp [Fi.pushB, hlt]]
      have d1 : decide ((q.room : Int) ≤ (q.its.length : Int)) = true := decide_eq_true (by omega)
      have d2 : decide (q.room ≤ q.its.length) = true := decide_eq_true (by omega)
      have d3 : (q.over : Int) + 1 < 9223372036854775808 := by omega
      have d4 : (0 : Int) ≤ (q.over : Int) := by omega
      have NN2 := Lib.hid hnn
      clear hb hi hPm hPl hnn hbs hok hlt
      go_enter Tryd.func18, Tryd.ntmps18
      go_wp2_with fail
      refine (CK.out _).mono ?_
      rintro e w1 ⟨rfl, n1⟩
      have N1 := Lib.hid ((Nb.rfl.al _).tr n1)
      have hb1 := HB.out.nb N1.out
      have r0 := hb1.cell 0
      have r1 := hb1.cell 1
      have r2 := hb1.cell 2
      have s1 := hb1.frozen 1
      simp only [List.getElem?_toArray, List.getElem?_cons_zero, List.getElem?_cons_succ] at r0 r1 r2
      clear n1 hb1
      go_wp2_with fail
      go_quiet (fail)
      rename_i nq
      have ND := Lib.hid (N1.out.tr (Nb.drewN w1 nq))
      clear r0 r1 r2 s1 N1
      generalize w1.drewN nq = wd at *
      have hb1 := HB.out.nb ND.out
      have r1 := hb1.cell 1
      have s1 := hb1.frozen 1
      simp only [List.getElem?_toArray, List.getElem?_cons_zero, List.getElem?_cons_succ] at r1
      have b2 := hb1.set 1 (.int .i64 ((q.over : Int) + 1))
      have k2 : Kp (fun k => k = m) wd (wd.setCell ⟨m, 1, none⟩ (.int .i64 ((q.over : Int) + 1))) := Kp.set (F := fun k => k = m) rfl
      have RP := Lib.hid (show RF (wd.setCell ⟨m, 1, none⟩ (.int .i64 ((q.over : Int) + 1))) m ⟨q.room, q.over + 1, q.its⟩ P from ⟨a, c, by
        have e : ((q.over + 1 : Nat) : Int) = (q.over : Int) + 1 := by push_cast; rfl
        show Blk _ m #[.int .i64 (q.room : Nat), .int .i64 ((q.over + 1 : Nat) : Int), .slice a q.its.length c] _
        rw [e]
        exact b2, (HI.out.nb ND.out).keep k2 (fun k hk e => HPM.out (by rw [← e]; exact hk)), HPM.out, fun k hk => Nat.lt_of_lt_of_le (HPL.out k hk) (Nat.le_trans ND.out.size k2.size), NN2.out⟩)
      have KP := Lib.hid ((Kp.ofNb (F := fun k => k = m) ND.out).tr k2 (fun k hk => .inl hk))
      clear hb1 b2 k2
      go_wp2
      go_ret2
      exact ⟨rfl, P, RP.out, KP.out, fun k hk => .inl hk⟩
end Go.Proofs.YtlmbggmamemmjaaDoor
