
/- The program's ring, said of the fifo: place, at, put, take; a fifo that is built and stored whole. No conditions. -/
import Derived.Test.YtlmbggmamemmjaaDoorFiR
import Derived.Test.YtlmbggmamemmjaaDoorFiV
import Derived.Laws.Tables
namespace Go.Proofs.YtlmbggmamemmjaaDoor
set_option linter.unusedVariables false
set_option linter.unusedSimpArgs false
open Go.RowKit

theorem frR {w : World} {R first : Nat} {q : Fi} {D : Nat → Prop} {cs : Array Value} (hb : Blk w R cs 59) (hc : FiC w cs first q D) {j : Nat} (hj : j < q.its.length) {K I : Int} {X P B E S : Bool} {V1 V A : Int} {l : List Nat} (hf : q.its.getD j dF = (⟨K, I, X, P, B, E, S, V1, V, A⟩, l)) :
    ∃ a c, DatP w a c l D ∧ ∀ i, i < 11 → cs[2 + (first + j) % 64 * 11 + i]? = (csL ⟨K, I, X, P, B, E, S, V1, V, A⟩ (.slice a l.length c))[i]? := by
  obtain ⟨a, c, h1, h2⟩ := hc.ring j hj
  rw [hf] at h1 h2
  exact ⟨a, c, h2, h1⟩

set_option maxHeartbeats 800000 in
theorem atM_any {w : World} {R first : Nat} {q : Fi} {D : Nat → Prop} (h : FiM w R first q D) {j : Nat} (hj : j < q.its.length) :
    Calls Tryd.prog 29 #[.pointer (some ⟨R, 2, none⟩), .int .i64 (j : Nat)] w fun e w' => ∃ a c, e = .returned (.agg ((q.its.getD j dF).1.cs (.slice a (q.its.getD j dF).2.length c))) ∧ DatP w a c (q.its.getD j dF).2 D ∧ Nb w w' := by
  obtain ⟨⟨cs, hb, hc⟩, hap, ho, hl⟩ := h
  have hj64 : j ≤ 64 := by
    have := ho.its
    have := ho.room
    omega
  obtain ⟨⟨⟨K, I, X, P, B, E, S, V1, V, A⟩, l⟩, hf⟩ : ∃ x, q.its.getD j dF = x := ⟨_, rfl⟩
  obtain ⟨a, c, hd, g⟩ := frR hb hc hj hf
  rw [hf]
  have k := fun i (hi : i < 11) => (hb.cell (2 + (first + j) % 64 * 11 + i)).trans (g i hi)
  exact (at16_any R first j _ K I X P B E S V1 V A a l.length c w ((hb.cell 706).trans hc.c2) hl hj64 rfl (k 0 (by omega)) (k 1 (by omega)) (k 2 (by omega)) (k 3 (by omega)) (k 4 (by omega)) (k 5 (by omega)) (k 6 (by omega)) (k 7 (by omega)) (k 8 (by omega)) (k 9 (by omega)) (k 10 (by omega))).mono fun e w' ⟨h1, h2⟩ => ⟨a, c, h1, hd, h2⟩

theorem getD_app_lt {L M : List (Hd × List Nat)} {j : Nat} (h : j < L.length) : (L ++ M).getD j dF = L.getD j dF := by simp [List.getD, List.getElem?_append_left h]
theorem getD_app_eq {L : List (Hd × List Nat)} {x : Hd × List Nat} : (L ++ [x]).getD L.length dF = x := by simp [List.getD]

set_option maxHeartbeats 1600000 in
theorem putM_any {w : World} {R first : Nat} {q : Fi} {D P : Nat → Prop} (h : FiM w R first q D) (hlt : q.its.length < q.room) (f : Hd) (l : List Nat) (a : Option Addr) (c : Nat) (hd : DatP w a c l P) (hP : ∀ k, P k → k ≠ R ∧ k < w.heap.size) (hl2 : l.length ≤ 2048) :
    Calls Tryd.prog 27 #[.pointer (some ⟨R, 2, none⟩), .agg (f.cs (.slice a l.length c))] w fun e w' => e = .returned (.tuple #[]) ∧ FiM w' R first ⟨q.room, q.over, q.its ++ [(f, l)]⟩ (fun k => D k ∨ P k) ∧ Kp (fun k => k = R) w w' := by
  obtain ⟨⟨cs, hb, hc⟩, hap, ho, hl⟩ := h
  have h64 : q.its.length < 64 := by
    have := ho.room
    omega
  obtain ⟨n, hn⟩ : ∃ n, n = q.its.length := ⟨_, rfl⟩
  obtain ⟨s, hs⟩ : ∃ s, s = (first + n) % 64 := ⟨_, rfl⟩
  have hs64 : s < 64 := by omega
  have hsz := hc.size
  obtain ⟨u0, u1, u2, u3, u4, u5, u6, u7, u8, u9, u10, k0, k1, k2, k3, k4, k5, k6, k7, k8, k9, k10⟩ := hb.slot (o := 2 + s * 11) (by omega)
  obtain ⟨K, I, X, P', B, E, S, V1, V, A⟩ := f
  refine (put16_raw R first n s u0 u1 u2 u3 u4 u5 u6 u7 u8 u9 u10 K I X P' B E S V1 V A a l.length c w cs hb ((hb.cell 706).trans hc.c2) ((hb.cell 707).trans (by rw [hn]; exact hc.c3)) hl (by omega) hs k0 k1 k2 k3 k4 k5 k6 k7 k8 k9 k10).mono ?_
  rintro e w' ⟨rfl, rfl⟩
  obtain ⟨cs', b1, b2, b3, b4⟩ := Blk.sets (csL ⟨K, I, X, P', B, E, S, V1, V, A⟩ (.slice a l.length c)) (2 + s * 11) w cs hb
  rw [csL_len] at b3 b4
  have b5 := b1.set 707 (.int .i64 ((n : Int) + 1))
  have kp : Kp (fun k => k = R) w ((w.setCells R (2 + s * 11) (csL ⟨K, I, X, P', B, E, S, V1, V, A⟩ (.slice a l.length c))).setCell ⟨R, 707, none⟩ (.int .i64 ((n : Int) + 1))) := (Kp.sets (F := fun k => k = R) rfl _ _ _).tr (Kp.set (F := fun k => k = R) rfl) (fun _ h => .inl h)
  have nbE : Nb ((w.setCells R (2 + s * 11) (csL ⟨K, I, X, P', B, E, S, V1, V, A⟩ (.slice a l.length c))).setCell ⟨R, 707, none⟩ (.int .i64 ((n : Int) + 1))) ((((w.setCells R (2 + s * 11) (csL ⟨K, I, X, P', B, E, S, V1, V, A⟩ (.slice a l.length c))).setCell ⟨R, 707, none⟩ (.int .i64 ((n : Int) + 1))).alloc (.cells #[.int .i64 K, .int .u32 I, .bool X, .bool P', .bool B, .bool E, .bool S, .int .u8 V1, .int .u8 V, .int .u32 A, .slice a l.length c] 36)).drew) := (Nb.rfl.al _).tr (Nb.drewN _ 1)
  have kpE : Kp (fun k => k = R) w ((((w.setCells R (2 + s * 11) (csL ⟨K, I, X, P', B, E, S, V1, V, A⟩ (.slice a l.length c))).setCell ⟨R, 707, none⟩ (.int .i64 ((n : Int) + 1))).alloc (.cells #[.int .i64 K, .int .u32 I, .bool X, .bool P', .bool B, .bool E, .bool S, .int .u8 V1, .int .u8 V, .int .u32 A, .slice a l.length c] 36)).drew) := kp.tr (Kp.ofNb (F := fun _ => False) nbE) (fun _ h => h.elim)
  refine ⟨rfl, ⟨⟨_, b5.nb nbE, ?_⟩, ?_, ⟨?_, ho.room, fun x hx => ?_⟩, hl⟩, kpE⟩
  · have ne : ∀ k, k ≠ 707 → (cs'.setIfInBounds 707 (.int .i64 ((n : Int) + 1)))[k]? = cs'[k]? := fun k hk => Array.getElem?_setIfInBounds_ne (fun h => hk h.symm)
    refine ⟨by rw [Array.size_setIfInBounds, b2]; exact hsz, ?_, ?_, ?_, ?_, ?_⟩
    · rw [ne 0 (by omega), b4 0 (by omega)]
      exact hc.c0
    · rw [ne 1 (by omega), b4 1 (by omega)]
      exact hc.c1
    · rw [ne 706 (by omega), b4 706 (by omega)]
      exact hc.c2
    · rw [Array.getElem?_setIfInBounds_self_of_lt (by omega)]
      show some (Value.int .i64 ((n : Int) + 1)) = some (Value.int .i64 (((q.its ++ [_]).length : Nat) : Int))
      rw [List.length_append, List.length_singleton, hn]
      push_cast
      rfl
    · intro j hj
      dsimp only at hj ⊢
      have hj' : j < q.its.length + 1 := by
        have : j < (q.its ++ [((⟨K, I, X, P', B, E, S, V1, V, A⟩, l) : Hd × List Nat)]).length := hj
        rwa [List.length_append, List.length_singleton] at this
      by_cases hjn : j < q.its.length
      · rw [getD_app_lt hjn]
        obtain ⟨a', c', g1, g2⟩ := hc.ring j hjn
        refine ⟨a', c', fun i hi => ?_, (g2.keep kpE (fun k hk => (hap k hk).1)).up (fun k hk => .inl hk)⟩
        have hne : (first + j) % 64 ≠ s := by omega
        have hj64 : (first + j) % 64 < 64 := Nat.mod_lt _ (by omega)
        rw [ne _ (by omega), b4 _ (by omega)]
        exact g1 i hi
      · obtain rfl : j = q.its.length := by omega
        rw [getD_app_eq, ← hn, ← hs]
        refine ⟨a, c, fun i hi => ?_, (hd.keep kpE (fun k hk => (hP k hk).1)).up (fun k hk => .inr hk)⟩
        rw [ne _ (by omega)]
        exact b3 i hi (by omega)
  · rintro k (hk | hk)
    · exact ⟨(hap k hk).1, Nat.lt_of_lt_of_le (hap k hk).2 kpE.size⟩
    · exact ⟨(hP k hk).1, Nat.lt_of_lt_of_le (hP k hk).2 kpE.size⟩
  · show (q.its ++ [_]).length ≤ q.room
    rw [List.length_append, List.length_singleton]
    omega
  · rcases List.mem_append.1 hx with hx | hx
    · exact ho.len x hx
    · obtain rfl := List.mem_singleton.1 hx
      exact hl2

set_option maxHeartbeats 1600000 in
theorem takeM_any {w : World} {R first : Nat} {q : Fi} {D : Nat → Prop} (h : FiM w R first q D) (h0 : 0 < q.its.length) :
    Calls Tryd.prog 25 #[.pointer (some ⟨R, 2, none⟩)] w fun e w' => ∃ a c, e = .returned (.agg (q.head.1.cs (.slice a q.head.2.length c))) ∧ DatP w' a c q.head.2 D ∧ FiM w' R ((first + 1) % 64) q.pop D ∧ Kp (fun k => k = R) w w' := by
  obtain ⟨⟨cs, hb, hc⟩, hap, ho, hl⟩ := h
  unfold Fi.head
  obtain ⟨n, hn⟩ : ∃ n, q.its.length = n + 1 := ⟨q.its.length - 1, by omega⟩
  have h64 : n < 64 := by
    have := ho.its
    have := ho.room
    omega
  have hsz := hc.size
  obtain ⟨⟨⟨K, I, X, P, B, E, S, V1, V, A⟩, l⟩, hf⟩ : ∃ x, q.its.getD 0 dF = x := ⟨_, rfl⟩
  obtain ⟨a, c, hd, g⟩ := frR hb hc h0 hf
  rw [hf]
  rw [Nat.add_zero, Nat.mod_eq_of_lt hl] at g
  refine (take16_raw R first n K I X P B E S V1 V A a l.length c w cs hb hc.c2 (by rw [hc.c3, hn]; push_cast; rfl) hl h64 (g 0 (by omega)) (g 1 (by omega)) (g 2 (by omega)) (g 3 (by omega)) (g 4 (by omega)) (g 5 (by omega)) (g 6 (by omega)) (g 7 (by omega)) (g 8 (by omega)) (g 9 (by omega)) (g 10 (by omega))).mono ?_
  rintro e w' ⟨rfl, w1, n1, k2⟩
  obtain ⟨cs', b1, b2, b3, b4⟩ := Blk.sets [.int .i64 0, .int .u32 0, .bool false, .bool false, .bool false, .bool false, .bool false, .int .u8 0, .int .u8 0, .int .u32 0, .slice none 0 0] (2 + first * 11) w1 cs (hb.nb n1)
  rw [show [Value.int .i64 0, .int .u32 0, .bool false, .bool false, .bool false, .bool false, .bool false, .int .u8 0, .int .u8 0, .int .u32 0, .slice none 0 0].length = 11 from rfl] at b3 b4
  have b5 := (b1.set 706 (.int .i64 (((first : Int) + 1) % 64))).set 707 (.int .i64 (n : Nat))
  have k1 : Kp (fun k => k = R) w1 (((w1.setCells R (2 + first * 11) [.int .i64 0, .int .u32 0, .bool false, .bool false, .bool false, .bool false, .bool false, .int .u8 0, .int .u8 0, .int .u32 0, .slice none 0 0]).setCell ⟨R, 706, none⟩ (.int .i64 (((first : Int) + 1) % 64))).setCell ⟨R, 707, none⟩ (.int .i64 (n : Nat))) :=
    ((Kp.sets (F := fun k => k = R) rfl _ _ _).tr (Kp.set (F := fun k => k = R) rfl) (fun _ h => .inl h)).tr (Kp.set (F := fun k => k = R) rfl) (fun _ h => .inl h)
  have hRl := hb.lt
  have b6 := b5.keep k2 (show ¬ w.heap.size ≤ R by omega)
  have kA : Kp (fun k => k = R) w w' := ((Kp.ofNb (F := fun k => k = R) n1).tr k1 (fun k h => .inl h)).tr k2 (fun k h => .inr h)
  refine ⟨a, c, rfl, hd.keep kA (fun k hk => (hap k hk).1), ⟨⟨_, b6, ?_⟩, fun k hk => ⟨(hap k hk).1, Nat.lt_of_lt_of_le (hap k hk).2 kA.size⟩, ho.pop, Nat.mod_lt _ (by omega)⟩, kA⟩
  have ne : ∀ k, k ≠ 706 → k ≠ 707 → ((cs'.setIfInBounds 706 (.int .i64 (((first : Int) + 1) % 64))).setIfInBounds 707 (.int .i64 (n : Nat)))[k]? = cs'[k]? := fun k hk hk2 => by
    rw [Array.getElem?_setIfInBounds_ne (fun h => hk2 h.symm), Array.getElem?_setIfInBounds_ne (fun h => hk h.symm)]
  refine ⟨by rw [Array.size_setIfInBounds, Array.size_setIfInBounds, b2]; exact hsz, ?_, ?_, ?_, ?_, ?_⟩
  · rw [ne 0 (by omega) (by omega), b4 0 (by omega)]
    exact hc.c0
  · rw [ne 1 (by omega) (by omega), b4 1 (by omega)]
    exact hc.c1
  · rw [Array.getElem?_setIfInBounds_ne (by omega), Array.getElem?_setIfInBounds_self_of_lt (by omega)]
    push_cast
    rfl
  · rw [Array.getElem?_setIfInBounds_self_of_lt (by rw [Array.size_setIfInBounds]; omega)]
    show some (Value.int .i64 (n : Nat)) = some (Value.int .i64 ((q.its.tail.length : Nat) : Int))
    rw [List.length_tail, hn]
    rfl
  · intro j hj
    have hj' : j < q.its.tail.length := hj
    rw [List.length_tail, hn] at hj'
    have e : q.pop.its.getD j dF = q.its.getD (j + 1) dF := by
      show q.its.tail.getD j dF = _
      simp [List.getD]
    rw [e]
    obtain ⟨a', c', g1, g2⟩ := hc.ring (j + 1) (by omega)
    refine ⟨a', c', fun i hi => ?_, g2.keep kA (fun k hk => (hap k hk).1)⟩
    have hm : ((first + 1) % 64 + j) % 64 = (first + (j + 1)) % 64 := by omega
    rw [hm]
    have hne : (first + (j + 1)) % 64 ≠ first := by omega
    have hj64 : (first + (j + 1)) % 64 < 64 := Nat.mod_lt _ (by omega)
    rw [ne _ (by omega) (by omega), b4 _ (by omega)]
    exact g1 i hi

/-- A fifo's cells, built whole. -/
structure ZFi (room : Int) (Z : Array Value) : Prop where
  size : Z.size = 708
  c0 : Z[0]? = some (.int .i64 room)
  c1 : Z[1]? = some (.int .i64 0)
  c2 : Z[706]? = some (.int .i64 0)
  c3 : Z[707]? = some (.int .i64 0)
  one : Z.all (·.oneCell') = true
theorem built16 (room : Int) : (Tryd.prog.built 59 [(0, .int .i64 room)]).map (fun Z => (Z.size, Z[0]?, Z[1]?, Z[706]?, Z[707]?, Z.all (·.oneCell'))) = some (708, some (.int .i64 room), some (.int .i64 0), some (.int .i64 0), some (.int .i64 0), true) := by kernel_rfl
theorem info16 : (Tryd.prog.info? 59).map (·.size) = some 708 := by kernel_rfl
theorem wpList_build16 {ops : Array Oper} {rest : List Oper} {o : Oper} {a : Act} {w : World} {Q : Exit → Act → World → Prop} (hg : o.guard = none) (x : Operand) (ho : o.op = .build 59 #[(0, x)]) (room : Int) (hx : a.eval x = .int .i64 room)
    (h : ∀ Z, ZFi room Z → wpList Tryd.prog ops Q rest (a.put o.dst (.agg Z)) w) : wpList Tryd.prog ops Q (o :: rest) a w := by
  have hp : (#[(0, x)].map fun ((i, x) : Nat × Operand) => (i, a.eval x)).toList = [(0, .int .i64 room)] := by simp [hx]
  have hb := built16 room
  cases hq : Tryd.prog.built 59 [(0, .int .i64 room)] with
  | none => rw [hq] at hb; cases hb
  | some Z =>
    rw [hq] at hb
    simp only [Option.map_some, Option.some.injEq, Prod.mk.injEq] at hb
    obtain ⟨h1, h2, h3, h4, h5, h6⟩ := hb
    refine wpList_build hg 59 #[(0, x)] ho (by rw [hp, hq]; rfl) ?_
    rw [hp, hq]
    exact h Z ⟨h1, h2, h3, h4, h5, h6⟩
theorem wpList_store16 {ops : Array Oper} {rest : List Oper} {o : Oper} {a : Act} {w : World} {Q : Exit → Act → World → Prop} (hg : o.guard = none) (x y : Operand) (ho : o.op = .store 59 x y) (R : Nat) (hx : a.eval x = .pointer (some ⟨R, 0, none⟩)) (room : Int) (Z : Array Value) (hy : a.eval y = .agg Z) (hZ : ZFi room Z) (cs : Array Value) (hb : Blk w R cs 59) (hs : cs.size = 708)
    (h : wpList Tryd.prog ops Q rest (a.put o.dst undef) (w.setRow R Z)) : wpList Tryd.prog ops Q (o :: rest) a w :=
  wpList_plain hg fun _ hK => wp_store_row 59 x y ho R Z hx hy 59 cs hb (by rw [hZ.size]; exact info16) (by rw [hZ.size]; exact hs) hZ.one (hK _ _ h)
theorem Kp.setRow (w : World) (R : Nat) (Z : Array Value) : Kp (fun k => k = R) w (w.setRow R Z) := by
  refine ⟨Eq.refl _, Eq.refl _, Eq.refl _, by simp [World.setRow], fun k hk hn => ?_⟩
  simp only [World.setRow, Array.getElem?_modify]
  rw [if_neg (fun h => hn h.symm)]
theorem Blk.setRow {w : World} {R : Nat} {cs : Array Value} {t : TypeId} (h : Blk w R cs t) (Z : Array Value) : Blk (w.setRow R Z) R Z t := by
  unfold Blk at *
  simp [World.setRow, Array.getElem?_modify, h]
theorem ZFi.fi {room : Nat} {Z : Array Value} (h : ZFi (room : Nat) Z) (w : World) (D : Nat → Prop) : FiC w Z 0 ⟨room, 0, []⟩ D :=
  ⟨h.size, h.c0, h.c1, h.c2, h.c3, fun j hj => by simp at hj⟩
end Go.Proofs.YtlmbggmamemmjaaDoor
