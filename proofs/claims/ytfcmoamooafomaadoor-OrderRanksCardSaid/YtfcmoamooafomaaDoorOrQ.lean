
/- The program's placesOf: the heap of the places of some frames. Condition: at most a thousand frames; the table of longer sizes holds what the program's text lays there. -/
import Derived.Test.YtfcmoamooafomaaDoorHpE
import Derived.Test.YtfcmoamooafomaaDoorOrF
import Derived.Test.YtfcmoamooafomaaDoorOrK
import Derived.Test.YtfcmoamooafomaaDoorRkP
namespace Go.Proofs.YtfcmoamooafomaaDoor
set_option linter.unusedVariables false
set_option linter.unusedSimpArgs false
open Go.RowKit

def keysV (fs : List (Hd × List Nat)) : List Nat := fs.map fun p => keyF p.1
def allOk (fs : List (Hd × List Nat)) : Bool := fs.all fun p => okF p.1 p.2
theorem keysV_len (fs : List (Hd × List Nat)) : (keysV fs).length = fs.length := by simp [keysV]
theorem fs_take (fs : List (Hd × List Nat)) {k : Nat} (h : k < fs.length) : fs.take (k + 1) = fs.take k ++ [fs.getD k dF] := by
  rw [List.take_add_one]
  simp [List.getD, h]
theorem keysV_take (fs : List (Hd × List Nat)) {k : Nat} (h : k < fs.length) : keysV (fs.take (k + 1)) = keysV (fs.take k) ++ [keyF (fs.getD k dF).1] := by
  rw [fs_take fs h]
  simp only [keysV, List.map_append, List.map_cons, List.map_nil]
theorem allOk_take (fs : List (Hd × List Nat)) {k : Nat} (h : k < fs.length) : allOk (fs.take (k + 1)) = (allOk (fs.take k) && okF (fs.getD k dF).1 (fs.getD k dF).2) := by
  rw [fs_take fs h]
  simp only [allOk, List.all_append, List.all_cons, List.all_nil, Bool.and_true]
theorem allOk_bad {fs : List (Hd × List Nat)} {k : Nat} (h : k < fs.length) (hb : okF (fs.getD k dF).1 (fs.getD k dF).2 = false) : allOk fs = false := by
  rw [allOk, List.all_eq_false]
  refine ⟨fs[k], List.getElem_mem h, ?_⟩
  have e : fs.getD k dF = fs[k] := by simp [List.getD, h]
  rw [e] at hb
  simp [hb]

/-! Rows of places of the own call. -/
def cellsP (l : List (Nat × Nat)) : List Value := l.flatMap fun p => [.int .u64 (p.1 : Nat), .int .i64 (p.2 : Nat)]
theorem cellsP_len (l : List (Nat × Nat)) : (cellsP l).length = l.length * 2 := by
  induction l with
  | nil => rfl
  | cons p l ih => simp only [cellsP, List.flatMap_cons, List.length_append, List.length_cons, List.length_nil] at *; omega
theorem cellsP_app (l m : List (Nat × Nat)) : cellsP (l ++ m) = cellsP l ++ cellsP m := by simp [cellsP]
theorem cellsP_get (l : List (Nat × Nat)) : ∀ j, j < l.length → (cellsP l)[j * 2]? = some (.int .u64 ((l.getD j d0).1 : Nat)) ∧ (cellsP l)[j * 2 + 1]? = some (.int .i64 ((l.getD j d0).2 : Nat)) := by
  induction l with
  | nil => intro j h; simp at h
  | cons p l ih =>
    intro j h
    have e : cellsP (p :: l) = .int .u64 (p.1 : Nat) :: .int .i64 (p.2 : Nat) :: cellsP l := rfl
    rw [e]
    cases j with
    | zero => exact ⟨rfl, rfl⟩
    | succ j =>
      have := ih j (by simpa using h)
      rw [show (j + 1) * 2 = j * 2 + 1 + 1 by omega]
      simpa using this
theorem infoPlace : (Tryd.prog.info? 67).map (fun i => (i.zero, i.size, i.bytes)) = some (some (.agg #[.int .u64 0, .int .i64 0]), 2, 16) := by kernel_rfl
def OwnP (w : World) (v : Value) (l : List (Nat × Nat)) : Prop := w.ownsRow 0 67 2 v l.length (cellsP l)
theorem OwnP.nil (w : World) : OwnP w (.slice none 0 0) [] := World.ownsRow_nil _ _ _ _
theorem OwnP.keep {F : Nat → Prop} {w w' : World} {v : Value} {l : List (Nat × Nat)} (h : OwnP w v l) (hk : Kp F w w') (hn : ∀ g, v.ownBlock = some g → ¬ F g) : OwnP w' v l := by
  obtain ⟨h1, h2⟩ := h
  refine ⟨h1, ?_⟩
  rcases h2 with h2 | ⟨g, cap, cur, rfl, hb, hg, r⟩
  · exact .inl h2
  · exact .inr ⟨g, cap, cur, rfl, hb, (hk.block g (Array.getElem?_eq_some_iff.1 hg).1 (hn g rfl)).trans hg, r⟩
theorem OwnP.nb {w w' : World} {v : Value} {l : List (Nat × Nat)} (h : OwnP w v l) (hb : Nb w w') : OwnP w' v l := h.keep (F := fun _ => False) (Kp.ofNb hb) (by simp)
theorem OwnP.shape {w : World} {v : Value} {l : List (Nat × Nat)} (h : OwnP w v l) : ∃ a c, v = .slice a l.length c := by
  rcases h.2 with ⟨rfl, h2⟩ | ⟨g, cap, cur, rfl, _⟩
  · exact ⟨none, 0, by rw [h2]⟩
  · exact ⟨_, cap, rfl⟩
theorem OwnP.pl {w : World} {v : Value} {l : List (Nat × Nat)} {R B : Nat} (h : OwnP w v l) (hb : Blk w R #[v, ahF] 70) (hc : l.length ≤ 1000) (hv : ∀ g, v.ownBlock = some g → R < g) (hB : B ≤ R) : ∃ G a cap, v = .slice a l.length cap ∧ PlAt w R G a cap l ∧ B ≤ G := by
  rcases h.2 with ⟨rfl, h2⟩ | ⟨g, cap, cur, rfl, hb0, hg, hn, hc, hs, ht⟩
  · refine ⟨R + 1, none, 0, by rw [h2], ⟨by rw [h2]; exact hb, by omega, by omega, by omega, fun h0 => by omega⟩, by omega⟩
  · have hRg := hv g rfl
    unfold maxLen at hc
    refine ⟨g, some ⟨g, 0, none⟩, cap, rfl, ⟨hb, by omega, hn, hc, fun _ => ⟨rfl, cur, hg, by omega, fun j hj => ?_⟩⟩, by omega⟩
    obtain ⟨e1, e2⟩ := cellsP_get l j hj
    rw [← ht, List.getElem?_take_of_lt (by omega), Array.getElem?_toList] at e1 e2
    exact ⟨e1, e2⟩

/-- One place onto such a row. -/
theorem wpList_appP (w : World) {ops : Array Oper} {rest : List Oper} {o : Oper} {a : Act} {Q : Exit → Act → World → Prop}
    (hg : o.guard = none) (s x : Operand) (hop : o.op = Op.call { callee := Callee.builtin Builtin.append, args := #[s, x], argTypes := #[68, 68] })
    (v : Value) (l : List (Nat × Nat)) (hs : a.eval s = v) (hown : OwnP w v l)
    (b : Nat) (p : Nat × Nat) (hx : a.eval x = .slice (some ⟨b, 0, none⟩) 1 1) (hb0 : w.cell? ⟨b, 0, none⟩ = some (.int .u64 (p.1 : Nat))) (hb1 : w.cell? ⟨b, 1, none⟩ = some (.int .i64 (p.2 : Nat)))
    (b1 : l.length + 1 ≤ 4398046511104)
    (hK : ∀ v' w', OwnP w' v' (l ++ [p]) → Kp (fun k => v.ownBlock = some k) w w' → (∀ g, v'.ownBlock = some g → v.ownBlock = some g ∨ w.heap.size ≤ g) → wpList Tryd.prog ops Q rest (a.put o.dst v') w') :
    wpList Tryd.prog ops Q (o :: rest) a w := by
  obtain ⟨i0, hi, hz0, hz1, hz2⟩ := info_parts infoPlace
  refine wpList_app w hg s x 68 hop 67 i0 (.agg #[.int .u64 0, .int .i64 0]) 2 16 Tryd.underlying68 hi hz0 hz1 hz2 rfl (by decide) v l.length _ hs hown (some ⟨b, 0, none⟩) 1 1 [.int .u64 (p.1 : Nat), .int .i64 (p.2 : Nat)] hx rfl (fun h => by cases h) ?_ ?_ (by unfold maxLen; omega) (by omega) ?_
  · intro ad had j u hu
    obtain rfl := Option.some.inj had
    match j, hu with
    | 0, hu => simp at hu; subst hu; simpa [Addr.add] using hb0
    | 1, hu => simp at hu; subst hu; simpa [Addr.add] using hb1
    | j + 2, hu => simp at hu
  · intro u hu
    simp at hu
    rcases hu with rfl | rfl <;> rfl
  · intro v' w' ho hgr hbl
    exact hK v' w' (by simpa [OwnP, cellsP_app, cellsP] using ho) (Kp.grown hgr (fun k hk => hk)) hbl

/-- What placesOf answers. -/
def PlsV (w : World) (fs : List (Hd × List Nat)) (e : Ending) (w' : World) : Prop :=
  if allOk fs then ∃ R G a cap l, e = .returned (.tuple #[.pointer (some ⟨R, 0, none⟩), .int .i64 0]) ∧ PlAt w' R G a cap l ∧ l.Perm (prs (keysV fs)) ∧ HpF l l.length 0 ∧ w.heap.size ≤ R ∧ w.heap.size ≤ G
  else e = .returned (.tuple #[.pointer none, .int .i64 2])

set_option maxHeartbeats 3200000 in
set_option maxRecDepth 100000 in
theorem placesOf_any (a : Option Addr) (cap : Nat) (fs : List (Hd × List Nat)) (w : World) (h : FrsAt w a cap fs) (hn : fs.length ≤ 1000) (hl : Longer w) :
    Calls Tryd.prog 28 #[.slice a fs.length cap] w fun e w' => PlsV w fs e w' ∧ Nb w w' := by
  have HF := Lib.hid h
  have HL := Lib.hid hl
  have hL := h.len
  have hcap := h.hcap
  clear h hl
  have HB := Lib.hid (Blk.new w #[.slice none 0 0, ahF] 70)
  unfold ahF at HB
  go_enter Tryd.func28, Tryd.ntmps28
  go_wp2
  generalize hw0 : w.alloc (.cells #[.slice none 0 0, .func (.func 41) #[] #[]] 70) = w0 at HB ⊢
  have HN0 := Lib.hid (show Nb w w0 by rw [← hw0]; exact Nb.rfl.al _)
  have HSz := Lib.hid (show w0.heap.size = w.heap.size + 1 by rw [← hw0, World.size_alloc])
  clear hw0
  obtain ⟨R, hR⟩ : ∃ R, R = w.heap.size := ⟨_, rfl⟩
  have HR := Lib.hid hR
  rw [← hR] at HB ⊢
  have hRl := HB.out.lt
  clear hR
  go_loopw [13] (fun ix wr => ∃ (k : Nat) (v : Value), k ≤ fs.length ∧ ix = .int .i64 k ∧ allOk (fs.take k) = true ∧ Blk wr R #[v, .func (.func 41) #[] #[]] 70 ∧ OwnP wr v (prs (keysV (fs.take k))) ∧ (∀ g, v.ownBlock = some g → R < g) ∧ Nb w wr) (fun ix _ => fs.length - (intOf ix).toNat)
  case atStart => exact ⟨0, .slice none 0 0, Nat.zero_le _, rfl, by simp [allOk], HB.out, OwnP.nil _, by simp [Value.ownBlock], HN0.out⟩
  case round =>
    obtain ⟨k, v, hk, rfl, hok, hb, ho, hv, hnb⟩ := hrel
    have HK := Lib.hid hok
    have HBl := Lib.hid hb
    have HO := Lib.hid ho
    have HV := Lib.hid hv
    have HN := Lib.hid hnb
    clear hok hb ho hv hnb
    by_cases hlt : k < fs.length
    · obtain ⟨b, o, rfl, hcc⟩ := HF.out.hcells (by omega)
      clear hcc
      have hat := fun K I X R B E S D V A l => (HF.out.below HN.out).at hlt (K := K) (I := I) (X := X) (R := R) (B := B) (E := E) (S := S) (D := D) (V := V) (A := A) (l := l)
      have HT := Lib.hid (keysV_take fs hlt)
      have HA := Lib.hid (allOk_take fs hlt)
      have HBad := Lib.hid (fun hb => allOk_bad (fs := fs) hlt hb)
      obtain ⟨⟨⟨K, I, X, RT, B, E, S, D, V, A⟩, l⟩, hf⟩ : ∃ p, p = fs.getD k dF := ⟨_, rfl⟩
      obtain ⟨a', c', ⟨c0, c1, c2, c3, c4, c5, c6, c7, c8, c9, c10⟩, hW, hKw, hBs, hnn⟩ := hat K I X RT B E S D V A l hf.symm
      rw [← hf] at HT HA HBad
      clear hat hf
      have KC0 := (fun w' (n : Nb wr w') => key_any ⟨K, I, X, RT, B, E, S, D, V, A⟩ a' c' l w' (hBs.below n) hW.1 ((HL.out.below HN.out).below n))
      unfold AnsK at KC0
      simp only [Hd.cs] at KC0
      have KC := Lib.hid KC0
      clear KC0
      have HLv := Lib.hid (keysV_len (fs.take k))
      have hlL := hBs.len
      clear hW hKw hBs hnn
      have hi : (k : Int) < (fs.length : Int) := by omega
      obtain ⟨va, vc, hve⟩ := HO.out.shape
      subst hve
      cases hcase : okF ⟨K, I, X, RT, B, E, S, D, V, A⟩ l with
      | false =>
        rw [show checkN ⟨K, I, X, RT, B, E, S, D, V, A⟩ l = 2 by simp [checkN, hcase]] at KC
        generalize keyV ⟨K, I, X, RT, B, E, S, D, V, A⟩ l = kv at KC
        have hbad := HBad.out hcase
        have HX := Lib.hid hbad
        clear hcase hbad HBad HA HT HK
        go_wp2_with fail
        refine (KC.out _ (Nb.rfl.al _)).mono ?_
        rintro e w1 ⟨rfl, n1⟩
        have N1 := Lib.hid (HN.out.tr ((Nb.rfl.al _).tr n1))
        clear n1 c0 c1 c2 c3 c4 c5 c6 c7 c8 c9 c10
        go_wp2
        go_ret2
        refine ⟨?_, N1.out⟩
        unfold PlsV
        rw [if_neg (by rw [HX.out]; simp)]
        rfl
      | true =>
        rw [show checkN ⟨K, I, X, RT, B, E, S, D, V, A⟩ l = 0 by simp [checkN, hcase], show keyV ⟨K, I, X, RT, B, E, S, D, V, A⟩ l = keyF ⟨K, I, X, RT, B, E, S, D, V, A⟩ by simp [keyV, hcase]] at KC
        have HA2 := Lib.hid (show allOk (fs.take (k + 1)) = true by rw [HA.out, HK.out]; simpa using hcase)
        simp only at HT
        generalize keyF ⟨K, I, X, RT, B, E, S, D, V, A⟩ = kf at KC HT
        clear hcase HBad HA HK
        have hpl : (prs (keysV (fs.take k))).length = k := by rw [prs, List.length_zipIdx, HLv.out, List.length_take]; omega
        have HPl := Lib.hid hpl
        have HT2 := Lib.hid (show prs (keysV (fs.take (k + 1))) = prs (keysV (fs.take k)) ++ [(kf, k)] by rw [HT.out, prs_snoc, HLv.out, List.length_take, Nat.min_eq_left (by omega)])
        clear HT HLv hpl
        go_wp2_with fail
        refine (KC.out _ (Nb.rfl.al _)).mono ?_
        rintro e w1 ⟨rfl, n1⟩
        have m1 : Nb wr w1 := (Nb.rfl.al _).tr n1
        have N1 := Lib.hid (HN.out.tr m1)
        have B1 := Lib.hid (HBl.out.nb m1)
        have d0 := B1.out.cell 0
        have d1 := B1.out.frozen 0
        have hR1 := B1.out.lt
        simp only [List.getElem?_toArray, List.getElem?_cons_zero] at d0
        have O1 := Lib.hid (HO.out.nb m1)
        clear n1 m1 c0 c1 c2 c3 c4 c5 c6 c7 c8 c9 c10 HO KC
        go_wp2_with (at_builtin; refine wpList_appP _ rfl (.tmp 30) (.tmp 34) rfl _ _ rfl (O1.out.nb (Nb.rfl.al _)) w1.heap.size (kf, k) rfl (by simp) (by simp) (by rw [HPl.out]; omega) ?_)
        intro v2 w2 ho2 hk2 hf2
        have B2 := Lib.hid ((B1.out.nb (Nb.rfl.al _)).keep hk2 (fun hg => by have := HV.out R hg; omega))
        have V2 := Lib.hid (show ∀ g, v2.ownBlock = some g → R < g from fun g hg => by
          rcases hf2 g hg with h | h
          · exact HV.out g h
          · first | omega | (simp at h; omega))
        have hR2 := B2.out.lt
        have x0 := B2.out.cell 0
        have x1 := B2.out.frozen 0
        simp only [List.getElem?_toArray, List.getElem?_cons_zero] at x0
        have N2 := Lib.hid ((N1.out.al _).trans (hk2.toBelow (Nat.le_trans N1.out.size (by simp)) (fun g hg => by have := HV.out g hg; have := HR.out; omega)))
        obtain ⟨vb, vd, hve2⟩ := ho2.shape
        rw [List.length_append, HPl.out, List.length_singleton] at hve2
        subst hve2
        have O2 := Lib.hid ho2
        clear ho2 hk2 hf2 d0 d1 hR1
        go_wp2
        go_roundw
        case rel =>
          refine ⟨k + 1, _, by omega, by go_num, HA2.out, B2.out.set 0 _, ?_, V2.out, Nb.st N2.out (by show w.heap.size ≤ R; rw [HR.out]; exact Nat.le_refl _) _⟩
          rw [HT2.out]
          exact O2.out.keep (F := fun x => x = R) (Kp.set (p := ⟨R, 0, none⟩) (show R = R from rfl)) (fun g hg => by have := V2.out g hg; omega)
        case measure => simp [intOf]; omega
    · obtain rfl : k = fs.length := by omega
      have HBk := Lib.hid (HBl.out)
      obtain ⟨G, va, vc, rfl, hpl, hG⟩ := HO.out.pl (B := R) HBl.out (by rw [prs, List.length_zipIdx, keysV_len, List.length_take]; omega) HV.out (Nat.le_refl _)
      rw [List.take_length] at hpl HK
      have hlp : (prs (keysV fs)).length ≤ 1000 := by rw [prs, List.length_zipIdx, keysV_len]; exact hn
      have HI := Lib.hid (hinit_any R G va vc (prs (keysV fs)) wr hpl hlp)
      clear hpl hlp HBk HBl HO HV
      go_wp2_with fail
      refine HI.out.mono ?_
      rintro e w1 ⟨rfl, l1, p1, q1, h1, k1⟩
      have P1 := Lib.hid p1
      have Q1 := Lib.hid q1
      have H1 := Lib.hid h1
      have N1 := Lib.hid (HN.out.trans (k1.toBelow HN.out.size (fun g hg => by have := HR.out; omega)))
      clear p1 q1 h1 k1
      go_wp2
      go_ret2
      refine ⟨?_, N1.out⟩
      unfold PlsV
      rw [if_pos HK.out]
      have := HR.out
      exact ⟨R, G, va, vc, l1, rfl, P1.out, Q1.out, H1.out, by omega, by omega⟩
end Go.Proofs.YtfcmoamooafomaaDoor
