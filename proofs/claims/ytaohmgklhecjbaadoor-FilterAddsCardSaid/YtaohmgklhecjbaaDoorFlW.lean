
/- Layer 15's laws on lists: a rule of all frames, all turned around, a rule more, a rule of the frame that it is made of. No program. -/
import Derived.Test.YtaohmgklhecjbaaDoorFlD
namespace Go.Proofs.YtaohmgklhecjbaaDoor
set_option linter.unusedVariables false
set_option linter.unusedSimpArgs false
open Go.RowKit

theorem al32_none {a : Int} (ha : 0 ≤ a ∧ a < 4294967296) : al32 a 0 0 = true := al32_zero ha ⟨by decide, by decide⟩
theorem al8_none {a : Int} (ha : 0 ≤ a ∧ a < 256) : al8 a 0 0 = true := al8_zero ha ⟨by decide, by decide⟩
/-- The rule of all frames. -/
def allR (b : Bool) : Rl := ⟨7, 0, 0, 0, 0, 0, 0, 0, 0, b⟩
theorem allR_wd (b : Bool) : WdR (allR b) := ⟨show (Lit.int .i64 7).wf = true by decide +kernel, by simp [allR], by simp [allR], by simp [allR], by simp [allR], by simp [allR], by simp [allR], by simp [allR], by simp [allR]⟩
theorem allR_of {f : Hd} {d : List Nat} (hf : WdH f) (hk : okF f d = true) (b : Bool) : ofR f (allR b) = true := by
  unfold ofR allR
  rw [hasK_all (okF_kind hk), al32_none hf.I, al8_none hf.D, al8_none hf.V, al32_none hf.A]
  rfl
theorem okB_cons {L : List Rl} (h : okB L = true) (hl : L.length ≤ 31) (b : Bool) : okB (allR b :: L) = true := by
  refine (okB_iff _).2 ⟨by simp; omega, fun r hr => ?_⟩
  rcases List.mem_cons.1 hr with rfl | hr
  · rfl
  · exact ((okB_iff L).1 h).2 r hr
theorem all_find {f : Hd} {d : List Nat} {L : List Rl} (hf : WdH f) (hk : okF f d = true) (h : okB L = true) (hl : L.length ≤ 31) (b e : Bool) :
    findN f d (allR b :: L) = 0 ∧ findE f d (allR b :: L) = 0 ∧ inV f d (allR b :: L) e = b ∧ inE f d (allR b :: L) = 0 := by
  have hb : banF f d (allR b :: L) = true := by simp [banF, okB_cons h hl, hk]
  have ho := allR_of hf hk b
  refine ⟨?_, ?_, ?_, ?_⟩
  · simp [findN, hb, List.findIdx?_cons, ho]
  · simp [findE, hb, ho]
  · simp [inV, hb, List.find?_cons, ho]; rfl
  · simp [inE, hb]

/-- A rule that lets in what it didn't. -/
def flipR (r : Rl) : Rl := { r with N := !r.N }
theorem flip_wd {r : Rl} (h : WdR r) : WdR (flipR r) := ⟨h.K, h.I, h.IM, h.S, h.SM, h.V, h.VM, h.A, h.AM⟩
theorem flip_of (f : Hd) : (ofR f ∘ flipR) = ofR f := rfl
theorem flip_ok (L : List Rl) : okB (L.map flipR) = okB L := by
  unfold okB
  rw [List.length_map, List.all_map]
  rfl
theorem flip_in {f : Hd} {d : List Nat} {L : List Rl} (hb : banF f d L = true) (e : Bool) : inV f d (L.map flipR) (!e) = !(inV f d L e) ∧ inE f d (L.map flipR) = 0 ∧ inE f d L = 0 := by
  have h2 : banF f d (L.map flipR) = true := by
    unfold banF at *
    rw [flip_ok]
    exact hb
  refine ⟨?_, by simp [inE, h2], by simp [inE, hb]⟩
  unfold inV
  rw [hb, h2, List.find?_map, flip_of]
  simp only [if_true]
  cases L.find? (ofR f) with
  | none => rfl
  | some r => rfl
theorem flip_list {L M : List Rl} (hl : M.length = L.length) (h : ∀ j, j < L.length → M.getD j dRl = flipR (L.getD j dRl)) : M = L.map flipR := by
  apply List.ext_getElem (by rw [hl, List.length_map])
  intro i h1 h2
  have := h i (by omega)
  rw [show M.getD i dRl = M[i] by simp [List.getD, h1], show L.getD i dRl = L[i] by simp [List.getD, show i < L.length by omega]] at this
  rw [this, List.getElem_map]

/-! A rule more at the end. -/
theorem okB_snoc {L : List Rl} {r : Rl} (h : okB (L ++ [r]) = true) : okB L = true ∧ mayR r = true := by
  obtain ⟨h1, h2⟩ := (okB_iff _).1 h
  rw [List.length_append, List.length_singleton] at h1
  exact ⟨(okB_iff L).2 ⟨by omega, fun x hx => h2 x (List.mem_append_left _ hx)⟩, h2 r (List.mem_append_right _ (List.mem_singleton.2 rfl))⟩
theorem adds_old {f : Hd} {d : List Nat} {L : List Rl} {r : Rl} (h : okB (L ++ [r]) = true) (hk : okF f d = true) (ha : L.any (ofR f) = true) (e : Bool) :
    findE f d L = 0 ∧ findE f d (L ++ [r]) = 0 ∧ findN f d (L ++ [r]) = findN f d L ∧ inV f d (L ++ [r]) e = inV f d L e ∧ inE f d L = 0 ∧ inE f d (L ++ [r]) = 0 := by
  have h1 : banF f d (L ++ [r]) = true := by simp [banF, h, hk]
  have h2 : banF f d L = true := by simp [banF, (okB_snoc h).1, hk]
  obtain ⟨i, h3, h4, h5, _⟩ := first_at _ L ha
  refine ⟨by simp [findE, h2, ha], by simp [findE, h1, ha], ?_, ?_, by simp [inE, h2], by simp [inE, h1]⟩
  · simp [findN, h1, h2, List.findIdx?_append, h3]
  · simp [inV, h1, h2, List.find?_append, h5]
theorem adds_new {f : Hd} {d : List Nat} {L : List Rl} {r : Rl} (h : okB (L ++ [r]) = true) (hk : okF f d = true) (ha : L.any (ofR f) = false) (ho : ofR f r = true) (e : Bool) :
    findE f d L = 9 ∧ findE f d (L ++ [r]) = 0 ∧ findN f d (L ++ [r]) = L.length ∧ inV f d (L ++ [r]) e = r.N ∧ inE f d L = 0 ∧ inE f d (L ++ [r]) = 0 := by
  have h1 : banF f d (L ++ [r]) = true := by simp [banF, h, hk]
  have h2 : banF f d L = true := by simp [banF, (okB_snoc h).1, hk]
  obtain ⟨h3, h4, _⟩ := none_at _ L ha
  refine ⟨by simp [findE, h2, ha], by simp [findE, h1, ha, ho], ?_, ?_, by simp [inE, h2], by simp [inE, h1]⟩
  · simp [findN, h1, List.findIdx?_append, h3, List.findIdx?_cons, ho]
  · simp [inV, h1, List.find?_append, h4, List.find?_cons, ho]
theorem adds_none {f : Hd} {d : List Nat} {L : List Rl} {r : Rl} (h : okB (L ++ [r]) = true) (hk : okF f d = true) (ha : L.any (ofR f) = false) (ho : ofR f r = false) (e : Bool) :
    findE f d L = 9 ∧ findE f d (L ++ [r]) = 9 ∧ inV f d (L ++ [r]) e = e ∧ inV f d L e = e ∧ inE f d L = 0 ∧ inE f d (L ++ [r]) = 0 := by
  have h1 : banF f d (L ++ [r]) = true := by simp [banF, h, hk]
  have h2 : banF f d L = true := by simp [banF, (okB_snoc h).1, hk]
  obtain ⟨h3, h4, _⟩ := none_at _ L ha
  refine ⟨by simp [findE, h2, ha], by simp [findE, h1, ha, ho], ?_, ?_, by simp [inE, h2], by simp [inE, h1]⟩
  · simp [inV, h1, List.find?_append, h4, List.find?_cons, ho]
  · simp [inV, h2, h4]

/-! A rule of the frame that it is made of. -/
theorem hasK_one {K k : Int} (hK : K = 1 ∨ K = 2 ∨ K = 3) (hk : k = 1 ∨ k = 2 ∨ k = 3) : hasK (kindN K) k = (K == k) := by
  rcases hK with rfl | rfl | rfl <;> rcases hk with rfl | rfl | rfl <;> decide +kernel
theorem may_one {K : Int} (hK : K = 1 ∨ K = 2 ∨ K = 3) (r : Rl) (h : r.K = kindN K) : mayR r = true := by
  unfold mayR
  rw [h]
  rcases hK with rfl | rfl | rfl <;> decide +kernel
theorem mask_own {f g : Hd} {d : List Nat} {r : Rl} (hf : WdH f) (hr : WdR r) (hk : okF g d = true) (hfk : f.K = 1 ∨ f.K = 2 ∨ f.K = 3) (e : r.K = kindN f.K) (e1 : r.I = f.I) (e2 : r.S = f.D) (e3 : r.V = f.V) (e4 : r.A = f.A)
    (s : (f.K == g.K && (f.I == g.I && (f.D == g.D && (f.V == g.V && f.A == g.A)))) = true) : fitR g d r = true := by
  simp only [Bool.and_eq_true, beq_iff_eq] at s
  obtain ⟨s0, s1, s2, s3, s4⟩ := s
  unfold fitR
  rw [may_one hfk r e, hk]
  unfold ofR
  rw [e, hasK_one hfk (okF_kind hk), e1, e2, e3, e4, ← s0, ← s1, ← s2, ← s3, ← s4, al32_self hf.I hr.IM, al8_self hf.D hr.SM, al8_self hf.V hr.VM, al32_self hf.A hr.AM]
  simp
theorem mask_whole {f g : Hd} {d : List Nat} {r : Rl} (hf : WdH f) (hg : WdH g) (hk : okF g d = true) (hfk : f.K = 1 ∨ f.K = 2 ∨ f.K = 3) (e : r.K = kindN f.K) (e1 : r.I = f.I) (e2 : r.S = f.D) (e3 : r.V = f.V) (e4 : r.A = f.A)
    (m1 : r.IM = 4294967296 - 1) (m2 : r.SM = 256 - 1) (m3 : r.VM = 256 - 1) (m4 : r.AM = 4294967296 - 1) :
    fitR g d r = (f.K == g.K && (f.I == g.I && (f.D == g.D && (f.V == g.V && f.A == g.A)))) := by
  unfold fitR
  rw [may_one hfk r e, hk]
  unfold ofR
  rw [e, hasK_one hfk (okF_kind hk), e1, e2, e3, e4, m1, m2, m3, m4, al32_whole hg.I hf.I, al8_whole hg.D hf.D, al8_whole hg.V hf.V, al32_whole hg.A hf.A]
  rw [show (g.I == f.I) = (f.I == g.I) from BEq.comm, show (g.D == f.D) = (f.D == g.D) from BEq.comm, show (g.V == f.V) = (f.V == g.V) from BEq.comm, show (g.A == f.A) = (f.A == g.A) from BEq.comm]
  simp
end Go.Proofs.YtaohmgklhecjbaaDoor
