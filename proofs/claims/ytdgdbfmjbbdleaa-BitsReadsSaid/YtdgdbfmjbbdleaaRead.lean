/- Contracts of the reader and of Read. Condition: a text below 2 to the 47. -/
import Derived.Test.YtdgdbfmjbbdleaaStr
/-
  Read.
-/
namespace Go.Proofs.Ytdgdbfmjbbdleaa
open Go.RowKit

def okLetter (c : Nat) : Bool := decide (c = 32) || decide (c = 48) || decide (c = 49)
def rdBits (s : List Nat) : List Nat := (s.filter fun c => decide (c ≠ 32)).map (· - 48)
def rdOk (s : List Nat) : Bool := s.all okLetter && decide ((rdBits s).length ≤ 65536)
theorem rdBits_snoc (s : List Nat) (c : Nat) : rdBits (s ++ [c]) = if c = 32 then rdBits s else rdBits s ++ [c - 48] := by
  by_cases h : c = 32 <;> simp [rdBits, h]
theorem rdOk_snoc (s : List Nat) (c : Nat) (h : rdOk s = true) : rdOk (s ++ [c]) = (okLetter c && (decide (c = 32) || decide ((rdBits s).length < 65536))) := by
  simp only [rdOk, Bool.and_eq_true, decide_eq_true_eq] at h
  obtain ⟨h1, h2⟩ := h
  simp only [rdOk, List.all_append, h1, Bool.true_and, List.all_cons, List.all_nil, Bool.and_true]
  rw [rdBits_snoc]
  by_cases h : c = 32
  · simp [h, h2]
  · simp only [h, if_false, decide_false, Bool.false_or, List.length_append, List.length_singleton]
    congr 1
theorem rdOk_snoc_bad (s : List Nat) (c : Nat) (h : rdOk s = false) : rdOk (s ++ [c]) = false := by
  cases hh : rdOk (s ++ [c]) with
  | false => rfl
  | true =>
    simp only [rdOk, Bool.and_eq_true, decide_eq_true_eq, List.all_append] at hh
    rw [rdBits_snoc] at hh
    have : rdOk s = true := by
      simp only [rdOk, Bool.and_eq_true, decide_eq_true_eq]
      refine ⟨hh.1.1, ?_⟩
      have h2 := hh.2
      by_cases h : c = 32
      · rwa [if_pos h] at h2
      · rw [if_neg h, List.length_append] at h2; omega
    rw [this] at h
    cases h
theorem rdBits_le (s : List Nat) (h : s.all okLetter = true) : ∀ x ∈ rdBits s, x ≤ 1 := by
  intro x hx
  obtain ⟨c, hc, rfl⟩ := List.mem_map.1 hx
  obtain ⟨h1, h2⟩ := List.mem_filter.1 hc
  have := List.all_eq_true.1 h c h1
  simp only [okLetter, Bool.or_eq_true, decide_eq_true_eq] at this
  simp only [decide_eq_true_eq] at h2
  omega

/-- The reader: its row, and whether a letter was wrong. -/
def RdAt (w : World) (R : Nat) (v : Value) (b : Bool) (l : List Nat) : Prop := RowIn w 61 R 0 #[v, .bool b] v l

def RdStep (w : World) (R : Nat) (v : Value) (s : List Nat) (w' : World) : Prop :=
  ∃ v' l, RdAt w' R v' (!rdOk s) l ∧ (rdOk s = true → l = rdBits s) ∧ Kp (Foot R v) w w' ∧ ∀ k, Foot R v' k → Foot R v k ∨ w.heap.size ≤ k

set_option maxHeartbeats 1600000 in
set_option maxRecDepth 100000 in
theorem letter_any (R : Nat) (v : Value) (s l : List Nat) (c : Nat) (w : World) (h : RdAt w R v (!rdOk s) l) (hl : rdOk s = true → l = rdBits s) (hc : c < 256) :
    Calls Try.prog 38 #[.pointer (some ⟨R, 0, none⟩), .int .u8 c] w fun e w' => e = .returned (.tuple #[]) ∧ RdStep w R v (s ++ [c]) w' := by
  have hR := h.blk.lt
  have c0 : w.cell? ⟨R, 0, none⟩ = some v := h.blk.cell 0
  have c1 : w.cell? ⟨R, 1, none⟩ = some (.bool (!rdOk s)) := h.blk.cell 1
  have f1 : w.frozen? ⟨R, 1, none⟩ = false := h.blk.frozen 1
  cases hs : rdOk s with
  | false =>
    have hfin : RdStep w R v (s ++ [c]) w := by
      have hb := rdOk_snoc_bad s c hs
      rw [hs] at h
      exact ⟨v, l, by rw [hb]; exact h, by rw [hb]; simp, Kp.rfl, fun k hk => .inl hk⟩
    have HF := Lib.hid hfin
    rw [hs] at c1
    clear hfin h hl hs
    go_enter Try.func38, Try.ntmps38
    go_wp2
    go_end0
    exact ⟨rfl, HF.out⟩
  | true =>
    obtain rfl := hl hs
    have hsn := rdOk_snoc s c hs
    have hbn := rdBits_snoc s c
    rw [hs] at h c1
    have hlen : (rdBits s).length ≤ 65536 := by simp only [rdOk, Bool.and_eq_true, decide_eq_true_eq] at hs; exact hs.2
    clear hl hs
    by_cases h32 : c = 32
    · subst h32
      have hfin : RdStep w R v (s ++ [32]) w := by
        simp [okLetter] at hsn
        exact ⟨v, rdBits s, by rw [hsn]; exact h, by rw [hbn]; simp, Kp.rfl, fun k hk => .inl hk⟩
      have HF := Lib.hid hfin
      clear hfin h hsn hbn
      go_enter Try.func38, Try.ntmps38
      go_wp2
      go_end0
      exact ⟨rfl, HF.out⟩
    have d32 : ((c : Int) == 32) = false := by rw [beq_eq_false_iff_ne]; omega
    have hbad : (okLetter c = false ∨ (rdBits s).length = 65536) → RdStep w R v (s ++ [c]) (w.setCell ⟨R, 1, none⟩ (.bool true)) := by
      intro hh
      have hb : rdOk (s ++ [c]) = false := by
        rw [hsn]
        rcases hh with h | h <;> simp [h, h32]
      refine ⟨v, rdBits s, ?_, by rw [hb]; simp, (Kp.set (F := (· = R)) rfl).mono (fun k _ hk => .inl hk), fun k hk => .inl hk⟩
      rw [hb]
      have := h.blk.set 1 (.bool true)
      exact ⟨by simpa using this, rfl, h.own.keep (Kp.set (F := (· = R)) rfl) (by rintro g hg rfl; exact h.ne hg), h.ne⟩
    have HB := Lib.hid hbad
    clear hbad
    by_cases hlet : okLetter c = false
    · have HF := Lib.hid (HB.out (.inl hlet))
      have d48 : ((c : Int) != 48) = true := by simp [okLetter] at hlet; rw [bne_iff_ne]; omega
      have d49 : ((c : Int) != 49) = true := by simp [okLetter] at hlet; rw [bne_iff_ne]; omega
      clear h hsn hbn HB hlet
      go_enter Try.func38, Try.ntmps38
      go_wp2
      go_end0
      exact ⟨rfl, HF.out⟩
    have hlet' : c = 48 ∨ c = 49 := by simp [okLetter] at hlet; omega
    obtain ⟨aa, cp, hv, _, _⟩ := h.own.bs
    by_cases hfull : (rdBits s).length = 65536
    · have HF := Lib.hid (HB.out (.inr hfull))
      rw [hv, hfull] at c0
      have d3 : (((c : Int) != 48) && ((c : Int) != 49)) = false := by rcases hlet' with rfl | rfl <;> rfl
      rcases hlet' with rfl | rfl
      all_goals
        clear h hsn hbn HB hlet d3 hfull hlen
        go_enter Try.func38, Try.ntmps38
        go_wp2
        go_end0
        exact ⟨rfl, HF.out⟩
    · have H := Lib.hid h
      have HV := Lib.hid hv
      rw [hv] at c0
      have hn : (((rdBits s).length : Int) == 65536) = false := by rw [beq_eq_false_iff_ne]; omega
      have hfin : ∀ w', RowInStep w 61 R 0 #[v, .bool false] v (rdBits s ++ [c - 48]) w' → RdStep w R v (s ++ [c]) w' := by
        rintro w' ⟨v', hr, hk, hf⟩
        have hb : rdOk (s ++ [c]) = true := by
          rw [hsn]
          simp at hlet
          simp [hlet]
          omega
        exact ⟨v', _, by rw [hb]; exact hr, by rw [hbn, if_neg h32]; simp, hk, hf⟩
      have HFI := Lib.hid hfin
      have hsm : (rdBits s).length < 70368744177664 := by omega
      generalize rdBits s = bs at *
      have e48 : (c : Int) - 48 = ((c - 48 : Nat) : Int) := by omega
      clear h hsn hbn HB hlet hv hfin
      rcases hlet' with rfl | rfl
      · go_enter Try.func38, Try.ntmps38
        go_wp2_with fail
        refine (rowbitIn R 0 61 #[v, .bool false] v bs 0 w H.out (by omega) hsm).mono ?_
        rintro e w' ⟨rfl, hst⟩
        have HF := Lib.hid (HFI.out w' hst)
        clear hst
        go_wp2
        go_end0
        exact ⟨rfl, HF.out⟩
      · go_enter Try.func38, Try.ntmps38
        go_wp2_with fail
        refine (rowbitIn R 0 61 #[v, .bool false] v bs 1 w H.out (by omega) hsm).mono ?_
        rintro e w' ⟨rfl, hst⟩
        have HF := Lib.hid (HFI.out w' hst)
        clear hst
        go_wp2
        go_end0
        exact ⟨rfl, HF.out⟩

/-- What Read answers. -/
def ReadPost (s : List Nat) (e : Ending) (w' : World) : Prop :=
  (rdOk s = true ∧ ∃ a c, e = .returned (.tuple #[.slice a (rdBits s).length c, .int .i64 0]) ∧ Bs w' a c (rdBits s)) ∨ (rdOk s = false ∧ e = .returned (.tuple #[.slice none 0 0, .int .i64 2]))

set_option maxHeartbeats 800000 in
set_option maxRecDepth 100000 in
theorem read_any (s : List Nat) (w : World) (hs : ∀ x ∈ s, x < 256) (hL : s.length ≤ 140737488355328) :
    Calls Try.prog 25 #[.string (strOf s)] w fun e w' => ReadPost s e w' ∧ Nb w w' := by
  have hsz := strOf_size s
  have hmf : ∀ (fn : Fn) (first cap : Array Value) (w : World), (Instr.makeFunc fn first cap).run Try.prog w = .ok (.func fn first cap) w := fun _ _ _ _ => rfl
  have HS := Lib.hid hs
  clear hs
  go_enter Try.func25, Try.ntmps25
  go_wp2_with fail
  all_goals
    first | refine (newRow_any s.length _ (by omega)).mono ?_ | refine (newRow_any 65536 _ (by omega)).mono ?_
    rintro e w1 ⟨⟨g, c, rfl, ho, hg⟩, hnb⟩
    have hal : Kp (fun _ => False) w1 (w1.alloc (.cells #[.slice (some ⟨g, 0, none⟩) 0 c, .bool false] 61)) := Kp.alloc
    have hlt := ho.lt (g := g) rfl
    have hrow : RdAt (w1.alloc (.cells #[.slice (some ⟨g, 0, none⟩) 0 c, .bool false] 61)) w1.heap.size (.slice (some ⟨g, 0, none⟩) 0 c) false [] :=
      ⟨Blk.new _ _ _, rfl, ho.keep hal (by simp), by simp [Value.ownBlock]; omega⟩
    have HR := Lib.hid hrow
    clear hrow ho hal
    go_wp2_with fail
    refine (eachS_any 38 (.pointer (some ⟨w1.heap.size, 0, none⟩)) s (fun k wr => (∃ v l, RdAt wr w1.heap.size v (!rdOk (s.take k)) l ∧ (rdOk (s.take k) = true → l = rdBits (s.take k)) ∧ ∀ j, Foot w1.heap.size v j → w.heap.size ≤ j) ∧ Nb w wr) _ (by omega)
      ⟨⟨_, [], by simpa [rdOk, rdBits] using HR.out, by simp [rdBits], by rintro k (rfl | hk); exact hnb.size; simp [Value.ownBlock] at hk; omega⟩, hnb.al _⟩ HS.out (hcf _ _ Try.func38 (by rfl) (by decide +kernel)) ?_).mono ?_
    · rintro k x wr ⟨⟨v, l, hr, hl, hf⟩, hnb⟩ hx
      refine (letter_any w1.heap.size v (s.take k) l x wr hr hl (HS.out x (List.mem_of_getElem? hx))).mono ?_
      rintro e w' ⟨rfl, v', l', hr', hl', hk', hf'⟩
      refine ⟨rfl, ⟨v', l', by rw [take_snoc' hx]; exact hr', by rw [take_snoc' hx]; exact hl', fun j hj => ?_⟩, hnb.trans (hk'.toBelow hnb.size hf)⟩
      rcases hf' j hj with h1 | h1
      · exact hf j h1
      · exact Nat.le_trans hnb.size h1
    · rintro e w2 ⟨rfl, ⟨v, l, hr, hl, hf⟩, hnb⟩
      rw [List.take_of_length_le (Nat.le_refl _)] at hr hl
      obtain ⟨a', c', rfl, hbs, _⟩ := hr.own.bs
      have c0 : w2.cell? ⟨w1.heap.size, 0, none⟩ = _ := hr.blk.cell 0
      have c1 : w2.cell? ⟨w1.heap.size, 1, none⟩ = _ := hr.blk.cell 1
      cases hok : rdOk s with
      | true =>
        obtain rfl := hl hok
        rw [hok] at c1
        have HB := Lib.hid hbs
        have HO := Lib.hid hok
        clear hr hl hbs hok
        go_wp2
        go_ret2
        exact ⟨.inl ⟨HO.out, a', c', rfl, HB.out⟩, hnb⟩
      | false =>
        rw [hok] at c1
        have HO := Lib.hid hok
        clear hr hl hbs hok
        go_wp2
        go_ret2
        exact ⟨.inr ⟨HO.out, rfl⟩, hnb⟩
end Go.Proofs.Ytdgdbfmjbbdleaa
