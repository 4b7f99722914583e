/- Contracts of each over a text, of Text, and what a list of bytes is as a string. No conditions but those of sizes. -/
import Derived.Test.YtdgdbfmjbbdleaaGet
/-
  Texts.
-/
namespace Go.Proofs.Ytdgdbfmjbbdleaa
open Go.RowKit

/-- A list of bytes as Go's string. -/
def strOf (l : List Nat) : ByteArray := ⟨(l.map UInt8.ofNat).toArray⟩
theorem strOf_size (l : List Nat) : (strOf l).size = l.length := by simp [strOf, ByteArray.size]
theorem strOf_get (l : List Nat) (hl : ∀ x ∈ l, x < 256) (k x : Nat) (hx : l[k]? = some x) (h : k < (strOf l).size) : ((strOf l)[k]'h).toNat = x := by
  have e : (strOf l)[k]'h = (l.map UInt8.ofNat)[k]'(by simpa [strOf, ByteArray.size] using h) := rfl
  have h2 := hl x (List.mem_of_getElem? hx)
  have h3 : l[k]'(by simpa [strOf_size] using h) = x := by
    have := (List.getElem?_eq_some_iff.1 hx).2
    exact this
  rw [e, List.getElem_map, h3]
  simp
  omega
theorem strOf_inj {l l' : List Nat} (hl : ∀ x ∈ l, x < 256) (hl' : ∀ x ∈ l', x < 256) (h : (strOf l).toList = (strOf l').toList) : l = l' := by
  have e : ∀ l : List Nat, (strOf l).toList = l.map UInt8.ofNat := fun l => by simp [strOf]
  rw [e, e] at h
  have h2 := congrArg (List.map UInt8.toNat) h
  rw [List.map_map, List.map_map] at h2
  have e2 : ∀ l : List Nat, (∀ x ∈ l, x < 256) → l.map (UInt8.toNat ∘ UInt8.ofNat) = l := by
    intro l hl
    refine (List.map_congr_left fun x hx => ?_).trans (List.map_id l)
    have := hl x hx
    simp
    omega
  rwa [e2 l hl, e2 l' hl'] at h2
theorem strOf_eql (l l' : List Nat) (hl : ∀ x ∈ l, x < 256) (hl' : ∀ x ∈ l', x < 256) : ((strOf l).toList == (strOf l').toList) = decide (l = l') := by
  by_cases h : l = l'
  · subst h; simp
  · have : ¬ (strOf l).toList = (strOf l').toList := fun e => h (strOf_inj hl hl' e)
    simp [h, this]
theorem strOf_append (l l' : List Nat) : strOf l ++ strOf l' = strOf (l ++ l') := by
  apply ByteArray.ext
  simp [strOf]
/-- Any string is one of these. -/
def bytesOf (s : ByteArray) : List Nat := s.data.toList.map UInt8.toNat
theorem bytesOf_lt (s : ByteArray) : ∀ x ∈ bytesOf s, x < 256 := by
  intro x hx
  obtain ⟨b, _, rfl⟩ := List.mem_map.1 hx
  exact b.toNat_lt
theorem strOf_bytesOf (s : ByteArray) : strOf (bytesOf s) = s := by
  apply ByteArray.ext
  have : (UInt8.ofNat ∘ UInt8.toNat) = id := funext fun x => by simp
  simp [strOf, bytesOf, this]

theorem foldl_push (l : List Nat) : ∀ s : ByteArray, (l.map Int.ofNat).foldl (fun r n => r.push (UInt8.ofNat n.toNat)) s = s ++ strOf l := by
  induction l with
  | nil => intro s; apply ByteArray.ext; simp [strOf]
  | cons x l ih =>
    intro s
    rw [List.map_cons, List.foldl_cons, ih]
    apply ByteArray.ext
    simp [strOf]

/-- Bytes as a string. -/
theorem run_convB (w : World) (a : Option Addr) (cap : Nat) (l : List Nat) (h : Bs w a cap l) :
    (convert 23 9 (.slice a l.length cap)).run Try.prog w = .ok (.string (strOf l)) w := by
  rw [run_convert_bytes_string w _ _ 5 a l.length cap Try.underlying23 Try.underlying5 Try.underlying9]
  cases a with
  | none =>
    have : l = [] := by
      cases l with
      | nil => rfl
      | cons x l => obtain ⟨_, _, h, _⟩ := h.hcells (by simp); cases h
    subst this
    rfl
  | some ad =>
    have hload : (loadCells ad l.length).run Try.prog w = .ok ((l.map Int.ofNat).map (Value.int .u8)).toArray w := by
      have := run_loadCells_list (P := Try.prog) w ad ((l.map Int.ofNat).map (Value.int .u8)) ?_
      · simpa using this
      · intro j v hv
        have hj : j < l.length := by
          have := (List.getElem?_eq_some_iff.1 hv).1
          simpa using this
        obtain ⟨b, o, hb, hc⟩ := h.hcells (by omega)
        obtain rfl := Option.some.inj hb
        rw [Addr.add_lit, hc j hj, ← hv]
        simp [List.getD, hj]
    rw [run_bytesToString w ad l.length cap (l.map Int.ofNat) hload, foldl_push]
    simp

set_option maxHeartbeats 800000 in
set_option maxRecDepth 100000 in
theorem eachS_any (F : Nat) (p : Value) (l : List Nat) (I : Nat → World → Prop) (w : World) (hL : l.length ≤ 9223372036854775807) (h0 : I 0 w) (hlt : ∀ x ∈ l, x < 256)
    (hcf : ∀ args w, (callFunc F args).run Try.prog w = .ok (.enter F args) w)
    (hstep : ∀ k x w, I k w → l[k]? = some x → Calls Try.prog F #[p, .int .u8 (x : Int)] w fun e w' => e = .returned (.tuple #[]) ∧ I (k + 1) w') :
    Calls Try.prog 37 #[.string (strOf l), .func (.func F) #[p] #[]] w fun e w' => e = .returned (.tuple #[]) ∧ I l.length w' := by
  have HS := Lib.hid hstep
  have HL := Lib.hid hlt
  clear hstep hlt
  have hsz := strOf_size l
  go_enter Try.func37, Try.ntmps37
  go_wp2
  go_loopw [7] (fun i wr => ∃ k : Nat, k ≤ l.length ∧ i = .int .i64 k ∧ I k wr) (fun i _ => l.length - (intOf i).toNat)
  case atStart => exact ⟨0, Nat.zero_le _, rfl, h0⟩
  case round =>
    obtain ⟨k, hk, rfl, hI⟩ := hrel
    by_cases hlt : k < l.length
    · go_wp2_with fail
      obtain ⟨x, hx⟩ : ∃ x, l[k]? = some x := ⟨l[k], by simp [hlt]⟩
      rw [strOf_get l HL.out k x hx]
      refine (HS.out k x wr hI hx).mono ?_
      rintro e w' ⟨rfl, hI'⟩
      clear hx
      go_wp2
      go_roundw
      case rel => exact ⟨k + 1, by omega, by go_num, hI'⟩
      case measure => simp [intOf]; omega
    · obtain rfl : k = l.length := by omega
      go_wp2
      go_end0
      exact ⟨rfl, hI⟩

set_option maxHeartbeats 800000 in
set_option maxRecDepth 100000 in
theorem textbit_any (R : Nat) (v : Value) (l : List Nat) (x : Nat) (w : World) (h : RowAt w 59 R v l) (hx : x ≤ 1) (hl : l.length < 70368744177664) :
    Calls Try.prog 36 #[.pointer (some ⟨R, 0, none⟩), .int .u8 x] w fun e w' => e = .returned (.tuple #[]) ∧ RowStep w 59 R v (l ++ [48 + x]) w' := by
  have c0 : w.cell? ⟨R, 0, none⟩ = some v := h.blk.cell 0
  have f0 := h.blk.frozen 0
  have hRlt := h.blk.lt
  have hal : Kp (fun _ => False) w (w.alloc (.cells #[.int .u8 ((48 + x : Nat) : Int)] 5)) := Kp.alloc
  have hown := h.own.keep hal (by simp)
  have hbl := h.blk.keep hal (by simp)
  have hb1 := Bs.one w (48 + x) (by omega) 5
  have e48 : ((48 + x : Nat) : Int) = 48 + (x : Int) := by push_cast; rfl
  rw [e48] at hal hown hbl hb1
  clear e48
  go_enter Try.func36, Try.ntmps36
  go_wp2_with (at_builtin; refine wpList_appB _ rfl (.tmp 8) (.tmp 11) rfl v l rfl hown _ _ [48 + x] 1 rfl rfl hb1 (by simp) (by simp; omega) ?_)
  intro v' w1 hown' hk hfr
  obtain ⟨g, cap, rfl⟩ := hown'.shape (by simp)
  have hbl' := hbl.keep hk h.ne
  have hg : g ≠ R := by
    rintro rfl
    rcases hfr g rfl with h1 | h1
    · exact h.ne h1
    · have := hal.size; omega
  have c1 : w1.cell? ⟨R, 0, none⟩ = some v := hbl'.cell 0
  have f1 := hbl'.frozen 0
  have hfin : RowStep w 59 R v (l ++ [48 + x]) (w1.setCell ⟨R, 0, none⟩ (.slice (some ⟨g, 0, none⟩) (l ++ [48 + x]).length cap)) := by
    refine ⟨_, ⟨hbl'.set 0 _, hown'.keep (Kp.set (F := (· = R)) rfl) (by simpa [Value.ownBlock] using hg), by simpa [Value.ownBlock] using hg⟩, ?_, ?_⟩
    · exact ((hal.mono (fun _ _ h => h.elim)).tr (hk.mono (fun k _ h => .inr h)) (fun k h => .inl h)).tr (Kp.set (F := (· = R)) rfl) (fun k h => .inl (.inl h))
    · rintro k (rfl | hk)
      · exact .inl (.inl rfl)
      · rcases hfr k hk with h1 | h1
        · exact .inl (.inr h1)
        · exact .inr (by omega)
  clear hown' hk hfr hbl' hal hown hbl
  go_wp2
  go_end0
  exact ⟨rfl, by simpa using hfin⟩

set_option maxHeartbeats 800000 in
set_option maxRecDepth 100000 in
theorem text_ok (a : Option Addr) (cap : Nat) (l : List Nat) (w : World) (h : Bs w a cap l) (hc : chk l = true) :
    Calls Try.prog 23 #[.slice a l.length cap] w fun e w' => e = .returned (.tuple #[.string (strOf (l.map (48 + ·))), .int .i64 0]) ∧ Nb w w' := by
  have HC := Lib.hid hc
  have H := Lib.hid h
  have hL := h.len
  have hlen := chk_len hc
  have hbit := Lib.hid (chk_bit hc)
  have hm : ∀ w, (Instr.makeSlice 23 (.int .i64 0) (.int .i64 (l.length : Int))).run Try.prog w = .ok (.slice (some ⟨w.heap.size, 0, none⟩) 0 l.length) (w.alloc (.cells (madeCells #[.int .u8 0] l.length) 5)) := fun w => run_makeB w l.length (by omega)
  have hmf : ∀ (fn : Fn) (first cap : Array Value) (w : World), (Instr.makeFunc fn first cap).run Try.prog w = .ok (.func fn first cap) w := fun _ _ _ _ => rfl
  clear hc h
  go_enter Try.func23, Try.ntmps23
  go_wp2_with fail
  refine (check_ok a cap l w H.out HC.out).mono ?_
  rintro e w' ⟨rfl, rfl⟩
  go_wp2_with fail
  refine (eachB_any 36 (.pointer (some ⟨w.heap.size + 1, 0, none⟩)) a cap l (fun k wr => (∃ v, RowAt wr 59 (w.heap.size + 1) v ((l.take k).map (48 + ·)) ∧ ∀ j, Foot (w.heap.size + 1) v j → w.heap.size ≤ j) ∧ Nb w wr) _ hL
    ⟨⟨.slice (some ⟨w.heap.size, 0, none⟩) 0 l.length, ⟨?i1, ?i2, by simp [Value.ownBlock]⟩, ?i3⟩, (Nb.rfl.al _).al _⟩ (fun k wr hI => H.out.below hI.2) (hcf _ _ Try.func36 (by rfl) (by decide +kernel)) ?st).mono ?en
  case i1 =>
    have := Blk.new (w.alloc (.cells (madeCells #[.int .u8 0] l.length) 5)) #[.slice (some ⟨w.heap.size, 0, none⟩) 0 l.length] 59
    simpa using this
  case i2 => exact (OwnB.made w l.length (by omega)).keep (Kp.alloc (F := fun _ => False)) (by simp)
  case i3 => rintro j (rfl | hj); omega; simp [Value.ownBlock] at hj; omega
  case st =>
    rintro k x wr ⟨⟨v, ho, hf⟩, hnb⟩ hx
    have hk : k < l.length := (List.getElem?_eq_some_iff.1 hx).1
    refine (textbit_any (w.heap.size + 1) v _ x wr ho (hbit.out x (List.mem_of_getElem? hx)) (by simp; omega)).mono ?_
    rintro e w' ⟨rfl, v', ho', hk', hf'⟩
    refine ⟨rfl, ⟨v', by rw [take_snoc' hx, List.map_append]; exact ho', fun j hj => ?_⟩, hnb.trans (hk'.toBelow hnb.size hf)⟩
    rcases hf' j hj with h1 | h1
    · exact hf j h1
    · exact Nat.le_trans hnb.size h1
  case en =>
    rintro e w2 ⟨rfl, ⟨v, ho, hf⟩, hnb⟩
    rw [List.take_of_length_le (Nat.le_refl _)] at ho
    obtain ⟨a', c', rfl, hbs, _⟩ := ho.own.bs
    have c0 : w2.cell? ⟨w.heap.size + 1, 0, none⟩ = _ := ho.blk.cell 0
    have hcv := run_convB w2 a' c' _ hbs
    rw [List.length_map] at c0 hcv
    clear ho hbs
    go_wp2
    go_ret2
    exact ⟨rfl, hnb⟩

set_option maxHeartbeats 800000 in
set_option maxRecDepth 100000 in
theorem text_bad (a : Option Addr) (cap : Nat) (l : List Nat) (w : World) (h : Bs w a cap l) (hc : chk l = false) :
    Calls Try.prog 23 #[.slice a l.length cap] w fun e w' => e = .returned (.tuple #[.string (strOf []), .int .i64 2]) ∧ Nb w w' := by
  have HC := Lib.hid hc
  have H := Lib.hid h
  clear hc h
  go_enter Try.func23, Try.ntmps23
  go_wp2_with fail
  refine (check_bad a cap l w H.out HC.out).mono ?_
  rintro e w' ⟨rfl, rfl⟩
  go_wp2
  go_ret2
  exact ⟨rfl, Nb.rfl⟩
end Go.Proofs.Ytdgdbfmjbbdleaa
