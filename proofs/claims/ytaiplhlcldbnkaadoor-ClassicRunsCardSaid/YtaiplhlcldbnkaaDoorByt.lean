
/- What a list of bytes is as a string, and bytes made a string. No conditions. -/
import Derived.Test.YtaiplhlcldbnkaaDoorFre
namespace Go.Proofs.YtaiplhlcldbnkaaDoor
set_option linter.unusedVariables false
set_option linter.unusedSimpArgs false
open Go.RowKit

/-- A list of bytes as Go's string. -/
def strOf (l : List Nat) : ByteArray := ⟨(l.map UInt8.ofNat).toArray⟩
theorem strOf_size (l : List Nat) : (strOf l).size = l.length := by simp [strOf, ByteArray.size]
theorem strOf_get (l : List Nat) (hl : ∀ x ∈ l, x < 256) (k x : Nat) (hx : l[k]? = some x) (h : k < (strOf l).size) : ((strOf l)[k]'h).toNat = x := by
  have e : (strOf l)[k]'h = (l.map UInt8.ofNat)[k]'(by simpa [strOf, ByteArray.size] using h) := rfl
  have h2 := hl x (List.mem_of_getElem? hx)
  have h3 : l[k]'(by simpa [strOf_size] using h) = x := by
    have := (List.getElem?_eq_some_iff.1 hx).2
    exact this
  rw [e, List.getElem_map, h3]
  simp
  omega
theorem strOf_inj {l l' : List Nat} (hl : ∀ x ∈ l, x < 256) (hl' : ∀ x ∈ l', x < 256) (h : (strOf l).toList = (strOf l').toList) : l = l' := by
  have e : ∀ l : List Nat, (strOf l).toList = l.map UInt8.ofNat := fun l => by simp [strOf]
  rw [e, e] at h
  have h2 := congrArg (List.map UInt8.toNat) h
  rw [List.map_map, List.map_map] at h2
  have e2 : ∀ l : List Nat, (∀ x ∈ l, x < 256) → l.map (UInt8.toNat ∘ UInt8.ofNat) = l := by
    intro l hl
    refine (List.map_congr_left fun x hx => ?_).trans (List.map_id l)
    have := hl x hx
    simp
    omega
  rwa [e2 l hl, e2 l' hl'] at h2
theorem strOf_eql (l l' : List Nat) (hl : ∀ x ∈ l, x < 256) (hl' : ∀ x ∈ l', x < 256) : ((strOf l).toList == (strOf l').toList) = decide (l = l') := by
  by_cases h : l = l'
  · subst h; simp
  · have : ¬ (strOf l).toList = (strOf l').toList := fun e => h (strOf_inj hl hl' e)
    simp [h, this]
theorem strOf_append (l l' : List Nat) : strOf l ++ strOf l' = strOf (l ++ l') := by
  apply ByteArray.ext
  simp [strOf]
/-- Any string is one of these. -/
def bytesOf (s : ByteArray) : List Nat := s.data.toList.map UInt8.toNat
theorem bytesOf_lt (s : ByteArray) : ∀ x ∈ bytesOf s, x < 256 := by
  intro x hx
  obtain ⟨b, _, rfl⟩ := List.mem_map.1 hx
  exact b.toNat_lt
theorem strOf_bytesOf (s : ByteArray) : strOf (bytesOf s) = s := by
  apply ByteArray.ext
  have : (UInt8.ofNat ∘ UInt8.toNat) = id := funext fun x => by simp
  simp [strOf, bytesOf, this]

theorem foldl_push (l : List Nat) : ∀ s : ByteArray, (l.map Int.ofNat).foldl (fun r n => r.push (UInt8.ofNat n.toNat)) s = s ++ strOf l := by
  induction l with
  | nil => intro s; apply ByteArray.ext; simp [strOf]
  | cons x l ih =>
    intro s
    rw [List.map_cons, List.foldl_cons, ih]
    apply ByteArray.ext
    simp [strOf]

/-- Bytes as a string. -/
theorem run_convB (w : World) (a : Option Addr) (cap : Nat) (l : List Nat) (h : Bs w a cap l) :
    (convert 23 9 (.slice a l.length cap)).run Tryd.prog w = .ok (.string (strOf l)) w := by
  rw [run_convert_bytes_string w _ _ 5 a l.length cap Tryd.underlying23 Tryd.underlying5 Tryd.underlying9]
  cases a with
  | none =>
    have : l = [] := by
      cases l with
      | nil => rfl
      | cons x l => obtain ⟨_, _, h, _⟩ := h.hcells (by simp); cases h
    subst this
    rfl
  | some ad =>
    have hload : (loadCells ad l.length).run Tryd.prog w = .ok ((l.map Int.ofNat).map (Value.int .u8)).toArray w := by
      have := run_loadCells_list (P := Tryd.prog) w ad ((l.map Int.ofNat).map (Value.int .u8)) ?_
      · simpa using this
      · intro j v hv
        have hj : j < l.length := by
          have := (List.getElem?_eq_some_iff.1 hv).1
          simpa using this
        obtain ⟨b, o, hb, hc⟩ := h.hcells (by omega)
        obtain rfl := Option.some.inj hb
        rw [Addr.add_lit, hc j hj, ← hv]
        simp [List.getD, hj]
    rw [run_bytesToString w ad l.length cap (l.map Int.ofNat) hload, foldl_push]
    simp

/-- bytes.Equal: are two slices of the same bytes? -/
theorem bequal_any (a a' : Option Addr) (cap cap' : Nat) (l l' : List Nat) (w : World) (h : Bs w a cap l) (h' : Bs w a' cap' l') :
    Calls Tryd.prog 35 #[.slice a l.length cap, .slice a' l'.length cap'] w fun e w' => e = .returned (.bool (decide (l = l'))) ∧ w = w' := by
  have c1 := run_convB w a cap l h
  have c2 := run_convB w a' cap' l' h'
  have e := strOf_eql l l' h.hbyte h'.hbyte
  have E := Lib.hid e
  clear e h h'
  go_enter Tryd.func35, Tryd.ntmps35
  go_wp2
  go_ret
  exact ⟨by rw [← E.out]; rfl, rfl⟩
end Go.Proofs.YtaiplhlcldbnkaaDoor
