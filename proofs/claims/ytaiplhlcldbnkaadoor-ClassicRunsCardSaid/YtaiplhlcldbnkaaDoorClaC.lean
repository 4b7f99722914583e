
/- Contracts of package classic: a field put behind a row, the head of a frame, the bits ahead of all stuffing, Body, Most. Condition: the tables of kinds and of longer sizes hold what the program's text lays there. -/
import Derived.Test.YtaiplhlcldbnkaaDoorClaP
import Derived.Test.YtaiplhlcldbnkaaDoorFrmC
import Derived.Test.YtaiplhlcldbnkaaDoorStfW
namespace Go.Proofs.YtaiplhlcldbnkaaDoor
set_option linter.unusedVariables false
set_option linter.unusedSimpArgs false
open Go.RowKit

theorem RowStep.tr2 {w1 w2 w3 : World} {t : TypeId} {R : Nat} {v v2 : Value} {l' : List Nat} (k2 : Kp (Foot R v) w1 w2) (f2 : ∀ k, Foot R v2 k → Foot R v k ∨ w1.heap.size ≤ k) (h : RowStep w2 t R v2 l' w3) : RowStep w1 t R v l' w3 := by
  obtain ⟨v3, r3, k3, f3⟩ := h
  refine ⟨v3, r3, k2.tr k3 f2, fun k hk => ?_⟩
  rcases f3 k hk with h | h
  · exact f2 k h
  · exact .inr (Nat.le_trans k2.size h)

set_option maxHeartbeats 1600000 in
set_option maxRecDepth 100000 in
theorem cput_any (R : Nat) (v : Value) (l : List Nat) (n size : Nat) (w : World) (h : RowAt w 58 R v l) (h0 : 0 < size) (hs : size ≤ 32) (hn : n < 2 ^ size) (hl : l.length ≤ 1000000) :
    Calls Tryd.prog 36 #[.pointer (some ⟨R, 0, none⟩), .int .u32 n, .int .i64 size] w fun e w' => e = .returned (.tuple #[]) ∧ RowStep w 58 R v (l ++ bitsN n size) w' := by
  have hput := put_ok n size w (by omega) hn
  have hb := bitsN_length n size
  have h32 : n < 4294967296 := Nat.lt_of_lt_of_le hn (Nat.pow_le_pow_right (n := 2) (by omega) hs)
  have hne := h.ne
  have H := Lib.hid h
  have HP := Lib.hid hput
  have HB := Lib.hid hb
  clear hput hb h hn
  go_enter Tryd.func36, Tryd.ntmps36
  go_wp2_with fail
  refine HP.out.mono ?_
  rintro e w1 ⟨⟨a1, c1, rfl, hb1⟩, n1⟩
  have hr1 := H.out.keep (F := fun _ => False) (Kp.ofNb n1) (by simp)
  have hk1 : Kp (Foot R v) w w1 := Kp.ofNb n1
  have hown := hr1.own
  have hbl := hr1.blk
  have c0 := hbl.cell 0
  simp only [List.getElem?_toArray, List.getElem?_cons_zero] at c0
  have hnone : a1 = none → size = 0 ∧ c1 = 0 := by
    rintro rfl
    have := hb1.none_len
    have h2 := HB.out
    rw [this] at h2
    simp at h2
    omega
  clear hr1
  go_wp2_with (at_builtin; refine wpList_appB _ rfl (.tmp 19) (.tmp 20) rfl v l rfl hown a1 c1 (bitsN n size) size HB.out.symm rfl hb1 hnone (by rw [HB.out]; omega) ?_)
  intro v' w2 hown' hk hfr
  have hbl' := hbl.keep hk hne
  obtain ⟨g, cap, rfl⟩ := hown'.shape (by rw [List.length_append, HB.out]; omega)
  have hRlt := hbl.lt
  have hg : g ≠ R := by
    rintro rfl
    rcases hfr g rfl with h1 | h1
    · exact hne h1
    · omega
  have d0 : w2.cell? ⟨R, 0, none⟩ = some v := hbl'.cell 0
  have d1 := hbl'.frozen 0
  have hfin : RowStep w 58 R v (l ++ bitsN n size) (w2.setCell ⟨R, 0, none⟩ (.slice (some ⟨g, 0, none⟩) (l ++ bitsN n size).length cap)) := by
    refine ⟨_, ⟨by simpa using hbl'.set 0 (.slice (some ⟨g, 0, none⟩) (l ++ bitsN n size).length cap), hown'.keep (Kp.set (F := (· = R)) rfl) (by simpa [Value.ownBlock] using hg), by simpa [Value.ownBlock] using hg⟩, ?_, ?_⟩
    · exact (hk1.tr (hk.mono (F' := Foot R v) (fun k _ h => .inr h)) (fun k h => .inl h)).tr (Kp.set (F := (· = R)) rfl) (fun k h => .inl (.inl h))
    · rintro k (rfl | hk)
      · exact .inl (.inl rfl)
      · rcases hfr k hk with h1 | h1
        · exact .inl (.inr h1)
        · exact .inr (by have := n1.size; omega)
  have HF := Lib.hid hfin
  have hlen : (l ++ bitsN n size).length = l.length + size := by rw [List.length_append, HB.out]
  clear hown' hk hfr hbl' hown hbl hb1 hfin
  go_wp2
  go_end0
  have hf := HF.out
  rw [hlen] at hf
  exact ⟨rfl, hf⟩

set_option maxHeartbeats 400000 in
set_option maxRecDepth 100000 in
theorem flag6_any (b : Bool) (w : World) : Calls Tryd.prog 55 #[.bool b] w fun e w' => e = .returned (.int .u32 (bitB b : Nat)) ∧ w = w' := by
  cases b
  all_goals go_enter Tryd.func55, Tryd.ntmps55
  all_goals go_wp2
  all_goals go_ret
  all_goals exact ⟨rfl, rfl⟩
end Go.Proofs.YtaiplhlcldbnkaaDoor
