
/- The document's Sames of layer 16, of the same frames. No conditions. -/
import Derived.Test.YtlmbggmamemmjaaDoorFiV
import Derived.Test.YtlmbggmamemmjaaDoorFrmF
import Derived.Deep.RegionHeld3
namespace Go.Proofs.YtlmbggmamemmjaaDoor
set_option linter.unusedVariables false
set_option linter.unusedSimpArgs false
open Go.RowKit

set_option maxHeartbeats 3200000 in
set_option maxRecDepth 100000 in
theorem sames16_any (es : List (Hd × List Nat)) (a a' : Option Addr) (c c' : Nat) (w : World) (h : FrR w a c es) (h' : FrR w a' c' es) :
    Calls Tryd.prog 15 #[.slice a es.length c, .slice a' es.length c'] w fun e w' => e = .returned (.bool true) ∧ Nb w w' := by
  have H := Lib.hid h
  have H' := Lib.hid h'
  have hL := h.len
  clear h h'
  go_enter Tryd.func15, Tryd.ntmps15
  go_wp2
  go_loopw [13] (fun ix wr => ∃ k : Nat, k ≤ es.length ∧ ix = .int .i64 k ∧ Nb w wr) (fun ix _ => es.length - (intOf ix).toNat)
  case atStart => exact ⟨0, Nat.zero_le _, rfl, Nb.rfl⟩
  case round =>
    obtain ⟨k, hk, rfl, hn⟩ := hrel
    have N := Lib.hid hn
    clear hn
    by_cases hlt : k < es.length
    · have hlt' : decide ((k : Int) < (es.length : Int)) = true := decide_eq_true (by omega)
      obtain ⟨⟨⟨Kx, Ix, Xx, Rx, Bx, Ex, Sx, Dx, Vx, Ax⟩, lx⟩, hx⟩ : ∃ x, es.getD k dF = x := ⟨_, rfl⟩
      obtain ⟨b, of, rfl, _⟩ := H.out.hcells (by omega)
      obtain ⟨b', of', rfl, _⟩ := H'.out.hcells (by omega)
      obtain ⟨pa, pc, hw⟩ := H.out.at hlt hx
      obtain ⟨pa', pc', hw'⟩ := H'.out.at hlt hx
      have hs := fun w' (n : Nb w w') => refsame5_any ⟨Kx, Ix, Xx, Rx, Bx, Ex, Sx, Dx, Vx, Ax⟩ ⟨Kx, Ix, Xx, Rx, Bx, Ex, Sx, Dx, Vx, Ax⟩ pa pa' pc pc' lx lx w' (hw w' n).2 (hw' w' n).2
      simp only [sameF_rfl, Hd.cs] at hs
      have HS := Lib.hid hs
      have HW := Lib.hid (fun w' (n : Nb w w') => (hw w' n).1)
      have HW' := Lib.hid (fun w' (n : Nb w w') => (hw' w' n).1)
      have NB := Lib.hid (N.out.tr (Nb.drewN wr 1) : Nb w wr.drew)
      obtain ⟨v0, v1, v2, v3, v4, v5, v6, v7, v8, v9, v10⟩ := HW.out _ NB.out
      obtain ⟨u0, u1, u2, u3, u4, u5, u6, u7, u8, u9, u10⟩ := HW'.out _ NB.out
      clear hx hw hw' hs
      go_wp2_with fail
      go_region_held3 (fun w' => (w'.cell? ⟨b, of + k * 11, none⟩ = some (.int .i64 Kx) ∧ w'.cell? ⟨b, of + k * 11 + 1, none⟩ = some (.int .u32 Ix) ∧ w'.cell? ⟨b, of + k * 11 + 2, none⟩ = some (.bool Xx) ∧ w'.cell? ⟨b, of + k * 11 + 3, none⟩ = some (.bool Rx) ∧ w'.cell? ⟨b, of + k * 11 + 4, none⟩ = some (.bool Bx) ∧ w'.cell? ⟨b, of + k * 11 + 5, none⟩ = some (.bool Ex) ∧ w'.cell? ⟨b, of + k * 11 + 6, none⟩ = some (.bool Sx) ∧ w'.cell? ⟨b, of + k * 11 + 7, none⟩ = some (.int .u8 Dx) ∧ w'.cell? ⟨b, of + k * 11 + 8, none⟩ = some (.int .u8 Vx) ∧ w'.cell? ⟨b, of + k * 11 + 9, none⟩ = some (.int .u32 Ax) ∧ w'.cell? ⟨b, of + k * 11 + 10, none⟩ = some (.slice pa lx.length pc)) ∧ (w'.cell? ⟨b', of' + k * 11, none⟩ = some (.int .i64 Kx) ∧ w'.cell? ⟨b', of' + k * 11 + 1, none⟩ = some (.int .u32 Ix) ∧ w'.cell? ⟨b', of' + k * 11 + 2, none⟩ = some (.bool Xx) ∧ w'.cell? ⟨b', of' + k * 11 + 3, none⟩ = some (.bool Rx) ∧ w'.cell? ⟨b', of' + k * 11 + 4, none⟩ = some (.bool Bx) ∧ w'.cell? ⟨b', of' + k * 11 + 5, none⟩ = some (.bool Ex) ∧ w'.cell? ⟨b', of' + k * 11 + 6, none⟩ = some (.bool Sx) ∧ w'.cell? ⟨b', of' + k * 11 + 7, none⟩ = some (.int .u8 Dx) ∧ w'.cell? ⟨b', of' + k * 11 + 8, none⟩ = some (.int .u8 Vx) ∧ w'.cell? ⟨b', of' + k * 11 + 9, none⟩ = some (.int .u32 Ax) ∧ w'.cell? ⟨b', of' + k * 11 + 10, none⟩ = some (.slice pa' lx.length pc'))) (first | go_keep | exact ⟨HW.out _ NB.out, HW'.out _ NB.out⟩)
        ((go_at_call 14; refine (HS.out _ NB.out).mono ?_; rintro e w1 ⟨rfl, n1⟩; have NB := Lib.hid (NB.out.tr n1); clear n1))
      go_wp2
      go_roundw
      case rel => exact ⟨k + 1, by omega, by go_num, NB.out⟩
      case measure => simp [intOf]; omega
    · have hlt' : decide ((k : Int) < (es.length : Int)) = false := decide_eq_false (by omega)
      go_wp2
      go_ret
      exact ⟨rfl, N.out⟩
end Go.Proofs.YtlmbggmamemmjaaDoor
