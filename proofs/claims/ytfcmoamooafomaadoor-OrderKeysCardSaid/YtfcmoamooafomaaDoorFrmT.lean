
/- Contracts of identifiers and told. No conditions. -/
import Derived.Test.YtfcmoamooafomaaDoorFrmE
import Derived.RegionTactic
namespace Go.Proofs.YtfcmoamooafomaaDoor
set_option linter.unusedVariables false
set_option linter.unusedSimpArgs false
open Go.RowKit

/-- What a frame's kind tells of it. -/
def toldH (f : Hd) : Hd :=
  { K := f.K, I := f.I, X := if f.K = 1 then f.X else false, R := if f.K = 1 then f.R else false, B := if f.K = 2 then f.B else false, E := if f.K = 2 then f.E else false,
    S := if f.K = 3 then f.S else false, D := if f.K = 3 then f.D else 0, V := if f.K = 3 then f.V else 0, A := if f.K = 3 then f.A else 0 }
/-- How many identifiers there are. -/
def idsF (f : Hd) : Nat := if f.X then 536870912 else 2048

set_option maxHeartbeats 1600000 in
set_option maxRecDepth 100000 in
theorem ids_any (f : Hd) (v : Value) (w : World) :
    Calls Tryd.prog 32 #[.agg (f.cs v)] w fun e w' => e = .returned (.int .u32 (idsF f : Nat)) ∧ Nb w w' := by
  obtain ⟨K, I, X, R, B, E, S, D, V, A⟩ := f
  simp only [Hd.cs, idsF]
  cases X
  · go_enter Tryd.func32, Tryd.ntmps32
    go_wp2
    go_ret
    exact ⟨rfl, Nb.rfl.al _⟩
  · go_enter Tryd.func32, Tryd.ntmps32
    go_wp2
    go_ret
    exact ⟨rfl, Nb.rfl.al _⟩

def toldV (f : Hd) (v : Value) : Value := if f.K = 1 ∧ f.R = true then .slice none 0 0 else v

set_option maxHeartbeats 4000000 in
set_option maxRecDepth 100000 in
theorem told_rtr (I : Int) (X B E S : Bool) (D V A : Int) (a : Option Addr) (n cap : Nat) (w : World) :
    Calls Tryd.prog 34 #[.agg (Hd.cs ⟨1, I, X, true, B, E, S, D, V, A⟩ (.slice a n cap))] w fun e w' => e = .returned (.agg (Hd.cs ⟨1, I, X, true, false, false, false, 0, 0, 0⟩ (.slice none 0 0))) ∧ Nb w w' := by
  simp only [Hd.cs]
  go_enter Tryd.func34, Tryd.ntmps34
  go_wp2
  go_region
  go_wp2
  refine bodyPost_ret (v := .agg (Hd.cs ⟨1, I, X, true, false, false, false, 0, 0, 0⟩ (.slice none 0 0))) (by simp [results, Tryd.results34, go_sem, Hd.cs]) rfl ⟨rfl, ?_⟩
  first
    | exact ((Nb.rfl.al _).al _).al _
    | exact Nb.tr (((Nb.rfl.al _).al _).al _) (Below.drew (Below.refl _ _))

set_option maxHeartbeats 4000000 in
set_option maxRecDepth 100000 in
theorem told_cl (I : Int) (X B E S : Bool) (D V A : Int) (a : Option Addr) (n cap : Nat) (w : World) :
    Calls Tryd.prog 34 #[.agg (Hd.cs ⟨1, I, X, false, B, E, S, D, V, A⟩ (.slice a n cap))] w fun e w' => e = .returned (.agg (Hd.cs ⟨1, I, X, false, false, false, false, 0, 0, 0⟩ (.slice a n cap))) ∧ Nb w w' := by
  simp only [Hd.cs]
  go_enter Tryd.func34, Tryd.ntmps34
  go_wp2
  go_region
  go_wp2
  refine bodyPost_ret (v := .agg (Hd.cs ⟨1, I, X, false, false, false, false, 0, 0, 0⟩ (.slice a n cap))) (by simp [results, Tryd.results34, go_sem, Hd.cs]) rfl ⟨rfl, ?_⟩
  first
    | exact ((Nb.rfl.al _).al _).al _
    | exact Nb.tr (((Nb.rfl.al _).al _).al _) (Below.drew (Below.refl _ _))

set_option maxHeartbeats 4000000 in
set_option maxRecDepth 100000 in
theorem told_fd (I : Int) (X R B E S : Bool) (D V A : Int) (a : Option Addr) (n cap : Nat) (w : World) :
    Calls Tryd.prog 34 #[.agg (Hd.cs ⟨2, I, X, R, B, E, S, D, V, A⟩ (.slice a n cap))] w fun e w' => e = .returned (.agg (Hd.cs ⟨2, I, false, false, B, E, false, 0, 0, 0⟩ (.slice a n cap))) ∧ Nb w w' := by
  simp only [Hd.cs]
  go_enter Tryd.func34, Tryd.ntmps34
  go_wp2
  go_region
  go_wp2
  refine bodyPost_ret (v := .agg (Hd.cs ⟨2, I, false, false, B, E, false, 0, 0, 0⟩ (.slice a n cap))) (by simp [results, Tryd.results34, go_sem, Hd.cs]) rfl ⟨rfl, ?_⟩
  first
    | exact ((Nb.rfl.al _).al _).al _
    | exact Nb.tr (((Nb.rfl.al _).al _).al _) (Below.drew (Below.refl _ _))

set_option maxHeartbeats 4000000 in
set_option maxRecDepth 100000 in
theorem told_xl (I : Int) (X R B E S : Bool) (D V A : Int) (a : Option Addr) (n cap : Nat) (w : World) :
    Calls Tryd.prog 34 #[.agg (Hd.cs ⟨3, I, X, R, B, E, S, D, V, A⟩ (.slice a n cap))] w fun e w' => e = .returned (.agg (Hd.cs ⟨3, I, false, false, false, false, S, D, V, A⟩ (.slice a n cap))) ∧ Nb w w' := by
  simp only [Hd.cs]
  go_enter Tryd.func34, Tryd.ntmps34
  go_wp2
  go_region
  go_wp2
  refine bodyPost_ret (v := .agg (Hd.cs ⟨3, I, false, false, false, false, S, D, V, A⟩ (.slice a n cap))) (by simp [results, Tryd.results34, go_sem, Hd.cs]) rfl ⟨rfl, ?_⟩
  first
    | exact ((Nb.rfl.al _).al _).al _
    | exact Nb.tr (((Nb.rfl.al _).al _).al _) (Below.drew (Below.refl _ _))

set_option maxHeartbeats 4000000 in
set_option maxRecDepth 100000 in
theorem told_no (K I : Int) (X R B E S : Bool) (D V A : Int) (a : Option Addr) (n cap : Nat) (w : World) (d1 : (K == 1) = false) (d2 : (K == 2) = false) (d3 : (K == 3) = false) :
    Calls Tryd.prog 34 #[.agg (Hd.cs ⟨K, I, X, R, B, E, S, D, V, A⟩ (.slice a n cap))] w fun e w' => e = .returned (.agg (Hd.cs ⟨K, I, false, false, false, false, false, 0, 0, 0⟩ (.slice a n cap))) ∧ Nb w w' := by
  simp only [Hd.cs]
  go_enter Tryd.func34, Tryd.ntmps34
  go_wp2
  refine bodyPost_ret (v := .agg (Hd.cs ⟨K, I, false, false, false, false, false, 0, 0, 0⟩ (.slice a n cap))) (by simp [results, Tryd.results34, go_sem, Hd.cs]) rfl ⟨rfl, ?_⟩
  first
    | exact ((Nb.rfl.al _).al _).al _
    | exact Nb.tr (((Nb.rfl.al _).al _).al _) (Below.drew (Below.refl _ _))

theorem told_any (f : Hd) (a : Option Addr) (n cap : Nat) (w : World) :
    Calls Tryd.prog 34 #[.agg (f.cs (.slice a n cap))] w fun e w' => e = .returned (.agg ((toldH f).cs (toldV f (.slice a n cap)))) ∧ Nb w w' := by
  obtain ⟨K, I, X, R, B, E, S, D, V, A⟩ := f
  rcases (by omega : (K = 1 ∨ K = 2 ∨ K = 3) ∨ (K ≠ 1 ∧ K ≠ 2 ∧ K ≠ 3)) with (rfl | rfl | rfl) | ⟨h1, h2, h3⟩
  · cases R
    · exact told_cl I X B E S D V A a n cap w
    · exact told_rtr I X B E S D V A a n cap w
  · exact told_fd I X R B E S D V A a n cap w
  · exact told_xl I X R B E S D V A a n cap w
  · have := told_no K I X R B E S D V A a n cap w (by simpa using h1) (by simpa using h2) (by simpa using h3)
    simpa only [toldH, toldV, h1, h2, h3, if_false, false_and] using this
end Go.Proofs.YtfcmoamooafomaaDoor
