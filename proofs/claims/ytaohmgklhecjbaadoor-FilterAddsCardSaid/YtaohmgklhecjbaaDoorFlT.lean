
/- When two rules are one: as the program compares them; twin. No conditions. -/
import Derived.Test.YtaohmgklhecjbaaDoorFlC
import Derived.Laws.StructEq
namespace Go.Proofs.YtaohmgklhecjbaaDoor
set_option linter.unusedVariables false
set_option linter.unusedSimpArgs false
open Go.RowKit Go.Sort

theorem eqF_step {P : Program} {d : Nat} {w : World} {f : Field} {fs : List Field} {xs ys : Array Value} {a b : Value} {r : Bool} (hn : f.name ≠ "_")
    (ha : (part f.type xs f.offset).run P w = .ok a w) (hb : (part f.type ys f.offset).run P w = .ok b w) (hr : (Op.equalIn d f.type a b).run P w = .ok r w) :
    (Op.eqFields d xs ys (f :: fs)).run P w = if r = true then (Op.eqFields d xs ys fs).run P w else .ok false w := by
  simp only [Op.eqFields, Sem.run_ite, if_pos hn, Sem.run_bind, ha, hb, hr, Result.andThen_ok]
  cases r <;> simp
set_option maxHeartbeats 1600000 in
set_option maxRecDepth 100000 in
theorem equalR (a b : Rl) (w : World) : (Op.equalIn 10000 44 (.agg a.ca) (.agg b.ca)).run Tryd.prog w = .ok (eqR a b) w := by
  rw [run_equalIn_agg w 9999 44 a.ca b.ca (by kernel_rfl) (by kernel_rfl)]
  rw [show (Tryd.prog.fieldsOf 44).toList = [{ name := "Kinds", type := 3, offset := 0, embedded := false, tag := "", pkgPath := "", byteOffset := 0 }, { name := "ID", type := 25, offset := 1, embedded := false, tag := "", pkgPath := "", byteOffset := 8 }, { name := "IDMask", type := 25, offset := 2, embedded := false, tag := "", pkgPath := "", byteOffset := 12 }, { name := "SDT", type := 5, offset := 3, embedded := false, tag := "", pkgPath := "", byteOffset := 16 }, { name := "SDTMask", type := 5, offset := 4, embedded := false, tag := "", pkgPath := "", byteOffset := 17 }, { name := "VCID", type := 5, offset := 5, embedded := false, tag := "", pkgPath := "", byteOffset := 18 }, { name := "VCIDMask", type := 5, offset := 6, embedded := false, tag := "", pkgPath := "", byteOffset := 19 }, { name := "AF", type := 25, offset := 7, embedded := false, tag := "", pkgPath := "", byteOffset := 20 }, { name := "AFMask", type := 25, offset := 8, embedded := false, tag := "", pkgPath := "", byteOffset := 24 }, { name := "In", type := 4, offset := 9, embedded := false, tag := "", pkgPath := "", byteOffset := 28 }] from by kernel_rfl]
  obtain ⟨a0, a1, a2, a3, a4, a5, a6, a7, a8, a9⟩ := a
  obtain ⟨b0, b1, b2, b3, b4, b5, b6, b7, b8, b9⟩ := b
  simp only [Rl.ca, eqR, twR]
  rw [eqF_step (a := .int .i64 a0) (b := .int .i64 b0) (by decide) (by kernel_rfl) (by kernel_rfl) (run_equalIn_int w 9998 _ .i64 .i64 a0 b0 Tryd.underlying3)]
  rw [eqF_step (a := .int .u32 a1) (b := .int .u32 b1) (by decide) (by kernel_rfl) (by kernel_rfl) (run_equalIn_int w 9998 _ .u32 .u32 a1 b1 Tryd.underlying25)]
  rw [eqF_step (a := .int .u32 a2) (b := .int .u32 b2) (by decide) (by kernel_rfl) (by kernel_rfl) (run_equalIn_int w 9998 _ .u32 .u32 a2 b2 Tryd.underlying25)]
  rw [eqF_step (a := .int .u8 a3) (b := .int .u8 b3) (by decide) (by kernel_rfl) (by kernel_rfl) (run_equalIn_int w 9998 _ .u8 .u8 a3 b3 Tryd.underlying5)]
  rw [eqF_step (a := .int .u8 a4) (b := .int .u8 b4) (by decide) (by kernel_rfl) (by kernel_rfl) (run_equalIn_int w 9998 _ .u8 .u8 a4 b4 Tryd.underlying5)]
  rw [eqF_step (a := .int .u8 a5) (b := .int .u8 b5) (by decide) (by kernel_rfl) (by kernel_rfl) (run_equalIn_int w 9998 _ .u8 .u8 a5 b5 Tryd.underlying5)]
  rw [eqF_step (a := .int .u8 a6) (b := .int .u8 b6) (by decide) (by kernel_rfl) (by kernel_rfl) (run_equalIn_int w 9998 _ .u8 .u8 a6 b6 Tryd.underlying5)]
  rw [eqF_step (a := .int .u32 a7) (b := .int .u32 b7) (by decide) (by kernel_rfl) (by kernel_rfl) (run_equalIn_int w 9998 _ .u32 .u32 a7 b7 Tryd.underlying25)]
  rw [eqF_step (a := .int .u32 a8) (b := .int .u32 b8) (by decide) (by kernel_rfl) (by kernel_rfl) (run_equalIn_int w 9998 _ .u32 .u32 a8 b8 Tryd.underlying25)]
  rw [eqF_step (a := .bool a9) (b := .bool b9) (by decide) (by kernel_rfl) (by kernel_rfl) (run_equalIn_bool' w 9998 _ a9 b9 Tryd.underlying4)]
  rw [show (Op.eqFields 9999 #[.int .i64 a0, .int .u32 a1, .int .u32 a2, .int .u8 a3, .int .u8 a4, .int .u8 a5, .int .u8 a6, .int .u32 a7, .int .u32 a8, .bool a9] #[.int .i64 b0, .int .u32 b1, .int .u32 b2, .int .u8 b3, .int .u8 b4, .int .u8 b5, .int .u8 b6, .int .u32 b7, .int .u32 b8, .bool b9] []).run Tryd.prog w = .ok true w from rfl]
  have hI : ∀ x y : Bool, ∀ u : Result Bool, (if x = true then (if y = true then u else .ok false w) else .ok false w) = if (x && y) = true then u else .ok false w := fun x y u => by cases x <;> cases y <;> rfl
  simp only [hI]
  generalize (a0 == b0) = c0
  generalize (a1 == b1) = c1
  generalize (a2 == b2) = c2
  generalize (a3 == b3) = c3
  generalize (a4 == b4) = c4
  generalize (a5 == b5) = c5
  generalize (a6 == b6) = c6
  generalize (a7 == b7) = c7
  generalize (a8 == b8) = c8
  generalize (a9 == b9) = c9
  cases c0 <;> cases c1 <;> cases c2 <;> cases c3 <;> cases c4 <;> cases c5 <;> cases c6 <;> cases c7 <;> cases c8 <;> cases c9 <;> rfl
theorem eqlR (a b : Rl) (w : World) : (binOp BinOp.eql 44 (.agg a.ca) (.agg b.ca)).run Tryd.prog w = .ok (.bool (eqR a b)) w := by
  rw [run_eql_struct w, equalR a b w]
  rfl
theorem neqR (a b : Rl) (w : World) : (binOp BinOp.neq 44 (.agg a.ca) (.agg b.ca)).run Tryd.prog w = .ok (.bool (!eqR a b)) w := by
  rw [run_neq_struct w, equalR a b w]
  rfl
set_option maxHeartbeats 1600000 in
set_option maxRecDepth 100000 in
theorem equalG (a b : Rl) (w : World) : (Op.equalIn 10000 42 (.agg a.ca) (.agg b.ca)).run Tryd.prog w = .ok (eqR a b) w := by
  rw [run_equalIn_agg w 9999 42 a.ca b.ca (by kernel_rfl) (by kernel_rfl)]
  rw [show (Tryd.prog.fieldsOf 42).toList = [{ name := "Kinds", type := 3, offset := 0, embedded := false, tag := "", pkgPath := "", byteOffset := 0 }, { name := "ID", type := 25, offset := 1, embedded := false, tag := "", pkgPath := "", byteOffset := 8 }, { name := "IDMask", type := 25, offset := 2, embedded := false, tag := "", pkgPath := "", byteOffset := 12 }, { name := "SDT", type := 5, offset := 3, embedded := false, tag := "", pkgPath := "", byteOffset := 16 }, { name := "SDTMask", type := 5, offset := 4, embedded := false, tag := "", pkgPath := "", byteOffset := 17 }, { name := "VCID", type := 5, offset := 5, embedded := false, tag := "", pkgPath := "", byteOffset := 18 }, { name := "VCIDMask", type := 5, offset := 6, embedded := false, tag := "", pkgPath := "", byteOffset := 19 }, { name := "AF", type := 25, offset := 7, embedded := false, tag := "", pkgPath := "", byteOffset := 20 }, { name := "AFMask", type := 25, offset := 8, embedded := false, tag := "", pkgPath := "", byteOffset := 24 }, { name := "In", type := 4, offset := 9, embedded := false, tag := "", pkgPath := "", byteOffset := 28 }] from by kernel_rfl]
  obtain ⟨a0, a1, a2, a3, a4, a5, a6, a7, a8, a9⟩ := a
  obtain ⟨b0, b1, b2, b3, b4, b5, b6, b7, b8, b9⟩ := b
  simp only [Rl.ca, eqR, twR]
  rw [eqF_step (a := .int .i64 a0) (b := .int .i64 b0) (by decide) (by kernel_rfl) (by kernel_rfl) (run_equalIn_int w 9998 _ .i64 .i64 a0 b0 Tryd.underlying3)]
  rw [eqF_step (a := .int .u32 a1) (b := .int .u32 b1) (by decide) (by kernel_rfl) (by kernel_rfl) (run_equalIn_int w 9998 _ .u32 .u32 a1 b1 Tryd.underlying25)]
  rw [eqF_step (a := .int .u32 a2) (b := .int .u32 b2) (by decide) (by kernel_rfl) (by kernel_rfl) (run_equalIn_int w 9998 _ .u32 .u32 a2 b2 Tryd.underlying25)]
  rw [eqF_step (a := .int .u8 a3) (b := .int .u8 b3) (by decide) (by kernel_rfl) (by kernel_rfl) (run_equalIn_int w 9998 _ .u8 .u8 a3 b3 Tryd.underlying5)]
  rw [eqF_step (a := .int .u8 a4) (b := .int .u8 b4) (by decide) (by kernel_rfl) (by kernel_rfl) (run_equalIn_int w 9998 _ .u8 .u8 a4 b4 Tryd.underlying5)]
  rw [eqF_step (a := .int .u8 a5) (b := .int .u8 b5) (by decide) (by kernel_rfl) (by kernel_rfl) (run_equalIn_int w 9998 _ .u8 .u8 a5 b5 Tryd.underlying5)]
  rw [eqF_step (a := .int .u8 a6) (b := .int .u8 b6) (by decide) (by kernel_rfl) (by kernel_rfl) (run_equalIn_int w 9998 _ .u8 .u8 a6 b6 Tryd.underlying5)]
  rw [eqF_step (a := .int .u32 a7) (b := .int .u32 b7) (by decide) (by kernel_rfl) (by kernel_rfl) (run_equalIn_int w 9998 _ .u32 .u32 a7 b7 Tryd.underlying25)]
  rw [eqF_step (a := .int .u32 a8) (b := .int .u32 b8) (by decide) (by kernel_rfl) (by kernel_rfl) (run_equalIn_int w 9998 _ .u32 .u32 a8 b8 Tryd.underlying25)]
  rw [eqF_step (a := .bool a9) (b := .bool b9) (by decide) (by kernel_rfl) (by kernel_rfl) (run_equalIn_bool' w 9998 _ a9 b9 Tryd.underlying4)]
  rw [show (Op.eqFields 9999 #[.int .i64 a0, .int .u32 a1, .int .u32 a2, .int .u8 a3, .int .u8 a4, .int .u8 a5, .int .u8 a6, .int .u32 a7, .int .u32 a8, .bool a9] #[.int .i64 b0, .int .u32 b1, .int .u32 b2, .int .u8 b3, .int .u8 b4, .int .u8 b5, .int .u8 b6, .int .u32 b7, .int .u32 b8, .bool b9] []).run Tryd.prog w = .ok true w from rfl]
  have hI : ∀ x y : Bool, ∀ u : Result Bool, (if x = true then (if y = true then u else .ok false w) else .ok false w) = if (x && y) = true then u else .ok false w := fun x y u => by cases x <;> cases y <;> rfl
  simp only [hI]
  generalize (a0 == b0) = c0
  generalize (a1 == b1) = c1
  generalize (a2 == b2) = c2
  generalize (a3 == b3) = c3
  generalize (a4 == b4) = c4
  generalize (a5 == b5) = c5
  generalize (a6 == b6) = c6
  generalize (a7 == b7) = c7
  generalize (a8 == b8) = c8
  generalize (a9 == b9) = c9
  cases c0 <;> cases c1 <;> cases c2 <;> cases c3 <;> cases c4 <;> cases c5 <;> cases c6 <;> cases c7 <;> cases c8 <;> cases c9 <;> rfl
theorem eqlG (a b : Rl) (w : World) : (binOp BinOp.eql 42 (.agg a.ca) (.agg b.ca)).run Tryd.prog w = .ok (.bool (eqR a b)) w := by
  rw [run_eql_struct w, equalG a b w]
  rfl
theorem neqG (a b : Rl) (w : World) : (binOp BinOp.neq 42 (.agg a.ca) (.agg b.ca)).run Tryd.prog w = .ok (.bool (!eqR a b)) w := by
  rw [run_neq_struct w, equalG a b w]
  rfl

set_option maxHeartbeats 1600000 in
set_option maxRecDepth 100000 in
theorem twin_any (r x : Rl) (w : World) : Calls Tryd.prog 29 #[.agg r.ca, .agg x.ca] w fun e w' => e = .returned (.bool (twR r x)) ∧ Nb w w' := by
  have hq := fun w => equalR { r with N := x.N } x w
  rw [show eqR { r with N := x.N } x = twR r x by simp [eqR, twR]] at hq
  obtain ⟨v, hv⟩ : ∃ v, v = twR r x := ⟨_, rfl⟩
  rw [← hv] at hq ⊢
  clear hv
  obtain ⟨rK, rI, rIM, rS, rSM, rV, rVM, rA, rAM, rN⟩ := r
  obtain ⟨K, I, IM, S, SM, V, VM, A, AM, N⟩ := x
  simp only [Rl.ca] at hq ⊢
  go_enter Tryd.func29, Tryd.ntmps29
  go_wp2
  go_ret
  exact ⟨rfl, (Nb.rfl.al _).al _⟩
end Go.Proofs.YtaohmgklhecjbaaDoor
