
/- Contracts of package stuff's readAll, Get, Count and Take. No conditions. -/
import Derived.Test.YtaiplhlcldbnkaaDoorStfD
namespace Go.Proofs.YtaiplhlcldbnkaaDoor
set_option linter.unusedVariables false
set_option linter.unusedSimpArgs false
open Go.RowKit

/-- The error of a row's whole reading, if there is one. -/
def ErrOf (l : List Nat) (er : Nat) : Prop := (chk l = false ∧ er = 2) ∨ (chk l = true ∧ okS l = false ∧ er = 4)

theorem readWhole_err (a : Option Addr) (cap : Nat) (l : List Nat) (er : Nat) (w : World) (h : Bs w a cap l) (he : ErrOf l er) :
    Calls Tryd.prog 41 #[.slice a l.length cap, .int .i64 l.length] w fun e w' => e = .returned (.tuple #[rdZ, .int .i64 0, .int .i64 er]) ∧ Nb w w' := by
  rcases he with ⟨hc, rfl⟩ | ⟨hc, ho, rfl⟩
  · exact read_bad a cap l l.length w h hc
  · have hG := readG_all l
    rw [ho] at hG
    exact read_wrong a cap l l.length w h hc (chk_len hc) hG

theorem readWhole_good (a : Option Addr) (cap : Nat) (l : List Nat) (w : World) (h : Bs w a cap l) (hc : chk l = true) (ho : okS l = true) :
    Calls Tryd.prog 41 #[.slice a l.length cap, .int .i64 l.length] w fun e w' => (∃ a c, e = .returned (.tuple #[rdV l l.length (.slice a (tell l).length c) (lastS l), .int .i64 l.length, .int .i64 0]) ∧ Fresh w w' (.slice a (tell l).length c) (tell l)) ∧ Nb w w' := by
  have hG := readG_all l
  rw [ho] at hG
  exact read_good a cap l l.length w h hc (chk_len hc) l hG

theorem Blk.six {w : World} {b : Nat} {u0 u1 u2 u3 u4 u5 : Value} {t : TypeId} (h : Blk w b #[u0, u1, u2, u3, u4, u5] t) :
    w.cell? ⟨b, 0, none⟩ = some u0 ∧ w.cell? ⟨b, 1, none⟩ = some u1 ∧ w.cell? ⟨b, 2, none⟩ = some u2 ∧ w.cell? ⟨b, 3, none⟩ = some u3 ∧ w.cell? ⟨b, 4, none⟩ = some u4 ∧ w.cell? ⟨b, 5, none⟩ = some u5 ∧
    w.frozen? ⟨b, 0, none⟩ = false ∧ w.frozen? ⟨b, 1, none⟩ = false ∧ w.frozen? ⟨b, 2, none⟩ = false ∧ w.frozen? ⟨b, 3, none⟩ = false ∧ w.frozen? ⟨b, 4, none⟩ = false ∧ w.frozen? ⟨b, 5, none⟩ = false :=
  ⟨h.cell 0, h.cell 1, h.cell 2, h.cell 3, h.cell 4, h.cell 5, h.frozen 0, h.frozen 1, h.frozen 2, h.frozen 3, h.frozen 4, h.frozen 5⟩

end Go.Proofs.YtaiplhlcldbnkaaDoor
