/- Each function of layer 1 and the document's own answer the same, right or wrong, in one sentence each. Conditions: sizes below 2 to the 46. -/
import Derived.Test.YtmfahnfmahahjaaDoorAlive
/-
  Each function's answer in one sentence, right or wrong.
-/
namespace Go.Proofs.YtmfahnfmahahjaaDoor
open Go.RowKit

open Classical in
noncomputable def putL (n : Nat) (size : Int) : List Nat := if PutOk n size then bitsN n size.toNat else []
open Classical in
noncomputable def putE (n : Nat) (size : Int) : Nat := if PutOk n size then 0 else 2
def chkE (l : List Nat) : Nat := if chk l then 0 else 2
def getN (l : List Nat) : Nat := if getOk l then numN l else 0
def getE (l : List Nat) : Nat := if getOk l then 0 else 2
def packL (l : List Nat) : List Nat := if chk l then (if l.length % 8 = 0 then packN l else []) else []
def packE (l : List Nat) : Nat := if chk l then (if l.length % 8 = 0 then 0 else 3) else 2
def textL (l : List Nat) : List Nat := if chk l then l.map (48 + ·) else []
def readL (s : List Nat) : List Nat := if rdOk s then rdBits s else []
def readE (s : List Nat) : Nat := if rdOk s then 0 else 2

/-- Bytes' bits. -/
def bytesBits (l : List Nat) : List Nat := l.flatMap fun x => bitsN x 8
theorem bytesBits_len (l : List Nat) : (bytesBits l).length = 8 * l.length := by
  induction l with
  | nil => rfl
  | cons x l ih =>
    unfold bytesBits at *
    rw [List.flatMap_cons, List.length_append, ih, bitsN_length, List.length_cons]; omega
theorem bytesBits_chk (l : List Nat) (h : l.length ≤ 8192) : chk (bytesBits l) = true := by
  simp only [chk, bytesBits_len, Bool.and_eq_true, decide_eq_true_eq, List.all_eq_true]
  refine ⟨by omega, fun x hx => ?_⟩
  obtain ⟨y, _, hy⟩ := List.mem_flatMap.1 hx
  have := bitsN_lt y 8 x hy
  omega

/-- An answer of a slice of bytes and an error. -/
def AnsB (l : List Nat) (er : Nat) (e : Ending) (w' : World) : Prop := ∃ a c, e = .returned (.tuple #[.slice a l.length c, .int .i64 er]) ∧ Bs w' a c l
def AnsL (l : List Nat) (e : Ending) (w' : World) : Prop := ∃ a c, e = .returned (.slice a l.length c) ∧ Bs w' a c l

theorem put_u (n : Nat) (size : Int) (w : World) (hn : n < 2 ^ 64) :
    Calls Tryd.prog 28 #[.int .u64 n, .int .i64 size] w fun e w' => AnsB (putL n size) (putE n size) e w' ∧ Nb w w' := by
  by_cases h : PutOk n size
  · obtain ⟨m, rfl⟩ := Int.eq_ofNat_of_zero_le h.1
    obtain ⟨_, h2, h3⟩ := id h
    have e1 : putL n (m : Int) = bitsN n m := by simp [putL, h]
    have e2 : putE n (m : Int) = 0 := by simp [putE, h]
    rw [e1, e2]
    refine (put_ok n m w (by omega) (by simpa using h3)).mono ?_
    rintro e w' ⟨⟨a, c, rfl, hb⟩, hnb⟩
    exact ⟨⟨a, c, by rw [bitsN_length]; rfl, hb⟩, hnb⟩
  · have e1 : putL n size = [] := by simp [putL, h]
    have e2 : putE n size = 2 := by simp [putE, h]
    rw [e1, e2]
    refine (put_bad n size w hn h).mono ?_
    rintro e w' ⟨rfl, hnb⟩
    exact ⟨⟨none, 0, rfl, Bs.nil _⟩, hnb⟩

theorem get_u (a : Option Addr) (cap : Nat) (l : List Nat) (w : World) (h : Bs w a cap l) :
    Calls Tryd.prog 31 #[.slice a l.length cap] w fun e w' => e = .returned (.tuple #[.int .u64 (getN l), .int .i64 (getE l)]) ∧ Nb w w' := by
  cases hg : getOk l with
  | true =>
    simp only [getN, getE, hg, if_true]
    exact get_ok a cap l w h hg
  | false =>
    simp only [getN, getE, hg, Bool.false_eq_true, if_false]
    exact get_bad a cap l w h hg

theorem check_u (a : Option Addr) (cap : Nat) (l : List Nat) (w : World) (h : Bs w a cap l) :
    Calls Tryd.prog 22 #[.slice a l.length cap] w fun e w' => e = .returned (.int .i64 (chkE l)) ∧ w = w' := by
  cases hg : chk l with
  | true =>
    simp only [chkE, hg, if_true]
    exact check_ok a cap l w h hg
  | false =>
    simp only [chkE, hg, Bool.false_eq_true, if_false]
    exact check_bad a cap l w h hg

theorem refcheck_u (a : Option Addr) (cap : Nat) (l : List Nat) (w : World) (h : Bs w a cap l) :
    Calls Tryd.prog 26 #[.slice a l.length cap] w fun e w' => e = .returned (.int .i64 (chkE l)) ∧ w = w' := by
  cases hg : chk l with
  | true =>
    simp only [chkE, hg, if_true]
    exact refcheck_ok a cap l w h hg
  | false =>
    simp only [chkE, hg, Bool.false_eq_true, if_false]
    exact refcheck_bad a cap l w h hg

theorem u64_of_wf {a : Int} (h : (Lit.int .u64 a).wf = true) : ∃ n : Nat, a = n ∧ n < 2 ^ 64 := by
  have : 0 ≤ a ∧ a < 18446744073709551616 := by
    simp [Lit.wf, IntKind.min, IntKind.max, IntKind.signed, IntKind.bits] at h
    omega
  obtain ⟨n, rfl⟩ := Int.eq_ofNat_of_zero_le this.1
  exact ⟨n, rfl, by omega⟩
theorem u8_of_wf {a : Int} (h : (Lit.int .u8 a).wf = true) : ∃ n : Nat, a = n ∧ n < 256 := by
  have : 0 ≤ a ∧ a < 256 := by
    simp [Lit.wf, IntKind.min, IntKind.max, IntKind.signed, IntKind.bits] at h
    omega
  obtain ⟨n, rfl⟩ := Int.eq_ofNat_of_zero_le this.1
  exact ⟨n, rfl, by omega⟩
end Go.Proofs.YtmfahnfmahahjaaDoor
