
/- Each function of layer 1 and the document's own answer the same, right or wrong, in one sentence each. Conditions: sizes below 2 to the 46. -/
import Derived.Test.YtaiplhlcldbnkaaDoorAlive
/-
  Each function's answer in one sentence, right or wrong.
-/
namespace Go.Proofs.YtaiplhlcldbnkaaDoor
set_option linter.unusedVariables false
set_option linter.unusedSimpArgs false
open Go.RowKit

open Classical in
noncomputable def bputL (n : Nat) (size : Int) : List Nat := if PutOk n size then bitsN n size.toNat else []
open Classical in
noncomputable def putE (n : Nat) (size : Int) : Nat := if PutOk n size then 0 else 2
def getN (l : List Nat) : Nat := if getOk l then numN l else 0
def getE (l : List Nat) : Nat := if getOk l then 0 else 2
def packL (l : List Nat) : List Nat := if chk l then (if l.length % 8 = 0 then packN l else []) else []
def packE (l : List Nat) : Nat := if chk l then (if l.length % 8 = 0 then 0 else 3) else 2
def textL (l : List Nat) : List Nat := if chk l then l.map (48 + ·) else []
def readL (s : List Nat) : List Nat := if rdOk s then rdBits s else []
def readE (s : List Nat) : Nat := if rdOk s then 0 else 2

/-- Bytes' bits. -/
def bytesBits (l : List Nat) : List Nat := l.flatMap fun x => bitsN x 8
theorem bytesBits_len (l : List Nat) : (bytesBits l).length = 8 * l.length := by
  induction l with
  | nil => rfl
  | cons x l ih =>
    unfold bytesBits at *
    rw [List.flatMap_cons, List.length_append, ih, bitsN_length, List.length_cons]; omega
theorem bytesBits_chk (l : List Nat) (h : l.length ≤ 8192) : chk (bytesBits l) = true := by
  simp only [chk, bytesBits_len, Bool.and_eq_true, decide_eq_true_eq, List.all_eq_true]
  refine ⟨by omega, fun x hx => ?_⟩
  obtain ⟨y, _, hy⟩ := List.mem_flatMap.1 hx
  have := bitsN_lt y 8 x hy
  omega

theorem put_u (n : Nat) (size : Int) (w : World) (hn : n < 2 ^ 64) :
    Calls Tryd.prog 54 #[.int .u64 n, .int .i64 size] w fun e w' => AnsB (bputL n size) (putE n size) e w' ∧ Nb w w' := by
  by_cases h : PutOk n size
  · obtain ⟨m, rfl⟩ := Int.eq_ofNat_of_zero_le h.1
    obtain ⟨_, h2, h3⟩ := id h
    have e1 : bputL n (m : Int) = bitsN n m := by simp [bputL, h]
    have e2 : putE n (m : Int) = 0 := by simp [putE, h]
    rw [e1, e2]
    refine (put_ok n m w (by omega) (by simpa using h3)).mono ?_
    rintro e w' ⟨⟨a, c, rfl, hb⟩, hnb⟩
    exact ⟨⟨a, c, by rw [bitsN_length]; rfl, hb⟩, hnb⟩
  · have e1 : bputL n size = [] := by simp [bputL, h]
    have e2 : putE n size = 2 := by simp [putE, h]
    rw [e1, e2]
    refine (put_bad n size w hn h).mono ?_
    rintro e w' ⟨rfl, hnb⟩
    exact ⟨⟨none, 0, rfl, Bs.nil _⟩, hnb⟩

theorem refbytes_u (a : Option Addr) (cap : Nat) (l : List Nat) (w : World) (h : Bs w a cap l) (hl : l.length ≤ 1000000) :
    Calls Tryd.prog 31 #[.slice a l.length cap] w fun e w' => AnsL (bytesBits l) e w' ∧ Nb w w' := by
  refine (refbytes_any a cap l w h hl).mono ?_
  rintro e w' ⟨⟨a, c, rfl, hb⟩, hnb⟩
  exact ⟨⟨a, c, by rw [bytesBits_len], hb⟩, hnb⟩

end Go.Proofs.YtaiplhlcldbnkaaDoor
