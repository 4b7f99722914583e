
/- Contracts of the states of package stuff: a run, a writer, each bit handed on. No conditions but sizes below 2 to the 46. -/
import Derived.Test.YtaiplhlcldbnkaaDoorStfP
import Derived.Test.YtaiplhlcldbnkaaDoorFre
import Derived.RegionTactic
namespace Go.Proofs.YtaiplhlcldbnkaaDoor
set_option linter.unusedVariables false
set_option linter.unusedSimpArgs false
open Go.RowKit

/-- Cells that begin with a run. -/
def upd (cs : Array Value) (r : Nat × Nat) : Array Value := (cs.setIfInBounds 0 (.int .u8 r.1)).setIfInBounds 1 (.int .i64 r.2)

set_option maxHeartbeats 800000 in
set_option maxRecDepth 100000 in
theorem runfull_any (R : Nat) (cs : Array Value) (t : TypeId) (of size : Nat) (w : World) (hb : Blk w R cs t) (h1 : cs[1]? = some (.int .i64 size)) :
    Calls Tryd.prog 58 #[.pointer (some ⟨R, 0, none⟩)] w fun e w' => e = .returned (.bool (decide (size = 5))) ∧ w = w' := by
  have c1 : w.cell? ⟨R, 1, none⟩ = some (.int .i64 size) := (hb.cell 1).trans h1
  have he : ((size : Int) == 5) = decide (size = 5) := by
    rw [Bool.eq_iff_iff]; simp; omega
  have HE := Lib.hid he
  clear he
  go_enter Tryd.func58, Tryd.ntmps58
  go_wp2
  go_ret
  exact ⟨congrArg (fun x => Ending.returned (Value.bool x)) HE.out, rfl⟩

set_option maxHeartbeats 800000 in
set_option maxRecDepth 100000 in
theorem runadd_any (R : Nat) (cs : Array Value) (t : TypeId) (of size x : Nat) (w : World) (hb : Blk w R cs t) (h0 : cs[0]? = some (.int .u8 of)) (h1 : cs[1]? = some (.int .i64 size)) (hs : size < 70368744177664) :
    Calls Tryd.prog 74 #[.pointer (some ⟨R, 0, none⟩), .int .u8 x] w fun e w' => e = .returned (.tuple #[]) ∧ Blk w' R (upd cs (stepR (of, size) x)) t ∧ Kp (· = R) w w' := by
  have c0 : w.cell? ⟨R, 0, none⟩ = some (.int .u8 of) := (hb.cell 0).trans h0
  have c1 : w.cell? ⟨R, 1, none⟩ = some (.int .i64 size) := (hb.cell 1).trans h1
  have f0 := hb.frozen 0
  have f1 := hb.frozen 1
  by_cases hx : x = of
  · subst hx
    have hd : ((x : Int) != (x : Int)) = false := by simp
    have hfin := hb.set 1 (.int .i64 ((size : Int) + 1))
    have he : cs.setIfInBounds 1 (.int .i64 ((size : Int) + 1)) = upd cs (stepR (x, size) x) := by
      unfold upd stepR
      rw [if_pos rfl]
      apply Array.ext_getElem?
      intro i
      by_cases hi : i = 1
      · subst hi; simp [Array.getElem?_setIfInBounds]
      · by_cases hi0 : i = 0
        · subst hi0
          obtain ⟨q, hq⟩ := Array.getElem?_eq_some_iff.1 h0
          simp [Array.getElem?_setIfInBounds, q, hq]
        · simp [Array.getElem?_setIfInBounds, Ne.symm hi, Ne.symm hi0]
    rw [he] at hfin
    have HF := Lib.hid hfin
    clear hfin he hb h0 h1
    go_enter Tryd.func74, Tryd.ntmps74
    go_wp2
    go_end0
    exact ⟨rfl, HF.out, Kp.set rfl⟩
  · have hd : ((x : Int) != (of : Int)) = true := by rw [bne_iff_ne]; omega
    have he : stepR (of, size) x = (x, 1) := by unfold stepR; rw [if_neg hx]
    rw [he]
    have hfin := ((hb.set 0 (.int .u8 (x : Int))).set 1 (.int .i64 0)).set 1 (.int .i64 1)
    have he2 : ((cs.setIfInBounds 0 (.int .u8 (x : Int))).setIfInBounds 1 (.int .i64 0)).setIfInBounds 1 (.int .i64 1) = upd cs (x, 1) := by
      unfold upd
      rw [Array.setIfInBounds_setIfInBounds]
      rfl
    rw [he2] at hfin
    have hkp : Kp (· = R) w (((w.setCell ⟨R, 0, none⟩ (.int .u8 (x : Int))).setCell ⟨R, 1, none⟩ (.int .i64 0)).setCell ⟨R, 1, none⟩ (.int .i64 1)) := ((Kp.set (F := (· = R)) rfl).tr (Kp.set (F := (· = R)) rfl) (fun k h => .inl h)).tr (Kp.set (F := (· = R)) rfl) (fun k h => .inl h)
    have HF := Lib.hid hfin
    have HK := Lib.hid hkp
    clear hfin he he2 hb h0 h1 hkp
    go_enter Tryd.func74, Tryd.ntmps74
    go_wp2
    go_end0
    exact ⟨rfl, HF.out, HK.out⟩

set_option maxHeartbeats 800000 in
set_option maxRecDepth 100000 in
theorem steach_any (F : Nat) (p : Value) (a : Option Addr) (cap : Nat) (l : List Nat) (I J : Nat → World → Prop) (w : World) (hL : l.length ≤ 9223372036854775807) (h0 : I 0 w)
    (hbs : ∀ k w, I k w → Bs w a cap l)
    (hcf : ∀ args w, (callFunc F args).run Tryd.prog w = .ok (.enter F args) w)
    (hstep : ∀ k x w, I k w → l[k]? = some x → Calls Tryd.prog F #[p, .int .u8 (x : Int)] w fun e w' => (e = .returned (.bool true) ∧ I (k + 1) w') ∨ (e = .returned (.bool false) ∧ J k w')) :
    Calls Tryd.prog 39 #[.slice a l.length cap, .func (.func F) #[p] #[]] w fun e w' => ∃ k : Nat, e = .returned (.int .i64 k) ∧ ((k = l.length ∧ I k w') ∨ (k < l.length ∧ J k w')) := by
  have HB := Lib.hid hbs
  have HS := Lib.hid hstep
  clear hbs hstep
  go_enter Tryd.func39, Tryd.ntmps39
  go_wp2
  go_loopw [9] (fun i wr => ∃ k : Nat, k ≤ l.length ∧ i = .int .i64 k ∧ I k wr) (fun i _ => l.length - (intOf i).toNat)
  case atStart => exact ⟨0, Nat.zero_le _, rfl, h0⟩
  case round =>
    obtain ⟨k, hk, rfl, hI⟩ := hrel
    by_cases hlt : k < l.length
    · obtain ⟨b, o, rfl, hc⟩ := (HB.out k wr hI).hcells (by omega)
      obtain ⟨x, hx⟩ : ∃ x, l[k]? = some x := ⟨l[k], by simp [hlt]⟩
      have c1 := hc k hlt
      rw [show l.getD k 0 = x from by simp [List.getD, hx]] at c1
      have HX := Lib.hid hx
      clear hc hx
      go_wp2_with fail
      refine (HS.out k x wr hI HX.out).mono ?_
      rintro e w' (⟨rfl, hI'⟩ | ⟨rfl, hJ⟩)
      · go_wp2
        go_roundw
        case rel => exact ⟨k + 1, by omega, by go_num, hI'⟩
        case measure => simp [intOf]; omega
      · go_wp2
        go_ret
        exact ⟨k, rfl, .inr ⟨hlt, hJ⟩⟩
    · obtain rfl : k = l.length := by omega
      go_wp2
      go_ret
      exact ⟨l.length, rfl, .inl ⟨rfl, hI⟩⟩

/-- A writer in block R: the run of its row, and the row. -/
structure WrAt (w : World) (R : Nat) (v : Value) (l : List Nat) : Prop where
  blk : Blk w R #[.int .u8 (runS l).1, .int .i64 (runS l).2, v] 64
  own : OwnB w v l
  ne : v.ownBlock ≠ some R

theorem WrAt.keep {F : Nat → Prop} {w w' : World} {R : Nat} {v : Value} {l : List Nat} (h : WrAt w R v l) (hk : Kp F w w') (hn : ∀ k, (k = R ∨ v.ownBlock = some k) → ¬ F k) : WrAt w' R v l :=
  ⟨h.blk.keep hk (hn R (.inl rfl)), h.own.keep hk (fun g hg => hn g (.inr hg)), h.ne⟩

/-- What a step that appends leaves. -/
def WrStep (w : World) (R : Nat) (v : Value) (l : List Nat) (w' : World) : Prop :=
  ∃ v', WrAt w' R v' l ∧ Kp (fun k => k = R ∨ v.ownBlock = some k) w w' ∧ ∀ k, (k = R ∨ v'.ownBlock = some k) → (k = R ∨ v.ownBlock = some k) ∨ w.heap.size ≤ k

set_option maxHeartbeats 800000 in
set_option maxRecDepth 100000 in
theorem wradd_any (R : Nat) (v : Value) (l : List Nat) (x : Nat) (w : World) (h : WrAt w R v l) (hx : x < 256) (hl : l.length < 70368744177664) :
    Calls Tryd.prog 59 #[.pointer (some ⟨R, 0, none⟩), .int .u8 x] w fun e w' => e = .returned (.tuple #[]) ∧ WrStep w R v (l ++ [x]) w' := by
  have hrl := full_len l
  have hRlt := h.blk.lt
  have hadd := runadd_any R _ _ (runS l).1 (runS l).2 x w h.blk rfl rfl (by omega)
  have hrs : stepR ((runS l).1, (runS l).2) x = runS (l ++ [x]) := (runS_snoc l x).symm
  rw [hrs] at hadd
  have hup : upd #[.int .u8 (runS l).1, .int .i64 (runS l).2, v] (runS (l ++ [x])) = #[.int .u8 (runS (l ++ [x])).1, .int .i64 (runS (l ++ [x])).2, v] := rfl
  rw [hup] at hadd
  have HO := Lib.hid h.own
  have hne := h.ne
  have HA := Lib.hid hadd
  clear hadd hup hrs h
  go_enter Tryd.func59, Tryd.ntmps59
  go_wp2_with fail
  refine HA.out.mono ?_
  rintro e w0 ⟨rfl, hb0, hk0⟩
  have hown0 := HO.out.keep hk0 (fun g hg h => hne (h ▸ hg))
  have hal : Kp (fun _ => False) w0 (w0.alloc (.cells #[.int .u8 (x : Int)] 5)) := Kp.alloc
  have hown := hown0.keep hal (by simp)
  have hbl := hb0.keep hal (by simp)
  have c0 : w0.cell? ⟨R, 2, none⟩ = some v := hb0.cell 2
  have f0 := hb0.frozen 2
  go_wp2_with (at_builtin; refine wpList_appB _ rfl (.tmp 13) (.tmp 15) rfl v l rfl hown _ _ [x] 1 rfl rfl (Bs.one w0 x hx _) (by simp) (by simp; omega) ?_)
  intro v' w1 hown' hk hfr
  obtain ⟨g, cap, rfl⟩ := hown'.shape (by simp)
  have hbl' := hbl.keep hk hne
  have hs0 := hk0.size
  have hg : g ≠ R := by
    rintro rfl
    rcases hfr g rfl with h1 | h1
    · exact hne h1
    · have := hal.size; omega
  have c1 : w1.cell? ⟨R, 2, none⟩ = some v := hbl'.cell 2
  have f1 := hbl'.frozen 2
  have hfin : WrStep w R v (l ++ [x]) (w1.setCell ⟨R, 2, none⟩ (.slice (some ⟨g, 0, none⟩) (l ++ [x]).length cap)) := by
    refine ⟨_, ⟨hbl'.set 2 _, hown'.keep (Kp.set (F := (· = R)) rfl) (by simpa [Value.ownBlock] using hg), by simpa [Value.ownBlock] using hg⟩, ?_, ?_⟩
    · have k0 : Kp (fun k => k = R ∨ v.ownBlock = some k) w w0 := hk0.mono (fun k _ h => .inl h)
      exact ((k0.tr (hal.mono (F' := fun k => k = R ∨ v.ownBlock = some k) (fun _ _ h => h.elim)) (fun k h => .inl h)).tr (hk.mono (F' := fun k => k = R ∨ v.ownBlock = some k) (fun k _ h => .inr h)) (fun k h => .inl h)).tr (Kp.set (F := (· = R)) rfl) (fun k h => .inl (.inl h))
    · rintro k (rfl | hk)
      · exact .inl (.inl rfl)
      · rcases hfr k hk with h1 | h1
        · exact .inl (.inr h1)
        · have := hal.size
          exact .inr (by omega)
  clear hown' hk hfr hbl' hal hown hbl hown0 hb0
  go_wp2
  go_end0
  exact ⟨rfl, by simpa using hfin⟩

theorem WrStep.tr {w w1 w2 : World} {R : Nat} {v v1 : Value} {l' : List Nat} (hk : Kp (fun k => k = R ∨ v.ownBlock = some k) w w1) (hf : ∀ k, (k = R ∨ v1.ownBlock = some k) → (k = R ∨ v.ownBlock = some k) ∨ w.heap.size ≤ k) (h2 : WrStep w1 R v1 l' w2) : WrStep w R v l' w2 := by
  obtain ⟨v2, ha2, hk2, hf2⟩ := h2
  refine ⟨v2, ha2, hk.tr hk2 hf, fun j hj => ?_⟩
  rcases hf2 j hj with h1 | h1
  · exact hf j h1
  · exact .inr (Nat.le_trans hk.size h1)

set_option maxHeartbeats 800000 in
set_option maxRecDepth 100000 in
theorem wrtake_any (R : Nat) (v : Value) (l : List Nat) (x : Nat) (w : World) (h : WrAt w R v l) (hb : ∀ y ∈ l, y ≤ 1) (hr : (runS l).2 ≤ 5) (hx : x ≤ 1) (hl : l.length < 70368744170000) :
    Calls Tryd.prog 40 #[.pointer (some ⟨R, 0, none⟩), .int .u8 x] w fun e w' => e = .returned (.bool true) ∧ WrStep w R v (putStep l x) w' := by
  have hlast := lastB_le hb
  have hfull := runfull_any R _ _ (runS l).1 (runS l).2 w h.blk rfl
  have c0 : w.cell? ⟨R, 0, none⟩ = some (.int .u8 (lastB l)) := h.blk.cell 0
  have H := Lib.hid h
  cases hf : full l with
  | true =>
    have h5 : (runS l).2 = 5 := by
      have : 5 ≤ (runS l).2 := by simpa [full] using hf
      omega
    have e1 : putStep l x = (l ++ [1 - lastB l]) ++ [x] := by unfold putStep; rw [hf]; simp
    rw [e1]
    rw [h5] at hfull
    have HF := Lib.hid hfull
    have hsub : (1 : Int) - (lastB l : Int) = ((1 - lastB l : Nat) : Int) := by omega
    have HS := Lib.hid hsub
    clear hfull hf h5 e1 h hb hr hsub
    generalize lastB l = q at *
    go_enter Tryd.func40, Tryd.ntmps40
    go_wp2_with fail
    refine HF.out.mono ?_
    rintro e w0 ⟨rfl, rfl⟩
    go_wp2_with fail
    rw [HS.out]
    refine (wradd_any R v l (1 - q) w H.out (by omega) (by omega)).mono ?_
    rintro e w1 ⟨rfl, hs1⟩
    obtain ⟨v1, ha1, hk1, hf1⟩ := hs1
    go_wp2_with fail
    refine (wradd_any R v1 (l ++ [1 - q]) x w1 ha1 (by omega) (by simp; omega)).mono ?_
    rintro e w2 ⟨rfl, hs2⟩
    go_wp2
    go_ret
    exact ⟨rfl, WrStep.tr hk1 hf1 hs2⟩
  | false =>
    have h5 : decide ((runS l).2 = 5) = false := by
      have : ¬ 5 ≤ (runS l).2 := by simpa [full] using hf
      simp
      omega
    have e1 : putStep l x = l ++ [x] := by unfold putStep; rw [hf]; simp
    rw [e1]
    rw [h5] at hfull
    have HF := Lib.hid hfull
    clear hfull hf h5 e1 h hb hr
    generalize lastB l = q at *
    go_enter Tryd.func40, Tryd.ntmps40
    go_wp2_with fail
    refine HF.out.mono ?_
    rintro e w0 ⟨rfl, rfl⟩
    go_wp2_with fail
    refine (wradd_any R v l x w H.out (by omega) (by omega)).mono ?_
    rintro e w1 ⟨rfl, hs1⟩
    go_wp2
    go_ret
    exact ⟨rfl, hs1⟩

end Go.Proofs.YtaiplhlcldbnkaaDoor
