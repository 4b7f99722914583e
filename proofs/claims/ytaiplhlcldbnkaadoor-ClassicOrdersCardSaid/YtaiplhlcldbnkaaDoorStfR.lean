
/- Contracts of package stuff's reader, of read and readAll. No conditions but sizes below 2 to the 46. -/
import Derived.Test.YtaiplhlcldbnkaaDoorStfM
namespace Go.Proofs.YtaiplhlcldbnkaaDoor
set_option linter.unusedVariables false
set_option linter.unusedSimpArgs false
open Go.RowKit

/-- A reader in block R: the run of what was read, how many bits are wanted, what it told, whether the last raw bit was a stuff bit, whether one wasn't. -/
structure RdAt (w : World) (R n : Nat) (v : Value) (pre : List Nat) (st wr : Bool) : Prop where
  blk : Blk w R #[.int .u8 (runS pre).1, .int .i64 (runS pre).2, .int .i64 n, v, .bool st, .bool wr] 68
  own : OwnB w v (tell pre)
  ne : v.ownBlock ≠ some R

theorem RdAt.keep {F : Nat → Prop} {w w' : World} {R n : Nat} {v : Value} {pre : List Nat} {st wr : Bool} (h : RdAt w R n v pre st wr) (hk : Kp F w w') (hn : ∀ k, (k = R ∨ v.ownBlock = some k) → ¬ F k) : RdAt w' R n v pre st wr :=
  ⟨h.blk.keep hk (hn R (.inl rfl)), h.own.keep hk (fun g hg => hn g (.inr hg)), h.ne⟩

/-- What a step leaves. -/
def RdStep (w : World) (R n : Nat) (v : Value) (pre : List Nat) (st wr : Bool) (w' : World) : Prop :=
  ∃ v', RdAt w' R n v' pre st wr ∧ Kp (fun k => k = R ∨ v.ownBlock = some k) w w' ∧ ∀ k, (k = R ∨ v'.ownBlock = some k) → (k = R ∨ v.ownBlock = some k) ∨ w.heap.size ≤ k

theorem RdAt.step {w w' : World} {R n : Nat} {v : Value} {pre pre' : List Nat} {st wr st' wr' : Bool} (h : RdAt w R n v pre st wr) (hb : Blk w' R #[.int .u8 (runS pre').1, .int .i64 (runS pre').2, .int .i64 n, v, .bool st', .bool wr'] 68) (hk : Kp (· = R) w w') (ht : tell pre' = tell pre) : RdStep w R n v pre' st' wr' w' :=
  ⟨v, ⟨hb, by rw [ht]; exact h.own.keep hk (fun g hg e => h.ne (e ▸ hg)), h.ne⟩, hk.mono (fun k _ h => .inl h), fun k hk => .inl hk⟩

set_option maxHeartbeats 1600000 in
set_option maxRecDepth 100000 in
theorem rdtake_end (R n : Nat) (v : Value) (pre : List Nat) (st wr : Bool) (x : Nat) (w : World) (h : RdAt w R n v pre st wr) (hx : x ≤ 1) (hl : pre.length < 70368744170000) (he : (tell pre).length = n) :
    Calls Tryd.prog 60 #[.pointer (some ⟨R, 0, none⟩), .int .u8 x] w fun e w' => e = .returned (.bool false) ∧ RdStep w R n v pre st wr w' := by
  obtain ⟨a, cap, rfl, hbs, _⟩ := h.own.bs
  have c2 : w.cell? ⟨R, 2, none⟩ = some (.int .i64 n) := h.blk.cell 2
  have c3 : w.cell? ⟨R, 3, none⟩ = some (.slice a (tell pre).length cap) := h.blk.cell 3
  have hd : (((tell pre).length : Int) == (n : Int)) = true := by rw [beq_iff_eq]; omega
  have hfin : ∀ k, RdStep w R n (.slice a (tell pre).length cap) pre st wr (w.drewN k) := fun k => h.step h.blk (Kp.ofNb (Nb.drewN _ _)) rfl
  have HF := Lib.hid hfin
  have ht := tell_len pre
  clear hfin h hbs he
  go_enter Tryd.func60, Tryd.ntmps60
  go_wp2
  go_quiet (fail)
  go_wp2
  go_ret
  exact ⟨rfl, HF.out _⟩

set_option maxHeartbeats 1600000 in
set_option maxRecDepth 100000 in
theorem rdtake_bad (R n : Nat) (v : Value) (pre : List Nat) (st : Bool) (x : Nat) (w : World) (h : RdAt w R n v pre st false) (hx : x ≤ 1) (hr : (runS pre).2 ≤ 5) (hl : pre.length < 70368744170000) (he : (tell pre).length ≠ n) (hf : full pre = true) (hxl : x = lastB pre) :
    Calls Tryd.prog 60 #[.pointer (some ⟨R, 0, none⟩), .int .u8 x] w fun e w' => e = .returned (.bool false) ∧ RdStep w R n v pre true true w' := by
  obtain ⟨a, cap, rfl, hbs, hob⟩ := h.own.bs
  have ht := tell_len pre
  have hrl := full_len pre
  have c2 : w.cell? ⟨R, 2, none⟩ = some (.int .i64 n) := h.blk.cell 2
  have c3 : w.cell? ⟨R, 3, none⟩ = some (.slice a (tell pre).length cap) := h.blk.cell 3
  have hd : (((tell pre).length : Int) == (n : Int)) = false := by rw [beq_eq_false_iff_ne]; omega
  have h5 : decide ((runS pre).2 = 5) = true := by
    have : 5 ≤ (runS pre).2 := by simpa [full] using hf
    simp
    omega
  have hd2 : ((x : Int) == ((runS pre).1 : Int)) = true := by unfold lastB at hxl; rw [beq_iff_eq]; omega
  have H := Lib.hid h
  clear h hbs he hob
  go_enter Tryd.func60, Tryd.ntmps60
  go_wp2
  go_quiet (fail)
  rename_i nq
  have hat : RdAt (w.drewN nq) R n (.slice a (tell pre).length cap) pre st false := ⟨H.out.blk, H.out.own, H.out.ne⟩
  have hnb : Kp (fun k => k = R) w (w.drewN nq) := Kp.ofNb (Nb.drewN _ _)
  clear H c2 c3
  generalize w.drewN nq = wd at *
  have hfull := runfull_any R _ _ (runS pre).1 (runS pre).2 wd hat.blk rfl
  rw [h5] at hfull
  have f4 := hat.blk.frozen 4
  have f5 := hat.blk.frozen 5
  have d0 : wd.cell? ⟨R, 0, none⟩ = some (.int .u8 (runS pre).1) := hat.blk.cell 0
  have d4 : wd.cell? ⟨R, 4, none⟩ = some (.bool st) := hat.blk.cell 4
  have d5 : wd.cell? ⟨R, 5, none⟩ = some (.bool false) := hat.blk.cell 5
  have hB1 : Blk (wd.setCell ⟨R, 4, none⟩ (.bool true)) R #[.int .u8 (runS pre).1, .int .i64 (runS pre).2, .int .i64 n, .slice a (tell pre).length cap, .bool true, .bool false] 68 := by simpa using hat.blk.set 4 (.bool true)
  have hK1 : Kp (fun k => k = R) w (wd.setCell ⟨R, 4, none⟩ (.bool true)) := hnb.tr (Kp.set (F := (· = R)) rfl) (fun k h => .inl h)
  have hO1 : OwnB (wd.setCell ⟨R, 4, none⟩ (.bool true)) (.slice a (tell pre).length cap) (tell pre) := hat.own.keep (Kp.set (F := (· = R)) rfl) (fun g hg h => hat.ne (h ▸ hg))
  have hne := hat.ne
  have HF := Lib.hid hfull
  clear hfull hat h5
  go_wp2_with fail
  refine HF.out.mono ?_
  rintro e w0 ⟨rfl, rfl⟩
  go_wp2
  go_ret
  refine ⟨rfl, _, ⟨hB1.set 5 _, hO1.keep (Kp.set (F := (· = R)) rfl) (fun g hg h => hne (h ▸ hg)), hne⟩, ?_, fun k hk => .inl hk⟩
  exact (hK1.tr (Kp.set (F := (· = R)) rfl) (fun k h => .inl h)).mono (fun k _ h => .inl h)

set_option maxHeartbeats 1600000 in
set_option maxRecDepth 100000 in
theorem rdtake_stuff (R n : Nat) (v : Value) (pre : List Nat) (st : Bool) (x : Nat) (w : World) (h : RdAt w R n v pre st false) (hx : x ≤ 1) (hr : (runS pre).2 ≤ 5) (hl : pre.length < 70368744170000) (he : (tell pre).length ≠ n) (hf : full pre = true) (hxl : x ≠ lastB pre) :
    Calls Tryd.prog 60 #[.pointer (some ⟨R, 0, none⟩), .int .u8 x] w fun e w' => e = .returned (.bool true) ∧ RdStep w R n v (pre ++ [x]) true false w' := by
  obtain ⟨a, cap, rfl, hbs, hob⟩ := h.own.bs
  have ht := tell_len pre
  have hrl := full_len pre
  have c2 : w.cell? ⟨R, 2, none⟩ = some (.int .i64 n) := h.blk.cell 2
  have c3 : w.cell? ⟨R, 3, none⟩ = some (.slice a (tell pre).length cap) := h.blk.cell 3
  have hd : (((tell pre).length : Int) == (n : Int)) = false := by rw [beq_eq_false_iff_ne]; omega
  have h5 : decide ((runS pre).2 = 5) = true := by
    have : 5 ≤ (runS pre).2 := by simpa [full] using hf
    simp
    omega
  have hd2 : ((x : Int) == ((runS pre).1 : Int)) = false := by unfold lastB at hxl; rw [beq_eq_false_iff_ne]; omega
  have hte : tell (pre ++ [x]) = tell pre := by rw [tell_snoc, hf]; rfl
  have H := Lib.hid h
  clear h hbs he hob
  go_enter Tryd.func60, Tryd.ntmps60
  go_wp2
  go_quiet (fail)
  rename_i nq
  have hat : RdAt (w.drewN nq) R n (.slice a (tell pre).length cap) pre st false := ⟨H.out.blk, H.out.own, H.out.ne⟩
  have hnb : Kp (fun k => k = R) w (w.drewN nq) := Kp.ofNb (Nb.drewN _ _)
  clear H c2 c3
  generalize w.drewN nq = wd at *
  have hfull := runfull_any R _ _ (runS pre).1 (runS pre).2 wd hat.blk rfl
  rw [h5] at hfull
  have f4 := hat.blk.frozen 4
  have f5 := hat.blk.frozen 5
  have d0 : wd.cell? ⟨R, 0, none⟩ = some (.int .u8 (runS pre).1) := hat.blk.cell 0
  have d4 : wd.cell? ⟨R, 4, none⟩ = some (.bool st) := hat.blk.cell 4
  have d5 : wd.cell? ⟨R, 5, none⟩ = some (.bool false) := hat.blk.cell 5
  have hB1 : Blk (wd.setCell ⟨R, 4, none⟩ (.bool true)) R #[.int .u8 (runS pre).1, .int .i64 (runS pre).2, .int .i64 n, .slice a (tell pre).length cap, .bool true, .bool false] 68 := by simpa using hat.blk.set 4 (.bool true)
  have hK1 : Kp (fun k => k = R) w (wd.setCell ⟨R, 4, none⟩ (.bool true)) := hnb.tr (Kp.set (F := (· = R)) rfl) (fun k h => .inl h)
  have hO1 : OwnB (wd.setCell ⟨R, 4, none⟩ (.bool true)) (.slice a (tell pre).length cap) (tell pre) := hat.own.keep (Kp.set (F := (· = R)) rfl) (fun g hg h => hat.ne (h ▸ hg))
  have hne := hat.ne
  have HF := Lib.hid hfull
  clear hfull hat h5
  go_wp2_with fail
  refine HF.out.mono ?_
  rintro e w0 ⟨rfl, rfl⟩
  have hadd := runadd_any R _ _ (runS pre).1 (runS pre).2 x _ hB1 rfl rfl (by omega)
  have hrs : stepR ((runS pre).1, (runS pre).2) x = runS (pre ++ [x]) := (runS_snoc pre x).symm
  rw [hrs] at hadd
  have HA := Lib.hid hadd
  have HT := Lib.hid hte
  clear hadd hrs hte
  go_wp2_with fail
  refine HA.out.mono ?_
  rintro e w2 ⟨rfl, hB2, hk2⟩
  have hB3 : Blk w2 R #[.int .u8 (runS (pre ++ [x])).1, .int .i64 (runS (pre ++ [x])).2, .int .i64 n, .slice a (tell pre).length cap, .bool true, .bool false] 68 := hB2
  have g4 : w2.cell? ⟨R, 4, none⟩ = some (.bool true) := hB3.cell 4
  have hO2 := hO1.keep hk2 (fun g hg h => hne (h ▸ hg))
  have hK2 := (hK1.tr hk2 (fun k h => .inl h)).mono (F' := fun k => k = R ∨ (Value.slice a (tell pre).length cap).ownBlock = some k) (fun k _ h => .inl h)
  have hfin : RdStep w R n (.slice a (tell pre).length cap) (pre ++ [x]) true false w2 := ⟨_, ⟨hB3, by rw [HT.out]; exact hO2, hne⟩, hK2, fun k hk => .inl hk⟩
  have HF2 := Lib.hid hfin
  clear hB1 hB2 hB3 hO1 hO2 hK1 hK2 hk2 hfin HA hf
  go_wp2
  go_ret
  exact ⟨rfl, HF2.out⟩

set_option maxHeartbeats 1600000 in
set_option maxRecDepth 100000 in
theorem rdtake_plain (R n : Nat) (v : Value) (pre : List Nat) (st : Bool) (x : Nat) (w : World) (h : RdAt w R n v pre st false) (hx : x ≤ 1) (hr : (runS pre).2 ≤ 5) (hl : pre.length < 70368744170000) (he : (tell pre).length ≠ n) (hf : full pre = false) :
    Calls Tryd.prog 60 #[.pointer (some ⟨R, 0, none⟩), .int .u8 x] w fun e w' => e = .returned (.bool true) ∧ RdStep w R n v (pre ++ [x]) false false w' := by
  obtain ⟨a, cap, rfl, hbs, hob⟩ := h.own.bs
  have ht := tell_len pre
  have hrl := full_len pre
  have c2 : w.cell? ⟨R, 2, none⟩ = some (.int .i64 n) := h.blk.cell 2
  have c3 : w.cell? ⟨R, 3, none⟩ = some (.slice a (tell pre).length cap) := h.blk.cell 3
  have hd : (((tell pre).length : Int) == (n : Int)) = false := by rw [beq_eq_false_iff_ne]; omega
  have h5 : decide ((runS pre).2 = 5) = false := by
    have : ¬ 5 ≤ (runS pre).2 := by simpa [full] using hf
    simp
    omega
  have hte : tell (pre ++ [x]) = tell pre ++ [x] := by rw [tell_snoc, hf]; rfl
  have H := Lib.hid h
  clear h hbs he hob
  go_enter Tryd.func60, Tryd.ntmps60
  go_wp2
  go_quiet (fail)
  rename_i nq
  have hat : RdAt (w.drewN nq) R n (.slice a (tell pre).length cap) pre st false := ⟨H.out.blk, H.out.own, H.out.ne⟩
  have hnb : Kp (fun k => k = R) w (w.drewN nq) := Kp.ofNb (Nb.drewN _ _)
  clear H c2 c3
  generalize w.drewN nq = wd at *
  have hfull := runfull_any R _ _ (runS pre).1 (runS pre).2 wd hat.blk rfl
  rw [h5] at hfull
  have f4 := hat.blk.frozen 4
  have f5 := hat.blk.frozen 5
  have d0 : wd.cell? ⟨R, 0, none⟩ = some (.int .u8 (runS pre).1) := hat.blk.cell 0
  have d4 : wd.cell? ⟨R, 4, none⟩ = some (.bool st) := hat.blk.cell 4
  have d5 : wd.cell? ⟨R, 5, none⟩ = some (.bool false) := hat.blk.cell 5
  have hB1 : Blk (wd.setCell ⟨R, 4, none⟩ (.bool false)) R #[.int .u8 (runS pre).1, .int .i64 (runS pre).2, .int .i64 n, .slice a (tell pre).length cap, .bool false, .bool false] 68 := by simpa using hat.blk.set 4 (.bool false)
  have hK1 : Kp (fun k => k = R) w (wd.setCell ⟨R, 4, none⟩ (.bool false)) := hnb.tr (Kp.set (F := (· = R)) rfl) (fun k h => .inl h)
  have hO1 : OwnB (wd.setCell ⟨R, 4, none⟩ (.bool false)) (.slice a (tell pre).length cap) (tell pre) := hat.own.keep (Kp.set (F := (· = R)) rfl) (fun g hg h => hat.ne (h ▸ hg))
  have hne := hat.ne
  have HF := Lib.hid hfull
  clear hfull hat h5
  go_wp2_with fail
  refine HF.out.mono ?_
  rintro e w0 ⟨rfl, rfl⟩
  have hadd := runadd_any R _ _ (runS pre).1 (runS pre).2 x _ hB1 rfl rfl (by omega)
  have hrs : stepR ((runS pre).1, (runS pre).2) x = runS (pre ++ [x]) := (runS_snoc pre x).symm
  rw [hrs] at hadd
  have HA := Lib.hid hadd
  have HT := Lib.hid hte
  clear hadd hrs hte
  go_wp2_with fail
  refine HA.out.mono ?_
  rintro e w2 ⟨rfl, hB2, hk2⟩
  have hB3 : Blk w2 R #[.int .u8 (runS (pre ++ [x])).1, .int .i64 (runS (pre ++ [x])).2, .int .i64 n, .slice a (tell pre).length cap, .bool false, .bool false] 68 := hB2
  have g4 : w2.cell? ⟨R, 4, none⟩ = some (.bool false) := hB3.cell 4
  have g3 : w2.cell? ⟨R, 3, none⟩ = some (.slice a (tell pre).length cap) := hB3.cell 3
  have hO2 := hO1.keep hk2 (fun g hg h => hne (h ▸ hg))
  have hK2 := (hK1.tr hk2 (fun k h => .inl h)).mono (F' := fun k => k = R ∨ (Value.slice a (tell pre).length cap).ownBlock = some k) (fun k _ h => .inl h)
  have hR2 := hB3.lt
  have hal : Kp (fun _ => False) w2 (w2.alloc (.cells #[.int .u8 (x : Int)] 5)) := Kp.alloc
  have hown := hO2.keep hal (by simp)
  have hbl := hB3.keep hal (by simp)
  clear hB1 hB2 hO1 hK1 hk2 HA hf d0 d4 d5 HF hB3 hO2
  go_wp2_with (at_builtin; refine wpList_appB _ rfl (.tmp 52) (.tmp 54) rfl _ (tell pre) rfl hown _ _ [x] 1 rfl rfl (Bs.one w2 x (by omega) _) (by simp) (by simp; omega) ?_)
  intro v' w3 hown' hk hfr
  obtain ⟨g, c', rfl⟩ := hown'.shape (by simp)
  have hbl' := hbl.keep hk hne
  have hs2 := hK2.size
  have hg : g ≠ R := by
    rintro rfl
    rcases hfr g rfl with h1 | h1
    · exact hne h1
    · have := hal.size; omega
  have k3 : w3.cell? ⟨R, 3, none⟩ = some (.slice a (tell pre).length cap) := hbl'.cell 3
  have f3 := hbl'.frozen 3
  have hfin : RdStep w R n (.slice a (tell pre).length cap) (pre ++ [x]) false false (w3.setCell ⟨R, 3, none⟩ (.slice (some ⟨g, 0, none⟩) (tell pre ++ [x]).length c')) := by
    refine ⟨_, ⟨hbl'.set 3 _, by rw [HT.out]; exact hown'.keep (Kp.set (F := (· = R)) rfl) (by simpa [Value.ownBlock] using hg), by simpa [Value.ownBlock] using hg⟩, ?_, ?_⟩
    · exact ((hK2.tr (hal.mono (F' := fun k => k = R ∨ (Value.slice a (tell pre).length cap).ownBlock = some k) (fun _ _ h => h.elim)) (fun k h => .inl h)).tr (hk.mono (F' := fun k => k = R ∨ (Value.slice a (tell pre).length cap).ownBlock = some k) (fun k _ h => .inr h)) (fun k h => .inl h)).tr (Kp.set (F := (· = R)) rfl) (fun k h => .inl (.inl h))
    · rintro k (rfl | hk)
      · exact .inl (.inl rfl)
      · rcases hfr k hk with h1 | h1
        · exact .inl (.inr h1)
        · have := hal.size
          exact .inr (by omega)
  have HF2 := Lib.hid hfin
  clear hfin hown' hk hfr hbl' hal hown hbl hK2 g3 g4
  go_wp2
  go_ret
  exact ⟨rfl, by simpa using HF2.out⟩

end Go.Proofs.YtaiplhlcldbnkaaDoor
