/- Contract of the document's Read. Condition: a text below 2 to the 46. -/
import Derived.Test.YtdgdbfmjbbdleaaRef
namespace Go.Proofs.Ytdgdbfmjbbdleaa
open Go.RowKit

theorem rdBits_length_le (s : List Nat) : (rdBits s).length ≤ s.length := by
  unfold rdBits
  rw [List.length_map]
  exact List.length_filter_le _ _
theorem rdOk_false_of (s : List Nat) (k c : Nat) (hc : s[k]? = some c) (h : okLetter c = false) : rdOk s = false := by
  cases hh : rdOk s with
  | false => rfl
  | true =>
    simp only [rdOk, Bool.and_eq_true] at hh
    have := List.all_eq_true.1 hh.1 c (List.mem_of_getElem? hc)
    rw [h] at this
    cases this

set_option maxHeartbeats 1600000 in
set_option maxRecDepth 100000 in
theorem refread_any (s : List Nat) (w : World) (hs : ∀ x ∈ s, x < 256) (hL : s.length ≤ 70368744177664) :
    Calls Try.prog 26 #[.string (strOf s)] w fun e w' => ReadPost s e w' ∧ Nb w w' := by
  have hsz := strOf_size s
  have HS := Lib.hid hs
  clear hs
  go_enter Try.func26, Try.ntmps26
  go_wp2
  go_loopw [4, 5] (fun v i wr => ∃ k : Nat, k ≤ s.length ∧ i = .int .i64 k ∧ (s.take k).all okLetter = true ∧ OwnB wr v (rdBits (s.take k)) ∧ (∀ g, v.ownBlock = some g → w.heap.size ≤ g) ∧ Nb w wr) (fun _ i _ => s.length - (intOf i).toNat)
  case atStart => exact ⟨0, Nat.zero_le _, rfl, by simp, by simpa [rdBits] using OwnB.nil w, by simp [Value.ownBlock], Nb.rfl⟩
  case round =>
    obtain ⟨k, hk, rfl, hall, ho, hfr, hnb⟩ := hrel
    have hbl : (rdBits (s.take k)).length ≤ 70368744177664 := Nat.le_trans (rdBits_length_le _) (by rw [List.length_take]; omega)
    by_cases hlt : k < s.length
    · obtain ⟨x, hx⟩ : ∃ x, s[k]? = some x := ⟨s[k], by simp [hlt]⟩
      have hg := strOf_get s HS.out k x hx
      have hx1 := HS.out x (List.mem_of_getElem? hx)
      have HX := Lib.hid hx
      have HA := Lib.hid hall
      have hbn := rdBits_snoc (s.take k) x
      have HBN := Lib.hid hbn
      have hal2 : okLetter x = true → (s.take (k + 1)).all okLetter = true := fun h => by rw [take_snoc' HX.out, List.all_append, HA.out]; simp [h]
      have HA2 := Lib.hid hal2
      clear hx hall hbn hal2
      by_cases h32 : x = 32
      · subst h32
        have hg2 : ∀ h, ((((strOf s)[k]'h).toNat : Nat) : Int) = 32 := fun h => by rw [hg h]; rfl
        have hrel : OwnB wr u4 (rdBits (s.take (k + 1))) := by rw [take_snoc' HX.out, HBN.out]; exact ho
        clear hg ho
        go_wp2
        go_roundw
        case rel => exact ⟨k + 1, by omega, by go_num, HA2.out rfl, hrel, hfr, hnb⟩
        case measure => simp [intOf]; omega
      by_cases h4 : x = 48 ∨ x = 49
      · rcases h4 with rfl | rfl
        · have hg2 : ∀ h, ((((strOf s)[k]'h).toNat : Nat) : Int) = 48 := fun h => by rw [hg h]; rfl
          have hal : Kp (fun _ => False) wr (wr.alloc (.cells #[.int .u8 (0 : Int)] 5)) := Kp.alloc
          have ho1 := ho.keep hal (by simp)
          have hb1 : Bs (wr.alloc (.cells #[.int .u8 (0 : Int)] 5)) (some ⟨wr.heap.size, 0, none⟩) 1 [0] := Bs.one wr 0 (by omega) 5
          clear hg ho
          go_wp2_with (at_builtin; refine wpList_appB _ rfl (.tmp 20) (.tmp 25) rfl u4 _ rfl ho1 _ _ [0] 1 rfl rfl hb1 (by simp) (by simp; omega) ?_)
          intro v' w2 hown hk2 hfr2
          have hrel : OwnB w2 v' (rdBits (s.take (k + 1))) := by
            rw [take_snoc' HX.out, HBN.out]
            exact hown
          have hfr' : ∀ g, v'.ownBlock = some g → w.heap.size ≤ g := fun g hg => by
            rcases hfr2 g hg with h | h
            · exact hfr g h
            · have := hnb.size; omega
          have hnb2 : Nb w w2 := (hnb.al _).trans (hk2.toBelow (Nat.le_trans hnb.size hal.size) hfr)
          clear hown hk2 hfr2 ho1 hal hb1
          go_wp2
          go_roundw
          case rel => exact ⟨k + 1, by omega, by go_num, HA2.out rfl, hrel, hfr', hnb2⟩
          case measure => simp [intOf]; omega
        · have hg2 : ∀ h, ((((strOf s)[k]'h).toNat : Nat) : Int) = 49 := fun h => by rw [hg h]; rfl
          have hal : Kp (fun _ => False) wr (wr.alloc (.cells #[.int .u8 (1 : Int)] 5)) := Kp.alloc
          have ho1 := ho.keep hal (by simp)
          have hb1 : Bs (wr.alloc (.cells #[.int .u8 (1 : Int)] 5)) (some ⟨wr.heap.size, 0, none⟩) 1 [1] := Bs.one wr 1 (by omega) 5
          clear hg ho
          go_wp2_with (at_builtin; refine wpList_appB _ rfl (.tmp 20) (.tmp 25) rfl u4 _ rfl ho1 _ _ [1] 1 rfl rfl hb1 (by simp) (by simp; omega) ?_)
          intro v' w2 hown hk2 hfr2
          have hrel : OwnB w2 v' (rdBits (s.take (k + 1))) := by
            rw [take_snoc' HX.out, HBN.out]
            exact hown
          have hfr' : ∀ g, v'.ownBlock = some g → w.heap.size ≤ g := fun g hg => by
            rcases hfr2 g hg with h | h
            · exact hfr g h
            · have := hnb.size; omega
          have hnb2 : Nb w w2 := (hnb.al _).trans (hk2.toBelow (Nat.le_trans hnb.size hal.size) hfr)
          clear hown hk2 hfr2 ho1 hal hb1
          go_wp2
          go_roundw
          case rel => exact ⟨k + 1, by omega, by go_num, HA2.out rfl, hrel, hfr', hnb2⟩
          case measure => simp [intOf]; omega
      · have hbad : rdOk s = false := rdOk_false_of s k x HX.out (by simp [okLetter]; omega)
        have HB := Lib.hid hbad
        have d32 : ∀ h, ((((strOf s)[k]'h).toNat : Int) == 32) = false := fun h => by rw [hg h, beq_eq_false_iff_ne]; omega
        have d48 : ∀ h, ((((strOf s)[k]'h).toNat : Int) == 48) = false := fun h => by rw [hg h, beq_eq_false_iff_ne]; omega
        have d49 : ∀ h, ((((strOf s)[k]'h).toNat : Int) == 49) = false := fun h => by rw [hg h, beq_eq_false_iff_ne]; omega
        clear hg hbad ho
        go_wp2
        go_ret2
        exact ⟨.inr ⟨HB.out, rfl⟩, hnb⟩
    · obtain rfl : k = s.length := by omega
      rw [List.take_of_length_le (Nat.le_refl _)] at ho hall hbl
      obtain ⟨a', c', rfl, hbs, _⟩ := ho.bs
      by_cases hbig : (rdBits s).length ≤ 65536
      · have hok : rdOk s = true := by simp [rdOk, hall, hbig]
        have HO := Lib.hid hok
        have HB := Lib.hid hbs
        clear ho hall hbs hok
        go_wp2
        go_ret2
        exact ⟨.inl ⟨HO.out, a', c', rfl, HB.out⟩, hnb⟩
      · have hok : rdOk s = false := by simp [rdOk, hbig]
        have HO := Lib.hid hok
        clear ho hall hbs hok
        go_wp2
        go_ret2
        exact ⟨.inr ⟨HO.out, rfl⟩, hnb⟩
end Go.Proofs.Ytdgdbfmjbbdleaa
