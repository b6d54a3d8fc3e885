/-
  Contracts: firnref01.ValidClock, Long, Equal.
-/
import Derived.Test.YtjghlfagdleglaaClock
namespace Go.Proofs.Ytjghlfagdleglaa
open Go.RowKit

set_option maxRecDepth 100000 in
set_option maxHeartbeats 800000 in
theorem refValidClock_any (ms : List (Int × Int)) (A : Option Addr) (c : Nat) (w : World) (h : Marks w A ms) (hl : ms.length ≤ maxLen) :
    Calls Try.prog 33 #[.slice A ms.length c] w fun e w' => e = .returned (.bool (vkB ms)) ∧ Below w.heap.size w w' := by
  unfold maxLen at hl
  have H := Lib.hid h
  clear h
  go_enter Try.func33, Try.ntmps33
  go_wp2
  go_loopw [7] (fun i wr => ∃ k : Nat, k ≤ ms.length ∧ i = .int .i64 k ∧ Below w.heap.size w wr ∧ Hid (ascFrom none ms = ascFrom (prevM ms k) (ms.drop k))) (fun i _ => ms.length - (intOf i).toNat)
  case atStart => exact ⟨0, Nat.zero_le _, rfl, Below.refl _ _, rfl⟩
  case round =>
    obtain ⟨k, hk, rfl, hB, hall⟩ := hrel
    by_cases hlt : k < ms.length
    · obtain ⟨bl, off, rfl, hbk, hcells⟩ := H.out.open_ (by omega)
      have HC := Lib.hid hcells
      clear hcells
      obtain ⟨a, b, hm⟩ := getM_of_lt hlt
      have hca := (hB.cell (p := ⟨bl, off + k * 2, none⟩) hbk).trans (HC.out k _ hm).1
      have hcb := (hB.cell (p := ⟨bl, off + k * 2 + 1, none⟩) hbk).trans (HC.out k _ hm).2
      have hz := hB.size
      have hbw : bl < wr.heap.size := Nat.lt_of_lt_of_le hbk hB.size
      have HM := Lib.hid hm
      clear hm
      by_cases ha : tickB a = true
      · by_cases hb : tickB b = true
        · have HOK : Hid (okM (a, b) = true) := by show _ = _; simp [okM, ha, hb]
          by_cases hk0 : 0 < k
          · obtain ⟨pa, pb, hp⟩ := getM_of_lt (show k - 1 < ms.length by omega)
            have hpa := (hB.cell (p := ⟨bl, off + (k - 1) * 2, none⟩) hbk).trans (HC.out (k - 1) _ hp).1
            have hpb := (hB.cell (p := ⟨bl, off + (k - 1) * 2 + 1, none⟩) hbk).trans (HC.out (k - 1) _ hp).2
            have hprev : prevM ms k = some (pa, pb) := by
              obtain ⟨j, rfl⟩ : ∃ j, k = j + 1 := ⟨k - 1, by omega⟩
              exact hp
            have hall2 : Hid (ascFrom none ms = ascFrom (some (pa, pb)) (ms.drop k)) := by rw [← hprev]; exact hall
            clear hprev hall hp
            have i0 : (0 : Int) ≤ (k : Int) := by omega
            have i1 : (k : Int) < (ms.length : Int) := by omega
            have i3 : (0 : Int) ≤ (k : Int) - 1 := by omega
            have i4 : (k : Int) - 1 < (ms.length : Int) := by omega
            have i7 : (1 : Int) ≤ (k : Int) := by omega
            have i8 : (k : Int) ≤ (ms.length : Int) := by omega
            have i2 : IntKind.i64.wrap ((k : Int) - 1) = (k : Int) - 1 := IntWalk.i64_in _ (by omega)
            have i5 : ((k : Int) - 1).toNat = k - 1 := by omega
            have t0 : decide ((0 : Int) < (k : Int)) = true := by simp; omega
            by_cases h1 : a ≤ pa
            · have t1 : decide (a ≤ pa) = true := decide_eq_true h1
              go_wp2
              go_quiet ((go_at_call 61; exact Calls.quiet_of_same ((isTick_any _ _).mono fun _ _ h => ⟨h.1, h.2.symm⟩)))
              go_wp2
              go_ret
              exact ⟨ret_bool (asc_low hall2.out HM.out (.inl h1)), (by repeat (first | with_reducible exact Below.refl _ _ | with_reducible assumption | refine below_drewN ?_ _ | with_reducible refine Below.drew ?_ | (refine Below.setCell ?_ (by first | (simp; done) | (simp; omega) | omega) _) | (refine Below.alloc ?_ (by first | (simp; done) | (simp; omega) | omega) _)))⟩
            · have t1 : decide (a ≤ pa) = false := decide_eq_false h1
              by_cases h2 : b ≤ pb
              · have t2 : decide (b ≤ pb) = true := decide_eq_true h2
                go_wp2
                go_quiet ((go_at_call 61; exact Calls.quiet_of_same ((isTick_any _ _).mono fun _ _ h => ⟨h.1, h.2.symm⟩)))
                go_wp2
                go_ret
                exact ⟨ret_bool (asc_low hall2.out HM.out (.inr h2)), (by repeat (first | with_reducible exact Below.refl _ _ | with_reducible assumption | refine below_drewN ?_ _ | with_reducible refine Below.drew ?_ | (refine Below.setCell ?_ (by first | (simp; done) | (simp; omega) | omega) _) | (refine Below.alloc ?_ (by first | (simp; done) | (simp; omega) | omega) _)))⟩
              · have t2 : decide (b ≤ pb) = false := decide_eq_false h2
                go_wp2
                go_quiet ((go_at_call 61; exact Calls.quiet_of_same ((isTick_any _ _).mono fun _ _ h => ⟨h.1, h.2.symm⟩)))
                clear i2 i5
                go_wp2
                go_roundw
                case rel => exact ⟨k + 1, by omega, by go_num, (by repeat (first | with_reducible exact Below.refl _ _ | with_reducible assumption | refine below_drewN ?_ _ | with_reducible refine Below.drew ?_ | (refine Below.setCell ?_ (by first | (simp; done) | (simp; omega) | omega) _) | (refine Below.alloc ?_ (by first | (simp; done) | (simp; omega) | omega) _))), asc_next hall2.out HM.out HOK.out (by omega) (by omega)⟩
                case measure => simp [intOf]; omega
          · have t0 : decide ((0 : Int) < (k : Int)) = false := by simp; omega
            have hnx := Lib.hid (asc_first' hk0 HM.out HOK.out)
            go_wp2
            go_quiet ((go_at_call 61; exact Calls.quiet_of_same ((isTick_any _ _).mono fun _ _ h => ⟨h.1, h.2.symm⟩)))
            go_wp2
            go_roundw
            case rel => exact ⟨k + 1, by omega, by go_num, (by repeat (first | with_reducible exact Below.refl _ _ | with_reducible assumption | refine below_drewN ?_ _ | with_reducible refine Below.drew ?_ | (refine Below.setCell ?_ (by first | (simp; done) | (simp; omega) | omega) _) | (refine Below.alloc ?_ (by first | (simp; done) | (simp; omega) | omega) _))), hnx.out⟩
            case measure => simp [intOf]; omega
        · have hb2 : tickB b = false := by simpa using hb
          go_wp2
          go_quiet ((go_at_call 61; exact Calls.quiet_of_same ((isTick_any _ _).mono fun _ _ h => ⟨h.1, h.2.symm⟩)))
          go_wp2
          go_ret
          exact ⟨ret_bool (asc_bad hall.out HM.out (okM_bad2 hb2)), (by repeat (first | with_reducible exact Below.refl _ _ | with_reducible assumption | refine below_drewN ?_ _ | with_reducible refine Below.drew ?_ | (refine Below.setCell ?_ (by first | (simp; done) | (simp; omega) | omega) _) | (refine Below.alloc ?_ (by first | (simp; done) | (simp; omega) | omega) _)))⟩
      · have ha2 : tickB a = false := by simpa using ha
        go_wp2
        go_quiet ((go_at_call 61; exact Calls.quiet_of_same ((isTick_any _ _).mono fun _ _ h => ⟨h.1, h.2.symm⟩)))
        go_wp2
        go_ret
        exact ⟨ret_bool (asc_bad hall.out HM.out (okM_bad1 ha2)), (by repeat (first | with_reducible exact Below.refl _ _ | with_reducible assumption | refine below_drewN ?_ _ | with_reducible refine Below.drew ?_ | (refine Below.setCell ?_ (by first | (simp; done) | (simp; omega) | omega) _) | (refine Below.alloc ?_ (by first | (simp; done) | (simp; omega) | omega) _)))⟩
    · have hf := asc_end hall.out (show ms.length ≤ k by omega)
      have HF := Lib.hid hf
      clear hf hall
      go_wp2
      all_goals
        go_ret
        exact ⟨ret_bool (by rw [vkB, HF.out, Bool.true_and, Bool.eq_iff_iff]; simp; try omega), hB⟩

theorem long_any (ms : List (Int × Int)) (A : Option Addr) (c : Nat) (w : World) :
    Calls Try.prog 29 #[.slice A ms.length c] w fun e w' => e = .returned (.bool (decide (100 < ms.length))) ∧ w = w' := by
  go_enter Try.func29, Try.ntmps29
  go_wp2
  go_ret
  exact ⟨ret_bool (by simp; omega), rfl⟩
end Go.Proofs.Ytjghlfagdleglaa
