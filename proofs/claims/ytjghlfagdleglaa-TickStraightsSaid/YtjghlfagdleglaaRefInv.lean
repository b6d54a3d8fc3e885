/-
  Contracts: Inverse, Moved (firnref01).
-/
import Derived.Test.YtjghlfagdleglaaMoved
import Derived.Test.YtjghlfagdleglaaJoined
namespace Go.Proofs.Ytjghlfagdleglaa
open Go.RowKit

set_option maxRecDepth 100000 in
set_option maxHeartbeats 800000 in
theorem refInverse_any (ms : List (Int × Int)) (A : Option Addr) (c : Nat) (w : World) (h : Clk w A c ms) :
    Calls Try.prog 44 #[.slice A ms.length c] w fun e w' => ∃ (A' : Option Addr) (c' : Nat) (ys : List (Int × Int)) (E : Int),
      e = .returned (.tuple #[.slice A' ys.length c', .int .i64 E]) ∧ Clk w' A' c' ys ∧ Below w.heap.size w w' ∧ Hid (ys = inverseF ms ∧ E = clkE ms) := by
  have H := Lib.hid h
  clear h
  by_cases hv : vkB ms = true
  · obtain ⟨hn2, hn30⟩ := vk_parts hv
    have HV := Lib.hid hv
    clear hv
    obtain ⟨bl, off, rfl, hbk, hcells⟩ := H.out.marks.open_ (by omega)
    have HC := Lib.hid hcells
    clear hcells
    go_enter Try.func44, Try.ntmps44
    go_wp2_with (go_at_call 33; refine (refValidClock_any _ _ _ _ H.out.marks H.out.len).mono ?_; rintro e w1 ⟨he, hB1⟩; rw [HV.out] at he; subst he; have hz1 := hB1.size)
    go_loopw [4, 12] (fun v i wr => ∃ k : Nat, k ≤ ms.length ∧ i = .int .i64 k ∧ wr.ownsRow w.heap.size 61 2 v k (((ms.take k).map swapM).flatMap mk2) ∧ Below w.heap.size w wr) (fun _ i _ => ms.length - (intOf i).toNat)
    case atStart => exact ⟨0, Nat.zero_le _, rfl, World.ownsRow_nil _ _ _ _, hB1⟩
    case round =>
      clear hB1 hz1
      obtain ⟨k, hk, rfl, hown, hB⟩ := hrel
      by_cases hlt : k < ms.length
      · obtain ⟨a, b, hx⟩ := getM_of_lt hlt
        have f0 := (hB.cell (p := ⟨bl, off + k * 2, none⟩) hbk).trans (HC.out _ _ hx).1
        have f1 := (hB.cell (p := ⟨bl, off + k * 2 + 1, none⟩) hbk).trans (HC.out _ _ hx).2
        have HX := Lib.hid hx
        clear hx
        have hz := hB.size
        have HO3 := Lib.hid (hown.alloc (.cells #[.int .i64 a, .int .i64 b] 61))
        have HW3 : Hid (Below w.heap.size w (wr.alloc (.cells #[.int .i64 a, .int .i64 b] 61))) := by show Below _ _ _; exact (by repeat (first | with_reducible exact Below.refl _ _ | with_reducible assumption | refine below_drewN ?_ _ | with_reducible refine Below.drew ?_ | (refine Below.setCell ?_ (by first | (simp; done) | (simp; omega) | omega) _) | (refine Below.alloc ?_ (by first | (simp; done) | (simp; omega) | omega) _)))
        have HS : Hid (Value.slice (some ⟨wr.heap.size + 1, 0, none⟩) 1 1 = Value.slice (some ⟨(wr.alloc (.cells #[.int .i64 a, .int .i64 b] 61)).heap.size, 0, none⟩) 1 1) := by show _ = _; simp
        go_wp2_with (at_builtin; refine wp_app_mark (wr.alloc (.cells #[.int .i64 a, .int .i64 b] 61)) rfl (.tmp 16) (.tmp 22) rfl w.heap.size _ k _ _ _ rfl HO3.out HS.out (by omega) HW3.out.size ?_; intro v2 w2 hown2 hB2)
        go_roundw
        case rel => exact ⟨k + 1, by omega, by go_num, by rw [map_take_succM swapM HX.out]; exact hown2, HW3.out.trans hB2⟩
        case measure => simp [intOf]; omega
      · obtain rfl : k = ms.length := by omega
        go_wp2
        go_ret2
        obtain ⟨A', c', rfl, hI⟩ := own_marks hown
        exact ⟨A', c', _, _, rfl, hI, hB, by simp [inverseF, HV.out], by simp [clkE, HV.out]⟩
  · have hv2 : vkB ms = false := by simpa using hv
    go_enter Try.func44, Try.ntmps44
    go_wp2_with (go_at_call 33; refine (refValidClock_any _ _ _ _ H.out.marks H.out.len).mono ?_; rintro e w1 ⟨he, hB1⟩; rw [hv2] at he; subst he)
    go_ret2
    exact ⟨none, 0, [], _, rfl, Clk.nil_, hB1, by simp [inverseF, hv2], by simp [clkE, hv2]⟩

set_option maxRecDepth 100000 in
set_option maxHeartbeats 800000 in
theorem refMoved_any (ms : List (Int × Int)) (A : Option Addr) (c : Nat) (by_ : Int) (w : World) (h : Clk w A c ms) :
    Calls Try.prog 46 #[.slice A ms.length c, .int .i64 by_] w fun e w' => ∃ (A' : Option Addr) (c' : Nat) (ys : List (Int × Int)) (E : Int),
      e = .returned (.tuple #[.slice A' ys.length c', .int .i64 E]) ∧ Clk w' A' c' ys ∧ Below w.heap.size w w' ∧ Hid (ys = movedF ms by_ ∧ E = movedE ms by_) := by
  have H := Lib.hid h
  clear h
  by_cases hv : vkB ms = true
  · obtain ⟨hn2, hn30⟩ := vk_parts hv
    have HV := Lib.hid hv
    clear hv
    obtain ⟨bl, off, rfl, hbk, hcells⟩ := H.out.marks.open_ (by omega)
    have HC := Lib.hid hcells
    clear hcells
    go_enter Try.func46, Try.ntmps46
    go_wp2_with (go_at_call 33; refine (refValidClock_any _ _ _ _ H.out.marks H.out.len).mono ?_; rintro e w1 ⟨he, hB1⟩; rw [HV.out] at he; subst he; have hz1 := hB1.size)
    go_loopw [6, 14] (fun v i wr => ∃ k : Nat, k ≤ ms.length ∧ i = .int .i64 k ∧ wr.ownsRow w.heap.size 61 2 v k (((ms.take k).map (moveM by_)).flatMap mk2) ∧ Below w.heap.size w wr ∧ Hid (∀ j, j < k → -(mA ms j).2 ≤ by_ ∧ by_ ≤ 100000 - (mA ms j).2)) (fun _ i _ => ms.length - (intOf i).toNat)
    case atStart => exact ⟨0, Nat.zero_le _, rfl, World.ownsRow_nil _ _ _ _, hB1, fun j h => absurd h (by omega)⟩
    case round =>
      clear hB1 hz1
      obtain ⟨k, hk, rfl, hown, hB, hall⟩ := hrel
      by_cases hlt : k < ms.length
      · obtain ⟨a, b, hx⟩ := getM_of_lt hlt
        have f0 := (hB.cell (p := ⟨bl, off + k * 2, none⟩) hbk).trans (HC.out _ _ hx).1
        have f1 := (hB.cell (p := ⟨bl, off + k * 2 + 1, none⟩) hbk).trans (HC.out _ _ hx).2
        have hab := vk_at HV.out hx
        have hge := last_ge HV.out hlt
        have HX := Lib.hid hx
        have HM := Lib.hid (mA_of hx)
        rw [mA_of hx] at hge
        have HGE := Lib.hid hge
        clear hx hge
        have hz := hB.size
        by_cases h1 : by_ < -b
        · have fin : Hid ([] = movedF ms by_ ∧ 2 = movedE ms by_) := by
            have hb := HGE.out.1
            simp only at hb
            have : okMv ms by_ = false := by rw [okMv]; exact decide_eq_false (by omega)
            exact ⟨by simp [movedF, this], by simp [movedE, HV.out, this]⟩
          have t1 : decide (by_ < -b) = true := decide_eq_true h1
          go_wp2
          go_ret2
          exact ⟨none, 0, [], _, rfl, Clk.nil_, (by repeat (first | with_reducible exact Below.refl _ _ | with_reducible assumption | refine below_drewN ?_ _ | with_reducible refine Below.drew ?_ | (refine Below.setCell ?_ (by first | (simp; done) | (simp; omega) | omega) _) | (refine Below.alloc ?_ (by first | (simp; done) | (simp; omega) | omega) _))), fin⟩
        · have t1 : decide (by_ < -b) = false := decide_eq_false h1
          by_cases h2 : 100000 - b < by_
          · have fin : Hid ([] = movedF ms by_ ∧ 2 = movedE ms by_) := by
              have hb := HGE.out.2
              simp only at hb
              have : okMv ms by_ = false := by rw [okMv]; exact decide_eq_false (by omega)
              exact ⟨by simp [movedF, this], by simp [movedE, HV.out, this]⟩
            have t2 : decide (100000 - b < by_) = true := decide_eq_true h2
            go_wp2
            go_ret2
            exact ⟨none, 0, [], _, rfl, Clk.nil_, (by repeat (first | with_reducible exact Below.refl _ _ | with_reducible assumption | refine below_drewN ?_ _ | with_reducible refine Below.drew ?_ | (refine Below.setCell ?_ (by first | (simp; done) | (simp; omega) | omega) _) | (refine Below.alloc ?_ (by first | (simp; done) | (simp; omega) | omega) _))), fin⟩
          · have t2 : decide (100000 - b < by_) = false := decide_eq_false h2
            have HO3 := Lib.hid (hown.alloc (.cells #[.int .i64 a, .int .i64 b] 61))
            have HW3 : Hid (Below w.heap.size w (wr.alloc (.cells #[.int .i64 a, .int .i64 b] 61))) := by show Below _ _ _; exact (by repeat (first | with_reducible exact Below.refl _ _ | with_reducible assumption | refine below_drewN ?_ _ | with_reducible refine Below.drew ?_ | (refine Below.setCell ?_ (by first | (simp; done) | (simp; omega) | omega) _) | (refine Below.alloc ?_ (by first | (simp; done) | (simp; omega) | omega) _)))
            have HS : Hid (Value.slice (some ⟨wr.heap.size + 1, 0, none⟩) 1 1 = Value.slice (some ⟨(wr.alloc (.cells #[.int .i64 a, .int .i64 b] 61)).heap.size, 0, none⟩) 1 1) := by show _ = _; simp
            go_wp2_with (at_builtin; refine wp_app_mark (wr.alloc (.cells #[.int .i64 a, .int .i64 b] 61)) rfl (.tmp 30) (.tmp 38) rfl w.heap.size _ k _ _ _ rfl HO3.out HS.out (by omega) HW3.out.size ?_; intro v2 w2 hown2 hB2)
            go_roundw
            case rel =>
              refine ⟨k + 1, by omega, by go_num, by rw [map_take_succM (moveM by_) HX.out]; exact hown2, HW3.out.trans hB2, fun j hj => ?_⟩
              rcases Nat.lt_or_ge j k with h | h
              · exact hall.out j h
              · obtain rfl : j = k := by omega
                rw [HM.out]; simp only; omega
            case measure => simp [intOf]; omega
      · obtain rfl : k = ms.length := by omega
        have HO : Hid (okMv ms by_ = true) := by
          show _ = _
          have j0 := hall.out 0 (by omega)
          have j1 := hall.out (ms.length - 1) (by omega)
          rw [okMv]; exact decide_eq_true (by omega)
        go_wp2
        go_ret2
        obtain ⟨A', c', rfl, hI⟩ := own_marks hown
        exact ⟨A', c', _, _, rfl, hI, hB, by simp [movedF, HV.out, HO.out], by simp [movedE, HV.out, HO.out]⟩
  · have hv2 : vkB ms = false := by simpa using hv
    go_enter Try.func46, Try.ntmps46
    go_wp2_with (go_at_call 33; refine (refValidClock_any _ _ _ _ H.out.marks H.out.len).mono ?_; rintro e w1 ⟨he, hB1⟩; rw [hv2] at he; subst he)
    go_ret2
    exact ⟨none, 0, [], _, rfl, Clk.nil_, hB1, by simp [movedF, hv2], by simp [movedE, hv2]⟩
end Go.Proofs.Ytjghlfagdleglaa
