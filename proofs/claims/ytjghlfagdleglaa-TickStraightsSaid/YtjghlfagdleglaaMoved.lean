/-
  Contract: Moved (tick).
-/
import Derived.Test.YtjghlfagdleglaaInv
import Derived.Test.YtjghlfagdleglaaRefLine
namespace Go.Proofs.Ytjghlfagdleglaa
open Go.RowKit

def okMv (ms : List (Int × Int)) (by_ : Int) : Bool := decide (-(mA ms 0).2 ≤ by_ ∧ by_ ≤ 100000 - (mA ms (ms.length - 1)).2)
def moveM (by_ : Int) (m : Int × Int) : Int × Int := (m.1, m.2 + by_)
def movedF (ms : List (Int × Int)) (by_ : Int) : List (Int × Int) := if vkB ms && okMv ms by_ then ms.map (moveM by_) else []
def movedE (ms : List (Int × Int)) (by_ : Int) : Int := if vkB ms then (if okMv ms by_ then 0 else 2) else 11
theorem last_ge {ms : List (Int × Int)} {k : Nat} (hv : vkB ms = true) (hk : k < ms.length) : (mA ms 0).2 ≤ (mA ms k).2 ∧ (mA ms k).2 ≤ (mA ms (ms.length - 1)).2 := by
  constructor
  · rcases Nat.eq_zero_or_pos k with rfl | h
    · exact Int.le_refl _
    · exact Int.le_of_lt (asc_mono hv h hk).2
  · rcases Nat.lt_or_ge k (ms.length - 1) with h | h
    · exact Int.le_of_lt (asc_mono hv h (by omega)).2
    · obtain rfl : k = ms.length - 1 := by omega
      exact Int.le_refl _

set_option maxRecDepth 100000 in
set_option maxHeartbeats 1600000 in
theorem moved_any (ms : List (Int × Int)) (A : Option Addr) (c : Nat) (by_ : Int) (w : World) (h : Clk w A c ms) :
    Calls Try.prog 45 #[.slice A ms.length c, .int .i64 by_] w fun e w' => ∃ (A' : Option Addr) (c' : Nat) (ys : List (Int × Int)) (E : Int),
      e = .returned (.tuple #[.slice A' ys.length c', .int .i64 E]) ∧ Clk w' A' c' ys ∧ Below w.heap.size w w' ∧ Hid (ys = movedF ms by_ ∧ E = movedE ms by_) := by
  have H := Lib.hid h
  clear h
  by_cases hv : vkB ms = true
  · obtain ⟨hn2, hn30⟩ := vk_parts hv
    have HV := Lib.hid hv
    clear hv
    obtain ⟨bl, off, rfl, hbk, hcells⟩ := H.out.marks.open_ (by omega)
    have HC := Lib.hid hcells
    clear hcells
    obtain ⟨a0, b0, hm0⟩ := getM_of_lt (show 0 < ms.length by omega)
    obtain ⟨a1, b1, hm1⟩ := getM_of_lt (show ms.length - 1 < ms.length by omega)
    have f0 : w.cell? ⟨bl, off + 1, none⟩ = some (.int .i64 b0) := by simpa using (HC.out 0 _ hm0).2
    have f1 : w.cell? ⟨bl, off + (ms.length - 1) * 2 + 1, none⟩ = some (.int .i64 b1) := (HC.out _ _ hm1).2
    have hb0 := vk_at HV.out hm0
    have hb1 := vk_at HV.out hm1
    have HM0 := Lib.hid (mA_of hm0)
    have HM1 := Lib.hid (mA_of hm1)
    clear hm0 hm1
    have hlt0 : 0 < ms.length := by omega
    have hlt1 : ms.length - 1 < ms.length := by omega
    by_cases h1 : by_ < -b0
    · have fin : Hid ([] = movedF ms by_ ∧ 2 = movedE ms by_) := by
        have : okMv ms by_ = false := by rw [okMv, HM0.out]; exact decide_eq_false (by simp only; omega)
        exact ⟨by simp [movedF, this], by simp [movedE, HV.out, this]⟩
      have t1 : decide (by_ < -b0) = true := decide_eq_true h1
      go_enter Try.func45, Try.ntmps45
      go_wp2_with (go_at_call 32; refine (validClock_any _ _ _ _ H.out.marks H.out.len).mono ?_; rintro e w1 ⟨he, hB1⟩; rw [HV.out] at he; subst he; have g0 := (hB1.cell (p := ⟨bl, off + 1, none⟩) hbk).trans f0; have g1 := (hB1.cell (p := ⟨bl, off + (ms.length - 1) * 2 + 1, none⟩) hbk).trans f1)
      go_ret2
      exact ⟨none, 0, [], _, rfl, Clk.nil_, hB1, fin⟩
    · have t1 : decide (by_ < -b0) = false := decide_eq_false h1
      by_cases h2 : 100000 - b1 < by_
      · have fin : Hid ([] = movedF ms by_ ∧ 2 = movedE ms by_) := by
          have : okMv ms by_ = false := by rw [okMv, HM1.out]; exact decide_eq_false (by simp only; omega)
          exact ⟨by simp [movedF, this], by simp [movedE, HV.out, this]⟩
        have t2 : decide (100000 - b1 < by_) = true := decide_eq_true h2
        go_enter Try.func45, Try.ntmps45
        go_wp2_with (go_at_call 32; refine (validClock_any _ _ _ _ H.out.marks H.out.len).mono ?_; rintro e w1 ⟨he, hB1⟩; rw [HV.out] at he; subst he; have g0 := (hB1.cell (p := ⟨bl, off + 1, none⟩) hbk).trans f0; have g1 := (hB1.cell (p := ⟨bl, off + (ms.length - 1) * 2 + 1, none⟩) hbk).trans f1)
        go_ret2
        exact ⟨none, 0, [], _, rfl, Clk.nil_, hB1, fin⟩
      · have t2 : decide (100000 - b1 < by_) = false := decide_eq_false h2
        have HO : Hid (okMv ms by_ = true) := by show _ = _; rw [okMv, HM0.out, HM1.out]; exact decide_eq_true (by simp only; omega)
        obtain ⟨i0, hi0, hz0, hz1, hz2⟩ := info_parts mark_info
        have HZ2 := Lib.hid hz2
        clear hz2
        go_enter Try.func45, Try.ntmps45
        go_wp2_with (first
          | (go_at_call 32; refine (validClock_any _ _ _ _ H.out.marks H.out.len).mono ?_; rintro e w0 ⟨he, hB0⟩; rw [HV.out] at he; subst he; have hz0' := hB0.size; have g0 := (hB0.cell (p := ⟨bl, off + 1, none⟩) hbk).trans f0; have g1 := (hB0.cell (p := ⟨bl, off + (ms.length - 1) * 2 + 1, none⟩) hbk).trans f1)
          | (at_make; refine wpList_make_own _ rfl _ _ 34 rfl w.heap.size 61 i0 (.agg #[.int .i64 0, .int .i64 0]) 2 Try.underlying34 hi0 hz0 hz1 _ _ _ ms.length rfl rfl rfl (by rw [HZ2.out]; omega) (by unfold maxLen; omega) hB0.size ?_; intro w1 hown1 hg1))
        have hB1 : Below w.heap.size w w1 := hB0.grown hg1 hB0.size (by simp)
        clear hg1 HZ2 hz0 hz1 hi0 hB0 hz0' g0 g1 f0 f1
        go_loopw [6, 36] (fun v i wr => ∃ k : Nat, k ≤ ms.length ∧ i = .int .i64 k ∧ wr.ownsRow w.heap.size 61 2 v k (((ms.take k).map (moveM by_)).flatMap mk2) ∧ Below w.heap.size w wr) (fun _ i _ => ms.length - (intOf i).toNat)
        case atStart => exact ⟨0, Nat.zero_le _, rfl, hown1, hB1⟩
        case round =>
          clear hown1 hB1
          obtain ⟨k, hk, rfl, hown, hB⟩ := hrel
          by_cases hlt : k < ms.length
          · obtain ⟨a, b, hx⟩ := getM_of_lt hlt
            have f0 := (hB.cell (p := ⟨bl, off + k * 2, none⟩) hbk).trans (HC.out _ _ hx).1
            have f1 := (hB.cell (p := ⟨bl, off + k * 2 + 1, none⟩) hbk).trans (HC.out _ _ hx).2
            have hab := vk_at HV.out hx
            have HX := Lib.hid hx
            clear hx
            have hz := hB.size
            have hown3 := hown.alloc (.cells #[.int .i64 a, .int .i64 b] 61)
            have hW3 : Below w.heap.size w (wr.alloc (.cells #[.int .i64 a, .int .i64 b] 61)) := (by repeat (first | with_reducible exact Below.refl _ _ | with_reducible assumption | refine below_drewN ?_ _ | with_reducible refine Below.drew ?_ | (refine Below.setCell ?_ (by first | (simp; done) | (simp; omega) | omega) _) | (refine Below.alloc ?_ (by first | (simp; done) | (simp; omega) | omega) _)))
            have HO3 := Lib.hid hown3
            have HW3 := Lib.hid hW3
            clear hown3 hW3
            have HS : Value.slice (some ⟨wr.heap.size + 1, 0, none⟩) 1 1 = Value.slice (some ⟨(wr.alloc (.cells #[.int .i64 a, .int .i64 b] 61)).heap.size, 0, none⟩) 1 1 := by simp
            have HSH := Lib.hid HS
            clear HS
            go_wp2_with (at_builtin; refine wp_app_mark (wr.alloc (.cells #[.int .i64 a, .int .i64 b] 61)) rfl (.tmp 40) (.tmp 48) rfl w.heap.size _ k _ _ _ rfl HO3.out HSH.out (by omega) HW3.out.size ?_; intro v2 w2 hown2 hB2)
            go_roundw
            case rel => exact ⟨k + 1, by omega, by go_num, by rw [map_take_succM (moveM by_) HX.out]; exact hown2, HW3.out.trans hB2⟩
            case measure => simp [intOf]; omega
          · obtain rfl : k = ms.length := by omega
            go_wp2
            go_ret2
            obtain ⟨A', c', rfl, hI⟩ := own_marks hown
            exact ⟨A', c', _, _, rfl, hI, hB, by simp [movedF, HV.out, HO.out], by simp [movedE, HV.out, HO.out]⟩
  · have hv2 : vkB ms = false := by simpa using hv
    go_enter Try.func45, Try.ntmps45
    go_wp2_with (go_at_call 32; refine (validClock_any _ _ _ _ H.out.marks H.out.len).mono ?_; rintro e w1 ⟨he, hB1⟩; rw [hv2] at he; subst he)
    go_ret2
    exact ⟨none, 0, [], _, rfl, Clk.nil_, hB1, by simp [movedF, hv2], by simp [movedE, hv2]⟩
end Go.Proofs.Ytjghlfagdleglaa
