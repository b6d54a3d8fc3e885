/-
  Contracts: checkLocal, At, Speed (tick).
-/
import Derived.Test.YtjghlfagdleglaaAt
namespace Go.Proofs.Ytjghlfagdleglaa
open Go.RowKit

def atE (ms : List (Int × Int)) (x : Int) : Int := if vkB ms then (if tickB x then 0 else 2) else 11
def okAt (ms : List (Int × Int)) (x : Int) : Bool := vkB ms && tickB x
def atRN (ms : List (Int × Int)) (x : Int) : Int := if okAt ms x then lowN (atN ms x) (atD ms x) else 0
def atRD (ms : List (Int × Int)) (x : Int) : Int := if okAt ms x then lowD (atN ms x) (atD ms x) else 0
def spRN (ms : List (Int × Int)) (x : Int) : Int := if okAt ms x then lowN (spN ms (segL ms x 1)) (spD ms (segL ms x 1)) else 0
def spRD (ms : List (Int × Int)) (x : Int) : Int := if okAt ms x then lowD (spN ms (segL ms x 1)) (spD ms (segL ms x 1)) else 0
theorem atE_ok {ms : List (Int × Int)} {x : Int} (h : okAt ms x = true) : atE ms x = 0 := by
  simp [okAt] at h; simp [atE, h.1, h.2]
theorem atE_no {ms : List (Int × Int)} {x : Int} (h : ¬ okAt ms x = true) : atE ms x = 2 ∨ atE ms x = 11 := by
  unfold atE
  by_cases hv : vkB ms = true
  · have ht : ¬ tickB x = true := by intro h2; exact h (by simp [okAt, hv, h2])
    rw [if_pos hv, if_neg ht]; exact .inl rfl
  · rw [if_neg hv]; exact .inr rfl

theorem checkLocal_any (ms : List (Int × Int)) (A : Option Addr) (c : Nat) (x : Int) (w : World) (h : Clk w A c ms) :
    Calls Try.prog 59 #[.slice A ms.length c, .int .i64 x] w fun e w' => ∃ E : Int, e = .returned (.int .i64 E) ∧ Below w.heap.size w w' ∧ Hid (E = atE ms x) := by
  have H := Lib.hid h
  clear h
  by_cases hv : vkB ms = true
  · by_cases ht : tickB x = true
    · go_enter Try.func59, Try.ntmps59
      go_wp2_with (first
        | (go_at_call 32; refine (validClock_any _ _ _ _ H.out.marks H.out.len).mono ?_; rintro e w1 ⟨rfl, hB1⟩)
        | (go_at_call 63; refine (validTick_any _ _).mono ?_; rintro e w' ⟨rfl, rfl⟩))
      go_ret
      exact ⟨_, rfl, hB1, by show _ = _; simp [atE, hv, ht]⟩
    · have ht2 : tickB x = false := by simpa using ht
      go_enter Try.func59, Try.ntmps59
      go_wp2_with (first
        | (go_at_call 32; refine (validClock_any _ _ _ _ H.out.marks H.out.len).mono ?_; rintro e w1 ⟨rfl, hB1⟩)
        | (go_at_call 63; refine (validTick_any _ _).mono ?_; rintro e w' ⟨rfl, rfl⟩))
      go_ret
      exact ⟨_, rfl, hB1, by show _ = _; simp [atE, hv, ht2]⟩
  · have hv2 : vkB ms = false := by simpa using hv
    go_enter Try.func59, Try.ntmps59
    go_wp2_with (first
      | (go_at_call 32; refine (validClock_any _ _ _ _ H.out.marks H.out.len).mono ?_; rintro e w1 ⟨rfl, hB1⟩)
      | (go_at_call 63; refine (validTick_any _ _).mono ?_; rintro e w' ⟨rfl, rfl⟩))
    go_ret
    exact ⟨_, rfl, hB1, by show _ = _; simp [atE, hv2]⟩

set_option maxRecDepth 100000 in
set_option maxHeartbeats 800000 in
theorem at_any (ms : List (Int × Int)) (A : Option Addr) (c : Nat) (x : Int) (w : World) (h : Clk w A c ms) :
    Calls Try.prog 30 #[.slice A ms.length c, .int .i64 x] w fun e w' => ∃ n d E : Int, e = .returned (.tuple #[.agg #[.int .i64 n, .int .i64 d], .int .i64 E]) ∧ Below w.heap.size w w' ∧ Hid (n = atRN ms x ∧ d = atRD ms x ∧ E = atE ms x) := by
  have H := Lib.hid h
  clear h
  have H0 := Lib.hid (H.out.below (show Below w.heap.size w (w.alloc (.cells #[.int .i64 0, .int .i64 0] 36)) from (by repeat (first | with_reducible exact Below.refl _ _ | with_reducible assumption | refine below_drewN ?_ _ | with_reducible refine Below.drew ?_ | (refine Below.setCell ?_ (by first | (simp; done) | (simp; omega) | omega) _) | (refine Below.alloc ?_ (by first | (simp; done) | (simp; omega) | omega) _)))))
  by_cases hok : okAt ms x = true
  · have hvt : vkB ms = true ∧ tickB x = true := by simpa [okAt] using hok
    have HV := Lib.hid hvt.1
    obtain ⟨hx0, hx1⟩ : 0 ≤ x ∧ x ≤ 100000 := by simpa [tickB] using hvt.2
    clear hvt
    go_enter Try.func30, Try.ntmps30
    go_wp2_with (first
      | (go_at_call 59; refine (checkLocal_any _ _ _ _ _ H0.out).mono ?_; rintro e w1 ⟨E, rfl, hB1, hE⟩; obtain rfl : E = 0 := hE.out.trans (atE_ok hok))
      | (go_at_call 60; refine (timeAt_any _ _ _ _ _ (H0.out.below hB1) HV.out hx0 hx1).mono ?_; rintro e w2 ⟨n, d, rfl, hB2, hnd⟩; obtain ⟨hcc, hff⟩ := bcell hB1; obtain ⟨hcc2, hff2⟩ := bcell hB2; have hz1 := hB1.size; have hz2 := hB2.size; simp at hz1; have hz3 : w.heap.size < w1.heap.size := (by omega)))
    have hW : Below w.heap.size w w2 := Below.trans (Below.trans (by repeat (first | with_reducible exact Below.refl _ _ | with_reducible assumption | refine below_drewN ?_ _ | with_reducible refine Below.drew ?_ | (refine Below.setCell ?_ (by first | (simp; done) | (simp; omega) | omega) _) | (refine Below.alloc ?_ (by first | (simp; done) | (simp; omega) | omega) _))) (hB1.mono (by first | (simp; done) | (simp; omega) | omega))) (hB2.mono (by omega))
    refine bodyPost_ret (v := .tuple #[.agg #[.int .i64 n, .int .i64 d], .int .i64 0]) (by simp [results, Try.results30, go_sem, hcc, hcc2, hz3]) rfl ⟨n, d, 0, rfl, (by repeat (first | with_reducible exact Below.refl _ _ | with_reducible assumption | refine below_drewN ?_ _ | with_reducible refine Below.drew ?_ | (refine Below.setCell ?_ (by first | (simp; done) | (simp; omega) | omega) _) | (refine Below.alloc ?_ (by first | (simp; done) | (simp; omega) | omega) _))), ?_⟩
    exact ⟨by rw [atRN, if_pos hok]; exact hnd.out.1, by rw [atRD, if_pos hok]; exact hnd.out.2, (atE_ok hok).symm⟩
  · go_enter Try.func30, Try.ntmps30
    go_wp2_with (go_at_call 59; refine (checkLocal_any _ _ _ _ _ H0.out).mono ?_; rintro e w1 ⟨E, rfl, hB1, hE⟩; have hE2 : E = 2 ∨ E = 11 := (by rw [hE.out]; exact atE_no hok); have hE3 : (E != 0) = true := (by rcases hE2 with rfl | rfl <;> rfl); clear hE2; obtain ⟨hcc, hff⟩ := bcell hB1; have hz1 := hB1.size; simp at hz1)
    have hW : Below w.heap.size w w1 := Below.trans (by repeat (first | with_reducible exact Below.refl _ _ | with_reducible assumption | refine below_drewN ?_ _ | with_reducible refine Below.drew ?_ | (refine Below.setCell ?_ (by first | (simp; done) | (simp; omega) | omega) _) | (refine Below.alloc ?_ (by first | (simp; done) | (simp; omega) | omega) _))) (hB1.mono (by first | (simp; done) | (simp; omega) | omega))
    refine bodyPost_ret (v := .tuple #[.agg #[.int .i64 0, .int .i64 0], .int .i64 E]) (by simp [results, Try.results30, go_sem, hcc]) rfl ⟨0, 0, E, rfl, (by repeat (first | with_reducible exact Below.refl _ _ | with_reducible assumption | refine below_drewN ?_ _ | with_reducible refine Below.drew ?_ | (refine Below.setCell ?_ (by first | (simp; done) | (simp; omega) | omega) _) | (refine Below.alloc ?_ (by first | (simp; done) | (simp; omega) | omega) _))), ?_⟩
    exact ⟨by rw [atRN, if_neg hok], by rw [atRD, if_neg hok], hE.out⟩

set_option maxRecDepth 100000 in
set_option maxHeartbeats 800000 in
theorem speed_any (ms : List (Int × Int)) (A : Option Addr) (c : Nat) (x : Int) (w : World) (h : Clk w A c ms) :
    Calls Try.prog 36 #[.slice A ms.length c, .int .i64 x] w fun e w' => ∃ n d E : Int, e = .returned (.tuple #[.agg #[.int .i64 n, .int .i64 d], .int .i64 E]) ∧ Below w.heap.size w w' ∧ Hid (n = spRN ms x ∧ d = spRD ms x ∧ E = atE ms x) := by
  have H := Lib.hid h
  clear h
  have H0 := Lib.hid (H.out.below (show Below w.heap.size w (w.alloc (.cells #[.int .i64 0, .int .i64 0] 36)) from (by repeat (first | with_reducible exact Below.refl _ _ | with_reducible assumption | refine below_drewN ?_ _ | with_reducible refine Below.drew ?_ | (refine Below.setCell ?_ (by first | (simp; done) | (simp; omega) | omega) _) | (refine Below.alloc ?_ (by first | (simp; done) | (simp; omega) | omega) _)))))
  by_cases hok : okAt ms x = true
  · have hvt : vkB ms = true ∧ tickB x = true := by simpa [okAt] using hok
    have HV := Lib.hid hvt.1
    obtain ⟨hx0, hx1⟩ : 0 ≤ x ∧ x ≤ 100000 := by simpa [tickB] using hvt.2
    clear hvt
    go_enter Try.func36, Try.ntmps36
    go_wp2_with (first
      | (go_at_call 59; refine (checkLocal_any _ _ _ _ _ H0.out).mono ?_; rintro e w1 ⟨E, rfl, hB1, hE⟩; obtain rfl : E = 0 := hE.out.trans (atE_ok hok))
      | (go_at_call 69; refine (whole_any _ _).mono ?_; rintro e w2 ⟨rfl, hB2⟩)
      | (go_at_call 64; refine (lineOfL_any ms A c x 1 _ ((H0.out.below hB1).below hB2) HV.out (by omega) (by omega)).mono ?_; rintro e w3 ⟨a, b, p, q, rfl, hB3, hpq⟩; have ha := vk_at HV.out hpq.out.1; have hp := vk_at HV.out hpq.out.2; have hlt := vk_lt HV.out hpq.out.1 hpq.out.2)
      | (go_at_call 70; refine (lineSpeed_any a b p q _ (by omega) (by omega) (by omega) (by omega) (by omega) (by omega)).mono ?_; rintro e w4 ⟨rfl, hB4⟩; obtain ⟨hcc, hff⟩ := bcell hB1; obtain ⟨hcc2, hff2⟩ := bcell hB2; obtain ⟨hcc3, hff3⟩ := bcell hB3; obtain ⟨hcc4, hff4⟩ := bcell hB4; have hz1 := hB1.size; have hz2 := hB2.size; have hz3 := hB3.size; have hz4 := hB4.size; simp at hz1; have hz5 : w.heap.size < w1.heap.size := (by omega); have hz6 : w.heap.size < w2.heap.size := (by omega); have hz7 : w.heap.size < w3.heap.size := (by omega)))
    have hW : Below w.heap.size w w4 := Below.trans (Below.trans (Below.trans (Below.trans (by repeat (first | with_reducible exact Below.refl _ _ | with_reducible assumption | refine below_drewN ?_ _ | with_reducible refine Below.drew ?_ | (refine Below.setCell ?_ (by first | (simp; done) | (simp; omega) | omega) _) | (refine Below.alloc ?_ (by first | (simp; done) | (simp; omega) | omega) _))) (hB1.mono (by first | (simp; done) | (simp; omega) | omega))) (hB2.mono (by omega))) (hB3.mono (by omega))) (hB4.mono (by omega))
    refine bodyPost_ret (v := .tuple #[.agg #[.int .i64 (lowN (q - b) (p - a)), .int .i64 (lowD (q - b) (p - a))], .int .i64 0]) (by simp [results, Try.results36, go_sem, hcc, hcc2, hcc3, hcc4, hz5, hz6, hz7]) rfl ⟨_, _, 0, rfl, (by repeat (first | with_reducible exact Below.refl _ _ | with_reducible assumption | refine below_drewN ?_ _ | with_reducible refine Below.drew ?_ | (refine Below.setCell ?_ (by first | (simp; done) | (simp; omega) | omega) _) | (refine Below.alloc ?_ (by first | (simp; done) | (simp; omega) | omega) _))), ?_⟩
    have h1 := mA_of hpq.out.1
    have h2 := mA_of hpq.out.2
    refine ⟨?_, ?_, (atE_ok hok).symm⟩
    · rw [spRN, if_pos hok, spN, spD, segL, h1, h2]
    · rw [spRD, if_pos hok, spN, spD, segL, h1, h2]
  · go_enter Try.func36, Try.ntmps36
    go_wp2_with (go_at_call 59; refine (checkLocal_any _ _ _ _ _ H0.out).mono ?_; rintro e w1 ⟨E, rfl, hB1, hE⟩; have hE2 : E = 2 ∨ E = 11 := (by rw [hE.out]; exact atE_no hok); have hE3 : (E != 0) = true := (by rcases hE2 with rfl | rfl <;> rfl); clear hE2; obtain ⟨hcc, hff⟩ := bcell hB1; have hz1 := hB1.size; simp at hz1)
    have hW : Below w.heap.size w w1 := Below.trans (by repeat (first | with_reducible exact Below.refl _ _ | with_reducible assumption | refine below_drewN ?_ _ | with_reducible refine Below.drew ?_ | (refine Below.setCell ?_ (by first | (simp; done) | (simp; omega) | omega) _) | (refine Below.alloc ?_ (by first | (simp; done) | (simp; omega) | omega) _))) (hB1.mono (by first | (simp; done) | (simp; omega) | omega))
    refine bodyPost_ret (v := .tuple #[.agg #[.int .i64 0, .int .i64 0], .int .i64 E]) (by simp [results, Try.results36, go_sem, hcc]) rfl ⟨0, 0, E, rfl, (by repeat (first | with_reducible exact Below.refl _ _ | with_reducible assumption | refine below_drewN ?_ _ | with_reducible refine Below.drew ?_ | (refine Below.setCell ?_ (by first | (simp; done) | (simp; omega) | omega) _) | (refine Below.alloc ?_ (by first | (simp; done) | (simp; omega) | omega) _))), ?_⟩
    exact ⟨by rw [spRN, if_neg hok], by rw [spRD, if_neg hok], hE.out⟩
end Go.Proofs.Ytjghlfagdleglaa
