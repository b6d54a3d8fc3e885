/-
  Contracts: Valid, differences, Differences, Samples, SameInts (firnref03).
-/
import Derived.Test.YtcmnjmhedmneiaaDoorSamples
import Derived.Deep.RegionHeld3
namespace Go.Proofs.YtcmnjmhedmneiaaDoor
open Go.RowKit Go.Shelf

set_option maxRecDepth 100000 in
theorem refValid_any (s : List Int) (A : Option Addr) (c : Nat) (w : World) (h : Ints w A s) (hl : s.length ≤ maxLen) :
    Calls Tryd.prog 25 #[.slice A s.length c] w fun e w' => e = .returned (.bool (vwB s)) ∧ w = w' := by
  unfold maxLen at hl
  have H := Lib.hid h
  clear h
  go_enter Tryd.func25, Tryd.ntmps25
  go_wp2
  go_loop [7] (fun i => ∃ k : Nat, k ≤ s.length ∧ i = .int .i64 k ∧ Hid ((s.take k).all smpB = true)) (fun i => s.length - (intOf i).toNat)
  case atStart => exact ⟨0, Nat.zero_le _, rfl, rfl⟩
  case round =>
    obtain ⟨k, hk, rfl, hA⟩ := hrel
    by_cases hlt : k < s.length
    · obtain ⟨ad, z, rfl, _, hz, hc⟩ := H.out.get hlt
      by_cases h0 : z < 0
      · have t0 : decide (z < 0) = true := decide_eq_true h0
        have HZ : Hid (smpB z = false) := Lib.hid (by simp [smpB]; omega)
        go_wp2
        go_ret
        exact ⟨ret_bool (by rw [vwB, all_not hz.out HZ.out, Bool.and_false]), rfl⟩
      · have t0 : decide (z < 0) = false := decide_eq_false h0
        by_cases h1 : 1023 < z
        · have t1 : decide (1023 < z) = true := decide_eq_true h1
          have HZ : Hid (smpB z = false) := Lib.hid (by simp [smpB]; omega)
          go_wp2
          go_ret
          exact ⟨ret_bool (by rw [vwB, all_not hz.out HZ.out, Bool.and_false]), rfl⟩
        · have t1 : decide (1023 < z) = false := decide_eq_false h1
          have HZ : Hid (smpB z = true) := Lib.hid (by simp [smpB]; omega)
          go_wp2
          go_round
          case rel => exact ⟨k + 1, by omega, by go_num, by rw [all_snoc hz.out, hA.out, HZ.out]; rfl⟩
          case measure => simp [intOf]; omega
    · obtain rfl : k = s.length := by omega
      have HA : Hid (s.all smpB = true) := by have := hA.out; rwa [List.take_length] at this
      go_wp2
      all_goals
        go_ret
        refine ⟨ret_bool ?_, rfl⟩
        rw [vwB, HA.out, Bool.and_true, Bool.eq_iff_iff]
        simp
        try omega

set_option maxRecDepth 100000 in
theorem refDifs_any (s : List Int) (A : Option Addr) (c : Nat) (w : World) (h : Ints w A s) (hv : vwB s = true) :
    Calls Tryd.prog 59 #[.slice A s.length c] w fun e w' => ∃ (A' : Option Addr) (c' : Nat) (zs : List Int), e = .returned (.slice A' zs.length c') ∧ Out w' A' c' zs ∧ Below w.heap.size w w' ∧ Hid (zs = difL s) := by
  obtain ⟨⟨hn1, hn2⟩, hall⟩ := vw_parts hv
  have HA := Lib.hid hall
  obtain ⟨bl, off, e, hbk, hc⟩ := h.open_ (by omega)
  subst e
  have HC := Lib.hid hc
  obtain ⟨z0, hz0⟩ := getElem?_of_lt (show 0 < s.length by omega)
  have f0 := hc 0 z0 hz0
  rw [Nat.add_zero] at f0
  have HZ0 := Lib.hid hz0
  clear h hc hv hall hz0
  have hB0 : Below w.heap.size w (w.alloc (.cells #[.int .i64 z0] 3)) := (by repeat (first | with_reducible exact Below.refl _ _ | with_reducible assumption | refine below_drewN ?_ _ | with_reducible refine Below.drew ?_ | (refine Below.setCell ?_ (by first | (simp; done) | (simp; omega) | omega) _) | (refine Below.alloc ?_ (by first | (simp; done) | (simp; omega) | omega) _)))
  have HO0 : Hid ((w.alloc (.cells #[.int .i64 z0] 3)).ownsRow w.heap.size 3 1 (.slice (some ⟨w.heap.size, 0, none⟩) 1 1) 1 ([z0].map (Value.int .i64))) := World.ownsRow_lit w #[.int .i64 z0] 1 (Nat.le_refl _) (by decide) rfl
  go_enter Tryd.func59, Tryd.ntmps59
  go_wp2
  clear f0
  go_loopw [3, 4] (fun v i wr => ∃ k : Nat, 1 ≤ k ∧ k ≤ s.length ∧ i = .int .i64 k ∧ ∃ xs : List Int, wr.ownsRow w.heap.size 3 1 v k (xs.map (Value.int .i64)) ∧ Below w.heap.size w wr ∧ Hid (xs = difL (s.take k))) (fun _ i _ => s.length - (intOf i).toNat)
  case atStart => exact ⟨1, Nat.le_refl _, hn1, rfl, [z0], HO0.out, hB0, by rw [take_snoc HZ0.out]; simp [Hid, difL, difG]⟩
  case round =>
    clear hB0
    obtain ⟨k, hk1, hk, rfl, xs, hown, hB, hX⟩ := hrel
    by_cases hlt : k < s.length
    · obtain ⟨z, hz⟩ := getElem?_of_lt hlt
      obtain ⟨y, hy⟩ := getElem?_of_lt (show k - 1 < s.length by omega)
      have g0 := (hB.cell (p := ⟨bl, off + k, none⟩) hbk).trans (HC.out _ _ hz)
      have g1 := (hB.cell (p := ⟨bl, off + (k - 1), none⟩) hbk).trans (HC.out _ _ hy)
      have hzb := HA.out z (List.mem_of_getElem? hz)
      have hyb := HA.out y (List.mem_of_getElem? hy)
      obtain ⟨hzb0, hzb1⟩ := hzb
      obtain ⟨hyb0, hyb1⟩ := hyb
      have HNX : Hid (xs ++ [z - y] = difL (s.take (k + 1))) := by
        have e : lastG 0 (s.take k) = y := by
          obtain ⟨j, rfl⟩ : ∃ j, k = j + 1 := ⟨k - 1, by omega⟩
          have hy2 : s[j]? = some y := by simpa using hy
          rw [take_snoc hy2, last_snoc]
        rw [take_snoc hz, difL, difG_snoc, e, hX.out]; rfl
      have hsz := hB.size
      have hbw : bl < wr.heap.size := Nat.lt_of_lt_of_le hbk hsz
      have i1 : (k : Int) < (s.length : Int) := by omega
      have i2 : (0 : Int) ≤ (k : Int) - 1 := by omega
      have i3 : (k : Int) - 1 < (s.length : Int) := by omega
      have i4 : IntKind.i64.wrap ((k : Int) - 1) = (k : Int) - 1 := IntWalk.i64_in _ (by omega)
      have i5 : ((k : Int) - 1).toNat = k - 1 := by omega
      have i6 : IntKind.i64.wrap (z - y) = z - y := IntWalk.i64_in _ (by omega)
      have i7 : (1 : Int) ≤ (k : Int) := by omega
      have i8 : (k : Int) < (s.length : Int) + 1 := by omega
      have i9 : (k : Int) ≤ (s.length : Int) := by omega
      have hB3 := hB
      clear hz hy hX
      go_wp2
      go_region_held3 (fun w' => w'.cell? ⟨bl, off + (k - 1), none⟩ = some (.int .i64 y) ∧ w'.cell? ⟨bl, off + k, none⟩ = some (.int .i64 z))
        (first | go_keep | exact ⟨(hB2.cell (p := ⟨bl, off + (k - 1), none⟩) hbk).trans g1, (hB2.cell (p := ⟨bl, off + k, none⟩) hbk).trans g0⟩)
        ((refine step_app_int _ rfl (.tmp 15) (.tmp 26) rfl w.heap.size _ k _ _ rfl hown rfl (by omega) hB.size ?_; intro v2 w2 hown2 hB2))
      clear i2 i4 i5 i6
      go_wp2
      go_roundw
      case rel => exact ⟨k + 1, by omega, by omega, by go_num, _, hown2, hB3.trans hB2, HNX.out⟩
      case measure => simp [intOf]; omega
    · obtain rfl : k = s.length := by omega
      go_wp2
      go_ret
      obtain ⟨A', c', rfl, hO⟩ := own_ints hown
      exact ⟨A', c', xs, rfl, hO, hB, by have := hX.out; rwa [List.take_length] at this⟩

set_option maxRecDepth 100000 in
theorem refDifferences_any (s : List Int) (A : Option Addr) (c : Nat) (w : World) (h : Ints w A s) (hl : s.length ≤ maxLen) :
    Calls Tryd.prog 21 #[.slice A s.length c] w fun e w' => ListRes (difE s) (difR s) e w w' := by
  have H := Lib.hid h
  clear h
  cases hv : vwB s with
  | false =>
    have HV := Lib.hid hv
    go_enter Tryd.func21, Tryd.ntmps21
    go_wp2_with (go_at_call 25; refine (refValid_any s _ _ _ H.out hl).mono ?_; rintro e w1 ⟨rfl, rfl⟩; rw [HV.out])
    go_ret2
    exact ⟨none, 0, [], 30, rfl, Out.nil_, Below.refl _ _, (dif_no HV.out).2.symm, (dif_no HV.out).1.symm⟩
  | true =>
    have HV := Lib.hid hv
    go_enter Tryd.func21, Tryd.ntmps21
    go_wp2_with (first
      | (go_at_call 25; refine (refValid_any s _ _ _ H.out hl).mono ?_; rintro e w1 ⟨rfl, rfl⟩; rw [HV.out])
      | (go_at_call 59; refine (refDifs_any s _ _ _ H.out HV.out).mono ?_; rintro e w2 ⟨A2, c', zs, rfl, hO, hB, hz⟩))
    go_ret2
    exact ⟨A2, c', zs, 0, rfl, hO, hB, hz.out.trans (dif_ok HV.out).2.symm, (dif_ok HV.out).1.symm⟩
end Go.Proofs.YtcmnjmhedmneiaaDoor
