/-
  Contracts: both Rounds, many, Awake.
-/
import Derived.Test.YtjghlfagdleglaaSteps
namespace Go.Proofs.Ytjghlfagdleglaa
open Go.RowKit

def roundsF (b : Int) (zs : List Int) : Int := if vrB b zs then rnd zs zs.length else 0
theorem countsE_ok {b : Int} {zs : List Int} (hv : vrB b zs = true) : countsE b zs = 0 := by simp [countsE, hv, (vr_parts hv).1]
theorem countsE_no {b : Int} {zs : List Int} (hv : ¬ vrB b zs = true) : countsE b zs = 2 ∨ countsE b zs = 10 := by
  unfold countsE; rw [if_neg hv]; split
  · exact .inr rfl
  · exact .inl rfl
theorem rounds_div {R x : Int} {zs : List Int} (hR : 16 ≤ R) (hn : 1 ≤ zs.length) (hall : ∀ (j : Nat) (u : Int), zs[j]? = some u → 0 ≤ u ∧ u < R) (hx : x = cnt R zs (zs.length - 1)) : x / R = rnd zs zs.length := by
  obtain ⟨z, hz⟩ := getElem?_of_lt (show zs.length - 1 < zs.length by omega)
  obtain ⟨h0, h1⟩ := hall _ _ hz
  rw [hx, cnt, getD_of hz, show zs.length - 1 + 1 = zs.length by omega, Int.add_comm, Int.add_mul_ediv_right _ _ (by omega), Int.ediv_eq_zero_of_lt h0 h1]
  omega

/-- What Rounds wants of the counts: the last one. -/
theorem last_of {b : Int} {zs ys : List Int} {A : Option Addr} {w : World} (hv : vrB b zs = true) (h : Ints w A ys) (hy : ys = countsF b zs) :
    ∃ bl off x, A = some ⟨bl, off, none⟩ ∧ 1 ≤ ys.length ∧ ys.length ≤ 60 ∧ w.cell? ⟨bl, off + (ys.length - 1), none⟩ = some (.int .i64 x) ∧ 0 ≤ x ∧ x ≤ 300000000000 ∧ Hid (x = cnt (2 ^ b.toNat) zs (zs.length - 1)) := by
  obtain ⟨_, ⟨h4, h32⟩, hn1, hn60⟩ := vr_parts hv
  have hlen : ys.length = zs.length := by rw [hy, countsF, if_pos hv, cnts_length]
  obtain ⟨bl, off, e, _, hc⟩ := h.open_ (by omega)
  obtain ⟨z, hz⟩ := getElem?_of_lt (show zs.length - 1 < zs.length by omega)
  obtain ⟨h0, h1⟩ := vr_at hv hz
  have hp := pow_bounds h4 h32
  have hb := cnt_bd (k := zs.length - 1) (by omega) (by omega) hp.2 hz h0 h1
  refine ⟨bl, off, _, e, by omega, by omega, hc _ _ ?_, hb.1, hb.2, rfl⟩
  rw [hlen, hy, countsF, if_pos hv, cnts, List.getElem?_map, List.getElem?_range (by omega)]
  rfl

theorem ints_lit (w : World) : Ints (w.alloc (.cells #[.int .i64 14, .int .i64 1, .int .i64 1, .int .i64 0] 3)) (some ⟨w.heap.size, 0, none⟩) [14, 1, 1, 0] :=
  ⟨rfl, fun _ => ⟨_, rfl, by simp, cells_new w [.int .i64 14, .int .i64 1, .int .i64 1, .int .i64 0] 3⟩⟩

set_option maxRecDepth 100000 in
set_option maxHeartbeats 400000 in
theorem rounds_any (b : Int) (zs : List Int) (A : Option Addr) (c : Nat) (w : World) (h : Ints w A zs) (hl : zs.length ≤ maxLen) :
    Calls Try.prog 27 #[.int .i64 b, .slice A zs.length c] w fun e w' => ∃ (n E : Int),
      e = .returned (.tuple #[.int .i64 n, .int .i64 E]) ∧ Below w.heap.size w w' ∧ Hid (n = roundsF b zs ∧ E = countsE b zs) := by
  by_cases hv : vrB b zs = true
  · obtain ⟨_, ⟨hb4, hb32⟩, hn1, hn60⟩ := vr_parts hv
    have HV := Lib.hid hv
    have H := Lib.hid h
    have HL := Lib.hid hl
    clear hv h hl
    have hpw := pow_bounds hb4 hb32
    go_enter Try.func27, Try.ntmps27
    go_wp2_with (go_at_call 16; refine (counts_any _ _ _ _ _ H.out HL.out).mono ?_; rintro e w' ⟨A', c', ys, E, rfl, hI, hB, hF⟩; obtain rfl : E = 0 := hF.out.2.trans (countsE_ok HV.out); obtain ⟨bl, off, x, rfl, hy1, hy60, hc, hx0, hx1, hx⟩ := last_of HV.out hI.ints hF.out.1)
    go_ret2
    refine ⟨_, _, rfl, hB, ?_, (countsE_ok HV.out).symm⟩
    rw [roundsF, if_pos HV.out]
    exact rounds_div hpw.1 hn1 (fun j u hj => vr_at HV.out hj) hx.out
  · have H := Lib.hid h
    have HL := Lib.hid hl
    clear h hl
    go_enter Try.func27, Try.ntmps27
    go_wp2_with (go_at_call 16; refine (counts_any _ _ _ _ _ H.out HL.out).mono ?_; rintro e w' ⟨A', c', ys, E, rfl, hI, hB, hF⟩; have hE : E = 2 ∨ E = 10 := by (rw [hF.out.2]; exact countsE_no hv))
    go_ret2
    exact ⟨_, _, rfl, hB, by rw [roundsF, if_neg hv], hF.out.2⟩

set_option maxRecDepth 100000 in
set_option maxHeartbeats 400000 in
theorem refRounds_any (b : Int) (zs : List Int) (A : Option Addr) (c : Nat) (w : World) (h : Ints w A zs) (hl : zs.length ≤ maxLen) :
    Calls Try.prog 28 #[.int .i64 b, .slice A zs.length c] w fun e w' => ∃ (n E : Int),
      e = .returned (.tuple #[.int .i64 n, .int .i64 E]) ∧ Below w.heap.size w w' ∧ Hid (n = roundsF b zs ∧ E = countsE b zs) := by
  by_cases hv : vrB b zs = true
  · obtain ⟨_, ⟨hb4, hb32⟩, hn1, hn60⟩ := vr_parts hv
    have HV := Lib.hid hv
    have H := Lib.hid h
    have HL := Lib.hid hl
    clear hv h hl
    have hpw := pow_bounds hb4 hb32
    obtain ⟨R, hR⟩ : ∃ R : Int, R = 2 ^ b.toNat := ⟨_, rfl⟩
    rw [← hR] at hpw
    have HR := Lib.hid hR
    clear hR
    go_enter Try.func28, Try.ntmps28
    go_wp2_with (go_at_call 17; refine (refCounts_any _ _ _ _ _ H.out HL.out).mono ?_; rintro e w' ⟨A', c', ys, E, rfl, hI, hB, hF⟩; obtain rfl : E = 0 := hF.out.2.trans (countsE_ok HV.out); obtain ⟨bl, off, x, rfl, hy1, hy60, hc, hx0, hx1, hx⟩ := last_of HV.out hI.ints hF.out.1)
    generalize ys.length = n at hy1 hy60 hc ⊢
    have i0 : (0 : Int) ≤ (n : Int) - 1 := by omega
    have i1 : (n : Int) - 1 < (n : Int) := by omega
    have i2 : IntKind.i64.wrap ((n : Int) - 1) = (n : Int) - 1 := IntWalk.i64_in _ (by omega)
    have i3 : ((n : Int) - 1).toNat = n - 1 := by omega
    have i4 : (1 : Int) ≤ (n : Int) := by omega
    go_quiet ((go_at_call 58; exact Calls.quiet_of_same ((size_is _ R _ (by omega) (by omega) HR.out).mono fun _ _ h => ⟨h.1, h.2.symm⟩)))
    go_wp2
    go_ret2
    refine ⟨_, _, rfl, below_drewN hB _, ?_, (countsE_ok HV.out).symm⟩
    rw [roundsF, if_pos HV.out]
    exact rounds_div hpw.1 hn1 (fun j u hj => by rw [HR.out]; exact vr_at HV.out hj) (by rw [HR.out]; exact hx.out)
  · have H := Lib.hid h
    have HL := Lib.hid hl
    clear h hl
    go_enter Try.func28, Try.ntmps28
    go_wp2_with (go_at_call 17; refine (refCounts_any _ _ _ _ _ H.out HL.out).mono ?_; rintro e w' ⟨A', c', ys, E, rfl, hI, hB, hF⟩; have hE : E = 2 ∨ E = 10 := by (rw [hF.out.2]; exact countsE_no hv))
    go_ret2
    exact ⟨_, _, rfl, hB, by rw [roundsF, if_neg hv], hF.out.2⟩

theorem many_any (zs : List Int) (A : Option Addr) (c : Nat) (w : World) :
    Calls Try.prog 14 #[.slice A zs.length c] w fun e w' => e = .returned (.bool (decide (200 < zs.length))) ∧ w = w' := by
  go_enter Try.func14, Try.ntmps14
  go_wp2
  go_ret
  exact ⟨ret_bool (by simp; omega), rfl⟩

theorem awake_any (w : World) :
    Calls Try.prog 15 #[] w fun e w' => e = .returned (.bool true) ∧ Below w.heap.size w w' := by
  go_enter Try.func15, Try.ntmps15
  go_wp2_with (go_at_call 27; refine (rounds_any 4 [14, 1, 1, 0] _ 4 _ (ints_lit w) (by simp [maxLen])).mono ?_; rintro e w' ⟨n, E, rfl, hB, hF⟩; obtain rfl : n = 2 := hF.out.1; obtain rfl : E = 0 := hF.out.2)
  go_ret
  exact ⟨rfl, (((Below.refl _ _).alloc (Nat.le_refl _) _).trans (hB.mono (by simp)))⟩
end Go.Proofs.Ytjghlfagdleglaa
