/-
  Contracts: cmp.Compare at ints, compare, on (track).
-/
import Derived.Test.YtoilbgngefleiaaCost
namespace Go.Proofs.Ytoilbgngefleiaa
open Go.RowKit Go.Shelf

/-- What cmp.Compare says. -/
def cmpV (x y : Int) : Int := if x < y then -1 else if y < x then 1 else 0
set_option maxRecDepth 100000 in
theorem isNaN_any (x : Int) (w : World) :
    Calls Try.prog 118 #[.int .i64 x] w fun e w' => e = .returned (.bool false) ∧ w = w' := by
  go_enter Try.func118, Try.ntmps118
  go_wp2
  go_ret
  exact ⟨by simp, rfl⟩
set_option maxRecDepth 100000 in
theorem cmpInt_any (x y : Int) (w : World) :
    Calls Try.prog 100 #[.int .i64 x, .int .i64 y] w fun e w' => e = .returned (.int .i64 (cmpV x y)) ∧ w = w' := by
  go_enter Try.func100, Try.ntmps100
  go_wp2_with (go_at_call 118; refine (isNaN_any _ _).mono ?_; rintro e w' ⟨rfl, rfl⟩)
  all_goals
    go_ret
    exact ⟨ret_int (by unfold cmpV; (repeat' split) <;> first | rfl | omega), rfl⟩
set_option maxRecDepth 100000 in
theorem compare_any (n d p q : Int) (w : World) (h1 : -9223372036854775808 ≤ n * q ∧ n * q ≤ 9223372036854775807) (h2 : -9223372036854775808 ≤ p * d ∧ p * d ≤ 9223372036854775807) :
    Calls Try.prog 83 #[.agg #[.int .i64 n, .int .i64 d], .agg #[.int .i64 p, .int .i64 q]] w fun e w' => e = .returned (.int .i64 (cmpV (n * q) (p * d))) ∧ Below w.heap.size w w' := by
  go_enter Try.func83, Try.ntmps83
  go_wp2_with (go_at_call 100; refine (cmpInt_any _ _ _).mono ?_; rintro e w' ⟨rfl, rfl⟩)
  go_ret
  exact ⟨rfl, (by repeat (first | with_reducible exact Below.refl _ _ | with_reducible assumption | refine below_drewN ?_ _ | with_reducible refine Below.drew ?_ | (refine Below.setCell ?_ (by first | (simp; done) | (simp; omega) | omega) _) | (refine Below.alloc ?_ (by first | (simp; done) | (simp; omega) | omega) _)))⟩

/-- The indexes at which a list is 0. -/
def zeroL (zs : List Int) (k : Nat) : List Int := ((List.range k).filter (fun j => decide (zs.getD j 0 = 0))).map Int.ofNat
theorem zeroL_yes {zs : List Int} {k : Nat} (h : zs[k]? = some 0) : zeroL zs (k + 1) = zeroL zs k ++ [(k : Int)] := by
  simp [zeroL, List.range_succ, h]
theorem zeroL_no {zs : List Int} {k : Nat} {z : Int} (h : zs[k]? = some z) (hz : z ≠ 0) : zeroL zs (k + 1) = zeroL zs k := by
  simp [zeroL, List.range_succ, h, hz]
theorem zeroL_len (zs : List Int) (k : Nat) : (zeroL zs k).length ≤ k := by
  have := List.length_filter_le (fun j => decide (zs.getD j 0 = 0)) (List.range k)
  simpa [zeroL] using this

set_option maxRecDepth 100000 in
set_option maxHeartbeats 1000000 in
theorem on_any (ms : List (Int × Int)) (A : Option Addr) (c : Nat) (a b d : Int) (w : World) (h : Marks w A ms) (hl : ms.length ≤ 1000) (hL : LnB a b d) (hv : ms.all ptB = true) :
    Calls Try.prog 69 #[.slice A ms.length c, .agg #[.int .i64 a, .int .i64 b, .int .i64 d]] w fun e w' => ∃ (A' : Option Addr) (c' : Nat) (ys : List Int), e = .returned (.slice A' ys.length c') ∧ Out w' A' c' ys ∧ Below w.heap.size w w' ∧ Hid (ys = zeroL (ms.map (rsI a b d)) ms.length) := by
  have H := Lib.hid h
  have HL := Lib.hid hL
  have HV := Lib.hid hv
  clear h hL hv
  go_enter Try.func69, Try.ntmps69
  go_wp2_with (go_at_call 58; refine (rests_any ms A c a b d _ (H.out.below (by repeat (first | with_reducible exact Below.refl _ _ | with_reducible assumption | refine below_drewN ?_ _ | with_reducible refine Below.drew ?_ | (refine Below.setCell ?_ (by first | (simp; done) | (simp; omega) | omega) _) | (refine Below.alloc ?_ (by first | (simp; done) | (simp; omega) | omega) _)))) hl HL.out HV.out).mono ?_; rintro e w2 ⟨A2, c2, zs, rfl, hO, hB2, hzs⟩)
  have HZL : Hid (zs.length = ms.length) := Lib.hid (by rw [hzs.out]; simp)
  have HZ1 : zs.length ≤ 1000 := by rw [HZL.out]; exact hl
  have HB2 : Hid (Below w.heap.size w w2) := Lib.hid (below_step (by repeat (first | with_reducible exact Below.refl _ _ | with_reducible assumption | refine below_drewN ?_ _ | with_reducible refine Below.drew ?_ | (refine Below.setCell ?_ (by first | (simp; done) | (simp; omega) | omega) _) | (refine Below.alloc ?_ (by first | (simp; done) | (simp; omega) | omega) _))) hB2)
  have hw2 : w.heap.size ≤ w2.heap.size := HB2.out.size
  have HO := Lib.hid hO
  clear hB2 hO
  go_loopw [5, 12] (fun v i wr => ∃ k m : Nat, k ≤ zs.length ∧ i = .int .i64 k ∧ Hid (m = (zeroL zs k).length) ∧ m ≤ k ∧ wr.ownsRow w2.heap.size 3 1 v m ((zeroL zs k).map (Value.int .i64)) ∧ Below w2.heap.size w2 wr) (fun _ i _ => zs.length - (intOf i).toNat)
  case atStart => exact ⟨0, 0, Nat.zero_le _, rfl, rfl, Nat.le_refl _, World.ownsRow_nil _ _ _ _, Below.refl _ _⟩
  case round =>
    obtain ⟨k, m, hk, rfl, hm, hmk, hown, hB⟩ := hrel
    by_cases hlt : k < zs.length
    · obtain ⟨ad, z, rfl, hbk, hz, hc⟩ := HO.out.ints.get hlt
      have hcr := (hB.cell (p := ad.add k) (by rw [block_of_add]; exact hbk)).trans hc
      clear hc
      by_cases h0 : z = 0
      · subst h0
        have HN := Lib.hid (zeroL_yes hz.out)
        go_wp2_with (at_builtin; refine wp_app_int _ rfl (.tmp 19) (.tmp 21) rfl w2.heap.size _ m _ _ rfl hown rfl (by omega) hB.size ?_; intro v2 w4 hown4 hB4)
        go_roundw
        case rel => exact ⟨k + 1, m + 1, by omega, by go_num, Lib.hid (by rw [HN.out, List.length_append, ← hm.out]; rfl), by omega, by rw [HN.out]; exact hown4, hB.trans hB4⟩
        case measure => simp [intOf]; omega
      · have t0 : (z == 0) = false := by simpa using h0
        have HN := Lib.hid (zeroL_no hz.out h0)
        go_wp2
        go_roundw
        case rel => exact ⟨k + 1, m, by omega, by go_num, Lib.hid (by rw [HN.out, ← hm.out]), by omega, by rw [HN.out]; exact hown, hB⟩
        case measure => simp [intOf]; omega
    · obtain rfl : k = zs.length := by omega
      go_wp2
      go_ret
      obtain rfl := hm.out
      obtain ⟨A', c', rfl, hI⟩ := own_ints hown
      exact ⟨A', c', _, rfl, hI, HB2.out.trans (hB.mono hw2), Lib.hid (by rw [HZL.out, hzs.out])⟩
end Go.Proofs.Ytoilbgngefleiaa
