/-
  Contracts: both Counts.
-/
import Derived.Test.YtjghlfagdleglaaVr2
import Derived.Test.YtjghlfagdleglaaVc
import Derived.Test.YtjghlfagdleglaaOwn
namespace Go.Proofs.Ytjghlfagdleglaa
open Go.RowKit

/-- How often the counter went round ahead of the k-th reading is read, the k-th included. -/
def rnd (zs : List Int) : Nat → Int
  | 0 => 0
  | k + 1 => if 0 < k ∧ zs.getD k 0 < zs.getD (k - 1) 0 then rnd zs k + 1 else rnd zs k
def cnt (R : Int) (zs : List Int) (k : Nat) : Int := rnd zs (k + 1) * R + zs.getD k 0
def cnts (R : Int) (zs : List Int) (n : Nat) : List Int := (List.range n).map (cnt R zs)
def countsF (b : Int) (zs : List Int) : List Int := if vrB b zs then cnts (2 ^ b.toNat) zs zs.length else []
def countsE (b : Int) (zs : List Int) : Int := if bitsB b then (if vrB b zs then 0 else 10) else 2

theorem cnts_succ (R : Int) (zs : List Int) (k : Nat) : cnts R zs (k + 1) = cnts R zs k ++ [cnt R zs k] := by simp [cnts, List.range_succ]
theorem cnts_length (R : Int) (zs : List Int) (k : Nat) : (cnts R zs k).length = k := by simp [cnts]
theorem rnd_bd (zs : List Int) (k : Nat) : 0 ≤ rnd zs k ∧ rnd zs k ≤ k := by
  induction k with
  | zero => simp [rnd]
  | succ k ih => unfold rnd; split <;> omega
theorem getD_of {zs : List Int} {k : Nat} {z : Int} (h : zs[k]? = some z) : zs.getD k 0 = z := by rw [List.getD_eq_getElem?_getD, h]; rfl
theorem vr_at {b : Int} {zs : List Int} {k : Nat} {z : Int} (hv : vrB b zs = true) (h : zs[k]? = some z) : 0 ≤ z ∧ z < 2 ^ b.toNat := by
  have h2 : zs.all (okR b) = true := by simp [vrB] at hv ⊢; exact hv.2
  have := List.all_eq_true.1 h2 z (List.mem_of_getElem? h)
  simpa [okR] using this
theorem vr_parts {b : Int} {zs : List Int} (hv : vrB b zs = true) : bitsB b = true ∧ (4 ≤ b ∧ b ≤ 32) ∧ 1 ≤ zs.length ∧ zs.length ≤ 60 := by
  simp [vrB] at hv
  exact ⟨hv.1.1, by simpa [bitsB] using hv.1.1, hv.1.2.1, hv.1.2.2⟩

/-- The count in front of the k-th one; 0 in front of the first. -/
def lastC (R : Int) (zs : List Int) : Nat → Int
  | 0 => 0
  | k + 1 => cnt R zs k
theorem mul_bd {r R : Int} (h0 : 0 ≤ r) (h1 : r ≤ 60) (hR0 : 0 ≤ R) (hR1 : R ≤ 4294967296) : 0 ≤ r * R ∧ r * R ≤ 257698037760 := by
  refine ⟨Int.mul_nonneg h0 hR0, ?_⟩
  have := Int.mul_le_mul h1 hR1 hR0 (show (0 : Int) ≤ 60 by decide)
  omega
theorem lastC_mod {R : Int} {zs : List Int} {k : Nat} {l : Int} (hk : zs[k]? = some l) (h0 : 0 ≤ l) (h1 : l < R) : lastC R zs (k + 1) % R = l := by
  show cnt R zs k % R = l
  rw [cnt, getD_of hk, Int.add_comm, Int.add_mul_emod_self_right]
  exact Int.emod_eq_of_lt h0 h1
theorem lastC_next {R : Int} {zs : List Int} {k : Nat} {z : Int} (hall : ∀ (j : Nat) (u : Int), zs[j]? = some u → 0 ≤ u ∧ u < R) (hk : zs[k]? = some z) :
    lastC R zs k + (z - lastC R zs k % R + R) % R = cnt R zs k := by
  obtain ⟨z0, z1⟩ := hall k z hk
  match k, hk with
  | 0, hk =>
    show (0 : Int) + (z - 0 % R + R) % R = cnt R zs 0
    rw [cnt, getD_of hk]
    simp [rnd]
    exact Int.emod_eq_of_lt z0 z1
  | k + 1, hk =>
    obtain ⟨hk1, _⟩ := List.getElem?_eq_some_iff.1 hk
    have hl : zs[k]? = some zs[k] := List.getElem?_eq_getElem (by omega)
    obtain ⟨l0, l1⟩ := hall k _ hl
    rw [lastC_mod hl l0 l1]
    show cnt R zs k + _ = cnt R zs (k + 1)
    rw [cnt, cnt, getD_of hk, getD_of hl]
    have e : rnd zs (k + 1 + 1) = if z < zs[k] then rnd zs (k + 1) + 1 else rnd zs (k + 1) := by
      rw [rnd]; simp only [Nat.add_sub_cancel, getD_of hk, getD_of hl]
      by_cases hh : z < zs[k] <;> simp [hh]
    rw [e]
    split
    · rw [Int.emod_eq_of_lt (by omega) (by omega), Int.add_mul]; omega
    · have : (z - zs[k] + R) % R = z - zs[k] := by
        rw [Int.add_emod_right]; exact Int.emod_eq_of_lt (by omega) (by omega)
      rw [this]; omega
theorem lastC_next' {R : Int} {zs : List Int} {k : Nat} {z : Int} (hall : ∀ (j : Nat) (u : Int), zs[j]? = some u → 0 ≤ u ∧ u < R) (hk : zs[k]? = some z) :
    lastC R zs k + (z - lastC R zs k) % R = cnt R zs k := by
  rw [← lastC_next hall hk]; simp
theorem cnt_bd {R : Int} {zs : List Int} {k : Nat} (hk60 : k < 60) (hR0 : 0 ≤ R) (hR1 : R ≤ 4294967296) {z : Int} (hk : zs[k]? = some z) (h0 : 0 ≤ z) (h1 : z < R) : 0 ≤ cnt R zs k ∧ cnt R zs k ≤ 300000000000 := by
  rw [cnt, getD_of hk]
  have hb := rnd_bd zs (k + 1)
  have := mul_bd hb.1 (by omega) hR0 hR1
  omega
theorem lastC_bd {R : Int} {zs : List Int} (hR0 : 16 ≤ R) (hR1 : R ≤ 4294967296) (hall : ∀ (j : Nat) (u : Int), zs[j]? = some u → 0 ≤ u ∧ u < R) : ∀ k, k ≤ zs.length → k ≤ 60 → 0 ≤ lastC R zs k ∧ lastC R zs k ≤ 300000000000
  | 0, _, _ => by simp [lastC]
  | k + 1, h, h60 => by
    have hk : zs[k]? = some zs[k] := List.getElem?_eq_getElem (by omega)
    obtain ⟨h0, h1⟩ := hall k _ hk
    exact cnt_bd (by omega) (by omega) hR1 hk h0 h1

set_option maxRecDepth 100000 in
set_option maxHeartbeats 400000 in
theorem counts_any (b : Int) (zs : List Int) (A : Option Addr) (c : Nat) (w : World) (h : Ints w A zs) (hl : zs.length ≤ maxLen) :
    Calls Try.prog 16 #[.int .i64 b, .slice A zs.length c] w fun e w' => ∃ (A' : Option Addr) (c' : Nat) (ys : List Int) (E : Int),
      e = .returned (.tuple #[.slice A' ys.length c', .int .i64 E]) ∧ Out w' A' c' ys ∧ Below w.heap.size w w' ∧ Hid (ys = countsF b zs ∧ E = countsE b zs) := by
  have H := Lib.hid h
  clear h
  have HL := Lib.hid hl
  clear hl
  by_cases hb : bitsB b = true
  · by_cases hv : vrB b zs = true
    · obtain ⟨_, ⟨hb4, hb32⟩, hn1, hn60⟩ := vr_parts hv
      have HV := Lib.hid hv
      have HP := Lib.hid (pow_wrap hb4 hb32)
      have hpw := pow_bounds hb4 hb32
      have hall : Hid (∀ (j : Nat) (u : Int), zs[j]? = some u → 0 ≤ u ∧ u < 2 ^ b.toNat) := fun j u hj => vr_at HV.out hj
      obtain ⟨i0, hi0, hz0, hz1, hz2⟩ := info_parts int_info
      have HZ2 := Lib.hid hz2
      clear hz2
      go_enter Try.func16, Try.ntmps16
      go_wp2_with (first
        | (go_at_call 57; refine (validBits_any _ _).mono ?_; rintro e w' ⟨rfl, rfl⟩)
        | (go_at_call 18; refine (validReadings_any _ _ _ _ _ H.out HL.out).mono ?_; rintro e w' ⟨rfl, rfl⟩)
        | (at_make; refine wpList_make_own _ rfl _ _ 22 rfl w.heap.size 3 i0 (.int .i64 0) 1 Try.underlying22 hi0 hz0 hz1 _ _ _ zs.length rfl rfl rfl (by rw [HZ2.out]; omega) (by unfold maxLen; omega) (Nat.le_refl _) ?_; intro w1 hown1 hg1))
      have hB1 : Below w.heap.size w w1 := (Below.refl _ _).grown hg1 (Nat.le_refl _) (by simp)
      clear hg1 HZ2 hz0 hz1 hi0
      obtain ⟨R, hR⟩ : ∃ R : Int, R = 2 ^ b.toNat := ⟨_, rfl⟩
      rw [← hR] at hall hpw
      simp only [← hR]
      have HR := Lib.hid hR
      clear hR HP
      go_loopw [7, 8, 25] (fun v l i wr => ∃ k : Nat, k ≤ zs.length ∧ i = .int .i64 k ∧ l = .int .i64 (lastC R zs k) ∧ wr.ownsRow w.heap.size 3 1 v k ((cnts R zs k).map (Value.int .i64)) ∧ Below w.heap.size w wr) (fun _ _ i _ => zs.length - (intOf i).toNat)
      case atStart => exact ⟨0, Nat.zero_le _, rfl, rfl, hown1, hB1⟩
      case round =>
        clear hown1 hB1
        obtain ⟨k, hk, rfl, rfl, hown, hB⟩ := hrel
        by_cases hlt : k < zs.length
        · obtain ⟨ad, z, rfl, hbk, hz, hc⟩ := H.out.get hlt
          have hcr := (hB.cell (p := ad.add k) (by rw [block_of_add]; exact hbk)).trans hc
          clear hc
          have hza := hall.out k z hz.out
          have hnext := Lib.hid (lastC_next' hall.out hz.out)
          have hlb := lastC_bd hpw.1 hpw.2 hall.out k hk (by omega)
          have hm0 : 0 ≤ lastC R zs k % R := Int.emod_nonneg _ (by omega)
          have hm1 : lastC R zs k % R < R := Int.emod_lt_of_pos _ (by omega)
          generalize lastC R zs k = l at hnext hlb hm0 hm1 ⊢
          have hq0 : 0 ≤ (z - l) % R := Int.emod_nonneg _ (by omega)
          have hq1 : (z - l) % R < R := Int.emod_lt_of_pos _ (by omega)
          go_wp2_with (at_builtin; refine wp_app_int _ rfl (.tmp 40) (.tmp 42) rfl w.heap.size _ k (cnts R zs k) _ rfl hown rfl (by omega) hB.size ?_; intro v2 w2 hown2 hB2)
          go_roundw
          case rel => exact ⟨k + 1, by omega, by go_num, by rw [hnext.out]; rfl, by rw [cnts_succ, ← hnext.out]; exact hown2, hB.trans hB2⟩
          case measure => simp [intOf]; omega
        · obtain rfl : k = zs.length := by omega
          go_wp2
          go_ret2
          obtain ⟨A', c', rfl, hI⟩ := own_ints hown
          exact ⟨A', c', _, _, rfl, hI, hB, by simp [countsF, HV.out, HR.out], by simp [countsE, HV.out, hb]⟩
    · have hv2 : vrB b zs = false := by simpa using hv
      go_enter Try.func16, Try.ntmps16
      go_wp2_with (first
        | (go_at_call 57; refine (validBits_any _ _).mono ?_; rintro e w' ⟨rfl, rfl⟩)
        | (go_at_call 18; refine (validReadings_any _ _ _ _ _ H.out HL.out).mono ?_; rintro e w' ⟨rfl, rfl⟩))
      go_ret2
      exact ⟨none, 0, [], _, rfl, Out.nil_, Below.refl _ _, by simp [countsF, hv2], by simp [countsE, hv2, hb]⟩
  · have hb2 : bitsB b = false := by simpa using hb
    have hv2 : vrB b zs = false := by simp [vrB, hb2]
    go_enter Try.func16, Try.ntmps16
    go_wp2_with (go_at_call 57; refine (validBits_any _ _).mono ?_; rintro e w' ⟨rfl, rfl⟩)
    go_ret2
    exact ⟨none, 0, [], _, rfl, Out.nil_, Below.refl _ _, by simp [countsF, hv2], by simp [countsE, hb2]⟩
end Go.Proofs.Ytjghlfagdleglaa
