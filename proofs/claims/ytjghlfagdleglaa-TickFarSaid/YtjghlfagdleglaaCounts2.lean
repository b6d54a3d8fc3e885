/-
  Contracts: firnref01.Counts, both Readings.
-/
import Derived.Test.YtjghlfagdleglaaCounts
namespace Go.Proofs.Ytjghlfagdleglaa
open Go.RowKit

theorem size_is (b R : Int) (w : World) (h1 : 0 ≤ b) (h2 : b ≤ 32) (hR : R = 2 ^ b.toNat) :
    Calls Try.prog 58 #[.int .i64 b] w fun e w' => e = .returned (.int .i64 R) ∧ w = w' :=
  (size_any b w h1 h2).mono fun e w' ⟨R', he, hw, h⟩ => ⟨by rw [he, hR, h.out], hw⟩

theorem rnd_first {zs : List Int} {k : Nat} (h : ¬ 0 < k) : rnd zs (k + 1) = rnd zs k := by rw [rnd, if_neg (by omega)]
theorem rnd_up {zs : List Int} {k : Nat} {p z : Int} (h0 : 0 < k) (hp : zs[k - 1]? = some p) (hz : zs[k]? = some z) (h : z < p) : rnd zs (k + 1) = rnd zs k + 1 := by
  rw [rnd, getD_of hp, getD_of hz, if_pos ⟨h0, h⟩]
theorem rnd_stay {zs : List Int} {k : Nat} {p z : Int} (hp : zs[k - 1]? = some p) (hz : zs[k]? = some z) (h : ¬ z < p) : rnd zs (k + 1) = rnd zs k := by
  rw [rnd, getD_of hp, getD_of hz, if_neg (by omega)]
theorem cnt_of {R : Int} {zs : List Int} {k : Nat} {r z : Int} (hz : zs[k]? = some z) (hr : rnd zs (k + 1) = r) : cnt R zs k = r * R + z := by
  rw [cnt, hr, getD_of hz]

set_option maxRecDepth 100000 in
set_option maxHeartbeats 800000 in
theorem refCounts_any (b : Int) (zs : List Int) (A : Option Addr) (c : Nat) (w : World) (h : Ints w A zs) (hl : zs.length ≤ maxLen) :
    Calls Try.prog 17 #[.int .i64 b, .slice A zs.length c] w fun e w' => ∃ (A' : Option Addr) (c' : Nat) (ys : List Int) (E : Int),
      e = .returned (.tuple #[.slice A' ys.length c', .int .i64 E]) ∧ Out w' A' c' ys ∧ Below w.heap.size w w' ∧ Hid (ys = countsF b zs ∧ E = countsE b zs) := by
  have H := Lib.hid h
  clear h
  have HL := Lib.hid hl
  clear hl
  by_cases hb : bitsB b = true
  · by_cases hv : vrB b zs = true
    · obtain ⟨_, ⟨hb4, hb32⟩, hn1, hn60⟩ := vr_parts hv
      have HV := Lib.hid hv
      have hpw := pow_bounds hb4 hb32
      have hall : Hid (∀ (j : Nat) (u : Int), zs[j]? = some u → 0 ≤ u ∧ u < 2 ^ b.toNat) := fun j u hj => vr_at HV.out hj
      obtain ⟨R, hR⟩ : ∃ R : Int, R = 2 ^ b.toNat := ⟨_, rfl⟩
      rw [← hR] at hall hpw
      have HR := Lib.hid hR
      clear hR
      go_enter Try.func17, Try.ntmps17
      go_wp2_with (first
        | (go_at_call 51; refine (isBits_any _ _).mono ?_; rintro e w' ⟨rfl, rfl⟩)
        | (go_at_call 19; refine (refValidReadings_any _ _ _ _ _ H.out HL.out).mono ?_; rintro e w' ⟨rfl, rfl⟩))
      go_loopw [6, 7, 19] (fun v l i wr => ∃ k : Nat, k ≤ zs.length ∧ i = .int .i64 k ∧ l = .int .i64 (rnd zs k) ∧ wr.ownsRow w.heap.size 3 1 v k ((cnts R zs k).map (Value.int .i64)) ∧ Below w.heap.size w wr) (fun _ _ i _ => zs.length - (intOf i).toNat)
      case atStart => exact ⟨0, Nat.zero_le _, rfl, rfl, World.ownsRow_nil _ _ _ _, Below.refl _ _⟩
      case round =>
        obtain ⟨k, hk, rfl, rfl, hown, hB⟩ := hrel
        by_cases hlt : k < zs.length
        · obtain ⟨ad, z, rfl, hbk, hz, hc⟩ := H.out.get hlt
          have hcr := (hB.cell (p := ad.add k) (by rw [block_of_add]; exact hbk)).trans hc
          clear hc
          have hza := hall.out k z hz.out
          have hrb := rnd_bd zs k
          have fin : ∀ r v2 w2, rnd zs (k + 1) = r → World.ownsRow w2 w.heap.size 3 1 v2 (k + 1) ((cnts R zs k ++ [r * R + z]).map (Value.int .i64)) → Below w.heap.size wr w2 →
              (World.ownsRow w2 w.heap.size 3 1 v2 (k + 1) ((cnts R zs (k + 1)).map (Value.int .i64)) ∧ Below w.heap.size w w2) := fun r v2 w2 h1 h2 h3 =>
            ⟨by rw [cnts_succ, cnt_of hz.out h1]; exact h2, hB.trans h3⟩
          have FIN := Lib.hid fin
          clear fin
          by_cases hk0 : 0 < k
          · obtain ⟨ad', p, he, _, hp, hcp⟩ := H.out.get (show k - 1 < zs.length by omega)
            obtain rfl : ad = ad' := by injection he
            have hcpr := (hB.cell (p := ad.add (k - 1)) (by rw [block_of_add]; exact hbk)).trans hcp
            clear hcp he
            by_cases hzp : z < p
            · have hr := Lib.hid (rnd_up hk0 hp.out hz.out hzp)
              generalize rnd zs k = r at hrb hr ⊢
              have hmb := mul_bd (r := r + 1) (by omega) (by omega) (show 0 ≤ R by omega) hpw.2
              go_wp2_with (first
                | (go_at_call 58; refine (size_is _ R _ (by omega) (by omega) HR.out).mono ?_; rintro e w' ⟨rfl, rfl⟩)
                | (at_builtin; refine wp_app_int _ rfl (.tmp 37) (.tmp 44) rfl w.heap.size _ k (cnts R zs k) _ rfl hown rfl (by omega) hB.size ?_; intro v2 w2 hown2 hB2))
              go_roundw
              case rel => exact ⟨k + 1, by omega, by go_num, by rw [hr.out], FIN.out _ _ _ hr.out hown2 hB2⟩
              case measure => simp [intOf]; omega
            · have hr := Lib.hid (rnd_stay hp.out hz.out hzp)
              generalize rnd zs k = r at hrb hr ⊢
              have hmb := mul_bd (r := r) (by omega) (by omega) (show 0 ≤ R by omega) hpw.2
              go_wp2_with (first
                | (go_at_call 58; refine (size_is _ R _ (by omega) (by omega) HR.out).mono ?_; rintro e w' ⟨rfl, rfl⟩)
                | (at_builtin; refine wp_app_int _ rfl (.tmp 37) (.tmp 44) rfl w.heap.size _ k (cnts R zs k) _ rfl hown rfl (by omega) hB.size ?_; intro v2 w2 hown2 hB2))
              go_roundw
              case rel => exact ⟨k + 1, by omega, by go_num, by rw [hr.out], FIN.out _ _ _ hr.out hown2 hB2⟩
              case measure => simp [intOf]; omega
          · have hr := Lib.hid (rnd_first (zs := zs) hk0)
            generalize rnd zs k = r at hrb hr ⊢
            have hmb := mul_bd (r := r) (by omega) (by omega) (show 0 ≤ R by omega) hpw.2
            go_wp2_with (first
              | (go_at_call 58; refine (size_is _ R _ (by omega) (by omega) HR.out).mono ?_; rintro e w' ⟨rfl, rfl⟩)
              | (at_builtin; refine wp_app_int _ rfl (.tmp 37) (.tmp 44) rfl w.heap.size _ k (cnts R zs k) _ rfl hown rfl (by omega) hB.size ?_; intro v2 w2 hown2 hB2))
            go_roundw
            case rel => exact ⟨k + 1, by omega, by go_num, by rw [hr.out], FIN.out _ _ _ hr.out hown2 hB2⟩
            case measure => simp [intOf]; omega
        · obtain rfl : k = zs.length := by omega
          go_wp2
          go_ret2
          obtain ⟨A', c', rfl, hI⟩ := own_ints hown
          exact ⟨A', c', _, _, rfl, hI, hB, by simp [countsF, HV.out, HR.out], by simp [countsE, HV.out, hb]⟩
    · have hv2 : vrB b zs = false := by simpa using hv
      go_enter Try.func17, Try.ntmps17
      go_wp2_with (first
        | (go_at_call 51; refine (isBits_any _ _).mono ?_; rintro e w' ⟨rfl, rfl⟩)
        | (go_at_call 19; refine (refValidReadings_any _ _ _ _ _ H.out HL.out).mono ?_; rintro e w' ⟨rfl, rfl⟩))
      go_ret2
      exact ⟨none, 0, [], _, rfl, Out.nil_, Below.refl _ _, by simp [countsF, hv2], by simp [countsE, hv2, hb]⟩
  · have hb2 : bitsB b = false := by simpa using hb
    have hv2 : vrB b zs = false := by simp [vrB, hb2]
    go_enter Try.func17, Try.ntmps17
    go_wp2_with (go_at_call 51; refine (isBits_any _ _).mono ?_; rintro e w' ⟨rfl, rfl⟩)
    go_ret2
    exact ⟨none, 0, [], _, rfl, Out.nil_, Below.refl _ _, by simp [countsF, hv2], by simp [countsE, hb2]⟩
end Go.Proofs.Ytjghlfagdleglaa
