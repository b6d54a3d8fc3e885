/-
  Contract: Straight (tick).
-/
import Derived.Test.YtjghlfagdleglaaSpeeds
namespace Go.Proofs.Ytjghlfagdleglaa
open Go.RowKit

def keepK (ms : List (Int × Int)) : Nat → List (Int × Int)
  | 0 => [mA ms 0]
  | k + 1 => if spdL ms k = spdL ms (k + 1) then keepK ms k else keepK ms k ++ [mA ms (k + 1)]
def straightF (ms : List (Int × Int)) : List (Int × Int) := if vkB ms then keepK ms (ms.length - 2) ++ [mA ms (ms.length - 1)] else []
theorem keepK_len (ms : List (Int × Int)) : ∀ k, (keepK ms k).length ≤ k + 1
  | 0 => by simp [keepK]
  | k + 1 => by
    have := keepK_len ms k
    rw [keepK]
    split <;> simp <;> omega
theorem own_one {w : World} {a b : Int} : (w.alloc (.cells #[.int .i64 a, .int .i64 b] 61)).ownsRow w.heap.size 61 2 (.slice (some ⟨w.heap.size, 0, none⟩) 1 1) 1 ([(a, b)].flatMap mk2) :=
  ⟨rfl, .inr ⟨w.heap.size, 1, _, rfl, Nat.le_refl _, heap_alloc_new w _, Nat.le_refl _, by unfold maxLen; omega, rfl, rfl⟩⟩

theorem own_drewN {w : World} {base : Nat} {t : TypeId} {sz n : Nat} {v : Value} {xs : List Value} (h : w.ownsRow base t sz v n xs) (m : Nat) : (w.drewN m).ownsRow base t sz v n xs := by
  unfold World.ownsRow at *
  simpa using h

set_option maxRecDepth 100000 in
set_option maxHeartbeats 1600000 in
theorem straight_any (ms : List (Int × Int)) (A : Option Addr) (c : Nat) (w : World) (h : Clk w A c ms) :
    Calls Try.prog 40 #[.slice A ms.length c] w fun e w' => ∃ (A' : Option Addr) (c' : Nat) (ys : List (Int × Int)) (E : Int),
      e = .returned (.tuple #[.slice A' ys.length c', .int .i64 E]) ∧ Clk w' A' c' ys ∧ Below w.heap.size w w' ∧ Hid (ys = straightF ms ∧ E = clkE ms) := by
  have H := Lib.hid h
  clear h
  by_cases hv : vkB ms = true
  · obtain ⟨hn2, hn30⟩ := vk_parts hv
    have HV := Lib.hid hv
    clear hv
    obtain ⟨bl, off, rfl, hbk, hcells⟩ := H.out.marks.open_ (by omega)
    have HC := Lib.hid hcells
    clear hcells
    go_enter Try.func40, Try.ntmps40
    go_wp2_with (go_at_call 32; refine (validClock_any _ _ _ _ (H.out.below (by repeat (first | with_reducible exact Below.refl _ _ | with_reducible assumption | refine below_drewN ?_ _ | with_reducible refine Below.drew ?_ | (refine Below.setCell ?_ (by first | (simp; done) | (simp; omega) | omega) _) | (refine Below.alloc ?_ (by first | (simp; done) | (simp; omega) | omega) _)))).marks H.out.len).mono ?_; rintro e w1 ⟨he, hB1⟩; rw [HV.out] at he; subst he)
    refine (told_any ms _ _ _ (H.out.below hB1) HV.out).mono ?_
    rintro e w2 ⟨A2, c2, vs, rfl, hC2, hB2, hvs, hN2⟩
    have hvl : vs.length = ms.length - 1 := by rw [hvs.out, spds_len]
    obtain ⟨b2, o2, rfl, hb2, hcells2⟩ := hC2.marks.open_ (by omega)
    have HP : Hid (Pairs b2 o2 (spds ms (ms.length - 1)) w2) := ⟨hb2, by rw [← hvs.out]; exact hcells2⟩
    have hW2 : Below w.heap.size w w2 := hB1.trans (hB2.mono hB1.size)
    have hcap := hC2.le
    have hz2 := hW2.size
    generalize hnq : vs.length = nq at hvl hcap ⊢
    clear hnq hcells2 hN2 hC2 hvs vs hB1 hB2
    subst hvl
    obtain ⟨a0, b0, hm0⟩ := getM_of_lt (show 0 < ms.length by omega)
    have g0 : w2.cell? ⟨bl, off, none⟩ = some (.int .i64 a0) := by have := (hW2.cell (p := ⟨bl, off + 0 * 2, none⟩) hbk).trans (HC.out _ _ hm0).1; simpa using this
    have g1 : w2.cell? ⟨bl, off + 1, none⟩ = some (.int .i64 b0) := by have := (hW2.cell (p := ⟨bl, off + 0 * 2 + 1, none⟩) hbk).trans (HC.out _ _ hm0).2; simpa using this
    have hn1 : 0 < ms.length := by omega
    have HM0 := Lib.hid hm0
    clear hm0
    have w1' : IntKind.i64.wrap ((ms.length : Int) - 1) = (ms.length : Int) - 1 := IntWalk.i64_in _ (by omega)
    go_wp2_with fail
    go_loopw [6, 7] (fun v i wr => ∃ k : Nat, 1 ≤ k ∧ k ≤ ms.length - 1 ∧ i = .int .i64 k ∧ wr.ownsRow w2.heap.size 61 2 v (keepK ms (k - 1)).length ((keepK ms (k - 1)).flatMap mk2) ∧ Below w2.heap.size w2 wr) (fun _ i _ => ms.length - 1 - (intOf i).toNat)
    case atStart => exact ⟨1, by omega, by omega, rfl, by rw [show 1 - 1 = 0 by omega, keepK, mA_of HM0.out]; exact own_one, (by repeat (first | with_reducible exact Below.refl _ _ | with_reducible assumption | refine below_drewN ?_ _ | with_reducible refine Below.drew ?_ | (refine Below.setCell ?_ (by first | (simp; done) | (simp; omega) | omega) _) | (refine Below.alloc ?_ (by first | (simp; done) | (simp; omega) | omega) _)))⟩
    case round =>
      obtain ⟨k, hk1, hk, rfl, hown, hB⟩ := hrel
      clear g0 g1
      have hz := hB.size
      have hW := hW2.trans (hB.mono hz2)
      have hbw : bl < wr.heap.size := by omega
      have i0 : (0 : Int) ≤ (k : Int) := by omega
      have i3 : (0 : Int) ≤ (k : Int) - 1 := by omega
      have i7 : (1 : Int) ≤ (k : Int) := by omega
      have i2 : IntKind.i64.wrap ((k : Int) - 1) = (k : Int) - 1 := IntWalk.i64_in _ (by omega)
      have i5 : ((k : Int) - 1).toNat = k - 1 := by omega
      by_cases hlt : k < ms.length - 1
      · obtain ⟨a, b, hx⟩ := getM_of_lt (show k < ms.length by omega)
        have f0 := (hW.cell (p := ⟨bl, off + k * 2, none⟩) hbk).trans (HC.out _ _ hx).1
        have f1 := (hW.cell (p := ⟨bl, off + k * 2 + 1, none⟩) hbk).trans (HC.out _ _ hx).2
        obtain ⟨s, t, hst⟩ : ∃ s t, spdL ms (k - 1) = (s, t) := ⟨_, _, rfl⟩
        obtain ⟨s', t', hst'⟩ : ∃ s t, spdL ms k = (s, t) := ⟨_, _, rfl⟩
        have q0 := HP.out.2 (k - 1) _ (spds_get (show k - 1 < ms.length - 1 by omega))
        have q1 := HP.out.2 k _ (spds_get (show k < ms.length - 1 by omega))
        rw [hst] at q0
        rw [hst'] at q1
        have p0 := (hB.cell (p := ⟨b2, o2 + (k - 1) * 2, none⟩) HP.out.1).trans q0.1
        have p1 := (hB.cell (p := ⟨b2, o2 + (k - 1) * 2 + 1, none⟩) HP.out.1).trans q0.2
        have p2 := (hB.cell (p := ⟨b2, o2 + k * 2, none⟩) HP.out.1).trans q1.1
        have p3 := (hB.cell (p := ⟨b2, o2 + k * 2 + 1, none⟩) HP.out.1).trans q1.2
        simp only at p0 p1 p2 p3
        have HK : Hid (keepK ms (k - 1 + 1) = if (s, t) = (s', t') then keepK ms (k - 1) else keepK ms (k - 1) ++ [(a, b)]) := by
          show _ = _
          rw [keepK, show k - 1 + 1 = k by omega, hst, hst', mA_of hx]
        have hkl := keepK_len ms (k - 1)
        have e1 : k - 1 + 1 = k := by omega
        rw [e1] at HK
        have i1 : (k : Int) < (ms.length : Int) := by omega
        have i8 : (k : Int) - 1 < ((ms.length - 1 : Nat) : Int) := by omega
        have i9 : (k : Int) < ((ms.length - 1 : Nat) : Int) := by omega
        have i10 : (k : Int) < (ms.length : Int) - 1 := by omega
        clear q0 q1 hst hst' hx e1
        by_cases h12 : s = s' ∧ t = t'
        · obtain ⟨rfl, rfl⟩ := h12
          have HK' : Hid (keepK ms k = keepK ms (k - 1)) := by show _ = _; rw [HK.out, if_pos rfl]
          clear HK
          go_wp2
          go_quiet (fail)
          go_wp2
          go_roundw
          case rel => exact ⟨k + 1, by omega, by omega, by go_num, by rw [Nat.add_sub_cancel, HK'.out]; exact own_drewN hown _, below_drewN hB _⟩
          case measure => simp [intOf]; omega
        · have HK' : Hid (keepK ms k = keepK ms (k - 1) ++ [(a, b)]) := by show _ = _; rw [HK.out, if_neg (by intro h; injection h with h1 h2; exact h12 ⟨h1, h2⟩)]
          clear HK
          by_cases h1 : s = s'
          · subst h1
            have t1 : (t == t') = false := by simp; intro h; exact h12 ⟨rfl, h⟩
            clear h12
            go_wp2
            go_quiet (fail)
            go_wp2_with (at_builtin; refine wp_app_mark _ rfl (.tmp 35) (.tmp 40) rfl w2.heap.size _ _ _ _ _ rfl (own_drewN hown _) rfl (by omega) (by simp; omega) ?_; intro v2 w3 hown2 hB2)
            go_roundw
            case rel => exact ⟨k + 1, by omega, by omega, by go_num, by rw [Nat.add_sub_cancel, HK'.out, List.length_append]; exact hown2, Below.trans (below_drewN hB _) hB2⟩
            case measure => simp [intOf]; omega
          · have t1 : (s == s') = false := by simpa using h1
            clear h12
            go_wp2
            go_quiet (fail)
            go_wp2_with (at_builtin; refine wp_app_mark _ rfl (.tmp 35) (.tmp 40) rfl w2.heap.size _ _ _ _ _ rfl (own_drewN hown _) rfl (by omega) (by simp; omega) ?_; intro v2 w3 hown2 hB2)
            go_roundw
            case rel => exact ⟨k + 1, by omega, by omega, by go_num, by rw [Nat.add_sub_cancel, HK'.out, List.length_append]; exact hown2, Below.trans (below_drewN hB _) hB2⟩
            case measure => simp [intOf]; omega
      · obtain rfl : k = ms.length - 1 := by omega
        obtain ⟨a, b, hx⟩ := getM_of_lt (show ms.length - 1 < ms.length by omega)
        have f0 := (hW.cell (p := ⟨bl, off + (ms.length - 1) * 2, none⟩) hbk).trans (HC.out _ _ hx).1
        have f1 := (hW.cell (p := ⟨bl, off + (ms.length - 1) * 2 + 1, none⟩) hbk).trans (HC.out _ _ hx).2
        have HX := Lib.hid hx
        have hkl := keepK_len ms (ms.length - 1 - 1)
        have i10 : ((ms.length : Int) - 1).toNat = ms.length - 1 := by omega
        have i11 : (0 : Int) ≤ (ms.length : Int) - 1 := by omega
        have i12 : (ms.length : Int) - 1 < (ms.length : Int) := by omega
        have i13 : ((ms.length - 1 : Nat) : Int) = (ms.length : Int) - 1 := by omega
        clear hx
        go_wp2_with (at_builtin; refine wp_app_mark _ rfl (.tmp 42) (.tmp 47) rfl w2.heap.size _ _ _ _ _ rfl hown rfl (by omega) (by omega) ?_; intro v2 w3 hown2 hB2)
        go_ret2
        obtain ⟨A', c', rfl, hI⟩ := own_marks hown2
        exact ⟨A', c', _, _, rfl, hI, hW2.trans ((hB.trans hB2).mono hz2), by rw [straightF, if_pos HV.out, mA_of HX.out]; rfl, by simp [clkE, HV.out]⟩
  · have hv2 : vkB ms = false := by simpa using hv
    go_enter Try.func40, Try.ntmps40
    go_wp2_with (go_at_call 32; refine (validClock_any _ _ _ _ H.out.marks H.out.len).mono ?_; rintro e w1 ⟨he, hB1⟩; rw [hv2] at he; subst he)
    go_ret2
    exact ⟨none, 0, [], _, rfl, Clk.nil_, hB1, by simp [straightF, hv2], by simp [clkE, hv2]⟩
end Go.Proofs.Ytjghlfagdleglaa
