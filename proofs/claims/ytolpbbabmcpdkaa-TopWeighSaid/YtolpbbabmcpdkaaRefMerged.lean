/-
  Contract: merged (firnref07).
-/
import Derived.Test.YtolpbbabmcpdkaaProd
set_option linter.unusedVariables false
set_option linter.unusedSimpArgs false
namespace Go.Proofs.Ytolpbbabmcpdkaa
open Go.RowKit Go.Shelf

/-- The weights with outcome b added to outcome a. -/
def stM (xs : List Int) (a b : Nat) : List Int := xs.set a (xs.getD a 0 + xs.getD b 0)
def oK (Y : List Int) (b k : Nat) : List Int := Y.take (min k b) ++ (Y.drop (b + 1)).take (k - (b + 1))
def mgL (xs : List Int) (a b : Nat) : List Int := oK (stM xs a b) b xs.length
theorem oK_lt {Y : List Int} {b k : Nat} {z : Int} (h : Y[k]? = some z) (hk : k < b) : oK Y b (k + 1) = oK Y b k ++ [z] := by
  unfold oK
  rw [show min (k + 1) b = k + 1 by omega, show min k b = k by omega, show k + 1 - (b + 1) = 0 by omega, show k - (b + 1) = 0 by omega, take_snoc h]
  simp
theorem oK_eq {Y : List Int} {b : Nat} : oK Y b (b + 1) = oK Y b b := by
  unfold oK
  rw [show min (b + 1) b = b by omega, show min b b = b by omega, show b + 1 - (b + 1) = 0 by omega, show b - (b + 1) = 0 by omega]
theorem oK_gt {Y : List Int} {b k : Nat} {z : Int} (h : Y[k]? = some z) (hk : b < k) : oK Y b (k + 1) = oK Y b k ++ [z] := by
  unfold oK
  have e : (Y.drop (b + 1))[k - (b + 1)]? = some z := by rw [List.getElem?_drop, show b + 1 + (k - (b + 1)) = k by omega]; exact h
  rw [show min (k + 1) b = b by omega, show min k b = b by omega, show k + 1 - (b + 1) = k - (b + 1) + 1 by omega, take_snoc e, List.append_assoc]
theorem oK_len (Y : List Int) (b k : Nat) : (oK Y b k).length ≤ 2 * Y.length := by
  unfold oK; simp; omega
set_option maxRecDepth 100000 in
set_option maxHeartbeats 2000000 in
theorem refMerged_own (xs : List Int) (A : Option Addr) (c a b : Nat) (w : World) (hA : Ints w A xs) (hl : xs.length ≤ 1000) (hab : a < b) (hb : b < xs.length) (hx : ∀ z ∈ xs, 0 ≤ z ∧ z ≤ 1000) :
    Calls Try.prog 94 #[.slice A xs.length c, .int .i64 a, .int .i64 b] w fun e w' => ∃ A' c', e = .returned (.slice A' (mgL xs a b).length c') ∧ Out w' A' c' (mgL xs a b) ∧ Below w.heap.size w w' := by
  have HA := Lib.hid hA
  have HX := Lib.hid hx
  have HM : Hid (mgL xs a b = oK (stM xs a b) b xs.length) := Lib.hid rfl
  have HSL : Hid ((stM xs a b).length = xs.length) := Lib.hid (by simp [stM])
  have HSA : Hid (∀ u v, xs[a]? = some u → xs[b]? = some v → (stM xs a b)[a]? = some (u + v)) := Lib.hid (fun u v h1 h2 => by
    unfold stM
    rw [List.getElem?_set_self (by omega), List.getD_eq_getElem?_getD, List.getD_eq_getElem?_getD, h1, h2]; rfl)
  have HSO : Hid (∀ (k : Nat) u, k ≠ a → xs[k]? = some u → (stM xs a b)[k]? = some u) := Lib.hid (fun k u h1 h2 => by
    unfold stM
    rw [List.getElem?_set_ne (by omega)]; exact h2)
  generalize stM xs a b = Y at *
  clear hA hx
  go_enter Try.func94, Try.ntmps94
  go_wp2
  go_loopw [7, 12] (fun v i wr => ∃ k : Nat, k ≤ xs.length ∧ i = .int .i64 k ∧ wr.ownsRow w.heap.size 3 1 v (oK Y b k).length ((oK Y b k).map (Value.int .i64)) ∧ Below w.heap.size w wr) (fun _ i _ => xs.length - (intOf i).toNat)
  case atStart => exact ⟨0, Nat.zero_le _, rfl, by simpa [oK] using World.ownsRow_nil _ _ _ _, Below.refl _ _⟩
  case round =>
    obtain ⟨k, hk, rfl, hown, hBr⟩ := hrel
    by_cases hlt : k < xs.length
    · obtain ⟨ad, x, rfl, hbk, hxk, hc⟩ := (HA.out.below hBr).get hlt
      obtain ⟨ad2, y, e2, hb2, hyk, hc2⟩ := (HA.out.below hBr).get hb
      obtain rfl := Option.some.inj e2
      clear e2
      obtain ⟨x0, x1⟩ := HX.out x (List.mem_of_getElem? hxk.out)
      obtain ⟨y0, y1⟩ := HX.out y (List.mem_of_getElem? hyk.out)
      have hql : (oK Y b k).length ≤ 2000 := by have := oK_len Y b k; have := HSL.out; omega
      have hz := hBr.size
      have HBR := Lib.hid hBr
      have HOW := Lib.hid hown
      by_cases hka : k = a
      · subst hka
        have t1 : ((k : Int) == (b : Int)) = false := by simp; omega
        have t2 : ((k : Int) != (b : Int)) = true := by simp; omega
        have HN := Lib.hid (oK_lt (HSA.out x y hxk.out hyk.out) hab)
        generalize oK Y b k = Q at *
        clear hown hBr
        go_wp2_with (at_builtin; refine wp_app_int _ rfl (.tmp 29) (.tmp 31) rfl w.heap.size _ Q.length Q (x + y) rfl HOW.out rfl (by omega) hz ?_; intro v2 w2 hown2 hB2; have HO2 := Lib.hid hown2; have HB2 := Lib.hid (HBR.out.trans hB2); clear hown2 hB2)
        go_roundw
        case rel => exact ⟨k + 1, by omega, by go_num, by rw [HN.out, List.length_append]; exact HO2.out, HB2.out⟩
        case measure => simp [intOf]; omega
      · have t0 : ((k : Int) == (a : Int)) = false := by simp; omega
        by_cases hkb : k = b
        · subst hkb
          go_wp2
          go_roundw
          case rel => exact ⟨k + 1, by omega, by go_num, by rw [oK_eq]; exact HOW.out, HBR.out⟩
          case measure => simp [intOf]; omega
        · have t1 : ((k : Int) == (b : Int)) = false := by simp; omega
          have t2 : ((k : Int) != (b : Int)) = true := by simp; omega
          have HN : Hid (oK Y b (k + 1) = oK Y b k ++ [x]) := Lib.hid (by
            have h := HSO.out k x hka hxk.out
            rcases Nat.lt_or_ge k b with q | q
            · exact oK_lt h q
            · exact oK_gt h (by omega))
          generalize oK Y b k = Q at *
          clear hown hBr
          go_wp2_with (at_builtin; refine wp_app_int _ rfl (.tmp 29) (.tmp 31) rfl w.heap.size _ Q.length Q x rfl HOW.out rfl (by omega) hz ?_; intro v2 w2 hown2 hB2; have HO2 := Lib.hid hown2; have HB2 := Lib.hid (HBR.out.trans hB2); clear hown2 hB2)
          go_roundw
          case rel => exact ⟨k + 1, by omega, by go_num, by rw [HN.out, List.length_append]; exact HO2.out, HB2.out⟩
          case measure => simp [intOf]; omega
    · obtain rfl : k = xs.length := by omega
      rw [← HM.out] at hown
      obtain ⟨A', c', he, hO⟩ := own_ints hown
      subst he
      go_wp2
      go_ret
      exact ⟨A', c', rfl, hO, hBr⟩
end Go.Proofs.Ytolpbbabmcpdkaa
