/-
  Contract: products (firnref07).
-/
import Derived.Test.YtolpbbabmcpdkaaProd
set_option linter.unusedVariables false
set_option linter.unusedSimpArgs false
namespace Go.Proofs.Ytolpbbabmcpdkaa
open Go.RowKit Go.Shelf

set_option maxRecDepth 100000 in
theorem refgcd_nn (n d : Int) (w : World) (hn0 : -4611686018427387904 ≤ n) (hn1 : n ≤ 4611686018427387904) (hd0 : 0 ≤ d) (hd1 : d ≤ 4611686018427387904) :
    Calls Try.prog 98 #[.int .i64 n, .int .i64 d] w fun e w' => ∃ g : Int, e = .returned (.int .i64 g) ∧ (∃ m, w' = w.drewN m) ∧ Hid (g = (Int.gcd n d : Int)) := by
  go_enter Try.func98, Try.ntmps98
  go_wp2
  go_loopw [0, 1] (fun x y wr => ∃ (a b : Int) (m : Nat), x = .int .i64 a ∧ y = .int .i64 b ∧ wr = w.drewN m ∧ -4611686018427387904 ≤ a ∧ a ≤ 4611686018427387904 ∧ -4611686018427387904 ≤ b ∧ b ≤ 4611686018427387904 ∧ Hid (Int.gcd a b = Int.gcd n d)) (fun _ y _ => (intOf y).natAbs)
  case atStart => exact ⟨n, d, 0, rfl, rfl, rfl, hn0, hn1, by omega, hd1, rfl⟩
  case round =>
    obtain ⟨a, b, m, rfl, rfl, rfl, ha0, ha1, hb0, hb1, hg⟩ := hrel
    by_cases hb : b = 0
    · subst hb
      have HG := hg.out
      rw [Int.gcd_zero_right] at HG
      have HG2 := Lib.hid HG
      clear HG hg
      go_wp2
      all_goals
        go_ret
        refine ⟨_, rfl, ⟨_, rfl⟩, ?_⟩
        rw [← HG2.out]
        show _ = _
        omega
    · have hbb : (b == 0) = false := by simpa using hb
      have hbn : (b != 0) = true := by simpa using hb
      have hlt := tmod_lt a b hb
      have hg2 := Lib.hid ((gcd_tmod a b).trans hg.out)
      clear hg
      go_wp2
      go_quiet (fail)
      go_wp2
      go_roundw
      case rel => exact ⟨b, _, _, rfl, rfl, World.drewN_drewN _ _ _, hb0, hb1, by omega, by omega, hg2.out⟩
      case measure => simp only [intOf]; exact hlt

set_option maxRecDepth 100000 in
set_option maxHeartbeats 2000000 in
theorem refProducts_own (xs ys : List Int) (A B : Option Addr) (c d : Nat) (w : World) (hA : Ints w A xs) (hB : Ints w B ys) (hl1 : xs.length ≤ 10) (hl2 : ys.length ≤ 10)
    (hx : ∀ z ∈ xs, 0 ≤ z ∧ z ≤ 1000) (hy : ∀ z ∈ ys, 0 ≤ z ∧ z ≤ 1000) (hs1 : 0 < xs.sum) (hs2 : 0 < ys.sum) :
    Calls Try.prog 97 #[.slice A xs.length c, .slice B ys.length d] w fun e w' => ∃ A' c', e = .returned (.slice A' (xs.length * ys.length) c') ∧ Out w' A' c' (qdL xs ys) ∧ Below w.heap.size w w' ∧ (∀ x, A' = some x → w.heap.size ≤ x.block) := by
  have HA := Lib.hid hA
  have HB := Lib.hid hB
  have HX := Lib.hid hx
  have HY := Lib.hid hy
  have HPB := Lib.hid (pd_bd hx hy)
  have HG := Lib.hid (pd_gpos hx hy hs1 hs2)
  have hmul : xs.length * ys.length ≤ 100 := Nat.mul_le_mul hl1 hl2
  have HML := Lib.hid hmul
  have HPL := Lib.hid (pd_len xs ys)
  clear hA hB hx hy hs1 hs2 hmul
  go_enter Try.func97, Try.ntmps97
  go_wp2
  go_loopw [5, 6, 14] (fun v g i wr => ∃ k : Nat, k ≤ xs.length ∧ i = .int .i64 k ∧ g = .int .i64 (gcF (pdL (xs.take k) ys)) ∧ wr.ownsRow w.heap.size 3 1 v (pdL (xs.take k) ys).length ((pdL (xs.take k) ys).map (Value.int .i64)) ∧ Below w.heap.size w wr) (fun _ _ i _ => xs.length - (intOf i).toNat)
  case atStart => exact ⟨0, Nat.zero_le _, rfl, rfl, World.ownsRow_nil _ _ _ _, Below.refl _ _⟩
  case round =>
    obtain ⟨k, hk, rfl, rfl, hown, hBr⟩ := hrel
    by_cases hlt : k < xs.length
    · obtain ⟨ad, x, rfl, hbk, hxk, hc⟩ := (HA.out.below hBr).get hlt
      have hxb := HX.out x (List.mem_of_getElem? hxk.out)
      have HPD := Lib.hid (pd_snoc (ys := ys) hxk.out)
      have HTB : Hid (∀ z ∈ pdL (xs.take k) ys, 0 ≤ z ∧ z ≤ 1000000) := Lib.hid (pd_bd (fun z hz => HX.out z (List.mem_of_mem_take hz)) HY.out)
      have HTL : Hid ((pdL (xs.take k) ys).length ≤ 100) := Lib.hid (by
        rw [pd_len, List.length_take]
        exact Nat.le_trans (Nat.mul_le_mul (Nat.le_trans (Nat.min_le_left _ _) (Nat.le_trans hk hl1)) hl2) (Nat.le_refl _))
      generalize hP : pdL (xs.take k) ys = P at *
      have hx0 : 0 ≤ x := hxb.1
      have hx1 : x ≤ 1000 := hxb.2
      have HO := Lib.hid hown
      have HBR := Lib.hid hBr
      clear hP hxb hown hBr
      go_wp2
      go_loopw [5, 6, 20] (fun v g j wr => ∃ m : Nat, m ≤ ys.length ∧ j = .int .i64 m ∧ g = .int .i64 (gcF (P ++ (ys.take m).map (fun y => x * y))) ∧ wr.ownsRow w.heap.size 3 1 v (P ++ (ys.take m).map (fun y => x * y)).length ((P ++ (ys.take m).map (fun y => x * y)).map (Value.int .i64)) ∧ Below w.heap.size w wr) (fun _ _ j _ => ys.length - (intOf j).toNat)
      case atStart => exact ⟨0, Nat.zero_le _, rfl, by simp, by simpa using HO.out, HBR.out⟩
      case round =>
        clear HO HBR hc hbk
        obtain ⟨m, hm, rfl, rfl, hown, hBr⟩ := hrel
        by_cases hlm : m < ys.length
        · obtain ⟨bd, y, rfl, hbk2, hyk, hc2⟩ := (HB.out.below hBr).get hlm
          have hyb := HY.out y (List.mem_of_getElem? hyk.out)
          have HRS := Lib.hid (row_snoc (x := x) hyk.out)
          obtain ⟨p0, p1⟩ := mul_bd (a := x) (b := y) (A := 1000) (B := 1000) hx0 hx1 hyb.1 hyb.2
          have HQB : Hid (∀ z ∈ P ++ (ys.take m).map (fun y => x * y), 0 ≤ z ∧ z ≤ 1000000) := Lib.hid (by
            intro z hz
            rcases List.mem_append.1 hz with hz | hz
            · exact HTB.out z hz
            · obtain ⟨y', hy', rfl⟩ := List.mem_map.1 hz
              have hb' := HY.out y' (List.mem_of_mem_take hy')
              have := mul_bd (a := x) (b := y') (A := 1000) (B := 1000) hx0 hx1 hb'.1 hb'.2
              omega)
          have hql : (P ++ (ys.take m).map (fun y => x * y)).length ≤ 200 := by
            have := HTL.out
            simp only [List.length_append, List.length_map, List.length_take]; omega
          generalize hQ : P ++ (ys.take m).map (fun y => x * y) = Q at *
          have HQ := Lib.hid hQ
          have g0 := gcF_nn Q
          have g1 := gcF_le (C := 1000000) (by omega) HQB.out
          have HGS := Lib.hid (gcF_snoc Q (x * y))
          generalize gcF Q = g at *
          have hz := hBr.size
          have HBR := Lib.hid hBr
          have HOW := Lib.hid hown
          clear hQ hyb hown hBr
          by_cases hp : 0 < x * y
          · have tp : decide (0 < x * y) = true := decide_eq_true hp
            go_wp2_with (first
              | (at_builtin; refine wp_app_int _ rfl (.tmp 24) (.tmp 28) rfl w.heap.size _ Q.length Q (x * y) rfl HOW.out rfl (by omega) hz ?_; intro v2 w2 hown2 hB2; have HO2 := Lib.hid hown2; have HB2 := Lib.hid (HBR.out.trans hB2); clear hown2 hB2)
              | (go_at_call 98; refine (refgcd_nn (x * y) g _ (by omega) (by omega) g0 (by omega)).mono ?_; rintro e w3 ⟨g', rfl, ⟨j, rfl⟩, hg'⟩))
            go_roundw
            case rel => exact ⟨m + 1, by omega, by go_num, by rw [HRS.out, ← List.append_assoc, HQ.out, HGS.out, hg'.out, Int.gcd_comm], by rw [HRS.out, ← List.append_assoc, HQ.out, List.length_append]; exact HO2.out, below_drewN HB2.out _⟩
            case measure => simp [intOf]; omega
          · have tp : decide (0 < x * y) = false := decide_eq_false hp
            have HG0 : Hid (g = (Int.gcd g (x * y) : Int)) := Lib.hid (by rw [show x * y = 0 by omega, Int.gcd_zero_right]; omega)
            go_wp2_with (at_builtin; refine wp_app_int _ rfl (.tmp 24) (.tmp 28) rfl w.heap.size _ Q.length Q (x * y) rfl HOW.out rfl (by omega) hz ?_; intro v2 w2 hown2 hB2; have HO2 := Lib.hid hown2; have HB2 := Lib.hid (HBR.out.trans hB2); clear hown2 hB2)
            go_roundw
            case rel => exact ⟨m + 1, by omega, by go_num, by rw [HRS.out, ← List.append_assoc, HQ.out, HGS.out, ← HG0.out], by rw [HRS.out, ← List.append_assoc, HQ.out, List.length_append]; exact HO2.out, HB2.out⟩
            case measure => simp [intOf]; omega
        · obtain rfl : m = ys.length := by omega
          rw [List.take_length, ← HPD.out] at hown
          rw [List.take_length, ← HPD.out]
          go_wp2
          go_roundw
          case rel => exact ⟨k + 1, by omega, by go_num, rfl, hown, hBr⟩
          case measure => simp [intOf]; omega
    · obtain rfl : k = xs.length := by omega
      rw [List.take_length] at hown
      rw [List.take_length]
      have hpl : 0 < (pdL xs ys).length := by
        rcases Nat.eq_zero_or_pos (pdL xs ys).length with h0 | h0
        · have := HG.out
          rw [List.eq_nil_of_length_eq_zero h0] at this
          simp [gcF] at this
        · exact h0
      have hml : (pdL xs ys).length ≤ 100 := by rw [HPL.out]; exact HML.out
      have HGL := Lib.hid (gcF_le (C := 1000000) (by omega) HPB.out)
      have HQD : Hid (qdL xs ys = dvK (pdL xs ys) (gcF (pdL xs ys)) (pdL xs ys).length) := Lib.hid (by unfold qdL dvK; simp)
      obtain ⟨gb, cap, rfl, hgb, _⟩ := hown.form hpl
      have HPL2 := Lib.hid HPL.out
      have gpos := HG.out
      have gle := HGL.out
      generalize hP : pdL xs ys = P at *
      generalize gcF P = g at *
      have HO0 : Hid (dvK P g 0 = P) := Lib.hid (by simp [dvK])
      have hgn : (g == 0) = false := by simp; omega
      have hg0 : g ≠ 0 := by omega
      clear hP
      go_wp2
      go_loopw [43] (fun i wr => ∃ k : Nat, k ≤ P.length ∧ i = .int .i64 k ∧ wr.ownsRow w.heap.size 3 1 (.slice (some ⟨gb, 0, none⟩) P.length cap) P.length ((dvK P g k).map (Value.int .i64)) ∧ Below w.heap.size w wr) (fun i _ => P.length - (intOf i).toNat)
      case atStart => exact ⟨0, Nat.zero_le _, rfl, by rw [HO0.out]; exact hown, hBr⟩
      case round =>
        clear hown hBr
        obtain ⟨k, hk, rfl, hown, hBr⟩ := hrel
        by_cases hlk : k < P.length
        · obtain ⟨z, hz⟩ := getElem?_of_lt hlk
          have hzb := HPB.out z (List.mem_of_getElem? hz)
          have hcz := hown.cellAt k (by omega)
          rw [List.getElem?_map, dvK_get hz, Option.map_some] at hcz
          have hf := hown.frozenAt k
          have HSET := Lib.hid (dvK_set (g := g) hz)
          have hq : IntKind.i64.wrap (z.tdiv g) = z / g := by
            rw [Int.tdiv_eq_ediv_of_nonneg hzb.1]
            exact IntWalk.i64_in _ (by
              have h1 := Int.ediv_nonneg hzb.1 (show 0 ≤ g by omega)
              have h2 := Int.ediv_le_self g hzb.1
              omega)
          have hz0 : 0 ≤ z := hzb.1
          have hge : w.heap.size ≤ gb := (hown.lt gb rfl).1
          clear hz hzb
          go_wp2
          go_roundw
          case rel => exact ⟨k + 1, by omega, by go_num, by rw [← HSET.out, List.map_set]; exact (hown.stored k _).1, hBr.setCell hge _⟩
          case measure => simp [intOf]; omega
        · obtain rfl : k = P.length := by omega
          rw [← HQD.out] at hown
          have hge : w.heap.size ≤ gb := (hown.lt gb rfl).1
          have hll : (qdL xs ys).length = P.length := by rw [HQD.out, dvK_len]
          rw [← hll] at hown
          obtain ⟨A', c', he, hO⟩ := own_ints hown
          have HE : Hid (A' = some ⟨gb, 0, none⟩ ∧ c' = cap) := Lib.hid (by injection he with h1 h2 h3; exact ⟨h1.symm, h3.symm⟩)
          have hO2 : Out wr (some ⟨gb, 0, none⟩) cap (qdL xs ys) := by rw [← HE.out.1, ← HE.out.2]; exact hO
          clear he hll
          go_wp2
          go_ret
          exact ⟨some ⟨gb, 0, none⟩, cap, by rw [← HPL2.out]; rfl, hO2, hBr, fun x hx => by cases hx; exact hge⟩
end Go.Proofs.Ytolpbbabmcpdkaa
