/-
  Contracts: share, Pairs (weigh).
-/
import Derived.Test.YtolpbbabmcpdkaaArea
import Derived.Test.YtolpbbabmcpdkaaJoined
set_option linter.unusedVariables false
set_option linter.unusedSimpArgs false
namespace Go.Proofs.Ytolpbbabmcpdkaa
open Go.RowKit Go.Shelf

def shN (ns ss : List Int) (a b : Nat) : Int := if gtB ns ss a b then 2 else if gtB ns ss b a then 0 else 1
theorem shN_eq (ns ss : List Int) (a b : Nat) : shN ns ss a b = shV (ns.getD a 0, ss.getD a 0) (ns.getD b 0, ss.getD b 0) := by
  unfold shN shV gtB
  simp only [decide_eq_true_eq]
def tmV (ns ss : List Int) (a b : Nat) : Int := shN ns ss a b * ss.getD a 0 * ns.getD b 0
def rowP (ns ss : List Int) (a k : Nat) : Int := ((List.range k).map fun b => tmV ns ss a b).sum
def allP (ns ss : List Int) (k : Nat) : Int := ((List.range k).map fun a => rowP ns ss a ns.length).sum
theorem rowP_succ (ns ss : List Int) (a k : Nat) : rowP ns ss a (k + 1) = rowP ns ss a k + tmV ns ss a k := by simp [rowP, List.range_succ]
theorem allP_succ (ns ss : List Int) (k : Nat) : allP ns ss (k + 1) = allP ns ss k + rowP ns ss k ns.length := by simp [allP, List.range_succ]
theorem allP_all (ns ss : List Int) : allP ns ss ns.length = dSum (prL ns ss) := by
  rw [← pr_dsum]
  unfold allP rowP prSum prL
  rw [List.map_map]
  refine sum_congr _ _ _ (fun a _ => ?_)
  show _ = (List.map _ (List.map _ _)).sum
  rw [List.map_map]
  refine sum_congr _ _ _ (fun b _ => ?_)
  show tmV ns ss a b = shV _ _ * _ * _
  unfold tmV
  rw [shN_eq]
theorem sh_bd (ns ss : List Int) (a b : Nat) : 0 ≤ shN ns ss a b ∧ shN ns ss a b ≤ 2 := by unfold shN; (repeat' split) <;> omega
theorem tm_bd {ns ss : List Int} (ho : Od ns ss) (a b : Nat) : (0 ≤ shN ns ss a b * ss.getD a 0 ∧ shN ns ss a b * ss.getD a 0 ≤ 2000) ∧ 0 ≤ tmV ns ss a b ∧ tmV ns ss a b ≤ 2000000 := by
  have b1 := getD_bd (C := 1000) (by omega) ho.nb b
  have b2 := getD_bd (C := 1000) (by omega) ho.sb a
  have hs := sh_bd ns ss a b
  obtain ⟨m0, m1⟩ := mul_bd (a := shN ns ss a b) (b := ss.getD a 0) (A := 2) (B := 1000) hs.1 hs.2 b2.1 b2.2
  obtain ⟨m2, m3⟩ := mul_bd (a := shN ns ss a b * ss.getD a 0) (b := ns.getD b 0) (A := 2000) (B := 1000) m0 (by omega) b1.1 b1.2
  unfold tmV
  omega
theorem rowP_bd {ns ss : List Int} (ho : Od ns ss) (a : Nat) : ∀ k, 0 ≤ rowP ns ss a k ∧ rowP ns ss a k ≤ 2000000 * k := by
  intro k
  induction k with
  | zero => simp [rowP]
  | succ k ih => have := (tm_bd ho a k).2; rw [rowP_succ]; omega
theorem allP_bd {ns ss : List Int} (ho : Od ns ss) : ∀ k, 0 ≤ allP ns ss k ∧ allP ns ss k ≤ 20000000 * k := by
  intro k
  induction k with
  | zero => simp [allP]
  | succ k ih => have := rowP_bd ho k ns.length; have := ho.le; rw [allP_succ]; omega

set_option maxRecDepth 100000 in
set_option maxHeartbeats 1000000 in
theorem share_any (ns ss : List Int) (A B : Option Addr) (c d : Nat) (ho : Od ns ss) (a b : Nat) (ha : a < ns.length) (hb : b < ns.length) (w : World) (hA : Ints w A ns) (hB : Ints w B ss) :
    Calls Try.prog 91 #[.agg #[.slice A ns.length c, .slice B ss.length d, .int .i64 ns.sum, .int .i64 ss.sum], .int .i64 a, .int .i64 b] w fun e w' => e = .returned (.int .i64 (shN ns ss a b)) ∧ Below w.heap.size w w' := by
  obtain ⟨W0, hW0, HW, H0, z0⟩ := one_new w #[.slice A ns.length c, .slice B ss.length d, .int .i64 ns.sum, .int .i64 ss.sum] 67
  have b0 : World.cell? _ ⟨_, 0, none⟩ = some (.slice A ns.length c) := blk_cell H0.out 0 rfl
  have b1 : World.cell? _ ⟨_, 1, none⟩ = some (.slice B ss.length d) := blk_cell H0.out 1 rfl
  have b2 : World.cell? _ ⟨_, 2, none⟩ = some (.int .i64 ns.sum) := blk_cell H0.out 2 rfl
  have b3 : World.cell? _ ⟨_, 3, none⟩ = some (.int .i64 ss.sum) := blk_cell H0.out 3 rfl
  have HA := Lib.hid hA
  have HB := Lib.hid hB
  clear hA hB
  obtain ⟨x, hx1⟩ : ∃ x, gtB ns ss a b = x := ⟨_, rfl⟩
  obtain ⟨y, hy1⟩ : ∃ x, gtB ns ss b a = x := ⟨_, rfl⟩
  have HR : Hid (shN ns ss a b = if x then 2 else if y then 0 else 1) := Lib.hid (by unfold shN; rw [hx1, hy1])
  have Gab := Lib.hid hx1
  have Gba := Lib.hid hy1
  clear hx1 hy1
  subst hW0
  cases x <;> cases y <;> (
    go_enter Try.func91, Try.ntmps91
    go_wp2_with (first
    | (go_at_call 111; with_reducible refine (before_any ns ss A B c d ho a b ha hb _ (HA.out.below (by first | exact HW.out | exact Below.drew HW.out | exact below_drewN HW.out _)) (HB.out.below (by first | exact HW.out | exact Below.drew HW.out | exact below_drewN HW.out _))).mono ?_; rintro e w4 ⟨rfl, hB4⟩; rw [Gab.out]; have H0 := Lib.hid ((hB4.block _ z0).trans H0.out); have z0 := Nat.lt_of_lt_of_le z0 hB4.size; have b0 : World.cell? _ ⟨_, 0, none⟩ = some (.slice A ns.length c) := blk_cell H0.out 0 rfl; have b1 : World.cell? _ ⟨_, 1, none⟩ = some (.slice B ss.length d) := blk_cell H0.out 1 rfl; have b2 : World.cell? _ ⟨_, 2, none⟩ = some (.int .i64 ns.sum) := blk_cell H0.out 2 rfl; have b3 : World.cell? _ ⟨_, 3, none⟩ = some (.int .i64 ss.sum) := blk_cell H0.out 3 rfl; have HW : Hid (Below w.heap.size w _) := Lib.hid (below_step (by first | exact HW.out | exact Below.drew HW.out | exact below_drewN HW.out _) hB4); clear hB4)
    | (go_at_call 111; with_reducible refine (before_any ns ss A B c d ho b a hb ha _ (HA.out.below (by first | exact HW.out | exact Below.drew HW.out | exact below_drewN HW.out _)) (HB.out.below (by first | exact HW.out | exact Below.drew HW.out | exact below_drewN HW.out _))).mono ?_; rintro e w5 ⟨rfl, hB5⟩; rw [Gba.out]; have H0 := Lib.hid ((hB5.block _ z0).trans H0.out); have z0 := Nat.lt_of_lt_of_le z0 hB5.size; have b0 : World.cell? _ ⟨_, 0, none⟩ = some (.slice A ns.length c) := blk_cell H0.out 0 rfl; have b1 : World.cell? _ ⟨_, 1, none⟩ = some (.slice B ss.length d) := blk_cell H0.out 1 rfl; have b2 : World.cell? _ ⟨_, 2, none⟩ = some (.int .i64 ns.sum) := blk_cell H0.out 2 rfl; have b3 : World.cell? _ ⟨_, 3, none⟩ = some (.int .i64 ss.sum) := blk_cell H0.out 3 rfl; have HW : Hid (Below w.heap.size w _) := Lib.hid (below_step (by first | exact HW.out | exact Below.drew HW.out | exact below_drewN HW.out _) hB5); clear hB5))
    go_ret
    exact ⟨ret_int HR.out.symm, (by repeat (first | with_reducible exact HW.out | with_reducible exact Below.refl _ _ | with_reducible refine below_drewN ?_ _ | with_reducible refine Below.drew ?_ | (with_reducible refine Below.setCell ?_ (by first | exact Nat.le_refl _ | exact Nat.le_succ _ | (simp; done) | (simp; omega) | omega) _) | (with_reducible refine Below.alloc ?_ (by first | exact HW.out.size | (simp; done) | (simp; omega) | omega) _)))⟩)

set_option maxRecDepth 100000 in
set_option maxHeartbeats 2000000 in
theorem pairs_yes (ns ss : List Int) (A B : Option Addr) (c d : Nat) (w : World) (hA : Ints w A ns) (hB : Ints w B ss) (hv : odB ns ss = true) :
    Calls Try.prog 42 #[.agg #[.slice A ns.length c, .slice B ss.length d]] w fun e w' => e = .returned (.tuple #[.agg #[.int .i64 (arN ns ss), .int .i64 (arD ns ss)], .int .i64 0]) ∧ Below w.heap.size w w' := by
  have ho := od_of hv
  have HA := Lib.hid hA
  have HB := Lib.hid hB
  have HV := Lib.hid hv
  have hn2 := ho.le
  have HALL := Lib.hid (allP_all ns ss)
  clear hA hB hv
  obtain ⟨W0, hW0, HW, H0, H1, z0, z1⟩ := two_new w #[.slice A ns.length c, .slice B ss.length d] #[.int .i64 0, .int .i64 0] 24 28
  go_enter Try.func42, Try.ntmps42
  go_wp2_with (first
    | (go_at_call 72; with_reducible refine (summed_yes ns ss _ _ _ _ _ (HA.out.below (by repeat (first | with_reducible exact Below.refl _ _ | with_reducible assumption | refine below_drewN ?_ _ | with_reducible refine Below.drew ?_ | (refine Below.setCell ?_ (by first | (simp; done) | (simp; omega) | omega) _) | (refine Below.alloc ?_ (by first | (simp; done) | (simp; omega) | omega) _)))) (HB.out.below (by repeat (first | with_reducible exact Below.refl _ _ | with_reducible assumption | refine below_drewN ?_ _ | with_reducible refine Below.drew ?_ | (refine Below.setCell ?_ (by first | (simp; done) | (simp; omega) | omega) _) | (refine Below.alloc ?_ (by first | (simp; done) | (simp; omega) | omega) _)))) HV.out).mono ?_; rintro e w1 ⟨rfl, hB1⟩; rw [← hW0] at hB1; have H0 := Lib.hid ((hB1.block _ z0).trans H0.out); have z0 := Nat.lt_of_lt_of_le z0 hB1.size; have b0 : World.cell? _ ⟨_, 0, none⟩ = some (.slice A ns.length c) := blk_cell H0.out 0 rfl; have b1 : World.cell? _ ⟨_, 1, none⟩ = some (.slice B ss.length d) := blk_cell H0.out 1 rfl; have H1 := Lib.hid ((hB1.block _ z1).trans H1.out); have z1 := Nat.lt_of_lt_of_le z1 hB1.size; have c0 : World.cell? _ ⟨_, 0, none⟩ = some (.int .i64 0) := blk_cell H1.out 0 rfl; have c1 : World.cell? _ ⟨_, 1, none⟩ = some (.int .i64 0) := blk_cell H1.out 1 rfl; have cf0 := blk_frozen H1.out 0; have cf1 := blk_frozen H1.out 1; have HW : Hid (Below w.heap.size w _) := Lib.hid (below_step (by first | exact HW.out | exact Below.drew HW.out | exact below_drewN HW.out _) hB1); clear hB1)
    | (go_at_call 77; with_reducible refine (count_any ns ss A B c d _ _ _).mono ?_; rintro e w2 ⟨rfl, hB2⟩; have hX2 := Lib.hid hB2; clear hB2))
  obtain ⟨W1, hW1, HW1, G2, y2⟩ := one_new w1 #[.slice A ns.length c, .slice B ss.length d, .int .i64 ns.sum, .int .i64 ss.sum] 67
  rw [← hW1] at hX2
  have HW := Lib.hid (below_step (below_step HW.out HW1.out) hX2.out)
  have H1 := Lib.hid ((hX2.out.block _ (Nat.lt_of_lt_of_le z1 HW1.out.size)).trans ((HW1.out.block _ z1).trans H1.out))
  have G2 := Lib.hid ((hX2.out.block _ y2).trans G2.out)
  clear hW1 HW1 hX2 c0 c1 cf0 cf1 b0 b1 H0 z0 hW0
  have z1 := (Array.getElem?_eq_some_iff.1 H1.out).1
  have y2 := (Array.getElem?_eq_some_iff.1 G2.out).1
  go_loopw [6, 20] (fun v i wr => ∃ a : Nat, a ≤ ns.length ∧ v = .int .i64 (allP ns ss a) ∧ i = .int .i64 a ∧ Below w2.heap.size w2 wr) (fun _ i _ => ns.length - (intOf i).toNat)
  case atStart => exact ⟨0, Nat.zero_le _, rfl, rfl, Below.refl _ _⟩
  case round =>
    obtain ⟨a, hka, rfl, rfl, hX⟩ := hrel
    have HX := Lib.hid hX
    have HW := Lib.hid (below_step HW.out hX)
    have H1 := Lib.hid ((hX.block _ z1).trans H1.out)
    have G2 := Lib.hid ((hX.block _ y2).trans G2.out)
    have z1 := Nat.lt_of_lt_of_le z1 hX.size
    have y2 := Nat.lt_of_lt_of_le y2 hX.size
    clear hX
    by_cases ha : a < ns.length
    · have d0 : World.cell? _ ⟨_, 0, none⟩ = some (.slice A ns.length c) := blk_cell G2.out 0 rfl
      have d1 : World.cell? _ ⟨_, 1, none⟩ = some (.slice B ss.length d) := blk_cell G2.out 1 rfl
      have d2 : World.cell? _ ⟨_, 2, none⟩ = some (.int .i64 ns.sum) := blk_cell G2.out 2 rfl
      have d3 : World.cell? _ ⟨_, 3, none⟩ = some (.int .i64 ss.sum) := blk_cell G2.out 3 rfl
      obtain ⟨P, hP⟩ : ∃ P, allP ns ss a = P := ⟨_, rfl⟩
      have hPb := allP_bd ho a
      rw [hP] at hPb
      have HP := Lib.hid hP
      rw [hP]
      have p0 : 0 ≤ P := hPb.1
      have p1 : P ≤ 200000000 := by omega
      clear hP hPb
      go_wp2_with (go_at_call 77; with_reducible refine (count_any ns ss A B c d _ _ _).mono ?_; rintro e w3 ⟨rfl, hB3⟩; have HX := Lib.hid (below_step HX.out hB3); have HW := Lib.hid (below_step HW.out hB3); have G2 := Lib.hid ((hB3.block _ y2).trans G2.out); have y2 := Nat.lt_of_lt_of_le y2 hB3.size; clear hB3)
      go_loopw [6, 25] (fun v j wr => ∃ b : Nat, b ≤ ns.length ∧ v = .int .i64 (P + rowP ns ss a b) ∧ j = .int .i64 b ∧ Below w3.heap.size w3 wr) (fun _ j _ => ns.length - (intOf j).toNat)
      case atStart => exact ⟨0, Nat.zero_le _, by simp [rowP], rfl, Below.refl _ _⟩
      case round =>
        obtain ⟨b, hkb, rfl, rfl, hY⟩ := hrel
        have HX := Lib.hid (below_step HX.out hY)
        have HW := Lib.hid (below_step HW.out hY)
        have G2 := Lib.hid ((hY.block _ y2).trans G2.out)
        have y2 := Nat.lt_of_lt_of_le y2 hY.size
        have HY := Lib.hid hY
        clear hY d0 d1 d2 d3
        by_cases hb : b < ns.length
        · obtain ⟨ad, bd, x, y, rfl, rfl, c1, _, m1, _, f1, _, x0, x1, _, _⟩ := ho.at2 HA.out HB.out HW.out hb
          obtain ⟨ad', bd', x', y', r1, r2, _, c2, _, m2, _, f2, _, _, y0, y1⟩ := ho.at2 HA.out HB.out HW.out ha
          obtain rfl := Option.some.inj r1
          obtain rfl := Option.some.inj r2
          clear r1 r2
          have htm := tm_bd ho a b
          have hrb := rowP_bd ho a b
          have HRS := Lib.hid (rowP_succ ns ss a b)
          have hsb := sh_bd ns ss a b
          unfold tmV at htm HRS
          rw [f1.out, f2.out] at htm HRS
          obtain ⟨sh, hsh⟩ : ∃ s, shN ns ss a b = s := ⟨_, rfl⟩
          rw [hsh] at htm HRS hsb
          have HSH := Lib.hid hsh
          obtain ⟨R, hR⟩ : ∃ R, rowP ns ss a b = R := ⟨_, rfl⟩
          rw [hR] at hrb HRS
          rw [hR]
          have q0 : 0 ≤ R := hrb.1
          have q1 : R ≤ 20000000 := by omega
          have t0 : 0 ≤ sh * y' := htm.1.1
          have t1 : sh * y' ≤ 2000 := htm.1.2
          have t2 : 0 ≤ sh * y' * x := htm.2.1
          have t3 : sh * y' * x ≤ 2000000 := htm.2.2
          have s0 : 0 ≤ sh := hsb.1
          have s1 : sh ≤ 2 := hsb.2
          have hlen := ho.len
          have ha2 : a < ss.length := by omega
          have d0 : World.cell? _ ⟨_, 0, none⟩ = some (.slice (some ad) ns.length c) := blk_cell G2.out 0 rfl
          have d1 : World.cell? _ ⟨_, 1, none⟩ = some (.slice (some bd) ss.length d) := blk_cell G2.out 1 rfl
          have d2 : World.cell? _ ⟨_, 2, none⟩ = some (.int .i64 ns.sum) := blk_cell G2.out 2 rfl
          have d3 : World.cell? _ ⟨_, 3, none⟩ = some (.int .i64 ss.sum) := blk_cell G2.out 3 rfl
          have hw1 : IntKind.i64.wrap (sh * y') = sh * y' := IntWalk.i64_in _ (by omega)
          have hw2 : IntKind.i64.wrap (sh * y' * x) = sh * y' * x := IntWalk.i64_in _ (by omega)
          have hw3 : IntKind.i64.wrap (P + R + sh * y' * x) = P + R + sh * y' * x := IntWalk.i64_in _ (by omega)
          have m1w := Nat.lt_of_lt_of_le m1 HW.out.size
          have m2w := Nat.lt_of_lt_of_le m2 HW.out.size
          have HC1 : Hid (∀ W' : World, Below wr.heap.size wr W' → W'.cell? (ad.add b) = some (.int .i64 x)) := Lib.hid (fun W' h => (h.cell m1w).trans c1)
          have HC2 : Hid (∀ W' : World, Below wr.heap.size wr W' → W'.cell? (bd.add a) = some (.int .i64 y')) := Lib.hid (fun W' h => (h.cell m2w).trans c2)
          have HZ : Hid (Below wr.heap.size wr wr) := Lib.hid (Below.refl _ _)
          clear htm hrb hsh hR hsb hlen
          go_wp2
          go_region_held3 (fun W => W.cell? ⟨w1.heap.size, 0, none⟩ = some (.slice (some ad) ns.length c) ∧ W.cell? ⟨w1.heap.size, 1, none⟩ = some (.slice (some bd) ss.length d) ∧ W.cell? ⟨w1.heap.size, 2, none⟩ = some (.int .i64 ns.sum) ∧ W.cell? ⟨w1.heap.size, 3, none⟩ = some (.int .i64 ss.sum) ∧ W.cell? (ad.add b) = some (.int .i64 x) ∧ W.cell? (bd.add a) = some (.int .i64 y'))
            ((first | with_reducible exact ⟨d0, d1, d2, d3, c1, c2⟩ | (refine ⟨?_, ?_, ?_, ?_, ?_, ?_⟩ <;> (repeat (first | with_reducible exact d0 | with_reducible exact d1 | with_reducible exact d2 | with_reducible exact d3 | with_reducible exact c1 | with_reducible exact c2 | with_reducible refine (cell_drew1 _ _).trans ?_)))))
            ((go_at_call 91; with_reducible refine (share_any ns ss (some ad) (some bd) c d ho a b ha hb _ (HA.out.below (by first | exact HW.out | exact Below.drew HW.out | exact below_drewN HW.out _)) (HB.out.below (by first | exact HW.out | exact Below.drew HW.out | exact below_drewN HW.out _))).mono ?_; rintro e w5 ⟨rfl, hB5⟩; rw [HSH.out]; have HYY := Lib.hid (below_step (by first | exact HY.out | exact Below.drew HY.out | exact below_drewN HY.out _) hB5); have HZ := Lib.hid (below_step (by first | exact HZ.out | exact Below.drew HZ.out | exact below_drewN HZ.out _) hB5); have c1 := HC1.out _ HZ.out; have c2 := HC2.out _ HZ.out; have G2 := Lib.hid ((hB5.block _ y2).trans G2.out); have y2 := Nat.lt_of_lt_of_le y2 hB5.size; have d0 : World.cell? _ ⟨_, 0, none⟩ = some (.slice (some ad) ns.length c) := blk_cell G2.out 0 rfl; have d1 : World.cell? _ ⟨_, 1, none⟩ = some (.slice (some bd) ss.length d) := blk_cell G2.out 1 rfl; have d2 : World.cell? _ ⟨_, 2, none⟩ = some (.int .i64 ns.sum) := blk_cell G2.out 2 rfl; have d3 : World.cell? _ ⟨_, 3, none⟩ = some (.int .i64 ss.sum) := blk_cell G2.out 3 rfl; have HX := Lib.hid (below_step (by first | exact HX.out | exact Below.drew HX.out | exact below_drewN HX.out _) hB5); have HW := Lib.hid (below_step (by first | exact HW.out | exact Below.drew HW.out | exact below_drewN HW.out _) hB5); clear hB5))
          all_goals
            go_wp2
            go_roundw
            case rel => exact ⟨b + 1, by omega, by rw [HRS.out, ← Int.add_assoc], by go_num, (by first | exact HYY.out | exact Below.drew HYY.out | exact below_drewN HYY.out _)⟩
            case measure => simp [intOf]; omega
        · obtain rfl : b = ns.length := by omega
          have HAS := Lib.hid (allP_succ ns ss a)
          rw [HP.out] at HAS
          go_wp2
          go_roundw
          case rel => exact ⟨a + 1, by omega, by rw [HAS.out], by go_num, HX.out⟩
          case measure => simp [intOf]; omega
    · obtain rfl : a = ns.length := by omega
      rw [HALL.out]
      have hPb := allP_bd ho ns.length
      rw [HALL.out] at hPb
      obtain ⟨D, hD⟩ : ∃ D, dSum (prL ns ss) = D := ⟨_, rfl⟩
      rw [hD] at hPb
      rw [hD]
      have v0 : 0 ≤ D := hPb.1
      have v1 : D ≤ 400000000 := by omega
      have HD := Lib.hid hD
      clear hPb hD
      have d0 : World.cell? _ ⟨_, 0, none⟩ = some (.slice A ns.length c) := blk_cell G2.out 0 rfl
      have d1 : World.cell? _ ⟨_, 1, none⟩ = some (.slice B ss.length d) := blk_cell G2.out 1 rfl
      have d2 : World.cell? _ ⟨_, 2, none⟩ = some (.int .i64 ns.sum) := blk_cell G2.out 2 rfl
      have d3 : World.cell? _ ⟨_, 3, none⟩ = some (.int .i64 ss.sum) := blk_cell G2.out 3 rfl
      go_wp2_with (go_at_call 90; with_reducible refine (half_any ns ss A B c d ho D (by omega) (by omega) _).mono ?_; rintro e w6 ⟨rfl, hB6⟩; have H1 := Lib.hid ((hB6.block _ z1).trans H1.out); have z1 := Nat.lt_of_lt_of_le z1 hB6.size; have c0 : World.cell? _ ⟨_, 0, none⟩ = some (.int .i64 0) := blk_cell H1.out 0 rfl; have c1 : World.cell? _ ⟨_, 1, none⟩ = some (.int .i64 0) := blk_cell H1.out 1 rfl; have cf0 := blk_frozen H1.out 0; have cf1 := blk_frozen H1.out 1; have HW : Hid (Below w.heap.size w _) := Lib.hid (below_step (by first | exact HW.out | exact Below.drew HW.out | exact below_drewN HW.out _) hB6); clear hB6)
      exact bodyPost_ret (v := .tuple #[.agg #[.int .i64 (arN ns ss), .int .i64 (arD ns ss)], .int .i64 0]) (by unfold arN arD; rw [HD.out]; simp [results, Try.results42, go_sem, c0, c1]) rfl ⟨rfl, (by repeat (first | with_reducible exact HW.out | with_reducible exact Below.refl _ _ | with_reducible refine below_drewN ?_ _ | with_reducible refine Below.drew ?_ | (with_reducible refine Below.setCell ?_ (by first | exact Nat.le_refl _ | exact Nat.le_succ _ | (simp; done) | (simp; omega) | omega) _) | (with_reducible refine Below.alloc ?_ (by first | exact HW.out.size | (simp; done) | (simp; omega) | omega) _)))⟩
end Go.Proofs.Ytolpbbabmcpdkaa
