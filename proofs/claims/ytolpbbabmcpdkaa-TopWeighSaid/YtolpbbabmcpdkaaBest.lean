/-
  Contract: Best (weigh).
-/
import Derived.Test.YtolpbbabmcpdkaaBetter
import Derived.Test.YtolpbbabmcpdkaaCutOf
import Derived.Test.YtolpbbabmcpdkaaJoined
import Derived.Deep.CutRange
set_option linter.unusedVariables false
set_option linter.unusedSimpArgs false
namespace Go.Proofs.Ytolpbbabmcpdkaa
open Go.RowKit Go.Shelf

def okN (p q : Int) : Bool := !decide (q < 1) && !decide (1000000 < q) && !decide (p < 0) && !decide (q < p)
def bsS (ns ss : List Int) (p q : Int) (best : List Int) (s : Nat) : List Int := if keptL ns (ofS ns.length s) * q ≤ p * ns.sum then (if btV ss (ofS ns.length s) best < 0 then ofS ns.length s else best) else best
def bsK (ns ss : List Int) (p q : Int) (k : Nat) : List Int := (List.range k).foldl (bsS ns ss p q) []
def bsL (ns ss : List Int) (p q : Int) : List Int := bsK ns ss p q (2 ^ ns.length)
theorem bs_succ (ns ss : List Int) (p q : Int) (k : Nat) : bsK ns ss p q (k + 1) = bsS ns ss p q (bsK ns ss p q k) k := by
  unfold bsK; rw [List.range_succ, List.foldl_append]; rfl
theorem bs_cut (ns ss : List Int) (p q : Int) : ∀ k, cutB ns.length (bsK ns ss p q k) = true
  | 0 => by show cutB ns.length [] = true; exact ofM_cut 0 (fun _ => true) ▸ cutB_of List.Pairwise.nil (by simp)
  | k + 1 => by
    rw [bs_succ, bsS]
    split
    · split
      · exact ofM_cut _ _
      · exact bs_cut ns ss p q k
    · exact bs_cut ns ss p q k

set_option maxRecDepth 100000 in
set_option maxHeartbeats 1000000 in
theorem wBest_no (ns ss : List Int) (A B : Option Addr) (c d : Nat) (p q : Int) (w : World) (hA : Ints w A ns) (hB : Ints w B ss) (hl : ns.length ≤ 1000) (hl2 : ss.length ≤ 1000) (hv : odB ns ss = false) :
    Calls Try.prog 30 #[.agg #[.slice A ns.length c, .slice B ss.length d], .agg #[.int .i64 p, .int .i64 q]] w fun e w' => e = .returned (.tuple #[.slice none 0 0, .int .i64 70]) ∧ Below w.heap.size w w' := by
  have HA := Lib.hid hA
  have HB := Lib.hid hB
  have HV := Lib.hid hv
  clear hA hB hv
  obtain ⟨W0, hW0, HW, H0, H1, z0, z1⟩ := two_new w #[.slice A ns.length c, .slice B ss.length d] #[.int .i64 p, .int .i64 q] 24 28
  go_enter Try.func30, Try.ntmps30
  go_wp2_with (go_at_call 72; with_reducible refine (summed_no ns ss _ _ _ _ _ (HA.out.below (by repeat (first | with_reducible exact Below.refl _ _ | with_reducible assumption | refine below_drewN ?_ _ | with_reducible refine Below.drew ?_ | (refine Below.setCell ?_ (by first | (simp; done) | (simp; omega) | omega) _) | (refine Below.alloc ?_ (by first | (simp; done) | (simp; omega) | omega) _)))) (HB.out.below (by repeat (first | with_reducible exact Below.refl _ _ | with_reducible assumption | refine below_drewN ?_ _ | with_reducible refine Below.drew ?_ | (refine Below.setCell ?_ (by first | (simp; done) | (simp; omega) | omega) _) | (refine Below.alloc ?_ (by first | (simp; done) | (simp; omega) | omega) _)))) hl hl2 HV.out).mono ?_; rintro e w1 ⟨rfl, hB1⟩; rw [← hW0] at hB1; have HW1 := Lib.hid (below_step HW.out hB1); clear hB1)
  go_ret2
  exact ⟨rfl, (by first | exact HW1.out | exact Below.alloc HW1.out HW1.out.size _)⟩

set_option maxRecDepth 100000 in
set_option maxHeartbeats 4000000 in
theorem wBest_arg (ns ss : List Int) (A B : Option Addr) (c d : Nat) (p q : Int) (w : World) (hA : Ints w A ns) (hB : Ints w B ss) (hv : odB ns ss = true) (hn : okN p q = false) :
    Calls Try.prog 30 #[.agg #[.slice A ns.length c, .slice B ss.length d], .agg #[.int .i64 p, .int .i64 q]] w fun e w' => e = .returned (.tuple #[.slice none 0 0, .int .i64 2]) ∧ Below w.heap.size w w' := by
  have ho := od_of hv
  have hn10 := ho.le
  have HO := Lib.hid ho
  have HA := Lib.hid hA
  have HB := Lib.hid hB
  have HV := Lib.hid hv
  have HNK := Lib.hid hn
  clear hA hB hv hn
  obtain ⟨W0, hW0, HW, H0, H1, z0, z1⟩ := two_new w #[.slice A ns.length c, .slice B ss.length d] #[.int .i64 p, .int .i64 q] 24 28
  go_enter Try.func30, Try.ntmps30
  go_upto_region 2 with (go_at_call 72; with_reducible refine (summed_yes ns ss _ _ _ _ _ (HA.out.below (by repeat (first | with_reducible exact Below.refl _ _ | with_reducible assumption | refine below_drewN ?_ _ | with_reducible refine Below.drew ?_ | (refine Below.setCell ?_ (by first | (simp; done) | (simp; omega) | omega) _) | (refine Below.alloc ?_ (by first | (simp; done) | (simp; omega) | omega) _)))) (HB.out.below (by repeat (first | with_reducible exact Below.refl _ _ | with_reducible assumption | refine below_drewN ?_ _ | with_reducible refine Below.drew ?_ | (refine Below.setCell ?_ (by first | (simp; done) | (simp; omega) | omega) _) | (refine Below.alloc ?_ (by first | (simp; done) | (simp; omega) | omega) _)))) HV.out).mono ?_; rintro e v1 ⟨rfl, hB1⟩; rw [← hW0] at hB1; have H1 := Lib.hid ((hB1.block _ z1).trans H1.out); have z1 := Nat.lt_of_lt_of_le z1 hB1.size; have HW : Hid (Below w.heap.size w _) := Lib.hid (below_step HW.out hB1); clear hB1)
  obtain ⟨X1, hX1, H2, z2, H1, z1, HW⟩ : ∃ X, v1.alloc (.cells #[.slice A ns.length c, .slice B ss.length d, .int .i64 ns.sum, .int .i64 ss.sum] 67) = X ∧ Hid (X.heap[v1.heap.size]? = some (.cells #[.slice A ns.length c, .slice B ss.length d, .int .i64 ns.sum, .int .i64 ss.sum] 67 (0, 0))) ∧ v1.heap.size < X.heap.size ∧ Hid (X.heap[w.heap.size + 1]? = some (.cells #[.int .i64 p, .int .i64 q] 28 (0, 0))) ∧ w.heap.size + 1 < X.heap.size ∧ Hid (Below w.heap.size w X) :=
    ⟨_, rfl, Lib.hid (heap_alloc_new _ _), by simp, Lib.hid ((Below.heap_alloc _ _ _ z1).trans H1.out), by simp; omega, Lib.hid (Below.alloc HW.out HW.out.size _)⟩
  rw [hX1]
  clear hX1
  obtain ⟨gx, hgx⟩ : ∃ g, v1.heap.size = g := ⟨_, rfl⟩
  rw [hgx] at H2 z2 ⊢
  clear hgx
  have HK : Hid (∀ W, Below X1.heap.size X1 W → W.cell? ⟨w.heap.size + 1, 0, none⟩ = some (.int .i64 p) ∧ W.cell? ⟨w.heap.size + 1, 1, none⟩ = some (.int .i64 q) ∧ W.cell? ⟨gx, 0, none⟩ = some (.slice A ns.length c) ∧ W.cell? ⟨gx, 1, none⟩ = some (.slice B ss.length d) ∧ W.cell? ⟨gx, 2, none⟩ = some (.int .i64 ns.sum) ∧ W.cell? ⟨gx, 3, none⟩ = some (.int .i64 ss.sum)) := Lib.hid fun W hW =>
    have q1 := (hW.block _ z1).trans H1.out
    have q2 := (hW.block _ z2).trans H2.out
    ⟨blk_cell q1 0 rfl, blk_cell q1 1 rfl, blk_cell q2 0 rfl, blk_cell q2 1 rfl, blk_cell q2 2 rfl, blk_cell q2 3 rfl⟩
  obtain ⟨r0, r1, s0, s1, s2, s3⟩ := HK.out X1 (Below.refl _ _)
  have HNE : Hid (okN p q = (!decide (q < 1) && !decide (1000000 < q) && !decide (p < 0) && !decide (q < p))) := Lib.hid rfl
  rw [HNK.out] at HNE
  cases t1 : decide (q < 1) with
  | true =>
    go_wp2
    go_ret2
    exact ⟨rfl, HW.out⟩
  | false =>
    cases t2 : decide (1000000 < q) with
    | true =>
      go_wp2
      go_ret2
      exact ⟨rfl, HW.out⟩
    | false =>
      cases t3 : decide (p < 0) with
      | true =>
        go_wp2
        go_ret2
        exact ⟨rfl, HW.out⟩
      | false =>
        cases t4 : decide (q < p) with
        | true =>
          go_wp2
          go_ret2
          exact ⟨rfl, HW.out⟩
        | false =>
          have := HNE.out
          rw [t1, t2, t3, t4] at this
          cases this

set_option maxRecDepth 100000 in
set_option maxHeartbeats 4000000 in
theorem wBest_yes (ns ss : List Int) (A B : Option Addr) (c d : Nat) (p q : Int) (w : World) (hA : Ints w A ns) (hB : Ints w B ss) (hv : odB ns ss = true) (hn : okN p q = true) :
    Calls Try.prog 30 #[.agg #[.slice A ns.length c, .slice B ss.length d], .agg #[.int .i64 p, .int .i64 q]] w fun e w' => ∃ A' c', e = .returned (.tuple #[.slice A' (bsL ns ss p q).length c', .int .i64 0]) ∧ Out w' A' c' (bsL ns ss p q) ∧ Below w.heap.size w w' := by
  have ho := od_of hv
  have hn10 := ho.le
  have HO := Lib.hid ho
  have HA := Lib.hid hA
  have HB := Lib.hid hB
  have HV := Lib.hid hv
  have HNK := Lib.hid hn
  clear hA hB hv hn
  obtain ⟨W0, hW0, HW, H0, H1, z0, z1⟩ := two_new w #[.slice A ns.length c, .slice B ss.length d] #[.int .i64 p, .int .i64 q] 24 28
  go_enter Try.func30, Try.ntmps30
  go_upto_region 2 with (go_at_call 72; with_reducible refine (summed_yes ns ss _ _ _ _ _ (HA.out.below (by repeat (first | with_reducible exact Below.refl _ _ | with_reducible assumption | refine below_drewN ?_ _ | with_reducible refine Below.drew ?_ | (refine Below.setCell ?_ (by first | (simp; done) | (simp; omega) | omega) _) | (refine Below.alloc ?_ (by first | (simp; done) | (simp; omega) | omega) _)))) (HB.out.below (by repeat (first | with_reducible exact Below.refl _ _ | with_reducible assumption | refine below_drewN ?_ _ | with_reducible refine Below.drew ?_ | (refine Below.setCell ?_ (by first | (simp; done) | (simp; omega) | omega) _) | (refine Below.alloc ?_ (by first | (simp; done) | (simp; omega) | omega) _)))) HV.out).mono ?_; rintro e v1 ⟨rfl, hB1⟩; rw [← hW0] at hB1; have H1 := Lib.hid ((hB1.block _ z1).trans H1.out); have z1 := Nat.lt_of_lt_of_le z1 hB1.size; have HW : Hid (Below w.heap.size w _) := Lib.hid (below_step HW.out hB1); clear hB1)
  obtain ⟨X1, hX1, H2, z2, H1, z1, HW⟩ : ∃ X, v1.alloc (.cells #[.slice A ns.length c, .slice B ss.length d, .int .i64 ns.sum, .int .i64 ss.sum] 67) = X ∧ Hid (X.heap[v1.heap.size]? = some (.cells #[.slice A ns.length c, .slice B ss.length d, .int .i64 ns.sum, .int .i64 ss.sum] 67 (0, 0))) ∧ v1.heap.size < X.heap.size ∧ Hid (X.heap[w.heap.size + 1]? = some (.cells #[.int .i64 p, .int .i64 q] 28 (0, 0))) ∧ w.heap.size + 1 < X.heap.size ∧ Hid (Below w.heap.size w X) :=
    ⟨_, rfl, Lib.hid (heap_alloc_new _ _), by simp, Lib.hid ((Below.heap_alloc _ _ _ z1).trans H1.out), by simp; omega, Lib.hid (Below.alloc HW.out HW.out.size _)⟩
  rw [hX1]
  clear hX1
  obtain ⟨gx, hgx⟩ : ∃ g, v1.heap.size = g := ⟨_, rfl⟩
  rw [hgx] at H2 z2 ⊢
  clear hgx
  have HK : Hid (∀ W, Below X1.heap.size X1 W → W.cell? ⟨w.heap.size + 1, 0, none⟩ = some (.int .i64 p) ∧ W.cell? ⟨w.heap.size + 1, 1, none⟩ = some (.int .i64 q) ∧ W.cell? ⟨gx, 0, none⟩ = some (.slice A ns.length c) ∧ W.cell? ⟨gx, 1, none⟩ = some (.slice B ss.length d) ∧ W.cell? ⟨gx, 2, none⟩ = some (.int .i64 ns.sum) ∧ W.cell? ⟨gx, 3, none⟩ = some (.int .i64 ss.sum)) := Lib.hid fun W hW =>
    have q1 := (hW.block _ z1).trans H1.out
    have q2 := (hW.block _ z2).trans H2.out
    ⟨blk_cell q1 0 rfl, blk_cell q1 1 rfl, blk_cell q2 0 rfl, blk_cell q2 1 rfl, blk_cell q2 2 rfl, blk_cell q2 3 rfl⟩
  obtain ⟨r0, r1, s0, s1, s2, s3⟩ := HK.out X1 (Below.refl _ _)
  have HNE : Hid (okN p q = (!decide (q < 1) && !decide (1000000 < q) && !decide (p < 0) && !decide (q < p))) := Lib.hid rfl
  rw [HNK.out] at HNE
  have hq := HNE.out
  simp only [Bool.true_eq, Bool.and_eq_true, Bool.not_eq_true', decide_eq_false_iff_not] at hq
  obtain ⟨⟨⟨u1, u2⟩, u3⟩, u4⟩ := hq
  have t1 : decide (q < 1) = false := decide_eq_false u1
  have t2 : decide (1000000 < q) = false := decide_eq_false u2
  have t3 : decide (p < 0) = false := decide_eq_false u3
  have t4 : decide (q < p) = false := decide_eq_false u4
  have q0 : 0 ≤ q ∧ q ≤ 1000000 := by omega
  have p0 : 0 ≤ p ∧ p ≤ 1000000 := by omega
  have n0 := ho.np
  have n1 := ho.nm
  obtain ⟨m0, m1⟩ := mul_bd (a := p) (b := ns.sum) (A := 1000000) (B := 10000) p0.1 p0.2 (by omega) n1
  have hwp : IntKind.i64.wrap (p * ns.sum) = p * ns.sum := IntWalk.i64_in _ (by omega)
  have hpw : IntKind.i64.wrap (1 * 2 ^ ns.length) = ((2 ^ ns.length : Nat) : Int) := pow_i64 ns.length (by omega)
  have hpw2 : IntKind.i64.wrap (2 ^ ns.length) = ((2 ^ ns.length : Nat) : Int) := by rw [← hpw, Int.one_mul]
  have h2n : 2 ^ ns.length ≤ 2 ^ 10 := Nat.pow_le_pow_right (by omega) hn10
  have HPW : Hid (((2 ^ ns.length : Nat) : Int) = (2 : Int) ^ ns.length) := Lib.hid (by simp)
  clear u1 u2 u3 u4 ho
  go_upto_region 8 with (go_at_call 77; refine (count_any ns ss _ _ _ _ _ _ _).mono ?_; rintro e v2 ⟨rfl, hB2⟩; have HB2 := Lib.hid hB2; clear hB2 r0 r1 s0 s1 s2 s3)
  obtain ⟨M, hM⟩ : ∃ M, 2 ^ ns.length = M := ⟨_, rfl⟩
  have HBL : Hid (bsL ns ss p q = bsK ns ss p q M) := Lib.hid (by rw [← hM]; rfl)
  have HM := Lib.hid hM
  have hMI : (2 : Int) ^ ns.length = (M : Int) := by rw [← hM, HPW.out]
  try rw [hMI]
  rw [hM] at h2n
  clear hpw hpw2 hM HPW hMI
  go_loopw [8, 42] (fun v i wr => ∃ k : Nat, k ≤ M ∧ i = .int .i64 k ∧ (∃ A' c', v = .slice A' (bsK ns ss p q k).length c' ∧ Hid (Out wr A' c' (bsK ns ss p q k))) ∧ Hid (Below X1.heap.size X1 wr)) (fun _ i _ => M - (intOf i).toNat)
  case atStart => exact ⟨0, Nat.zero_le _, rfl, ⟨none, 0, rfl, Lib.hid Out.nil_⟩, HB2⟩
  case round =>
    clear HB2
    obtain ⟨k, hk, rfl, ⟨A1, c1, rfl, HOB⟩, HBR⟩ := hrel
    rename World => wr
    by_cases hlt : k < M
    · have hsk : k < 2 ^ ns.length := by rw [HM.out]; exact hlt
      have HSK := Lib.hid hsk
      have HQ2 := Lib.hid (bs_cut ns ss p q k)
      have HQ1 : Hid (cutB ns.length (ofS ns.length k) = true) := Lib.hid (ofM_cut _ _)
      have HN : Hid (bsK ns ss p q (k + 1) = if keptL ns (ofS ns.length k) * q ≤ p * ns.sum then (if btV ss (ofS ns.length k) (bsK ns ss p q k) < 0 then ofS ns.length k else bsK ns ss p q k) else bsK ns ss p q k) := Lib.hid (bs_succ ns ss p q k)
      have HCO : Hid (∀ V : World, Calls Try.prog 78 #[.int .i64 k] V fun e w' => ∃ A' c', e = .returned (.slice A' (ofS ns.length k).length c') ∧ Out w' A' c' (ofS ns.length k) ∧ Below V.heap.size V w') := Lib.hid fun V => cutOf_any k ns.length V (by omega) hsk
      have hkb := (HO.out.kb HQ1.out).1
      have hcl := cutB_len HQ1.out
      obtain ⟨cs, hcs⟩ : ∃ cs, ofS ns.length k = cs := ⟨_, rfl⟩
      obtain ⟨ds, hds⟩ : ∃ ds, bsK ns ss p q k = ds := ⟨_, rfl⟩
      rw [hcs] at HQ1 HN HCO hkb hcl
      rw [hds] at HQ2 HN HOB ⊢
      clear hcs hds hsk
      go_upto_region 11 with (go_at_call 78; refine (HCO.out _).mono ?_; rintro e u ⟨A2, c2, rfl, ho2, hB2⟩; have hB2' : Below wr.heap.size wr u := hB2; have HU := Lib.hid (below_step HBR.out hB2'); have HOB := Lib.hid (HOB.out.below hB2'); have HOC := Lib.hid ho2; clear hB2 hB2' ho2)
      have HKA : Hid (∀ V, Below u.heap.size u V → Calls Try.prog 67 #[.slice A ns.length c, .slice A2 cs.length c2] V fun e w' => e = .returned (.int .i64 (keptL ns cs)) ∧ V = w') := Lib.hid fun V hV => kept_any ns cs A A2 c c2 V (HA.out.below (below_step HW.out (below_step HU.out hV))) (HOC.out.ints.below hV) (by omega) HO.out.nb9 (cutB_mem HQ1.out)
      have HKB : Hid (∀ V, Below u.heap.size u V → Calls Try.prog 79 #[.agg #[.slice A ns.length c, .slice B ss.length d, .int .i64 ns.sum, .int .i64 ss.sum], .slice A2 cs.length c2, .slice A1 ds.length c1] V fun e w' => e = .returned (.int .i64 (btV ss cs ds)) ∧ Below V.heap.size V w') := Lib.hid fun V hV => better_any ns ss cs ds A B A2 A1 c d c2 c1 V HO.out (HB.out.below (below_step HW.out (below_step HU.out hV))) (HOC.out.ints.below hV) (HOB.out.ints.below hV) HQ1.out HQ2.out
      obtain ⟨x, hx⟩ : ∃ x, keptL ns cs = x := ⟨_, rfl⟩
      obtain ⟨b, hb⟩ : ∃ b, btV ss cs ds = b := ⟨_, rfl⟩
      rw [hx] at HKA HN hkb
      rw [hb] at HKB HN
      clear hx hb
      obtain ⟨k0, k1⟩ := hkb
      obtain ⟨y0, y1⟩ := mul_bd (a := x) (b := q) (A := 10000) (B := 1000000) k0 (by omega) q0.1 q0.2
      have hwx : IntKind.i64.wrap (x * q) = x * q := IntWalk.i64_in _ (by omega)
      have c0 : ∀ g : Gw u, g.v.cell? ⟨w.heap.size + 1, 0, none⟩ = some (.int .i64 p) := fun g => (HK.out g.v (below_step HU.out g.h)).1
      have c1' : ∀ g : Gw u, g.v.cell? ⟨w.heap.size + 1, 1, none⟩ = some (.int .i64 q) := fun g => (HK.out g.v (below_step HU.out g.h)).2.1
      have c2' : ∀ g : Gw u, g.v.cell? ⟨gx, 0, none⟩ = some (.slice A ns.length c) := fun g => (HK.out g.v (below_step HU.out g.h)).2.2.1
      have c3' : ∀ g : Gw u, g.v.cell? ⟨gx, 1, none⟩ = some (.slice B ss.length d) := fun g => (HK.out g.v (below_step HU.out g.h)).2.2.2.1
      have c4' : ∀ g : Gw u, g.v.cell? ⟨gx, 2, none⟩ = some (.int .i64 ns.sum) := fun g => (HK.out g.v (below_step HU.out g.h)).2.2.2.2.1
      have c5' : ∀ g : Gw u, g.v.cell? ⟨gx, 3, none⟩ = some (.int .i64 ss.sum) := fun g => (HK.out g.v (below_step HU.out g.h)).2.2.2.2.2
      by_cases hle : x * q ≤ p * ns.sum
      · have d1 : decide (x * q ≤ p * ns.sum) = true := decide_eq_true hle
        by_cases hlb : b < 0
        · have d2 : decide (b < 0) = true := decide_eq_true hlb
          have HE : Hid (bsK ns ss p q (k + 1) = cs) := Lib.hid (by rw [HN.out, if_pos hle, if_pos hlb])
          clear hle hlb
          go_wp2
          refine wp_region_grow (by kernel_rfl) (by kernel_rfl) ?_
          repeat (go_big_quiet_step ((first
            | (go_at_call 67; with_reducible exact Calls.grow_same (HKA.out _ (Gw.h _)))
            | (go_at_call 79; with_reducible exact Calls.grow_of (HKB.out _ (Gw.h _)))
            | fail)))
          refine wpQuiet_nil ?_
          rintro _ ⟨gq, rfl⟩
          have hX : Below u.heap.size u gq.v := gq.h
          generalize gq.v = V1 at hX ⊢
          clear c0 c1' c2' c3' c4' c5'
          go_wp2
          go_roundw
          case rel => exact ⟨k + 1, by omega, by go_num, ⟨A2, c2, by rw [HE.out], Lib.hid (by rw [HE.out]; exact HOC.out.below (by first | with_reducible exact hX | with_reducible exact Below.drew hX | exact below_drewN hX _))⟩, Lib.hid (below_step HU.out (by first | with_reducible exact hX | with_reducible exact Below.drew hX | exact below_drewN hX _))⟩
          case measure => simp [intOf]; omega
        · have d2 : decide (b < 0) = false := decide_eq_false hlb
          have HE : Hid (bsK ns ss p q (k + 1) = ds) := Lib.hid (by rw [HN.out, if_pos hle, if_neg hlb])
          clear hle hlb
          go_wp2
          refine wp_region_grow (by kernel_rfl) (by kernel_rfl) ?_
          repeat (go_big_quiet_step ((first
            | (go_at_call 67; with_reducible exact Calls.grow_same (HKA.out _ (Gw.h _)))
            | (go_at_call 79; with_reducible exact Calls.grow_of (HKB.out _ (Gw.h _)))
            | fail)))
          refine wpQuiet_nil ?_
          rintro _ ⟨gq, rfl⟩
          have hX : Below u.heap.size u gq.v := gq.h
          generalize gq.v = V1 at hX ⊢
          clear c0 c1' c2' c3' c4' c5'
          go_wp2
          go_roundw
          case rel => exact ⟨k + 1, by omega, by go_num, ⟨A1, c1, by rw [HE.out], Lib.hid (by rw [HE.out]; exact HOB.out.below (by first | with_reducible exact hX | with_reducible exact Below.drew hX | exact below_drewN hX _))⟩, Lib.hid (below_step HU.out (by first | with_reducible exact hX | with_reducible exact Below.drew hX | exact below_drewN hX _))⟩
          case measure => simp [intOf]; omega
      · have d1 : decide (x * q ≤ p * ns.sum) = false := decide_eq_false hle
        have HE : Hid (bsK ns ss p q (k + 1) = ds) := Lib.hid (by rw [HN.out, if_neg hle])
        clear hle
        go_wp2
        refine wp_region_grow (by kernel_rfl) (by kernel_rfl) ?_
        repeat (go_big_quiet_step ((first
          | (go_at_call 67; with_reducible exact Calls.grow_same (HKA.out _ (Gw.h _)))
          | (go_at_call 79; with_reducible exact Calls.grow_of (HKB.out _ (Gw.h _)))
          | fail)))
        refine wpQuiet_nil ?_
        rintro _ ⟨gq, rfl⟩
        have hX : Below u.heap.size u gq.v := gq.h
        generalize gq.v = V1 at hX ⊢
        clear c0 c1' c2' c3' c4' c5'
        go_wp2
        go_roundw
        case rel => exact ⟨k + 1, by omega, by go_num, ⟨A1, c1, by rw [HE.out], Lib.hid (by rw [HE.out]; exact HOB.out.below (by first | with_reducible exact hX | with_reducible exact Below.drew hX | exact below_drewN hX _))⟩, Lib.hid (below_step HU.out (by first | with_reducible exact hX | with_reducible exact Below.drew hX | exact below_drewN hX _))⟩
        case measure => simp [intOf]; omega
    · obtain rfl : k = M := by omega
      go_wp2
      go_ret2
      exact ⟨A1, c1, by rw [HBL.out]; rfl, by rw [HBL.out]; exact HOB.out, below_step HW.out HBR.out⟩
end Go.Proofs.Ytolpbbabmcpdkaa
