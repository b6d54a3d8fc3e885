/-
  Contracts: IsNoise and Best of the reference (weigh).
-/
import Derived.Test.YtolpbbabmcpdkaaBest
import Derived.Test.YtolpbbabmcpdkaaRefGain
set_option linter.unusedVariables false
set_option linter.unusedSimpArgs false
namespace Go.Proofs.Ytolpbbabmcpdkaa
open Go.RowKit Go.Shelf

theorem okN_eq (p q : Int) : okN p q = (((decide (1 ≤ q) && decide (q ≤ 1000000)) && decide (0 ≤ p)) && decide (p ≤ q)) := by
  unfold okN
  rw [← decide_not, ← decide_not, ← decide_not, ← decide_not]
  congr 1
  · congr 1
    · congr 1
      · exact decide_eq_decide.2 (by omega)
      · exact decide_eq_decide.2 (by omega)
    · exact decide_eq_decide.2 (by omega)
  · exact decide_eq_decide.2 (by omega)
set_option maxRecDepth 100000 in
theorem isNoise_any (p q : Int) (w : World) :
    Calls Try.prog 60 #[.agg #[.int .i64 p, .int .i64 q]] w fun e w' => e = .returned (.bool (okN p q)) ∧ Below w.heap.size w w' := by
  obtain ⟨t1, h1⟩ : ∃ x, decide (1 ≤ q) = x := ⟨_, rfl⟩
  obtain ⟨t2, h2⟩ : ∃ x, decide (q ≤ 1000000) = x := ⟨_, rfl⟩
  obtain ⟨t3, h3⟩ : ∃ x, decide (0 ≤ p) = x := ⟨_, rfl⟩
  have HR : Hid (okN p q = (((t1 && t2) && t3) && decide (p ≤ q))) := Lib.hid (by rw [okN_eq, h1, h2, h3])
  cases t1 <;> cases t2 <;> cases t3 <;> (
    go_enter Try.func60, Try.ntmps60
    go_wp2
    go_ret
    exact ⟨ret_bool (by rw [HR.out]; rfl), (by repeat (first | with_reducible exact Below.refl _ _ | with_reducible assumption | refine below_drewN ?_ _ | with_reducible refine Below.drew ?_ | (refine Below.setCell ?_ (by first | (simp; done) | (simp; omega) | omega) _) | (refine Below.alloc ?_ (by first | (simp; done) | (simp; omega) | omega) _)))⟩)
theorem cmp_lt {x y : Int} : cmpV x y < 0 ↔ x < y := by unfold cmpV; split <;> (try split) <;> omega
theorem cmp_eq {x y : Int} : cmpV x y = 0 ↔ x = y := by unfold cmpV; split <;> (try split) <;> omega
theorem cm_lex : ∀ xs ys : List Int, xs.length = ys.length → (cmL xs ys < 0 ↔ lexB xs ys = true)
  | [], [], _ => by simp [cmL, lexB]
  | [], _ :: _, h => by simp at h
  | _ :: _, [], h => by simp at h
  | a :: s, b :: t, h => by
    have i := cm_lex s t (by simpa using h)
    rw [cmL, lexB]
    by_cases e : a = b
    · rw [if_pos (cmp_eq.2 e), if_pos e]; exact i
    · rw [if_neg (fun h => e (cmp_eq.1 h)), if_neg e, cmp_lt, decide_eq_true_eq]
theorem bt_iff {ss cs ds : List Int} : btV ss cs ds < 0 ↔ (keptL ss ds < keptL ss cs ∨ (keptL ss cs = keptL ss ds ∧ firstB cs ds = true)) := by
  unfold btV orL
  by_cases e : keptL ss ds = keptL ss cs
  · rw [if_pos (cmp_eq.2 e)]
    unfold orL
    by_cases l : cs.length = ds.length
    · rw [if_pos (cmp_eq.2 (by omega))]
      unfold orL
      have hl := cm_lex cs ds l
      unfold firstB
      rw [if_pos l]
      have z : orL [] = 0 := rfl
      by_cases c0 : cmL cs ds = 0
      · rw [if_pos c0, z]
        constructor
        · intro h; omega
        · rintro (h | ⟨_, h⟩)
          · omega
          · have := hl.2 h; omega
      · rw [if_neg c0]
        constructor
        · intro h; exact Or.inr ⟨e.symm, hl.1 h⟩
        · rintro (h | ⟨_, h⟩)
          · omega
          · exact hl.2 h
    · rw [if_neg (fun h => l (by have := cmp_eq.1 h; omega)), cmp_lt]
      unfold firstB
      rw [if_neg l, decide_eq_true_eq]
      constructor
      · intro h; exact Or.inr ⟨e.symm, by omega⟩
      · rintro (h | ⟨_, h⟩)
        · omega
        · omega
  · rw [if_neg (fun h => e (cmp_eq.1 h)), cmp_lt]
    constructor
    · intro h; exact Or.inl h
    · rintro (h | ⟨h, _⟩)
      · exact h
      · exact absurd h.symm e

set_option maxRecDepth 100000 in
set_option maxHeartbeats 4000000 in
theorem refBest_no (ns ss : List Int) (A B : Option Addr) (c d : Nat) (p q : Int) (w : World) (hA : Ints w A ns) (hB : Ints w B ss) (hl : ns.length ≤ 1000) (hl2 : ss.length ≤ 1000) (hv : odB ns ss = false) :
    Calls Try.prog 31 #[.agg #[.slice A ns.length c, .slice B ss.length d], .agg #[.int .i64 p, .int .i64 q]] w fun e w' => e = .returned (.tuple #[.slice none 0 0, .int .i64 70]) ∧ Below w.heap.size w w' := by
  have HA := Lib.hid hA
  have HB := Lib.hid hB
  have HV := Lib.hid hv
  clear hA hB hv
  obtain ⟨W0, hW0, HW, H0, H1, z0, z1⟩ := two_new w #[.slice A ns.length c, .slice B ss.length d] #[.int .i64 p, .int .i64 q] 24 28
  have HK : Hid (∀ W, Below W0.heap.size W0 W → W.cell? ⟨w.heap.size, 0, none⟩ = some (.slice A ns.length c) ∧ W.cell? ⟨w.heap.size, 1, none⟩ = some (.slice B ss.length d) ∧ W.cell? ⟨w.heap.size + 1, 0, none⟩ = some (.int .i64 p) ∧ W.cell? ⟨w.heap.size + 1, 1, none⟩ = some (.int .i64 q)) := Lib.hid fun W hW =>
    have q0 := (hW.block _ z0).trans H0.out
    have q1 := (hW.block _ z1).trans H1.out
    ⟨blk_cell q0 0 rfl, blk_cell q0 1 rfl, blk_cell q1 0 rfl, blk_cell q1 1 rfl⟩
  obtain ⟨b0, b1, r0, r1⟩ := HK.out W0 (Below.refl _ _)
  go_enter Try.func31, Try.ntmps31
  go_wp2_with (go_at_call 22; with_reducible refine (refValid_any ns ss _ _ _ _ _ (HA.out.below (by repeat (first | with_reducible exact Below.refl _ _ | with_reducible assumption | refine below_drewN ?_ _ | with_reducible refine Below.drew ?_ | (refine Below.setCell ?_ (by first | (simp; done) | (simp; omega) | omega) _) | (refine Below.alloc ?_ (by first | (simp; done) | (simp; omega) | omega) _)))) (HB.out.below (by repeat (first | with_reducible exact Below.refl _ _ | with_reducible assumption | refine below_drewN ?_ _ | with_reducible refine Below.drew ?_ | (refine Below.setCell ?_ (by first | (simp; done) | (simp; omega) | omega) _) | (refine Below.alloc ?_ (by first | (simp; done) | (simp; omega) | omega) _)))) hl hl2).mono ?_; rintro e w1 ⟨rfl, hB1⟩; rw [HV.out]; rw [← hW0] at hB1; have hV : Below W0.heap.size W0 w1 := hB1; clear hB1 b0 b1 r0 r1; obtain ⟨b0, b1, r0, r1⟩ := HK.out w1 hV)
  go_ret2
  exact ⟨rfl, below_step HW.out hV⟩

set_option maxRecDepth 100000 in
set_option maxHeartbeats 4000000 in
theorem refBest_arg (ns ss : List Int) (A B : Option Addr) (c d : Nat) (p q : Int) (w : World) (hA : Ints w A ns) (hB : Ints w B ss) (hl : ns.length ≤ 1000) (hl2 : ss.length ≤ 1000) (hv : odB ns ss = true) (hn : okN p q = false) :
    Calls Try.prog 31 #[.agg #[.slice A ns.length c, .slice B ss.length d], .agg #[.int .i64 p, .int .i64 q]] w fun e w' => e = .returned (.tuple #[.slice none 0 0, .int .i64 2]) ∧ Below w.heap.size w w' := by
  have HA := Lib.hid hA
  have HB := Lib.hid hB
  have HV := Lib.hid hv
  have HNK := Lib.hid hn
  clear hn
  clear hA hB hv
  obtain ⟨W0, hW0, HW, H0, H1, z0, z1⟩ := two_new w #[.slice A ns.length c, .slice B ss.length d] #[.int .i64 p, .int .i64 q] 24 28
  have HK : Hid (∀ W, Below W0.heap.size W0 W → W.cell? ⟨w.heap.size, 0, none⟩ = some (.slice A ns.length c) ∧ W.cell? ⟨w.heap.size, 1, none⟩ = some (.slice B ss.length d) ∧ W.cell? ⟨w.heap.size + 1, 0, none⟩ = some (.int .i64 p) ∧ W.cell? ⟨w.heap.size + 1, 1, none⟩ = some (.int .i64 q)) := Lib.hid fun W hW =>
    have q0 := (hW.block _ z0).trans H0.out
    have q1 := (hW.block _ z1).trans H1.out
    ⟨blk_cell q0 0 rfl, blk_cell q0 1 rfl, blk_cell q1 0 rfl, blk_cell q1 1 rfl⟩
  obtain ⟨b0, b1, r0, r1⟩ := HK.out W0 (Below.refl _ _)
  go_enter Try.func31, Try.ntmps31
  go_wp2_with (first
    | (go_at_call 22; with_reducible refine (refValid_any ns ss _ _ _ _ _ (HA.out.below (by repeat (first | with_reducible exact Below.refl _ _ | with_reducible assumption | refine below_drewN ?_ _ | with_reducible refine Below.drew ?_ | (refine Below.setCell ?_ (by first | (simp; done) | (simp; omega) | omega) _) | (refine Below.alloc ?_ (by first | (simp; done) | (simp; omega) | omega) _)))) (HB.out.below (by repeat (first | with_reducible exact Below.refl _ _ | with_reducible assumption | refine below_drewN ?_ _ | with_reducible refine Below.drew ?_ | (refine Below.setCell ?_ (by first | (simp; done) | (simp; omega) | omega) _) | (refine Below.alloc ?_ (by first | (simp; done) | (simp; omega) | omega) _)))) hl hl2).mono ?_; rintro e w1 ⟨rfl, hB1⟩; rw [HV.out]; rw [← hW0] at hB1; have hV : Below W0.heap.size W0 w1 := hB1; clear hB1 b0 b1 r0 r1; obtain ⟨b0, b1, r0, r1⟩ := HK.out w1 hV)
    | (go_at_call 60; with_reducible refine (isNoise_any p q _).mono ?_; rintro e w2 ⟨rfl, hB2⟩; rw [HNK.out]; have hV2 := below_step hV hB2; clear hV hB2 b0 b1 r0 r1; have hV := hV2; clear hV2; obtain ⟨b0, b1, r0, r1⟩ := HK.out w2 hV)
    | fail)
  go_ret2
  exact ⟨rfl, below_step HW.out hV⟩

set_option maxRecDepth 100000 in
set_option maxHeartbeats 4000000 in
theorem refBest_yes (ns ss : List Int) (A B : Option Addr) (c d : Nat) (p q : Int) (w : World) (hA : Ints w A ns) (hB : Ints w B ss) (hl : ns.length ≤ 1000) (hl2 : ss.length ≤ 1000) (hv : odB ns ss = true) (hn : okN p q = true) :
    Calls Try.prog 31 #[.agg #[.slice A ns.length c, .slice B ss.length d], .agg #[.int .i64 p, .int .i64 q]] w fun e w' => ∃ A' c', e = .returned (.tuple #[.slice A' (bsL ns ss p q).length c', .int .i64 0]) ∧ Out w' A' c' (bsL ns ss p q) ∧ Below w.heap.size w w' := by
  have HA := Lib.hid hA
  have HB := Lib.hid hB
  have HV := Lib.hid hv
  have ho := od_of hv
  have hn10 := ho.le
  have HO := Lib.hid ho
  have HNK := Lib.hid hn
  have hq := hn
  rw [okN_eq] at hq
  simp only [Bool.and_eq_true, decide_eq_true_eq] at hq
  obtain ⟨⟨⟨u1, u2⟩, u3⟩, u4⟩ := hq
  have q0 : 0 ≤ q ∧ q ≤ 1000000 := by omega
  have p0 : 0 ≤ p ∧ p ≤ 1000000 := by omega
  have n0 := ho.np
  have n1 := ho.nm
  obtain ⟨m0, m1⟩ := mul_bd (a := p) (b := ns.sum) (A := 1000000) (B := 10000) p0.1 p0.2 (by omega) n1
  have hwp : IntKind.i64.wrap (p * ns.sum) = p * ns.sum := IntWalk.i64_in _ (by omega)
  have hpw : IntKind.i64.wrap (1 * 2 ^ ns.length) = ((2 ^ ns.length : Nat) : Int) := pow_i64 ns.length (by omega)
  have hpw2 : IntKind.i64.wrap (2 ^ ns.length) = ((2 ^ ns.length : Nat) : Int) := by rw [← hpw, Int.one_mul]
  have h2n : 2 ^ ns.length ≤ 2 ^ 10 := Nat.pow_le_pow_right (by omega) hn10
  have HPW : Hid (((2 ^ ns.length : Nat) : Int) = (2 : Int) ^ ns.length) := Lib.hid (by simp)
  clear u1 u2 u3 u4 ho hn
  clear hA hB hv
  obtain ⟨W0, hW0, HW, H0, H1, z0, z1⟩ := two_new w #[.slice A ns.length c, .slice B ss.length d] #[.int .i64 p, .int .i64 q] 24 28
  have HK : Hid (∀ W, Below W0.heap.size W0 W → W.cell? ⟨w.heap.size, 0, none⟩ = some (.slice A ns.length c) ∧ W.cell? ⟨w.heap.size, 1, none⟩ = some (.slice B ss.length d) ∧ W.cell? ⟨w.heap.size + 1, 0, none⟩ = some (.int .i64 p) ∧ W.cell? ⟨w.heap.size + 1, 1, none⟩ = some (.int .i64 q)) := Lib.hid fun W hW =>
    have q0 := (hW.block _ z0).trans H0.out
    have q1 := (hW.block _ z1).trans H1.out
    ⟨blk_cell q0 0 rfl, blk_cell q0 1 rfl, blk_cell q1 0 rfl, blk_cell q1 1 rfl⟩
  obtain ⟨b0, b1, r0, r1⟩ := HK.out W0 (Below.refl _ _)
  go_enter Try.func31, Try.ntmps31
  go_upto_region 7 with (first
    | (go_at_call 22; with_reducible refine (refValid_any ns ss _ _ _ _ _ (HA.out.below (by repeat (first | with_reducible exact Below.refl _ _ | with_reducible assumption | refine below_drewN ?_ _ | with_reducible refine Below.drew ?_ | (refine Below.setCell ?_ (by first | (simp; done) | (simp; omega) | omega) _) | (refine Below.alloc ?_ (by first | (simp; done) | (simp; omega) | omega) _)))) (HB.out.below (by repeat (first | with_reducible exact Below.refl _ _ | with_reducible assumption | refine below_drewN ?_ _ | with_reducible refine Below.drew ?_ | (refine Below.setCell ?_ (by first | (simp; done) | (simp; omega) | omega) _) | (refine Below.alloc ?_ (by first | (simp; done) | (simp; omega) | omega) _)))) hl hl2).mono ?_; rintro e w1 ⟨rfl, hB1⟩; rw [HV.out]; rw [← hW0] at hB1; have hV : Below W0.heap.size W0 w1 := hB1; clear hB1 b0 b1 r0 r1; obtain ⟨b0, b1, r0, r1⟩ := HK.out w1 hV)
    | (go_at_call 60; with_reducible refine (isNoise_any p q _).mono ?_; rintro e w2 ⟨rfl, hB2⟩; rw [HNK.out]; have hV2 := below_step hV hB2; clear hV hB2 b0 b1 r0 r1; have hV := hV2; clear hV2; obtain ⟨b0, b1, r0, r1⟩ := HK.out w2 hV)
    | fail)
  have HB2 := Lib.hid hV
  obtain ⟨M, hM⟩ : ∃ M, 2 ^ ns.length = M := ⟨_, rfl⟩
  have HBL : Hid (bsL ns ss p q = bsK ns ss p q M) := Lib.hid (by rw [← hM]; rfl)
  have HM := Lib.hid hM
  have hMI : (2 : Int) ^ ns.length = (M : Int) := by rw [← hM, HPW.out]
  try rw [hMI]
  rw [hM] at h2n
  clear hpw hpw2 hM HPW hMI
  clear b0 b1 r0 r1 hV
  go_loopw [6, 21] (fun v i wr => ∃ k : Nat, k ≤ M ∧ i = .int .i64 k ∧ (∃ A' c', v = .slice A' (bsK ns ss p q k).length c' ∧ Hid (Out wr A' c' (bsK ns ss p q k))) ∧ Hid (Below W0.heap.size W0 wr)) (fun _ i _ => M - (intOf i).toNat)
  case atStart => exact ⟨0, Nat.zero_le _, rfl, ⟨none, 0, rfl, Lib.hid Out.nil_⟩, HB2⟩
  case round =>
    clear HB2
    obtain ⟨k, hk, rfl, ⟨A1, c1, rfl, HOB⟩, HBR⟩ := hrel
    rename World => wr
    by_cases hlt : k < M
    · have hsk : k < 2 ^ ns.length := by rw [HM.out]; exact hlt
      have HSK := Lib.hid hsk
      have HQ2 := Lib.hid (bs_cut ns ss p q k)
      have HQ1 : Hid (cutB ns.length (ofS ns.length k) = true) := Lib.hid (ofM_cut _ _)
      have HN : Hid (bsK ns ss p q (k + 1) = if keptL ns (ofS ns.length k) * q ≤ p * ns.sum then (if btV ss (ofS ns.length k) (bsK ns ss p q k) < 0 then ofS ns.length k else bsK ns ss p q k) else bsK ns ss p q k) := Lib.hid (bs_succ ns ss p q k)
      have HCO : Hid (∀ V, Below W0.heap.size W0 V → Calls Try.prog 80 #[.agg #[.slice A ns.length c, .slice B ss.length d], .int .i64 k] V fun e w' => ∃ A' c', e = .returned (.slice A' (ofS ns.length k).length c') ∧ Out w' A' c' (ofS ns.length k) ∧ Below V.heap.size V w') := Lib.hid fun V hV => (of_any ns ss A B c d k V (by omega) (Nat.lt_of_lt_of_le hsk (Nat.pow_le_pow_right (by omega) (by omega)))).mono fun e w' ⟨A', c', ys, he, ho, hb, hy⟩ => by
        have hy' := hy.out
        subst hy'
        exact ⟨A', c', he, ho, hb⟩
      have hkb := (HO.out.kb HQ1.out).1
      have hcl := cutB_len HQ1.out
      obtain ⟨cs, hcs⟩ : ∃ cs, ofS ns.length k = cs := ⟨_, rfl⟩
      obtain ⟨ds, hds⟩ : ∃ ds, bsK ns ss p q k = ds := ⟨_, rfl⟩
      rw [hcs] at HQ1 HN HCO hkb hcl
      rw [hds] at HQ2 HN HOB ⊢
      clear hcs hds hsk
      have hlen := Lib.hid HO.out.len
      have hds := cutB_len HQ2.out
      obtain ⟨b0, b1, r0, r1⟩ := HK.out wr HBR.out
      go_upto_region 10 with (go_at_call 80; with_reducible refine (HCO.out _ (by first | with_reducible exact HBR.out | with_reducible exact Below.drew HBR.out | exact below_drewN HBR.out _)).mono ?_; rintro e u ⟨A2, c2, rfl, ho2, hB2⟩; have hB2' : Below wr.heap.size wr u := hB2; have HU := Lib.hid (below_step HBR.out hB2'); have HOB := Lib.hid (HOB.out.below hB2'); have HOC := Lib.hid ho2; clear hB2 hB2' ho2 b0 b1 r0 r1)
      have HKA : Hid (∀ V, Below u.heap.size u V → Calls Try.prog 69 #[.slice A ns.length c, .slice A2 cs.length c2] V fun e w' => e = .returned (.int .i64 (keptL ns cs)) ∧ V = w') := Lib.hid fun V hV => refkept_any ns cs A A2 c c2 V (HA.out.below (below_step HW.out (below_step HU.out hV))) (HOC.out.ints.below hV) (by omega) HO.out.nb9 (cutB_mem HQ1.out)
      have HKS : Hid (∀ V, Below u.heap.size u V → Calls Try.prog 69 #[.slice B ss.length d, .slice A2 cs.length c2] V fun e w' => e = .returned (.int .i64 (keptL ss cs)) ∧ V = w') := Lib.hid fun V hV => refkept_any ss cs B A2 d c2 V (HB.out.below (below_step HW.out (below_step HU.out hV))) (HOC.out.ints.below hV) (by omega) HO.out.sb9 (by rw [← hlen.out]; exact cutB_mem HQ1.out)
      have HKD : Hid (∀ V, Below u.heap.size u V → Calls Try.prog 69 #[.slice B ss.length d, .slice A1 ds.length c1] V fun e w' => e = .returned (.int .i64 (keptL ss ds)) ∧ V = w') := Lib.hid fun V hV => refkept_any ss ds B A1 d c1 V (HB.out.below (below_step HW.out (below_step HU.out hV))) (HOB.out.ints.below hV) (by omega) HO.out.sb9 (by rw [← hlen.out]; exact cutB_mem HQ2.out)
      have HTO : Hid (∀ V, Below u.heap.size u V → Calls Try.prog 58 #[.slice A ns.length c] V fun e w' => e = .returned (.int .i64 ns.sum) ∧ V = w') := Lib.hid fun V hV => total_any ns A c V (HA.out.below (below_step HW.out (below_step HU.out hV))) hl HO.out.nb9
      have HFI : Hid (∀ V, Below u.heap.size u V → Calls Try.prog 81 #[.slice A2 cs.length c2, .slice A1 ds.length c1] V fun e w' => e = .returned (.bool (firstB cs ds)) ∧ Below V.heap.size V w') := Lib.hid fun V hV => (first_any cs ds A2 A1 c2 c1 V (HOC.out.ints.below hV) (HOB.out.ints.below hV) (by omega) (by omega)).mono fun e w' ⟨he, n, hn⟩ => ⟨he, hn ▸ below_drewN (Below.refl _ _) n⟩
      have HBT := Lib.hid (bt_iff (ss := ss) (cs := cs) (ds := ds))
      obtain ⟨x, hx⟩ : ∃ x, keptL ns cs = x := ⟨_, rfl⟩
      obtain ⟨y, hy⟩ : ∃ y, keptL ss cs = y := ⟨_, rfl⟩
      obtain ⟨z, hz⟩ : ∃ z, keptL ss ds = z := ⟨_, rfl⟩
      obtain ⟨f, hf⟩ : ∃ f, firstB cs ds = f := ⟨_, rfl⟩
      obtain ⟨b, hb⟩ : ∃ b, btV ss cs ds = b := ⟨_, rfl⟩
      rw [hx] at HKA HN hkb
      rw [hy] at HKS HBT
      rw [hz] at HKD HBT
      rw [hf] at HFI HBT
      rw [hb] at HN HBT
      clear hx hy hz hf hb hlen
      obtain ⟨k0, k1⟩ := hkb
      obtain ⟨y0, y1⟩ := mul_bd (a := x) (b := q) (A := 10000) (B := 1000000) k0 (by omega) q0.1 q0.2
      have hwx : IntKind.i64.wrap (x * q) = x * q := IntWalk.i64_in _ (by omega)
      have c0' : ∀ g : Gw u, g.v.cell? ⟨w.heap.size, 0, none⟩ = some (.slice A ns.length c) := fun g => (HK.out g.v (below_step HU.out g.h)).1
      have c1' : ∀ g : Gw u, g.v.cell? ⟨w.heap.size, 1, none⟩ = some (.slice B ss.length d) := fun g => (HK.out g.v (below_step HU.out g.h)).2.1
      have c2' : ∀ g : Gw u, g.v.cell? ⟨w.heap.size + 1, 0, none⟩ = some (.int .i64 p) := fun g => (HK.out g.v (below_step HU.out g.h)).2.2.1
      have c3' : ∀ g : Gw u, g.v.cell? ⟨w.heap.size + 1, 1, none⟩ = some (.int .i64 q) := fun g => (HK.out g.v (below_step HU.out g.h)).2.2.2
      by_cases hle : x * q ≤ p * ns.sum
      · have d1 : decide (p * ns.sum < x * q) = false := decide_eq_false (by omega)
        have HN2 : Hid (bsK ns ss p q (k + 1) = if b < 0 then cs else ds) := Lib.hid (by rw [HN.out, if_pos hle])
        clear hle
        go_wp2
        refine wp_region_grow (by kernel_rfl) (by kernel_rfl) ?_
        repeat (go_big_quiet_step ((first
          | (go_at_call 69; with_reducible exact Calls.grow_same (HKA.out _ (Gw.h _)))
          | (go_at_call 58; with_reducible exact Calls.grow_same (HTO.out _ (Gw.h _)))
          | fail)))
        refine wpQuiet_nil ?_
        rintro _ ⟨gq, rfl⟩
        have hX : Below u.heap.size u gq.v := gq.h
        generalize gq.v = V1 at hX ⊢
        clear c0' c1' c2' c3'
        have c0' : ∀ g : Gw V1, g.v.cell? ⟨w.heap.size, 0, none⟩ = some (.slice A ns.length c) := fun g => (HK.out g.v (below_step (below_step HU.out hX) g.h)).1
        have c1' : ∀ g : Gw V1, g.v.cell? ⟨w.heap.size, 1, none⟩ = some (.slice B ss.length d) := fun g => (HK.out g.v (below_step (below_step HU.out hX) g.h)).2.1
        have c2' : ∀ g : Gw V1, g.v.cell? ⟨w.heap.size + 1, 0, none⟩ = some (.int .i64 p) := fun g => (HK.out g.v (below_step (below_step HU.out hX) g.h)).2.2.1
        have c3' : ∀ g : Gw V1, g.v.cell? ⟨w.heap.size + 1, 1, none⟩ = some (.int .i64 q) := fun g => (HK.out g.v (below_step (below_step HU.out hX) g.h)).2.2.2
        go_wp2
        refine wp_region_grow (by kernel_rfl) (by kernel_rfl) ?_
        repeat (go_big_quiet_step ((first
          | (go_at_call 69; with_reducible exact Calls.grow_same (HKS.out _ (below_step hX (Gw.h _))))
          | (go_at_call 69; with_reducible exact Calls.grow_same (HKD.out _ (below_step hX (Gw.h _))))
          | fail)))
        refine wpQuiet_nil ?_
        rintro _ ⟨gq, rfl⟩
        have hX2 : Below u.heap.size u gq.v := below_step hX gq.h
        clear hX
        have hX := hX2
        clear hX2
        generalize gq.v = V2 at hX ⊢
        clear c0' c1' c2' c3'
        by_cases hgt : z < y
        · have d2 : decide (z < y) = true := decide_eq_true hgt
          have HE : Hid (bsK ns ss p q (k + 1) = cs) := Lib.hid (by rw [HN2.out, if_pos (HBT.out.2 (Or.inl hgt))])
          clear hgt
          go_wp2
          go_roundw
          case rel => exact ⟨k + 1, by omega, by go_num, ⟨A2, c2, by rw [HE.out], Lib.hid (by rw [HE.out]; exact HOC.out.below (by first | with_reducible exact hX | with_reducible exact Below.drew hX | exact below_drewN hX _))⟩, Lib.hid (below_step HU.out (by first | with_reducible exact hX | with_reducible exact Below.drew hX | exact below_drewN hX _))⟩
          case measure => simp [intOf]; omega
        · have d2 : decide (z < y) = false := decide_eq_false hgt
          by_cases heq : y = z
          · subst heq
            have d3 : (y == y) = true := by simp
            cases f with
            | true =>
              have HE : Hid (bsK ns ss p q (k + 1) = cs) := Lib.hid (by rw [HN2.out, if_pos (HBT.out.2 (Or.inr ⟨rfl, rfl⟩))])
              go_wp2_with (go_at_call 81; with_reducible refine (HFI.out _ hX).mono ?_; rintro e u5 ⟨rfl, hb5⟩; have hX2 := below_step hX hb5; clear hX hb5; have hX := hX2; clear hX2)
              go_roundw
              case rel => exact ⟨k + 1, by omega, by go_num, ⟨A2, c2, by rw [HE.out], Lib.hid (by rw [HE.out]; exact HOC.out.below (by first | with_reducible exact hX | with_reducible exact Below.drew hX | exact below_drewN hX _))⟩, Lib.hid (below_step HU.out (by first | with_reducible exact hX | with_reducible exact Below.drew hX | exact below_drewN hX _))⟩
              case measure => simp [intOf]; omega
            | false =>
              have HE : Hid (bsK ns ss p q (k + 1) = ds) := Lib.hid (by rw [HN2.out, if_neg (fun h => (HBT.out.1 h).elim (fun h => hgt h) (fun h => by cases h.2))])
              go_wp2_with (go_at_call 81; with_reducible refine (HFI.out _ hX).mono ?_; rintro e u5 ⟨rfl, hb5⟩; have hX2 := below_step hX hb5; clear hX hb5; have hX := hX2; clear hX2)
              go_roundw
              case rel => exact ⟨k + 1, by omega, by go_num, ⟨A1, c1, by rw [HE.out], Lib.hid (by rw [HE.out]; exact HOB.out.below (by first | with_reducible exact hX | with_reducible exact Below.drew hX | exact below_drewN hX _))⟩, Lib.hid (below_step HU.out (by first | with_reducible exact hX | with_reducible exact Below.drew hX | exact below_drewN hX _))⟩
              case measure => simp [intOf]; omega
          · have d3 : (y == z) = false := by simp; exact heq
            have d4 : decide (y = z) = false := decide_eq_false heq
            have HE : Hid (bsK ns ss p q (k + 1) = ds) := Lib.hid (by rw [HN2.out, if_neg (fun h => by rcases HBT.out.1 h with h | ⟨h, _⟩ <;> omega)])
            go_wp2
            go_roundw
            case rel => exact ⟨k + 1, by omega, by go_num, ⟨A1, c1, by rw [HE.out], Lib.hid (by rw [HE.out]; exact HOB.out.below (by first | with_reducible exact hX | with_reducible exact Below.drew hX | exact below_drewN hX _))⟩, Lib.hid (below_step HU.out (by first | with_reducible exact hX | with_reducible exact Below.drew hX | exact below_drewN hX _))⟩
            case measure => simp [intOf]; omega
      · have d1 : decide (p * ns.sum < x * q) = true := decide_eq_true (by omega)
        have HE : Hid (bsK ns ss p q (k + 1) = ds) := Lib.hid (by rw [HN.out, if_neg hle])
        clear hle
        go_wp2
        refine wp_region_grow (by kernel_rfl) (by kernel_rfl) ?_
        repeat (go_big_quiet_step ((first
          | (go_at_call 69; with_reducible exact Calls.grow_same (HKA.out _ (Gw.h _)))
          | (go_at_call 58; with_reducible exact Calls.grow_same (HTO.out _ (Gw.h _)))
          | fail)))
        refine wpQuiet_nil ?_
        rintro _ ⟨gq, rfl⟩
        have hX : Below u.heap.size u gq.v := gq.h
        generalize gq.v = V1 at hX ⊢
        clear c0' c1' c2' c3'
        go_wp2
        go_roundw
        case rel => exact ⟨k + 1, by omega, by go_num, ⟨A1, c1, by rw [HE.out], Lib.hid (by rw [HE.out]; exact HOB.out.below (by first | with_reducible exact hX | with_reducible exact Below.drew hX | exact below_drewN hX _))⟩, Lib.hid (below_step HU.out (by first | with_reducible exact hX | with_reducible exact Below.drew hX | exact below_drewN hX _))⟩
        case measure => simp [intOf]; omega
    · obtain rfl : k = M := by omega
      go_wp2
      go_ret2
      exact ⟨A1, c1, by rw [HBL.out]; rfl, by rw [HBL.out]; exact HOB.out, below_step HW.out HBR.out⟩
end Go.Proofs.Ytolpbbabmcpdkaa
