/-
  Weak duality of weights and lines, and the numbers of the least cost; contracts: Weights (track), Less (firnref05).
-/
import Derived.Test.YtoilbgngefleiaaWeights
import Derived.Test.YtoilbgngefleiaaPrvM
import Derived.Test.YtoilbgngefleiaaRefCost
namespace Go.Proofs.Ytoilbgngefleiaa
open Go.RowKit Go.Shelf
set_option linter.unusedVariables false
set_option linter.unusedSimpArgs false

theorem costI_range (ms : List (Int × Int)) (a b d : Int) : costI ms a b d = sm (fun i => absI (rsI a b d (ms.getD i (0, 0)))) (List.range ms.length) := by
  rw [← cost_sm, sm_getD _ ms (0, 0)]
theorem dual_sum {ms : List (Int × Int)} {ws : List Int} (hl : ws.length = ms.length) (h1 : ws.sum = 0) (h2 : turL ms ws = 0) (a b d : Int) :
    sm (fun i => ws.getD i 0 * rsI a b d (ms.getD i (0, 0))) (List.range ms.length) = upL ms ws * d := by
  have e1 : sm (fun i => ws.getD i 0 * 1) (List.range ms.length) = 0 := by
    rw [← hl]
    have := sm_getD (fun z : Int => z * 1) ws 0
    rw [← this, ← h1]; unfold sm; simp
  have e2 : sm (fun i => ws.getD i 0 * (ms.getD i (0, 0)).1) (List.range ms.length) = 0 := by have := h2; unfold turL at this; rw [hl] at this; exact this
  have e3 : sm (fun i => ws.getD i 0 * (ms.getD i (0, 0)).2) (List.range ms.length) = upL ms ws := by rw [upL, hl]
  have e : sm (fun i => ws.getD i 0 * rsI a b d (ms.getD i (0, 0))) (List.range ms.length) = d * sm (fun i => ws.getD i 0 * (ms.getD i (0, 0)).2) (List.range ms.length) - a * sm (fun i => ws.getD i 0 * (ms.getD i (0, 0)).1) (List.range ms.length) - b * sm (fun i => ws.getD i 0 * 1) (List.range ms.length) := by
    rw [← sm_mul, ← sm_mul, ← sm_mul, ← sm_sub, ← sm_sub]
    exact sm_congr fun i _ => by unfold rsI; grind
  rw [e, e1, e2, e3]; grind
theorem mul_abs_le {w m r : Int} (h0 : -m ≤ w) (h1 : w ≤ m) : w * r ≤ m * absI r := by
  rcases Int.le_total 0 r with h | h
  · rw [abs_of h]; exact Int.mul_le_mul_of_nonneg_right h1 h
  · rw [abs_neg' h]
    have := Int.mul_nonneg (show 0 ≤ w + m by omega) (show 0 ≤ -r by omega)
    grind
/-- Weak duality. -/
theorem weak {ms : List (Int × Int)} {ws : List Int} {m : Int} (hl : ws.length = ms.length) (h1 : ws.sum = 0) (h2 : turL ms ws = 0) (hb : ∀ z ∈ ws, -m ≤ z ∧ z ≤ m) (a b d : Int) : upL ms ws * d ≤ m * costI ms a b d := by
  rw [← dual_sum hl h1 h2 a b d, costI_range, ← sm_mul]
  refine sm_le fun i hi => ?_
  have hi := List.mem_range.1 hi
  have := hb _ (getD_mem' 0 (show i < ws.length by omega))
  exact mul_abs_le this.1 this.2
theorem weak_cost {ms : List (Int × Int)} {ws : List Int} {m a b d : Int} (hC : Cert ms ws m a b d) (hd : 0 < d) (a' b' d' : Int) (hd' : 0 < d') : costI ms a b d * d' ≤ costI ms a' b' d' * d := by
  have h1 := weak hC.len hC.sum hC.tur hC.bd a' b' d'
  have h2 := hC.up
  have hm := hC.one.1
  rw [show sumA (ms.map (rsI a b d)) = costI ms a b d from rfl] at h2
  have h3 := Int.mul_le_mul_of_nonneg_right h1 (Int.le_of_lt hd)
  refine Int.le_of_mul_le_mul_left ?_ (show 0 < m by omega)
  generalize costI ms a b d = x at *
  generalize costI ms a' b' d' = y at *
  generalize upL ms ws = u at *
  have e1 : m * (x * d') = u * d' * d := by grind
  have e2 : m * (y * d) = m * y * d := by grind
  omega
theorem weak_prove {ms : List (Int × Int)} {ws : List Int} {m n d a b D : Int} (h : prB ms ws m n d = true) (hD : 0 < D) : n * D ≤ costI ms a b D * d := by
  simp only [prB, Bool.and_eq_true, decide_eq_true_eq] at h
  obtain ⟨_, hA, h1, h2, h3⟩ := h
  obtain ⟨p1, p2, p3, p4, p5⟩ := pr_parts hA
  have h4 := weak p2 h1 h2 p5 a b D
  refine Int.le_of_mul_le_mul_left ?_ (show 0 < m by omega)
  have h5 := Int.mul_le_mul_of_nonneg_right h3 (Int.le_of_lt hD)
  have h6 := Int.mul_le_mul_of_nonneg_right h4 (show 0 ≤ d by omega)
  grind
theorem low_cross2 {c d n m : Int} (hd : 0 < d) (h : n * d ≤ c * m) : n * lowD c d ≤ lowN c d * m := by
  obtain ⟨g, hg, e1, e2⟩ := low_parts c d hd
  refine Int.le_of_mul_le_mul_right ?_ hg
  generalize lowN c d = x at *
  generalize lowD c d = y at *
  rw [e1, e2] at h
  grind
theorem cert_prove {ms : List (Int × Int)} {ws : List Int} {m a b d : Int} (hv : viP ms = true) (hC : Cert ms ws m a b d) (hd : 0 < d) (h1 : lowD (costI ms a b d) d ≤ 10000) (h2 : 0 ≤ lowN (costI ms a b d) d ∧ lowN (costI ms a b d) d ≤ 1000000000) :
    prB ms ws m (lowN (costI ms a b d) d) (lowD (costI ms a b d) d) = true ∧ prE ms ws m (lowN (costI ms a b d) d) (lowD (costI ms a b d) d) = 0 := by
  have hA : prA ms ws m (lowN (costI ms a b d) d) (lowD (costI ms a b d) d) = true := prA_mk hC.one hC.len ⟨(lowD_bd hd).1, h1⟩ h2 (List.all_eq_true.2 fun z hz => by have := hC.bd z hz; simp [inB]; exact this)
  obtain ⟨q1, q2⟩ := pr_yes (n := lowN (costI ms a b d) d) (d := lowD (costI ms a b d) d) hv hA
  refine ⟨?_, q2.symm⟩
  rw [← q1]
  refine decide_eq_true ⟨hC.sum, hC.tur, ?_⟩
  obtain ⟨g, hg, e1, e2⟩ := low_parts (costI ms a b d) d hd
  have hu := hC.up
  rw [show sumA (ms.map (rsI a b d)) = costI ms a b d from rfl] at hu
  refine Int.le_of_mul_le_mul_right ?_ hg
  generalize lowN (costI ms a b d) d = x at *
  generalize lowD (costI ms a b d) d = y at *
  rw [e1] at hu
  have : upL ms ws * (y * g) = m * (x * g) := by rw [← e2]; exact hu
  grind
/-- The numbers of the least cost. -/
theorem che_small {ms : List (Int × Int)} (hv : viP ms = true) : (-2000 ≤ (cheL ms).1 ∧ (cheL ms).1 ≤ 2000) ∧ (1 ≤ (cheL ms).2.2 ∧ (cheL ms).2.2 ≤ 200) ∧ (-400000 ≤ (cheL ms).2.1 ∧ (cheL ms).2.1 ≤ 400000) := by
  obtain ⟨_, hpt, _⟩ := vi_parts hv
  obtain ⟨x, hx, e⟩ := che_pair hv
  have h2 := pairs_mem hx
  have := th_bd (hpt _ h2.1) (hpt _ h2.2.1) h2.2.2
  rw [← e]
  exact this
theorem small_cost {ms : List (Int × Int)} (hv : viP ms = true) {a b d : Int} (ha : -2000 ≤ a ∧ a ≤ 2000) (hb : -400000 ≤ b ∧ b ≤ 400000) (hd : 1 ≤ d ∧ d ≤ 200) : 0 ≤ costI ms a b d ∧ costI ms a b d ≤ 9600000 := by
  obtain ⟨⟨_, hn⟩, hpt, _⟩ := vi_parts hv
  rw [costI_range]
  refine ⟨sm_nonneg fun _ _ => abs_nonneg _, ?_⟩
  have u : sm (fun i => absI (rsI a b d (ms.getD i (0, 0)))) (List.range ms.length) ≤ sm (fun _ => (800000 : Int) * 1) (List.range ms.length) := sm_le fun i hi => by
    have := rs_small ha hb hd (hpt _ (getD_mem' (0, 0) (List.mem_range.1 hi)))
    unfold absI; omega
  rw [sm_mul, sm_one] at u
  omega
theorem lea_small {ms : List (Int × Int)} (hv : viP ms = true) : (0 ≤ (cosT ms (cheL ms)).1 ∧ (cosT ms (cheL ms)).1 ≤ 9600000) ∧ (1 ≤ (cosT ms (cheL ms)).2 ∧ (cosT ms (cheL ms)).2 ≤ 200) := by
  obtain ⟨ha, hd, hb⟩ := che_small hv
  have hc := small_cost hv ha hb hd
  have h1 := lowD_bd (n := costI ms (cheL ms).1 (cheL ms).2.1 (cheL ms).2.2) (d := (cheL ms).2.2) (by omega)
  have h2 := lowN_abs (n := costI ms (cheL ms).1 (cheL ms).2.1 (cheL ms).2.2) (d := (cheL ms).2.2) (M := 9600000) (by omega) (by omega) hc.2
  have h3 : 0 ≤ lowN (costI ms (cheL ms).1 (cheL ms).2.1 (cheL ms).2.2) (cheL ms).2.2 := Int.ediv_nonneg hc.1 (Int.natCast_nonneg _)
  unfold cosT
  exact ⟨⟨h3, h2.2⟩, h1.1, Int.le_trans h1.2 hd.2⟩
theorem che_lnB {ms : List (Int × Int)} (hv : viP ms = true) : lnB (cheL ms).1 (cheL ms).2.1 (cheL ms).2.2 = true := by
  obtain ⟨ha, hd, hb⟩ := che_small hv
  exact ln_ok (decide_eq_true (by omega)) (decide_eq_true (by omega)) (by omega)
theorem che_cos {ms : List (Int × Int)} (hv : viP ms = true) : ckE ms (cheL ms).1 (cheL ms).2.1 (cheL ms).2.2 = 0 ∧ cosRV ms (cheL ms).1 (cheL ms).2.1 (cheL ms).2.2 = cosT ms (cheL ms) := by
  have h0 : ckE ms (cheL ms).1 (cheL ms).2.1 (cheL ms).2.2 = 0 := by rw [ckE, hv, che_lnB hv]; rfl
  exact ⟨h0, by rw [cosRV, if_pos h0, cosT]⟩

theorem cert_there {ms : List (Int × Int)} (hv : viP ms = true) : ∃ ws k, Cert ms ws k (cheL ms).1 (cheL ms).2.1 (cheL ms).2.2 := by
  obtain ⟨⟨hn1, hn2⟩, hpt, _⟩ := vi_parts hv
  have hd := (che_small hv).2.1.1
  have hX : ∀ q ∈ ms, -100 ≤ q.1 ∧ q.1 ≤ 100 := fun q hq => (pt_parts (hpt q hq)).1
  obtain ⟨fs, hF⟩ : ∃ fs, OnL ms (cheL ms).1 (cheL ms).2.1 (cheL ms).2.2 fs := by
    refine ⟨(zeroL (ms.map (rsI (cheL ms).1 (cheL ms).2.1 (cheL ms).2.2)) ms.length).mergeSort (fun x y => decide ((ptK ms x).1 ≤ (ptK ms y).1)), List.mergeSort_perm _ _, ?_⟩
    have hp := List.pairwise_mergeSort (le := fun x y : Int => decide ((ptK ms x).1 ≤ (ptK ms y).1)) (fun a b c h1 h2 => by simp only [decide_eq_true_eq] at *; omega) (fun a b => by simp only [Bool.or_eq_true, decide_eq_true_eq]; omega) (zeroL (ms.map (rsI (cheL ms).1 (cheL ms).2.1 (cheL ms).2.2)) ms.length)
    intro i j hij hj
    rcases Nat.lt_or_eq_of_le hij with h | h
    · have := List.pairwise_iff_getElem.1 hp i j (by omega) hj h
      rw [decide_eq_true_eq] at this
      rw [List.getD_eq_getElem?_getD, List.getElem?_eq_getElem (by omega), List.getD_eq_getElem?_getD, List.getElem?_eq_getElem hj]
      exact this
    · rw [h]; exact Int.le_refl _
  obtain ⟨h0, h1, h2⟩ := best_cert (show 0 < (cheL ms).2.2 by omega) (che_best hv) hF (che_two hv)
  exact ⟨_, _, cert_of hF hn2 hX rfl rfl rfl rfl h0 h1 h2 rfl rfl rfl⟩

set_option maxRecDepth 100000 in
set_option maxHeartbeats 1000000 in
theorem weights_no (ms : List (Int × Int)) (A : Option Addr) (c : Nat) (w : World) (h : Clk w A c ms) (hv : viP ms = false) :
    Calls Try.prog 41 #[.slice A ms.length c] w fun e w' => e = .returned (.tuple #[.slice none 0 0, .int .i64 0, .int .i64 50]) ∧ Below w.heap.size w w' := by
  have HV := Lib.hid hv
  have H := Lib.hid h
  clear hv h
  go_enter Try.func41, Try.ntmps41
  go_wp2_with (go_at_call 19; refine (valid_any ms A c _ H.out.marks H.out.len).mono ?_; rintro e w1 ⟨rfl, hB1⟩; rw [HV.out])
  exact bodyPost_ret (v := .tuple #[.slice none 0 0, .int .i64 0, .int .i64 50]) (by simp [results, Try.results41, go_sem]) rfl ⟨rfl, hB1⟩
set_option maxRecDepth 100000 in
set_option maxHeartbeats 1000000 in
theorem weights_yes (ms : List (Int × Int)) (A : Option Addr) (c : Nat) (w : World) (h : Clk w A c ms) (hv : viP ms = true) :
    Calls Try.prog 41 #[.slice A ms.length c] w fun e w' => ∃ (A' : Option Addr) (c' : Nat) (ws : List Int) (m : Int), e = .returned (.tuple #[.slice A' ws.length c', .int .i64 m, .int .i64 0]) ∧ Out w' A' c' ws ∧ Below w.heap.size w w' ∧ Hid (Cert ms ws m (cheL ms).1 (cheL ms).2.1 (cheL ms).2.2) := by
  obtain ⟨⟨hn1, hn2⟩, hpt, _⟩ := vi_parts hv
  have HV := Lib.hid hv
  have H := Lib.hid h
  have HP := Lib.hid (fun (W : World) (hW : Clk W A c ms) => proof_any ms A c (cheL ms).1 (cheL ms).2.1 (cheL ms).2.2 W hW hn1 hn2 hpt (che_ln hv) (che_best hv) (che_two hv))
  obtain ⟨⟨a, b, d⟩, hl⟩ : ∃ z, cheL ms = z := ⟨_, rfl⟩
  have HL := Lib.hid hl
  rw [hl] at HP
  have HC : Hid (∀ W : World, Clk W A c ms → Calls Try.prog 70 #[.slice A ms.length c] W fun e w' => e = .returned (.agg #[.int .i64 a, .int .i64 b, .int .i64 d]) ∧ Below W.heap.size W w') := Lib.hid (fun W hW => by
    have := cheapest_any ms A c W hW hv
    rw [hl] at this
    exact this)
  rw [hl]
  clear hv h hl hpt
  go_enter Try.func41, Try.ntmps41
  go_wp2_with (first
    | (go_at_call 19; refine (valid_any ms A c _ H.out.marks H.out.len).mono ?_; rintro e w1 ⟨rfl, hB1⟩; rw [HV.out]; have HB1 := Lib.hid hB1; have HH1 := Lib.hid (H.out.below hB1))
    | (go_at_call 70; refine (HC.out _ HH1.out).mono ?_; rintro e w2 ⟨rfl, hB2⟩; have HB2 := Lib.hid (below_step HB1.out hB2); have HH2 := Lib.hid (HH1.out.below hB2))
    | (go_at_call 77; refine (HP.out _ HH2.out).mono ?_; rintro e w3 ⟨A3, c3, ws, m, rfl, hO3, hB3, hC3⟩; have HB3 := Lib.hid (below_step HB2.out hB3); have HO3 := Lib.hid hO3)
    | fail)
  exact bodyPost_ret (v := .tuple #[.slice A3 ws.length c3, .int .i64 m, .int .i64 0]) (by simp [results, Try.results41, go_sem]) rfl ⟨A3, c3, ws, m, rfl, HO3.out, HB3.out, hC3⟩

set_option maxRecDepth 100000 in
set_option maxHeartbeats 1000000 in
theorem refLess_any (n d p q : Int) (w : World) (h1 : -9223372036854775808 ≤ n * q ∧ n * q ≤ 9223372036854775807) (h2 : -9223372036854775808 ≤ p * d ∧ p * d ≤ 9223372036854775807) :
    Calls Try.prog 53 #[.agg #[.int .i64 n, .int .i64 d], .agg #[.int .i64 p, .int .i64 q]] w fun e w' => e = .returned (.bool (decide (n * q < p * d))) ∧ Below w.heap.size w w' := by
  obtain ⟨x, hx⟩ : ∃ x, n * q = x := ⟨_, rfl⟩
  obtain ⟨y, hy⟩ : ∃ x, p * d = x := ⟨_, rfl⟩
  have w1 : IntKind.i64.wrap (n * q) = x := by rw [hx]; exact IntWalk.i64_in _ (by omega)
  have w2 : IntKind.i64.wrap (p * d) = y := by rw [hy]; exact IntWalk.i64_in _ (by omega)
  rw [hx, hy]
  clear h1 h2 hx hy
  go_enter Try.func53, Try.ntmps53
  go_wp2
  go_ret
  exact ⟨rfl, (by repeat (first | with_reducible exact Below.refl _ _ | with_reducible assumption | refine below_drewN ?_ _ | with_reducible refine Below.drew ?_ | (refine Below.setCell ?_ (by first | (simp; done) | (simp; omega) | omega) _) | (refine Below.alloc ?_ (by first | (simp; done) | (simp; omega) | omega) _)))⟩
end Go.Proofs.Ytoilbgngefleiaa
