/-
  Contracts: Overfull of tasks that are not valid; the reference's slack, Slack, Overfull; Long, Sane.
-/
import Derived.Test.YthanmiifcpajhaaStrs
set_option linter.unusedVariables false
set_option linter.unusedSimpArgs false
namespace Go.Proofs.Ythanmiifcpajhaa
open Go Go.RowKit Go.Shelf

set_option maxRecDepth 100000 in
set_option maxHeartbeats 2000000 in
theorem over_no (ts : List (Int × Int × Int)) (A : Option Addr) (cap : Nat) (w : World) (h : Marks w A ts) (hl : ts.length ≤ maxLen) (hv : vaB ts = false) :
    Calls Try.prog 40 #[.slice A ts.length cap] w fun e w' => e = .returned (.tuple #[.int .i64 0, .int .i64 0, .int .i64 80]) ∧ Below w.heap.size w w' := by
  have H := Lib.hid h
  have HV := Lib.hid hv
  have HL := Lib.hid hl
  clear h hv hl
  refine (callsIn_wide (n := 3)).1 ?_
  refine callsIn_of_wp_marks Try.func40 rfl trivial ?_ rfl
  simp only [Try.ntmps40, List.size_toArray, List.length_cons, List.length_nil, Nat.reduceAdd, Nat.reduceSub, Array.replicate_succ, Array.replicate_zero, List.push_toArray, List.append_toArray, List.nil_append, List.cons_append]
  refine wpIn_wide.2 ?_
  have hB0 : Below w.heap.size w ((((w.alloc (.cells #[.slice A ts.length cap] 22)).alloc (.cells #[.int .i64 0] 3)).alloc (.cells #[.int .i64 0] 3)).alloc (.cells #[.int .i64 0] 26)) := (by repeat (first | with_reducible exact Below.refl _ _ | with_reducible assumption | refine below_drewN ?_ _ | with_reducible refine Below.drew ?_ | (refine Below.setCell ?_ (by first | (simp; done) | (simp; omega) | omega) _) | (refine Below.alloc ?_ (by first | (simp; done) | (simp; omega) | omega) _)))
  obtain ⟨w0, hw0⟩ : ∃ w0, w0 = ((((w.alloc (.cells #[.slice A ts.length cap] 22)).alloc (.cells #[.int .i64 0] 3)).alloc (.cells #[.int .i64 0] 3)).alloc (.cells #[.int .i64 0] 26)) := ⟨_, rfl⟩
  have b0 : w0.heap[w.heap.size]? = some (.cells #[.slice A ts.length cap] 22 (0, 0)) := by rw [hw0]; exact (Below.heap_alloc _ _ _ (by simp; omega)).trans ((Below.heap_alloc _ _ _ (by simp; omega)).trans ((Below.heap_alloc _ _ _ (by simp)).trans (heap_alloc_new w _)))
  have b1 : w0.heap[w.heap.size + 1]? = some (.cells #[.int .i64 0] 3 (0, 0)) := by rw [hw0]; exact (Below.heap_alloc _ _ _ (by simp)).trans ((Below.heap_alloc _ _ _ (by simp)).trans (by have := heap_alloc_new (w.alloc (.cells #[.slice A ts.length cap] 22)) (.cells #[.int .i64 0] 3); simpa using this))
  have b2 : w0.heap[w.heap.size + 1 + 1]? = some (.cells #[.int .i64 0] 3 (0, 0)) := by rw [hw0]; exact (Below.heap_alloc _ _ _ (by simp)).trans (by have := heap_alloc_new ((w.alloc (.cells #[.slice A ts.length cap] 22)).alloc (.cells #[.int .i64 0] 3)) (.cells #[.int .i64 0] 3); simpa using this)
  have b3 : w0.heap[w.heap.size + 1 + 1 + 1]? = some (.cells #[.int .i64 0] 26 (0, 0)) := by rw [hw0]; have := heap_alloc_new (((w.alloc (.cells #[.slice A ts.length cap] 22)).alloc (.cells #[.int .i64 0] 3)).alloc (.cells #[.int .i64 0] 3)) (.cells #[.int .i64 0] 26); simpa using this
  have hs0 : w0.heap.size = w.heap.size + 1 + 1 + 1 + 1 := by rw [hw0]; simp
  rw [← hw0] at hB0
  have CV : Hid (Calls Try.prog 19 #[.slice A ts.length cap] w0 fun e w1 => e = .returned (.bool false) ∧ Below w0.heap.size w0 w1) := Lib.hid ((valid_any ts A cap w0 (H.out.below hB0) HL.out).mono fun _ _ h => ⟨by rw [h.1, HV.out], h.2⟩)
  rw [hw0] at CV
  have BB := Lib.hid (And.intro b0 (And.intro b1 (And.intro b2 b3)))
  have HS0 := Lib.hid hs0
  have HB0 := Lib.hid hB0
  have HW0 := Lib.hid hw0
  clear b0 b1 b2 b3 hs0 hB0 hw0
  go_wp2_with (first
    | (go_at_call 19; refine CV.out.mono ?_; rintro e w4 ⟨rfl, hB1⟩; have hB1' := (show Below w0.heap.size w0 w4 by rw [HW0.out]; exact hB1); clear hB1; have q1 := (hB1'.block (w.heap.size + 1) (by rw [HS0.out]; omega)).trans BB.out.2.1; have q2 := (hB1'.block (w.heap.size + 1 + 1) (by rw [HS0.out]; omega)).trans BB.out.2.2.1; have q3 := (hB1'.block (w.heap.size + 1 + 1 + 1) (by rw [HS0.out]; omega)).trans BB.out.2.2.2; have hW4 := below_step HB0.out hB1'; have cA := blk_cell q1 0 (u := .int .i64 0) rfl; have cB := blk_cell q2 0 (u := .int .i64 0) rfl; have cE := blk_cell q3 0 (u := .int .i64 0) rfl; have fA := blk_frozen q1 0; have fB := blk_frozen q2 0; have fE := blk_frozen q3 0; clear q1 q2 q3)
    | fail)
  obtain ⟨W3, hW3⟩ : ∃ W3, ((w4.setCell ⟨w.heap.size + 1, 0, none⟩ (.int .i64 0)).setCell ⟨w.heap.size + 1 + 1, 0, none⟩ (.int .i64 0)).setCell ⟨w.heap.size + 1 + 1 + 1, 0, none⟩ (.int .i64 80) = W3 := ⟨_, rfl⟩
  have k1 : W3.cell? ⟨w.heap.size + 1, 0, none⟩ = some (.int .i64 0) := by
    rw [← hW3]
    exact (World.cell?_setCell_far _ _ _ _ (by show w.heap.size + 1 + 1 + 1 ≠ w.heap.size + 1; omega)).trans ((World.cell?_setCell_far _ _ _ _ (by show w.heap.size + 1 + 1 ≠ w.heap.size + 1; omega)).trans (World.cell?_setCell_same' _ _ _ (by rw [cA]; rfl)))
  have k2 : W3.cell? ⟨w.heap.size + 1 + 1, 0, none⟩ = some (.int .i64 0) := by
    rw [← hW3]
    exact (World.cell?_setCell_far _ _ _ _ (by show w.heap.size + 1 + 1 + 1 ≠ w.heap.size + 1 + 1; omega)).trans (World.cell?_setCell_same' _ _ _ (by rw [World.cell?_setCell_far _ _ _ _ (by show w.heap.size + 1 ≠ w.heap.size + 1 + 1; omega), cB]; rfl))
  have k3 : W3.cell? ⟨w.heap.size + 1 + 1 + 1, 0, none⟩ = some (.int .i64 80) := by
    rw [← hW3]
    exact World.cell?_setCell_same' _ _ _ (by rw [World.cell?_setCell_far _ _ _ _ (by show w.heap.size + 1 + 1 ≠ w.heap.size + 1 + 1 + 1; omega), World.cell?_setCell_far _ _ _ _ (by show w.heap.size + 1 ≠ w.heap.size + 1 + 1 + 1; omega), cE]; rfl)
  have hB3 : Below w.heap.size w W3 := by
    rw [← hW3]
    exact ((hW4.setCell (by show w.heap.size ≤ w.heap.size + 1; omega) _).setCell (by show w.heap.size ≤ w.heap.size + 1 + 1; omega) _).setCell (by show w.heap.size ≤ w.heap.size + 1 + 1 + 1; omega) _
  rw [hW3]
  exact ⟨.tuple #[.int .i64 0, .int .i64 0, .int .i64 80], (by simp [results, Try.f40, go_sem, k1, k2, k3]), rfl, hB3⟩

theorem stS_el {ts : List (Int × Int × Int)} {a d : Nat} (ha : a < 100) (hd : d < 100) : stS ts (elS a d) = slI ts (a : Int) ((a : Int) + 1 + (d : Int)) 1 := by
  simp only [stS, elS, Nat.mod_eq_of_lt ha, Nat.mod_eq_of_lt hd]
theorem mnS_bd {ts : List (Int × Int × Int)} (hv : vaB ts = true) (xs : List StE) : -1200 ≤ mnS ts xs ∧ mnS ts xs ≤ 100 := by
  suffices h : ∀ (xs : List StE) (m : Int), -1200 ≤ m → m ≤ 100 → -1200 ≤ xs.foldl (fun m x => if m ≤ stS ts x then m else stS ts x) m ∧ xs.foldl (fun m x => if m ≤ stS ts x then m else stS ts x) m ≤ 100 from h xs 100 (by omega) (by omega)
  intro xs
  induction xs with
  | nil => intro m h1 h2; exact ⟨h1, h2⟩
  | cons x xs ih =>
    intro m h1 h2
    rw [List.foldl_cons]
    have hd := dm_bd hv (x.1.val : Int) ((x.1.val : Int) + 1 + (x.2.val : Int))
    refine ih _ ?_ ?_
    · split
      · exact h1
      · rw [stS, slI]; omega
    · split
      · exact h2
      · omega

set_option maxRecDepth 100000 in
set_option maxHeartbeats 2000000 in
theorem refSlack_any (ts : List (Int × Int × Int)) (A : Option Addr) (cap : Nat) (w : World) (h : Marks w A ts) (hv : vaB ts = true) :
    Calls Try.prog 68 #[.slice A ts.length cap] w fun e w' => e = .returned (.int .i64 (mnS ts allS)) ∧ w = w' := by
  have H := Lib.hid h
  have HV := Lib.hid hv
  clear h hv
  go_enter Try.func68, Try.ntmps68
  go_wp2
  go_loop [3, 4] (fun s i => ∃ (a : Nat) (m : Int), a ≤ 100 ∧ i = .int .i64 a ∧ s = .int .i64 m ∧ Hid (m = mnS ts (comeA a))) (fun _ i => 100 - (intOf i).toNat)
  case atStart => exact ⟨0, 100, Nat.zero_le _, rfl, rfl, rfl⟩
  case round =>
    obtain ⟨a, m, ha, rfl, rfl, hm⟩ := hrel
    by_cases hlt : a < 100
    · have ta : decide ((a : Int) < 100) = true := decide_eq_true (by omega)
      go_wp2
      go_loop [3, 5] (fun s i => ∃ (d : Nat) (m : Int), d ≤ 100 - a ∧ i = .int .i64 ((a : Int) + 1 + d) ∧ s = .int .i64 m ∧ Hid (m = mnS ts (comeA a ++ rowS a d))) (fun _ i => 101 - (intOf i).toNat)
      case atStart => exact ⟨0, m, Nat.zero_le _, by go_num, rfl, Lib.hid (by rw [hm.out]; simp [rowS])⟩
      case round =>
        obtain ⟨d, m2, hd, rfl, rfl, hm2⟩ := hrel
        by_cases hlt2 : d < 100 - a
        · have tb : decide ((a : Int) + 1 + (d : Int) ≤ 100) = true := decide_eq_true (by omega)
          have hdm := dm_bd HV.out (a : Int) ((a : Int) + 1 + (d : Int))
          obtain ⟨q, hq⟩ : ∃ q, dmI ts (a : Int) ((a : Int) + 1 + (d : Int)) = q := ⟨_, rfl⟩
          rw [hq] at hdm
          obtain ⟨q1, q2⟩ := hdm
          have HQ := Lib.hid hq
          have HS : Hid (mnS ts (comeA a ++ rowS a (d + 1)) = if m2 ≤ (a : Int) + 1 + (d : Int) - a - q then m2 else (a : Int) + 1 + (d : Int) - a - q) := Lib.hid (by rw [rowS_succ, ← List.append_assoc, mnS_snoc, ← hm2.out, stS_el hlt (by omega), slI, hq, Int.one_mul])
          clear hq
          by_cases hc : (a : Int) + 1 + (d : Int) - a - q < m2
          · have HN : Hid (mnS ts (comeA a ++ rowS a (d + 1)) = (a : Int) + 1 + (d : Int) - a - q) := Lib.hid (by rw [HS.out]; split <;> omega)
            go_wp2_with (go_at_call 74; refine (refDemand_any ts _ _ _ _ _ H.out HV.out).mono ?_; rintro e w3 ⟨he, rfl⟩; rw [HQ.out] at he; subst he)
            go_round
            case rel => exact ⟨d + 1, (a : Int) + 1 + (d : Int) - a - q, by omega, by go_num, (by first | rfl | go_num), Lib.hid HN.out.symm⟩
            case measure => simp [intOf]; omega
          · have HN : Hid (mnS ts (comeA a ++ rowS a (d + 1)) = m2) := Lib.hid (by rw [HS.out]; split <;> omega)
            go_wp2_with (go_at_call 74; refine (refDemand_any ts _ _ _ _ _ H.out HV.out).mono ?_; rintro e w3 ⟨he, rfl⟩; rw [HQ.out] at he; subst he)
            go_round
            case rel => exact ⟨d + 1, m2, by omega, by go_num, rfl, Lib.hid HN.out.symm⟩
            case measure => simp [intOf]; omega
        · obtain rfl : d = 100 - a := by omega
          have tb : decide ((a : Int) + 1 + ((100 - a : Nat) : Int) ≤ 100) = false := decide_eq_false (by omega)
          have HM := Lib.hid hm2.out
          clear hm hm2
          go_wp2
          go_round
          case rel => exact ⟨a + 1, m2, by omega, by go_num, rfl, Lib.hid (by rw [comeA_succ]; exact HM.out)⟩
          case measure => simp [intOf]; omega
    · obtain rfl : a = 100 := by omega
      go_wp2
      go_ret
      exact ⟨ret_int hm.out, rfl⟩

set_option maxRecDepth 100000 in
set_option maxHeartbeats 2000000 in
theorem refOver_any (ts : List (Int × Int × Int)) (A : Option Addr) (cap : Nat) (w : World) (h : Marks w A ts) (hv : vaB ts = true) :
    Calls Try.prog 41 #[.slice A ts.length cap] w fun e w' => e = .returned (.tuple #[.int .i64 (ovA ts), .int .i64 (ovB ts), .int .i64 (ovE ts)]) ∧ Below w.heap.size w w' := by
  have H := Lib.hid h
  have HV := Lib.hid hv
  have hl := va_len hv
  have HL : Hid (ts.length ≤ maxLen) := Lib.hid (by unfold maxLen; omega)
  have HR : Hid (∀ x y z : Int, x = ovA ts ∧ y = ovB ts ∧ z = ovE ts → Ending.returned (.tuple #[.int .i64 x, .int .i64 y, .int .i64 z]) = .returned (.tuple #[.int .i64 (ovA ts), .int .i64 (ovB ts), .int .i64 (ovE ts)])) := Lib.hid fun x y z h => by rw [h.1, h.2.1, h.2.2]
  clear h hv hl
  go_enter Try.func41, Try.ntmps41
  go_wp2_with (go_at_call 20; refine (refValid_any ts _ _ _ H.out HL.out).mono ?_; rintro e w1 ⟨he, n, rfl⟩; rw [HV.out] at he; subst he; have hB1 := below_drewN (Below.refl w.heap.size w) n)
  go_loop [5] (fun i => ∃ (a : Nat), a ≤ 100 ∧ i = .int .i64 a ∧ Hid (∀ y ∈ comeA a, 0 ≤ stS ts y)) (fun i => 100 - (intOf i).toNat)
  case atStart => exact ⟨0, Nat.zero_le _, rfl, fun y hy => by simp [comeA] at hy⟩
  case round =>
    obtain ⟨a, ha, rfl, hm⟩ := hrel
    by_cases hlt : a < 100
    · have ta : decide ((a : Int) < 100) = true := decide_eq_true (by omega)
      go_wp2
      go_loop [6] (fun i => ∃ (d : Nat), d ≤ 100 - a ∧ i = .int .i64 ((a : Int) + 1 + d) ∧ Hid (∀ y ∈ comeA a ++ rowS a d, 0 ≤ stS ts y)) (fun i => 101 - (intOf i).toNat)
      case atStart => exact ⟨0, Nat.zero_le _, by go_num, by simpa [rowS] using hm⟩
      case round =>
        obtain ⟨d, hd, rfl, hm2⟩ := hrel
        by_cases hlt2 : d < 100 - a
        · have tb : decide ((a : Int) + 1 + (d : Int) ≤ 100) = true := decide_eq_true (by omega)
          have hdm := dm_bd HV.out (a : Int) ((a : Int) + 1 + (d : Int))
          obtain ⟨q, hq⟩ : ∃ q, dmI ts (a : Int) ((a : Int) + 1 + (d : Int)) = q := ⟨_, rfl⟩
          rw [hq] at hdm
          obtain ⟨q1, q2⟩ := hdm
          have HQ := Lib.hid hq
          have HS : Hid (stS ts (elS a d) = (a : Int) + 1 + (d : Int) - a - q) := Lib.hid (by rw [stS_el hlt (by omega), slI, hq, Int.one_mul])
          have HP : Hid (comeA a ++ rowS a d ++ [elS a d] <+: allS) := Lib.hid (by rw [List.append_assoc, ← rowS_succ]; exact at_pre hlt (by omega))
          have HE : Hid (((elS a d).1.val : Int) = a ∧ ((elS a d).2.val : Int) = d) := Lib.hid ⟨by show ((a % 100 : Nat) : Int) = a; rw [Nat.mod_eq_of_lt hlt], by show ((d % 100 : Nat) : Int) = d; rw [Nat.mod_eq_of_lt (show d < 100 by omega)]⟩
          clear hq
          by_cases hc : (a : Int) + 1 + (d : Int) - a < q
          · have t1 : decide ((a : Int) + 1 + (d : Int) - a < q) = true := decide_eq_true hc
            go_wp2_with (go_at_call 74; refine (refDemand_any ts _ _ _ _ _ (H.out.below hB1) HV.out).mono ?_; rintro e w3 ⟨he, rfl⟩; rw [HQ.out] at he; subst he)
            obtain ⟨_, f1, f2, f3⟩ := fs_some HP.out hm2.out (by rw [HS.out]; omega)
            exact bodyPost_ret (results_tmp3 rfl _ _ _) rfl ⟨HR.out (a : Int) ((a : Int) + 1 + (d : Int)) 0 ⟨by rw [f1, HE.out.1], by rw [f2, HE.out.1, HE.out.2], by rw [f3]⟩, hB1⟩
          · have t1 : decide ((a : Int) + 1 + (d : Int) - a < q) = false := decide_eq_false hc
            go_wp2_with (go_at_call 74; refine (refDemand_any ts _ _ _ _ _ (H.out.below hB1) HV.out).mono ?_; rintro e w3 ⟨he, rfl⟩; rw [HQ.out] at he; subst he)
            go_round
            case rel => exact ⟨d + 1, by omega, by go_num, by
              show ∀ y ∈ _, _
              rw [rowS_succ, ← List.append_assoc]
              intro y hy
              rcases List.mem_append.1 hy with hy | hy
              · exact hm2.out y hy
              · rw [List.mem_singleton.1 hy, HS.out]; omega⟩
            case measure => simp [intOf]; omega
        · obtain rfl : d = 100 - a := by omega
          have tb : decide ((a : Int) + 1 + ((100 - a : Nat) : Int) ≤ 100) = false := decide_eq_false (by omega)
          have HM := Lib.hid hm2.out
          clear hm hm2
          go_wp2
          go_round
          case rel => exact ⟨a + 1, by omega, by go_num, by show ∀ y ∈ _, _; rw [comeA_succ]; exact HM.out⟩
          case measure => simp [intOf]; omega
    · obtain rfl : a = 100 := by omega
      have HF := Lib.hid (fs_none hm.out)
      go_wp2
      go_ret3
      exact ⟨HR.out 0 0 5 ⟨by rw [HF.out.1], by rw [HF.out.2.1], by rw [HF.out.2.2]⟩, hB1⟩

set_option maxRecDepth 100000 in
theorem refOver_no (ts : List (Int × Int × Int)) (A : Option Addr) (cap : Nat) (w : World) (h : Marks w A ts) (hl : ts.length ≤ maxLen) (hv : vaB ts = false) :
    Calls Try.prog 41 #[.slice A ts.length cap] w fun e w' => e = .returned (.tuple #[.int .i64 0, .int .i64 0, .int .i64 80]) ∧ Below w.heap.size w w' := by
  have H := Lib.hid h
  have HV := Lib.hid hv
  have HL := Lib.hid hl
  clear h hv hl
  go_enter Try.func41, Try.ntmps41
  go_wp2_with (go_at_call 20; refine (refValid_any ts _ _ _ H.out HL.out).mono ?_; rintro e w1 ⟨he, n, rfl⟩; rw [HV.out] at he; subst he; have hB1 := below_drewN (Below.refl w.heap.size w) n)
  exact bodyPost_ret (results_tmp3 rfl _ _ _) rfl ⟨rfl, hB1⟩

set_option maxRecDepth 100000 in
theorem refSlackX_any (ts : List (Int × Int × Int)) (A : Option Addr) (cap : Nat) (w : World) (h : Marks w A ts) (hv : vaB ts = true) :
    Calls Try.prog 39 #[.slice A ts.length cap] w fun e w' => e = .returned (.tuple #[.int .i64 (mnS ts allS), .int .i64 0]) ∧ Below w.heap.size w w' := by
  have H := Lib.hid h
  have HV := Lib.hid hv
  have hl := va_len hv
  have HL : Hid (ts.length ≤ maxLen) := Lib.hid (by unfold maxLen; omega)
  clear h hv hl
  go_enter Try.func39, Try.ntmps39
  go_wp2_with (first
    | (go_at_call 20; refine (refValid_any ts _ _ _ H.out HL.out).mono ?_; rintro e w1 ⟨he, n, rfl⟩; rw [HV.out] at he; subst he; have hB1 := below_drewN (Below.refl w.heap.size w) n)
    | (go_at_call 68; refine (refSlack_any ts _ _ _ (H.out.below hB1) HV.out).mono ?_; rintro e w2 ⟨rfl, rfl⟩))
  go_ret2
  exact ⟨rfl, hB1⟩
set_option maxRecDepth 100000 in
theorem refSlackX_no (ts : List (Int × Int × Int)) (A : Option Addr) (cap : Nat) (w : World) (h : Marks w A ts) (hl : ts.length ≤ maxLen) (hv : vaB ts = false) :
    Calls Try.prog 39 #[.slice A ts.length cap] w fun e w' => e = .returned (.tuple #[.int .i64 0, .int .i64 80]) ∧ Below w.heap.size w w' := by
  have H := Lib.hid h
  have HV := Lib.hid hv
  have HL := Lib.hid hl
  clear h hv hl
  go_enter Try.func39, Try.ntmps39
  go_wp2_with (go_at_call 20; refine (refValid_any ts _ _ _ H.out HL.out).mono ?_; rintro e w1 ⟨he, n, rfl⟩; rw [HV.out] at he; subst he; have hB1 := below_drewN (Below.refl w.heap.size w) n)
  go_ret2
  exact ⟨rfl, hB1⟩

/-- In one word each, whether tasks are valid or not. -/
def slV (ts : List (Int × Int × Int)) : Int := if vaB ts = true then mnS ts allS else 0
def taE (ts : List (Int × Int × Int)) : Int := if vaB ts = true then 0 else 80
def ovA' (ts : List (Int × Int × Int)) : Int := if vaB ts = true then ovA ts else 0
def ovB' (ts : List (Int × Int × Int)) : Int := if vaB ts = true then ovB ts else 0
def ovE' (ts : List (Int × Int × Int)) : Int := if vaB ts = true then ovE ts else 80
theorem slackA (ts : List (Int × Int × Int)) (A : Option Addr) (cap : Nat) (w : World) (h : Marks w A ts) (hl : ts.length ≤ maxLen) :
    Calls Try.prog 38 #[.slice A ts.length cap] w fun e w' => e = .returned (.tuple #[.int .i64 (slV ts), .int .i64 (taE ts)]) ∧ Below w.heap.size w w' := by
  cases hv : vaB ts with
  | true => exact (slackX_any ts A cap w h hv).mono fun e w' h => ⟨by rw [h.1]; simp [slV, taE, hv], h.2⟩
  | false => exact (slackX_no ts A cap w h hl hv).mono fun e w' h => ⟨by rw [h.1]; simp [slV, taE, hv], h.2⟩
theorem refSlackA (ts : List (Int × Int × Int)) (A : Option Addr) (cap : Nat) (w : World) (h : Marks w A ts) (hl : ts.length ≤ maxLen) :
    Calls Try.prog 39 #[.slice A ts.length cap] w fun e w' => e = .returned (.tuple #[.int .i64 (slV ts), .int .i64 (taE ts)]) ∧ Below w.heap.size w w' := by
  cases hv : vaB ts with
  | true => exact (refSlackX_any ts A cap w h hv).mono fun e w' h => ⟨by rw [h.1]; simp [slV, taE, hv], h.2⟩
  | false => exact (refSlackX_no ts A cap w h hl hv).mono fun e w' h => ⟨by rw [h.1]; simp [slV, taE, hv], h.2⟩
theorem overA (ts : List (Int × Int × Int)) (A : Option Addr) (cap : Nat) (w : World) (h : Marks w A ts) (hl : ts.length ≤ maxLen) :
    Calls Try.prog 40 #[.slice A ts.length cap] w fun e w' => e = .returned (.tuple #[.int .i64 (ovA' ts), .int .i64 (ovB' ts), .int .i64 (ovE' ts)]) ∧ Below w.heap.size w w' := by
  cases hv : vaB ts with
  | true => exact (over_any ts A cap w h hv).mono fun e w' h => ⟨by rw [h.1]; simp [ovA', ovB', ovE', hv], h.2⟩
  | false => exact (over_no ts A cap w h hl hv).mono fun e w' h => ⟨by rw [h.1]; simp [ovA', ovB', ovE', hv], h.2⟩
theorem refOverA (ts : List (Int × Int × Int)) (A : Option Addr) (cap : Nat) (w : World) (h : Marks w A ts) (hl : ts.length ≤ maxLen) :
    Calls Try.prog 41 #[.slice A ts.length cap] w fun e w' => e = .returned (.tuple #[.int .i64 (ovA' ts), .int .i64 (ovB' ts), .int .i64 (ovE' ts)]) ∧ Below w.heap.size w w' := by
  cases hv : vaB ts with
  | true => exact (refOver_any ts A cap w h hv).mono fun e w' h => ⟨by rw [h.1]; simp [ovA', ovB', ovE', hv], h.2⟩
  | false => exact (refOver_no ts A cap w h hl hv).mono fun e w' h => ⟨by rw [h.1]; simp [ovA', ovB', ovE', hv], h.2⟩

set_option maxRecDepth 100000 in
theorem long_any (ts : List (Int × Int × Int)) (A : Option Addr) (cap : Nat) (w : World) :
    Calls Try.prog 15 #[.slice A ts.length cap] w fun e w' => e = .returned (.bool (decide (40 < ts.length))) ∧ w = w' := by
  by_cases h : (40 : Int) < (ts.length : Int)
  · have t1 : decide ((40 : Int) < (ts.length : Int)) = true := decide_eq_true h
    go_enter Try.func15, Try.ntmps15
    go_wp2
    go_ret
    exact ⟨ret_bool (by rw [Bool.eq_iff_iff]; simp; omega), rfl⟩
  · have t1 : decide ((40 : Int) < (ts.length : Int)) = false := decide_eq_false h
    go_enter Try.func15, Try.ntmps15
    go_wp2
    go_ret
    exact ⟨ret_bool (by rw [Bool.eq_iff_iff]; simp; omega), rfl⟩
end Go.Proofs.Ythanmiifcpajhaa
