/-
  Contracts: planned, spent; the reference's isPlan, asked.
-/
import Derived.Test.YthanmiifcpajhaaUrgent
import Derived.Laws.ResultCell
set_option linter.unusedVariables false
set_option linter.unusedSimpArgs false
namespace Go.Proofs.Ythanmiifcpajhaa
open Go Go.RowKit

/-- A list as a plan for n tasks. -/
def inP (n : Nat) (a : Int) : Bool := decide (-1 ≤ a ∧ a < n)
def isP (n : Nat) (ps : List Int) : Bool := decide (ps.length = 100) && ps.all (inP n)
def pF (ps : List Int) (m : Nat) : Int := ps.getD m (-1)
theorem isP_len {n : Nat} {ps : List Int} (h : isP n ps = true) : ps.length = 100 := by
  simp only [isP, Bool.and_eq_true, decide_eq_true_eq] at h; exact h.1
theorem isP_all {n : Nat} {ps : List Int} (h : ps.length = 100) : isP n ps = ps.all (inP n) := by simp [isP, h]
theorem isP_no {n : Nat} {ps : List Int} (h : ps.length ≠ 100) : isP n ps = false := by simp [isP, h]
theorem isP_bd {n : Nat} {ps : List Int} (h : isP n ps = true) (m : Nat) (hm : m < 100) : -1 ≤ pF ps m ∧ pF ps m < n := by
  have hl := isP_len h
  simp only [isP, Bool.and_eq_true, List.all_eq_true] at h
  have := h.2 (ps[m]'(by omega)) (List.getElem_mem _)
  rw [pF, List.getD_eq_getElem?_getD, List.getElem?_eq_getElem (by omega)]
  simpa [inP] using this
theorem pF_get {ps : List Int} {m : Nat} {v : Int} (h : ps[m]? = some v) : pF ps m = v := by rw [pF, List.getD_eq_getElem?_getD, h]; rfl
def plV (n : Nat) (ps : List Int) : Nat → Int := if isP n ps = true then pF ps else fun _ => 0
def plE (n : Nat) (ps : List Int) : Int := if isP n ps = true then 0 else 81
theorem pl_yes {n : Nat} {ps : List Int} (h : isP n ps = true) : plV n ps = pF ps ∧ plE n ps = 0 := by simp [plV, plE, h]
theorem pl_no {n : Nat} {ps : List Int} (h : isP n ps = false) : plV n ps = (fun _ => 0) ∧ plE n ps = 81 := by simp [plV, plE, h]
theorem built_plan : Try.prog.built 58 [] = some (vC (fun _ => 0) 100) := by kernel_rfl

theorem wp_build_plan {ops : Array Oper} {rest : List Oper} {o : Oper} {a : Act} {w : World} {Q : Exit → Act → World → Prop} (hg : o.guard = none) (ho : o.op = .build 58 #[])
    (h : wpList Try.prog ops Q rest (a.put o.dst (.agg (vC (fun _ => 0) 100))) w) : wpList Try.prog ops Q (o :: rest) a w := by
  have e : (Try.prog.built 58 ((#[] : Array (Nat × Operand)).map fun (i, x) => (i, a.eval x)).toList) = some (vC (fun _ => 0) 100) := by simpa using built_plan
  refine wpList_build hg 58 #[] ho ?_ ?_
  · rw [e]; rfl
  · rw [e]; exact h
theorem wpList_arrayAt {P : Program} {ops : Array Oper} {rest : List Oper} {o : Oper} {a : Act} {w : World} {Q : Exit → Act → World → Prop} (hgd : o.guard = none) (T : TypeId) (x : Operand) (ho : o.op = .sliceToArrayPointer T x) (n : Nat) (e : TypeId)
    (hu : P.underlying T = some (.array n e)) (A : Option Addr) (len cap : Nat) (hx : a.eval x = .slice A len cap) (hl : n ≤ len) (h : wpList P ops Q rest (a.put o.dst (.pointer A)) w) : wpList P ops Q (o :: rest) a w := by
  refine wpList_plain hgd fun K hK => ?_
  have hn : ¬ len < n := Nat.not_lt.2 hl
  have hr : (Instr.arrayAt T (.slice A len cap)).run P w = .ok (.pointer A) w := by
    unfold Instr.arrayAt
    rw [Sem.run_bind, run_underlying hu w]
    simp [Result.andThen, hn]
  unfold Oper.wp execOp
  simp only [ho, hx]
  simp only [Sem.run_bind, hr, Result.andThen, Sem.run_pure]
  exact hK _ _ h
theorem results_row_tmp {fn : Func} {p u : Tmp} {ty : TypeId} (h : fn.results = #[.cell p ty, .tmp u]) (tmps : Array Value) (P : Program) (w : World) (g : Nat) (cs : Array Value)
    (hp : tmps.getD p undef = .pointer (some ⟨g, 0, none⟩)) (hrow : (loadVar ty ⟨g, 0, none⟩).run P w = .ok (.agg cs) w) {v : Value} (hv : tmps.getD u undef = v) :
    (results fn tmps).run P w = .ok (.tuple #[.agg cs, v]) w := by
  subst hv
  rw [results_cell_tmp h, hp]
  simp [asAddr, Result.andThen, hrow]

theorem row_load {w : World} {g : Nat} {p : Nat → Int} (h : w.heap[g]? = some (.cells (vC p 100) 58 (0, 0))) : (loadVar 58 ⟨g, 0, none⟩).run Try.prog w = .ok (.agg (vC p 100)) w :=
  run_loadVar_row w g 58 58 (vC p 100) (0, 0) _ h Try.underlying58 (by rfl) (by rw [vC_size]; exact plan_size)

set_option maxRecDepth 100000 in
set_option maxHeartbeats 1000000 in
theorem planned_tasks (ts : List (Int × Int × Int)) (A : Option Addr) (cap : Nat) (ps : List Int) (B : Option Addr) (cb : Nat) (w : World) (h : Marks w A ts) (hl : ts.length ≤ maxLen) (hv : vaB ts = false) :
    Calls Try.prog 56 #[.slice A ts.length cap, .slice B ps.length cb] w fun e w' => e = .returned (.tuple #[.agg (vC (fun _ => 0) 100), .int .i64 80]) ∧ Below w.heap.size w w' := by
  unfold maxLen at *
  have H := Lib.hid h
  have HV := Lib.hid hv
  have Z := (zero_of_info zero100).1
  clear h hv
  go_enter Try.func56, Try.ntmps56
  go_wp2_with (first
    | (go_at_call 19; refine (valid_any ts _ _ _ (H.out.below (by repeat (first | with_reducible exact Below.refl _ _ | with_reducible assumption | refine below_drewN ?_ _ | with_reducible refine Below.drew ?_ | (refine Below.setCell ?_ (by first | (simp; done) | (simp; omega) | omega) _) | (refine Below.alloc ?_ (by first | (simp; done) | (simp; omega) | omega) _)))) hl).mono ?_; rintro e w1 ⟨he, hB1⟩; rw [HV.out] at he; subst he; have hR := Lib.hid ((Arr.new w 58 (fun _ => 0) 100).below hB1); have hW1 : Below w.heap.size w w1 := Below.trans (by repeat (first | with_reducible exact Below.refl _ _ | with_reducible assumption | refine below_drewN ?_ _ | with_reducible refine Below.drew ?_ | (refine Below.setCell ?_ (by first | (simp; done) | (simp; omega) | omega) _) | (refine Below.alloc ?_ (by first | (simp; done) | (simp; omega) | omega) _))) (hB1.mono (by simp)); clear hB1)
    | (refine wp_build_plan rfl rfl ?_; refine wpList_store_row rfl 58 (.tmp 4) (.tmp 11) rfl w.heap.size (vC (fun _ => 0) 100) rfl rfl 58 (vC (fun _ => 0) 100) hR.out (by rw [vC_size]; exact plan_size) (by simp only [vC_size]) (vC_one _ _) ?_)
    | fail)
  exact bodyPost_ret (results_row_tmp rfl _ _ _ w.heap.size (vC (fun _ => 0) 100) rfl (row_load (setRow_heap _ _ _ _ _ _ hR.out)) rfl) rfl ⟨rfl, below_setRow hW1 (Nat.le_refl _) _⟩

set_option maxRecDepth 100000 in
set_option maxHeartbeats 1000000 in
theorem planned_len (ts : List (Int × Int × Int)) (A : Option Addr) (cap : Nat) (ps : List Int) (B : Option Addr) (cb : Nat) (w : World) (h : Marks w A ts) (hl : ts.length ≤ maxLen) (hv : vaB ts = true) (hp : ps.length ≠ 100) (hps : ps.length ≤ maxLen) :
    Calls Try.prog 56 #[.slice A ts.length cap, .slice B ps.length cb] w fun e w' => e = .returned (.tuple #[.agg (vC (fun _ => 0) 100), .int .i64 81]) ∧ Below w.heap.size w w' := by
  unfold maxLen at *
  have H := Lib.hid h
  have HV := Lib.hid hv
  have Z := (zero_of_info zero100).1
  have t1 : ((ps.length : Int) != 100) = true := by simp; omega
  have HP := Lib.hid hp
  clear h hv hp
  go_enter Try.func56, Try.ntmps56
  go_wp2_with (first
    | (go_at_call 19; refine (valid_any ts _ _ _ (H.out.below (by repeat (first | with_reducible exact Below.refl _ _ | with_reducible assumption | refine below_drewN ?_ _ | with_reducible refine Below.drew ?_ | (refine Below.setCell ?_ (by first | (simp; done) | (simp; omega) | omega) _) | (refine Below.alloc ?_ (by first | (simp; done) | (simp; omega) | omega) _)))) hl).mono ?_; rintro e w1 ⟨he, hB1⟩; rw [HV.out] at he; subst he; have hR := Lib.hid ((Arr.new w 58 (fun _ => 0) 100).below hB1); have hW1 : Below w.heap.size w w1 := Below.trans (by repeat (first | with_reducible exact Below.refl _ _ | with_reducible assumption | refine below_drewN ?_ _ | with_reducible refine Below.drew ?_ | (refine Below.setCell ?_ (by first | (simp; done) | (simp; omega) | omega) _) | (refine Below.alloc ?_ (by first | (simp; done) | (simp; omega) | omega) _))) (hB1.mono (by simp)); clear hB1)
    | (refine wp_build_plan rfl rfl ?_; refine wpList_store_row rfl 58 (.tmp 4) (.tmp 15) rfl w.heap.size (vC (fun _ => 0) 100) rfl rfl 58 (vC (fun _ => 0) 100) hR.out (by rw [vC_size]; exact plan_size) (by simp only [vC_size]) (vC_one _ _) ?_)
    | fail)
  exact bodyPost_ret (results_row_tmp rfl _ _ _ w.heap.size (vC (fun _ => 0) 100) rfl (row_load (setRow_heap _ _ _ _ _ _ hR.out)) rfl) rfl ⟨rfl, below_setRow hW1 (Nat.le_refl _) _⟩

theorem rangeAt_ints {w : World} {b o : Nat} {ps : List Int} (h : ∀ (k : Nat) (z : Int), ps[k]? = some z → w.cell? ⟨b, o + k, none⟩ = some (.int .i64 z)) : w.rangeAt b o (ps.map (Value.int .i64)) := by
  intro j v hj
  rw [List.getElem?_map] at hj
  cases hz : ps[j]? with
  | none => rw [hz] at hj; cases hj
  | some z => rw [hz] at hj; simp at hj; subst hj; exact h j z hz
theorem vC_list {ps : List Int} (h : ps.length = 100) : (ps.map (Value.int .i64)).toArray = vC (pF ps) 100 :=
  vC_ext (by simp [h]) fun i hi => by
    obtain ⟨z, hz⟩ := getElem?_of_lt (zs := ps) (k := i) (by omega)
    rw [List.getElem?_toArray, List.getElem?_map, hz, pF_get hz]; rfl

set_option maxRecDepth 100000 in
set_option maxHeartbeats 1000000 in
theorem planned_in (ts : List (Int × Int × Int)) (A : Option Addr) (cap : Nat) (ps : List Int) (B : Option Addr) (cb : Nat) (w : World) (h : Marks w A ts) (hv : vaB ts = true) (hq : Ints w B ps) (hp : ps.length = 100) :
    Calls Try.prog 56 #[.slice A ts.length cap, .slice B ps.length cb] w fun e w' => e = .returned (.tuple #[.agg (vC (plV ts.length ps) 100), .int .i64 (plE ts.length ps)]) ∧ Below w.heap.size w w' := by
  obtain ⟨bp, op, rfl, hbp, hcp⟩ := hq.open_ (by omega)
  have hl := (va_len hv).2
  have HI := Lib.hid (isP_all (n := ts.length) hp)
  have HR0 := Lib.hid (rangeAt_ints hcp)
  have HC := Lib.hid hcp
  have HLEN := Lib.hid hp
  have H := Lib.hid h
  have HV := Lib.hid hv
  have t1 : ((ps.length : Int) != 100) = false := by simp; omega
  have g1 : 100 ≤ ps.length := by omega
  have g2 : ps.length ≤ 100 := by omega
  have Z := (zero_of_info zero100).1
  clear h hv hq hcp hp
  go_enter Try.func56, Try.ntmps56
  go_wp2_with (first
    | (go_at_call 19; refine (valid_any ts _ _ _ (H.out.below (by repeat (first | with_reducible exact Below.refl _ _ | with_reducible assumption | refine below_drewN ?_ _ | with_reducible refine Below.drew ?_ | (refine Below.setCell ?_ (by first | (simp; done) | (simp; omega) | omega) _) | (refine Below.alloc ?_ (by first | (simp; done) | (simp; omega) | omega) _)))) (by unfold maxLen; omega)).mono ?_; rintro e w1 ⟨he, hB1⟩; rw [HV.out] at he; subst he; have hR := Lib.hid ((Arr.new w 58 (fun _ => 0) 100).below hB1); have hW1 : Below w.heap.size w w1 := Below.trans (by repeat (first | with_reducible exact Below.refl _ _ | with_reducible assumption | refine below_drewN ?_ _ | with_reducible refine Below.drew ?_ | (refine Below.setCell ?_ (by first | (simp; done) | (simp; omega) | omega) _) | (refine Below.alloc ?_ (by first | (simp; done) | (simp; omega) | omega) _))) (hB1.mono (by simp)); clear hB1)
    | fail)
  go_loop [18] (fun i => ∃ (k : Nat), k ≤ ps.length ∧ i = .int .i64 k ∧ Hid ((ps.take k).all (inP ts.length) = true)) (fun i => ps.length - (intOf i).toNat)
  case atStart => exact ⟨0, Nat.zero_le _, rfl, rfl⟩
  case round =>
    obtain ⟨k, hk, rfl, hall⟩ := hrel
    by_cases hlt : k < ps.length
    · obtain ⟨z, hz⟩ := getElem?_of_lt hlt
      have c0 := (hW1.cell (p := ⟨bp, op + k, none⟩) hbp).trans (HC.out k z hz)
      have HZ := Lib.hid hz
      clear hz
      by_cases z1 : z < -1
      · have t2 : decide (z < -1) = true := decide_eq_true z1
        have HN : Hid (isP ts.length ps = false) := Lib.hid (by rw [HI.out]; exact all_not HZ.out (by simp [inP]; omega))
        go_wp2_with (first
          | (refine wp_build_plan rfl rfl ?_; refine wpList_store_row rfl 58 (.tmp 4) (.tmp 30) rfl w.heap.size (vC (fun _ => 0) 100) rfl rfl 58 (vC (fun _ => 0) 100) hR.out (by rw [vC_size]; exact plan_size) (by simp only [vC_size]) (vC_one _ _) ?_)
          | fail)
        rw [(pl_no HN.out).1, (pl_no HN.out).2]
        exact bodyPost_ret (results_row_tmp rfl _ _ _ w.heap.size (vC (fun _ => 0) 100) rfl (row_load (setRow_heap _ _ _ _ _ _ hR.out)) rfl) rfl ⟨rfl, below_setRow hW1 (Nat.le_refl _) _⟩
      · have t2 : decide (z < -1) = false := decide_eq_false z1
        by_cases z2 : (ts.length : Int) ≤ z
        · have t3 : decide ((ts.length : Int) ≤ z) = true := decide_eq_true z2
          have HN : Hid (isP ts.length ps = false) := Lib.hid (by rw [HI.out]; exact all_not HZ.out (by simp [inP]; omega))
          go_wp2_with (first
            | (refine wp_build_plan rfl rfl ?_; refine wpList_store_row rfl 58 (.tmp 4) (.tmp 30) rfl w.heap.size (vC (fun _ => 0) 100) rfl rfl 58 (vC (fun _ => 0) 100) hR.out (by rw [vC_size]; exact plan_size) (by simp only [vC_size]) (vC_one _ _) ?_)
            | fail)
          rw [(pl_no HN.out).1, (pl_no HN.out).2]
          exact bodyPost_ret (results_row_tmp rfl _ _ _ w.heap.size (vC (fun _ => 0) 100) rfl (row_load (setRow_heap _ _ _ _ _ _ hR.out)) rfl) rfl ⟨rfl, below_setRow hW1 (Nat.le_refl _) _⟩
        · have t3 : decide ((ts.length : Int) ≤ z) = false := decide_eq_false z2
          have HN : Hid (inP ts.length z = true) := Lib.hid (by simp [inP]; omega)
          go_wp2
          go_round
          case rel => exact ⟨k + 1, by omega, by go_num, (by rw [all_snoc HZ.out, hall.out, HN.out]; rfl : (ps.take (k + 1)).all (inP ts.length) = true)⟩
          case measure => simp [intOf]; omega
    · have HN : Hid (isP ts.length ps = true) := Lib.hid (by rw [HI.out, ← all_full (p := inP ts.length) (show ps.length ≤ k by omega), hall.out])
      go_wp2_with (first
        | (refine wpList_arrayAt rfl 58 (.tmp 32) rfl 100 _ Try.underlying58 _ _ _ rfl g1 ?_; refine wpList_load_mid rfl 58 (.tmp 33) rfl bp op rfl (ps.map (Value.int .i64)) _ (fun j v hj => (hW1.cell (p := ⟨bp, op + j, none⟩) hbp).trans (HR0.out j v hj)) Try.underlying58 rfl (by rw [List.length_map, HLEN.out]; exact plan_size) ?_; rw [vC_list HLEN.out]; refine wpList_store_row rfl 58 (.tmp 4) (.tmp 34) rfl w.heap.size (vC (pF ps) 100) rfl rfl 58 (vC (fun _ => 0) 100) hR.out (by rw [vC_size]; exact plan_size) (by simp only [vC_size]) (vC_one _ _) ?_)
        | fail)
      rw [(pl_yes HN.out).1, (pl_yes HN.out).2]
      exact bodyPost_ret (results_row_tmp rfl _ _ _ w.heap.size (vC (pF ps) 100) rfl (row_load (setRow_heap _ _ _ _ _ _ hR.out)) rfl) rfl ⟨rfl, below_setRow hW1 (Nat.le_refl _) _⟩
end Go.Proofs.Ythanmiifcpajhaa
