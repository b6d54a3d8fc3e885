/-
  Contracts: planned in one word, Right, DoesAll, Done, Free; the reference's Right, DoesAll, Free, Done.
-/
import Derived.Test.YthanmiifcpajhaaDone
set_option linter.unusedVariables false
set_option linter.unusedSimpArgs false
namespace Go.Proofs.Ythanmiifcpajhaa
open Go Go.RowKit

def pgF (ts : List (Int × Int × Int)) (ps : List Int) : Nat → Int := if erE ts ps = 0 then pF ps else fun _ => 0
theorem pg_yes {ts : List (Int × Int × Int)} {ps : List Int} (h : erE ts ps = 0) : pgF ts ps = pF ps := if_pos h
theorem planned_all (ts : List (Int × Int × Int)) (A : Option Addr) (cap : Nat) (ps : List Int) (B : Option Addr) (cb : Nat) (w : World) (h : Marks w A ts) (hl : ts.length ≤ maxLen) (hq : Ints w B ps) (hps : ps.length ≤ maxLen) :
    Calls Try.prog 56 #[.slice A ts.length cap, .slice B ps.length cb] w fun e w' => e = .returned (.tuple #[.agg (vC (pgF ts ps) 100), .int .i64 (erE ts ps)]) ∧ Below w.heap.size w w' := by
  cases hv : vaB ts with
  | false => exact (planned_tasks ts A cap ps B cb w h hl hv).mono fun e w' h => ⟨by rw [h.1, pgF, er_no hv]; rfl, h.2⟩
  | true =>
    by_cases hp : ps.length = 100
    · refine (planned_in ts A cap ps B cb w h hv hq hp).mono fun e w' h => ⟨?_, h.2⟩
      rw [h.1, pgF, er_yes hv]
      cases hi : isP ts.length ps with
      | true => rw [(pl_yes hi).1, (pl_yes hi).2, if_pos rfl]
      | false => rw [(pl_no hi).1, (pl_no hi).2]; rfl
    · exact (planned_len ts A cap ps B cb w h hl hv hp hps).mono fun e w' h => ⟨by rw [h.1, pgF, er_yes hv, (pl_no (isP_no hp)).2]; rfl, h.2⟩
theorem er_bd {ts : List (Int × Int × Int)} {ps : List Int} (h : erE ts ps = 0) : ∀ m, m < 100 → -1 ≤ pF ps m ∧ pF ps m < ts.length := isP_bd (er_zero h).2

def riV (ts : List (Int × Int × Int)) (ps : List Int) : Bool := decide (erE ts ps = 0) && riB ts (pF ps)
def daV (ts : List (Int × Int × Int)) (ps : List Int) : Bool := decide (erE ts ps = 0) && daB ts (pF ps)
def frI (p : Nat → Int) (k : Nat) : Int := nb (fun m => decide (p m = -1)) k
def frV (ts : List (Int × Int × Int)) (ps : List Int) : Int := if erE ts ps = 0 then frI (pF ps) 100 else 0
def doE (ts : List (Int × Int × Int)) (ps : List Int) : Int := if erE ts ps = 0 then (if riB ts (pF ps) = true then 0 else 2) else erE ts ps
def doL (ts : List (Int × Int × Int)) (ps : List Int) : List Int := if erE ts ps = 0 ∧ riB ts (pF ps) = true then vL (dnF ts (pF ps) 100) ts.length else []
theorem ri_e {ts : List (Int × Int × Int)} {ps : List Int} (h : erE ts ps ≠ 0) : riV ts ps = false ∧ daV ts ps = false ∧ frV ts ps = 0 ∧ doE ts ps = erE ts ps ∧ doL ts ps = [] := by simp [riV, daV, frV, doE, doL, h]
theorem ri_o {ts : List (Int × Int × Int)} {ps : List Int} (h : erE ts ps = 0) : riV ts ps = riB ts (pF ps) ∧ daV ts ps = daB ts (pF ps) ∧ frV ts ps = frI (pF ps) 100 := by simp [riV, daV, frV, h]
theorem do_no {ts : List (Int × Int × Int)} {ps : List Int} (h : erE ts ps = 0) (h2 : riB ts (pF ps) = false) : doE ts ps = 2 ∧ doL ts ps = [] := by simp [doE, doL, h, h2]
theorem do_yes {ts : List (Int × Int × Int)} {ps : List Int} (h : erE ts ps = 0) (h2 : riB ts (pF ps) = true) : doE ts ps = 0 ∧ doL ts ps = vL (dnF ts (pF ps) 100) ts.length := by simp [doE, doL, h, h2]
theorem fr_in {p : Nat → Int} {k : Nat} (h : p k = -1) : frI p (k + 1) = frI p k + 1 := by show frI p k + (if decide (p k = -1) = true then 1 else 0) = _; rw [if_pos (by simp [h])]
theorem fr_out {p : Nat → Int} {k : Nat} (h : p k ≠ -1) : frI p (k + 1) = frI p k := by show frI p k + (if decide (p k = -1) = true then 1 else 0) = _; rw [if_neg (by simp [h])]; omega
set_option maxRecDepth 100000 in
set_option maxHeartbeats 2000000 in
theorem rightX_any (ts : List (Int × Int × Int)) (A : Option Addr) (cap : Nat) (ps : List Int) (B : Option Addr) (cb : Nat) (w : World) (h : Marks w A ts) (hl : ts.length ≤ maxLen) (hq : Ints w B ps) (hps : ps.length ≤ maxLen) :
    Calls Try.prog 17 #[.slice A ts.length cap, .slice B ps.length cb] w fun e w' => e = .returned (.tuple #[.bool (riV ts ps), .int .i64 (erE ts ps)]) ∧ Below w.heap.size w w' := by
  have H := Lib.hid h
  have HL := Lib.hid hl
  have HQ := Lib.hid hq
  have HPS := Lib.hid hps
  have Z := (zero_of_info zero100).1
  have HPL : Hid (∀ W : World, Below w.heap.size w W → Calls Try.prog 56 #[.slice A ts.length cap, .slice B ps.length cb] W fun e w' => e = .returned (.tuple #[.agg (vC (pgF ts ps) 100), .int .i64 (erE ts ps)]) ∧ Below W.heap.size W w') := Lib.hid fun W hW => planned_all ts A cap ps B cb W (h.below hW) hl (hq.below hW) hps
  clear h hl hq hps
  by_cases hE : erE ts ps = 0
  case neg =>
    have HE := Lib.hid (ri_e hE)
    obtain ⟨E, hEE⟩ : ∃ E, erE ts ps = E := ⟨_, rfl⟩
    have t1 : (E != 0) = true := by rw [hEE] at hE; simpa using hE
    rw [hEE] at HPL
    have HEE := Lib.hid hEE
    clear hEE hE
    go_enter Try.func17, Try.ntmps17
    go_wp2_with (first
      | (go_at_call 56; refine (HPL.out _ (Below.refl _ _)).mono ?_; rintro e w1 ⟨rfl, hB1⟩; have HR1 := Lib.hid (heap_alloc_new w1 (.cells (vC (pgF ts ps) 100) 58)); have hB2 : Below w.heap.size w (w1.alloc (.cells (vC (pgF ts ps) 100) 58)) := Below.alloc hB1 hB1.size _)
      | (refine wpList_store_row rfl 58 (.tmp 6) (.tmp 12) rfl w1.heap.size (vC (pgF ts ps) 100) rfl rfl 58 _ (heap_alloc_new w1 _) (by rw [vC_size]; exact plan_size) (by simp [vC_size]) (vC_one _ _) ?_; rw [World.setRow_alloc_new])
      | fail)
    go_ret2
    exact ⟨by rw [HE.out.1, HEE.out]; rfl, hB2⟩
  case pos =>
    have HE := Lib.hid (ri_o hE)
    have HER := Lib.hid hE
    have hV := (er_zero hE).1
    have HV := Lib.hid hV
    rw [hE] at HPL
    have HBD := Lib.hid (fun m hm => by rw [pg_yes hE]; exact er_bd hE m hm : ∀ m, m < 100 → -1 ≤ pgF ts ps m ∧ pgF ts ps m < ts.length)
    have HPG := Lib.hid (pg_yes hE)
    clear hE hV
    go_enter Try.func17, Try.ntmps17
    go_wp2_with (first
      | (go_at_call 56; refine (HPL.out _ (Below.refl _ _)).mono ?_; rintro e w1 ⟨rfl, hB1⟩; have HR1 := Lib.hid (heap_alloc_new w1 (.cells (vC (pgF ts ps) 100) 58)); have hB2 : Below w.heap.size w (w1.alloc (.cells (vC (pgF ts ps) 100) 58)) := Below.alloc hB1 hB1.size _)
      | (refine wpList_store_row rfl 58 (.tmp 6) (.tmp 12) rfl w1.heap.size (vC (pgF ts ps) 100) rfl rfl 58 _ (heap_alloc_new w1 _) (by rw [vC_size]; exact plan_size) (by simp [vC_size]) (vC_one _ _) ?_; rw [World.setRow_alloc_new])
      | (refine wpList_load_row rfl 58 (.tmp 6) (by first | rfl | fail) w1.heap.size rfl 58 (vC (pgF ts ps) 100) (0, 0) _ HR1.out Try.underlying58 (by rfl) (by rw [vC_size]; exact plan_size) ?_)
      | (go_at_call 57; refine (right_any ts _ _ (pgF ts ps) _ (H.out.below hB2) HV.out HBD.out).mono ?_; rintro e w3 ⟨rfl, hB3⟩; have HR3 := Lib.hid ((hB3.block _ (by simp)).trans HR1.out); have hB3 := below_step hB2 hB3)
      | fail)
    go_ret2
    exact ⟨by rw [HE.out.1, HER.out, ← HPG.out]; rfl, hB3⟩

set_option maxRecDepth 100000 in
set_option maxHeartbeats 2000000 in
theorem doesX_any (ts : List (Int × Int × Int)) (A : Option Addr) (cap : Nat) (ps : List Int) (B : Option Addr) (cb : Nat) (w : World) (h : Marks w A ts) (hl : ts.length ≤ maxLen) (hq : Ints w B ps) (hps : ps.length ≤ maxLen) :
    Calls Try.prog 21 #[.slice A ts.length cap, .slice B ps.length cb] w fun e w' => e = .returned (.tuple #[.bool (daV ts ps), .int .i64 (erE ts ps)]) ∧ Below w.heap.size w w' := by
  have H := Lib.hid h
  have HL := Lib.hid hl
  have HQ := Lib.hid hq
  have HPS := Lib.hid hps
  have Z := (zero_of_info zero100).1
  have HPL : Hid (∀ W : World, Below w.heap.size w W → Calls Try.prog 56 #[.slice A ts.length cap, .slice B ps.length cb] W fun e w' => e = .returned (.tuple #[.agg (vC (pgF ts ps) 100), .int .i64 (erE ts ps)]) ∧ Below W.heap.size W w') := Lib.hid fun W hW => planned_all ts A cap ps B cb W (h.below hW) hl (hq.below hW) hps
  clear h hl hq hps
  by_cases hE : erE ts ps = 0
  case neg =>
    have HE := Lib.hid (ri_e hE)
    obtain ⟨E, hEE⟩ : ∃ E, erE ts ps = E := ⟨_, rfl⟩
    have t1 : (E != 0) = true := by rw [hEE] at hE; simpa using hE
    rw [hEE] at HPL
    have HEE := Lib.hid hEE
    clear hEE hE
    go_enter Try.func21, Try.ntmps21
    go_wp2_with (first
      | (go_at_call 56; refine (HPL.out _ (Below.refl _ _)).mono ?_; rintro e w1 ⟨rfl, hB1⟩; have HR1 := Lib.hid (heap_alloc_new w1 (.cells (vC (pgF ts ps) 100) 58)); have hB2 : Below w.heap.size w (w1.alloc (.cells (vC (pgF ts ps) 100) 58)) := Below.alloc hB1 hB1.size _)
      | (refine wpList_store_row rfl 58 (.tmp 6) (.tmp 12) rfl w1.heap.size (vC (pgF ts ps) 100) rfl rfl 58 _ (heap_alloc_new w1 _) (by rw [vC_size]; exact plan_size) (by simp [vC_size]) (vC_one _ _) ?_; rw [World.setRow_alloc_new])
      | fail)
    go_ret2
    exact ⟨by rw [HE.out.2.1, HEE.out]; rfl, hB2⟩
  case pos =>
    have HE := Lib.hid (ri_o hE)
    have HER := Lib.hid hE
    have hV := (er_zero hE).1
    have HV := Lib.hid hV
    rw [hE] at HPL
    have HBD := Lib.hid (fun m hm => by rw [pg_yes hE]; exact er_bd hE m hm : ∀ m, m < 100 → -1 ≤ pgF ts ps m ∧ pgF ts ps m < ts.length)
    have HPG := Lib.hid (pg_yes hE)
    clear hE hV
    have HDA := Lib.hid (da_eq (ts := ts) (p := pgF ts ps))
    cases hr : riB ts (pgF ts ps) with
    | false =>
      have HRI := Lib.hid hr
      clear hr
      go_enter Try.func21, Try.ntmps21
      go_wp2_with (first
        | (go_at_call 56; refine (HPL.out _ (Below.refl _ _)).mono ?_; rintro e w1 ⟨rfl, hB1⟩; have HR1 := Lib.hid (heap_alloc_new w1 (.cells (vC (pgF ts ps) 100) 58)); have hB2 : Below w.heap.size w (w1.alloc (.cells (vC (pgF ts ps) 100) 58)) := Below.alloc hB1 hB1.size _)
        | (refine wpList_store_row rfl 58 (.tmp 6) (.tmp 12) rfl w1.heap.size (vC (pgF ts ps) 100) rfl rfl 58 _ (heap_alloc_new w1 _) (by rw [vC_size]; exact plan_size) (by simp [vC_size]) (vC_one _ _) ?_; rw [World.setRow_alloc_new])
        | (refine wpList_load_row rfl 58 (.tmp 6) (by first | rfl | fail) w1.heap.size rfl 58 (vC (pgF ts ps) 100) (0, 0) _ HR1.out Try.underlying58 (by rfl) (by rw [vC_size]; exact plan_size) ?_)
        | (go_at_call 57; refine (right_any ts _ _ (pgF ts ps) _ (H.out.below hB2) HV.out HBD.out).mono ?_; rintro e w3 ⟨he, hB3⟩; rw [HRI.out] at he; subst he; have HR3 := Lib.hid ((hB3.block _ (by simp)).trans HR1.out); have hB3 := below_step hB2 hB3)
        | fail)
      go_ret2
      exact ⟨by rw [HE.out.2.1, HER.out, ← HPG.out, HDA.out, HRI.out]; rfl, hB3⟩
    | true =>
      have HRI := Lib.hid hr
      obtain ⟨L, hL⟩ : ∃ L, (udL ts (pgF ts ps)).length = L := ⟨_, rfl⟩
      have HLL := Lib.hid hL
      have HUD : Hid (∀ W : World, Below w.heap.size w W → Calls Try.prog 62 #[.agg (vC (pgF ts ps) 100), .slice A ts.length cap] W fun e w' => ∃ B c, e = .returned (.slice B L c) ∧ Below W.heap.size W w') := Lib.hid fun W hW => (undone_any ts A cap (pgF ts ps) W (H.out.below hW) HV.out HBD.out).mono fun e w' ⟨B, c, h1, h2, h3⟩ => ⟨B, c, by rw [h1, hL], h3⟩
      clear hr hL
      by_cases hz : L = 0
      · subst hz
        go_enter Try.func21, Try.ntmps21
        go_wp2_with (first
          | (go_at_call 56; refine (HPL.out _ (Below.refl _ _)).mono ?_; rintro e w1 ⟨rfl, hB1⟩; have HR1 := Lib.hid (heap_alloc_new w1 (.cells (vC (pgF ts ps) 100) 58)); have hB2 : Below w.heap.size w (w1.alloc (.cells (vC (pgF ts ps) 100) 58)) := Below.alloc hB1 hB1.size _)
          | (refine wpList_store_row rfl 58 (.tmp 6) (.tmp 12) rfl w1.heap.size (vC (pgF ts ps) 100) rfl rfl 58 _ (heap_alloc_new w1 _) (by rw [vC_size]; exact plan_size) (by simp [vC_size]) (vC_one _ _) ?_; rw [World.setRow_alloc_new])
          | (refine BigFrame.wpList_want (by rfl) (fun K hK => wp_load_row 58 (.tmp 6) rfl w1.heap.size rfl 58 (vC (pgF ts ps) 100) (0, 0) _ HR3.out Try.underlying58 (by rfl) (by rw [vC_size]; exact plan_size) (hK _ _ ?_)))
          | (refine wpList_load_row rfl 58 (.tmp 6) (by first | rfl | fail) w1.heap.size rfl 58 (vC (pgF ts ps) 100) (0, 0) _ HR1.out Try.underlying58 (by rfl) (by rw [vC_size]; exact plan_size) ?_)
          | (go_at_call 57; refine (right_any ts _ _ (pgF ts ps) _ (H.out.below hB2) HV.out HBD.out).mono ?_; rintro e w3 ⟨he, hB3⟩; rw [HRI.out] at he; subst he; have HR3 := Lib.hid ((hB3.block _ (by simp)).trans HR1.out); have hB3 := below_step hB2 hB3)
          | (go_at_call 62; refine (HUD.out _ hB3).mono ?_; rintro e w4 ⟨B4, c4, rfl, hB4⟩; have hB4 := below_step hB3 hB4)
          | fail)
        go_ret2
        exact ⟨by rw [HE.out.2.1, HER.out, ← HPG.out, HDA.out, HRI.out, HLL.out]; rfl, hB4⟩
      · have t2 : ((L : Int) == 0) = false := by simp; omega
        have HZ := Lib.hid hz
        clear hz
        go_enter Try.func21, Try.ntmps21
        go_wp2_with (first
          | (go_at_call 56; refine (HPL.out _ (Below.refl _ _)).mono ?_; rintro e w1 ⟨rfl, hB1⟩; have HR1 := Lib.hid (heap_alloc_new w1 (.cells (vC (pgF ts ps) 100) 58)); have hB2 : Below w.heap.size w (w1.alloc (.cells (vC (pgF ts ps) 100) 58)) := Below.alloc hB1 hB1.size _)
          | (refine wpList_store_row rfl 58 (.tmp 6) (.tmp 12) rfl w1.heap.size (vC (pgF ts ps) 100) rfl rfl 58 _ (heap_alloc_new w1 _) (by rw [vC_size]; exact plan_size) (by simp [vC_size]) (vC_one _ _) ?_; rw [World.setRow_alloc_new])
          | (refine BigFrame.wpList_want (by rfl) (fun K hK => wp_load_row 58 (.tmp 6) rfl w1.heap.size rfl 58 (vC (pgF ts ps) 100) (0, 0) _ HR3.out Try.underlying58 (by rfl) (by rw [vC_size]; exact plan_size) (hK _ _ ?_)))
          | (refine wpList_load_row rfl 58 (.tmp 6) (by first | rfl | fail) w1.heap.size rfl 58 (vC (pgF ts ps) 100) (0, 0) _ HR1.out Try.underlying58 (by rfl) (by rw [vC_size]; exact plan_size) ?_)
          | (go_at_call 57; refine (right_any ts _ _ (pgF ts ps) _ (H.out.below hB2) HV.out HBD.out).mono ?_; rintro e w3 ⟨he, hB3⟩; rw [HRI.out] at he; subst he; have HR3 := Lib.hid ((hB3.block _ (by simp)).trans HR1.out); have hB3 := below_step hB2 hB3)
          | (go_at_call 62; refine (HUD.out _ hB3).mono ?_; rintro e w4 ⟨B4, c4, rfl, hB4⟩; have hB4 := below_step hB3 hB4)
          | fail)
        go_ret2
        exact ⟨by rw [HE.out.2.1, HER.out, ← HPG.out, HDA.out, HRI.out, HLL.out, decide_eq_false HZ.out]; rfl, hB4⟩

set_option maxRecDepth 100000 in
set_option maxHeartbeats 2000000 in
theorem doneX_any (ts : List (Int × Int × Int)) (A : Option Addr) (cap : Nat) (ps : List Int) (B : Option Addr) (cb : Nat) (w : World) (h : Marks w A ts) (hl : ts.length ≤ maxLen) (hq : Ints w B ps) (hps : ps.length ≤ maxLen) :
    Calls Try.prog 23 #[.slice A ts.length cap, .slice B ps.length cb] w fun e w' => ∃ B c, e = .returned (.tuple #[.slice B (doL ts ps).length c, .int .i64 (doE ts ps)]) ∧ Out w' B c (doL ts ps) ∧ Below w.heap.size w w' := by
  have H := Lib.hid h
  have HL := Lib.hid hl
  have HQ := Lib.hid hq
  have HPS := Lib.hid hps
  have Z := (zero_of_info zero100).1
  have HPL : Hid (∀ W : World, Below w.heap.size w W → Calls Try.prog 56 #[.slice A ts.length cap, .slice B ps.length cb] W fun e w' => e = .returned (.tuple #[.agg (vC (pgF ts ps) 100), .int .i64 (erE ts ps)]) ∧ Below W.heap.size W w') := Lib.hid fun W hW => planned_all ts A cap ps B cb W (h.below hW) hl (hq.below hW) hps
  clear h hl hq hps
  by_cases hE : erE ts ps = 0
  case neg =>
    have HE := Lib.hid (ri_e hE)
    obtain ⟨E, hEE⟩ : ∃ E, erE ts ps = E := ⟨_, rfl⟩
    have t1 : (E != 0) = true := by rw [hEE] at hE; simpa using hE
    rw [hEE] at HPL
    have HEE := Lib.hid hEE
    clear hEE hE
    go_enter Try.func23, Try.ntmps23
    go_wp2_with (first
      | (go_at_call 56; refine (HPL.out _ (Below.refl _ _)).mono ?_; rintro e w1 ⟨rfl, hB1⟩; have HR1 := Lib.hid (heap_alloc_new w1 (.cells (vC (pgF ts ps) 100) 58)); have hB2 : Below w.heap.size w (w1.alloc (.cells (vC (pgF ts ps) 100) 58)) := Below.alloc hB1 hB1.size _)
      | (refine wpList_store_row rfl 58 (.tmp 6) (.tmp 12) rfl w1.heap.size (vC (pgF ts ps) 100) rfl rfl 58 _ (heap_alloc_new w1 _) (by rw [vC_size]; exact plan_size) (by simp [vC_size]) (vC_one _ _) ?_; rw [World.setRow_alloc_new])
      | fail)
    go_ret2
    exact ⟨none, 0, by rw [HE.out.2.2.2.2, HE.out.2.2.2.1, HEE.out]; rfl, by rw [HE.out.2.2.2.2]; exact Out.nil_, hB2⟩
  case pos =>
    have HE := Lib.hid (ri_o hE)
    have HER := Lib.hid hE
    have hV := (er_zero hE).1
    have HV := Lib.hid hV
    rw [hE] at HPL
    have HBD := Lib.hid (fun m hm => by rw [pg_yes hE]; exact er_bd hE m hm : ∀ m, m < 100 → -1 ≤ pgF ts ps m ∧ pgF ts ps m < ts.length)
    have HPG := Lib.hid (pg_yes hE)
    clear hE hV
    cases hr : riB ts (pgF ts ps) with
    | false =>
      have HRI := Lib.hid hr
      have HD := Lib.hid (do_no HER.out (by rw [← HPG.out]; exact hr))
      clear hr
      go_enter Try.func23, Try.ntmps23
      go_wp2_with (first
        | (go_at_call 56; refine (HPL.out _ (Below.refl _ _)).mono ?_; rintro e w1 ⟨rfl, hB1⟩; have HR1 := Lib.hid (heap_alloc_new w1 (.cells (vC (pgF ts ps) 100) 58)); have hB2 : Below w.heap.size w (w1.alloc (.cells (vC (pgF ts ps) 100) 58)) := Below.alloc hB1 hB1.size _)
        | (refine wpList_store_row rfl 58 (.tmp 6) (.tmp 12) rfl w1.heap.size (vC (pgF ts ps) 100) rfl rfl 58 _ (heap_alloc_new w1 _) (by rw [vC_size]; exact plan_size) (by simp [vC_size]) (vC_one _ _) ?_; rw [World.setRow_alloc_new])
        | (refine wpList_load_row rfl 58 (.tmp 6) (by first | rfl | fail) w1.heap.size rfl 58 (vC (pgF ts ps) 100) (0, 0) _ HR1.out Try.underlying58 (by rfl) (by rw [vC_size]; exact plan_size) ?_)
        | (go_at_call 57; refine (right_any ts _ _ (pgF ts ps) _ (H.out.below hB2) HV.out HBD.out).mono ?_; rintro e w3 ⟨he, hB3⟩; rw [HRI.out] at he; subst he; have HR3 := Lib.hid ((hB3.block _ (by simp)).trans HR1.out); have hB3 := below_step hB2 hB3)
        | fail)
      go_ret2
      exact ⟨none, 0, by rw [HD.out.1, HD.out.2]; rfl, by rw [HD.out.2]; exact Out.nil_, hB3⟩
    | true =>
      have HRI := Lib.hid hr
      have HD := Lib.hid (do_yes HER.out (by rw [← HPG.out]; exact hr))
      clear hr
      go_enter Try.func23, Try.ntmps23
      go_wp2_with (first
        | (go_at_call 56; refine (HPL.out _ (Below.refl _ _)).mono ?_; rintro e w1 ⟨rfl, hB1⟩; have HR1 := Lib.hid (heap_alloc_new w1 (.cells (vC (pgF ts ps) 100) 58)); have hB2 : Below w.heap.size w (w1.alloc (.cells (vC (pgF ts ps) 100) 58)) := Below.alloc hB1 hB1.size _)
        | (refine wpList_store_row rfl 58 (.tmp 6) (.tmp 12) rfl w1.heap.size (vC (pgF ts ps) 100) rfl rfl 58 _ (heap_alloc_new w1 _) (by rw [vC_size]; exact plan_size) (by simp [vC_size]) (vC_one _ _) ?_; rw [World.setRow_alloc_new])
        | (refine wpList_load_row rfl 58 (.tmp 6) (by first | rfl | fail) w1.heap.size rfl 58 (vC (pgF ts ps) 100) (0, 0) _ HR3.out Try.underlying58 (by rfl) (by rw [vC_size]; exact plan_size) ?_)
        | (refine wpList_load_row rfl 58 (.tmp 6) (by first | rfl | fail) w1.heap.size rfl 58 (vC (pgF ts ps) 100) (0, 0) _ HR1.out Try.underlying58 (by rfl) (by rw [vC_size]; exact plan_size) ?_)
        | (go_at_call 57; refine (right_any ts _ _ (pgF ts ps) _ (H.out.below hB2) HV.out HBD.out).mono ?_; rintro e w3 ⟨he, hB3⟩; rw [HRI.out] at he; subst he; have HR3 := Lib.hid ((hB3.block _ (by simp)).trans HR1.out); have hB3 := below_step hB2 hB3)
        | (go_at_call 64; refine (done_any ts _ _ (pgF ts ps) _ (H.out.below hB3) HV.out HBD.out).mono ?_; rintro e w4 ⟨B4, c4, rfl, hO4, hB4⟩; have hB4 := below_step hB3 hB4; have HO4 := Lib.hid hO4; clear hO4)
        | fail)
      go_ret2
      exact ⟨B4, c4, by rw [HD.out.1, HD.out.2, ← HPG.out]; rfl, by rw [HD.out.2, ← HPG.out]; exact HO4.out, hB4⟩

set_option maxRecDepth 100000 in
set_option maxHeartbeats 2000000 in
theorem freeX_any (ts : List (Int × Int × Int)) (A : Option Addr) (cap : Nat) (ps : List Int) (B : Option Addr) (cb : Nat) (w : World) (h : Marks w A ts) (hl : ts.length ≤ maxLen) (hq : Ints w B ps) (hps : ps.length ≤ maxLen) :
    Calls Try.prog 25 #[.slice A ts.length cap, .slice B ps.length cb] w fun e w' => e = .returned (.tuple #[.int .i64 (frV ts ps), .int .i64 (erE ts ps)]) ∧ Below w.heap.size w w' := by
  have H := Lib.hid h
  have HL := Lib.hid hl
  have HQ := Lib.hid hq
  have HPS := Lib.hid hps
  have Z := (zero_of_info zero100).1
  have HPL : Hid (∀ W : World, Below w.heap.size w W → Calls Try.prog 56 #[.slice A ts.length cap, .slice B ps.length cb] W fun e w' => e = .returned (.tuple #[.agg (vC (pgF ts ps) 100), .int .i64 (erE ts ps)]) ∧ Below W.heap.size W w') := Lib.hid fun W hW => planned_all ts A cap ps B cb W (h.below hW) hl (hq.below hW) hps
  clear h hl hq hps
  by_cases hE : erE ts ps = 0
  case neg =>
    have HE := Lib.hid (ri_e hE)
    obtain ⟨E, hEE⟩ : ∃ E, erE ts ps = E := ⟨_, rfl⟩
    have t1 : (E != 0) = true := by rw [hEE] at hE; simpa using hE
    rw [hEE] at HPL
    have HEE := Lib.hid hEE
    clear hEE hE
    go_enter Try.func25, Try.ntmps25
    go_wp2_with (first
      | (go_at_call 56; refine (HPL.out _ (Below.refl _ _)).mono ?_; rintro e w1 ⟨rfl, hB1⟩; have HR1 := Lib.hid (heap_alloc_new w1 (.cells (vC (pgF ts ps) 100) 58)); have hB2 : Below w.heap.size w (w1.alloc (.cells (vC (pgF ts ps) 100) 58)) := Below.alloc hB1 hB1.size _)
      | (refine wpList_store_row rfl 58 (.tmp 6) (.tmp 15) rfl w1.heap.size (vC (pgF ts ps) 100) rfl rfl 58 _ (heap_alloc_new w1 _) (by rw [vC_size]; exact plan_size) (by simp [vC_size]) (vC_one _ _) ?_; rw [World.setRow_alloc_new])
      | fail)
    go_ret2
    exact ⟨by rw [HE.out.2.2.1, HEE.out]; rfl, hB2⟩
  case pos =>
    have HE := Lib.hid (ri_o hE)
    have HER := Lib.hid hE
    have hV := (er_zero hE).1
    have HV := Lib.hid hV
    rw [hE] at HPL
    have HBD := Lib.hid (fun m hm => by rw [pg_yes hE]; exact er_bd hE m hm : ∀ m, m < 100 → -1 ≤ pgF ts ps m ∧ pgF ts ps m < ts.length)
    have HPG := Lib.hid (pg_yes hE)
    clear hE hV
    go_enter Try.func25, Try.ntmps25
    go_wp2_with (first
      | (go_at_call 56; refine (HPL.out _ (Below.refl _ _)).mono ?_; rintro e w1 ⟨rfl, hB1⟩; have HR1 := Lib.hid (heap_alloc_new w1 (.cells (vC (pgF ts ps) 100) 58)); have hB2 : Below w.heap.size w (w1.alloc (.cells (vC (pgF ts ps) 100) 58)) := Below.alloc hB1 hB1.size _)
      | (refine wpList_store_row rfl 58 (.tmp 6) (.tmp 15) rfl w1.heap.size (vC (pgF ts ps) 100) rfl rfl 58 _ (heap_alloc_new w1 _) (by rw [vC_size]; exact plan_size) (by simp [vC_size]) (vC_one _ _) ?_; rw [World.setRow_alloc_new])
      | (refine wpList_load_row rfl 58 (.tmp 6) (by first | rfl | fail) w1.heap.size rfl 58 (vC (pgF ts ps) 100) (0, 0) _ HR1.out Try.underlying58 (by rfl) (by rw [vC_size]; exact plan_size) ?_)
      | fail)
    go_loop [8, 21] (fun s i => ∃ (k : Nat) (z : Int), k ≤ 100 ∧ i = .int .i64 k ∧ s = .int .i64 z ∧ 0 ≤ z ∧ z ≤ k ∧ Hid (z = frI (pgF ts ps) k)) (fun _ i => 100 - (intOf i).toNat)
    case atStart => exact ⟨0, 0, Nat.zero_le _, rfl, rfl, by omega, by omega, rfl⟩
    case round =>
      obtain ⟨k, z, hk, rfl, rfl, z1, z2, hz⟩ := hrel
      by_cases hlt : k < 100
      · obtain ⟨v, hv⟩ : ∃ v, pgF ts ps k = v := ⟨_, rfl⟩
        have hix := index_plan hlt hv
        have HV2 := Lib.hid hv
        clear hv
        by_cases hneg : v = -1
        · have t2 : (v == -1) = true := by simpa using hneg
          have HN : Hid (frI (pgF ts ps) (k + 1) = z + 1) := Lib.hid (by rw [fr_in (by rw [HV2.out, hneg]), hz.out])
          clear hneg
          go_wp2
          go_round
          case rel => exact ⟨k + 1, z + 1, by omega, by go_num, rfl, by omega, by omega, Lib.hid HN.out.symm⟩
          case measure => simp [intOf]; omega
        · have t2 : (v == -1) = false := by simpa using hneg
          have HN : Hid (frI (pgF ts ps) (k + 1) = z) := Lib.hid (by rw [fr_out (by rw [HV2.out]; exact hneg), hz.out])
          clear hneg
          go_wp2
          go_round
          case rel => exact ⟨k + 1, z, by omega, by go_num, rfl, by omega, by omega, Lib.hid HN.out.symm⟩
          case measure => simp [intOf]; omega
      · obtain rfl : k = 100 := by omega
        go_wp2
        go_ret2
        exact ⟨by rw [HE.out.2.2, HER.out, ← HPG.out, ← hz.out]; rfl, hB2⟩
end Go.Proofs.Ythanmiifcpajhaa
