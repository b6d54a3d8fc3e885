/-
  Contracts: isStretch, areMachines, Demand, IsOverfull, Slack and Overfull of tasks that are not valid; the reference's.
-/
import Derived.Test.YthanmiifcpajhaaOver
set_option linter.unusedVariables false
set_option linter.unusedSimpArgs false
namespace Go.Proofs.Ythanmiifcpajhaa
open Go Go.RowKit

def isB (a b : Int) : Bool := decide (0 ≤ a ∧ a < b ∧ b ≤ 100)
def maB (k : Int) : Bool := decide (1 ≤ k ∧ k ≤ 4)
set_option maxRecDepth 100000 in
theorem isStretch_any (a b : Int) (w : World) : Calls Try.prog 71 #[.int .i64 a, .int .i64 b] w fun e w' => e = .returned (.bool (isB a b)) ∧ w = w' := by
  have HR : Hid (∀ x : Bool, x = isB a b → Ending.returned (.bool x) = .returned (.bool (isB a b))) := Lib.hid fun _ h => ret_bool h
  by_cases h1 : 0 ≤ a
  · have t1 : decide (0 ≤ a) = true := decide_eq_true h1
    by_cases h2 : a < b
    · have t2 : decide (a < b) = true := decide_eq_true h2
      by_cases h3 : b ≤ 100
      · have t3 : decide (b ≤ 100) = true := decide_eq_true h3
        go_enter Try.func71, Try.ntmps71
        go_wp2
        go_ret
        exact ⟨HR.out _ (by rw [isB]; exact (decide_eq_true ⟨h1, h2, h3⟩).symm), rfl⟩
      · have t3 : decide (b ≤ 100) = false := decide_eq_false h3
        go_enter Try.func71, Try.ntmps71
        go_wp2
        go_ret
        exact ⟨HR.out _ (by rw [isB]; exact (decide_eq_false (by omega)).symm), rfl⟩
    · have t2 : decide (a < b) = false := decide_eq_false h2
      go_enter Try.func71, Try.ntmps71
      go_wp2
      go_ret
      exact ⟨HR.out _ (by rw [isB]; exact (decide_eq_false (by omega)).symm), rfl⟩
  · have t1 : decide (0 ≤ a) = false := decide_eq_false h1
    go_enter Try.func71, Try.ntmps71
    go_wp2
    go_ret
    exact ⟨HR.out _ (by rw [isB]; exact (decide_eq_false (by omega)).symm), rfl⟩
set_option maxRecDepth 100000 in
theorem areMachines_any (k : Int) (w : World) : Calls Try.prog 77 #[.int .i64 k] w fun e w' => e = .returned (.bool (maB k)) ∧ w = w' := by
  have HR : Hid (∀ x : Bool, x = maB k → Ending.returned (.bool x) = .returned (.bool (maB k))) := Lib.hid fun _ h => ret_bool h
  by_cases h1 : 1 ≤ k
  · have t1 : decide (1 ≤ k) = true := decide_eq_true h1
    go_enter Try.func77, Try.ntmps77
    go_wp2
    go_ret
    exact ⟨HR.out _ (by rw [Bool.eq_iff_iff]; simp [maB]; omega), rfl⟩
  · have t1 : decide (1 ≤ k) = false := decide_eq_false h1
    go_enter Try.func77, Try.ntmps77
    go_wp2
    go_ret
    exact ⟨HR.out _ (by rw [maB]; exact (decide_eq_false (by omega)).symm), rfl⟩
set_option maxRecDepth 100000 in
theorem refIsStretch_any (a b : Int) (w : World) : Calls Try.prog 73 #[.int .i64 a, .int .i64 b] w fun e w' => e = .returned (.bool (isB a b)) ∧ w = w' := by
  have HR : Hid (∀ x : Bool, x = isB a b → Ending.returned (.bool x) = .returned (.bool (isB a b))) := Lib.hid fun _ h => ret_bool h
  have TA : Hid True := Lib.hid trivial
  cases h1 : wiB 0 a 100 with
  | false =>
    have H1 := Lib.hid h1
    clear h1
    go_enter Try.func73, Try.ntmps73
    go_wp2_with (go_at_call 61; refine (within_any _ _ _ _).mono ?_; rintro e w1 ⟨he, rfl⟩; rw [H1.out] at he; subst he)
    go_ret
    exact ⟨HR.out _ (by have := H1.out; simp [wiB] at this; rw [isB]; exact (decide_eq_false (by omega)).symm), rfl⟩
  | true =>
    have H1 := Lib.hid h1
    clear h1
    cases h2 : wiB 0 b 100 with
    | false =>
      have H2 := Lib.hid h2
      clear h2
      go_enter Try.func73, Try.ntmps73
      go_wp2_with (first
        | (go_at_call 61; clear TA; refine (within_any _ _ _ _).mono ?_; rintro e w1 ⟨he, rfl⟩; rw [H1.out] at he; subst he)
        | (go_at_call 61; refine (within_any _ _ _ _).mono ?_; rintro e w1 ⟨he, rfl⟩; rw [H2.out] at he; subst he))
      go_ret
      exact ⟨HR.out _ (by have h1 := H1.out; have := H2.out; simp [wiB] at this h1; rw [isB]; exact (decide_eq_false (by omega)).symm), rfl⟩
    | true =>
      have H2 := Lib.hid h2
      clear h2
      by_cases h3 : a < b
      · have t3 : decide (a < b) = true := decide_eq_true h3
        go_enter Try.func73, Try.ntmps73
        go_wp2_with (first
          | (go_at_call 61; clear TA; refine (within_any _ _ _ _).mono ?_; rintro e w1 ⟨he, rfl⟩; rw [H1.out] at he; subst he)
          | (go_at_call 61; refine (within_any _ _ _ _).mono ?_; rintro e w1 ⟨he, rfl⟩; rw [H2.out] at he; subst he))
        go_ret
        exact ⟨HR.out _ (by have h1 := H1.out; have := H2.out; simp [wiB] at this h1; rw [isB]; exact (decide_eq_true (by omega)).symm), rfl⟩
      · have t3 : decide (a < b) = false := decide_eq_false h3
        go_enter Try.func73, Try.ntmps73
        go_wp2_with (first
          | (go_at_call 61; clear TA; refine (within_any _ _ _ _).mono ?_; rintro e w1 ⟨he, rfl⟩; rw [H1.out] at he; subst he)
          | (go_at_call 61; refine (within_any _ _ _ _).mono ?_; rintro e w1 ⟨he, rfl⟩; rw [H2.out] at he; subst he))
        go_ret
        exact ⟨HR.out _ (by rw [isB]; exact (decide_eq_false (by omega)).symm), rfl⟩

/-- What Demand and IsOverfull tell, with their errors. -/
def deE (ts : List (Int × Int × Int)) (a b : Int) : Int := if vaB ts = true then (if isB a b = true then 0 else 2) else 80
def deV (ts : List (Int × Int × Int)) (a b : Int) : Int := if vaB ts = true then (if isB a b = true then dmI ts a b else 0) else 0
theorem de_t {ts : List (Int × Int × Int)} {a b : Int} (h : vaB ts = false) : deE ts a b = 80 ∧ deV ts a b = 0 := by simp [deE, deV, h]
theorem de_a {ts : List (Int × Int × Int)} {a b : Int} (h : vaB ts = true) (h2 : isB a b = false) : deE ts a b = 2 ∧ deV ts a b = 0 := by simp [deE, deV, h, h2]
theorem de_o {ts : List (Int × Int × Int)} {a b : Int} (h : vaB ts = true) (h2 : isB a b = true) : deE ts a b = 0 ∧ deV ts a b = dmI ts a b := by simp [deE, deV, h, h2]
def ioE (ts : List (Int × Int × Int)) (a b k : Int) : Int := if vaB ts = true then (if (isB a b && maB k) = true then 0 else 2) else 80
def ioV (ts : List (Int × Int × Int)) (a b k : Int) : Bool := vaB ts && (isB a b && maB k) && decide (slI ts a b k < 0)
theorem io_t {ts : List (Int × Int × Int)} {a b k : Int} (h : vaB ts = false) : ioE ts a b k = 80 ∧ ioV ts a b k = false := by simp [ioE, ioV, h]
theorem io_a {ts : List (Int × Int × Int)} {a b k : Int} (h : vaB ts = true) (h2 : (isB a b && maB k) = false) : ioE ts a b k = 2 ∧ ioV ts a b k = false := by simp only [ioE, ioV, h, h2]; exact ⟨rfl, rfl⟩
theorem io_o {ts : List (Int × Int × Int)} {a b k : Int} (h : vaB ts = true) (h2 : isB a b = true) (h3 : maB k = true) : ioE ts a b k = 0 ∧ ioV ts a b k = decide (slI ts a b k < 0) := by simp only [ioE, ioV, h, h2, h3]; exact ⟨rfl, rfl⟩
theorem is_bd {a b : Int} (h : isB a b = true) : (0 ≤ a ∧ a ≤ 200) ∧ (0 ≤ b ∧ b ≤ 200) := by simp [isB] at h; omega
theorem ma_bd {k : Int} (h : maB k = true) : k = 1 ∨ k = 2 ∨ k = 3 ∨ k = 4 := by simp [maB] at h; omega
set_option maxRecDepth 100000 in
theorem demandX_any (ts : List (Int × Int × Int)) (A : Option Addr) (cap : Nat) (a b : Int) (w : World) (h : Marks w A ts) (hl : ts.length ≤ maxLen) :
    Calls Try.prog 36 #[.slice A ts.length cap, .int .i64 a, .int .i64 b] w fun e w' => e = .returned (.tuple #[.int .i64 (deV ts a b), .int .i64 (deE ts a b)]) ∧ Below w.heap.size w w' := by
  have H := Lib.hid h
  have HL := Lib.hid hl
  clear h hl
  cases hv : vaB ts with
  | false =>
    have HV := Lib.hid hv
    have HE := Lib.hid (de_t (a := a) (b := b) hv)
    clear hv
    go_enter Try.func36, Try.ntmps36
    go_wp2_with (first
      | (go_at_call 19; refine (valid_any ts _ _ _ H.out HL.out).mono ?_; rintro e w1 ⟨he, hB1⟩; rw [HV.out] at he; subst he)
      | fail)
    go_ret2
    exact ⟨by rw [HE.out.1, HE.out.2]; rfl, hB1⟩
  | true =>
    have HV := Lib.hid hv
    clear hv
    cases hs : isB a b with
    | false =>
      have HS := Lib.hid hs
      have HE := Lib.hid (de_a HV.out hs)
      clear hs
      go_enter Try.func36, Try.ntmps36
      go_wp2_with (first
        | (go_at_call 19; refine (valid_any ts _ _ _ H.out HL.out).mono ?_; rintro e w1 ⟨he, hB1⟩; rw [HV.out] at he; subst he)
        | (go_at_call 71; refine (isStretch_any a b _).mono ?_; rintro e w2 ⟨he, rfl⟩; rw [HS.out] at he; subst he)
        | fail)
      go_ret2
      exact ⟨by rw [HE.out.1, HE.out.2]; rfl, hB1⟩
    | true =>
      have HS := Lib.hid hs
      have HE := Lib.hid (de_o HV.out hs)
      clear hs
      go_enter Try.func36, Try.ntmps36
      go_wp2_with (first
        | (go_at_call 19; refine (valid_any ts _ _ _ H.out HL.out).mono ?_; rintro e w1 ⟨he, hB1⟩; rw [HV.out] at he; subst he)
        | (go_at_call 71; refine (isStretch_any a b _).mono ?_; rintro e w2 ⟨he, rfl⟩; rw [HS.out] at he; subst he)
        | (go_at_call 72; refine (demand_any ts _ _ a b _ (H.out.below hB1) HV.out).mono ?_; rintro e w3 ⟨rfl, hB3⟩; have hB3 := below_step hB1 hB3)
        | fail)
      go_ret2
      exact ⟨by rw [HE.out.1, HE.out.2]; rfl, hB3⟩
set_option maxRecDepth 100000 in
theorem refDemandX_any (ts : List (Int × Int × Int)) (A : Option Addr) (cap : Nat) (a b : Int) (w : World) (h : Marks w A ts) (hl : ts.length ≤ maxLen) :
    Calls Try.prog 37 #[.slice A ts.length cap, .int .i64 a, .int .i64 b] w fun e w' => e = .returned (.tuple #[.int .i64 (deV ts a b), .int .i64 (deE ts a b)]) ∧ Below w.heap.size w w' := by
  have H := Lib.hid h
  have HL := Lib.hid hl
  clear h hl
  cases hv : vaB ts with
  | false =>
    have HV := Lib.hid hv
    have HE := Lib.hid (de_t (a := a) (b := b) hv)
    clear hv
    go_enter Try.func37, Try.ntmps37
    go_wp2_with (first
      | (go_at_call 20; refine (refValid_any ts _ _ _ H.out HL.out).mono ?_; rintro e w1 ⟨he, n, rfl⟩; rw [HV.out] at he; subst he; have hB1 := below_drewN (Below.refl w.heap.size w) n)
      | fail)
    go_ret2
    exact ⟨by rw [HE.out.1, HE.out.2]; rfl, hB1⟩
  | true =>
    have HV := Lib.hid hv
    clear hv
    cases hs : isB a b with
    | false =>
      have HS := Lib.hid hs
      have HE := Lib.hid (de_a HV.out hs)
      clear hs
      go_enter Try.func37, Try.ntmps37
      go_wp2_with (first
        | (go_at_call 20; refine (refValid_any ts _ _ _ H.out HL.out).mono ?_; rintro e w1 ⟨he, n, rfl⟩; rw [HV.out] at he; subst he; have hB1 := below_drewN (Below.refl w.heap.size w) n)
        | (go_at_call 73; refine (refIsStretch_any a b _).mono ?_; rintro e w2 ⟨he, rfl⟩; rw [HS.out] at he; subst he)
        | fail)
      go_ret2
      exact ⟨by rw [HE.out.1, HE.out.2]; rfl, hB1⟩
    | true =>
      have HS := Lib.hid hs
      have HE := Lib.hid (de_o HV.out hs)
      clear hs
      go_enter Try.func37, Try.ntmps37
      go_wp2_with (first
        | (go_at_call 20; refine (refValid_any ts _ _ _ H.out HL.out).mono ?_; rintro e w1 ⟨he, n, rfl⟩; rw [HV.out] at he; subst he; have hB1 := below_drewN (Below.refl w.heap.size w) n)
        | (go_at_call 73; refine (refIsStretch_any a b _).mono ?_; rintro e w2 ⟨he, rfl⟩; rw [HS.out] at he; subst he)
        | (go_at_call 74; refine (refDemand_any ts _ _ a b _ (H.out.below hB1) HV.out).mono ?_; rintro e w3 ⟨rfl, rfl⟩; have hB3 := hB1)
        | fail)
      go_ret2
      exact ⟨by rw [HE.out.1, HE.out.2]; rfl, hB3⟩
set_option maxRecDepth 100000 in
theorem isOver_any (ts : List (Int × Int × Int)) (A : Option Addr) (cap : Nat) (a b k : Int) (w : World) (h : Marks w A ts) (hl : ts.length ≤ maxLen) :
    Calls Try.prog 42 #[.slice A ts.length cap, .int .i64 a, .int .i64 b, .int .i64 k] w fun e w' => e = .returned (.tuple #[.bool (ioV ts a b k), .int .i64 (ioE ts a b k)]) ∧ Below w.heap.size w w' := by
  have H := Lib.hid h
  have HL := Lib.hid hl
  clear h hl
  cases hv : vaB ts with
  | false =>
    have HV := Lib.hid hv
    have HE := Lib.hid (io_t (a := a) (b := b) (k := k) hv)
    clear hv
    go_enter Try.func42, Try.ntmps42
    go_wp2_with (first
      | (go_at_call 19; refine (valid_any ts _ _ _ H.out HL.out).mono ?_; rintro e w1 ⟨he, hB1⟩; rw [HV.out] at he; subst he)
      | fail)
    go_ret2
    exact ⟨by rw [HE.out.1, HE.out.2]; rfl, hB1⟩
  | true =>
    have HV := Lib.hid hv
    clear hv
    cases hs : isB a b with
    | false =>
      have HS := Lib.hid hs
      have HE := Lib.hid (io_a (a := a) (b := b) (k := k) HV.out (by rw [hs]; rfl))
      clear hs
      go_enter Try.func42, Try.ntmps42
      go_wp2_with (first
        | (go_at_call 19; refine (valid_any ts _ _ _ H.out HL.out).mono ?_; rintro e w1 ⟨he, hB1⟩; rw [HV.out] at he; subst he)
        | (go_at_call 71; refine (isStretch_any a b _).mono ?_; rintro e w2 ⟨he, rfl⟩; rw [HS.out] at he; subst he)
        | fail)
      go_ret2
      exact ⟨by rw [HE.out.1, HE.out.2]; rfl, hB1⟩
    | true =>
      have HS := Lib.hid hs
      clear hs
      cases hm : maB k with
      | false =>
        have HM := Lib.hid hm
        have HE := Lib.hid (io_a (a := a) (b := b) (k := k) HV.out (by rw [HS.out, hm]; rfl))
        clear hm
        go_enter Try.func42, Try.ntmps42
        go_wp2_with (first
          | (go_at_call 19; refine (valid_any ts _ _ _ H.out HL.out).mono ?_; rintro e w1 ⟨he, hB1⟩; rw [HV.out] at he; subst he)
          | (go_at_call 71; refine (isStretch_any a b _).mono ?_; rintro e w2 ⟨he, rfl⟩; rw [HS.out] at he; subst he)
          | (go_at_call 77; refine (areMachines_any k _).mono ?_; rintro e w2 ⟨he, rfl⟩; rw [HM.out] at he; subst he)
          | fail)
        go_ret2
        exact ⟨by rw [HE.out.1, HE.out.2]; rfl, hB1⟩
      | true =>
        have HM := Lib.hid hm
        have HE := Lib.hid (io_o HV.out HS.out hm)
        clear hm
        go_enter Try.func42, Try.ntmps42
        go_wp2_with (first
          | (go_at_call 19; refine (valid_any ts _ _ _ H.out HL.out).mono ?_; rintro e w1 ⟨he, hB1⟩; rw [HV.out] at he; subst he)
          | (go_at_call 71; refine (isStretch_any a b _).mono ?_; rintro e w2 ⟨he, rfl⟩; rw [HS.out] at he; subst he)
          | (go_at_call 77; refine (areMachines_any k _).mono ?_; rintro e w2 ⟨he, rfl⟩; rw [HM.out] at he; subst he)
          | (go_at_call 76; refine (slack_any ts _ _ a b k _ (H.out.below hB1) HV.out (is_bd HS.out).1 (is_bd HS.out).2 (ma_bd HM.out)).mono ?_; rintro e w3 ⟨rfl, hB3⟩; have hB3 := below_step hB1 hB3)
          | fail)
        go_ret2
        exact ⟨by rw [HE.out.1, HE.out.2]; rfl, hB3⟩
set_option maxRecDepth 100000 in
theorem refIsOver_any (ts : List (Int × Int × Int)) (A : Option Addr) (cap : Nat) (a b k : Int) (w : World) (h : Marks w A ts) (hl : ts.length ≤ maxLen) :
    Calls Try.prog 43 #[.slice A ts.length cap, .int .i64 a, .int .i64 b, .int .i64 k] w fun e w' => e = .returned (.tuple #[.bool (ioV ts a b k), .int .i64 (ioE ts a b k)]) ∧ Below w.heap.size w w' := by
  have H := Lib.hid h
  have HL := Lib.hid hl
  clear h hl
  cases hv : vaB ts with
  | false =>
    have HV := Lib.hid hv
    have HE := Lib.hid (io_t (a := a) (b := b) (k := k) hv)
    clear hv
    go_enter Try.func43, Try.ntmps43
    go_wp2_with (first
      | (go_at_call 20; refine (refValid_any ts _ _ _ H.out HL.out).mono ?_; rintro e w1 ⟨he, n, rfl⟩; rw [HV.out] at he; subst he; have hB1 := below_drewN (Below.refl w.heap.size w) n)
      | fail)
    go_ret2
    exact ⟨by rw [HE.out.1, HE.out.2]; rfl, hB1⟩
  | true =>
    have HV := Lib.hid hv
    clear hv
    cases hs : isB a b with
    | false =>
      have HS := Lib.hid hs
      have HE := Lib.hid (io_a (a := a) (b := b) (k := k) HV.out (by rw [hs]; rfl))
      clear hs
      go_enter Try.func43, Try.ntmps43
      go_wp2_with (first
        | (go_at_call 20; refine (refValid_any ts _ _ _ H.out HL.out).mono ?_; rintro e w1 ⟨he, n, rfl⟩; rw [HV.out] at he; subst he; have hB1 := below_drewN (Below.refl w.heap.size w) n)
        | (go_at_call 73; refine (refIsStretch_any a b _).mono ?_; rintro e w2 ⟨he, rfl⟩; rw [HS.out] at he; subst he)
        | fail)
      go_ret2
      exact ⟨by rw [HE.out.1, HE.out.2]; rfl, hB1⟩
    | true =>
      have HS := Lib.hid hs
      clear hs
      cases hm : maB k with
      | false =>
        have HM := Lib.hid hm
        have HE := Lib.hid (io_a (a := a) (b := b) (k := k) HV.out (by rw [HS.out, hm]; rfl))
        clear hm
        go_enter Try.func43, Try.ntmps43
        go_wp2_with (first
          | (go_at_call 20; refine (refValid_any ts _ _ _ H.out HL.out).mono ?_; rintro e w1 ⟨he, n, rfl⟩; rw [HV.out] at he; subst he; have hB1 := below_drewN (Below.refl w.heap.size w) n)
          | (go_at_call 73; refine (refIsStretch_any a b _).mono ?_; rintro e w2 ⟨he, rfl⟩; rw [HS.out] at he; subst he)
          | (go_at_call 61; refine (within_any _ _ _ _).mono ?_; rintro e w2 ⟨he, rfl⟩; rw [show wiB 1 k 4 = maB k from rfl, HM.out] at he; subst he)
          | fail)
        go_ret2
        exact ⟨by rw [HE.out.1, HE.out.2]; rfl, hB1⟩
      | true =>
        have HM := Lib.hid hm
        have HE := Lib.hid (io_o HV.out HS.out hm)
        have hb := is_bd HS.out
        obtain ⟨⟨a1, a2⟩, b1, b2⟩ := hb
        have hd := dm_bd HV.out a b
        obtain ⟨d, hde⟩ : ∃ d, dmI ts a b = d := ⟨_, rfl⟩
        rw [hde] at hd
        obtain ⟨d1, d2⟩ := hd
        have HD := Lib.hid hde
        have HSL : Hid (∀ x : Bool, (x = true ↔ k * (b - a) < d) → Ending.returned (.tuple #[.bool x, .int .i64 0]) = .returned (.tuple #[.bool (ioV ts a b k), .int .i64 (ioE ts a b k)])) := Lib.hid fun x hx => by
          have : x = decide (slI ts a b k < 0) := by rw [Bool.eq_iff_iff, hx, decide_eq_true_eq, slI, hde]; omega
          rw [HE.out.1, HE.out.2, this]
        have hk := ma_bd hm
        clear hm hde
        have hn1 : -200 ≤ b - a := by omega
        have hn2 : b - a ≤ 200 := by omega
        rcases hk with rfl | rfl | rfl | rfl
        all_goals
          go_enter Try.func43, Try.ntmps43
          go_wp2_with (first
            | (go_at_call 20; refine (refValid_any ts _ _ _ H.out HL.out).mono ?_; rintro e w1 ⟨he, n, rfl⟩; rw [HV.out] at he; subst he; have hB1 := below_drewN (Below.refl w.heap.size w) n)
            | (go_at_call 73; refine (refIsStretch_any a b _).mono ?_; rintro e w2 ⟨he, rfl⟩; rw [HS.out] at he; subst he)
            | (go_at_call 61; refine (within_any _ _ _ _).mono ?_; rintro e w2 ⟨he, rfl⟩; rw [show wiB 1 _ 4 = maB _ from rfl, HM.out] at he; subst he)
            | (go_at_call 74; refine (refDemand_any ts _ _ a b _ (H.out.below hB1) HV.out).mono ?_; rintro e w3 ⟨he, rfl⟩; rw [HD.out] at he; subst he)
            | fail)
          go_ret2
          exact ⟨HSL.out _ (by rw [decide_eq_true_eq] <;> omega), hB1⟩

set_option maxRecDepth 100000 in
set_option maxHeartbeats 1000000 in
theorem slackX_no (ts : List (Int × Int × Int)) (A : Option Addr) (cap : Nat) (w : World) (h : Marks w A ts) (hl : ts.length ≤ maxLen) (hv : vaB ts = false) :
    Calls Try.prog 38 #[.slice A ts.length cap] w fun e w' => e = .returned (.tuple #[.int .i64 0, .int .i64 80]) ∧ Below w.heap.size w w' := by
  have H := Lib.hid h
  have HL := Lib.hid hl
  have HV := Lib.hid hv
  clear h hl hv
  refine (callsIn_wide (n := 3)).1 ?_
  refine callsIn_of_wp_marks Try.func38 rfl trivial ?_ rfl
  simp only [Try.ntmps38, List.size_toArray, List.length_cons, List.length_nil, Nat.reduceAdd, Nat.reduceSub, Array.replicate_succ, Array.replicate_zero, List.push_toArray, List.append_toArray, List.nil_append, List.cons_append]
  refine wpIn_wide.2 ?_
  go_wp2_with (first
    | (go_at_call 19; refine (valid_any ts _ _ _ (H.out.below (by repeat (first | with_reducible exact Below.refl _ _ | with_reducible assumption | refine below_drewN ?_ _ | with_reducible refine Below.drew ?_ | (refine Below.setCell ?_ (by first | (simp; done) | (simp; omega) | omega) _) | (refine Below.alloc ?_ (by first | (simp; done) | (simp; omega) | omega) _)))) HL.out).mono ?_; rintro e w1 ⟨he, hB1⟩; rw [HV.out] at he; subst he; have hB1 : Below w.heap.size w w1 := Below.trans (by repeat (first | with_reducible exact Below.refl _ _ | with_reducible assumption | refine below_drewN ?_ _ | with_reducible refine Below.drew ?_ | (refine Below.setCell ?_ (by first | (simp; done) | (simp; omega) | omega) _) | (refine Below.alloc ?_ (by first | (simp; done) | (simp; omega) | omega) _))) (hB1.mono (by simp)))
    | fail)
  exact ⟨.tuple #[.int .i64 0, .int .i64 80], (by simp [results, Try.f38, go_sem]), rfl, hB1⟩
end Go.Proofs.Ythanmiifcpajhaa
