/-
  Plain words for what Decode, Widths, Changes and IsText answer; nothing of the program.
-/
import Derived.Test.YtcmnjmhedmneiaaDoorFewM
namespace Go.Proofs.YtcmnjmhedmneiaaDoor
open Go.RowKit

theorem sumG_dif : ∀ (a : Int) (s : List Int), sumG a (difG a s) = s
  | _, [] => rfl
  | a, n :: t => by rw [difG, sumG, show a + (n - a) = n by omega, sumG_dif n t]
theorem difG_sum : ∀ (a : Int) (l : List Int), difG a (sumG a l) = l
  | _, [] => rfl
  | a, d :: t => by rw [sumG, difG, difG_sum (a + d) t, show a + d - a = d by omega]
theorem sum_dif (s : List Int) : sumL (difL s) = s := sumG_dif 0 s
theorem dif_sum (l : List Int) : difL (sumL l) = l := difG_sum 0 l

abbrev Reading := Option (List (Int × Nat) × Nat)
def rdT (t : ByteArray) : Reading := rdL 2 t.data.toList
def dsO (x : List (Int × Nat) × Nat) : List Int := x.1.map Prod.fst
def wsO (x : List (Int × Nat) × Nat) : List Int := wdL (x.1.map Prod.snd)
def dcE (t : ByteArray) : Int :=
  if vbB t then (match rdT t with | some x => (if vwB (sumL (dsO x)) then 0 else 3) | none => 3) else 31
def dcP (t : ByteArray) : List (Int × Nat) × Nat := if dcE t = 0 then (rdT t).getD ([], 0) else ([], 0)
def dcS (t : ByteArray) : List Int := sumL (dsO (dcP t))
def dcW (t : ByteArray) : List Int := wsO (dcP t)
def dcC (t : ByteArray) : Nat := (dcP t).2
def itE (s : List Int) (t : ByteArray) : Int := if vwB s then (if vbB t then 0 else 31) else 30
def itB (s : List Int) (t : ByteArray) : Bool := vwB s && (vbB t && (match rdT t with | some x => decide (dsO x = difL s) | none => false))
theorem dc_far {t : ByteArray} (h : dcE t ≠ 0) : dcS t = [] ∧ dcW t = [] ∧ dcC t = 0 := by
  have e : dcP t = ([], 0) := by rw [dcP, if_neg h]
  rw [dcS, dcW, dcC, e]; exact ⟨rfl, rfl, rfl⟩
theorem dc_bits {t : ByteArray} (h : vbB t = false) : dcE t = 31 ∧ dcS t = [] ∧ dcW t = [] ∧ dcC t = 0 := by
  have e : dcE t = 31 := by simp [dcE, h]
  exact ⟨e, dc_far (by rw [e]; decide)⟩
theorem dc_none {t : ByteArray} (h : vbB t = true) (h2 : rdT t = none) : dcE t = 3 ∧ dcS t = [] ∧ dcW t = [] ∧ dcC t = 0 := by
  have e : dcE t = 3 := by simp [dcE, h, h2]
  exact ⟨e, dc_far (by rw [e]; decide)⟩
theorem dc_form {t : ByteArray} {x : List (Int × Nat) × Nat} (h : vbB t = true) (h2 : rdT t = some x) (h3 : vwB (sumL (dsO x)) = false) : dcE t = 3 ∧ dcS t = [] ∧ dcW t = [] ∧ dcC t = 0 := by
  have e : dcE t = 3 := by simp [dcE, h, h2, h3]
  exact ⟨e, dc_far (by rw [e]; decide)⟩
theorem dc_ok {t : ByteArray} {x : List (Int × Nat) × Nat} (h : vbB t = true) (h2 : rdT t = some x) (h3 : vwB (sumL (dsO x)) = true) : dcE t = 0 ∧ dcS t = sumL (dsO x) ∧ dcW t = wsO x ∧ dcC t = x.2 := by
  have e : dcE t = 0 := by simp [dcE, h, h2, h3]
  have e2 : dcP t = x := by rw [dcP, if_pos e, h2]; rfl
  rw [dcS, dcW, dcC, e2]; exact ⟨e, rfl, rfl, rfl⟩
theorem dc_zero {t : ByteArray} (h : dcE t = 0) : ∃ x, vbB t = true ∧ rdT t = some x ∧ vwB (sumL (dsO x)) = true := by
  unfold dcE at h
  cases hv : vbB t with
  | false => rw [hv] at h; simp at h
  | true =>
    rw [hv] at h
    cases hr : rdT t with
    | none => rw [hr] at h; simp at h
    | some x =>
      rw [hr] at h
      cases hw : vwB (sumL (dsO x)) with
      | false => rw [show (if true = true then (if vwB (sumL (dsO x)) = true then (0:Int) else 3) else 31) = 3 by simp [hw]] at h; cases h
      | true => exact ⟨x, rfl, rfl, hw⟩
theorem dc_cases (t : ByteArray) : dcE t = 0 ∨ dcE t = 3 ∨ dcE t = 31 := by
  unfold dcE
  cases vbB t with
  | false => exact .inr (.inr rfl)
  | true =>
    cases rdT t with
    | none => exact .inr (.inl rfl)
    | some x => cases hw : vwB (sumL (dsO x)) with
      | false => exact .inr (.inl (by simp [hw]))
      | true => exact .inl (by simp [hw])
theorem it_of {s : List Int} {t : ByteArray} {x : List (Int × Nat) × Nat} (hs : vwB s = true) (h : vbB t = true) (h2 : rdT t = some x) : itB s t = decide (dsO x = difL s) := by
  simp [itB, hs, h, h2]
/-- What Decode answers tells what IsText answers. -/
theorem it_dec {s : List Int} {t : ByteArray} (hs : vwB s = true) : itB s t = (decide (dcE t = 0) && decide (s = dcS t)) := by
  cases hv : vbB t with
  | false => rw [(dc_bits hv).1]; simp [itB, hv]
  | true =>
    cases hr : rdT t with
    | none => rw [(dc_none hv hr).1]; simp [itB, hv, hr]
    | some x =>
      rw [it_of hs hv hr]
      cases hw : vwB (sumL (dsO x)) with
      | false =>
        rw [(dc_form hv hr hw).1]
        simp
        intro he
        rw [he, sum_dif] at hw
        rw [hw] at hs; cases hs
      | true =>
        rw [(dc_ok hv hr hw).1, (dc_ok hv hr hw).2.1]
        simp
        constructor
        · intro he; rw [he, sum_dif]
        · intro he; rw [he, dif_sum]
theorem it_true {s : List Int} {t : ByteArray} (h : itB s t = true) : ∃ x, vwB s = true ∧ vbB t = true ∧ rdT t = some x ∧ dsO x = difL s := by
  unfold itB at h
  cases hs : vwB s with
  | false => rw [hs] at h; simp at h
  | true =>
    cases hv : vbB t with
    | false => rw [hv] at h; simp at h
    | true =>
      cases hr : rdT t with
      | none => rw [hr] at h; simp at h
      | some x => rw [hs, hv, hr] at h; exact ⟨x, rfl, rfl, rfl, by simpa using h⟩
theorem vb_parts {t : ByteArray} (h : vbB t = true) : t.size ≤ 1000 ∧ t.data.toList.all bitB = true := by
  rw [vbB, Bool.and_eq_true, decide_eq_true_eq] at h; exact h
theorem bits_of {l : List UInt8} (h : l.length ≤ 1000) (h2 : l.all bitB = true) : vbB ⟨l.toArray⟩ = true := by
  rw [vbB, bitsB, Bool.and_eq_true, decide_eq_true_eq, sv_size]; exact ⟨h, h2⟩
/-- A plan is read as what it tells. -/
theorem dc_plan {ps : List (Int × Nat)} (h : Fits ps) (hl : (planG 2 ps).length ≤ 1000) (hv : vwB (sumL (ps.map Prod.fst)) = true) :
    dcE ⟨(planG 2 ps).toArray⟩ = 0 ∧ dcS ⟨(planG 2 ps).toArray⟩ = sumL (ps.map Prod.fst) ∧ dcW ⟨(planG 2 ps).toArray⟩ = wdL (ps.map Prod.snd) ∧ dcC ⟨(planG 2 ps).toArray⟩ = chgN 2 ps ∧ vbB ⟨(planG 2 ps).toArray⟩ = true ∧ rdT ⟨(planG 2 ps).toArray⟩ = some (ps, chgN 2 ps) := by
  have h1 := bits_of hl (plan_bits ps 2)
  have h2 : rdT ⟨(planG 2 ps).toArray⟩ = some (ps, chgN 2 ps) := by
    show rdL 2 (planG 2 ps).toArray.toList = _
    exact rd_plan ps 2 (by omega) h
  obtain ⟨a, b, c, d⟩ := dc_ok h1 h2 hv
  exact ⟨a, b, c, d, h1, h2⟩
end Go.Proofs.YtcmnjmhedmneiaaDoor
