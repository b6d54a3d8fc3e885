/-
  Plain facts on products of outcomes: the area and the difference of two observations together; nothing of the program.
-/
import Derived.Test.YtolpbbabmcpdkaaAreaM
set_option linter.unusedVariables false
set_option linter.unusedSimpArgs false
namespace Go.Proofs.Ytolpbbabmcpdkaa
open Go Go.RowKit

def prdP (P R : List (Int × Int)) : List (Int × Int) := P.flatMap fun p => R.map fun r => (p.1 * r.1, p.2 * r.2)
theorem sum_flat {α β : Type} (f : α → List β) (h : β → Int) : ∀ P : List α, ((P.flatMap f).map h).sum = (P.map fun p => ((f p).map h).sum).sum
  | [] => rfl
  | p :: t => by rw [List.flatMap_cons, List.map_append, List.sum_append, sum_flat f h t, List.map_cons, List.sum_cons]
theorem sum_prd (P R : List (Int × Int)) (h : Int × Int → Int) : ((prdP P R).map h).sum = (P.map fun p => (R.map fun r => h (p.1 * r.1, p.2 * r.2)).sum).sum := by
  unfold prdP
  rw [sum_flat]
  exact sum_congr _ _ _ (fun p _ => by rw [List.map_map]; rfl)
theorem s1_prd (P R : List (Int × Int)) : s1 (prdP P R) = s1 P * s1 R := by
  unfold s1
  rw [sum_prd, Int.mul_comm, ← sum_mul]
  exact sum_congr _ _ _ (fun p _ => by rw [sum_mul (p.1) (fun r : Int × Int => r.1), Int.mul_comm])
theorem s2_prd (P R : List (Int × Int)) : s2 (prdP P R) = s2 P * s2 R := by
  unfold s2
  rw [sum_prd, Int.mul_comm, ← sum_mul]
  exact sum_congr _ _ _ (fun p _ => by rw [sum_mul (p.2) (fun r : Int × Int => r.2), Int.mul_comm])
theorem sum_two (R : List (Int × Int)) (k : Int) : (R.map fun r => (R.map fun s => k * (r.2 * s.1)).sum).sum = k * (s1 R * s2 R) := by
  have e : ∀ r ∈ R, (R.map fun s => k * (r.2 * s.1)).sum = (k * s1 R) * r.2 := by
    intro r _
    rw [sum_mul, sum_mul]; unfold s1; grind
  rw [sum_congr _ _ _ e, sum_mul]
  unfold s2; grind
theorem sum_two' (R : List (Int × Int)) (k : Int) : (R.map fun r => (R.map fun s => k * (s.2 * r.1)).sum).sum = k * (s1 R * s2 R) := by
  rw [sum_comm]; exact sum_two R k
theorem d_two (R : List (Int × Int)) (p q : Int × Int) : (s1 R * s2 R) * dI p q ≤ (R.map fun r => (R.map fun s => dI (p.1 * r.1, p.2 * r.2) (q.1 * s.1, q.2 * s.2)).sum).sum := by
  have a := sum_two R (p.2 * q.1)
  have b := sum_two' R (q.2 * p.1)
  have ha : (R.map fun r => (R.map fun s => (p.2 * q.1) * (r.2 * s.1)).sum).sum ≤ (R.map fun r => (R.map fun s => dI (p.1 * r.1, p.2 * r.2) (q.1 * s.1, q.2 * s.2)).sum).sum :=
    sum_mono _ _ _ (fun r _ => sum_mono _ _ _ (fun s _ => by
      unfold dI
      exact Int.le_trans (Int.le_of_eq (by simp only []; grind)) (Int.le_max_left _ _)))
  have hb : (R.map fun r => (R.map fun s => (q.2 * p.1) * (s.2 * r.1)).sum).sum ≤ (R.map fun r => (R.map fun s => dI (p.1 * r.1, p.2 * r.2) (q.1 * s.1, q.2 * s.2)).sum).sum :=
    sum_mono _ _ _ (fun r _ => sum_mono _ _ _ (fun s _ => by
      unfold dI
      exact Int.le_trans (Int.le_of_eq (by simp only []; grind)) (Int.le_max_right _ _)))
  rw [a] at ha
  rw [b] at hb
  have hd : dI p q = p.2 * q.1 ∨ dI p q = q.2 * p.1 := by unfold dI; omega
  rw [Int.mul_comm (s1 R * s2 R)]
  rcases hd with e | e <;> rw [e]
  · exact ha
  · exact hb
theorem d_prd (P R : List (Int × Int)) : (s1 R * s2 R) * dSum P ≤ dSum (prdP P R) := by
  have e : dSum (prdP P R) = (P.map fun p => (P.map fun q => (R.map fun r => (R.map fun s => dI (p.1 * r.1, p.2 * r.2) (q.1 * s.1, q.2 * s.2)).sum).sum).sum).sum := by
    unfold dSum
    rw [sum_prd]
    refine sum_congr _ _ _ (fun p _ => ?_)
    exact (sum_congr _ _ R (fun r _ => sum_prd P R _)).trans (sum_comm _ R P)
  rw [e]
  unfold dSum
  rw [← sum_mul]
  refine sum_mono _ _ _ (fun p _ => ?_)
  rw [← sum_mul]
  exact sum_mono _ _ _ (fun q _ => d_two R p q)
theorem d_two' (P : List (Int × Int)) (r s : Int × Int) : (s1 P * s2 P) * dI r s ≤ (P.map fun p => (P.map fun q => dI (p.1 * r.1, p.2 * r.2) (q.1 * s.1, q.2 * s.2)).sum).sum := by
  refine Int.le_trans (d_two P r s) (Int.le_of_eq ?_)
  exact sum_congr _ _ _ (fun p _ => sum_congr _ _ _ (fun q _ => by
    rw [Int.mul_comm r.1, Int.mul_comm r.2, Int.mul_comm s.1, Int.mul_comm s.2]))
theorem d_prd' (P R : List (Int × Int)) : (s1 P * s2 P) * dSum R ≤ dSum (prdP P R) := by
  have e : dSum (prdP P R) = (R.map fun r => (R.map fun s => (P.map fun p => (P.map fun q => dI (p.1 * r.1, p.2 * r.2) (q.1 * s.1, q.2 * s.2)).sum).sum).sum).sum := by
    unfold dSum
    rw [sum_prd, sum_comm]
    refine sum_congr _ _ _ (fun r _ => ?_)
    exact (sum_congr _ _ P (fun p _ => (sum_prd P R _).trans (sum_comm _ P R))).trans (sum_comm _ P R)
  rw [e]
  unfold dSum
  rw [← sum_mul]
  refine sum_mono _ _ _ (fun r _ => ?_)
  rw [← sum_mul]
  exact sum_mono _ _ _ (fun s _ => d_two' P r s)
theorem sum_le_po {α : Type} (f : α → Int) (l : List α) : poI (l.map f).sum ≤ (l.map fun a => poI (f a)).sum := by
  have h1 := sum_mono f (fun a => poI (f a)) l (fun a _ => by unfold poI; omega)
  have h2 := sum_mono (fun _ => 0) (fun a => poI (f a)) l (fun a _ => by unfold poI; omega)
  have h3 : (l.map fun _ : α => (0 : Int)).sum = 0 := by
    induction l with
    | nil => rfl
    | cons a t ih => simp only [List.map_cons, List.sum_cons]; have := ih (sum_mono _ _ _ (fun a _ => by unfold poI; omega)) (sum_mono _ _ _ (fun a _ => by unfold poI; omega)); omega
  rw [h3] at h2
  have e : poI (l.map f).sum = max 0 (l.map f).sum := rfl
  rw [e]; omega
theorem po_mul {c x : Int} (hc : 0 ≤ c) : poI (c * x) = c * poI x := by
  unfold poI
  by_cases h : 0 ≤ x
  · rw [Int.max_eq_right h, Int.max_eq_right (Int.mul_nonneg hc h)]
  · have h' : x ≤ 0 := by omega
    rw [Int.max_eq_left h', Int.mul_zero, Int.max_eq_left (Int.mul_nonpos_of_nonneg_of_nonpos hc h')]
theorem gn_sum (N S M T : Int) (p : Int × Int) (R : List (Int × Int)) : (R.map fun r => gnI (N * M) (S * T) (p.1 * r.1, p.2 * r.2)).sum = (p.2 * N * M) * s2 R - (p.1 * S * T) * s1 R := by
  have e : ∀ r ∈ R, gnI (N * M) (S * T) (p.1 * r.1, p.2 * r.2) = (p.2 * N * M) * r.2 + (-(p.1 * S * T)) * r.1 := by
    intro r _; unfold gnI; simp only []; grind
  rw [sum_congr _ _ _ e, sum_add, sum_mul, sum_mul]
  unfold s1 s2; grind
theorem ap_prd (P R : List (Int × Int)) (hc : 0 ≤ s1 R * s2 R) : (s1 R * s2 R) * apSum P ≤ apSum (prdP P R) := by
  have e : apSum (prdP P R) = (P.map fun p => (R.map fun r => poI (gnI (s1 P * s1 R) (s2 P * s2 R) (p.1 * r.1, p.2 * r.2))).sum).sum := by
    unfold apSum
    rw [sum_prd, s1_prd, s2_prd]
  rw [e]
  unfold apSum
  rw [← sum_mul]
  refine sum_mono _ _ _ (fun p _ => ?_)
  refine Int.le_trans (Int.le_of_eq ?_) (sum_le_po _ R)
  rw [gn_sum, ← po_mul hc]
  congr 1
  unfold gnI; grind
theorem ap_prd' (P R : List (Int × Int)) (hc : 0 ≤ s1 P * s2 P) : (s1 P * s2 P) * apSum R ≤ apSum (prdP P R) := by
  refine Int.le_trans (ap_prd R P hc) (Int.le_of_eq ?_)
  unfold apSum
  rw [sum_prd, sum_prd, sum_comm, s1_prd, s1_prd, s2_prd, s2_prd, Int.mul_comm (s1 R), Int.mul_comm (s2 R)]
  exact sum_congr _ _ _ (fun p _ => sum_congr _ _ _ (fun r _ => by rw [Int.mul_comm r.1, Int.mul_comm r.2]))
end Go.Proofs.Ytolpbbabmcpdkaa
