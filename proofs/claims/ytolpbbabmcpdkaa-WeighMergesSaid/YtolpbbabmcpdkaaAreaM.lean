/-
  Plain facts on the area under the curve and the count of pairs; nothing of the program.
-/
import Derived.Test.YtolpbbabmcpdkaaRowM
set_option linter.unusedVariables false
set_option linter.unusedSimpArgs false
namespace Go.Proofs.Ytolpbbabmcpdkaa
open Go Go.RowKit

/-- An outcome as a pair: its noise, its signal. -/
def dI (p q : Int × Int) : Int := max (p.2 * q.1) (q.2 * p.1)
def dSum (ps : List (Int × Int)) : Int := (ps.map fun p => (ps.map fun q => dI p q).sum).sum
def s1 (ps : List (Int × Int)) : Int := (ps.map (·.1)).sum
def s2 (ps : List (Int × Int)) : Int := (ps.map (·.2)).sum
/-- How many halves of a pair count. -/
def shV (p q : Int × Int) : Int := if q.2 * p.1 < p.2 * q.1 then 2 else if p.2 * q.1 < q.2 * p.1 then 0 else 1
def prSum (ps : List (Int × Int)) : Int := (ps.map fun p => (ps.map fun q => shV p q * p.2 * q.1).sum).sum
def areaF : List (Int × Int) → Int → Int
  | [], _ => 0
  | p :: t, x => p.1 * (x + x + p.2) + areaF t (x + p.2)

theorem dI_comm (p q : Int × Int) : dI p q = dI q p := by unfold dI; exact Int.max_comm _ _
theorem dsum_perm {ps qs : List (Int × Int)} (h : ps.Perm qs) : dSum ps = dSum qs := by
  unfold dSum
  rw [sum_perm (h.map _)]
  exact sum_congr _ _ _ (fun p _ => sum_perm (h.map _))
theorem s1_perm {ps qs : List (Int × Int)} (h : ps.Perm qs) : s1 ps = s1 qs := sum_perm (h.map _)
theorem s2_perm {ps qs : List (Int × Int)} (h : ps.Perm qs) : s2 ps = s2 qs := sum_perm (h.map _)
theorem dsum_cons (p : Int × Int) (t : List (Int × Int)) : dSum (p :: t) = p.2 * p.1 + 2 * (t.map fun q => dI p q).sum + dSum t := by
  have e1 : dI p p = p.2 * p.1 := by unfold dI; exact Int.max_self _
  have e2 : (t.map fun x => dI x p).sum = (t.map fun q => dI p q).sum := sum_congr _ _ _ (fun q _ => dI_comm q p)
  have e3 := sum_add (fun x => dI x p) (fun x => (t.map fun q => dI x q).sum) t
  simp only [dSum, List.map_cons, List.sum_cons, e1, e2] at *
  omega
theorem area_add : ∀ (ps : List (Int × Int)) (x : Int), areaF ps x = areaF ps 0 + 2 * x * s1 ps
  | [], x => by simp [areaF, s1]
  | p :: t, x => by
    have h1 := area_add t (x + p.2)
    have h2 := area_add t (0 + p.2)
    simp only [areaF, h1, h2, s1, List.map_cons, List.sum_cons]
    grind
theorem area_dsum : ∀ (ps : List (Int × Int)), ps.Pairwise (fun p q => q.2 * p.1 ≤ p.2 * q.1) → areaF ps 0 = dSum ps
  | [], _ => rfl
  | p :: t, h => by
    have h' := List.pairwise_cons.1 h
    rw [dsum_cons, ← area_dsum t h'.2]
    have e : (t.map fun q => dI p q).sum = p.2 * s1 t := by
      unfold s1
      rw [← sum_mul]
      refine sum_congr _ _ _ (fun q hq => ?_)
      have := h'.1 q hq
      show max _ _ = _
      exact Int.max_eq_left this
    rw [e]
    simp only [areaF]
    rw [area_add t (0 + p.2)]
    grind
theorem share_two (p q : Int × Int) : shV p q * p.2 * q.1 + shV q p * q.2 * p.1 = dI p q + dI q p := by
  have a1 : shV p q * p.2 * q.1 = shV p q * (p.2 * q.1) := Int.mul_assoc _ _ _
  have a2 : shV q p * q.2 * p.1 = shV q p * (q.2 * p.1) := Int.mul_assoc _ _ _
  rw [a1, a2]
  unfold shV dI
  generalize p.2 * q.1 = x
  generalize q.2 * p.1 = y
  by_cases h1 : y < x
  · rw [if_pos h1, if_neg (by omega), if_pos h1]; omega
  · by_cases h2 : x < y
    · rw [if_neg h1, if_pos h2, if_pos h2]; omega
    · rw [if_neg h1, if_neg h2, if_neg h2, if_neg h1]; omega
theorem pr_dsum (ps : List (Int × Int)) : prSum ps = dSum ps := by
  have c1 := sum_comm (fun p q : Int × Int => shV p q * p.2 * q.1) ps ps
  have c2 := sum_comm (fun p q : Int × Int => dI p q) ps ps
  have t1 : (ps.map fun p => (ps.map fun q => shV p q * p.2 * q.1).sum + (ps.map fun q => shV q p * q.2 * p.1).sum).sum = (ps.map fun p => (ps.map fun q => dI p q).sum + (ps.map fun q => dI q p).sum).sum := by
    refine sum_congr _ _ _ (fun p _ => ?_)
    rw [← sum_add, ← sum_add]
    exact sum_congr _ _ _ (fun q _ => share_two p q)
  rw [sum_add, sum_add] at t1
  unfold prSum dSum
  omega

/-! bounds, swapping, merging -/
def swP (ps : List (Int × Int)) : List (Int × Int) := ps.map fun p => (p.2, p.1)
theorem dsum_swap (ps : List (Int × Int)) : dSum (swP ps) = dSum ps := by
  unfold dSum swP
  rw [List.map_map]
  refine sum_congr _ _ _ (fun p _ => ?_)
  show (List.map _ (List.map _ ps)).sum = _
  rw [List.map_map]
  refine sum_congr _ _ _ (fun q _ => ?_)
  show max (p.1 * q.2) (q.1 * p.2) = max (p.2 * q.1) (q.2 * p.1)
  rw [Int.mul_comm p.1, Int.mul_comm q.1]; exact Int.max_comm _ _
theorem sum_prod (ps : List (Int × Int)) (f g : Int × Int → Int) : (ps.map fun p => (ps.map fun q => f p * g q).sum).sum = (ps.map f).sum * (ps.map g).sum := by
  have : ∀ p : Int × Int, (ps.map fun q => f p * g q).sum = (ps.map g).sum * f p := fun p => by rw [sum_mul, Int.mul_comm]
  simp only [this]
  rw [sum_mul, Int.mul_comm]
theorem dsum_bd (ps : List (Int × Int)) (h : ∀ p ∈ ps, 0 ≤ p.1 ∧ 0 ≤ p.2) : s2 ps * s1 ps ≤ dSum ps ∧ dSum ps ≤ 2 * (s2 ps * s1 ps) := by
  have e1 := sum_prod ps (·.2) (·.1)
  have e2 := sum_comm (fun p q : Int × Int => p.2 * q.1) ps ps
  have e3 : (ps.map fun p => (ps.map fun q => p.2 * q.1 + q.2 * p.1).sum).sum = s2 ps * s1 ps + s2 ps * s1 ps := by
    have : ∀ p : Int × Int, (ps.map fun q => p.2 * q.1 + q.2 * p.1).sum = (ps.map fun q => p.2 * q.1).sum + (ps.map fun q => q.2 * p.1).sum := fun p => sum_add _ _ _
    simp only [this]
    rw [sum_add, ← e2]
    unfold s1 s2
    omega
  have lo : (ps.map fun p => (ps.map fun q => p.2 * q.1).sum).sum ≤ dSum ps := sum_mono _ _ _ (fun p _ => sum_mono _ _ _ (fun q _ => Int.le_max_left _ _))
  have hi : dSum ps ≤ (ps.map fun p => (ps.map fun q => p.2 * q.1 + q.2 * p.1).sum).sum := by
    refine sum_mono _ _ _ (fun p hp => sum_mono _ _ _ (fun q hq => ?_))
    have x1 := Int.mul_nonneg (h p hp).2 (h q hq).1
    have x2 := Int.mul_nonneg (h q hq).2 (h p hp).1
    show max _ _ ≤ _
    omega
  unfold s1 s2 at *
  omega
def mrg (p q : Int × Int) : Int × Int := (p.1 + q.1, p.2 + q.2)
theorem d_mrg (p q r : Int × Int) : dI (mrg p q) r ≤ dI p r + dI q r := by
  have e1 : (p.2 + q.2) * r.1 = p.2 * r.1 + q.2 * r.1 := Int.add_mul _ _ _
  have e2 : r.2 * (p.1 + q.1) = r.2 * p.1 + r.2 * q.1 := Int.mul_add _ _ _
  show max ((p.2 + q.2) * r.1) (r.2 * (p.1 + q.1)) ≤ max _ _ + max _ _
  omega
theorem dsum_mrg (p q : Int × Int) (t : List (Int × Int)) : dSum (mrg p q :: t) ≤ dSum (p :: q :: t) := by
  rw [dsum_cons, dsum_cons, dsum_cons]
  have h1 := sum_mono (fun r => dI (mrg p q) r) (fun r => dI p r + dI q r) t (fun r _ => d_mrg p q r)
  rw [sum_add] at h1
  simp only [List.map_cons, List.sum_cons]
  have h2 : (mrg p q).2 * (mrg p q).1 = p.2 * p.1 + q.2 * q.1 + (p.2 * q.1 + q.2 * p.1) := by
    show (p.2 + q.2) * (p.1 + q.1) = _
    grind
  have h3 : p.2 * q.1 + q.2 * p.1 ≤ 2 * dI p q := by show _ ≤ 2 * max _ _; omega
  rw [h2]
  have e4 : (t.map fun r => dI (mrg p q) r).sum ≤ (t.map fun r => dI p r).sum + (t.map fun r => dI q r).sum := h1
  generalize (t.map fun r => dI (mrg p q) r).sum = X at *
  generalize (t.map fun r => dI p r).sum = Y at *
  generalize (t.map fun r => dI q r).sum = Z at *
  omega

/-! how far noise and signal are apart -/
def gnI (N S : Int) (p : Int × Int) : Int := p.2 * N - p.1 * S
def poI (x : Int) : Int := max 0 x
def apSum (ps : List (Int × Int)) : Int := (ps.map fun p => poI (gnI (s1 ps) (s2 ps) p)).sum
def twSum (ps : List (Int × Int)) : Int := (ps.map fun p => absW (gnI (s1 ps) (s2 ps) p)).sum
where absW (x : Int) : Int := max x (-x)
theorem gn_zero (ps : List (Int × Int)) : (ps.map fun p => gnI (s1 ps) (s2 ps) p).sum = 0 := by
  have e : ∀ p : Int × Int, gnI (s1 ps) (s2 ps) p = s1 ps * p.2 + (-(s2 ps)) * p.1 := by
    intro p; unfold gnI; rw [Int.mul_comm p.2, Int.mul_comm p.1, Int.neg_mul]; omega
  simp only [e]
  rw [sum_add, sum_mul, sum_mul]
  show s1 ps * s2 ps + -(s2 ps) * s1 ps = 0
  rw [Int.neg_mul, Int.mul_comm]; omega
theorem tw_ap (ps : List (Int × Int)) : twSum ps = 2 * apSum ps := by
  have e : ∀ p : Int × Int, twSum.absW (gnI (s1 ps) (s2 ps) p) = 2 * poI (gnI (s1 ps) (s2 ps) p) + (-1) * gnI (s1 ps) (s2 ps) p := by
    intro p; unfold twSum.absW poI; omega
  unfold twSum apSum
  simp only [e]
  rw [sum_add, sum_mul, sum_mul, gn_zero]; omega
theorem ap_perm {ps qs : List (Int × Int)} (h : ps.Perm qs) : apSum ps = apSum qs := by
  unfold apSum
  rw [s1_perm h, s2_perm h]
  exact sum_perm (h.map _)
theorem sw_s1 (ps : List (Int × Int)) : s1 (swP ps) = s2 ps := by unfold s1 s2 swP; rw [List.map_map]; rfl
theorem sw_s2 (ps : List (Int × Int)) : s2 (swP ps) = s1 ps := by unfold s1 s2 swP; rw [List.map_map]; rfl
theorem ap_swap (ps : List (Int × Int)) : apSum (swP ps) = apSum ps := by
  have h1 : twSum (swP ps) = twSum ps := by
    unfold twSum
    rw [sw_s1, sw_s2]
    unfold swP
    rw [List.map_map]
    refine sum_congr _ _ _ (fun p _ => ?_)
    show twSum.absW (p.1 * s2 ps - p.2 * s1 ps) = twSum.absW (p.2 * s1 ps - p.1 * s2 ps)
    unfold twSum.absW; omega
  rw [tw_ap, tw_ap] at h1
  omega
theorem ap_bd (ps : List (Int × Int)) (h : ∀ p ∈ ps, 0 ≤ p.1 ∧ 0 ≤ p.2) : 0 ≤ apSum ps ∧ apSum ps ≤ s1 ps * s2 ps := by
  have hs1 : 0 ≤ s1 ps := by
    have := sum_mono (fun _ : Int × Int => (0 : Int)) (·.1) ps (fun p hp => (h p hp).1)
    have e : (ps.map fun _ : Int × Int => (0 : Int)).sum = 0 := by simpa using sum_mul 0 (fun _ : Int × Int => (0 : Int)) ps
    unfold s1; omega
  have hs2 : 0 ≤ s2 ps := by
    have := sum_mono (fun _ : Int × Int => (0 : Int)) (·.2) ps (fun p hp => (h p hp).2)
    have e : (ps.map fun _ : Int × Int => (0 : Int)).sum = 0 := by simpa using sum_mul 0 (fun _ : Int × Int => (0 : Int)) ps
    unfold s2; omega
  constructor
  · have := sum_mono (fun _ : Int × Int => (0 : Int)) (fun p => poI (gnI (s1 ps) (s2 ps) p)) ps (fun p _ => Int.le_max_left _ _)
    have e : (ps.map fun _ : Int × Int => (0 : Int)).sum = 0 := by simpa using sum_mul 0 (fun _ : Int × Int => (0 : Int)) ps
    unfold apSum; omega
  · have := sum_mono (fun p => poI (gnI (s1 ps) (s2 ps) p)) (fun p => s1 ps * p.2) ps (fun p hp => by
      have x1 := Int.mul_nonneg (h p hp).2 hs1
      have x2 := Int.mul_nonneg (h p hp).1 hs2
      show max 0 (p.2 * s1 ps - p.1 * s2 ps) ≤ s1 ps * p.2
      rw [Int.mul_comm (s1 ps)]; omega)
    rw [sum_mul] at this
    exact this
theorem ap_mrg (p q : Int × Int) (t : List (Int × Int)) : apSum (mrg p q :: t) ≤ apSum (p :: q :: t) := by
  have e1 : s1 (mrg p q :: t) = s1 (p :: q :: t) := by simp only [s1, List.map_cons, List.sum_cons, mrg]; omega
  have e2 : s2 (mrg p q :: t) = s2 (p :: q :: t) := by simp only [s2, List.map_cons, List.sum_cons, mrg]; omega
  unfold apSum
  rw [e1, e2]
  simp only [List.map_cons, List.sum_cons]
  generalize s1 (p :: q :: t) = N
  generalize s2 (p :: q :: t) = S
  have e : gnI N S (mrg p q) = gnI N S p + gnI N S q := by
    show (p.2 + q.2) * N - (p.1 + q.1) * S = _
    rw [Int.add_mul, Int.add_mul]; unfold gnI; omega
  rw [e]
  unfold poI
  omega

/-! from indexes to pairs -/
def prL (ns ss : List Int) : List (Int × Int) := (List.range ns.length).map fun a => (ns.getD a 0, ss.getD a 0)
def prR (ns ss : List Int) : List (Int × Int) := (rowN ns ss).map fun a => (ns.getD a 0, ss.getD a 0)
theorem prR_perm (ns ss : List Int) : (prR ns ss).Perm (prL ns ss) := (row_perm ns ss).map _
theorem prL_s1 (ns ss : List Int) : s1 (prL ns ss) = ns.sum := by
  unfold s1 prL; rw [List.map_map]
  show (List.map (fun a => ns.getD a 0) _).sum = _
  rw [range_getD]
theorem prL_s2 {ns ss : List Int} (h : ns.length = ss.length) : s2 (prL ns ss) = ss.sum := by
  unfold s2 prL; rw [List.map_map, h]
  show (List.map (fun a => ss.getD a 0) _).sum = _
  rw [range_getD]
theorem prL_sw {ns ss : List Int} (h : ns.length = ss.length) : swP (prL ns ss) = prL ss ns := by
  unfold swP prL; rw [List.map_map, h]; rfl
theorem prL_nn {ns ss : List Int} (hn : ∀ a, 0 ≤ ns.getD a 0) (hs : ∀ a, 0 ≤ ss.getD a 0) : ∀ p ∈ prL ns ss, 0 ≤ p.1 ∧ 0 ≤ p.2 := by
  intro p hp
  obtain ⟨a, _, rfl⟩ := List.mem_map.1 hp
  exact ⟨hn a, hs a⟩
theorem prR_area {ns ss : List Int} (hn : ∀ a, 0 ≤ ns.getD a 0) (hs : ∀ a, 0 ≤ ss.getD a 0) : areaF (prR ns ss) 0 = dSum (prL ns ss) := by
  rw [← dsum_perm (prR_perm ns ss)]
  apply area_dsum
  unfold prR
  rw [List.pairwise_map]
  rw [List.pairwise_iff_getElem]
  intro i j hi hj hij
  exact bef_le (row_gt hn hs hij (List.getElem?_eq_getElem hi) (List.getElem?_eq_getElem hj))
end Go.Proofs.Ytolpbbabmcpdkaa
