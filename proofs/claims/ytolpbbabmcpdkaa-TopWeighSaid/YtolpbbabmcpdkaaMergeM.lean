/-
  Plain facts on a merge of two outcomes: sums, area, difference, and cuts. Nothing of the program.
-/
import Derived.Test.YtolpbbabmcpdkaaDelete
import Derived.Test.YtolpbbabmcpdkaaNotMore
set_option linter.unusedVariables false
set_option linter.unusedSimpArgs false
namespace Go.Proofs.Ytolpbbabmcpdkaa
open Go Go.RowKit

def skN (b j : Nat) : Nat := if j < b then j else j + 1
theorem rng_perm {n b : Nat} (h : b < n) : (List.range n).Perm (b :: (List.range (n - 1)).map (skN b)) := by
  refine (List.perm_ext_iff_of_nodup List.nodup_range ?_).2 ?_
  · refine List.nodup_cons.2 ⟨?_, ?_⟩
    · intro hm
      obtain ⟨j, _, hj⟩ := List.mem_map.1 hm
      unfold skN at hj
      split at hj <;> omega
    · refine List.Pairwise.map _ (R := (· ≠ ·)) ?_ List.nodup_range
      intro x y hxy
      unfold skN
      split <;> split <;> omega
  · intro x
    rw [List.mem_range, List.mem_cons, List.mem_map]
    constructor
    · intro hx
      by_cases e : x = b
      · exact Or.inl e
      · refine Or.inr ?_
        by_cases hlt : x < b
        · exact ⟨x, List.mem_range.2 (by omega), by unfold skN; rw [if_pos hlt]⟩
        · exact ⟨x - 1, List.mem_range.2 (by omega), by unfold skN; rw [if_neg (by omega)]; omega⟩
    · rintro (rfl | ⟨j, hj, rfl⟩)
      · exact h
      · have := List.mem_range.1 hj
        unfold skN
        split <;> omega
theorem rng_erase {n a : Nat} (h : a < n) : (List.range n).Perm (a :: (List.range n).erase a) := List.perm_cons_erase (List.mem_range.2 h)
/-- The outcomes that a merge leaves alone, by their new numbers. -/
def rsN (n a : Nat) : List Nat := (List.range (n - 1)).erase a
theorem rs_ne {n a j : Nat} (h : j ∈ rsN n a) : j ≠ a ∧ j < n - 1 := by
  have h2 := (List.Nodup.mem_erase_iff List.nodup_range).1 h
  exact ⟨h2.1, List.mem_range.1 h2.2⟩
theorem mg_len {xs : List Int} {a b : Nat} (hb : b < xs.length) : (mgL xs a b).length = xs.length - 1 := by
  rw [mg_eq hb, List.length_append, List.length_take, List.length_drop]
  simp only [stM, List.length_set]
  omega
theorem mg_get {xs : List Int} {a b j : Nat} (hab : a < b) (hb : b < xs.length) (hj : j < xs.length - 1) : (mgL xs a b).getD j 0 = if j = a then xs.getD a 0 + xs.getD b 0 else xs.getD (skN b j) 0 := by
  rw [mg_eq hb]
  simp only [List.getD_eq_getElem?_getD]
  have hl : (stM xs a b).length = xs.length := by simp [stM]
  by_cases hjb : j < b
  · rw [List.getElem?_append_left (by rw [List.length_take]; omega), List.getElem?_take, if_pos hjb]
    unfold stM skN
    rw [if_pos hjb, List.getElem?_set]
    by_cases e : j = a
    · subst e
      rw [if_pos rfl, if_pos rfl, if_pos (by omega)]
      simp [List.getD_eq_getElem?_getD]
    · rw [if_neg (by omega), if_neg e]
  · rw [List.getElem?_append_right (by rw [List.length_take]; omega), List.length_take, List.getElem?_drop]
    unfold stM skN
    rw [if_neg hjb, List.getElem?_set, if_neg (by omega), if_neg (by omega)]
    congr 2
    simp only [List.length_set]
    omega
/-- A sum over all outcomes, those of the merge apart. -/
theorem sum_apart {n a b : Nat} (hab : a < b) (hb : b < n) (f : Nat → Int) : ((List.range n).map f).sum = f b + (f a + ((rsN n a).map fun j => f (skN b j)).sum) := by
  rw [sum_perm ((rng_perm hb).map f), List.map_cons, List.sum_cons, List.map_map, sum_perm ((rng_erase (show a < n - 1 by omega)).map (f ∘ skN b)), List.map_cons, List.sum_cons]
  have e : skN b a = a := by unfold skN; rw [if_pos hab]
  simp only [Function.comp, e]
  rfl
theorem sum_whole {n a : Nat} (ha : a < n - 1) (f : Nat → Int) : ((List.range (n - 1)).map f).sum = f a + ((rsN n a).map f).sum := by
  rw [sum_perm ((rng_erase ha).map f), List.map_cons, List.sum_cons]
  rfl
theorem mg_mS {xs : List Int} {a b : Nat} (hab : a < b) (hb : b < xs.length) (f : Nat → Bool) :
    mS xs xs.length (fun i => if i = b then f a else if i < b then f i else f (i - 1)) = mS (mgL xs a b) (xs.length - 1) f := by
  unfold mS
  rw [sum_apart hab hb, sum_whole (show a < xs.length - 1 by omega)]
  rw [mg_get hab hb (show a < xs.length - 1 by omega)]
  have e : ((rsN xs.length a).map fun j => (if (if skN b j = b then f a else if skN b j < b then f (skN b j) else f (skN b j - 1)) = true then xs.getD (skN b j) 0 else 0)).sum = ((rsN xs.length a).map fun i => if f i = true then (mgL xs a b).getD i 0 else 0).sum := by
    refine sum_congr _ _ _ fun j hj => ?_
    obtain ⟨h1, h2⟩ := rs_ne hj
    rw [mg_get hab hb h2, if_neg h1]
    have : skN b j ≠ b := by unfold skN; split <;> omega
    rw [if_neg this]
    have e2 : (if skN b j < b then f (skN b j) else f (skN b j - 1)) = f j := by
      unfold skN
      by_cases h : j < b
      · rw [if_pos h, if_pos h]
      · rw [if_neg h, if_neg (by omega), Nat.add_sub_cancel]
    rw [e2]
  rw [e]
  dsimp only
  have n1 : ¬ a = b := by omega
  simp only [↓reduceIte, n1, hab]
  cases f a <;> simp <;> omega
theorem mg_sum {xs : List Int} {a b : Nat} (hab : a < b) (hb : b < xs.length) : (mgL xs a b).sum = xs.sum := by
  have h1 := ofM_all (zs := xs) rfl
  have h2 := ofM_all (mg_len (a := a) hb)
  rw [← h1, ← h2, ← mg_mS hab hb]
  congr 1
  funext i
  split <;> (try split) <;> rfl
/-- A cut of the merged odds is one of the given ones that keeps as much. -/
theorem mg_cut {ns ss : List Int} {a b : Nat} (hl : ns.length = ss.length) (hab : a < b) (hb : b < ns.length) {cs : List Int} (hc : cutB (mgL ns a b).length cs = true) :
    ∃ os, cutB ns.length os = true ∧ keptL ns os = keptL (mgL ns a b) cs ∧ keptL ss os = keptL (mgL ss a b) cs := by
  refine ⟨ofM ns.length (fun i => if i = b then cs.contains ((a : Nat) : Int) else if i < b then cs.contains ((i : Nat) : Int) else cs.contains (((i - 1 : Nat)) : Int)), ofM_cut _ _, ?_, ?_⟩
  · rw [cut_of hc, kept_mS, kept_mS, mg_len hb, ← cut_of (by rw [mg_len hb] at hc; exact hc)]
    exact mg_mS hab hb (fun i => cs.contains ((i : Nat) : Int))
  · rw [cut_of hc, kept_mS, kept_mS, mg_len hb, ← cut_of (by rw [mg_len hb] at hc; exact hc), hl]
    exact mg_mS hab (by omega) (fun i => cs.contains ((i : Nat) : Int))
theorem mg_prs {ns ss : List Int} {a b : Nat} (hl : ns.length = ss.length) (hab : a < b) (hb : b < ns.length) :
    ∃ p q t, (prL ns ss).Perm (p :: q :: t) ∧ (prL (mgL ns a b) (mgL ss a b)).Perm (mrg p q :: t) := by
  refine ⟨(ns.getD a 0, ss.getD a 0), (ns.getD b 0, ss.getD b 0), (rsN ns.length a).map fun j => (ns.getD (skN b j) 0, ss.getD (skN b j) 0), ?_, ?_⟩
  · refine ((rng_perm hb).map _).trans ?_
    rw [List.map_cons, List.map_map]
    refine (List.Perm.cons _ ((rng_erase (show a < ns.length - 1 by omega)).map _)).trans ?_
    have e : skN b a = a := by unfold skN; rw [if_pos hab]
    rw [List.map_cons]
    simp only [Function.comp, e]
    exact List.Perm.swap _ _ _
  · unfold prL
    rw [mg_len hb]
    refine ((rng_erase (show a < ns.length - 1 by omega)).map _).trans ?_
    rw [List.map_cons, mg_get hab hb (by omega), mg_get hab (by omega) (by omega), if_pos rfl, if_pos rfl]
    refine List.Perm.of_eq ?_
    congr 1
    refine List.map_congr_left fun j hj => ?_
    obtain ⟨h1, h2⟩ := rs_ne hj
    rw [mg_get hab hb h2, mg_get hab (by omega) (by omega), if_neg h1, if_neg h1]
theorem mg_area {ns ss : List Int} {a b : Nat} (hl : ns.length = ss.length) (hab : a < b) (hb : b < ns.length) : dSum (prL (mgL ns a b) (mgL ss a b)) ≤ dSum (prL ns ss) ∧ apSum (prL (mgL ns a b) (mgL ss a b)) ≤ apSum (prL ns ss) := by
  obtain ⟨p, q, t, h1, h2⟩ := mg_prs (ss := ss) hl hab hb
  rw [dsum_perm h1, dsum_perm h2, ap_perm h1, ap_perm h2]
  exact ⟨dsum_mrg p q t, ap_mrg p q t⟩
theorem mg_more {ns ss : List Int} {a b : Nat} (ho : Od ns ss) (hab : a < b) (hb : b < ns.length) :
    (¬ arN ns ss * arD (mgL ns a b) (mgL ss a b) < arN (mgL ns a b) (mgL ss a b) * arD ns ss) ∧
    (¬ lowN (apV ns ss) (unV ns ss 1) * lowD (apV (mgL ns a b) (mgL ss a b)) (unV (mgL ns a b) (mgL ss a b) 1) < lowN (apV (mgL ns a b) (mgL ss a b)) (unV (mgL ns a b) (mgL ss a b) 1) * lowD (apV ns ss) (unV ns ss 1)) := by
  have hl := ho.len
  have hb2 : b < ss.length := by omega
  obtain ⟨h1, h2⟩ := mg_area (ss := ss) hl hab hb
  have u1 := ho.np
  have u2 := ho.sp
  have ea := ap_sum hl
  have eb := ap_sum (ns := mgL ns a b) (ss := mgL ss a b) (by rw [mg_len hb, mg_len hb2, hl])
  unfold arN arD
  rw [ea, eb, un_one, un_one, mg_sum hab hb, mg_sum hab hb2]
  constructor
  · have hp : 0 < 2 * ns.sum * ss.sum := Int.mul_pos (by omega) u2
    rw [low_cross hp hp]
    have := Int.mul_le_mul_of_nonneg_right h1 (Int.le_of_lt hp)
    omega
  · have hp : 0 < ss.sum * ns.sum := Int.mul_pos u2 u1
    rw [low_cross hp hp]
    have := Int.mul_le_mul_of_nonneg_right h2 (Int.le_of_lt hp)
    omega
theorem mg_nn {xs : List Int} {a b : Nat} (hab : a < b) (hb : b < xs.length) (hx : ∀ z ∈ xs, 0 ≤ z ∧ z ≤ 1000) : ∀ z ∈ mgL xs a b, 0 ≤ z ∧ z ≤ 2000 := by
  intro z hz
  obtain ⟨j, hj, rfl⟩ := List.mem_iff_getElem.1 hz
  have hj2 : j < xs.length - 1 := by rw [← mg_len (a := a) hb]; exact hj
  have e := mg_get hab hb hj2
  rw [List.getD_eq_getElem?_getD, List.getElem?_eq_getElem hj] at e
  have e' : (mgL xs a b)[j] = _ := e
  have b1 := getD_bd (by omega) hx a
  have b2 := getD_bd (by omega) hx b
  have b3 := getD_bd (by omega) hx (skN b j)
  rw [e']
  split <;> omega
/-- Merged odds that are none have a weight that is too great. -/
theorem mg_over {ns ss : List Int} {a b : Nat} (ho : Od ns ss) (hab : a < b) (hb : b < ns.length) (hm : odB (mgL ns a b) (mgL ss a b) = false) : (∃ z ∈ mgL ns a b, 1000 < z) ∨ ∃ z ∈ mgL ss a b, 1000 < z := by
  have hl := ho.len
  have hle := ho.le
  have hb2 : b < ss.length := by omega
  refine Classical.byContradiction fun hc => ?_
  have c1 : (mgL ns a b).all wtB = true := List.all_eq_true.2 fun z hz => by
    have := mg_nn hab hb ho.nb z hz
    have h2 : ¬ 1000 < z := fun h => hc (Or.inl ⟨z, hz, h⟩)
    simp only [wtB, Bool.and_eq_true, decide_eq_true_eq]
    omega
  have c2 : (mgL ss a b).all wtB = true := List.all_eq_true.2 fun z hz => by
    have := mg_nn hab hb2 ho.sb z hz
    have h2 : ¬ 1000 < z := fun h => hc (Or.inr ⟨z, hz, h⟩)
    simp only [wtB, Bool.and_eq_true, decide_eq_true_eq]
    omega
  have u1 := ho.np
  have u2 := ho.sp
  have : odB (mgL ns a b) (mgL ss a b) = true := by
    unfold odB wsB
    rw [c1, c2, mg_sum hab hb, mg_sum hab hb2, mg_len hb, mg_len hb2, decide_eq_true (by omega), decide_eq_true (by omega), decide_eq_true u1, decide_eq_true u2]
    rfl
  rw [this] at hm
  cases hm
end Go.Proofs.Ytolpbbabmcpdkaa
