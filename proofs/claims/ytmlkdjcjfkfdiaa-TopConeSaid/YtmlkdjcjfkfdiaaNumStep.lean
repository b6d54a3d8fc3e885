/-
  One round of fromEach: what is known of the numbers; nothing of the program.
-/
import Derived.Test.YtmlkdjcjfkfdiaaNumM
import Derived.Test.YtmlkdjcjfkfdiaaByTimeNew
namespace Go.Proofs.Ytmlkdjcjfkfdiaa
open Go Go.RowKit

/-- What round k is handed. -/
def valE (ys : List Int) (n k : Nat) : Int := ys[n - 1 - k]?.getD 0
/-- The join of what stands at some hits. -/
def jX (J : Int → Int → Int) (xs : List Int) (l : List Int) : Int := (l.map fun b => xs.getD b.toNat 0).foldl J 0
theorem getD_box {xs : List Int} {M : Int} (h : ∀ x ∈ xs, 0 ≤ x ∧ x ≤ M) (hM : 0 ≤ M) (k : Nat) : 0 ≤ xs.getD k 0 ∧ xs.getD k 0 ≤ M := by
  rw [List.getD_eq_getElem?_getD]
  rcases Nat.lt_or_ge k xs.length with hk | hk
  · rw [List.getElem?_eq_getElem hk]; exact h _ (List.getElem_mem _)
  · rw [List.getElem?_eq_none hk]; exact ⟨Int.le_refl _, hM⟩
theorem jX_box {J : Int → Int → Int} (hJ : Small J) {xs l : List Int} {M : Int} (h : ∀ x ∈ xs, 0 ≤ x ∧ x ≤ M) (hM : 0 ≤ M) (hl : l.length ≤ 14) : 0 ≤ jX J xs l ∧ jX J xs l ≤ 14 * M := by
  have h2 := fold_small hJ M hM (l.map fun b => xs.getD b.toNat 0) 0 (Int.le_refl _) fun x hx => by
    obtain ⟨b, _, rfl⟩ := List.mem_map.1 hx
    exact getD_box h hM _
  rw [List.length_map] at h2
  have h3 : (l.length : Int) * M ≤ 14 * M := Int.mul_le_mul_of_nonneg_right (by omega) hM
  exact ⟨h2.1, by rw [jX]; omega⟩
/-- What is known of the numbers. -/
def InvN (ms : List (Int × Int)) (J : Int → Int → Int) (ys : List Int) (n : Nat) (pre : List (Fin n)) (xs : List Int) : Prop :=
  (∀ x ∈ xs, 0 ≤ x ∧ x ≤ 15 ^ pre.length) ∧ (pre.map Fin.val = List.range pre.length → ∀ k, k < pre.length → xs.getD (valE ys n k).toNat 0 = numI ms J (valE ys n k))
theorem bef_time {ms : List (Int × Int)} {a b : Int} (h : befI ms a b = true) : timeI ms a < timeI ms b := by
  simp only [befI, bef, timeI] at h ⊢
  simp at h
  omega
theorem invN_step {ms : List (Int × Int)} {J : Int → Int → Int} {ys : List Int} {pre : List (Fin ms.length)} {x : Fin ms.length} {xs : List Int} {v : Nat} (hJ : Small J) (hn2 : ms.length ≤ 14) (hp : ys.Perm (allL ms.length)) (hs : Srt (timeI ms) ys ms.length)
    (h : InvN ms J ys ms.length pre xs) (hx : xs.length = ms.length) (ev : valE ys ms.length x.val = (v : Int)) (hv : v < ms.length) : InvN ms J ys ms.length (pre ++ [x]) (xs.set v (1 + jX J xs (afterL ms v))) := by
  have hM : (0 : Int) ≤ 15 ^ pre.length := Int.pow_nonneg (by omega)
  have h1 : (1 : Int) ≤ 15 ^ pre.length := Int.add_one_le_of_lt (Int.pow_pos (by omega))
  have hb := jX_box hJ h.1 hM (after_len14 hn2 (v : Int))
  have hyl : ys.length = ms.length := hp.length_eq.trans (allL_len _)
  refine ⟨fun y hy => ?_, fun hr k hk => ?_⟩
  · rw [List.length_append, List.length_singleton, Int.pow_succ]
    rcases List.mem_or_eq_of_mem_set hy with e | e
    · have := h.1 y e; omega
    · subst e; omega
  · rw [List.length_append, List.length_singleton] at hr hk
    rw [List.map_append, List.range_succ] at hr
    obtain ⟨hr1, hr2⟩ := List.append_inj' hr rfl
    have hxl : x.val = pre.length := by simpa using hr2
    have hvs := h.2 hr1
    -- the hit's own number
    have hnew : (1 : Int) + jX J xs (afterL ms v) = numI ms J v := by
      have hva : ((v : Nat) : Int) ∈ allL ms.length := List.mem_map.2 ⟨v, List.mem_range.2 hv, rfl⟩
      rw [numI_eq hva, jX]
      congr 2
      refine List.map_congr_left fun b hb => ?_
      obtain ⟨hb1, hb2⟩ := mem_after.1 hb
      obtain ⟨p, hp1, hp2⟩ := List.getElem_of_mem (hp.mem_iff.2 hb1)
      have hlt := bef_time hb2
      have hpos : ms.length - 1 - x.val < p := by
        rcases Nat.lt_or_ge (ms.length - 1 - x.val) p with q | q
        · exact q
        · exfalso
          have e1 : ys.getD (ms.length - 1 - x.val) 0 = (v : Int) := by rw [List.getD_eq_getElem?_getD]; exact ev
          have e3 : ys.getD p 0 = b := by rw [List.getD_eq_getElem?_getD, List.getElem?_eq_getElem hp1, hp2]; rfl
          rcases Nat.lt_or_ge p (ms.length - 1 - x.val) with q2 | q2
          · have := hs p (ms.length - 1 - x.val) q2 (by omega)
            rw [e1, e3] at this
            omega
          · have e4 : p = ms.length - 1 - x.val := by omega
            rw [e4, e1] at e3
            rw [e3] at hlt
            omega
      have e2 : valE ys ms.length (ms.length - 1 - p) = b := by
        rw [valE, show ms.length - 1 - (ms.length - 1 - p) = p by omega, List.getElem?_eq_getElem hp1, hp2]; rfl
      have := hvs (ms.length - 1 - p) (by have := x.isLt; omega)
      rw [e2] at this
      exact this
    by_cases e : valE ys ms.length k = (v : Int)
    · rw [e, ← hnew, Int.toNat_natCast, List.getD_eq_getElem?_getD, List.getElem?_set_self (by omega)]; rfl
    · have hkl : k < pre.length := by
        rcases Nat.lt_or_ge k pre.length with q | q
        · exact q
        · exact absurd (by rw [show k = x.val by omega]; exact ev) e
      have hm : valE ys ms.length k ∈ allL ms.length := by
        have hx2 := x.isLt
        refine hp.mem_iff.1 ?_
        rw [valE, List.getElem?_eq_getElem (by omega)]
        exact List.getElem_mem _
      have hb0 := allL_mem hm
      rw [List.getD_eq_getElem?_getD, List.getElem?_set_ne (by omega), ← List.getD_eq_getElem?_getD]
      exact hvs k hkl
end Go.Proofs.Ytmlkdjcjfkfdiaa
