/-
  Plain words: the urgent plan as a list; what can be done against plans and stretches.
-/
import Derived.Test.YthanmiifcpajhaaRefUrgs
import Derived.Test.YthanmiifcpajhaaPlans
set_option linter.unusedVariables false
set_option linter.unusedSimpArgs false
namespace Go.Proofs.Ythanmiifcpajhaa
open Go Go.RowKit

theorem cn_congr {p q : Nat → Int} (h : ∀ m, m < 100 → p m = q m) (i : Nat) : cn p i 100 = cn q i 100 := cn_same i 100 h
theorem ri_congr {ts : List (Int × Int × Int)} {p q : Nat → Int} (h : ∀ m, m < 100 → p m = q m) : riB ts p = riB ts q := by
  have e1 : (List.range 100).all (opsB ts p) = (List.range 100).all (opsB ts q) := by
    rw [Bool.eq_iff_iff, List.all_eq_true, List.all_eq_true]
    constructor <;> intro H m hm <;> have := H m hm <;> have hm := List.mem_range.1 hm
    · rw [opsB, ← h m hm]; exact this
    · rw [opsB, h m hm]; exact this
  have e2 : (List.range ts.length).all (leB ts p) = (List.range ts.length).all (leB ts q) := by
    rw [show leB ts p = leB ts q from funext fun i => by rw [leB, leB, cn_congr h]]
  rw [riB, riB, e1, e2]
theorem da_congr {ts : List (Int × Int × Int)} {p q : Nat → Int} (h : ∀ m, m < 100 → p m = q m) : daB ts p = daB ts q := by
  rw [daB, daB, ri_congr h, show eqB ts p = eqB ts q from funext fun i => by rw [eqB, eqB, cn_congr h]]
theorem fr_congr {p q : Nat → Int} : ∀ k, (∀ m, m < k → p m = q m) → frI p k = frI q k
  | 0, _ => rfl
  | k + 1, h => by
    have ih := fr_congr k (fun m hm => h m (by omega))
    have e := h k (by omega)
    by_cases hk : q k = -1
    · rw [fr_in hk, fr_in (e.trans hk), ih]
    · rw [fr_out hk, fr_out (by rw [e]; exact hk), ih]
/-- The urgent plan, as a list. -/
def upL (ts : List (Int × Int × Int)) : List Int := vL (urF ts) 100
theorem up_isP (ts : List (Int × Int × Int)) : isP ts.length (upL ts) = true := by
  rw [isP_all (show (upL ts).length = 100 from vL_len _ _), List.all_eq_true]
  intro z hz
  obtain ⟨m, hm⟩ := List.getElem?_of_mem hz
  have := vL_rng ts 100 m z hm
  simp [inP]; omega
theorem up_pF (ts : List (Int × Int × Int)) : ∀ m, m < 100 → pF (upL ts) m = urF ts m := fun m hm => pF_vL hm
theorem up_er {ts : List (Int × Int × Int)} (hv : vaB ts = true) : erE ts (upL ts) = 0 := er_ok hv (up_isP ts)
theorem up_ri {ts : List (Int × Int × Int)} (hv : vaB ts = true) : riV ts (upL ts) = true := by
  rw [(ri_o (up_er hv)).1, ri_congr (up_pF ts)]; exact (ri_iff (ur_rng ts)).2 (ur_right ts hv)
theorem up_da {ts : List (Int × Int × Int)} (hv : vaB ts = true) : daV ts (upL ts) = canB ts := by
  rw [(ri_o (up_er hv)).2.1, da_congr (up_pF ts), daB, (ri_iff (ur_rng ts)).2 (ur_right ts hv), Bool.and_true]; rfl
theorem up_fr {ts : List (Int × Int × Int)} (hv : vaB ts = true) : frV ts (upL ts) = frI (urF ts) 100 := by
  rw [(ri_o (up_er hv)).2.2, fr_congr 100 (up_pF ts)]
theorem rt_of {ts : List (Int × Int × Int)} {ps : List Int} (h : riV ts ps = true) : erE ts ps = 0 ∧ Rt ts (pF ps) := by
  simp only [riV, Bool.and_eq_true, decide_eq_true_eq] at h
  exact ⟨h.1, (ri_iff (er_bd h.1)).1 h.2⟩
/-- Whatever plan does all, the urgent one does. -/
theorem da_can {ts : List (Int × Int × Int)} {ps : List Int} (hv : vaB ts = true) (h : daV ts ps = true) : canB ts = true := by
  simp only [daV, Bool.and_eq_true, decide_eq_true_eq] at h
  have hd := h.2
  simp only [daB, Bool.and_eq_true, List.all_eq_true] at hd
  refine plan_can hv ((ri_iff (er_bd h.1)).1 hd.2) fun i hi => ?_
  have := hd.1 i (List.mem_range.2 hi)
  simpa [eqB] using this
theorem stretch_nat {a b : Int} (h : isB a b = true) : ∃ x y : Nat, a = x ∧ b = y ∧ x < y ∧ y ≤ 100 := by
  simp [isB] at h
  exact ⟨a.toNat, b.toNat, by omega, by omega, by omega, by omega⟩
theorem io_can {ts : List (Int × Int × Int)} {a b : Int} (hv : vaB ts = true) (h : ioV ts a b 1 = true) : canB ts = false := by
  have h' := h
  simp only [ioV, Bool.and_eq_true, decide_eq_true_eq] at h'
  obtain ⟨x, y, rfl, rfl, hxy, hy⟩ := stretch_nat h'.1.2.1
  cases hc : canB ts with
  | false => rfl
  | true =>
    have := (can_fits hv).1 hc x y hxy hy
    have h2 := h'.2
    rw [slI] at h2
    omega
theorem ov_yes {ts : List (Int × Int × Int)} (hv : vaB ts = true) (hc : canB ts = true) : ovE ts = 5 := by
  rw [can_slack hv, decide_eq_true_eq, mnS_le] at hc
  exact (fs_none hc).2.2
theorem ov_no {ts : List (Int × Int × Int)} (hv : vaB ts = true) (hc : canB ts = false) : ovE ts = 0 ∧ isB (ovA ts) (ovB ts) = true ∧ slI ts (ovA ts) (ovB ts) 1 < 0 := by
  rw [can_slack hv, decide_eq_false_iff_not, mnS_le] at hc
  cases hf : fsS ts with
  | none =>
    exfalso
    apply hc
    rw [fsS, List.find?_eq_none] at hf
    intro x hx
    have := hf x hx
    simp at this; exact this
  | some x =>
    have h1 : stS ts x < 0 := by have := List.find?_some hf; simpa using this
    have h2 := mem_all.1 (List.mem_of_find?_eq_some hf)
    rw [ovA, ovB, ovE, hf]
    refine ⟨rfl, ?_, h1⟩
    simp only [isB, decide_eq_true_eq]
    omega
theorem io_ov {ts : List (Int × Int × Int)} (hv : vaB ts = true) (hc : canB ts = false) : ioV ts (ovA ts) (ovB ts) 1 = true ∧ ioE ts (ovA ts) (ovB ts) 1 = 0 := by
  obtain ⟨_, h1, h2⟩ := ov_no hv hc
  obtain ⟨e1, e2⟩ := io_o (k := 1) hv h1 (by decide)
  exact ⟨by rw [e2]; exact decide_eq_true h2, e1⟩
theorem mnS_min {ts : List (Int × Int × Int)} : ∀ (xs : List StE) (x : StE), x ∈ xs → mnS ts xs ≤ stS ts x := by
  suffices h : ∀ (xs : List StE) (m : Int), xs.foldl (fun m x => if m ≤ stS ts x then m else stS ts x) m ≤ m ∧ ∀ x ∈ xs, xs.foldl (fun m x => if m ≤ stS ts x then m else stS ts x) m ≤ stS ts x from fun xs x hx => (h xs 100).2 x hx
  intro xs
  induction xs with
  | nil => intro m; simp
  | cons y xs ih =>
    intro m
    rw [List.foldl_cons]
    obtain ⟨h1, h2⟩ := ih (if m ≤ stS ts y then m else stS ts y)
    refine ⟨?_, fun x hx => ?_⟩
    · split at h1 <;> rename_i hc
      · rw [if_pos hc]; exact h1
      · rw [if_neg hc]; omega
    · rcases List.mem_cons.1 hx with rfl | hx
      · split at h1 <;> rename_i hc
        · rw [if_pos hc]; omega
        · rw [if_neg hc]; exact h1
      · exact h2 x hx
theorem sl_min {ts : List (Int × Int × Int)} {a b : Int} (h : isB a b = true) : mnS ts allS ≤ b - a - dmI ts a b := by
  obtain ⟨x, y, rfl, rfl, hxy, hy⟩ := stretch_nat h
  have hm : elS x (y - x - 1) ∈ allS := mem_all.2 (by simp only [elS]; rw [Nat.mod_eq_of_lt (by omega), Nat.mod_eq_of_lt (by omega)]; omega)
  have := mnS_min (ts := ts) allS _ hm
  rw [stS_el (by omega) (by omega), slI] at this
  have e : (x : Int) + 1 + ((y - x - 1 : Nat) : Int) = y := by omega
  rw [e] at this
  omega
end Go.Proofs.Ythanmiifcpajhaa
