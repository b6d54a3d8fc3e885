/-
  The numbers of the axis (plain).
-/
import Derived.Test.YtoilbgngefleiaaStripW
import Derived.Test.YtoilbgngefleiaaLeastM
namespace Go.Proofs.Ytoilbgngefleiaa
open Go.RowKit Go.Shelf
set_option linter.unusedVariables false
set_option linter.unusedSimpArgs false

theorem nar_small {ms : List (Int × Int)} (hv : viP ms = true) : (-4000 ≤ (narL ms).1 ∧ (narL ms).1 ≤ 4000) ∧ (1 ≤ (narL ms).2.2 ∧ (narL ms).2.2 ≤ 400) ∧ (-2400000 ≤ (narL ms).2.1 ∧ (narL ms).2.1 ≤ 2400000) := by
  obtain ⟨⟨hn1, _⟩, hpt, _⟩ := vi_parts hv
  obtain ⟨p, hp, q, hq, hne, e⟩ := nar_pair hv
  have h1 := th_bd (hpt _ hp) (hpt _ hq) hne
  have h2 := am_bd (show 0 < ms.length by omega) hpt (hpt _ hp) (hpt _ hq) hne
  rw [e]
  unfold amL
  dsimp only
  omega
theorem nar_lnB {ms : List (Int × Int)} (hv : viP ms = true) : lnB (narL ms).1 (narL ms).2.1 (narL ms).2.2 = true := by
  obtain ⟨ha, hd, hb⟩ := nar_small hv
  exact ln_ok (decide_eq_true (by omega)) (decide_eq_true (by omega)) (by omega)
theorem nar_wid {ms : List (Int × Int)} (hv : viP ms = true) : ckE ms (narL ms).1 (narL ms).2.1 (narL ms).2.2 = 0 ∧ widRV ms (narL ms).1 (narL ms).2.1 (narL ms).2.2 = nrV ms := by
  have h0 : ckE ms (narL ms).1 (narL ms).2.1 (narL ms).2.2 = 0 := by rw [ckE, hv, nar_lnB hv]; rfl
  exact ⟨h0, by rw [widRV, if_pos h0, nrV, widT]⟩
end Go.Proofs.Ytoilbgngefleiaa
