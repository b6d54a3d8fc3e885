/-
  Plain facts on the curve; nothing of the program.
-/
import Derived.Test.YtolpbbabmcpdkaaAreaM
set_option linter.unusedVariables false
set_option linter.unusedSimpArgs false
namespace Go.Proofs.Ytolpbbabmcpdkaa
open Go Go.RowKit

/-- What the cut of k keeps, as weights. -/
def cvP (ns ss : List Int) (k : Nat) : Int × Int := (s1 ((prR ns ss).take k), s2 ((prR ns ss).take k))
def cvL (ns ss : List Int) (m : Nat) : List (Int × Int) := (List.range m).map (cvP ns ss)
theorem cvL_succ (ns ss : List Int) (m : Nat) : cvL ns ss (m + 1) = cvL ns ss m ++ [cvP ns ss m] := by simp [cvL, List.range_succ]
theorem cvL_len (ns ss : List Int) (m : Nat) : (cvL ns ss m).length = m := by simp [cvL]
theorem cvL_get {ns ss : List Int} {m k : Nat} (h : k < m) : (cvL ns ss m)[k]? = some (cvP ns ss k) := by simp [cvL, List.getElem?_map, List.getElem?_range h]
theorem cv_zero (ns ss : List Int) : cvP ns ss 0 = (0, 0) := rfl
theorem prR_len (ns ss : List Int) : (prR ns ss).length = ns.length := by simp [prR, row_len]
theorem s1_snoc {ps : List (Int × Int)} {k : Nat} {p : Int × Int} (h : ps[k]? = some p) : s1 (ps.take (k + 1)) = s1 (ps.take k) + p.1 := by rw [take_snoc h]; simp [s1]
theorem s2_snoc {ps : List (Int × Int)} {k : Nat} {p : Int × Int} (h : ps[k]? = some p) : s2 (ps.take (k + 1)) = s2 (ps.take k) + p.2 := by rw [take_snoc h]; simp [s2]
/-- An outcome of the row: its number, and its weights. -/
theorem row_get {ns ss : List Int} {k : Nat} (h : k < ns.length) : ∃ a : Nat, a < ns.length ∧ (rowL ns ss)[k]? = some (a : Int) ∧ (prR ns ss)[k]? = some (ns.getD a 0, ss.getD a 0) := by
  obtain ⟨a, ha⟩ := getElem?_of_lt (zs := rowN ns ss) (k := k) (by rw [row_len]; exact h)
  exact ⟨a, row_mem.1 (List.mem_of_getElem? ha), by rw [rowL, List.getElem?_map, ha]; rfl, by rw [prR, List.getElem?_map, ha]; rfl⟩
theorem cv_succ {ns ss : List Int} {k : Nat} {n s : Int} (h : (prR ns ss)[k]? = some (n, s)) : cvP ns ss (k + 1) = ((cvP ns ss k).1 + n, (cvP ns ss k).2 + s) := by
  unfold cvP; rw [s1_snoc h, s2_snoc h]
theorem area_snoc : ∀ (ps : List (Int × Int)) (p : Int × Int) (x : Int), areaF (ps ++ [p]) x = areaF ps x + p.1 * ((x + s2 ps) + (x + s2 ps) + p.2)
  | [], p, x => by simp [areaF, s2]
  | q :: t, p, x => by
    have e : s2 (q :: t) = q.2 + s2 t := by simp [s2]
    rw [List.cons_append, areaF, area_snoc t p (x + q.2), areaF, e]
    rw [show x + q.2 + s2 t = x + (q.2 + s2 t) by omega]
    omega
theorem area_take {ns ss : List Int} {k : Nat} {n s : Int} (h : (prR ns ss)[k]? = some (n, s)) : areaF ((prR ns ss).take (k + 1)) 0 = areaF ((prR ns ss).take k) 0 + ((cvP ns ss (k + 1)).1 - (cvP ns ss k).1) * ((cvP ns ss k).2 + (cvP ns ss (k + 1)).2) := by
  rw [take_snoc h, area_snoc, cv_succ h]
  unfold cvP
  dsimp only
  rw [Int.zero_add]
  congr 1
  rw [show s1 ((prR ns ss).take k) + n - s1 ((prR ns ss).take k) = n by omega]
  congr 1
  omega
/-- The areas of the first k outcomes. -/
def arK (ns ss : List Int) (k : Nat) : Int := areaF ((prR ns ss).take k) 0
theorem cv_bd {ns ss : List Int} (h : ∀ p ∈ prR ns ss, (0 ≤ p.1 ∧ p.1 ≤ 1000) ∧ 0 ≤ p.2 ∧ p.2 ≤ 1000) : ∀ k, k ≤ ns.length → (0 ≤ (cvP ns ss k).1 ∧ (cvP ns ss k).1 ≤ 1000 * k) ∧ (0 ≤ (cvP ns ss k).2 ∧ (cvP ns ss k).2 ≤ 1000 * k) := by
  intro k
  induction k with
  | zero => intro _; rw [cv_zero]; simp
  | succ k ih =>
    intro hk
    obtain ⟨⟨n, s⟩, hp⟩ := getElem?_of_lt (zs := prR ns ss) (k := k) (by rw [prR_len]; omega)
    have b := h _ (List.mem_of_getElem? hp)
    have i := ih (by omega)
    rw [cv_succ hp]
    dsimp only at *
    omega
theorem ar_bd {ns ss : List Int} (hn : ns.length ≤ 10) (h : ∀ p ∈ prR ns ss, (0 ≤ p.1 ∧ p.1 ≤ 1000) ∧ 0 ≤ p.2 ∧ p.2 ≤ 1000) : ∀ k, k ≤ ns.length → 0 ≤ arK ns ss k ∧ arK ns ss k ≤ 20000000 * k := by
  intro k
  induction k with
  | zero => intro _; simp [arK, areaF]
  | succ k ih =>
    intro hk
    obtain ⟨⟨n, s⟩, hp⟩ := getElem?_of_lt (zs := prR ns ss) (k := k) (by rw [prR_len]; omega)
    have b := h _ (List.mem_of_getElem? hp)
    have i := ih (by omega)
    have c1 := cv_bd h k (by omega)
    have c2 := cv_bd h (k + 1) hk
    have e := area_take hp
    have e2 := cv_succ hp
    have e3 : (cvP ns ss (k + 1)).1 - (cvP ns ss k).1 = n := by rw [e2]; dsimp only; omega
    rw [e3] at e
    unfold arK at *
    dsimp only at b
    have x0 : 0 ≤ n * ((cvP ns ss k).2 + (cvP ns ss (k + 1)).2) := Int.mul_nonneg b.1.1 (by omega)
    have x1 : n * ((cvP ns ss k).2 + (cvP ns ss (k + 1)).2) ≤ 1000 * 20000 := Int.mul_le_mul b.1.2 (by omega) (by omega) (by omega)
    omega
theorem arK_all {ns ss : List Int} (hn : ∀ a, 0 ≤ ns.getD a 0) (hs : ∀ a, 0 ≤ ss.getD a 0) : arK ns ss ns.length = dSum (prL ns ss) := by
  unfold arK
  rw [← prR_area hn hs, List.take_of_length_le (by rw [prR_len]; exact Nat.le_refl _)]
theorem cv_all {ns ss : List Int} (h : ns.length = ss.length) : cvP ns ss ns.length = (ns.sum, ss.sum) := by
  unfold cvP
  rw [List.take_of_length_le (by rw [prR_len]; exact Nat.le_refl _), s1_perm (prR_perm ns ss), s2_perm (prR_perm ns ss), prL_s1, prL_s2 h]
theorem Od.pr {ns ss : List Int} (h : Od ns ss) : ∀ p ∈ prR ns ss, (0 ≤ p.1 ∧ p.1 ≤ 1000) ∧ 0 ≤ p.2 ∧ p.2 ≤ 1000 := by
  intro p hp
  obtain ⟨a, _, rfl⟩ := List.mem_map.1 hp
  exact ⟨getD_bd (by omega) h.nb a, getD_bd (by omega) h.sb a⟩
end Go.Proofs.Ytolpbbabmcpdkaa
