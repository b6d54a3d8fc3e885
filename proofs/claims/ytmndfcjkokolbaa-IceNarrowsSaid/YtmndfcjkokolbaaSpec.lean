/-
  Plain words for what ice answers; nothing of the program.
-/
import Derived.Test.YtmndfcjkokolbaaPlain
namespace Go.Proofs.Ytmndfcjkokolbaa
open Go Go.RowKit

def layB (m : Int × Int) : Bool := decide (1 ≤ m.1 ∧ m.1 ≤ 30 ∧ 0 ≤ m.2 ∧ m.2 ≤ 100)
def viB (ms : List (Int × Int)) : Bool := decide (1 ≤ ms.length ∧ ms.length ≤ 20) && ms.all layB
/-- The Dim of each metre. -/
def mtL (ms : List (Int × Int)) : List Int := ms.flatMap fun m => List.replicate m.1.toNat m.2
/-- The loss from the top to a depth. -/
def sumN (l : List Int) (k : Nat) : Int := (l.take k).sum
def preL (l : List Int) : List Int := (List.range (l.length + 1)).map (sumN l)
/-- The Dim of metres. -/
def dimsB (l : List Int) : Prop := (∀ d ∈ l, 0 ≤ d ∧ d ≤ 100) ∧ 1 ≤ l.length ∧ l.length ≤ 600
def lossI (l : List Int) (a b : Int) : Int := sumN l (max a b).toNat - sumN l (min a b).toNat

theorem vi_parts {ms : List (Int × Int)} (h : viB ms = true) : 1 ≤ ms.length ∧ ms.length ≤ 20 := by
  simp [viB] at h; exact h.1
theorem vi_all {ms : List (Int × Int)} (h : viB ms = true) : ∀ m ∈ ms, layB m = true := by
  simp only [viB, Bool.and_eq_true, List.all_eq_true] at h; exact h.2
theorem vi_at {ms : List (Int × Int)} {k : Nat} {a b : Int} (h : viB ms = true) (hx : ms[k]? = some (a, b)) : 1 ≤ a ∧ a ≤ 30 ∧ 0 ≤ b ∧ b ≤ 100 := by
  simpa [layB] using vi_all h _ (List.mem_of_getElem? hx)
theorem vi_len {ms : List (Int × Int)} (hn : ¬ (1 ≤ ms.length ∧ ms.length ≤ 20)) : false = viB ms := by
  rw [viB, decide_eq_false hn]; rfl
theorem vi_yes {ms : List (Int × Int)} (hn : 1 ≤ ms.length ∧ ms.length ≤ 20) (h : ms.all layB = true) : true = viB ms := by
  rw [viB, decide_eq_true hn, h]; rfl
theorem vi_any {ms : List (Int × Int)} (hn : 1 ≤ ms.length ∧ ms.length ≤ 20) : (!(ms.any fun m => !layB m)) = viB ms := by
  rw [viB, decide_eq_true hn, List.any_eq_not_all_not]; simp

theorem mt_snoc {ms : List (Int × Int)} {k : Nat} {m : Int × Int} (h : ms[k]? = some m) : mtL (ms.take (k + 1)) = mtL (ms.take k) ++ List.replicate m.1.toNat m.2 := by
  rw [mtL, take_snoc h, List.flatMap_append]; simp [mtL]
theorem rep_snoc (l : List Int) (j : Nat) (d : Int) : l ++ List.replicate (j + 1) d = (l ++ List.replicate j d) ++ [d] := by
  rw [List.replicate_succ', List.append_assoc]
theorem sumN_app {l t : List Int} {k : Nat} (h : k ≤ l.length) : sumN (l ++ t) k = sumN l k := by
  rw [sumN, List.take_append_of_le_length h, sumN]
theorem sumN_all {l : List Int} : sumN l l.length = l.sum := by rw [sumN, List.take_length]
theorem sumN_zero {l : List Int} : sumN l 0 = 0 := rfl
theorem sumN_succ {l : List Int} {k : Nat} {d : Int} (h : l[k]? = some d) : sumN l (k + 1) = sumN l k + d := by
  rw [sumN, take_snoc h, List.sum_append_int, sumN]; simp
theorem preL_nil : preL [] = [0] := rfl
theorem preL_len (l : List Int) : (preL l).length = l.length + 1 := by simp [preL]
theorem preL_get {l : List Int} {k : Nat} (h : k ≤ l.length) : (preL l)[k]? = some (sumN l k) := by
  rw [preL, List.getElem?_map, List.getElem?_range (by omega)]; rfl
theorem preL_snoc (l : List Int) (d : Int) : preL (l ++ [d]) = preL l ++ [l.sum + d] := by
  rw [preL, List.length_append, List.length_singleton, List.range_succ, List.map_append]
  congr 1
  · rw [preL]
    apply List.map_congr_left
    intro k hk
    exact sumN_app (by have := List.mem_range.1 hk; omega)
  · simp only [List.map_cons, List.map_nil]
    rw [sumN_succ (d := d) (by simp), sumN_app (Nat.le_refl _), sumN_all]
theorem sum_bd : ∀ {l : List Int}, (∀ d ∈ l, 0 ≤ d ∧ d ≤ 100) → 0 ≤ l.sum ∧ l.sum ≤ 100 * l.length
  | [], _ => by simp
  | d :: t, h => by
    have := sum_bd (l := t) (fun x hx => h x (by simp [hx]))
    have := h d (by simp)
    simp only [List.sum_cons, List.length_cons]; omega
theorem sumN_bd {l : List Int} (h : ∀ d ∈ l, 0 ≤ d ∧ d ≤ 100) (k : Nat) : 0 ≤ sumN l k ∧ sumN l k ≤ 100 * l.length := by
  have := sum_bd (l := l.take k) (fun d hd => h d (List.mem_of_mem_take hd))
  have hl : (l.take k).length ≤ l.length := by rw [List.length_take]; omega
  rw [sumN]; omega
theorem sumN_mono {l : List Int} (h : ∀ d ∈ l, 0 ≤ d ∧ d ≤ 100) {j k : Nat} (hjk : j ≤ k) : sumN l j ≤ sumN l k := by
  induction k with
  | zero => obtain rfl : j = 0 := by omega
            exact Int.le_refl _
  | succ k ih =>
    by_cases e : j = k + 1
    · rw [e]; exact Int.le_refl _
    · have h1 := ih (by omega)
      rcases Nat.lt_or_ge k l.length with hk | hk
      · obtain ⟨d, hd⟩ := getElem?_of_lt hk
        have := h d (List.mem_of_getElem? hd)
        rw [sumN_succ hd]; omega
      · have e : l.take (k + 1) = l.take k := by rw [List.take_of_length_le (by omega), List.take_of_length_le (i := k) hk]
        rw [show sumN l (k + 1) = sumN l k by rw [sumN, e, sumN]]; exact h1
theorem mt_len {ms : List (Int × Int)} (h : ∀ m ∈ ms, layB m = true) : ms.length ≤ (mtL ms).length ∧ (mtL ms).length ≤ 30 * ms.length := by
  induction ms with
  | nil => simp [mtL]
  | cons m t ih =>
    have h1 := ih (fun x hx => h x (by simp [hx]))
    have h2 := h m (by simp)
    simp only [layB, decide_eq_true_eq] at h2
    simp only [mtL, List.flatMap_cons, List.length_append, List.length_replicate, List.length_cons] at h1 ⊢
    omega
theorem mt_dims {ms : List (Int × Int)} (h : ∀ m ∈ ms, layB m = true) : ∀ d ∈ mtL ms, 0 ≤ d ∧ d ≤ 100 := by
  intro d hd
  obtain ⟨m, hm, hd⟩ := List.mem_flatMap.1 hd
  have h2 := h m hm
  simp only [layB, decide_eq_true_eq] at h2
  rw [(List.mem_replicate.1 hd).2]; omega
theorem mt_ok {ms : List (Int × Int)} (h : viB ms = true) : dimsB (mtL ms) :=
  ⟨mt_dims (vi_all h), by have := mt_len (vi_all h); have := vi_parts h; omega, by have := mt_len (vi_all h); have := vi_parts h; omega⟩
theorem dims_bd {l : List Int} (h : dimsB l) (k : Nat) : 0 ≤ sumN l k ∧ sumN l k ≤ 60000 := by
  have := sumN_bd h.1 k; have := h.2; omega
theorem loss_bd {l : List Int} (h : dimsB l) (a b : Int) : 0 ≤ lossI l a b ∧ lossI l a b ≤ 60000 := by
  have h1 := sumN_mono h.1 (show (min a b).toNat ≤ (max a b).toNat by omega)
  have h2 := dims_bd h (max a b).toNat
  have h3 := dims_bd h (min a b).toNat
  unfold lossI; omega

/-! ### how far light comes -/
def runN : List Int → Int → Nat
  | [], _ => 0
  | d :: t, s => if d ≤ s then 1 + runN t (s - d) else 0
def dnN (l : List Int) (f : Nat) (s : Int) : Nat := f + runN (l.drop f) s
def upN (l : List Int) (f : Nat) (s : Int) : Nat := f - runN (l.take f).reverse s
theorem drop_at {l : List Int} {k : Nat} {d : Int} (h : l[k]? = some d) : l.drop k = d :: l.drop (k + 1) := by
  obtain ⟨hk, e⟩ := List.getElem?_eq_some_iff.1 h
  rw [List.drop_eq_getElem_cons hk, e]
theorem dn_step {l : List Int} {f : Nat} {s d : Int} (h : l[f]? = some d) (hd : d ≤ s) : dnN l f s = dnN l (f + 1) (s - d) := by
  rw [dnN, drop_at h, runN, if_pos hd, dnN]; omega
theorem dn_stop {l : List Int} {f : Nat} {s d : Int} (h : l[f]? = some d) (hd : ¬ d ≤ s) : dnN l f s = f := by
  rw [dnN, drop_at h, runN, if_neg hd]; rfl
theorem dn_end {l : List Int} {f : Nat} {s : Int} (h : l.length ≤ f) : dnN l f s = f := by
  rw [dnN, List.drop_eq_nil_of_le h]; rfl
theorem up_step {l : List Int} {f : Nat} {s d : Int} (h : l[f]? = some d) (hd : d ≤ s) : upN l (f + 1) s = upN l f (s - d) := by
  rw [upN, take_snoc h, List.reverse_append, List.reverse_singleton, List.singleton_append, runN, if_pos hd, upN]; omega
theorem up_stop {l : List Int} {f : Nat} {s d : Int} (h : l[f]? = some d) (hd : ¬ d ≤ s) : upN l (f + 1) s = f + 1 := by
  rw [upN, take_snoc h, List.reverse_append, List.reverse_singleton, List.singleton_append, runN, if_neg hd]; rfl
theorem up_end {l : List Int} {s : Int} : upN l 0 s = 0 := by simp [upN]
theorem run_le : ∀ (l : List Int) (s : Int), runN l s ≤ l.length
  | [], _ => Nat.le_refl _
  | d :: t, s => by
    rw [runN]
    split
    · have := run_le t (s - d); simp only [List.length_cons]; omega
    · exact Nat.zero_le _
theorem dn_bd {l : List Int} {f : Nat} {s : Int} (h : f ≤ l.length) : f ≤ dnN l f s ∧ dnN l f s ≤ l.length := by
  have := run_le (l.drop f) s; rw [List.length_drop] at this; unfold dnN; omega
theorem up_bd {l : List Int} {f : Nat} {s : Int} : upN l f s ≤ f := by unfold upN; omega
end Go.Proofs.Ytmndfcjkokolbaa
