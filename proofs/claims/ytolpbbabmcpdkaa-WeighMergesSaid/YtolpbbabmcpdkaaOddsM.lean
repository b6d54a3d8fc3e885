/-
  Plain words for odds, cuts, the row and what they keep; nothing of the program.
-/
import Derived.Test.YtolpbbabmcpdkaaPlain
import Derived.Lib.Hide
set_option linter.unusedVariables false
set_option linter.unusedSimpArgs false
namespace Go.Proofs.Ytolpbbabmcpdkaa
open Go Go.RowKit

def wtB (x : Int) : Bool := decide (0 ≤ x) && decide (x ≤ 1000)
def wsB (zs : List Int) : Bool := zs.all wtB && decide (0 < zs.sum)
/-- Odds are valid. -/
def odB (ns ss : List Int) : Bool := (decide (ns.length = ss.length) && decide (ns.length ≤ 10)) && (wsB ns && wsB ss)

theorem sum_perm {xs ys : List Int} (h : xs.Perm ys) : xs.sum = ys.sum := by
  induction h with
  | nil => rfl
  | cons _ _ ih => simp [ih]
  | swap a b l => simp; omega
  | trans _ _ h1 h2 => exact h1.trans h2
theorem sum_snoc {zs : List Int} {k : Nat} {z : Int} (h : zs[k]? = some z) : (zs.take (k + 1)).sum = (zs.take k).sum + z := by
  rw [take_snoc h]; simp
theorem sum_bd {zs : List Int} {C : Int} (h : ∀ z ∈ zs, 0 ≤ z ∧ z ≤ C) : 0 ≤ zs.sum ∧ zs.sum ≤ C * zs.length := by
  induction zs with
  | nil => simp
  | cons z t ih =>
    have h1 := ih (fun x hx => h x (List.mem_cons_of_mem _ hx))
    have h2 := h z (by simp)
    simp only [List.sum_cons, List.length_cons]
    have e : C * ((t.length + 1 : Nat) : Int) = C * t.length + C := by push_cast; rw [Int.mul_add, Int.mul_one]
    omega
theorem sum_add {α : Type} (f g : α → Int) (l : List α) : (l.map fun a => f a + g a).sum = (l.map f).sum + (l.map g).sum := by
  induction l with
  | nil => rfl
  | cons a t ih => simp only [List.map_cons, List.sum_cons, ih]; omega
theorem sum_mul {α : Type} (c : Int) (f : α → Int) (l : List α) : (l.map fun a => c * f a).sum = c * (l.map f).sum := by
  induction l with
  | nil => simp
  | cons a t ih => simp only [List.map_cons, List.sum_cons, ih]; rw [Int.mul_add]
theorem sum_mono {α : Type} (f g : α → Int) (l : List α) (h : ∀ a ∈ l, f a ≤ g a) : (l.map f).sum ≤ (l.map g).sum := by
  induction l with
  | nil => simp
  | cons a t ih =>
    simp only [List.map_cons, List.sum_cons]
    have := h a (by simp)
    have := ih (fun x hx => h x (List.mem_cons_of_mem _ hx))
    omega
theorem sum_comm {α β : Type} (f : α → β → Int) (l : List α) (m : List β) : (l.map fun a => (m.map fun b => f a b).sum).sum = (m.map fun b => (l.map fun a => f a b).sum).sum := by
  induction l with
  | nil =>
    simp only [List.map_nil, List.sum_nil]
    induction m with
    | nil => rfl
    | cons b t ih => simp only [List.map_cons, List.sum_cons, ← ih]; rfl
  | cons a t ih => simp only [List.map_cons, List.sum_cons, ih]; rw [← sum_add]
theorem sum_congr {α : Type} (f g : α → Int) (l : List α) (h : ∀ a ∈ l, f a = g a) : (l.map f).sum = (l.map g).sum := by
  rw [List.map_congr_left h]

/-! ### cuts -/
def cutF (n : Int) : Int → List Int → Bool
  | _, [] => true
  | l, a :: t => (decide (l < a) && decide (a < n)) && cutF n a t
/-- A list is a cut of n outcomes. -/
def cutB (n : Nat) (cs : List Int) : Bool := cutF n (-1) cs
def keptL (zs cs : List Int) : Int := (cs.map fun a => zs.getD a.toNat 0).sum

theorem cutF_mem {n : Int} : ∀ {l : Int} {cs : List Int}, cutF n l cs = true → ∀ a ∈ cs, l < a ∧ a < n
  | _, [], _ => by simp
  | l, b :: t, h => by
    simp only [cutF, Bool.and_eq_true, decide_eq_true_eq] at h
    intro a ha
    rcases List.mem_cons.1 ha with rfl | ha
    · exact h.1
    · have := cutF_mem h.2 a ha; omega
theorem cutF_asc {n : Int} : ∀ {l : Int} {cs : List Int}, cutF n l cs = true → cs.Pairwise (· < ·)
  | _, [], _ => List.Pairwise.nil
  | l, b :: t, h => by
    simp only [cutF, Bool.and_eq_true, decide_eq_true_eq] at h
    exact List.Pairwise.cons (fun a ha => (cutF_mem h.2 a ha).1) (cutF_asc h.2)
theorem cutF_len {n : Int} : ∀ {l : Int} {cs : List Int}, cutF n l cs = true → cs = [] ∨ (cs.length : Int) ≤ n - l - 1
  | _, [], _ => .inl rfl
  | l, b :: t, h => by
    simp only [cutF, Bool.and_eq_true, decide_eq_true_eq] at h
    right
    simp only [List.length_cons]
    rcases cutF_len h.2 with rfl | h2
    · simp; omega
    · push_cast; omega
theorem cutB_mem {n : Nat} {cs : List Int} (h : cutB n cs = true) : ∀ a ∈ cs, 0 ≤ a ∧ a < n := fun a ha => by have := cutF_mem h a ha; omega
theorem cutB_len {n : Nat} {cs : List Int} (h : cutB n cs = true) : cs.length ≤ n := by
  rcases cutF_len h with rfl | h2
  · simp
  · omega
theorem cutF_of {n : Int} : ∀ {l : Int} {cs : List Int}, cs.Pairwise (· < ·) → (∀ a ∈ cs, l < a ∧ a < n) → cutF n l cs = true
  | _, [], _, _ => rfl
  | l, b :: t, h, hm => by
    have h1 := hm b (by simp)
    have h2 := List.pairwise_cons.1 h
    simp only [cutF, Bool.and_eq_true, decide_eq_true_eq]
    exact ⟨h1, cutF_of h2.2 (fun a ha => ⟨h2.1 a ha, (hm a (List.mem_cons_of_mem _ ha)).2⟩)⟩
theorem cutB_of {n : Nat} {cs : List Int} (h : cs.Pairwise (· < ·)) (hm : ∀ a ∈ cs, 0 ≤ a ∧ a < n) : cutB n cs = true :=
  cutF_of h (fun a ha => by have := hm a ha; omega)

theorem kept_snoc {zs cs : List Int} {k : Nat} {a : Int} (h : cs[k]? = some a) : keptL zs (cs.take (k + 1)) = keptL zs (cs.take k) + zs.getD a.toNat 0 := by
  rw [take_snoc h]; simp [keptL]
theorem getD_bd {zs : List Int} {C : Int} (hC : 0 ≤ C) (h : ∀ z ∈ zs, 0 ≤ z ∧ z ≤ C) (k : Nat) : 0 ≤ zs.getD k 0 ∧ zs.getD k 0 ≤ C := by
  rw [List.getD_eq_getElem?_getD]
  by_cases hk : k < zs.length
  · rw [List.getElem?_eq_getElem hk]; exact h _ (List.getElem_mem hk)
  · rw [List.getElem?_eq_none (by omega)]; simp; omega
theorem kept_bd {zs : List Int} {C : Int} (hC : 0 ≤ C) (h : ∀ z ∈ zs, 0 ≤ z ∧ z ≤ C) (cs : List Int) : 0 ≤ keptL zs cs ∧ keptL zs cs ≤ C * cs.length := by
  have := sum_bd (zs := cs.map fun a => zs.getD a.toNat 0) (C := C) (by
    intro z hz
    obtain ⟨a, _, rfl⟩ := List.mem_map.1 hz
    exact getD_bd hC h _)
  simpa [keptL] using this

/-! ### cuts as sets -/
/-- The numbers below n with a property, ascending. -/
def ofM (n : Nat) (p : Nat → Bool) : List Int := ((List.range n).filter p).map Int.ofNat
theorem asc_ext {xs ys : List Int} (hx : xs.Pairwise (· < ·)) (hy : ys.Pairwise (· < ·)) (h : ∀ a, a ∈ xs ↔ a ∈ ys) : xs = ys := by
  induction xs generalizing ys with
  | nil =>
    cases ys with
    | nil => rfl
    | cons b t => exact absurd ((h b).2 (by simp)) (by simp)
  | cons a t ih =>
    cases ys with
    | nil => exact absurd ((h a).1 (by simp)) (by simp)
    | cons b u =>
      have hx' := List.pairwise_cons.1 hx
      have hy' := List.pairwise_cons.1 hy
      have e : a = b := by
        rcases List.mem_cons.1 ((h a).1 (by simp)) with h1 | h1
        · exact h1
        · rcases List.mem_cons.1 ((h b).2 (by simp)) with h2 | h2
          · exact h2.symm
          · have := hy'.1 a h1; have := hx'.1 b h2; omega
      subst e
      rw [ih hx'.2 hy'.2]
      intro c
      have h3 := h c
      simp only [List.mem_cons] at h3
      constructor
      · intro hc
        rcases h3.1 (.inr hc) with rfl | h4
        · have := hx'.1 c hc; omega
        · exact h4
      · intro hc
        rcases h3.2 (.inr hc) with rfl | h4
        · have := hy'.1 c hc; omega
        · exact h4
theorem ofM_asc (n : Nat) (p : Nat → Bool) : (ofM n p).Pairwise (· < ·) := by
  unfold ofM
  refine List.Pairwise.map _ (R := (· < ·)) (fun a b h => by show (a : Int) < (b : Int); omega) ?_
  exact List.Pairwise.filter _ List.pairwise_lt_range
theorem ofM_mem {n : Nat} {p : Nat → Bool} {a : Int} : a ∈ ofM n p ↔ ∃ i, i < n ∧ p i = true ∧ a = i := by
  unfold ofM
  simp only [List.mem_map, List.mem_filter, List.mem_range]
  constructor
  · rintro ⟨i, ⟨h1, h2⟩, rfl⟩; exact ⟨i, h1, h2, rfl⟩
  · rintro ⟨i, h1, h2, rfl⟩; exact ⟨i, ⟨h1, h2⟩, rfl⟩
theorem ofM_cut (n : Nat) (p : Nat → Bool) : cutB n (ofM n p) = true := by
  refine cutB_of (ofM_asc n p) (fun a ha => ?_)
  obtain ⟨i, hi, _, rfl⟩ := ofM_mem.1 ha
  omega
theorem cut_of {n : Nat} {cs : List Int} (h : cutB n cs = true) : cs = ofM n (fun i => cs.contains (i : Int)) := by
  refine asc_ext (cutF_asc h) (ofM_asc _ _) (fun a => ?_)
  rw [ofM_mem]
  constructor
  · intro ha
    have := cutB_mem h a ha
    exact ⟨a.toNat, by omega, by rw [Int.toNat_of_nonneg this.1]; simpa using ha, by omega⟩
  · rintro ⟨i, _, h2, rfl⟩
    simpa using h2
theorem ofM_congr {n : Nat} {p q : Nat → Bool} (h : ∀ i < n, p i = q i) : ofM n p = ofM n q := by
  unfold ofM
  rw [List.filter_congr (fun i hi => h i (List.mem_range.1 hi))]
/-- What a set keeps. -/
def mS (zs : List Int) (n : Nat) (p : Nat → Bool) : Int := ((List.range n).map fun i => if p i then zs.getD i 0 else 0).sum
theorem kept_mS (zs : List Int) (n : Nat) (p : Nat → Bool) : keptL zs (ofM n p) = mS zs n p := by
  unfold keptL ofM mS
  generalize List.range n = l
  induction l with
  | nil => rfl
  | cons i t ih =>
    rw [List.filter_cons]
    cases h : p i <;> simp [h] <;> simpa using ih
theorem range_getD (zs : List Int) : (List.range zs.length).map (fun i => zs.getD i 0) = zs := by
  apply List.ext_getElem?
  intro i
  by_cases h : i < zs.length
  · simp [h]
  · simp [h]
theorem mS_bd {zs : List Int} {n : Nat} (hn : zs.length = n) (h : ∀ z ∈ zs, 0 ≤ z) (p : Nat → Bool) : 0 ≤ mS zs n p ∧ mS zs n p ≤ zs.sum := by
  subst hn
  have hz : ∀ i, 0 ≤ zs.getD i 0 := by
    intro i
    rw [List.getD_eq_getElem?_getD]
    by_cases hk : i < zs.length
    · rw [List.getElem?_eq_getElem hk]; exact h _ (List.getElem_mem hk)
    · rw [List.getElem?_eq_none (by omega)]; simp
  constructor
  · have := sum_mono (fun _ => (0 : Int)) (fun i => if p i then zs.getD i 0 else 0) (List.range zs.length) (by intro i _; have := hz i; split <;> omega)
    have e : ((List.range zs.length).map fun _ => (0 : Int)).sum = 0 := by
      have := sum_mul 0 (fun _ : Nat => (0 : Int)) (List.range zs.length)
      simpa using this
    unfold mS; omega
  · have := sum_mono (fun i => if p i then zs.getD i 0 else 0) (fun i => zs.getD i 0) (List.range zs.length) (by intro i _; have := hz i; split <;> omega)
    rw [range_getD] at this
    exact this
theorem kept_le {zs : List Int} {n : Nat} (hn : zs.length = n) (h : ∀ z ∈ zs, 0 ≤ z) {cs : List Int} (hc : cutB n cs = true) : 0 ≤ keptL zs cs ∧ keptL zs cs ≤ zs.sum := by
  rw [cut_of hc, kept_mS]; exact mS_bd hn h _
theorem ofM_all {zs : List Int} {n : Nat} (hn : zs.length = n) : mS zs n (fun _ => true) = zs.sum := by
  subst hn
  unfold mS
  simp only [if_true]
  rw [range_getD]

/-! ### what valid odds are -/
structure Od (ns ss : List Int) : Prop where
  len : ns.length = ss.length
  le : ns.length ≤ 10
  pos : 0 < ns.length
  nb : ∀ z ∈ ns, 0 ≤ z ∧ z ≤ 1000
  sb : ∀ z ∈ ss, 0 ≤ z ∧ z ≤ 1000
  np : 0 < ns.sum
  nm : ns.sum ≤ 10000
  sp : 0 < ss.sum
  sm : ss.sum ≤ 10000
theorem od_of {ns ss : List Int} (h : odB ns ss = true) : Od ns ss := by
  simp only [odB, wsB, Bool.and_eq_true, decide_eq_true_eq, List.all_eq_true, wtB] at h
  obtain ⟨⟨h1, h2⟩, ⟨h3, h4⟩, h5, h6⟩ := h
  have b1 := sum_bd h3
  have b2 := sum_bd h5
  refine ⟨h1, h2, ?_, h3, h5, h4, by omega, h6, by omega⟩
  rcases Nat.eq_zero_or_pos ns.length with h0 | h0
  · rw [List.eq_nil_of_length_eq_zero h0] at h4; simp at h4
  · exact h0
theorem Od.swap {ns ss : List Int} (h : Od ns ss) : Od ss ns := ⟨h.len.symm, by have := h.len; have := h.le; omega, by have := h.len; have := h.pos; omega, h.sb, h.nb, h.sp, h.sm, h.np, h.nm⟩
theorem odB_swap (ns ss : List Int) : odB ss ns = odB ns ss := by
  simp only [odB, Bool.and_comm (wsB ns)]
  congr 1
  by_cases h : ns.length = ss.length
  · simp [h]
  · simp [h]; intro e; exact absurd e.symm h
end Go.Proofs.Ytolpbbabmcpdkaa
