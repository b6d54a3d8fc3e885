/-
  Plain words for the row: the order of outcomes, ranks, the list of ranks; nothing of the program.
-/
import Derived.Test.YtolpbbabmcpdkaaOddsM
set_option linter.unusedVariables false
set_option linter.unusedSimpArgs false
namespace Go.Proofs.Ytolpbbabmcpdkaa
open Go Go.RowKit

def empB (ns ss : List Int) (a : Nat) : Bool := decide (ns.getD a 0 = 0) && decide (ss.getD a 0 = 0)
/-- The signal of a, divided by its noise, is greater than that of b. -/
def gtB (ns ss : List Int) (a b : Nat) : Bool := decide (ss.getD b 0 * ns.getD a 0 < ss.getD a 0 * ns.getD b 0)
def befF (ea eb x y l : Bool) : Bool := if ea != eb then eb else if x then true else if y then false else l
/-- a comes before b in the row. -/
def befB (ns ss : List Int) (a b : Nat) : Bool := befF (empB ns ss a) (empB ns ss b) (gtB ns ss a b) (gtB ns ss b a) (decide (a < b))
def rankN (ns ss : List Int) (a : Nat) : Nat := (List.range ns.length).countP (fun b => befB ns ss b a)

theorem befF_ff {x y l : Bool} : befF false false x y l = true ↔ (x = true ∨ (x = false ∧ y = false ∧ l = true)) := by cases x <;> cases y <;> cases l <;> decide
theorem befF_tt {x y l : Bool} : befF true true x y l = true ↔ (x = true ∨ (x = false ∧ y = false ∧ l = true)) := by cases x <;> cases y <;> cases l <;> decide
theorem befF_ft {x y l : Bool} : befF false true x y l = true := by cases x <;> cases y <;> cases l <;> decide
theorem befF_tf {x y l : Bool} : befF true false x y l = false := by cases x <;> cases y <;> cases l <;> decide
theorem gt_irr (ns ss : List Int) (a : Nat) : gtB ns ss a a = false := by unfold gtB; exact decide_eq_false (by omega)
theorem bef_irr (ns ss : List Int) (a : Nat) : befB ns ss a a = false := by
  unfold befB
  rw [gt_irr, decide_eq_false (by omega : ¬ a < a)]
  cases empB ns ss a <;> rfl
theorem gt_asym {ns ss : List Int} {a b : Nat} (h : gtB ns ss a b = true) : gtB ns ss b a = false := by
  unfold gtB at *
  have := of_decide_eq_true h
  exact decide_eq_false (by omega)
theorem bef_tot (ns ss : List Int) {a b : Nat} (h : a ≠ b) : befB ns ss a b = true ∨ befB ns ss b a = true := by
  unfold befB
  have hl : (decide (a < b) = true ∧ decide (b < a) = false) ∨ (decide (a < b) = false ∧ decide (b < a) = true) := by
    rcases Nat.lt_or_gt_of_ne h with q | q
    · exact .inl ⟨decide_eq_true q, decide_eq_false (by omega)⟩
    · exact .inr ⟨decide_eq_false (by omega), decide_eq_true q⟩
  rcases hl with ⟨e1, e2⟩ | ⟨e1, e2⟩ <;> rw [e1, e2] <;> cases empB ns ss a <;> cases empB ns ss b <;> cases gtB ns ss a b <;> cases gtB ns ss b a <;> decide
theorem bef_asym {ns ss : List Int} {a b : Nat} (h : befB ns ss a b = true) : befB ns ss b a = false := by
  have g1 := fun q => gt_asym (ns := ns) (ss := ss) (a := a) (b := b) q
  have hl : decide (a < b) = true → decide (b < a) = false := fun q => by
    have := of_decide_eq_true q
    exact decide_eq_false (by omega)
  unfold befB at *
  revert h g1 hl
  cases empB ns ss a <;> cases empB ns ss b <;> cases gtB ns ss a b <;> cases gtB ns ss b a <;> cases decide (a < b) <;> cases decide (b < a) <;> simp [befF]

/-! fractions -/
theorem frac_trans {s t s' t' s'' t'' : Int} (h0 : 0 < t) (h1 : 0 < t') (h2 : 0 < t'') (h : s' * t ≤ s * t') (k : s'' * t' ≤ s' * t'') :
    s'' * t ≤ s * t'' ∧ (s'' * t = s * t'' → s' * t = s * t' ∧ s'' * t' = s' * t'') := by
  have e1 : s' * t * t'' ≤ s * t' * t'' := Int.mul_le_mul_of_nonneg_right h (by omega)
  have e2 : s'' * t' * t ≤ s' * t'' * t := Int.mul_le_mul_of_nonneg_right k (by omega)
  have e3 : s' * t * t'' = s' * t'' * t := by rw [Int.mul_right_comm]
  have e4 : s'' * t' * t = s'' * t * t' := by rw [Int.mul_right_comm]
  have e5 : s * t' * t'' = s * t'' * t' := by rw [Int.mul_right_comm]
  have m : s'' * t * t' ≤ s * t'' * t' := by omega
  refine ⟨Int.le_of_mul_le_mul_right m h1, fun he => ?_⟩
  have m2 : s'' * t * t' = s * t'' * t' := by rw [he]
  constructor
  · have : s' * t * t'' = s * t' * t'' := by omega
    exact Int.eq_of_mul_eq_mul_right (by omega) this
  · have : s'' * t' * t = s' * t'' * t := by omega
    exact Int.eq_of_mul_eq_mul_right (by omega) this
theorem gt_frac {s n s' n' : Int} : (s' * n < s * n') ↔ (s' * (n + s) < s * (n' + s')) := by
  rw [Int.mul_add, Int.mul_add, Int.mul_comm s' s]; omega
def totV (ns ss : List Int) (a : Nat) : Int := ns.getD a 0 + ss.getD a 0
theorem gt_iff {ns ss : List Int} {a b : Nat} : gtB ns ss a b = true ↔ ss.getD b 0 * totV ns ss a < ss.getD a 0 * totV ns ss b := by
  unfold gtB totV
  rw [decide_eq_true_iff]; exact gt_frac
theorem gt_not {ns ss : List Int} {a b : Nat} : gtB ns ss a b = false ↔ ss.getD a 0 * totV ns ss b ≤ ss.getD b 0 * totV ns ss a := by
  rw [← Bool.not_eq_true, gt_iff]; omega
theorem bef_trans {ns ss : List Int} (hn : ∀ a, 0 ≤ ns.getD a 0) (hs : ∀ a, 0 ≤ ss.getD a 0) {a b c : Nat} (h : befB ns ss a b = true) (k : befB ns ss b c = true) : befB ns ss a c = true := by
  unfold befB at *
  have emp : ∀ x, empB ns ss x = true → ns.getD x 0 = 0 ∧ ss.getD x 0 = 0 := by
    intro x hx
    unfold empB at hx
    rw [Bool.and_eq_true, decide_eq_true_iff, decide_eq_true_iff] at hx
    exact hx
  have pos : ∀ x, empB ns ss x = false → 0 < totV ns ss x := by
    intro x hx
    unfold empB at hx
    rw [Bool.and_eq_false_iff, decide_eq_false_iff_not, decide_eq_false_iff_not] at hx
    have := hn x; have := hs x
    unfold totV; omega
  have hl : ∀ x y : Nat, decide (x < y) = true ↔ x < y := fun x y => decide_eq_true_iff
  cases ea : empB ns ss a
  · cases ec : empB ns ss c
    · cases eb : empB ns ss b
      · rw [ea, eb, befF_ff, hl] at h
        rw [eb, ec, befF_ff, hl] at k
        rw [befF_ff, hl]
        rw [gt_iff, gt_not, gt_not] at *
        have pa := pos a ea
        have pb := pos b eb
        have pc := pos c ec
        obtain ⟨m1, m2⟩ := frac_trans pa pb pc (s := ss.getD a 0) (s' := ss.getD b 0) (s'' := ss.getD c 0) (by omega) (by omega)
        by_cases q : ss.getD c 0 * totV ns ss a < ss.getD a 0 * totV ns ss c
        · exact .inl q
        · have q1 : ss.getD c 0 * totV ns ss a = ss.getD a 0 * totV ns ss c := by omega
          have := m2 q1
          right
          omega
      · rw [eb, ec, befF_tf] at k; cases k
    · exact befF_ft
  · cases eb : empB ns ss b
    · rw [ea, eb, befF_tf] at h; cases h
    · cases ec : empB ns ss c
      · rw [eb, ec, befF_tf] at k; cases k
      · rw [ea, eb, befF_tt, hl] at h
        rw [eb, ec, befF_tt, hl] at k
        rw [befF_tt, hl]
        rw [gt_iff, gt_not, gt_not] at *
        have za := emp a ea
        have zb := emp b eb
        have zc := emp c ec
        simp only [totV, za.1, za.2, zb.1, zb.2, zc.1, zc.2, Int.zero_mul, Int.add_zero] at *
        omega

theorem countP_lt {α : Type} {p q : α → Bool} {l : List α} (h : ∀ x ∈ l, p x = true → q x = true) {x : α} (hx : x ∈ l) (h1 : p x = false) (h2 : q x = true) : l.countP p < l.countP q := by
  obtain ⟨s, t, rfl⟩ := List.append_of_mem hx
  have e1 := List.countP_mono_left (l := s) (p := p) (q := q) (fun y hy => h y (by simp [hy]))
  have e2 := List.countP_mono_left (l := t) (p := p) (q := q) (fun y hy => h y (by simp [hy]))
  simp only [List.countP_append, List.countP_cons, h1, h2]
  simp
  omega
section
variable {ns ss : List Int} (hn : ∀ a, 0 ≤ ns.getD a 0) (hs : ∀ a, 0 ≤ ss.getD a 0)
include hn hs
theorem rank_lt {a b : Nat} (ha : a < ns.length) (h : befB ns ss a b = true) : rankN ns ss a < rankN ns ss b :=
  countP_lt (fun _ _ hx => bef_trans hn hs hx h) (List.mem_range.2 ha) (bef_irr ns ss a) h
theorem rank_iff {a b : Nat} (ha : a < ns.length) (hb : b < ns.length) : befB ns ss a b = true ↔ rankN ns ss a < rankN ns ss b := by
  refine ⟨rank_lt hn hs ha, fun h => ?_⟩
  by_cases e : a = b
  · subst e; omega
  · rcases bef_tot ns ss e with h1 | h1
    · exact h1
    · have := rank_lt hn hs hb h1; omega
theorem rank_inj {a b : Nat} (ha : a < ns.length) (hb : b < ns.length) (h : rankN ns ss a = rankN ns ss b) : a = b := by
  by_cases e : a = b
  · exact e
  · rcases bef_tot ns ss e with h1 | h1
    · have := rank_lt hn hs ha h1; omega
    · have := rank_lt hn hs hb h1; omega
omit hn hs in
theorem rank_bd {a : Nat} (ha : a < ns.length) : rankN ns ss a < ns.length := by
  have h : (List.range ns.length).countP (fun b => befB ns ss b a) < (List.range ns.length).countP (fun _ => true) :=
    countP_lt (fun _ _ _ => rfl) (List.mem_range.2 ha) (bef_irr ns ss a) rfl
  simpa [rankN] using h
/-- In a list of all outcomes that ascends by rank each stands at its rank. -/
theorem rank_at {ys : List Nat} (hp : ys.Perm (List.range ns.length)) (hsr : ys.Pairwise (fun a b => rankN ns ss a ≤ rankN ns ss b)) {i : Nat} {a : Nat} (ha : ys[i]? = some a) : rankN ns ss a = i := by
  have hmem : ∀ x ∈ ys, x < ns.length := fun x hx => List.mem_range.1 (hp.mem_iff.1 hx)
  have hnd : ys.Nodup := hp.nodup_iff.2 List.nodup_range
  have hi : i < ys.length := by
    rcases Nat.lt_or_ge i ys.length with h | h
    · exact h
    · rw [List.getElem?_eq_none h] at ha; cases ha
  have e : ys = ys.take i ++ a :: ys.drop (i + 1) := by
    have h1 : ys.drop i = a :: ys.drop (i + 1) := by
      rw [List.drop_eq_getElem_cons hi]
      rw [List.getElem?_eq_getElem hi] at ha
      injection ha with ha; rw [ha]
    rw [← h1, List.take_append_drop]
  have hc : rankN ns ss a = ys.countP (fun b => befB ns ss b a) := (hp.countP_eq _).symm
  have hm := hmem a (List.mem_of_getElem? ha)
  rw [hc, e, List.countP_append, List.countP_cons]
  rw [e] at hsr hnd hmem
  have q := List.pairwise_append.1 hsr
  have q2 := List.pairwise_cons.1 q.2.1
  have nd := List.nodup_append.1 hnd
  have n1 : (ys.take i).countP (fun b => befB ns ss b a) = (ys.take i).length := by
    rw [List.countP_eq_length]
    intro x hx
    have hxa : x ≠ a := fun he => nd.2.2 x hx a (by simp) he
    have hxl : x < ns.length := hmem x (by simp [hx])
    rw [rank_iff hn hs hxl hm]
    have h1 := q.2.2 x hx a (by simp)
    have h2 : rankN ns ss x ≠ rankN ns ss a := fun he => hxa (rank_inj hn hs hxl hm he)
    omega
  have n2 : (ys.drop (i + 1)).countP (fun b => befB ns ss b a) = 0 := by
    rw [List.countP_eq_zero]
    intro x hx
    have hxl : x < ns.length := hmem x (by simp [hx])
    rw [rank_iff hn hs hxl hm]
    have := q2.1 x hx
    omega
  rw [n1, n2, bef_irr, List.length_take]
  simp
  omega
end
/-- The row. -/
def rowN (ns ss : List Int) : List Nat := (List.range ns.length).mergeSort (fun a b => decide (rankN ns ss a ≤ rankN ns ss b))
def rowL (ns ss : List Int) : List Int := (rowN ns ss).map Int.ofNat
theorem row_perm (ns ss : List Int) : (rowN ns ss).Perm (List.range ns.length) := List.mergeSort_perm _ _
theorem row_len (ns ss : List Int) : (rowN ns ss).length = ns.length := by simp [rowN]
theorem rowL_len (ns ss : List Int) : (rowL ns ss).length = ns.length := by simp [rowL, row_len]
theorem row_sorted (ns ss : List Int) : (rowN ns ss).Pairwise (fun a b => rankN ns ss a ≤ rankN ns ss b) := by
  have h := List.pairwise_mergeSort (le := fun a b => decide (rankN ns ss a ≤ rankN ns ss b)) (by intro a b c h1 h2; simp only [decide_eq_true_eq] at *; omega) (by intro a b; simp only [Bool.or_eq_true, decide_eq_true_eq]; omega) (List.range ns.length)
  exact h.imp (fun h => by simpa using h)
theorem row_mem {ns ss : List Int} {a : Nat} : a ∈ rowN ns ss ↔ a < ns.length := by rw [(row_perm ns ss).mem_iff, List.mem_range]
section
variable {ns ss : List Int} (hn : ∀ a, 0 ≤ ns.getD a 0) (hs : ∀ a, 0 ≤ ss.getD a 0)
include hn hs
theorem row_rank {i a : Nat} (h : (rowN ns ss)[i]? = some a) : rankN ns ss a = i := rank_at hn hs (row_perm ns ss) (row_sorted ns ss) h
/-- The row, told by where each outcome stands. -/
theorem row_eq {ys : List Nat} (hl : ys.length = ns.length) (h : ∀ a, a < ns.length → ys[rankN ns ss a]? = some a) : ys = rowN ns ss := by
  apply List.ext_getElem?
  intro i
  by_cases hi : i < ns.length
  · obtain ⟨a, ha⟩ := getElem?_of_lt (zs := rowN ns ss) (k := i) (by rw [row_len]; exact hi)
    have hr := row_rank hn hs ha
    have hm : a < ns.length := row_mem.1 (List.mem_of_getElem? ha)
    rw [ha, ← hr]
    exact h a hm
  · rw [List.getElem?_eq_none (by omega), List.getElem?_eq_none (by rw [row_len]; omega)]
theorem row_of {ys : List Nat} (hp : ys.Perm (List.range ns.length)) (hsr : ys.Pairwise (fun a b => rankN ns ss a ≤ rankN ns ss b)) : ys = rowN ns ss := by
  have hl : ys.length = ns.length := by simpa using hp.length_eq
  refine row_eq hn hs hl (fun a ha => ?_)
  obtain ⟨i, hi⟩ := List.getElem?_of_mem (hp.mem_iff.2 (List.mem_range.2 ha))
  rw [rank_at hn hs hp hsr hi, hi]
theorem row_gt {i j a b : Nat} (hij : i < j) (ha : (rowN ns ss)[i]? = some a) (hb : (rowN ns ss)[j]? = some b) : befB ns ss a b = true := by
  have h1 := row_rank hn hs ha
  have h2 := row_rank hn hs hb
  rw [rank_iff hn hs (row_mem.1 (List.mem_of_getElem? ha)) (row_mem.1 (List.mem_of_getElem? hb))]
  omega
end
/-- What comes before has no lesser ratio. -/
theorem bef_le {ns ss : List Int} {a b : Nat} (h : befB ns ss a b = true) : ss.getD b 0 * ns.getD a 0 ≤ ss.getD a 0 * ns.getD b 0 := by
  unfold befB at h
  have g : ∀ x y, gtB ns ss x y = true → ss.getD y 0 * ns.getD x 0 < ss.getD x 0 * ns.getD y 0 := fun x y q => of_decide_eq_true q
  have g' : ∀ x y, gtB ns ss x y = false → ¬ ss.getD y 0 * ns.getD x 0 < ss.getD x 0 * ns.getD y 0 := fun x y q => of_decide_eq_false q
  cases ea : empB ns ss a <;> cases eb : empB ns ss b <;> rw [ea, eb] at h
  · rcases befF_ff.1 h with q | ⟨_, q, _⟩
    · have := g _ _ q; omega
    · have := g' _ _ q; omega
  · unfold empB at eb
    rw [Bool.and_eq_true, decide_eq_true_iff, decide_eq_true_iff] at eb
    rw [eb.1, eb.2]; omega
  · rw [befF_tf] at h; cases h
  · rcases befF_tt.1 h with q | ⟨_, q, _⟩
    · have := g _ _ q; omega
    · have := g' _ _ q; omega
end Go.Proofs.Ytolpbbabmcpdkaa
