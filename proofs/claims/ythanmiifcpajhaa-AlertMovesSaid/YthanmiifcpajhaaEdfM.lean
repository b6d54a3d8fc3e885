/-
  Plain arithmetic of tasks, plans and the most urgent one first; nothing of the program.
-/
import Derived.Test.YthanmiifcpajhaaPlain
set_option linter.unusedVariables false
set_option linter.unusedSimpArgs false
namespace Go.Proofs.Ythanmiifcpajhaa
open Go Go.RowKit

/-- A task: when it comes, when it is late, its work. -/
def tkZ : Int × Int × Int := (0, 0, 0)
def tkB (x : Int × Int × Int) : Bool := decide (0 ≤ x.1 ∧ x.2.1 ≤ 100 ∧ x.1 < x.2.1 ∧ 1 ≤ x.2.2 ∧ x.2.2 ≤ 100)
def vaB (ts : List (Int × Int × Int)) : Bool := decide (1 ≤ ts.length ∧ ts.length ≤ 12) && ts.all tkB
def cmI (ts : List (Int × Int × Int)) (i : Nat) : Int := (ts.getD i tkZ).1
def ltI (ts : List (Int × Int × Int)) (i : Nat) : Int := (ts.getD i tkZ).2.1
def wkI (ts : List (Int × Int × Int)) (i : Nat) : Int := (ts.getD i tkZ).2.2
def opB (ts : List (Int × Int × Int)) (i : Nat) (m : Int) : Bool := decide (cmI ts i ≤ m ∧ m < ltI ts i)

theorem va_at {ts : List (Int × Int × Int)} (h : vaB ts = true) {i : Nat} (hi : i < ts.length) : 0 ≤ cmI ts i ∧ ltI ts i ≤ 100 ∧ cmI ts i < ltI ts i ∧ 1 ≤ wkI ts i ∧ wkI ts i ≤ 100 := by
  simp only [vaB, Bool.and_eq_true, List.all_eq_true] at h
  have := h.2 ts[i] (List.getElem_mem hi)
  have e : ts.getD i tkZ = ts[i] := by rw [List.getD_eq_getElem?_getD, List.getElem?_eq_getElem hi]; rfl
  unfold cmI ltI wkI
  rw [e]
  simpa [tkB] using this
theorem va_len {ts : List (Int × Int × Int)} (h : vaB ts = true) : 1 ≤ ts.length ∧ ts.length ≤ 12 := by
  simp only [vaB, Bool.and_eq_true, decide_eq_true_eq] at h; exact h.1

/-- Sums of the first n, and how often something holds among the first k. -/
def sm (f : Nat → Int) : Nat → Int
  | 0 => 0
  | n + 1 => sm f n + f n
def nb (Q : Nat → Bool) : Nat → Int
  | 0 => 0
  | k + 1 => nb Q k + if Q k = true then 1 else 0
/-- How many of the first k minutes a plan gives to i. -/
def cn (p : Nat → Int) (i : Nat) : Nat → Int
  | 0 => 0
  | k + 1 => cn p i k + if p k = (i : Int) then 1 else 0

theorem cn_nn (p : Nat → Int) (i : Nat) : ∀ k, 0 ≤ cn p i k ∧ cn p i k ≤ k
  | 0 => by simp [cn]
  | k + 1 => by have := cn_nn p i k; unfold cn; split <;> omega
theorem cn_mono (p : Nat → Int) (i : Nat) {k l : Nat} (h : k ≤ l) : cn p i k ≤ cn p i l := by
  induction l with
  | zero => have : k = 0 := by omega
            subst this; exact Int.le_refl _
  | succ l ih =>
    by_cases e : k = l + 1
    · subst e; exact Int.le_refl _
    · have := ih (by omega)
      have h2 : cn p i (l + 1) = cn p i l + if p l = (i : Int) then 1 else 0 := rfl
      rw [h2]; split <;> omega
theorem cn_same {p q : Nat → Int} (i : Nat) : ∀ k, (∀ m, m < k → p m = q m) → cn p i k = cn q i k
  | 0, _ => rfl
  | k + 1, h => by
    unfold cn
    rw [cn_same i k (fun m hm => h m (by omega)), h k (by omega)]
theorem nb_nn (Q : Nat → Bool) : ∀ k, 0 ≤ nb Q k ∧ nb Q k ≤ k
  | 0 => by simp [nb]
  | k + 1 => by have := nb_nn Q k; unfold nb; split <;> omega
theorem nb_le {Q : Nat → Bool} {a b : Nat} (hab : a ≤ b) : ∀ k, (∀ m, m < k → Q m = true → a ≤ m ∧ m < b) → nb Q k ≤ b - a ∧ nb Q k + a ≤ ((max a k : Nat) : Int)
  | 0, _ => by show (0 : Int) ≤ _ ∧ (0 : Int) + _ ≤ _; omega
  | k + 1, h => by
    have ih := nb_le hab k (fun m hm => h m (by omega))
    unfold nb
    split
    · have := h k (by omega) ‹_›
      omega
    · omega
theorem nb_ge {Q : Nat → Bool} {a b : Nat} : ∀ k, (∀ m, a ≤ m → m < b → Q m = true) → ((min b k : Nat) : Int) - a ≤ nb Q k
  | 0, _ => by show _ ≤ (0 : Int); omega
  | k + 1, h => by
    have ih := nb_ge k h
    have h2 : nb Q (k + 1) = nb Q k + if Q k = true then 1 else 0 := rfl
    have := (nb_nn Q k).1
    rw [h2]
    by_cases hb : k < b
    · by_cases ha : a ≤ k
      · rw [if_pos (h k ha hb)]; omega
      · split <;> omega
    · split <;> omega
theorem sm_add (f g : Nat → Int) : ∀ n, sm (fun i => f i + g i) n = sm f n + sm g n
  | 0 => rfl
  | n + 1 => by unfold sm; rw [sm_add f g n]; omega
theorem sm_cong {f g : Nat → Int} : ∀ n, (∀ i, i < n → f i = g i) → sm f n = sm g n
  | 0, _ => rfl
  | n + 1, h => by unfold sm; rw [sm_cong n (fun i hi => h i (by omega)), h n (by omega)]
theorem sm_le {f g : Nat → Int} : ∀ n, (∀ i, i < n → f i ≤ g i) → sm f n ≤ sm g n
  | 0, _ => Int.le_refl _
  | n + 1, h => by have := sm_le n (fun i hi => h i (by omega)); have := h n (by omega); unfold sm; omega
theorem sm_lt {f g : Nat → Int} {j : Nat} : ∀ n, (∀ i, i < n → f i ≤ g i) → j < n → f j < g j → sm f n < sm g n
  | 0, _, h, _ => by omega
  | n + 1, h, hj, hl => by
    unfold sm
    have h1 := h n (by omega)
    by_cases e : j = n
    · subst e
      have := sm_le j (fun i hi => h i (by omega)); omega
    · have := sm_lt n (fun i hi => h i (by omega)) (by omega) hl; omega
theorem sm_zero : ∀ n, sm (fun _ => 0) n = 0
  | 0 => rfl
  | n + 1 => by unfold sm; rw [sm_zero n]; rfl
theorem sm_one (S : Nat → Bool) (a : Int) : ∀ n, sm (fun i => if S i = true then (if a = (i : Int) then 1 else 0) else 0) n = if 0 ≤ a ∧ a < n ∧ S a.toNat = true then 1 else 0
  | 0 => by
    have : ¬ (0 ≤ a ∧ a < (0 : Nat) ∧ S a.toNat = true) := by rintro ⟨h, h2, _⟩; omega
    rw [if_neg this]; rfl
  | n + 1 => by
    unfold sm
    rw [sm_one S a n]
    by_cases e : a = (n : Int)
    · subst e
      rw [if_neg (by omega)]
      simp only [if_true, Int.toNat_natCast]
      by_cases hS : S n = true
      · rw [if_pos hS, if_pos ⟨by omega, by omega, hS⟩]; rfl
      · rw [if_neg hS, if_neg (by rintro ⟨_, _, h⟩; exact hS h)]; rfl
    · rw [show (if S n = true then (if a = (n : Int) then (1 : Int) else 0) else 0) = 0 by split <;> simp <;> omega]
      by_cases hc : 0 ≤ a ∧ a < (n : Int) ∧ S a.toNat = true
      · rw [if_pos hc, if_pos ⟨hc.1, by omega, hc.2.2⟩]; rfl
      · rw [if_neg hc, if_neg (by rintro ⟨h1, h2, h3⟩; exact hc ⟨h1, by omega, h3⟩)]; rfl
/-- The minutes of some tasks, counted by task and by minute. -/
theorem sm_cn (p : Nat → Int) (n : Nat) (S : Nat → Bool) : ∀ k, sm (fun i => if S i = true then cn p i k else 0) n = nb (fun m => decide (0 ≤ p m) && decide (p m < n) && S (p m).toNat) k
  | 0 => by
    rw [show (fun i => if S i = true then cn p i 0 else 0) = fun _ => (0 : Int) by funext i; simp [cn]]
    exact sm_zero n
  | k + 1 => by
    have e : (fun i => if S i = true then cn p i (k + 1) else 0) = fun i => (if S i = true then cn p i k else 0) + (if S i = true then (if p k = (i : Int) then 1 else 0) else 0) := by
      funext i
      show (if S i = true then cn p i k + (if p k = (i : Int) then 1 else 0) else 0) = _
      by_cases hS : S i = true
      · rw [if_pos hS, if_pos hS, if_pos hS]
      · rw [if_neg hS, if_neg hS, if_neg hS]; rfl
    rw [e, sm_add, sm_cn p n S k, sm_one]
    show _ = nb _ k + _
    congr 1
    simp only [Bool.and_eq_true, decide_eq_true_eq, and_assoc]

/-- What a stretch asks. -/
def inS (ts : List (Int × Int × Int)) (a b : Int) (i : Nat) : Bool := decide (a ≤ cmI ts i) && decide (ltI ts i ≤ b)
def dmN (ts : List (Int × Int × Int)) (a b : Int) (k : Nat) : Int := sm (fun i => if inS ts a b i = true then wkI ts i else 0) k
def dmI (ts : List (Int × Int × Int)) (a b : Int) : Int := dmN ts a b ts.length

/-- Which task may be worked on: it is open and not done; the most urgent one of the first k. -/
def cdB (ts : List (Int × Int × Int)) (c : Nat → Int) (m : Int) (i : Nat) : Bool := opB ts i m && decide (c i < wkI ts i)
def bst (ts : List (Int × Int × Int)) (c : Nat → Int) (m : Int) : Nat → Int
  | 0 => -1
  | k + 1 => if cdB ts c m k = true ∧ (bst ts c m k < 0 ∨ ltI ts k < ltI ts (bst ts c m k).toNat) then (k : Int) else bst ts c m k
/-- How many minutes each task has in the first m minutes of the urgent plan; the plan. -/
def usN (ts : List (Int × Int × Int)) : Nat → Nat → Int
  | 0 => fun _ => 0
  | m + 1 => fun i => usN ts m i + if bst ts (usN ts m) m ts.length = (i : Int) then 1 else 0
def urF (ts : List (Int × Int × Int)) (m : Nat) : Int := bst ts (usN ts m) m ts.length
theorem us_cn (ts : List (Int × Int × Int)) : ∀ m, usN ts m = fun i => cn (urF ts) i m
  | 0 => rfl
  | m + 1 => by
    funext i
    show usN ts m i + (if urF ts m = (i : Int) then 1 else 0) = cn (urF ts) i m + _
    rw [us_cn ts m]

theorem bst_bd (ts : List (Int × Int × Int)) (c : Nat → Int) (m : Int) : ∀ k, -1 ≤ bst ts c m k ∧ bst ts c m k < k
  | 0 => by simp [bst]
  | k + 1 => by
    have := bst_bd ts c m k
    unfold bst; split <;> omega
theorem bst_cd (ts : List (Int × Int × Int)) (c : Nat → Int) (m : Int) : ∀ k, 0 ≤ bst ts c m k → cdB ts c m (bst ts c m k).toNat = true
  | 0, h => by simp [bst] at h
  | k + 1, h => by
    have ih := bst_cd ts c m k
    by_cases hc : cdB ts c m k = true ∧ (bst ts c m k < 0 ∨ ltI ts k < ltI ts (bst ts c m k).toNat)
    · have e : bst ts c m (k + 1) = k := if_pos hc
      rw [e, Int.toNat_natCast]; exact hc.1
    · have e : bst ts c m (k + 1) = bst ts c m k := if_neg hc
      rw [e] at h ⊢; exact ih h
theorem bst_least (ts : List (Int × Int × Int)) (c : Nat → Int) (m : Int) : ∀ k i, i < k → cdB ts c m i = true → 0 ≤ bst ts c m k ∧ ltI ts (bst ts c m k).toNat ≤ ltI ts i ∧ (ltI ts i = ltI ts (bst ts c m k).toNat → bst ts c m k ≤ i)
  | 0, i, h, _ => by omega
  | k + 1, i, hi, hcd => by
    have hbd := bst_bd ts c m k
    by_cases hc : cdB ts c m k = true ∧ (bst ts c m k < 0 ∨ ltI ts k < ltI ts (bst ts c m k).toNat)
    · have e : bst ts c m (k + 1) = k := if_pos hc
      rw [e, Int.toNat_natCast]
      by_cases ei : i = k
      · subst ei; exact ⟨by omega, Int.le_refl _, fun _ => Int.le_refl _⟩
      · obtain ⟨h1, h2, h3⟩ := bst_least ts c m k i (by omega) hcd
        have h4 : ltI ts k < ltI ts (bst ts c m k).toNat := hc.2.resolve_left (by omega)
        exact ⟨by omega, by omega, fun he => by omega⟩
    · have e : bst ts c m (k + 1) = bst ts c m k := if_neg hc
      rw [e]
      by_cases ei : i = k
      · subst ei
        have h4 : ¬ (bst ts c m i < 0 ∨ ltI ts i < ltI ts (bst ts c m i).toNat) := fun h => hc ⟨hcd, h⟩
        exact ⟨by omega, by omega, fun _ => by omega⟩
      · exact bst_least ts c m k i (by omega) hcd

theorem ur_bd (ts : List (Int × Int × Int)) (m : Nat) : -1 ≤ urF ts m ∧ urF ts m < ts.length := bst_bd ts _ _ _
theorem ur_cd (ts : List (Int × Int × Int)) (m : Nat) (h : 0 ≤ urF ts m) : opB ts (urF ts m).toNat m = true ∧ cn (urF ts) (urF ts m).toNat m < wkI ts (urF ts m).toNat := by
  have := bst_cd ts (usN ts m) m ts.length h
  rw [us_cn] at this
  simp only [cdB, Bool.and_eq_true, decide_eq_true_eq] at this
  have e : bst ts (fun i => cn (urF ts) i m) m ts.length = urF ts m := by unfold urF; rw [us_cn]; rfl
  rw [e] at this
  exact this
theorem ur_least (ts : List (Int × Int × Int)) (m : Nat) {i : Nat} (hi : i < ts.length) (ho : opB ts i m = true) (hc : cn (urF ts) i m < wkI ts i) : 0 ≤ urF ts m ∧ ltI ts (urF ts m).toNat ≤ ltI ts i ∧ (ltI ts i = ltI ts (urF ts m).toNat → urF ts m ≤ i) := by
  have := bst_least ts (usN ts m) m ts.length i hi (by rw [us_cn]; simp only [cdB, Bool.and_eq_true, decide_eq_true_eq]; exact ⟨ho, hc⟩)
  exact this
theorem ur_le (ts : List (Int × Int × Int)) (h : vaB ts = true) {i : Nat} (hi : i < ts.length) : ∀ m, cn (urF ts) i m ≤ wkI ts i
  | 0 => by have := va_at h hi; show (0 : Int) ≤ _; omega
  | m + 1 => by
    have ih := ur_le ts h hi m
    have h2 : cn (urF ts) i (m + 1) = cn (urF ts) i m + if urF ts m = (i : Int) then 1 else 0 := rfl
    rw [h2]
    by_cases e : urF ts m = (i : Int)
    · have := (ur_cd ts m (by omega)).2
      rw [e, Int.toNat_natCast] at this
      rw [if_pos e]; omega
    · rw [if_neg e]; omega

/-- A plan, as a function, that is right; and one that does all. -/
structure Rt (ts : List (Int × Int × Int)) (p : Nat → Int) : Prop where
  bd : ∀ m, m < 100 → -1 ≤ p m ∧ p m < ts.length
  op : ∀ m, m < 100 → 0 ≤ p m → opB ts (p m).toNat m = true
  le : ∀ i, i < ts.length → cn p i 100 ≤ wkI ts i
def Does (ts : List (Int × Int × Int)) (p : Nat → Int) : Prop := ∀ i, i < ts.length → cn p i 100 = wkI ts i
theorem ur_right (ts : List (Int × Int × Int)) (h : vaB ts = true) : Rt ts (urF ts) :=
  ⟨fun m _ => ur_bd ts m, fun m _ h0 => (ur_cd ts m h0).1, fun _ hi => ur_le ts h hi 100⟩

theorem op_iff {ts : List (Int × Int × Int)} {i : Nat} {m : Int} : opB ts i m = true ↔ cmI ts i ≤ m ∧ m < ltI ts i := by simp [opB]
theorem inS_iff {ts : List (Int × Int × Int)} {i : Nat} {a b : Int} : inS ts a b i = true ↔ a ≤ cmI ts i ∧ ltI ts i ≤ b := by simp [inS]

/-- Where all is done no stretch asks for more than it has. -/
theorem does_fits {ts : List (Int × Int × Int)} {p : Nat → Int} (hr : Rt ts p) (hd : Does ts p) {a b : Nat} (hab : a < b) : dmI ts a b ≤ b - a := by
  unfold dmI dmN
  rw [sm_cong (g := fun i => if inS ts a b i = true then cn p i 100 else 0) ts.length (fun i hi => by rw [hd i hi]), sm_cn]
  refine (nb_le (a := a) (b := b) (by omega) 100 ?_).1
  intro m hm hQ
  simp only [Bool.and_eq_true, decide_eq_true_eq, inS_iff] at hQ
  have := op_iff.1 (hr.op m hm hQ.1.1)
  omega

theorem bad_last (bad : Nat → Prop) : ∀ b : Nat, ∃ a, a ≤ b ∧ (∀ m, a ≤ m → m < b → ¬ bad m) ∧ (a = 0 ∨ ∃ k, a = k + 1 ∧ bad k)
  | 0 => ⟨0, by omega, fun m _ h => by omega, .inl rfl⟩
  | b + 1 => by
    by_cases h : bad b
    · exact ⟨b + 1, by omega, fun m h1 h2 => by omega, .inr ⟨b, rfl, h⟩⟩
    · obtain ⟨a, h1, h2, h3⟩ := bad_last bad b
      refine ⟨a, by omega, fun m hm1 hm2 => ?_, h3⟩
      by_cases e : m = b
      · subst e; exact h
      · exact h2 m hm1 (by omega)

/-- Where the urgent plan does not do all, a stretch is overfull. -/
theorem late_over {ts : List (Int × Int × Int)} (hv : vaB ts = true) {j : Nat} (hj : j < ts.length) (hl : cn (urF ts) j 100 < wkI ts j) : ∃ a b : Nat, a < b ∧ b ≤ 100 ∧ (b : Int) - a < dmI ts a b := by
  obtain ⟨v1, v2, v3, v4, v5⟩ := va_at hv hj
  obtain ⟨b, hb⟩ : ∃ b : Nat, (b : Int) = ltI ts j := ⟨(ltI ts j).toNat, by omega⟩
  obtain ⟨a, ha, hgood, hbad⟩ := bad_last (fun m => urF ts m < 0 ∨ (b : Int) < ltI ts (urF ts m).toNat) b
  have key : ∀ i, i < ts.length → ltI ts i ≤ b → ∀ k, a = k + 1 → opB ts i k = true → wkI ts i ≤ cn (urF ts) i k := by
    intro i hi hib k hk ho
    rcases hbad with h0 | ⟨k', hk', hb'⟩
    · omega
    · obtain rfl : k = k' := by omega
      apply Int.not_lt.1
      intro hc
      obtain ⟨g1, g2, _⟩ := ur_least ts k hi ho hc
      rcases hb' with h | h <;> omega
  have hcome : ∀ i, i < ts.length → ltI ts i ≤ b → ∀ m, a ≤ m → (m : Int) < ltI ts i → cn (urF ts) i m < wkI ts i → (a : Int) ≤ cmI ts i := by
    intro i hi hib m hm hml hc
    obtain ⟨u1, _⟩ := va_at hv hi
    rcases hbad with h0 | ⟨k, hk, _⟩
    · omega
    · apply Int.not_lt.1
      intro hlt
      have := key i hi hib k hk (op_iff.2 ⟨by omega, by omega⟩)
      have := cn_mono (urF ts) i (show k ≤ m by omega)
      omega
  have hab : a < b := by
    rcases Nat.lt_or_ge a b with h | h
    · exact h
    · exfalso
      have e : a = b := by omega
      rcases hbad with h0 | ⟨k, hk, _⟩
      · omega
      · have h1 := key j hj (by omega) k hk (op_iff.2 ⟨by omega, by omega⟩)
        have := cn_mono (urF ts) j (show k ≤ 100 by omega)
        omega
  have hjS : (a : Int) ≤ cmI ts j := by
    rcases hbad with h0 | ⟨k, hk, _⟩
    · omega
    · apply Int.not_lt.1
      intro hlt
      have := key j hj (by omega) k hk (op_iff.2 ⟨by omega, by omega⟩)
      have := cn_mono (urF ts) j (show k ≤ 100 by omega)
      omega
  refine ⟨a, b, hab, by omega, ?_⟩
  have h1 : sm (fun i => if inS ts a b i = true then cn (urF ts) i 100 else 0) ts.length < dmI ts a b := by
    refine sm_lt (j := j) _ (fun i hi => ?_) hj ?_
    · have := ur_le ts hv hi 100
      by_cases hS : inS ts a b i = true
      · rw [if_pos hS, if_pos hS]; exact this
      · rw [if_neg hS, if_neg hS]; exact Int.le_refl _
    · have hS : inS ts a b j = true := inS_iff.2 ⟨hjS, by omega⟩
      rw [if_pos hS, if_pos hS]; exact hl
  rw [sm_cn] at h1
  refine Int.lt_of_le_of_lt ?_ h1
  have := nb_ge (Q := fun m => decide (0 ≤ urF ts m) && decide (urF ts m < ts.length) && inS ts a b (urF ts m).toNat) (a := a) (b := b) 100 (by
    intro m h1 h2
    have hg := hgood m h1 h2
    have hbd := ur_bd ts m
    have h0 : 0 ≤ urF ts m := by omega
    have hlb : ltI ts (urF ts m).toNat ≤ b := by omega
    obtain ⟨ho, hc⟩ := ur_cd ts m h0
    have ho' := op_iff.1 ho
    simp only [Bool.and_eq_true, decide_eq_true_eq]
    exact ⟨⟨h0, hbd.2⟩, inS_iff.2 ⟨hcome _ (by omega) hlb m h1 ho'.2 hc, hlb⟩⟩)
  omega

/-- Some plan does all exactly if the urgent one does, exactly if no stretch is overfull. -/
def canB (ts : List (Int × Int × Int)) : Bool := (List.range ts.length).all fun i => decide (cn (urF ts) i 100 = wkI ts i)
theorem can_does {ts : List (Int × Int × Int)} : canB ts = true ↔ Does ts (urF ts) := by
  simp [canB, Does, List.all_eq_true]
theorem can_fits {ts : List (Int × Int × Int)} (hv : vaB ts = true) : canB ts = true ↔ ∀ a b : Nat, a < b → b ≤ 100 → dmI ts a b ≤ b - a := by
  rw [can_does]
  constructor
  · intro h a b hab _
    exact does_fits (ur_right ts hv) h hab
  · intro h i hi
    have h1 := ur_le ts hv hi 100
    apply Int.le_antisymm h1
    apply Int.not_lt.1
    intro hl
    obtain ⟨a, b, g1, g2, g3⟩ := late_over hv hi hl
    have := h a b g1 g2
    omega
theorem plan_can {ts : List (Int × Int × Int)} (hv : vaB ts = true) {p : Nat → Int} (hr : Rt ts p) (hd : Does ts p) : canB ts = true :=
  (can_fits hv).2 fun _ _ hab _ => does_fits hr hd hab
end Go.Proofs.Ythanmiifcpajhaa
