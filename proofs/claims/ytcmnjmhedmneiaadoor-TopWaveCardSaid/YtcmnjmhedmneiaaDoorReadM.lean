/-
  Plain words for what is read of a text; nothing of the program.
-/
import Derived.Test.YtcmnjmhedmneiaaDoorPlanM
namespace Go.Proofs.YtcmnjmhedmneiaaDoor
open Go.RowKit

/-- The step behind a sign of change with its bit. -/
def chgF (k : Nat) (b : UInt8) : Option Nat :=
  if b = 49 then (if k < 4 then some (k + 1) else none) else (if b = 48 then (if 0 < k then some (k - 1) else none) else none)
theorem chg_lt {k k' : Nat} {b : UInt8} (hk : k < 5) (h : chgF k b = some k') : k' < 5 := by
  unfold chgF at h
  by_cases h1 : b = 49
  · rw [if_pos h1] at h
    by_cases h2 : k < 4
    · rw [if_pos h2] at h; cases h; omega
    · rw [if_neg h2] at h; cases h
  · rw [if_neg h1] at h
    by_cases h2 : b = 48
    · rw [if_pos h2] at h
      by_cases h3 : 0 < k
      · rw [if_pos h3] at h; cases h; omega
      · rw [if_neg h3] at h; cases h
    · rw [if_neg h2] at h; cases h

/-- What is read of a text from a step on: the differences with the steps of their words, and how many signs of change; the first number only bounds the way. -/
def rdF : Nat → Nat → List UInt8 → Option (List (Int × Nat) × Nat)
  | 0, _, _ => none
  | n + 1, k, l =>
    if l = [] then some ([], 0)
    else if l.length < wdN k then none
    else if l.take (wdN k) = signL (wdN k) then
      (match l.drop (wdN k) with
        | b :: c :: r => (chgF k b).bind fun k' => (rdF n k' (c :: r)).map fun x => (x.1, x.2 + 1)
        | _ => none)
    else (rdF n k (l.drop (wdN k))).map fun x => ((numL (l.take (wdN k)), k) :: x.1, x.2)
theorem rdF_succ (n k : Nat) (l : List UInt8) : rdF (n + 1) k l =
    if l = [] then some ([], 0)
    else if l.length < wdN k then none
    else if l.take (wdN k) = signL (wdN k) then
      (match l.drop (wdN k) with
        | b :: c :: r => (chgF k b).bind fun k' => (rdF n k' (c :: r)).map fun x => (x.1, x.2 + 1)
        | _ => none)
    else (rdF n k (l.drop (wdN k))).map fun x => ((numL (l.take (wdN k)), k) :: x.1, x.2) := rfl
def rdL (k : Nat) (l : List UInt8) : Option (List (Int × Nat) × Nat) := rdF (l.length + 1) k l
def addR (ps : List (Int × Nat)) (c : Nat) (o : Option (List (Int × Nat) × Nat)) : Option (List (Int × Nat) × Nat) := o.map fun x => (ps ++ x.1, c + x.2)
theorem addR_zero (o : Option (List (Int × Nat) × Nat)) : addR [] 0 o = o := by
  unfold addR; cases o with
  | none => rfl
  | some x => simp
theorem addR_none (ps : List (Int × Nat)) (c : Nat) : addR ps c none = none := rfl
theorem addR_addR (ps qs : List (Int × Nat)) (c e : Nat) (o : Option (List (Int × Nat) × Nat)) : addR ps c (addR qs e o) = addR (ps ++ qs) (c + e) o := by
  unfold addR; cases o with
  | none => rfl
  | some x => simp [Nat.add_assoc]

theorem rdF_more : ∀ (n k : Nat) (l : List UInt8), l.length < n → rdF (n + 1) k l = rdF n k l := by
  intro n
  induction n with
  | zero => intro k l h; omega
  | succ n ih =>
    intro k l h
    rw [rdF_succ (n + 1) k l, rdF_succ n k l]
    by_cases h1 : l = []
    · rw [if_pos h1, if_pos h1]
    rw [if_neg h1, if_neg h1]
    by_cases h2 : l.length < wdN k
    · rw [if_pos h2, if_pos h2]
    rw [if_neg h2, if_neg h2]
    have hw := wd_bd k
    have hd : (l.drop (wdN k)).length < n := by rw [List.length_drop]; omega
    by_cases h3 : l.take (wdN k) = signL (wdN k)
    · rw [if_pos h3, if_pos h3]
      generalize l.drop (wdN k) = m at hd
      match m, hd with
      | [], _ => rfl
      | [_], _ => rfl
      | b :: c :: r, hd =>
        show ((chgF k b).bind fun k' => (rdF (n + 1) k' (c :: r)).map fun x => (x.1, x.2 + 1)) = (chgF k b).bind fun k' => (rdF n k' (c :: r)).map fun x => (x.1, x.2 + 1)
        cases chgF k b with
        | none => rfl
        | some k' => rw [Option.bind_some, Option.bind_some, ih k' _ (by simp at hd ⊢; omega)]
    · rw [if_neg h3, if_neg h3, ih k _ hd]
theorem rdF_all (k : Nat) (l : List UInt8) : ∀ n, l.length < n → rdF n k l = rdL k l := by
  intro n h
  obtain ⟨j, rfl⟩ : ∃ j, n = l.length + 1 + j := ⟨n - (l.length + 1), by omega⟩
  clear h
  induction j with
  | zero => rfl
  | succ j ih => rw [← Nat.add_assoc, rdF_more _ _ _ (by omega), ih]
theorem rd_nil (k : Nat) : rdL k [] = some ([], 0) := rfl
theorem rd_short {k : Nat} {l : List UInt8} (h : l ≠ []) (h2 : l.length < wdN k) : rdL k l = none := by
  rw [rdL, rdF_succ, if_neg h, if_pos h2]
theorem rd_word {k : Nat} {l : List UInt8} (h : wdN k ≤ l.length) (h2 : l.take (wdN k) ≠ signL (wdN k)) : rdL k l = addR [(numL (l.take (wdN k)), k)] 0 (rdL k (l.drop (wdN k))) := by
  have hw := wd_bd k
  have hne : l ≠ [] := by rintro rfl; simp at h; omega
  rw [rdL, rdF_succ, if_neg hne, if_neg (by omega), if_neg h2, rdF_all _ _ _ (by rw [List.length_drop]; omega)]
  unfold addR
  cases rdL k (l.drop (wdN k)) with
  | none => rfl
  | some x => simp
theorem rd_one {k : Nat} {l : List UInt8} (h : wdN k ≤ l.length) (h2 : l.take (wdN k) = signL (wdN k)) (h3 : l.length < wdN k + 2) : rdL k l = none := by
  have hw := wd_bd k
  have hne : l ≠ [] := by rintro rfl; simp at h; omega
  rw [rdL, rdF_succ, if_neg hne, if_neg (by omega), if_pos h2]
  have hd : (l.drop (wdN k)).length < 2 := by rw [List.length_drop]; omega
  generalize l.drop (wdN k) = m at hd
  match m, hd with
  | [], _ => rfl
  | [_], _ => rfl
  | _ :: _ :: _, hd => simp at hd; omega
theorem rd_chg {k : Nat} {l : List UInt8} {b : UInt8} (h2 : l.take (wdN k) = signL (wdN k)) (h3 : wdN k + 2 ≤ l.length) (hb : l[wdN k]? = some b) :
    rdL k l = (chgF k b).bind fun k' => addR [] 1 (rdL k' (l.drop (wdN k + 1))) := by
  have hw := wd_bd k
  have hne : l ≠ [] := by rintro rfl; simp at h3
  rw [rdL, rdF_succ, if_neg hne, if_neg (by omega), if_pos h2]
  have e1 : l.drop (wdN k) = b :: l.drop (wdN k + 1) := by
    rw [List.drop_eq_getElem_cons (by omega)]
    congr 1
    rw [List.getElem?_eq_getElem (by omega)] at hb
    exact Option.some.inj hb
  have hd : 1 ≤ (l.drop (wdN k + 1)).length := by rw [List.length_drop]; omega
  have hd2 : (l.drop (wdN k + 1)).length < l.length := by rw [List.length_drop]; omega
  rw [e1]
  generalize l.drop (wdN k + 1) = m at hd hd2
  match m, hd with
  | [], hd => simp at hd
  | c :: r, _ =>
    show ((chgF k b).bind fun k' => (rdF l.length k' (c :: r)).map fun x => (x.1, x.2 + 1)) = _
    cases chgF k b with
    | none => rfl
    | some k' =>
      rw [Option.bind_some, Option.bind_some, rdF_all _ _ _ hd2]
      unfold addR
      cases rdL k' (c :: r) with
      | none => rfl
      | some x => simp [Nat.add_comm]

/-! ### a text of a plan is read as the plan -/
theorem chg_first : ∀ a, a < 5 → ∀ b, b < 5 → a = b ∨ ∃ a', a' < 5 ∧ ((a < b ∧ a' = a + 1 ∧ changeL a b = signL (wdN a) ++ (49 :: changeL a' b)) ∨ (b < a ∧ a' + 1 = a ∧ changeL a b = signL (wdN a) ++ (48 :: changeL a' b))) := by
  intro a ha b hb
  rcases Nat.lt_trichotomy a b with h | h | h
  · refine .inr ⟨a + 1, by omega, .inl ⟨h, rfl, ?_⟩⟩
    have : ∀ a, a < 5 → ∀ b, b < 5 → a < b → changeL a b = signL (wdN a) ++ (49 :: changeL (a + 1) b) := by decide +kernel
    exact this a ha b hb h
  · exact .inl h
  · obtain ⟨j, rfl⟩ : ∃ j, a = j + 1 := ⟨a - 1, by omega⟩
    refine .inr ⟨j, by omega, .inr ⟨h, rfl, ?_⟩⟩
    have : ∀ a, a < 4 → ∀ b, b < 5 → b < a + 1 → changeL (a + 1) b = signL (wdN (a + 1)) ++ (48 :: changeL a b) := by decide +kernel
    exact this j (by omega) b hb h
theorem chg_self (a : Nat) : changeL a a = [] := by simp [changeL, upsL, dnsL]
def gapN (a b : Nat) : Nat := (a - b) + (b - a)
def chgN : Nat → List (Int × Nat) → Nat
  | _, [] => 0
  | a, p :: t => gapN a p.2 + chgN p.2 t
theorem rd_sign {a : Nat} {b : UInt8} {r : List UInt8} (h : r ≠ []) : rdL a (signL (wdN a) ++ (b :: r)) = (chgF a b).bind fun k' => addR [] 1 (rdL k' r) := by
  have hw := wd_bd a
  have hl := sign_len (wdN a) hw.1
  have hr : 1 ≤ r.length := by
    cases r with
    | nil => exact absurd rfl h
    | cons _ _ => simp
  rw [rd_chg (b := b)]
  · rw [List.drop_append, List.drop_of_length_le (by omega), hl, show wdN a + 1 - wdN a = 1 by omega]; rfl
  · rw [List.take_append_of_le_length (by omega), List.take_of_length_le (by omega)]
  · rw [List.length_append, hl, List.length_cons]; omega
  · rw [List.getElem?_append_right (by omega), hl, Nat.sub_self]; rfl
theorem rd_change : ∀ (n a b : Nat) (r : List UInt8), gapN a b = n → a < 5 → b < 5 → r ≠ [] → rdL a (changeL a b ++ r) = addR [] n (rdL b r) := by
  intro n
  induction n with
  | zero =>
    intro a b r hg ha hb hr
    obtain rfl : a = b := by unfold gapN at hg; omega
    rw [chg_self, List.nil_append, addR_zero]
  | succ n ih =>
    intro a b r hg ha hb hr
    rcases chg_first a ha b hb with rfl | ⟨a', ha', ⟨h1, h2, h3⟩ | ⟨h1, h2, h3⟩⟩
    · unfold gapN at hg; omega
    · rw [h3, List.append_assoc, List.cons_append, rd_sign (by simp [hr])]
      have : chgF a 49 = some a' := by unfold chgF; rw [if_pos rfl, if_pos (by omega), h2]
      rw [this, Option.bind_some, ih a' b r (by unfold gapN at hg ⊢; omega) ha' hb hr, addR_addR, Nat.add_comm 1 n]; rfl
    · rw [h3, List.append_assoc, List.cons_append, rd_sign (by simp [hr])]
      have : chgF a 48 = some a' := by unfold chgF; rw [if_neg (by decide), if_pos rfl, if_pos (by omega), show a - 1 = a' by omega]
      rw [this, Option.bind_some, ih a' b r (by unfold gapN at hg ⊢; omega) ha' hb hr, addR_addR, Nat.add_comm 1 n]; rfl
/-- Steps and differences that fit. -/
def Fits (ps : List (Int × Nat)) : Prop := ∀ p ∈ ps, p.2 < 5 ∧ canB (wdN p.2) p.1 = true
theorem word_ne_sign {k : Nat} {d : Int} (hk : k < 5) (h : canB (wdN k) d = true) : wordL (wdN k) d ≠ signL (wdN k) := by
  intro he
  have h1 := num_there hk (can_in h)
  have h2 := sign_word k hk
  have h3 := num_there hk h2.1
  rw [h2.2] at h3
  rw [he, h3] at h1
  simp only [canB, decide_eq_true_eq] at h
  omega
theorem rd_front {k : Nat} {d : Int} (r : List UInt8) (hk : k < 5) (h : canB (wdN k) d = true) : rdL k (wordL (wdN k) d ++ r) = addR [(d, k)] 0 (rdL k r) := by
  have hl := word_len (wdN k) d
  have e1 : (wordL (wdN k) d ++ r).take (wdN k) = wordL (wdN k) d := by rw [List.take_append_of_le_length (by omega), List.take_of_length_le (by omega)]
  have e2 : (wordL (wdN k) d ++ r).drop (wdN k) = r := by rw [List.drop_append, List.drop_of_length_le (by omega), hl, Nat.sub_self]; rfl
  rw [rd_word (by rw [List.length_append]; omega) (by rw [e1]; exact word_ne_sign hk h), e1, e2, num_there hk (can_in h)]
theorem rd_plan : ∀ (ps : List (Int × Nat)) (a : Nat), a < 5 → Fits ps → rdL a (planG a ps) = some (ps, chgN a ps)
  | [], a, _, _ => rfl
  | p :: t, a, ha, h => by
    have hp := h p (by simp)
    have hw := wd_bd p.2
    rw [planG, List.append_assoc, rd_change _ _ _ _ rfl ha hp.1 (by intro he; have := congrArg List.length he; simp [word_len] at this; omega), rd_front _ hp.1 hp.2, rd_plan t p.2 hp.1 (fun q hq => h q (by simp [hq])), addR_addR]
    simp [addR, chgN]

/-! ### what is read is a plan with more signs of change -/
theorem rd_ne : ∀ (n k : Nat) (l : List UInt8), l.length < n → ∀ ps c, l ≠ [] → rdL k l = some (ps, c) → ps ≠ [] := by
  intro n
  induction n with
  | zero => intro k l h; omega
  | succ n ih =>
    intro k l h ps c hl hr
    have hw := wd_bd k
    rcases Nat.lt_or_ge l.length (wdN k) with h1 | h1
    · rw [rd_short hl h1] at hr; cases hr
    by_cases h2 : l.take (wdN k) = signL (wdN k)
    · rcases Nat.lt_or_ge l.length (wdN k + 2) with h3 | h3
      · rw [rd_one h1 h2 h3] at hr; cases hr
      obtain ⟨b, hb⟩ := getElem?_of_lt (show wdN k < l.length by omega)
      rw [rd_chg h2 h3 hb] at hr
      cases hc : chgF k b with
      | none => rw [hc] at hr; cases hr
      | some k' =>
        rw [hc, Option.bind_some] at hr
        cases hx : rdL k' (l.drop (wdN k + 1)) with
        | none => rw [hx] at hr; cases hr
        | some x =>
          rw [hx] at hr
          simp [addR] at hr
          rw [← hr.1]
          exact ih k' _ (by rw [List.length_drop]; omega) x.1 x.2 (by intro he; have := congrArg List.length he; rw [List.length_drop] at this; simp at this; omega) hx
    · rw [rd_word h1 h2] at hr
      cases hx : rdL k (l.drop (wdN k)) with
      | none => rw [hx] at hr; cases hr
      | some x => rw [hx] at hr; simp [addR] at hr; rw [← hr.1]; simp
theorem chg_any1 : ∀ a, a < 4 → ∀ j, j < 5 → (changeL a j = signL (wdN a) ++ (49 :: changeL (a + 1) j) ∧ gapN a j = gapN (a + 1) j + 1) ∨ ((changeL a j).length < wdN a + 1 + (changeL (a + 1) j).length ∧ gapN a j ≤ gapN (a + 1) j + 1) := by decide +kernel
theorem chg_any0 : ∀ a, a < 4 → ∀ j, j < 5 → (changeL (a + 1) j = signL (wdN (a + 1)) ++ (48 :: changeL a j) ∧ gapN (a + 1) j = gapN a j + 1) ∨ ((changeL (a + 1) j).length < wdN (a + 1) + 1 + (changeL a j).length ∧ gapN (a + 1) j ≤ gapN a j + 1) := by decide +kernel
theorem chg_any {a a' : Nat} {b : UInt8} (ha : a < 5) (h : chgF a b = some a') (j : Nat) (hj : j < 5) : (changeL a j = signL (wdN a) ++ (b :: changeL a' j) ∧ gapN a j = gapN a' j + 1) ∨ ((changeL a j).length < wdN a + 1 + (changeL a' j).length ∧ gapN a j ≤ gapN a' j + 1) := by
  unfold chgF at h
  by_cases h1 : b = 49
  · rw [if_pos h1] at h
    by_cases h2 : a < 4
    · rw [if_pos h2] at h; cases h; subst h1; exact chg_any1 a h2 j hj
    · rw [if_neg h2] at h; cases h
  · rw [if_neg h1] at h
    by_cases h2 : b = 48
    · rw [if_pos h2] at h
      by_cases h3 : 0 < a
      · rw [if_pos h3] at h; cases h; subst h2
        obtain ⟨c, rfl⟩ : ∃ c, a = c + 1 := ⟨a - 1, by omega⟩
        exact chg_any0 c (by omega) j hj
      · rw [if_neg h3] at h; cases h
    · rw [if_neg h2] at h; cases h
theorem num_can {k : Nat} (hk : k < 5) {l : List UInt8} (hl : l.length = wdN k) (h : l.all bitB = true) (h2 : l ≠ signL (wdN k)) : canB (wdN k) (numL l) = true ∧ wordL (wdN k) (numL l) = l := by
  obtain ⟨h3, h4⟩ := num_back hk hl h
  refine ⟨?_, h4⟩
  simp only [inwB, decide_eq_true_eq] at h3
  simp only [canB, decide_eq_true_eq]
  have : numL l ≠ -halfN (wdN k) := by
    intro he
    rw [he, (sign_word k hk).2] at h4
    exact h2 h4.symm
  omega
theorem rd_reads : ∀ (n k : Nat) (l : List UInt8), l.length < n → k < 5 → l.all bitB = true → ∀ ps c, rdL k l = some (ps, c) →
    Fits ps ∧ chgN k ps ≤ c ∧ ((l = planG k ps ∧ c = chgN k ps) ∨ (planG k ps).length < l.length) := by
  intro n
  induction n with
  | zero => intro k l h; omega
  | succ n ih =>
    intro k l h hk hbits ps c hr
    have hw := wd_bd k
    by_cases hl : l = []
    · subst hl
      rw [rd_nil] at hr
      cases hr
      exact ⟨fun p hp => by simp at hp, Nat.le_refl _, .inl ⟨rfl, rfl⟩⟩
    rcases Nat.lt_or_ge l.length (wdN k) with h1 | h1
    · rw [rd_short hl h1] at hr; cases hr
    by_cases h2 : l.take (wdN k) = signL (wdN k)
    · rcases Nat.lt_or_ge l.length (wdN k + 2) with h3 | h3
      · rw [rd_one h1 h2 h3] at hr; cases hr
      obtain ⟨b, hb⟩ := getElem?_of_lt (show wdN k < l.length by omega)
      rw [rd_chg h2 h3 hb] at hr
      cases hc : chgF k b with
      | none => rw [hc] at hr; cases hr
      | some k' =>
        rw [hc, Option.bind_some] at hr
        cases hx : rdL k' (l.drop (wdN k + 1)) with
        | none => rw [hx] at hr; cases hr
        | some x =>
          rw [hx] at hr
          simp [addR] at hr
          have hk' := chg_lt hk hc
          have hdl : (l.drop (wdN k + 1)).length = l.length - (wdN k + 1) := List.length_drop
          have hne := rd_ne _ k' (l.drop (wdN k + 1)) (Nat.lt_succ_self _) x.1 x.2 (by intro he; rw [he] at hdl; simp at hdl; omega) hx
          have hrec := ih k' (l.drop (wdN k + 1)) (by omega) hk' (by
            rw [List.all_eq_true] at hbits ⊢
            exact fun y hy => hbits y (List.mem_of_mem_drop hy)) x.1 x.2 hx
          obtain ⟨e1, e2⟩ := hr
          subst e1
          have hlt : l = signL (wdN k) ++ (b :: l.drop (wdN k + 1)) := by
            conv => lhs; rw [← List.take_append_drop (wdN k) l, h2]
            congr 1
            rw [List.drop_eq_getElem_cons (by omega)]
            congr 1
            rw [List.getElem?_eq_getElem (by omega)] at hb
            exact Option.some.inj hb
          have hs := sign_len (wdN k) hw.1
          cases hx1 : x.1 with
          | nil => exact absurd hx1 hne
          | cons p t =>
            rw [hx1] at hrec
            have hp := hrec.1 p (by simp)
            have hj := chg_any hk hc p.2 hp.1
            refine ⟨hrec.1, ?_, ?_⟩
            · have := hrec.2.1
              simp only [chgN] at this ⊢
              omega
            · have h5 := hrec.2.2
              simp only [planG, chgN, List.length_append] at h5 ⊢
              rcases hj with ⟨j1, j2⟩ | ⟨j1, _⟩
              · rcases h5 with ⟨h5, h6⟩ | h5
                · refine .inl ⟨?_, by omega⟩
                  conv => lhs; rw [hlt, h5]
                  rw [j1]; simp only [List.append_assoc, List.cons_append]
                · refine .inr ?_
                  rw [j1, List.length_append, List.length_cons, hs]
                  omega
              · refine .inr ?_
                have h7 : (changeL k' p.2).length + (wordL (wdN p.2) p.1).length + (planG p.2 t).length ≤ (l.drop (wdN k + 1)).length := by
                  rcases h5 with ⟨h5, _⟩ | h5
                  · have := congrArg List.length h5
                    simp only [List.length_append] at this
                    omega
                  · omega
                omega
    · rw [rd_word h1 h2] at hr
      cases hx : rdL k (l.drop (wdN k)) with
      | none => rw [hx] at hr; cases hr
      | some x =>
        rw [hx] at hr
        simp [addR] at hr
        have hrec := ih k (l.drop (wdN k)) (by rw [List.length_drop]; omega) hk (by
          rw [List.all_eq_true] at hbits ⊢
          exact fun y hy => hbits y (List.mem_of_mem_drop hy)) x.1 x.2 hx
        obtain ⟨e1, e2⟩ := hr
        subst e1
        subst e2
        have hcan := num_can hk (l := l.take (wdN k)) (by rw [List.length_take]; omega) (by
          rw [List.all_eq_true] at hbits ⊢
          exact fun y hy => hbits y (List.mem_of_mem_take hy)) h2
        refine ⟨?_, ?_, ?_⟩
        · intro p hp
          rw [List.mem_cons] at hp
          rcases hp with rfl | hp
          · exact ⟨hk, hcan.1⟩
          · exact hrec.1 p hp
        · simp only [chgN, gapN]; have := hrec.2.1; omega
        · simp only [planG, chgN, chg_self, List.nil_append, hcan.2]
          rcases hrec.2.2 with ⟨h5, h6⟩ | h5
          · refine .inl ⟨?_, by simp only [gapN]; omega⟩
            conv => lhs; rw [← List.take_append_drop (wdN k) l, h5]
          · refine .inr ?_
            rw [List.length_append, List.length_take]
            rw [List.length_drop] at h5
            omega
end Go.Proofs.YtcmnjmhedmneiaaDoor
