/-
  Plain words for a quiet wave form; nothing of the program.
-/
import Derived.Test.YtcmnjmhedmneiaaDoorSamples
namespace Go.Proofs.YtcmnjmhedmneiaaDoor
open Go.RowKit

def farB (m a n : Int) : Bool := decide (m < n - a ∨ m < a - n)
def qtS (m a n : Int) : Int := if farB m a n = true then n else a
def qtG (m : Int) : Int → List Int → List Int
  | _, [] => []
  | a, n :: t => qtS m a n :: qtG m (qtS m a n) t
def qtL (m : Int) (s : List Int) : List Int := qtG m (s.headD 0) s
theorem qtS_far {m a n : Int} (h : farB m a n = true) : qtS m a n = n := by rw [qtS, if_pos h]
theorem qtS_near {m a n : Int} (h : farB m a n = false) : qtS m a n = a := by rw [qtS, if_neg (by rw [h]; simp)]
theorem qtG_len (m : Int) : ∀ (a : Int) (s : List Int), (qtG m a s).length = s.length
  | _, [] => rfl
  | a, n :: t => by rw [qtG, List.length_cons, List.length_cons, qtG_len m _ t]
theorem qtL_len (m : Int) (s : List Int) : (qtL m s).length = s.length := qtG_len m _ s
theorem lastG_cons (a b : Int) (t : List Int) : lastG a (b :: t) = lastG b t := by
  cases t with
  | nil => rfl
  | cons k u =>
    unfold lastG
    rw [List.getLast?_cons_cons]
    cases hh : (k :: u).getLast? with
    | none => simp at hh
    | some z => rfl
theorem qtG_snoc (m : Int) : ∀ (a : Int) (s : List Int) (n : Int), qtG m a (s ++ [n]) = qtG m a s ++ [qtS m (lastG a (qtG m a s)) n]
  | a, [], n => rfl
  | a, k :: t, n => by rw [List.cons_append, qtG, qtG_snoc m _ t n, qtG, List.cons_append, lastG_cons]
theorem qtG_last (m a : Int) (s : List Int) (n : Int) : lastG a (qtG m a (s ++ [n])) = qtS m (lastG a (qtG m a s)) n := by rw [qtG_snoc, last_snoc]
theorem qtS_bd {m a n : Int} (ha : 0 ≤ a ∧ a ≤ 1023) (hn : 0 ≤ n ∧ n ≤ 1023) : 0 ≤ qtS m a n ∧ qtS m a n ≤ 1023 := by
  unfold qtS; split <;> assumption
theorem qtG_bd (m : Int) : ∀ (a : Int) (s : List Int), (0 ≤ a ∧ a ≤ 1023) → (∀ n ∈ s, 0 ≤ n ∧ n ≤ 1023) → ∀ n ∈ qtG m a s, 0 ≤ n ∧ n ≤ 1023
  | _, [], _, _, d, hd => by cases hd
  | a, n :: t, ha, h, d, hd => by
    have hn := qtS_bd (m := m) ha (h n (by simp))
    rw [qtG] at hd
    rcases List.mem_cons.1 hd with rfl | hd
    · exact hn
    · exact qtG_bd m _ t hn (fun x hx => h x (by simp [hx])) d hd
theorem head_bd {s : List Int} (h : ∀ n ∈ s, 0 ≤ n ∧ n ≤ 1023) : 0 ≤ s.headD 0 ∧ s.headD 0 ≤ 1023 := by
  cases s with
  | nil => simp
  | cons a t => exact h a (by simp)
theorem qtL_valid {m : Int} {s : List Int} (h : vwB s = true) : vwB (qtL m s) = true := by
  obtain ⟨h1, h2⟩ := vw_parts h
  have h3 := qtG_bd m _ s (head_bd h2) h2
  simp only [vwB, Bool.and_eq_true, decide_eq_true_eq, List.all_eq_true, smpB]
  exact ⟨by rw [qtL_len]; exact h1, h3⟩
/-- Near or equal: it is the number in front. -/
theorem qtS_again {m a n : Int} : qtS m a (qtS m a n) = qtS m a n := by
  cases h : farB m a n with
  | true => rw [qtS_far h, qtS_far h]
  | false => rw [qtS_near h, qtS]; split <;> rfl
theorem qtG_again {m : Int} : ∀ (a : Int) (s : List Int), qtG m a (qtG m a s) = qtG m a s
  | _, [] => rfl
  | a, n :: t => by rw [qtG, qtG, qtS_again, qtG_again _ t]
theorem qtS_self {m a : Int} : qtS m a a = a := by unfold qtS; split <;> rfl
theorem qtL_head (m : Int) (s : List Int) : (qtL m s).headD 0 = s.headD 0 := by
  cases s with
  | nil => rfl
  | cons a t => show qtS m a a = a; exact qtS_self
theorem qtL_again (m : Int) (s : List Int) : qtL m (qtL m s) = qtL m s := by
  unfold qtL
  have h := qtL_head m s
  unfold qtL at h
  rw [h, qtG_again]
theorem qtS_zero {a n : Int} : qtS 0 a n = n := by
  cases h : farB 0 a n with
  | true => exact qtS_far h
  | false =>
    rw [qtS_near h]
    simp only [farB, decide_eq_false_iff_not] at h
    omega
theorem qtG_zero : ∀ (a : Int) (s : List Int), qtG 0 a s = s
  | _, [] => rfl
  | a, n :: t => by rw [qtG, qtS_zero, qtG_zero n t]
theorem qtL_zero (s : List Int) : qtL 0 s = s := qtG_zero _ s
/-- The sample at k + 1: the given one, or the one in front, which is near. -/
theorem qtG_step (m : Int) : ∀ (a : Int) (s : List Int) (k : Nat) (x y n : Int), s[k + 1]? = some n → (qtG m a s)[k]? = some x → (qtG m a s)[k + 1]? = some y → y = qtS m x n
  | _, [], k, x, y, n, h, _, _ => by cases h
  | a, b :: t, 0, x, y, n, h, h1, h2 => by
    rw [qtG] at h1 h2
    simp at h1 h h2
    cases t with
    | nil => cases h
    | cons c u =>
      rw [qtG] at h2
      simp at h h2
      rw [← h2, h1, h]
  | a, b :: t, k + 1, x, y, n, h, h1, h2 => by
    rw [qtG] at h1 h2
    exact qtG_step m _ t k x y n (by simpa using h) (by simpa using h1) (by simpa using h2)
theorem qtL_first {m : Int} {s : List Int} {x y : Int} (h : s[0]? = some x) (h2 : (qtL m s)[0]? = some y) : y = x := by
  cases s with
  | nil => cases h
  | cons a t =>
    simp [qtL, qtG] at h h2
    rw [← h2, ← h]; exact qtS_self
def qtE (m : Int) (s : List Int) : Int := if vwB s then (if smpB m then 0 else 2) else 30
def qtR (m : Int) (s : List Int) : List Int := if vwB s then (if smpB m then qtL m s else []) else []
theorem qt_ok {m : Int} {s : List Int} (h : vwB s = true) (hm : smpB m = true) : qtE m s = 0 ∧ qtR m s = qtL m s := by simp [qtE, qtR, h, hm]
theorem qt_arg {m : Int} {s : List Int} (h : vwB s = true) (hm : smpB m = false) : qtE m s = 2 ∧ qtR m s = [] := by simp [qtE, qtR, h, hm]
theorem qt_wave {m : Int} {s : List Int} (h : vwB s = false) : qtE m s = 30 ∧ qtR m s = [] := by simp [qtE, qtR, h]
end Go.Proofs.YtcmnjmhedmneiaaDoor
