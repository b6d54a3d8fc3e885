/-
  Plain words: the longest stretch of work; slack and what can be done; nothing of the program.
-/
import Derived.Test.YthanmiifcpajhaaEdfM
set_option linter.unusedVariables false
set_option linter.unusedSimpArgs false
namespace Go.Proofs.Ythanmiifcpajhaa
open Go Go.RowKit

def Busy (p : Nat → Int) (f e : Nat) : Prop := ∀ m, f ≤ m → m < e → p m ≠ -1
/-- The longest stretch of work among the first k minutes, of several the first one. -/
structure LongK (p : Nat → Int) (k a b : Nat) : Prop where
  ab : a ≤ b
  bk : b ≤ k
  busy : Busy p a b
  most : ∀ f e, e ≤ k → f ≤ e → Busy p f e → e - f ≤ b - a
  zero : a = b → a = 0
  first : a < b → ∀ f e, f < a → e ≤ k → f ≤ e → Busy p f e → e - f < b - a
theorem LongK.unique {p : Nat → Int} {k a b a' b' : Nat} (h : LongK p k a b) (h' : LongK p k a' b') : a = a' ∧ b = b' := by
  have h1 := h.most a' b' h'.bk h'.ab h'.busy
  have h2 := h'.most a b h.bk h.ab h.busy
  have e1 := h.ab
  have e2 := h'.ab
  by_cases hz : a = b
  · have := h.zero hz
    have := h'.zero (by omega)
    omega
  · have g1 := h.first (by omega) a' b'
    have g2 := h'.first (by omega) a b
    have : ¬ a' < a := fun hl => by have := g1 hl h'.bk h'.ab h'.busy; omega
    have : ¬ a < a' := fun hl => by have := g2 hl h.bk h.ab h.busy; omega
    omega
theorem LongK.start (p : Nat → Int) : LongK p 0 0 0 :=
  ⟨Nat.le_refl _, Nat.le_refl _, fun m _ h => by omega, fun f e h1 h2 _ => by omega, fun _ => rfl, fun h => by omega⟩
/-- Where the run of work that ends at k begins. -/
structure RunK (p : Nat → Int) (k s : Nat) : Prop where
  sk : s ≤ k
  busy : Busy p s k
  low : ∀ f, f < s → ¬ Busy p f k ∨ k < s
theorem LongK.idle {p : Nat → Int} {k a b : Nat} (h : LongK p k a b) (hp : p k = -1) : LongK p (k + 1) a b := by
  have hno : ∀ f e, e ≤ k + 1 → f ≤ e → Busy p f e → e ≤ k ∨ f = e := by
    intro f e he hf hb
    by_cases h1 : e ≤ k
    · exact .inl h1
    · by_cases h2 : f = e
      · exact .inr h2
      · exact absurd hp (hb k (by omega) (by omega))
  refine ⟨h.ab, by have := h.bk; omega, h.busy, fun f e he hf hb => ?_, h.zero, fun hl f e hfa he hf hb => ?_⟩
  · rcases hno f e he hf hb with h1 | h1
    · exact h.most f e h1 hf hb
    · omega
  · rcases hno f e he hf hb with h1 | h1
    · exact h.first hl f e hfa h1 hf hb
    · omega
theorem run_low {p : Nat → Int} {k s f : Nat} (h : s = 0 ∨ (0 < s ∧ p (s - 1) = -1)) (hs : s ≤ k) (hb : Busy p f k) (hf : f ≤ k) (hk : s < k ∨ f < k) : s ≤ f ∨ f = k := by
  rcases h with h | ⟨h1, h2⟩
  · omega
  · by_cases hl : s ≤ f
    · exact .inl hl
    · exact absurd h2 (hb (s - 1) (by omega) (by omega))
theorem LongK.more {p : Nat → Int} {k a b s : Nat} (h : LongK p k a b) (hp : p k ≠ -1) (hs : s ≤ k) (hbs : Busy p s k) (hlow : s = 0 ∨ (0 < s ∧ p (s - 1) = -1)) :
    (b - a < k + 1 - s → LongK p (k + 1) s (k + 1)) ∧ (¬ b - a < k + 1 - s → LongK p (k + 1) a b) := by
  have low : ∀ f, f ≤ k + 1 → Busy p f (k + 1) → s ≤ f := by
    intro f hf hb
    rcases hlow with h0 | ⟨h1, h2⟩
    · omega
    · by_cases hl : s ≤ f
      · exact hl
      · exact absurd h2 (hb (s - 1) (by omega) (by omega))
  have hbk : Busy p s (k + 1) := fun m h1 h2 => by
    by_cases e : m = k
    · subst e; exact hp
    · exact hbs m h1 (by omega)
  have hab := h.ab
  have hbk2 := h.bk
  constructor
  · intro hlt
    refine ⟨by omega, Nat.le_refl _, hbk, fun f e he hf hb => ?_, fun e => by omega, fun _ f e hfs he hf hb => ?_⟩
    · by_cases h1 : e ≤ k
      · have := h.most f e h1 hf hb; omega
      · obtain rfl : e = k + 1 := by omega
        have := low f hf hb; omega
    · by_cases h1 : e ≤ k
      · have := h.most f e h1 hf hb; omega
      · obtain rfl : e = k + 1 := by omega
        have := low f hf hb; omega
  · intro hge
    refine ⟨hab, by omega, h.busy, fun f e he hf hb => ?_, h.zero, fun hl f e hfa he hf hb => ?_⟩
    · by_cases h1 : e ≤ k
      · exact h.most f e h1 hf hb
      · obtain rfl : e = k + 1 := by omega
        have := low f hf hb; omega
    · by_cases h1 : e ≤ k
      · exact h.first hl f e hfa h1 hf hb
      · obtain rfl : e = k + 1 := by omega
        have := low f hf hb; omega

/-- As the plan tells it, minute by minute: the run's beginning; the longest so far. -/
def stK (p : Nat → Int) : Nat → Nat
  | 0 => 0
  | k + 1 => if p k = -1 then k + 1 else stK p k
def lgK (p : Nat → Int) : Nat → Nat × Nat
  | 0 => (0, 0)
  | k + 1 => if p k = -1 then lgK p k else if (lgK p k).2 - (lgK p k).1 < k + 1 - stK p k then (stK p k, k + 1) else lgK p k
theorem stK_run (p : Nat → Int) : ∀ k, stK p k ≤ k ∧ Busy p (stK p k) k ∧ (stK p k = 0 ∨ (0 < stK p k ∧ p (stK p k - 1) = -1))
  | 0 => ⟨Nat.le_refl _, fun m _ h => by omega, .inl rfl⟩
  | k + 1 => by
    obtain ⟨h1, h2, h3⟩ := stK_run p k
    unfold stK
    by_cases hp : p k = -1
    · rw [if_pos hp]
      exact ⟨Nat.le_refl _, fun m h1 h2 => by omega, .inr ⟨by omega, by simpa using hp⟩⟩
    · rw [if_neg hp]
      refine ⟨by omega, fun m hm1 hm2 => ?_, h3⟩
      by_cases e : m = k
      · subst e; exact hp
      · exact h2 m hm1 (by omega)
theorem lgK_long (p : Nat → Int) : ∀ k, LongK p k (lgK p k).1 (lgK p k).2
  | 0 => LongK.start p
  | k + 1 => by
    have ih := lgK_long p k
    obtain ⟨h1, h2, h3⟩ := stK_run p k
    unfold lgK
    by_cases hp : p k = -1
    · rw [if_pos hp]; exact ih.idle hp
    · rw [if_neg hp]
      obtain ⟨m1, m2⟩ := ih.more hp h1 h2 h3
      by_cases hlt : (lgK p k).2 - (lgK p k).1 < k + 1 - stK p k
      · rw [if_pos hlt]; exact m1 hlt
      · rw [if_neg hlt]; exact m2 hlt
/-- As the reference tells it: from each minute on, how far work goes. -/
structure FromK (p : Nat → Int) (f a b : Nat) : Prop where
  ab : a ≤ b
  bk : b ≤ 100
  busy : Busy p a b
  most : ∀ g e, g < f → e ≤ 100 → g ≤ e → Busy p g e → e - g ≤ b - a
  zero : a = b → a = 0
  first : a < b → ∀ g e, g < a → e ≤ 100 → g ≤ e → Busy p g e → e - g < b - a
  low : a < b → a < f
theorem FromK.start (p : Nat → Int) : FromK p 0 0 0 :=
  ⟨Nat.le_refl _, by omega, fun m _ h => by omega, fun g e h => by omega, fun _ => rfl, fun h => by omega, fun h => by omega⟩
theorem FromK.next {p : Nat → Int} {f a b t : Nat} (h : FromK p f a b) (hft : f ≤ t) (ht : t ≤ 100) (hb : Busy p f t) (he : t = 100 ∨ p t = -1) :
    (b - a < t - f → FromK p (f + 1) f t) ∧ (¬ b - a < t - f → FromK p (f + 1) a b) := by
  have far : ∀ e, e ≤ 100 → f ≤ e → Busy p f e → e ≤ t := by
    intro e h1 h2 h3
    rcases he with he | he
    · omega
    · by_cases hl : e ≤ t
      · exact hl
      · exact absurd he (h3 t hft (by omega))
  have hab := h.ab
  constructor
  · intro hlt
    refine ⟨hft, ht, hb, fun g e hg h1 h2 h3 => ?_, fun e => by omega, fun _ g e hg h1 h2 h3 => ?_, fun _ => by omega⟩
    · by_cases e1 : g = f
      · subst e1; have := far e h1 h2 h3; omega
      · have := h.most g e (by omega) h1 h2 h3; omega
    · have := h.most g e hg h1 h2 h3; omega
  · intro hge
    refine ⟨hab, h.bk, h.busy, fun g e hg h1 h2 h3 => ?_, h.zero, h.first, fun hl => by have := h.low hl; omega⟩
    by_cases e1 : g = f
    · subst e1; have := far e h1 h2 h3; omega
    · exact h.most g e (by omega) h1 h2 h3
theorem FromK.long {p : Nat → Int} {a b : Nat} (h : FromK p 100 a b) : LongK p 100 a b :=
  ⟨h.ab, h.bk, h.busy, fun f e he hf hb => by
    by_cases h1 : f < 100
    · exact h.most f e h1 he hf hb
    · omega, h.zero, fun hl f e hfa he hf hb => h.first hl f e hfa he hf hb⟩
theorem from_eq {p : Nat → Int} {a b : Nat} (h : FromK p 100 a b) : a = (lgK p 100).1 ∧ b = (lgK p 100).2 := h.long.unique (lgK_long p 100)
end Go.Proofs.Ythanmiifcpajhaa
