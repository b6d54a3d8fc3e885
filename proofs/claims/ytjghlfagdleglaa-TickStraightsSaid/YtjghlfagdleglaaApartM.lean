/-
  Plain arithmetic of two clocks: between two corners they go straight (for TickApart and TickFar).
-/
import Derived.Test.YtjghlfagdleglaaRefApart
namespace Go.Proofs.Ytjghlfagdleglaa
open Go.RowKit

/-- A local time for which the line numbered j serves. -/
def lineOk (ms : List (Int × Int)) (j : Nat) (x : Int) : Prop := j + 1 < ms.length ∧ (1 ≤ j → (mA ms j).1 ≤ x) ∧ (j + 1 ≤ ms.length - 2 → x ≤ (mA ms (j + 1)).1)
theorem at_line {ms : List (Int × Int)} {j : Nat} {x : Int} (hv : vkB ms = true) (h : lineOk ms j x) : tN ms x = lowN (lnN ms j x) (spD ms j) ∧ tD ms x = lowD (lnN ms j x) (spD ms j) := by
  obtain ⟨h0, h1, h2⟩ := h
  have hn := (vk_parts hv).1
  have s0 := seg_lt hn x 1
  obtain ⟨a0, b0⟩ := segL_spec (ms := ms) (x := x)
  obtain ⟨e1, e2⟩ := atND' ms x
  rw [tN, tD, e1, e2]
  generalize segL ms x 1 = k at *
  rcases Nat.lt_trichotomy k j with h | h | h
  · have h3 := b0 j h (by omega)
    have h4 := h1 (by omega)
    omega
  · rw [h]; exact ⟨rfl, rfl⟩
  · have h3 := a0 (by omega)
    have h4 := h2 (by omega)
    have h5 : k = j + 1 := by
      rcases Nat.lt_or_ge (j + 1) k with h6 | h6
      · have := (asc_mono hv h6 (by omega)).1
        omega
      · omega
    subst h5
    have hx : (mA ms (j + 1)).1 = x := by omega
    have p0 := spD_pos hv h0
    have p1 := spD_pos hv s0
    have k1 : lnN ms (j + 1) x = (mA ms (j + 1)).2 * spD ms (j + 1) := by rw [lnN, hx, Int.sub_self, Int.zero_mul, Int.add_zero]
    have k0 : lnN ms j x = (mA ms (j + 1)).2 * spD ms j := by rw [lnN, ← hx, spN, spD]; grind
    obtain ⟨u1, v1⟩ := low_mulB (L := (mA ms (j + 1)).2) p1.1
    obtain ⟨u0, v0⟩ := low_mulB (L := (mA ms (j + 1)).2) p0.1
    rw [k1, k0, u1, v1, u0, v0]
    exact ⟨rfl, rfl⟩
/-- The difference by two lines, over their common divisor. -/
def gG (ms ns : List (Int × Int)) (i j : Nat) (x : Int) : Int := lnN ms i x * spD ns j - lnN ns j x * spD ms i
def gK (ms ns : List (Int × Int)) (i j : Nat) : Int := spN ms i * spD ns j - spN ns j * spD ms i
theorem gG_lin (ms ns : List (Int × Int)) (i j : Nat) (x y : Int) : gG ms ns i j y = gG ms ns i j x + gK ms ns i j * (y - x) := by
  rw [gG, gG, gK, lnN, lnN, lnN, lnN]; grind
theorem absI_mul {u g : Int} (hg : 0 < g) : absI (u * g) = absI u * g := by
  rcases Int.le_total 0 u with h | h
  · have h1 := Int.mul_nonneg h (show 0 ≤ g by omega)
    rw [absI, absI, show max u (-u) = u by omega]; omega
  · have h1 := Int.mul_nonneg (show 0 ≤ -u by omega) (show 0 ≤ g by omega)
    rw [Int.neg_mul] at h1
    rw [absI, absI, show max u (-u) = -u by omega, Int.neg_mul]; omega
theorem gap_cross {ms ns : List (Int × Int)} {i j : Nat} {x : Int} (hv : vkB ms = true) (hv' : vkB ns = true) (h : lineOk ms i x) (h' : lineOk ns j x) :
    (gapP ms ns x).1 * (spD ms i * spD ns j) = absI (gG ms ns i j x) * (gapP ms ns x).2 := by
  obtain ⟨e1, e2⟩ := at_line hv h
  obtain ⟨e3, e4⟩ := at_line hv' h'
  have p1 := spD_pos hv h.1
  have p2 := spD_pos hv' h'.1
  have g1 := gcd_pos (n := lnN ms i x) p1.1
  have g2 := gcd_pos (n := lnN ns j x) p2.1
  obtain ⟨m1, m2⟩ := low_mulg (n := lnN ms i x) (d := spD ms i)
  obtain ⟨m3, m4⟩ := low_mulg (n := lnN ns j x) (d := spD ns j)
  rw [← e1] at m1
  rw [← e2] at m2
  rw [← e3] at m3
  rw [← e4] at m4
  rw [gapP, gG]
  generalize lnN ms i x = A at *
  generalize lnN ns j x = B at *
  generalize (Int.gcd A (spD ms i) : Int) = g at *
  generalize (Int.gcd B (spD ns j) : Int) = f at *
  generalize spD ms i = C at *
  generalize spD ns j = D at *
  generalize tN ms x = a at *
  generalize tD ms x = c at *
  generalize tN ns x = b at *
  generalize tD ns x = d at *
  subst m1 m2 m3 m4
  have q : a * g * (d * f) - b * f * (c * g) = (a * d - b * c) * (g * f) := by grind
  rw [q, absI_mul (Int.mul_pos g1 g2)]
  obtain ⟨l1, l2⟩ := low_mulg (n := absI (a * d - b * c)) (d := c * d)
  simp only
  generalize lowN (absI (a * d - b * c)) (c * d) = n at *
  generalize lowD (absI (a * d - b * c)) (c * d) = m at *
  generalize (Int.gcd (absI (a * d - b * c)) (c * d) : Int) = z at *
  generalize absI (a * d - b * c) = u at *
  subst l1
  have : c * g * (d * f) = m * z * (g * f) := by rw [l2]; grind
  rw [this]
  grind
theorem ltR_abs {A B W : Int} {u v : Int × Int} (hW : 0 < W) (hu : 0 < u.2) (hv : 0 < v.2) (h1 : u.1 * W = A * u.2) (h2 : v.1 * W = B * v.2) : ltR u v = decide (A < B) := by
  refine decide_eq_decide.2 ?_
  have e1 : u.1 * v.2 * W = A * (u.2 * v.2) := by grind
  have e2 : v.1 * u.2 * W = B * (u.2 * v.2) := by grind
  have hp := Int.mul_pos hu hv
  refine ⟨fun h => ?_, fun h => ?_⟩
  · have h3 := Int.mul_lt_mul_of_pos_right h hW
    rw [e1, e2] at h3
    exact Int.lt_of_mul_lt_mul_right h3 (Int.le_of_lt hp)
  · have h3 := Int.mul_lt_mul_of_pos_right h hp
    rw [← e1, ← e2] at h3
    exact Int.lt_of_mul_lt_mul_right h3 (Int.le_of_lt hW)
/-- Where a straight line has gone farther from 0, it goes on. -/
theorem goes_on {fp fy fq K dp dq : Int} (h1 : fy = fp + K * dp) (h2 : fq = fy + K * dq) (hp : 0 < dp) (hq : 0 ≤ dq) (h : absI fp < absI fy) : absI fy ≤ absI fq ∧ (0 < dq → absI fy < absI fq) := by
  rw [absI, absI] at h
  rw [absI, absI]
  rcases Int.lt_trichotomy K 0 with hk | hk | hk
  · have a1 := Int.mul_pos (show 0 < -K by omega) hp
    have a2 := Int.mul_nonneg (show 0 ≤ -K by omega) hq
    rw [Int.neg_mul] at a1 a2
    refine ⟨by omega, fun h3 => ?_⟩
    have a3 := Int.mul_pos (show 0 < -K by omega) h3
    rw [Int.neg_mul] at a3
    omega
  · subst hk
    rw [Int.zero_mul] at h1 h2
    omega
  · have a1 := Int.mul_pos hk hp
    have a2 := Int.mul_nonneg (Int.le_of_lt hk) hq
    refine ⟨by omega, fun h3 => ?_⟩
    have a3 := Int.mul_pos hk h3
    omega
/-- How far the line of a local time serves, within two local times. -/
theorem seg_ends {ms : List (Int × Int)} {a b y : Int} (hv : vkB ms = true) (h1 : a ≤ y) (h2 : y ≤ b) : ∃ p q : Int, ∃ j : Nat, (a ≤ p ∧ p ≤ y) ∧ (y ≤ q ∧ q ≤ b) ∧ (∀ x, p ≤ x → x ≤ q → lineOk ms j x) ∧ (a < p → ∃ m, m ∈ ms ∧ m.1 = p) ∧ (q < b → ∃ m, m ∈ ms ∧ m.1 = q) := by
  have hn := (vk_parts hv).1
  have s0 := seg_lt hn y 1
  obtain ⟨a0, b0⟩ := segL_spec (ms := ms) (x := y)
  generalize segL ms y 1 = j at *
  have hmem : ∀ k, k < ms.length → ∃ m, m ∈ ms ∧ m.1 = (mA ms k).1 := by
    intro k hk
    obtain ⟨u, v, h⟩ := getM_of_lt hk
    exact ⟨(u, v), List.mem_of_getElem? h, by rw [mA_of h]⟩
  refine ⟨if 1 ≤ j then max a (mA ms j).1 else a, if j + 1 ≤ ms.length - 2 then min b (mA ms (j + 1)).1 else b, j, ?_, ?_, ?_, ?_, ?_⟩
  · split
    · have := a0 (by omega); omega
    · omega
  · split
    · have := b0 (j + 1) (by omega) (by omega); omega
    · omega
  · intro x hx1 hx2
    refine ⟨s0, fun h => ?_, fun h => ?_⟩
    · rw [if_pos h] at hx1; omega
    · rw [if_pos h] at hx2; omega
  · split
    · intro h
      obtain ⟨m, hm, e⟩ := hmem j (by omega)
      exact ⟨m, hm, by omega⟩
    · intro h; omega
  · split
    · intro h
      obtain ⟨m, hm, e⟩ := hmem (j + 1) (by omega)
      exact ⟨m, hm, by omega⟩
    · intro h; omega
/-- Between two corners both clocks go straight. -/
theorem corner_seg {ms ns : List (Int × Int)} {a b y : Int} (hv : vkB ms = true) (hv' : vkB ns = true) (h1 : a ≤ y) (h2 : y ≤ b) :
    ∃ p q : Int, ∃ i j : Nat, p ∈ cornersL ms ns a b ∧ q ∈ cornersL ms ns a b ∧ (p ≤ y ∧ y ≤ q) ∧ (∀ x, p ≤ x → x ≤ q → lineOk ms i x ∧ lineOk ns j x) := by
  obtain ⟨p1, q1, i, ⟨c1, c2⟩, ⟨c3, c4⟩, c5, c6, c7⟩ := seg_ends hv h1 h2
  obtain ⟨p2, q2, j, ⟨d1, d2⟩, ⟨d3, d4⟩, d5, d6, d7⟩ := seg_ends hv' h1 h2
  refine ⟨max p1 p2, min q1 q2, i, j, ?_, ?_, by omega, fun x hx1 hx2 => ⟨c5 x (by omega) (by omega), d5 x (by omega) (by omega)⟩⟩
  · rw [corner_mem]
    rcases Int.lt_or_le a (max p1 p2) with h | h
    · rcases Int.lt_or_le (max p1 p2) b with h3 | h3
      · refine .inr (.inr ⟨⟨h, h3⟩, ?_⟩)
        rcases Int.le_total p1 p2 with h4 | h4
        · obtain ⟨m, hm, e⟩ := d6 (by omega)
          exact ⟨m, List.mem_append.2 (.inr hm), by omega⟩
        · obtain ⟨m, hm, e⟩ := c6 (by omega)
          exact ⟨m, List.mem_append.2 (.inl hm), by omega⟩
      · exact .inr (.inl (by omega))
    · exact .inl (by omega)
  · rw [corner_mem]
    rcases Int.lt_or_le (min q1 q2) b with h | h
    · rcases Int.lt_or_le a (min q1 q2) with h3 | h3
      · refine .inr (.inr ⟨⟨h3, h⟩, ?_⟩)
        rcases Int.le_total q1 q2 with h4 | h4
        · obtain ⟨m, hm, e⟩ := c7 (by omega)
          exact ⟨m, List.mem_append.2 (.inl hm), by omega⟩
        · obtain ⟨m, hm, e⟩ := d7 (by omega)
          exact ⟨m, List.mem_append.2 (.inr hm), by omega⟩
      · exact .inl (by omega)
    · exact .inr (.inl (by omega))
theorem ltR_tr1 {A B C : Int × Int} (ha : 0 < A.2) (hb : 0 < B.2) (hc : 0 < C.2) (h1 : ltR A B = false) (h2 : ltR A C = true) : ltR B C = true := by
  cases h : ltR B C
  · rw [ltR_trans ha hb hc h1 h] at h2; exact h2
  · rfl
theorem ltR_tr2 {P M Y : Int × Int} (hp : 0 < P.2) (hm : 0 < M.2) (hy : 0 < Y.2) (h1 : ltR P M = true) (h2 : ltR Y M = false) : ltR P Y = true := by
  cases h : ltR P Y
  · rw [ltR_trans hp hy hm h h2] at h1; exact h1
  · rfl
/-- The first one of some local times at which the difference is greatest. -/
def Fst (ms ns : List (Int × Int)) (S : Int → Prop) (st : Int × (Int × Int)) : Prop :=
  S st.1 ∧ st.2 = gapP ms ns st.1 ∧ ∀ y, S y → ltR st.2 (gapP ms ns y) = false ∧ (y < st.1 → ltR (gapP ms ns y) st.2 = true)
theorem fst_one {ms ns : List (Int × Int)} {st st' : Int × (Int × Int)} {S : Int → Prop} (h : Fst ms ns S st) (h' : Fst ms ns S st') : st = st' := by
  obtain ⟨x, v⟩ := st
  obtain ⟨y, u⟩ := st'
  obtain ⟨h1, h2, h3⟩ := h
  obtain ⟨k1, k2, k3⟩ := h'
  simp only at h1 h2 h3 k1 k2 k3
  have hxy : x = y := by
    rcases Int.lt_trichotomy x y with hlt | hlt | hlt
    · have e1 := (k3 x h1).2 hlt
      have e2 := (h3 y k1).1
      rw [k2, ← h2] at e1
      rw [e2] at e1; cases e1
    · exact hlt
    · have e1 := (h3 y k1).2 hlt
      have e2 := (k3 x h1).1
      rw [h2, ← k2] at e1
      rw [e2] at e1; cases e1
  subst hxy
  rw [h2, k2]
theorem fold_fst {ms ns : List (Int × Int)} : ∀ (L : List Int) (S : Int → Prop) (st : Int × (Int × Int)), (∀ x, S x → 0 < (gapP ms ns x).2) → (∀ x, x ∈ L → 0 < (gapP ms ns x).2) → L.Pairwise (· ≤ ·) → (∀ x, x ∈ L → ∀ y, S y → y ≤ x) →
    Fst ms ns S st → Fst ms ns (fun x => S x ∨ x ∈ L) (L.foldl (apF ms ns) st)
  | [], S, st, _, _, _, _, h => by
    obtain ⟨h1, h2, h3⟩ := h
    exact ⟨.inl h1, h2, fun y hy => h3 y (by rcases hy with hy | hy; exact hy; cases hy)⟩
  | x :: t, S, st, hS, hL, hp, hge, h => by
    obtain ⟨h1, h2, h3⟩ := h
    have hx := hL x (by simp)
    have hst : 0 < st.2.2 := by rw [h2]; exact hS _ h1
    have step : Fst ms ns (fun y => S y ∨ y = x) (apF ms ns st x) := by
      rw [apF]
      by_cases hc : ltR st.2 (gapP ms ns x) = true
      · rw [if_pos hc]
        refine ⟨.inr rfl, rfl, fun y hy => ?_⟩
        rcases hy with hy | rfl
        · have e := ltR_tr1 hst (hS y hy) hx (h3 y hy).1 hc
          exact ⟨ltR_asymm e, fun _ => e⟩
        · exact ⟨ltR_self _, fun hh => absurd hh (by simp)⟩
      · rw [if_neg hc]
        refine ⟨.inl h1, h2, fun y hy => ?_⟩
        rcases hy with hy | rfl
        · exact h3 y hy
        · have := hge y (by simp) st.1 h1
          exact ⟨by simpa using hc, fun hh => by omega⟩
    have hp' := List.pairwise_cons.1 hp
    have := fold_fst t (fun y => S y ∨ y = x) (apF ms ns st x) (fun y hy => by rcases hy with hy | rfl; exact hS y hy; exact hx) (fun y hy => hL y (by simp [hy])) hp'.2
      (fun y hy z hz => by rcases hz with hz | rfl; exact hge y (by simp [hy]) z hz; exact hp'.1 y hy) step
    rw [List.foldl_cons]
    have e : (fun y => S y ∨ y ∈ x :: t) = fun y => (S y ∨ y = x) ∨ y ∈ t := by
      funext y
      rw [List.mem_cons, or_assoc]
    rw [e]
    exact this
end Go.Proofs.Ytjghlfagdleglaa
