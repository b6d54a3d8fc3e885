/-
  Plain arithmetic: clocks without needless marks are the same exactly if what is left of them is, but for where their ends lie.
-/
import Derived.Test.YtjghlfagdleglaaStraightM
namespace Go.Proofs.Ytjghlfagdleglaa
open Go.RowKit

def sameLB (a b c d : Int × Int) : Bool := decide ((c.2 - a.2) * (b.1 - a.1) = (c.1 - a.1) * (b.2 - a.2)) && decide ((d.2 - a.2) * (b.1 - a.1) = (d.1 - a.1) * (b.2 - a.2))
theorem sameLB_iff {M : List (Int × Int)} {i : Nat} {c d : Int × Int} : sameLB (mA M i) (mA M (i + 1)) c d = true ↔ onL M i c ∧ onL M i d := by
  rw [sameLB, Bool.and_eq_true, decide_eq_true_eq, decide_eq_true_eq]; exact Iff.rfl
def inner (M : List (Int × Int)) : List (Int × Int) := (M.drop 1).take (M.length - 2)
def likeB (A B : List (Int × Int)) : Bool :=
  decide (inner A = inner B) && sameLB (mA A 0) (mA A 1) (mA B 0) (mA B 1) && sameLB (mA A (A.length - 2)) (mA A (A.length - 1)) (mA B (B.length - 2)) (mA B (B.length - 1))
theorem inner_len {M : List (Int × Int)} (h : 2 ≤ M.length) : (inner M).length = M.length - 2 := by
  rw [inner, List.length_take, List.length_drop]; omega
theorem inner_get {M : List (Int × Int)} {k : Nat} (h : k < M.length - 2) : (inner M)[k]? = M[k + 1]? := by
  rw [inner, List.getElem?_take_of_lt h, List.getElem?_drop, Nat.add_comm]
theorem get_mA {M : List (Int × Int)} {k : Nat} (h : k < M.length) : M[k]? = some (mA M k) := by
  obtain ⟨a, b, hx⟩ := getM_of_lt h
  rw [mA_of hx, hx]
theorem inner_iff {A B : List (Int × Int)} (hA : 2 ≤ A.length) (hB : 2 ≤ B.length) : inner A = inner B ↔ A.length = B.length ∧ ∀ k, 1 ≤ k → k ≤ A.length - 2 → mA A k = mA B k := by
  refine ⟨fun h => ?_, fun ⟨h1, h2⟩ => ?_⟩
  · have hl : A.length = B.length := by
      have e1 := inner_len hA
      have e2 := inner_len hB
      rw [h] at e1
      omega
    refine ⟨hl, fun k k1 k2 => ?_⟩
    have e1 := inner_get (M := A) (k := k - 1) (by omega)
    have e2 := inner_get (M := B) (k := k - 1) (by omega)
    rw [h, e2, show k - 1 + 1 = k by omega, get_mA (show k < A.length by omega), get_mA (show k < B.length by omega)] at e1
    exact (Option.some.inj e1).symm
  · apply List.ext_getElem?
    intro k
    rcases Nat.lt_or_ge k (A.length - 2) with h | h
    · rw [inner_get h, inner_get (by omega), get_mA (show k + 1 < A.length by omega), get_mA (show k + 1 < B.length by omega), h2 (k + 1) (by omega) (by omega)]
    · rw [List.getElem?_eq_none (by rw [inner_len hA]; omega), List.getElem?_eq_none (by rw [inner_len hB]; omega)]
theorem gG_anti (A B : List (Int × Int)) (i j : Nat) (x : Int) : gG A B i j x = -gG B A j i x := by rw [gG, gG]; omega
theorem gG_all {A B : List (Int × Int)} {i j : Nat} {x y : Int} (h1 : gG A B i j x = 0) (h2 : gG A B i j y = 0) (hxy : y - x ≠ 0) (z : Int) : gG A B i j z = 0 :=
  lin_zero (gG_lin A B i j x y) (gG_lin A B i j x z) hxy h1 h2
theorem gK_zero {A B : List (Int × Int)} {i j : Nat} (h : ∀ x, gG A B i j x = 0) : gK A B i j = 0 := by
  have := gG_lin A B i j 0 1
  rw [h, h] at this
  omega
theorem lnN_end (M : List (Int × Int)) (j : Nat) : lnN M j (mA M (j + 1)).1 = (mA M (j + 1)).2 * spD M j := by rw [lnN, spN, spD]; grind
theorem lnN_start (M : List (Int × Int)) (j : Nat) : lnN M j (mA M j).1 = (mA M j).2 * spD M j := by rw [lnN, Int.sub_self, Int.zero_mul, Int.add_zero]
theorem onL_of_gG {A B : List (Int × Int)} {i j : Nat} (hB : 0 < spD B j) (h : ∀ x, gG A B i j x = 0) : onL A i (mA B j) ∧ onL A i (mA B (j + 1)) := by
  have key : ∀ m : Int × Int, lnN B j m.1 = m.2 * spD B j → onL A i m := by
    intro m hm
    have := h m.1
    rw [gG, hm] at this
    have e : (lnN A i m.1 - m.2 * spD A i) * spD B j = 0 := by grind
    rcases Int.mul_eq_zero.1 e with h1 | h1
    · rw [onL]
      rw [lnN] at h1
      grind
    · omega
  exact ⟨key _ (lnN_start B j), key _ (lnN_end B j)⟩
/-- One step along two clocks that are the same, both without needless marks: the next mark is the same. -/
theorem next_mark {A B : List (Int × Int)} {k : Nat} (hA : vkB A = true) (hB : vkB B = true) (sA : St A) (hE : ∀ x, 0 ≤ x → x ≤ 100000 → eqT A B x = true) (hk : k + 2 < A.length) (hk' : k + 1 < B.length)
    (hg : ∀ x, gG A B k k x = 0) (hm : 1 ≤ k → mA A k = mA B k) (hlt : k + 2 < B.length → (mA A (k + 1)).1 < (mA B (k + 1)).1) : False := by
  have a0 := asc_mono hA (show k < k + 1 by omega) (by omega)
  have a1 := asc_mono hA (show k + 1 < k + 2 by omega) hk
  have bd := mA_bd hA (show k + 1 < A.length by omega)
  have bd2 := mA_bd hA hk
  have ok1 : ∀ x, (mA A (k + 1)).1 ≤ x → x ≤ (mA A (k + 1)).1 + 1 → lineOk A (k + 1) x := fun x h1 h2 => ⟨by omega, fun _ => h1, fun _ => by rw [show k + 1 + 1 = k + 2 by omega]; omega⟩
  have ok2 : ∀ x, (mA A (k + 1)).1 ≤ x → x ≤ (mA A (k + 1)).1 + 1 → lineOk B k x := fun x h1 h2 => ⟨hk', fun h => by rw [← hm h]; omega, fun h => by have := hlt (by omega); omega⟩
  have z1 := hE (mA A (k + 1)).1 (by omega) (by omega)
  have z2 := hE ((mA A (k + 1)).1 + 1) (by omega) (by omega)
  rw [eqT_iff hA hB (ok1 _ (by omega) (by omega)) (ok2 _ (by omega) (by omega))] at z1 z2
  have g1 := gK_zero (gG_all z1 z2 (by omega))
  have g0 := gK_zero hg
  have p1 := (spD_pos hA (show k + 1 + 1 < A.length by omega)).1
  have p0 := (spD_pos hA (show k + 1 < A.length by omega)).1
  have pb := (spD_pos hB hk').1
  rw [gK] at g0 g1
  have c1 := low_cross (n := spN A (k + 1)) (d := spD A (k + 1)) (n' := spN B k) (d' := spD B k) p1 pb (by omega)
  have c0 := low_cross (n := spN A k) (d := spD A k) (n' := spN B k) (d' := spD B k) p0 pb (by omega)
  refine sA k hk ?_
  rw [spdL, spdL, c0.1, c0.2, c1.1, c1.2]
theorem eqT_symm {A B : List (Int × Int)} {x : Int} (h : eqT A B x = true) : eqT B A x = true := by
  rw [eqT, Bool.and_eq_true, beq_iff_eq, beq_iff_eq] at h ⊢
  exact ⟨h.1.symm, h.2.symm⟩
theorem eqT_trans {A B C : List (Int × Int)} {x : Int} (h : eqT A B x = true) (h' : eqT B C x = true) : eqT A C x = true := by
  rw [eqT, Bool.and_eq_true, beq_iff_eq, beq_iff_eq] at h h' ⊢
  exact ⟨h.1.trans h'.1, h.2.trans h'.2⟩
theorem lines_match {A B : List (Int × Int)} (hA : vkB A = true) (hB : vkB B = true) (sA : St A) (sB : St B) (hE : ∀ x, 0 ≤ x → x ≤ 100000 → eqT A B x = true) :
    ∀ k, k + 1 < A.length → k + 1 < B.length ∧ (∀ x, gG A B k k x = 0) ∧ (1 ≤ k → mA A k = mA B k)
  | 0, _ => by
    have hn := (vk_parts hB).1
    have ea := ends_in hA
    have eb := ends_in hB
    have z1 := hE 0 (by omega) (by omega)
    have z2 := hE 1 (by omega) (by omega)
    rw [eqT_iff hA hB (line_first hA (by omega)) (line_first hB (by omega))] at z1 z2
    exact ⟨by omega, gG_all z1 z2 (by omega), fun h => by omega⟩
  | k + 1, hk => by
    obtain ⟨h1, h2, h3⟩ := lines_match hA hB sA sB hE k (by omega)
    have hnB : k + 2 < B.length := by
      rcases Nat.lt_or_ge (k + 2) B.length with h | h
      · exact h
      · exact (next_mark hA hB sA hE (by omega) h1 h2 h3 (fun h4 => by omega)).elim
    have hloc : (mA A (k + 1)).1 = (mA B (k + 1)).1 := by
      rcases Int.lt_trichotomy (mA A (k + 1)).1 (mA B (k + 1)).1 with h | h | h
      · exact (next_mark hA hB sA hE (by omega) h1 h2 h3 (fun _ => h)).elim
      · exact h
      · exact (next_mark hB hA sB (fun x a b => eqT_symm (hE x a b)) hnB (by omega) (fun x => by rw [gG_anti, h2]; rfl) (fun h5 => (h3 h5).symm) (fun _ => h)).elim
    have pA := (spD_pos hA (show k + 1 < A.length by omega)).1
    have pB := (spD_pos hB h1).1
    have htr : (mA A (k + 1)).2 = (mA B (k + 1)).2 := by
      have := h2 (mA A (k + 1)).1
      rw [gG, lnN_end, hloc, lnN_end] at this
      have e : ((mA A (k + 1)).2 - (mA B (k + 1)).2) * (spD A k * spD B k) = 0 := by grind
      rcases Int.mul_eq_zero.1 e with h | h
      · omega
      · have := Int.mul_pos pA pB; omega
    have hmk : mA A (k + 1) = mA B (k + 1) := Prod.ext hloc htr
    have a1 := asc_mono hA (show k + 1 < k + 2 by omega) (by omega)
    have b1 := asc_mono hB (show k + 1 < k + 2 by omega) hnB
    have bd := mA_bd hA (show k + 1 < A.length by omega)
    have bd2 := mA_bd hA (show k + 2 < A.length by omega)
    have ok1 : ∀ x, (mA A (k + 1)).1 ≤ x → x ≤ (mA A (k + 1)).1 + 1 → lineOk A (k + 1) x := fun x h1 h2 => ⟨by omega, fun _ => h1, fun _ => by rw [show k + 1 + 1 = k + 2 by omega]; omega⟩
    have ok2 : ∀ x, (mA A (k + 1)).1 ≤ x → x ≤ (mA A (k + 1)).1 + 1 → lineOk B (k + 1) x := fun x h1 h2 => ⟨by omega, fun _ => by omega, fun _ => by rw [show k + 1 + 1 = k + 2 by omega]; omega⟩
    have z1 := hE (mA A (k + 1)).1 (by omega) (by omega)
    have z2 := hE ((mA A (k + 1)).1 + 1) (by omega) (by omega)
    rw [eqT_iff hA hB (ok1 _ (by omega) (by omega)) (ok2 _ (by omega) (by omega))] at z1 z2
    exact ⟨hnB, gG_all z1 z2 (by omega), fun _ => hmk⟩
theorem like_of {A B : List (Int × Int)} (hA : vkB A = true) (hB : vkB B = true) (sA : St A) (sB : St B) (hE : ∀ x, 0 ≤ x → x ≤ 100000 → eqT A B x = true) :
    A.length = B.length ∧ (∀ k, 1 ≤ k → k ≤ A.length - 2 → mA A k = mA B k) ∧ (∀ k, k + 1 < A.length → ∀ x, gG A B k k x = 0) := by
  have na := (vk_parts hA).1
  have nb := (vk_parts hB).1
  have m1 := lines_match hA hB sA sB hE
  have m2 := lines_match hB hA sB sA (fun x a b => eqT_symm (hE x a b))
  have e1 := (m1 (A.length - 2) (by omega)).1
  have e2 := (m2 (B.length - 2) (by omega)).1
  exact ⟨by omega, fun k k1 k2 => (m1 k (by omega)).2.2 k1, fun k hk => (m1 k hk).2.1⟩
theorem same_like {A B : List (Int × Int)} (hA : vkB A = true) (hB : vkB B = true) (sA : St A) (sB : St B) : sameV A B = likeB A B := by
  have na := (vk_parts hA).1
  have nb := (vk_parts hB).1
  rw [Bool.eq_iff_iff, sameV_iff hA hB, likeB, Bool.and_eq_true, Bool.and_eq_true, decide_eq_true_eq, inner_iff na nb]
  have ea : A.length - 2 + 1 = A.length - 1 := by omega
  have eb : B.length - 2 + 1 = B.length - 1 := by omega
  have s0 : sameLB (mA A 0) (mA A 1) (mA B 0) (mA B 1) = true ↔ onL A 0 (mA B 0) ∧ onL A 0 (mA B 1) := sameLB_iff (M := A) (i := 0)
  have s1 : sameLB (mA A (A.length - 2)) (mA A (A.length - 1)) (mA B (B.length - 2)) (mA B (B.length - 1)) = true ↔ onL A (A.length - 2) (mA B (B.length - 2)) ∧ onL A (A.length - 2) (mA B (B.length - 1)) := by
    rw [← ea]; exact sameLB_iff
  rw [s0, s1]
  refine ⟨fun hE => ?_, fun ⟨⟨⟨hl, hi⟩, h0, h0'⟩, h1, h1'⟩ x hx1 hx2 => ?_⟩
  · obtain ⟨hl, hi, hg⟩ := like_of hA hB sA sB hE
    have o0 := onL_of_gG (spD_pos hB (show 0 + 1 < B.length by omega)).1 (hg 0 (by omega))
    have o1 := onL_of_gG (spD_pos hB (show A.length - 2 + 1 < B.length by omega)).1 (hg (A.length - 2) (by omega))
    refine ⟨⟨⟨hl, hi⟩, o0⟩, ?_⟩
    rw [← eb, ← hl]
    exact o1
  · have lx := lineOk_seg hA x
    generalize segL A x 1 = i at lx
    have lx' : lineOk B i x := by
      refine ⟨by have := lx.1; omega, fun h => ?_, fun h => ?_⟩
      · rw [← hi i h (by have := lx.1; omega)]; exact lx.2.1 h
      · rw [← hi (i + 1) (by omega) (by omega)]; exact lx.2.2 (by omega)
    rw [eqT_iff hA hB lx lx']
    rcases Nat.eq_zero_or_pos i with h | h
    · subst h
      rw [gG_anti, lines_eq h0 h0' x]; rfl
    · rcases Nat.lt_or_ge i (A.length - 2) with h2 | h2
      · have e1 := hi i h (by omega)
        have e2 := hi (i + 1) (by omega) (by omega)
        obtain ⟨c1, c2, _⟩ := spd_congr e1 e2
        rw [gG, lnN, lnN, c1, c2, e1, Int.sub_self]
      · obtain rfl : i = A.length - 2 := by have := lx.1; omega
        rw [← eb] at h1'
        rw [← hl] at h1 h1'
        rw [gG_anti, lines_eq h1 h1' x]; rfl
theorem same_straight {ms ns : List (Int × Int)} (hv : vkB ms = true) (hv' : vkB ns = true) : sameV ms ns = likeB (straightF ms) (straightF ns) := by
  rw [← same_like (straight_vk hv) (straight_vk hv') (straight_kept hv).str (straight_kept hv').str, Bool.eq_iff_iff, sameV_iff hv hv', sameV_iff (straight_vk hv) (straight_vk hv')]
  refine ⟨fun h x h1 h2 => ?_, fun h x h1 h2 => ?_⟩
  · exact eqT_trans (eqT_symm (straight_eqT hv x)) (eqT_trans (h x h1 h2) (straight_eqT hv' x))
  · exact eqT_trans (straight_eqT hv x) (eqT_trans (h x h1 h2) (eqT_symm (straight_eqT hv' x)))
theorem same_ends {ms ns : List (Int × Int)} (hv : vkB ms = true) (hv' : vkB ns = true) (hs : sameV ms ns = true) (h0 : mA ms 0 = mA ns 0) (h1 : mA ms (ms.length - 1) = mA ns (ns.length - 1)) :
    straightF ms = straightF ns ∧ (straightF ms).length ≤ ns.length := by
  have na := (vk_parts hv).1
  have nb := (vk_parts hv').1
  have ka := straight_kept hv
  have kb := straight_kept hv'
  have va := straight_vk hv
  have vb := straight_vk hv'
  have hE : ∀ x, 0 ≤ x → x ≤ 100000 → eqT (straightF ms) (straightF ns) x = true := fun x a b =>
    eqT_trans (eqT_symm (straight_eqT hv x)) (eqT_trans ((sameV_iff hv hv').1 hs x a b) (straight_eqT hv' x))
  obtain ⟨hl, hi, _⟩ := like_of va vb ka.str kb.str hE
  have l1 := ka.len
  have l2 := kb.len
  refine ⟨?_, by omega⟩
  apply List.ext_getElem?
  intro k
  rcases Nat.lt_or_ge k (straightF ms).length with h | h
  · rw [get_mA h, get_mA (by omega)]
    congr 1
    rcases Nat.eq_zero_or_pos k with h2 | h2
    · subst h2; rw [ka.first, kb.first]; exact h0
    · rcases Nat.lt_or_ge ((straightF ms).length - 2) k with h3 | h3
      · obtain rfl : k = (straightF ms).length - 1 := by omega
        rw [ka.last, hl, kb.last, show ms.length - 2 + 1 = ms.length - 1 by omega, show ns.length - 2 + 1 = ns.length - 1 by omega]
        exact h1
      · exact hi k h2 h3
  · rw [List.getElem?_eq_none h, List.getElem?_eq_none (by omega)]
end Go.Proofs.Ytjghlfagdleglaa
