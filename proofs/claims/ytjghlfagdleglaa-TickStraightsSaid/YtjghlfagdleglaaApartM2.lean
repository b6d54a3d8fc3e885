/-
  Plain arithmetic: the first greatest difference at corners is that of all local times; equal at corners is equal everywhere.
-/
import Derived.Test.YtjghlfagdleglaaApartM
namespace Go.Proofs.Ytjghlfagdleglaa
open Go.RowKit

theorem corners_sorted (ms ns : List (Int × Int)) (a b : Int) : (cornersL ms ns a b).Pairwise (· ≤ ·) := by
  have := List.pairwise_mergeSort (le := fun x y : Int => decide (x ≤ y)) (by intro x y z; simp; omega) (by intro x y; simp; omega) (cornersU ms ns a b)
  exact this.imp fun h => by simpa using h
theorem gap_pos {ms ns : List (Int × Int)} {a b x : Int} (hv : vkB ms = true) (hv' : vkB ns = true) (ha : 0 ≤ a) (hb : b ≤ 100000) (h1 : a ≤ x) (h2 : x ≤ b) : 0 < (gapP ms ns x).2 := by
  have := (gap_ok hv hv' (tick_of (x := x) (by omega) (by omega))).2.1
  omega
theorem low_zero {d : Int} (hd : 0 < d) {n : Int} (h : lowN n d = 0) : lowD n d = 1 := by
  obtain ⟨e1, e2⟩ := low_mulg (n := n) (d := d)
  rw [h, Int.zero_mul] at e1
  subst e1
  rw [lowD, Int.gcd_zero_left, Int.natAbs_of_nonneg (by omega)]
  exact Int.ediv_self (by omega)
theorem gap_zero {ms ns : List (Int × Int)} {x : Int} (hv : vkB ms = true) (hv' : vkB ns = true) (hx : tickB x = true) (h : (gapP ms ns x).1 ≤ 0) : gapP ms ns x = (0, 1) := by
  have hg := gap_ok hv hv' hx
  have h0 : (gapP ms ns x).1 = 0 := by have := hg.1.1; omega
  have hd := (t_bd hv hx).1
  have hd' := (t_bd hv' hx).1
  have hp : 0 < tD ms x * tD ns x := Int.mul_pos (by omega) (by omega)
  have e : (gapP ms ns x).2 = 1 := by
    rw [gapP] at h0 ⊢
    exact low_zero hp h0
  exact Prod.ext h0 e
/-- The first greatest difference at corners is that of all local times. -/
theorem fst_all {ms ns : List (Int × Int)} {a b : Int} {st : Int × (Int × Int)} (hv : vkB ms = true) (hv' : vkB ns = true) (ha : 0 ≤ a) (hb : b ≤ 100000) (hab : a ≤ b)
    (h : Fst ms ns (fun x => x ∈ cornersL ms ns a b) st) : Fst ms ns (fun x => a ≤ x ∧ x ≤ b) st := by
  obtain ⟨h1, h2, h3⟩ := h
  have h1' := corner_in hab h1
  have hM : 0 < st.2.2 := by rw [h2]; exact gap_pos hv hv' ha hb h1'.1 h1'.2
  refine ⟨h1', h2, fun y hy => ?_⟩
  obtain ⟨p, q, i, j, hp, hq, ⟨hpy, hyq⟩, hln⟩ := corner_seg hv hv' hy.1 hy.2
  have hpi := corner_in hab hp
  have hqi := corner_in hab hq
  have pp := gap_pos hv hv' ha hb hpi.1 hpi.2
  have pq := gap_pos hv hv' ha hb hqi.1 hqi.2
  have py := gap_pos hv hv' ha hb hy.1 hy.2
  have lp := hln p (Int.le_refl _) (by omega)
  have lq := hln q (by omega) (Int.le_refl _)
  have ly := hln y hpy hyq
  have hW : 0 < spD ms i * spD ns j := Int.mul_pos (spD_pos hv lp.1.1).1 (spD_pos hv' lp.2.1).1
  have cp := gap_cross hv hv' lp.1 lp.2
  have cq := gap_cross hv hv' lq.1 lq.2
  have cy := gap_cross hv hv' ly.1 ly.2
  have e1 := gG_lin ms ns i j p y
  have e2 := gG_lin ms ns i j y q
  obtain ⟨mp, mp'⟩ := h3 p hp
  obtain ⟨mq, mq'⟩ := h3 q hq
  refine ⟨?_, fun hlt => ?_⟩
  · cases hc : ltR st.2 (gapP ms ns y)
    · rfl
    · have k1 := ltR_tr1 hM pp py mp hc
      have k2 := ltR_tr1 hM pq py mq hc
      rw [ltR_abs hW pp py cp cy] at k1
      rw [ltR_abs hW pq py cq cy] at k2
      have k1 := of_decide_eq_true k1
      have k2 := of_decide_eq_true k2
      rcases Int.lt_or_le p y with h5 | h5
      · have := (goes_on e1 e2 (by omega) (by omega) k1).1
        omega
      · obtain rfl : p = y := by omega
        omega
  · cases hc : ltR (gapP ms ns y) st.2
    · exfalso
      rcases Int.lt_or_le p y with h5 | h5
      · rcases Int.lt_or_le y q with h6 | h6
        · have k1 := ltR_tr2 pp hM py (mp' (by omega)) hc
          rw [ltR_abs hW pp py cp cy] at k1
          have k1 := of_decide_eq_true k1
          have k2 := (goes_on e1 e2 (by omega) (by omega) k1).2 (by omega)
          have k3 : ltR (gapP ms ns y) (gapP ms ns q) = true := by rw [ltR_abs hW py pq cy cq]; exact decide_eq_true k2
          have k4 := ltR_tr1 py hM pq hc k3
          rw [k4] at mq; cases mq
        · obtain rfl : y = q := by omega
          rw [mq' hlt] at hc; cases hc
      · obtain rfl : p = y := by omega
        rw [mp' hlt] at hc; cases hc
    · rfl
theorem apT_fst {ms ns : List (Int × Int)} {a b : Int} (hv : vkB ms = true) (hv' : vkB ns = true) (ha : 0 ≤ a) (hb : b ≤ 100000) (hab : a ≤ b) : Fst ms ns (fun x => a ≤ x ∧ x ≤ b) (apT ms ns a b) := by
  refine fst_all hv hv' ha hb hab ?_
  have hs := corners_sorted ms ns a b
  have hin : ∀ x, x ∈ cornersL ms ns a b → a ≤ x ∧ x ≤ b := fun x hx => corner_in hab hx
  have hmem : a ∈ cornersL ms ns a b := corner_mem.2 (.inl rfl)
  rw [apT]
  generalize cornersL ms ns a b = L at *
  cases L with
  | nil => cases hmem
  | cons c t =>
    have hp := List.pairwise_cons.1 hs
    have hca : c = a := by
      have h1 := hin c (by simp)
      rcases List.mem_cons.1 hmem with h | h
      · exact h.symm
      · have := hp.1 a h; omega
    subst hca
    have hx := tick_of (x := c) (by omega) (by omega)
    have first : apF ms ns (c, (0, 1)) c = (c, gapP ms ns c) := by
      rw [apF]
      by_cases hc : ltR (c, ((0 : Int), (1 : Int))).2 (gapP ms ns c) = true
      · rw [if_pos hc]
      · rw [if_neg hc]
        have h0 : (gapP ms ns c).1 ≤ 0 := by
          have : ltR (0, 1) (gapP ms ns c) = false := by simpa using hc
          have := of_decide_eq_false this
          simp only at this
          omega
        rw [gap_zero hv hv' hx h0]
    rw [List.foldl_cons, first]
    have := fold_fst (ms := ms) (ns := ns) t (fun x => x = c) (c, gapP ms ns c) (fun x hx => by subst hx; exact gap_pos hv hv' ha hb (by omega) hab) (fun x hx => by have := hin x (by simp [hx]); exact gap_pos hv hv' ha hb this.1 this.2)
      hp.2 (fun x hxt y hy => by subst hy; exact hp.1 x hxt) ⟨rfl, rfl, fun y hy => by subst hy; exact ⟨ltR_self _, fun h => absurd h (by simp)⟩⟩
    have e : (fun x => x ∈ c :: t) = fun x => x = c ∨ x ∈ t := by funext x; rw [List.mem_cons]
    rw [e]
    exact this
theorem upTo_mem {a x : Int} {n : Nat} : x ∈ upTo a n ↔ a < x ∧ x ≤ a + n := by
  simp only [upTo, List.mem_map, List.mem_range]
  constructor
  · rintro ⟨i, hi, rfl⟩; omega
  · intro h; exact ⟨(x - a - 1).toNat, by omega, by omega⟩
theorem upTo_sorted (a : Int) (n : Nat) : (upTo a n).Pairwise (· ≤ ·) := by
  rw [upTo, List.pairwise_map]
  exact (List.pairwise_lt_range (n := n)).imp fun h => by omega
theorem apR_fst {ms ns : List (Int × Int)} {a b : Int} (hv : vkB ms = true) (hv' : vkB ns = true) (ha : 0 ≤ a) (hb : b ≤ 100000) (hab : a ≤ b) : Fst ms ns (fun x => a ≤ x ∧ x ≤ b) (apR ms ns a b) := by
  have := fold_fst (ms := ms) (ns := ns) (upTo a (b - a).toNat) (fun x => x = a) (a, gapP ms ns a) (fun x hx => by subst hx; exact gap_pos hv hv' ha hb (by omega) hab) (fun x hx => by have := upTo_mem.1 hx; exact gap_pos hv hv' ha hb (by omega) (by omega))
    (upTo_sorted _ _) (fun x hx y hy => by subst hy; have := upTo_mem.1 hx; omega) ⟨rfl, rfl, fun y hy => by subst hy; exact ⟨ltR_self _, fun h => absurd h (by simp)⟩⟩
  have e : (fun x => a ≤ x ∧ x ≤ b) = fun x => x = a ∨ x ∈ upTo a (b - a).toNat := by
    funext x
    rw [upTo_mem, eq_iff_iff]
    omega
  rw [e]
  exact this
theorem ap_same {ms ns : List (Int × Int)} {a b : Int} (hv : vkB ms = true) (hv' : vkB ns = true) (ha : 0 ≤ a) (hb : b ≤ 100000) (hab : a ≤ b) : apT ms ns a b = apR ms ns a b :=
  fst_one (apT_fst hv hv' ha hb hab) (apR_fst hv hv' ha hb hab)

theorem eqT_iff {ms ns : List (Int × Int)} {i j : Nat} {x : Int} (hv : vkB ms = true) (hv' : vkB ns = true) (h : lineOk ms i x) (h' : lineOk ns j x) : eqT ms ns x = true ↔ gG ms ns i j x = 0 := by
  obtain ⟨e1, e2⟩ := at_line hv h
  obtain ⟨e3, e4⟩ := at_line hv' h'
  have p1 := (spD_pos hv h.1).1
  have p2 := (spD_pos hv' h'.1).1
  rw [eqT, gG, e1, e2, e3, e4, Bool.and_eq_true, beq_iff_eq, beq_iff_eq]
  refine ⟨fun ⟨h1, h2⟩ => ?_, fun h1 => low_cross p1 p2 (by omega)⟩
  obtain ⟨m1, m2⟩ := low_mulg (n := lnN ms i x) (d := spD ms i)
  obtain ⟨m3, m4⟩ := low_mulg (n := lnN ns j x) (d := spD ns j)
  generalize (Int.gcd (lnN ms i x) (spD ms i) : Int) = g at *
  generalize (Int.gcd (lnN ns j x) (spD ns j) : Int) = f at *
  rw [h1] at m1
  rw [h2] at m2
  generalize lowN (lnN ns j x) (spD ns j) = u at *
  generalize lowD (lnN ns j x) (spD ns j) = v at *
  generalize lnN ns j x = B at *
  generalize spD ns j = D at *
  generalize lnN ms i x = A at *
  generalize spD ms i = C at *
  subst m1 m2 m3 m4
  grind
theorem lin_zero {f0 f1 f2 K d1 d2 : Int} (h1 : f1 = f0 + K * d1) (h2 : f2 = f0 + K * d2) (hd : d1 ≠ 0) (z0 : f0 = 0) (z1 : f1 = 0) : f2 = 0 := by
  have : K * d1 = 0 := by omega
  rcases Int.mul_eq_zero.1 this with h | h
  · subst h; omega
  · exact absurd h hd
theorem eq_inside {ms ns : List (Int × Int)} {a b y : Int} (hv : vkB ms = true) (hv' : vkB ns = true) (h : (cornersL ms ns a b).all (eqT ms ns) = true) (h1 : a ≤ y) (h2 : y ≤ b) : eqT ms ns y = true := by
  obtain ⟨p, q, i, j, hp, hq, ⟨hpy, hyq⟩, hln⟩ := corner_seg hv hv' h1 h2
  have zp := List.all_eq_true.1 h p hp
  have zq := List.all_eq_true.1 h q hq
  rcases Int.lt_or_le p q with h5 | h5
  · have lp := hln p (Int.le_refl _) (by omega)
    have lq := hln q (by omega) (Int.le_refl _)
    have ly := hln y hpy hyq
    rw [eqT_iff hv hv' lp.1 lp.2] at zp
    rw [eqT_iff hv hv' lq.1 lq.2] at zq
    rw [eqT_iff hv hv' ly.1 ly.2]
    exact lin_zero (gG_lin ms ns i j p q) (gG_lin ms ns i j p y) (by omega) zp zq
  · obtain rfl : p = y := by omega
    exact zp
theorem line_first {ms : List (Int × Int)} (hv : vkB ms = true) {x : Int} (h : x ≤ (mA ms 1).1) : lineOk ms 0 x := by
  have := (vk_parts hv).1
  exact ⟨by omega, fun h => by omega, fun _ => h⟩
theorem line_last {ms : List (Int × Int)} (hv : vkB ms = true) {x : Int} (h : (mA ms (ms.length - 2)).1 ≤ x) : lineOk ms (ms.length - 2) x := by
  have := (vk_parts hv).1
  exact ⟨by omega, fun _ => h, fun h => by omega⟩
theorem ends_in {ms : List (Int × Int)} (hv : vkB ms = true) : 1 ≤ (mA ms 1).1 ∧ (mA ms (ms.length - 2)).1 ≤ 99999 := by
  have hn := (vk_parts hv).1
  have b0 := mA_bd hv (show 0 < ms.length by omega)
  have b1 := mA_bd hv (show ms.length - 1 < ms.length by omega)
  have a0 := asc_mono hv (show 0 < 1 by omega) (show 1 < ms.length by omega)
  have a1 := asc_mono hv (show ms.length - 2 < ms.length - 1 by omega) (by omega)
  omega
theorem mA_mem {ms : List (Int × Int)} {k : Nat} (h : k < ms.length) : (mA ms k).1 ∈ ms.map Prod.fst := by
  obtain ⟨u, v, hk⟩ := getM_of_lt h
  rw [mA_of hk]
  exact List.mem_map.2 ⟨(u, v), List.mem_of_getElem? hk, rfl⟩
theorem same_same {ms ns : List (Int × Int)} : sameV ms ns = sameR ms ns := by
  rw [sameV, sameR]
  cases hv : vkB ms
  · rfl
  cases hv' : vkB ns
  · rfl
  have ea := ends_in hv
  have eb := ends_in hv'
  have na := (vk_parts hv).1
  have nb := (vk_parts hv').1
  show (cornersL ms ns 0 100000).all (eqT ms ns) = (refTimes ms ns).all (eqT ms ns)
  rw [Bool.eq_iff_iff]
  refine ⟨fun h => ?_, fun h => ?_⟩
  · rw [List.all_eq_true]
    intro x hx
    have hx2 := refTimes_in hv hv' hx
    have z := fun y (h1 : 0 ≤ y) (h2 : y ≤ 100000) => eq_inside hv hv' h h1 h2
    rcases Int.lt_or_le x 0 with h1 | h1
    · have z0 := z 0 (by omega) (by omega)
      have z1 := z 1 (by omega) (by omega)
      rw [eqT_iff hv hv' (line_first hv (by omega)) (line_first hv' (by omega))] at z0 z1
      rw [eqT_iff hv hv' (line_first hv (by omega)) (line_first hv' (by omega))]
      exact lin_zero (gG_lin ms ns 0 0 0 1) (gG_lin ms ns 0 0 0 x) (by omega) z0 z1
    · rcases Int.lt_or_le 100000 x with h2 | h2
      · have z0 := z 100000 (by omega) (by omega)
        have z1 := z 99999 (by omega) (by omega)
        rw [eqT_iff hv hv' (line_last hv (by omega)) (line_last hv' (by omega))] at z0 z1
        rw [eqT_iff hv hv' (line_last hv (by omega)) (line_last hv' (by omega))]
        exact lin_zero (gG_lin ms ns _ _ 100000 99999) (gG_lin ms ns _ _ 100000 x) (by omega) z0 z1
      · exact z x h1 h2
  · have hr := List.all_eq_true.1 h
    have hm : ∀ x, x ∈ ms.map Prod.fst → eqT ms ns x = true := fun x hx => hr x (by rw [refTimes]; exact List.mem_append.2 (.inl (List.mem_append.2 (.inr hx))))
    have hm' : ∀ x, x ∈ ns.map Prod.fst → eqT ms ns x = true := fun x hx => hr x (by rw [refTimes]; exact List.mem_append.2 (.inr hx))
    have hl : eqT ms ns (-1) = true := hr _ (by simp [refTimes])
    have hh : eqT ms ns 100001 = true := hr _ (by simp [refTimes])
    rw [List.all_eq_true]
    intro x hx
    rcases corner_mem.1 hx with rfl | rfl | ⟨_, m, hmm, rfl⟩
    · have hq : eqT ms ns (min (mA ms 1).1 (mA ns 1).1) = true := by
        rcases Int.le_total (mA ms 1).1 (mA ns 1).1 with h4 | h4
        · rw [show min (mA ms 1).1 (mA ns 1).1 = (mA ms 1).1 by omega]; exact hm _ (mA_mem (by omega))
        · rw [show min (mA ms 1).1 (mA ns 1).1 = (mA ns 1).1 by omega]; exact hm' _ (mA_mem (by omega))
      rw [eqT_iff hv hv' (line_first hv (by omega)) (line_first hv' (by omega))] at hl hq
      rw [eqT_iff hv hv' (line_first hv (by omega)) (line_first hv' (by omega))]
      exact lin_zero (gG_lin ms ns 0 0 (-1) _) (gG_lin ms ns 0 0 (-1) 0) (by omega) hl hq
    · have hq : eqT ms ns (max (mA ms (ms.length - 2)).1 (mA ns (ns.length - 2)).1) = true := by
        rcases Int.le_total (mA ms (ms.length - 2)).1 (mA ns (ns.length - 2)).1 with h4 | h4
        · rw [show max (mA ms (ms.length - 2)).1 (mA ns (ns.length - 2)).1 = (mA ns (ns.length - 2)).1 by omega]; exact hm' _ (mA_mem (by omega))
        · rw [show max (mA ms (ms.length - 2)).1 (mA ns (ns.length - 2)).1 = (mA ms (ms.length - 2)).1 by omega]; exact hm _ (mA_mem (by omega))
      rw [eqT_iff hv hv' (line_last hv (by omega)) (line_last hv' (by omega))] at hh hq
      rw [eqT_iff hv hv' (line_last hv (by omega)) (line_last hv' (by omega))]
      exact lin_zero (gG_lin ms ns _ _ 100001 _) (gG_lin ms ns _ _ 100001 100000) (by omega) hh hq
    · rcases List.mem_append.1 hmm with h4 | h4
      · exact hm _ (List.mem_map.2 ⟨m, h4, rfl⟩)
      · exact hm' _ (List.mem_map.2 ⟨m, h4, rfl⟩)
end Go.Proofs.Ytjghlfagdleglaa
