/-
  The walk of IceNarrows: it returns true, whatever it is given.
-/
import Derived.Test.YtmndfcjkokolbaaRefEst
import Derived.Test.YtmndfcjkokolbaaLawReaches
namespace Go.Proofs.Ytmndfcjkokolbaa
open Go.RowKit Go.Shelf

theorem estL_at {ms : List (Int × Int)} {T : List (List Int)} {a b : Int} {m : Nat} {zs : List Int} (h : estE ms T a b = 0) (hz : T[m]? = some zs) : (estL ms T a b)[m]? = some (estI ms a b zs) ∧ estR ms.length zs = true := by
  have h0 : lookE ms [a, b] = 0 := by
    rcases Classical.em (lookE ms [a, b] = 0) with h0 | h0
    · exact h0
    · rw [(estE_no h0).1] at h; exact absurd h h0
  cases hb : estB ms.length T with
  | false => rw [(estE_arg h0 hb).1] at h; cases h
  | true =>
    rw [(estE_ok h0 hb).2, List.getElem?_map, hz]
    refine ⟨rfl, ?_⟩
    simp only [estB, Bool.and_eq_true] at hb
    exact List.all_eq_true.1 hb.2 zs (List.mem_of_getElem? hz)
theorem one_est {ms : List (Int × Int)} {a b c d E : Int} {zs : List Int} (hv : viB ms = true) (ha : 0 ≤ a ∧ a ≤ depthN ms) (hb : 0 ≤ b ∧ b ≤ depthN ms) (hr : estR ms.length zs = true) (h : BetRes ms [zs] a b c d E) : E = 0 ∧ c = estI ms a b zs ∧ d = estI ms a b zs := by
  have h0 : lookE ms [a, b] = 0 := lossE_ok hv ha hb
  have h1 : estB ms.length [zs] = true := by rw [estB]; simp [hr]
  obtain ⟨e, el⟩ := estE_ok h0 h1
  obtain ⟨rfl, h⟩ := h
  rcases h with ⟨_, h2, h3⟩ | ⟨h2, _⟩
  · rw [el] at h2 h3
    exact ⟨e, by simpa using h2.1, by simpa using h3.1⟩
  · exact absurd e h2
theorem bet_ok {ms : List (Int × Int)} {T : List (List Int)} {a b r q E : Int} (he : estE ms T a b = 0) (h : BetRes ms T a b r q E) : E = 0 ∧ LeastP (estL ms T a b) r ∧ MostP (estL ms T a b) q := by
  obtain ⟨rfl, h⟩ := h
  rcases h with ⟨h1, h2, h3⟩ | ⟨h1, _⟩
  · exact ⟨h1, h2, h3⟩
  · exact absurd he h1
theorem bet_no {ms : List (Int × Int)} {T : List (List Int)} {a b r q E : Int} (he : estE ms T a b ≠ 0) (h : BetRes ms T a b r q E) : E = estE ms T a b ∧ r = 0 ∧ q = 0 := by
  obtain ⟨rfl, h⟩ := h
  rcases h with ⟨h1, _⟩ | ⟨_, h2, h3⟩
  · exact absurd h1 he
  · exact ⟨rfl, h2, h3⟩
theorem clr_ok {ms : List (Int × Int)} {T : List (List Int)} {a b E : Int} {k : Nat} (he : estE ms T a b = 0) (h : ClrRes ms T a b k E) : E = 0 ∧ FirstLow (estL ms T a b) k := by
  obtain ⟨rfl, h⟩ := h
  rcases h with ⟨h1, h2⟩ | ⟨h1, _⟩
  · exact ⟨h1, h2⟩
  · exact absurd he h1
theorem clr_no {ms : List (Int × Int)} {T : List (List Int)} {a b E : Int} {k : Nat} (he : estE ms T a b ≠ 0) (h : ClrRes ms T a b k E) : E = estE ms T a b ∧ k = 0 := by
  obtain ⟨rfl, h⟩ := h
  rcases h with ⟨h1, _⟩ | ⟨_, h2⟩
  · exact absurd h1 he
  · exact ⟨rfl, h2⟩
theorem first_of {L : List Int} {r x : Int} {k m : Nat} (hr : LeastP L r) (hk : FirstLow L k) (hx : L[m]? = some x) : r ≤ x ∧ (m < k → r < x) ∧ (m = k → x = r) := by
  obtain ⟨y, h1, h2, h3⟩ := hk
  have hy : y = r := by have := hr.2 y (List.mem_of_getElem? h1); have := h2 r hr.1; omega
  refine ⟨hr.2 x (List.mem_of_getElem? hx), fun h => by have := h3 m x h hx; omega, fun h => ?_⟩
  subst h
  rw [h1] at hx; cases hx; exact hy
theorem mostc_next {L : List Int} {r p x : Int} {m : Nat} (hx : L[m]? = some x) (h : MostP (r :: L.take m) p) : MostP (r :: L.take (m + 1)) (max p x) := by
  rw [take_snoc hx, ← List.cons_append]; exact mostp_snoc h
theorem leastc_next {L : List Int} {r p x : Int} {m : Nat} (hx : L[m]? = some x) (h : LeastP (r :: L.take m) p) : LeastP (r :: L.take (m + 1)) (min p x) := by
  rw [take_snoc hx, ← List.cons_append]; exact leastp_snoc h
theorem ends {L : List Int} {r q p s : Int} {m : Nat} (hm : L.length ≤ m) (hr : LeastP L r) (hq : MostP L q) (hp : MostP (r :: L.take m) p) (hs : LeastP (q :: L.take m) s) : p = q ∧ s = r := by
  rw [List.take_of_length_le hm] at hp hs
  have h1 := hp.2 q (by simp [hq.1])
  have h2 := hs.2 r (by simp [hr.1])
  have h3 := hr.2 q hq.1
  refine ⟨?_, ?_⟩
  · rcases List.mem_cons.1 hp.1 with h | h
    · omega
    · have := hq.2 p h; omega
  · rcases List.mem_cons.1 hs.1 with h | h
    · omega
    · have := hr.2 s h; omega
theorem made_zero (n : Nat) : (madeCells (Value.int .i64 0).cells (n * 1)).toList = ((List.range n).map fun _ => (0 : Int)).map (Value.int .i64) := by
  simp [madeCells, Value.cells]
  intro a _
  rw [Nat.mod_one]; rfl
/-- The Dims written so far. -/
def ownK (ms : List (Int × Int)) (m : Nat) : List Int := (List.range ms.length).map fun j => if j < m then (ms.getD j (0, 0)).2 else 0
theorem ownK_len (ms : List (Int × Int)) (m : Nat) : (ownK ms m).length = ms.length := by simp [ownK]
theorem ownK_zero (ms : List (Int × Int)) : ownK ms 0 = (List.range ms.length).map fun _ => (0 : Int) := by simp [ownK]
theorem ownK_next {ms : List (Int × Int)} {m : Nat} {a b : Int} (h : ms[m]? = some (a, b)) : ((ownK ms m).map (Value.int .i64)).set m (.int .i64 b) = (ownK ms (m + 1)).map (Value.int .i64) := by
  rw [← List.map_set]
  congr 1
  have hm := (List.getElem?_eq_some_iff.1 h).1
  apply List.ext_getElem?
  intro j
  by_cases hj : j < ms.length
  · by_cases he : j = m
    · subst he
      rw [List.getElem?_set_self (by rw [ownK_len]; exact hj)]
      obtain ⟨_, e⟩ := List.getElem?_eq_some_iff.1 h
      simp [ownK, hj, e]
    · rw [List.getElem?_set_ne (by omega)]
      simp only [ownK, List.getElem?_map, List.getElem?_range hj, Option.map_some]
      congr 1
      by_cases h2 : j < m
      · rw [if_pos h2, if_pos (by omega)]
      · rw [if_neg h2, if_neg (by omega)]
  · rw [List.getElem?_eq_none (by rw [List.length_set, ownK_len]; omega), List.getElem?_eq_none (by rw [ownK_len]; omega)]
theorem ownK_end (ms : List (Int × Int)) : ownK ms ms.length = ms.map (·.2) := by
  apply List.ext_getElem?
  intro j
  by_cases hj : j < ms.length
  · simp [ownK, hj]
  · rw [List.getElem?_eq_none (by rw [ownK_len]; omega), List.getElem?_eq_none (by simp; omega)]
theorem own_est {ms : List (Int × Int)} {a b : Int} (hv : viB ms = true) : estR ms.length (ms.map (·.2)) = true ∧ estI ms a b (ms.map (·.2)) = lossI (mtL ms) a b := by
  refine ⟨?_, by rw [estI, zipD_self]⟩
  rw [estR, List.length_map, decide_eq_true rfl, Bool.true_and, List.all_eq_true]
  intro d hd
  obtain ⟨m, hm, rfl⟩ := List.mem_map.1 hd
  have := vi_all hv m hm
  simp [layB] at this
  simp [inB]; omega
theorem Tabs.lit {w : World} {B : Option Addr} {zs : List Int} {c : Nat} (h : Ints w B zs) (hc : zs.length ≤ c) (hm : c ≤ maxLen) : Tabs (w.alloc (.cells #[.slice B zs.length c] 37)) (some ⟨w.heap.size, 0, none⟩) [zs] := by
  intro _
  refine ⟨w.heap.size, 0, rfl, by simp, fun k ys hk => ?_⟩
  have h1 := (List.getElem?_eq_some_iff.1 hk).1
  simp at h1
  subst h1
  simp at hk
  subst hk
  exact ⟨B, c, by go_simp, h.below ((Below.refl _ _).alloc (Nat.le_refl _) _), hc, hm⟩
theorem Tabs.litN {w : World} {B : Option Addr} {zs : List Int} {c n : Nat} (hn : zs.length = n) (h : Ints w B zs) (hc : n ≤ c) (hm : c ≤ maxLen) : Tabs (w.alloc (.cells #[.slice B n c] 37)) (some ⟨w.heap.size, 0, none⟩) [zs] := by
  subst hn; exact Tabs.lit h hc hm

set_option maxRecDepth 100000 in
set_option maxHeartbeats 4000000 in
theorem iceNarrows_walk (ms : List (Int × Int)) (A : Option Addr) (c : Nat) (T : List (List Int)) (B : Option Addr) (d : Nat) (a b : Int) (w : World) (hA : Marks w A ms) (hc : ms.length ≤ c) (hc0 : c ≤ maxLen) (hT : Tabs w B T) (hd : T.length ≤ d) (hd0 : d ≤ maxLen) (ha : (Lit.int .u16 a).wf = true) (hb : (Lit.int .u16 b).wf = true) :
    Calls Try.prog 15 #[.slice A ms.length c, .slice B T.length d, .agg #[.int .u16 a, .int .u16 b]] w fun e w' => e = .returned (.bool true) ∧ Below w.heap.size w w' := by
  have H : Hid (Clk w A c ms) := ⟨hA, hc, hc0⟩
  have HT := Lib.hid hT
  have hTl : T.length ≤ maxLen := Nat.le_trans hd hd0
  have hab := bounds_u16 ha
  have hbb := bounds_u16 hb
  clear hA hc hc0 hT ha hb
  unfold maxLen at hd0
  have hB0 : Below w.heap.size w (w.alloc (.cells #[.int .u16 a, .int .u16 b] 58)) := (by repeat (first | with_reducible exact Below.refl _ _ | with_reducible assumption | refine below_drewN ?_ _ | with_reducible refine Below.drew ?_ | (refine Below.setCell ?_ (by first | (simp; done) | (simp; omega) | omega) _) | (refine Below.alloc ?_ (by first | (simp; done) | (simp; omega) | omega) _)))
  by_cases hm : 60 < ms.length
  · have hm1 : decide (60 < ms.length) = true := decide_eq_true hm
    go_enter Try.func15, Try.ntmps15
    go_wp2_with (first
      | (go_at_call 17; refine (lawLong_any _ _ _ _).mono ?_; rintro e w' ⟨rfl, rfl⟩)
      | (go_at_call 18; refine (sane_any _).mono ?_; rintro e w' ⟨rfl, hW⟩))
    go_ret
    exact ⟨rfl, hB0.trans (hW.mono (by simp))⟩
  have hm1 : decide (60 < ms.length) = false := decide_eq_false hm
  clear hm
  cases hv : viB ms with
  | false =>
    go_enter Try.func15, Try.ntmps15
    go_wp2_with (first
      | (go_at_call 17; refine (lawLong_any _ _ _ _).mono ?_; rintro e w' ⟨rfl, rfl⟩)
      | (go_at_call 22; refine (refValid_any ms _ _ _ (H.out.below hB0).marks H.out.len).mono ?_; rintro e w1 ⟨rfl, n, rfl⟩)
      | (go_at_call 18; refine (sane_any _).mono ?_; rintro e w' ⟨rfl, hW⟩))
    go_ret
    exact ⟨rfl, Below.trans (below_drewN hB0 n) (hW.mono (by simp))⟩
  | true =>
  have HV := Lib.hid hv
  cases hw : wideB T with
  | true =>
    have HWI := Lib.hid hw
    clear hw
    go_enter Try.func15, Try.ntmps15
    go_wp2_with (first
      | (go_at_call 17; refine (lawLong_any _ _ _ _).mono ?_; rintro e w' ⟨rfl, rfl⟩)
      | (go_at_call 22; refine (refValid_any ms _ _ _ (H.out.below hB0).marks H.out.len).mono ?_; rintro e w1 ⟨rfl, n, rfl⟩)
      | (go_at_call 53; refine (wide_any T _ _ _ (HT.out.below (below_drewN hB0 n)) hTl).mono ?_; rintro e w' ⟨rfl, rfl⟩; rw [HWI.out])
      | (go_at_call 18; refine (sane_any _).mono ?_; rintro e w' ⟨rfl, hW⟩))
    go_ret
    exact ⟨rfl, Below.trans (below_drewN hB0 n) (hW.mono (by simp))⟩
  | false =>
  have HWI := Lib.hid hw
  have hlen := (mt_ok hv).2
  have hms := vi_parts hv
  have s0 : IntKind.i64.wrap a = a := IntWalk.i64_in _ (by omega)
  have s1 : IntKind.i64.wrap b = b := IntWalk.i64_in _ (by omega)
  have hfb := modF (a := a) (n := (mtL ms).length) (by omega)
  have htb := modF (a := b) (n := (mtL ms).length) (by omega)
  have hn1 : ((mtL ms).length : Int) + 1 ≠ 0 := by omega
  have hn2 : (((mtL ms).length : Int) + 1 == 0) = false := by simp; omega
  generalize hf : a % (((mtL ms).length : Int) + 1) = fr at hfb
  generalize ht : b % (((mtL ms).length : Int) + 1) = tt at htb
  have HF : Hid (0 ≤ fr ∧ fr ≤ depthN ms) := hfb
  have HTT : Hid (0 ≤ tt ∧ tt ≤ depthN ms) := htb
  have TA : Hid True := Lib.hid trivial
  clear hw
  go_enter Try.func15, Try.ntmps15
  go_wp2_with (first
    | (go_at_call 17; refine (lawLong_any _ _ _ _).mono ?_; rintro e w' ⟨rfl, rfl⟩)
    | (go_at_call 22; refine (refValid_any ms _ _ _ (H.out.below hB0).marks H.out.len).mono ?_; rintro e w1 ⟨rfl, n, rfl⟩)
    | (go_at_call 53; refine (wide_any T _ _ _ (HT.out.below (below_drewN hB0 n)) hTl).mono ?_; rintro e w' ⟨rfl, rfl⟩; rw [HWI.out])
    | (go_at_call 58; refine (metres_any ms _ _ _ (H.out.below (below_drewN hB0 n)).marks HV.out).mono ?_; rintro e w2 ⟨A2, c2, xs, rfl, hO, hB2, hx⟩; obtain rfl := hx.out; have hW2 : Below w.heap.size w w2 := Below.trans (below_drewN hB0 n) (hB2.mono (by simp)); have c0 := (hB2.cell (p := ⟨w.heap.size, 0, none⟩) (by simp)).trans (show World.cell? _ _ = some (.int .u16 a) by go_simp); have c1 := (hB2.cell (p := ⟨w.heap.size, 1, none⟩) (by simp)).trans (show World.cell? _ _ = some (.int .u16 b) by go_simp); clear hB2 hx hO))
  go_quiet (fail)
  by_cases hE : estE ms T fr tt = 0
  case neg =>
    have HE := Lib.hid hE
    clear hE
    go_wp2_with (first
      | (go_at_call 54; refine (iceBetween_any ms _ _ T _ _ fr tt _ (H.out.below (below_drewN hW2 _)) (HT.out.below (below_drewN hW2 _)) hTl).mono ?_; rintro e w3 ⟨r, q, E, rfl, hB3, hF3⟩; obtain ⟨e1, e2, e3⟩ := bet_no HE.out hF3.out; subst e2; subst e3; have g3 : (E != 0) = true := (by have := HE.out; simp; omega); have EH := Lib.hid e1; clear e1; have hW3 : Below w.heap.size w w3 := Below.trans (below_drewN hW2 _) (hB3.mono (by have := hW2.size; simp; omega)))
      | (go_at_call 56; refine (iceClearest_any ms _ _ T _ _ fr tt _ (H.out.below hW3) (HT.out.below hW3) hTl).mono ?_; rintro e w4 ⟨k, E4, rfl, hB4, hF4⟩; obtain ⟨e1, e2⟩ := clr_no HE.out hF4.out; subst e2; have e3 : E4 = E := e1.trans EH.out.symm; subst e3; clear e1; have hW4 := below_step hW3 hB4)
      | (go_at_call 18; refine (sane_any _).mono ?_; rintro e w5 ⟨rfl, hB5⟩)
      | fail)
    go_ret
    exact ⟨rfl, below_step hW4 hB5⟩
  case pos =>
  have HE := Lib.hid hE
  have hTn := estL_len hE
  obtain ⟨L, hL⟩ : ∃ L, estL ms T fr tt = L := ⟨_, rfl⟩
  rw [hL] at hTn
  obtain ⟨hTn1, hTn2, hTn3⟩ := hTn
  have HLT := Lib.hid hTn3
  have hT10 : T.length ≤ 10 := by omega
  have HL := Lib.hid hL
  clear hE hL hTn3
  go_wp2_with (first
    | (go_at_call 54; refine (iceBetween_any ms _ _ T _ _ fr tt _ (H.out.below (below_drewN hW2 _)) (HT.out.below (below_drewN hW2 _)) hTl).mono ?_; rintro e w3 ⟨r, q, E, rfl, hB3, hF3⟩; obtain ⟨e1, e2, e3⟩ := bet_ok HE.out hF3.out; subst e1; rw [HL.out] at e2 e3; have RH := Lib.hid e2; have QH := Lib.hid e3; have hrq := e2.2 q e3.1; have v3 : decide (q < r) = false := decide_eq_false (by omega); clear e2 e3; have hW3 : Below w.heap.size w w3 := Below.trans (below_drewN hW2 _) (hB3.mono (by have := hW2.size; simp; omega)))
    | (go_at_call 56; refine (iceClearest_any ms _ _ T _ _ fr tt _ (H.out.below hW3) (HT.out.below hW3) hTl).mono ?_; rintro e w4 ⟨k, E4, rfl, hB4, hF4⟩; obtain ⟨e1, e2⟩ := clr_ok HE.out hF4.out; subst e1; rw [HL.out] at e2; have KH := Lib.hid e2; have hkT : k < T.length := (by obtain ⟨y, h1, _⟩ := e2; have := (List.getElem?_eq_some_iff.1 h1).1; have := HLT.out; omega); have v4 : decide ((T.length : Int) ≤ (k : Int)) = false := decide_eq_false (by omega); have v5 : decide ((k : Int) < 0) = false := decide_eq_false (by omega); have v6 : decide (T.length ≤ k) = false := decide_eq_false (by omega); clear e2; have hW4 := below_step hW3 hB4)
    | fail)
  clear v3 v4 v5 v6
  have HW4 := Lib.hid hW4
  clear hW3 hW4 hB3 hB4 hF3 hF4
  go_loopw [15, 16, 17] (fun u v i wr => ∃ m : Nat, m ≤ T.length ∧ i = .int .i64 m ∧ ∃ p s : Int, u = .int .i64 p ∧ v = .int .i64 s ∧ Below w.heap.size w wr ∧ Hid (MostP (r :: L.take m) p) ∧ Hid (LeastP (q :: L.take m) s)) (fun _ _ i _ => T.length - (intOf i).toNat)
  case atStart => exact ⟨0, Nat.zero_le _, rfl, r, q, rfl, rfl, HW4.out, mostp_one r, leastp_one q⟩
  case round =>
    obtain ⟨m, hm, rfl, p, s, rfl, rfl, hB, hP, hS⟩ := hrel
    by_cases hlt : m < T.length
    · obtain ⟨zs, hz⟩ := getT_of_lt hlt
      obtain ⟨tb, to, e, _, _⟩ := HT.out (show 0 < T.length by omega)
      subst e
      have hes := estL_at (a := fr) (b := tt) HE.out hz
      rw [HL.out] at hes
      have HTP := Lib.hid ((HT.out.below hB).part hz)
      obtain ⟨x, hx⟩ : ∃ x, estI ms fr tt zs = x := ⟨_, rfl⟩
      rw [hx] at hes
      have HX := Lib.hid hx
      have HR := Lib.hid hes.2
      have hfo := first_of RH.out KH.out hes.1
      have hxq := QH.out.2 x (List.mem_of_getElem? hes.1)
      have HP := Lib.hid (mostc_next hes.1 hP.out)
      have HS := Lib.hid (leastc_next hes.1 hS.out)
      have t1 : decide (x < r) = false := decide_eq_false (by omega)
      have t2 : decide (q < x) = false := decide_eq_false (by omega)
      have t3 : ((m : Int) = (d : Int)) = False := eq_false (by omega)
      have t4 : (m = d) = False := eq_false (by omega)
      have hBR := Lib.hid hB
      clear hz hx hes hP hS hB
      obtain ⟨g0, g1, g2⟩ := hfo
      rcases Nat.lt_trichotomy m k with hk | hk | hk
      all_goals
        first
          | (have k1 : decide ((m : Int) < (k : Int)) = true := decide_eq_true (by omega); have k2 : decide (m < k) = true := decide_eq_true (by omega); have k3 : (x == r) = false := (by have := g1 hk; simp; omega); have k4 : ((m : Int) == (k : Int)) = false := (by simp; omega); have k5 : (m == k) = false := (by simp; omega))
          | (have k1 : decide ((m : Int) < (k : Int)) = false := decide_eq_false (by omega); have k2 : decide (m < k) = false := decide_eq_false (by omega); have k3 : (x != r) = false := (by have := g2 hk; simp; omega); have k4 : ((m : Int) == (k : Int)) = true := (by simp; omega); have k5 : (m == k) = true := (by simp; omega))
          | (have k1 : decide ((m : Int) < (k : Int)) = false := decide_eq_false (by omega); have k2 : decide (m < k) = false := decide_eq_false (by omega); have k4 : ((m : Int) == (k : Int)) = false := (by simp; omega); have k5 : (m == k) = false := (by simp; omega))
        clear g1 g2
        have HK := Lib.hid hk
        clear hk
        rcases Int.lt_or_le p x with c0 | c0 <;> rcases Int.lt_or_le x s with d0 | d0
        all_goals
          first
            | (have HM1 := Lib.hid (Int.max_eq_right (a := p) (b := x) (by omega)); have m1 : (if p < x then x else p) = x := (by split <;> omega); have m2 : (if x < p then p else x) = x := by split <;> omega)
            | (have HM1 := Lib.hid (Int.max_eq_left (a := p) (b := x) (by omega)); have m1 : (if p < x then x else p) = p := (by split <;> omega); have m2 : (if x < p then p else x) = p := by split <;> omega)
          first
            | (have HM2 := Lib.hid (Int.min_eq_right (a := s) (b := x) (by omega)); have m3 : (if x < s then x else s) = x := (by split <;> omega); have m4 : (if s < x then s else x) = x := by split <;> omega)
            | (have HM2 := Lib.hid (Int.min_eq_left (a := s) (b := x) (by omega)); have m3 : (if x < s then x else s) = s := (by split <;> omega); have m4 : (if s < x then s else x) = s := by split <;> omega)
          go_wp2_with (go_at_call 54; refine (iceBetween_any ms _ _ [zs] _ _ fr tt _ (H.out.below hBR.out) HTP.out (by simp [maxLen])).mono ?_; rintro e w5 ⟨x1, x2, E5, rfl, hB5, hF5⟩; obtain ⟨e1, e2, e3⟩ := one_est HV.out HF.out HTT.out HR.out hF5.out; rw [HX.out] at e2 e3; subst e1; subst e2; subst e3; have hW5 := below_step hBR.out hB5; clear hF5)
          go_roundw
          case rel => exact ⟨m + 1, by omega, by go_num, _, _, rfl, rfl, hW5, by have := HP.out; rwa [HM1.out] at this, by have := HS.out; rwa [HM2.out] at this⟩
          case measure => simp [intOf]; omega
    · obtain rfl : m = T.length := by omega
      have hen := ends (by have := HLT.out; omega) RH.out QH.out hP.out hS.out
      obtain ⟨e1, e2⟩ := hen
      subst e1
      subst e2
      clear hP hS
      have hsz := hB.size
      obtain ⟨wm, rfl⟩ : ∃ wm : World, wm = wr := ⟨_, rfl⟩
      obtain ⟨i0, hi0, hz0, hz1, hz2⟩ := info_parts int_info
      have HZ2 := Lib.hid hz2
      obtain ⟨mb, mo, e, hmk, hmc⟩ := H.out.marks.open_ (show 0 < ms.length by omega)
      subst e
      have HM := Lib.hid hmc
      clear hz2 hmc
      go_wp2_with (at_make; refine wpList_make_full _ rfl _ _ 37 rfl wm.heap.size 3 i0 (.int .i64 0) 1 Try.underlying37 hi0 hz0 hz1 _ _ _ _ ms.length rfl rfl rfl rfl (by rw [HZ2.out]; omega) (by unfold maxLen; omega) (Nat.le_refl _) ?_; intro w4 hown4 hg4)
      have hB4 : Below wm.heap.size wm w4 := (Below.refl _ _).grown hg4 (Nat.le_refl _) (by simp)
      rw [made_zero, ← ownK_zero] at hown4
      clear hg4 HZ2 hz0 hz1 hi0
      go_loopw [22] (fun i wr => ∃ m : Nat, m ≤ ms.length ∧ i = .int .i64 m ∧ wr.ownsRow wm.heap.size 3 1 (.slice (some ⟨wm.heap.size, 0, none⟩) ms.length ms.length) ms.length ((ownK ms m).map (Value.int .i64)) ∧ Below wm.heap.size wm wr) (fun i _ => ms.length - (intOf i).toNat)
      case atStart => exact ⟨0, Nat.zero_le _, rfl, hown4, hB4⟩
      case round =>
        clear hown4 hB4
        obtain ⟨m, hm, rfl, hown, hB6⟩ := hrel
        by_cases hlt2 : m < ms.length
        · obtain ⟨x, y, hx⟩ := getM_of_lt hlt2
          have f1 := (hB6.cell (p := ⟨mb, mo + m * 2 + 1, none⟩) (Nat.lt_of_lt_of_le hmk hsz)).trans ((hB.cell (p := ⟨mb, mo + m * 2 + 1, none⟩) hmk).trans (HM.out _ _ hx).2)
          have c2 := hown.cellAt m (by omega)
          obtain ⟨u, hu⟩ : ∃ u, ((ownK ms m).map (Value.int .i64))[m]? = some u := ⟨_, List.getElem?_eq_getElem (by rw [List.length_map, ownK_len]; exact hlt2)⟩
          rw [hu] at c2
          have z2 := hown.frozenAt m
          have hmw : mb < wr.heap.size := Nat.lt_of_lt_of_le (Nat.lt_of_lt_of_le hmk hsz) hB6.size
          have HNX := Lib.hid (ownK_next hx)
          have HO := Lib.hid hown
          clear hx hu hown
          go_wp2
          go_roundw
          case rel => exact ⟨m + 1, by omega, by go_num, by rw [← HNX.out]; exact (World.ownsRow.stored HO.out m _).1, hB6.setCell (Nat.le_refl _) _⟩
          case measure => simp [intOf]; omega
        · obtain rfl : m = ms.length := by omega
          rw [ownK_end] at hown
          obtain ⟨A7, c7, e7, hO7⟩ := own_ints hown
          rw [List.length_map] at e7
          cases e7
          have HI7 := Lib.hid hO7.ints
          have HML := Lib.hid (show (ms.map (·.2)).length = ms.length from List.length_map _)
          have HOE := Lib.hid (own_est (a := fr) (b := tt) HV.out)
          have hms2 : ms.length ≤ maxLen := by unfold maxLen; omega
          generalize ms.map (·.2) = ds at hown HI7 HML HOE hO7
          have hW6 := below_step hB hB6
          clear hown hO7
          go_wp2_with (first
            | (go_at_call 25; refine (iceLoss_any ms _ _ fr tt _ (H.out.below hW6)).mono ?_; rintro e w8 ⟨r8, E, rfl, hB8, hF8⟩; obtain ⟨e8, h8, _, _⟩ := lossF HV.out HF.out HTT.out hF8.out; subst e8; have H8 := Lib.hid h8; clear h8 hF8; have hW8 := below_step hW6 hB8; have hW9 : Below w.heap.size w (w8.alloc (.cells #[.slice (some ⟨wm.heap.size, 0, none⟩) ms.length ms.length] 37)) := hW8.alloc hW8.size _)
            | (go_at_call 54; refine (iceBetween_any ms _ _ [ds] _ _ fr tt _ (H.out.below hW9) (Tabs.litN HML.out (HI7.out.below hB8) (Nat.le_refl _) hms2) (by simp [maxLen])).mono ?_; rintro e w10 ⟨x1, x2, E5, rfl, hB10, hF10⟩; obtain ⟨e1, e2, e3⟩ := one_est HV.out HF.out HTT.out HOE.out.1 hF10.out; subst e1; have e4 : x1 = r8 := (by rw [e2, HOE.out.2, H8.out]); have e5 : x2 = r8 := (by rw [e3, HOE.out.2, H8.out]); subst e4; subst e5; clear e2 e3 hF10; have hW10 := below_step hW9 hB10)
            | (go_at_call 18; refine (sane_any _).mono ?_; rintro e w11 ⟨rfl, hB11⟩)
            | fail)
          go_ret
          exact ⟨rfl, below_step hW10 hB11⟩
end Go.Proofs.Ytmndfcjkokolbaa
