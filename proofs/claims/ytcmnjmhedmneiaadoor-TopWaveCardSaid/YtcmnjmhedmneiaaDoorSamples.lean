/-
  Contracts: Differences, samplesOf, Samples (wave).
-/
import Derived.Test.YtcmnjmhedmneiaaDoorAwake
namespace Go.Proofs.YtcmnjmhedmneiaaDoor
open Go.RowKit Go.Shelf

def difE (s : List Int) : Int := if vwB s then 0 else 30
def difR (s : List Int) : List Int := if vwB s then difL s else []
theorem dif_ok {s : List Int} (h : vwB s = true) : difE s = 0 ∧ difR s = difL s := by rw [difE, difR, if_pos h, if_pos h]; exact ⟨rfl, rfl⟩
theorem dif_no {s : List Int} (h : vwB s = false) : difE s = 30 ∧ difR s = [] := by rw [difE, difR, h]; exact ⟨rfl, rfl⟩
/-- What a call answers that returns a list and an error. -/
def ListRes (E : Int) (ys : List Int) (e : Ending) (w w' : World) : Prop :=
  ∃ (A : Option Addr) (c : Nat) (zs : List Int) (F : Int), e = .returned (.tuple #[.slice A zs.length c, .int .i64 F]) ∧ Out w' A c zs ∧ Below w.heap.size w w' ∧ Hid (zs = ys ∧ F = E)

set_option maxRecDepth 100000 in
theorem waveDifferences_any (s : List Int) (A : Option Addr) (c : Nat) (w : World) (h : Ints w A s) (hl : s.length ≤ maxLen) :
    Calls Tryd.prog 20 #[.slice A s.length c] w fun e w' => ListRes (difE s) (difR s) e w w' := by
  have H := Lib.hid h
  clear h
  cases hv : vwB s with
  | false =>
    have HV := Lib.hid hv
    go_enter Tryd.func20, Tryd.ntmps20
    go_wp2_with (go_at_call 24; refine (valid_any s _ _ _ H.out hl).mono ?_; rintro e w1 ⟨rfl, rfl⟩; rw [HV.out])
    go_ret2
    exact ⟨none, 0, [], 30, rfl, Out.nil_, Below.refl _ _, (dif_no HV.out).2.symm, (dif_no HV.out).1.symm⟩
  | true =>
    have HV := Lib.hid hv
    go_enter Tryd.func20, Tryd.ntmps20
    go_wp2_with (first
      | (go_at_call 24; refine (valid_any s _ _ _ H.out hl).mono ?_; rintro e w1 ⟨rfl, rfl⟩; rw [HV.out])
      | (go_at_call 58; refine (differences_any s _ _ _ H.out HV.out).mono ?_; rintro e w2 ⟨g, c', rfl, _, hO, hB⟩))
    go_ret2
    exact ⟨some ⟨g, 0, none⟩, c', difL s, 0, by rw [show (difL s).length = s.length from difG_len 0 s]; rfl, hO, hB, (dif_ok HV.out).2.symm, (dif_ok HV.out).1.symm⟩

/-! ### the wave form with some differences -/
def sumG : Int → List Int → List Int
  | _, [] => []
  | a, d :: t => (a + d) :: sumG (a + d) t
def sumL (l : List Int) : List Int := sumG 0 l
def sumT (a : Int) (l : List Int) : Int := a + l.sum
theorem sumG_len : ∀ (a : Int) (l : List Int), (sumG a l).length = l.length
  | _, [] => rfl
  | a, d :: t => by rw [sumG, List.length_cons, List.length_cons, sumG_len]
theorem sumG_snoc : ∀ (a : Int) (l : List Int) (d : Int), sumG a (l ++ [d]) = sumG a l ++ [a + l.sum + d]
  | a, [], d => by simp [sumG]
  | a, b :: t, d => by rw [List.cons_append, sumG, sumG_snoc, sumG, List.cons_append, List.sum_cons]; simp; omega
theorem sumL_snoc (l : List Int) (d : Int) : sumL (l ++ [d]) = sumL l ++ [l.sum + d] := by rw [sumL, sumG_snoc, Int.zero_add]; rfl
theorem sumL_len (l : List Int) : (sumL l).length = l.length := sumG_len 0 l
theorem sumG_get : ∀ (a : Int) (l : List Int) (k : Nat), k < l.length → (sumG a l)[k]? = some (a + (l.take (k + 1)).sum)
  | a, [], k, h => by simp at h
  | a, d :: t, 0, _ => by simp [sumG]
  | a, d :: t, k + 1, h => by
    rw [sumG, List.getElem?_cons_succ, sumG_get (a + d) t k (by simpa using h)]
    simp; omega
theorem sumL_get {l : List Int} {k : Nat} (h : k < l.length) : (sumL l)[k]? = some (l.take (k + 1)).sum := by rw [sumL, sumG_get 0 l k h, Int.zero_add]
theorem sumL_bad {l : List Int} {k : Nat} (hk : k < l.length) (h : smpB (l.take (k + 1)).sum = false) : vwB (sumL l) = false := by
  rw [vwB, all_not (sumL_get hk) h, Bool.and_false]
theorem sumL_take (l : List Int) (k : Nat) : (sumL l).take k = sumL (l.take k) := by
  induction k with
  | zero => simp [sumL, sumG]
  | succ k ih =>
    rcases Nat.lt_or_ge k l.length with h | h
    · obtain ⟨d, hd⟩ := getElem?_of_lt h
      rw [take_snoc (sumL_get h), ih, take_snoc hd, sumL_snoc, List.sum_append_int]; simp
    · rw [List.take_of_length_le (by rw [sumL_len]; omega), List.take_of_length_le (by omega)]
def smpE (l : List Int) : Int := if vwB (sumL l) then 0 else 5
def smpR (l : List Int) : List Int := if vwB (sumL l) then sumL l else []
theorem smp_ok {l : List Int} (h : vwB (sumL l) = true) : smpE l = 0 ∧ smpR l = sumL l := by rw [smpE, smpR, if_pos h, if_pos h]; exact ⟨rfl, rfl⟩
theorem smp_no {l : List Int} (h : vwB (sumL l) = false) : smpE l = 5 ∧ smpR l = [] := by rw [smpE, smpR, h]; exact ⟨rfl, rfl⟩
theorem sum_snoc {l : List Int} {k : Nat} {d : Int} (h : l[k]? = some d) : (l.take (k + 1)).sum = (l.take k).sum + d := by
  rw [take_snoc h, List.sum_append_int]; simp

/-- Each number is an int. -/
def I64s (l : List Int) : Prop := ∀ d ∈ l, -9223372036854775808 ≤ d ∧ d ≤ 9223372036854775807
/-- What samplesOf answers: the wave form, or none. -/
def SamRes (l : List Int) (e : Ending) (w w' : World) : Prop :=
  (vwB (sumL l) = true ∧ ∃ (A : Option Addr) (c : Nat) (zs : List Int), e = .returned (.tuple #[.slice A zs.length c, .bool true]) ∧ Out w' A c zs ∧ zs = sumL l ∧ Below w.heap.size w w') ∨
  (vwB (sumL l) = false ∧ e = .returned (.tuple #[.slice none 0 0, .bool false]) ∧ Below w.heap.size w w')
set_option maxRecDepth 100000 in
set_option maxHeartbeats 1000000 in
theorem samplesOf_any (l : List Int) (A : Option Addr) (c : Nat) (w : World) (h : Ints w A l) (hl : l.length ≤ maxLen) (hw : I64s l) :
    Calls Tryd.prog 60 #[.slice A l.length c] w fun e w' => SamRes l e w w' := by
  unfold maxLen at hl
  have H := Lib.hid h
  have HWF := Lib.hid hw
  clear h hw
  by_cases h1 : (l.length : Int) < 1
  · have t1 : decide ((l.length : Int) < 1) = true := decide_eq_true h1
    go_enter Tryd.func60, Tryd.ntmps60
    go_wp2
    go_ret2
    exact .inr ⟨(vw_len (by rw [sumL_len]; omega)).symm, rfl, Below.refl _ _⟩
  have t1 : decide ((l.length : Int) < 1) = false := decide_eq_false h1
  by_cases h2 : 40 < (l.length : Int)
  · have t2 : decide (40 < (l.length : Int)) = true := decide_eq_true h2
    go_enter Tryd.func60, Tryd.ntmps60
    go_wp2
    go_ret2
    exact .inr ⟨(vw_len (by rw [sumL_len]; omega)).symm, rfl, Below.refl _ _⟩
  have t2 : decide (40 < (l.length : Int)) = false := decide_eq_false h2
  have hn1 : 1 ≤ l.length := by omega
  have hn2 : l.length ≤ 40 := by omega
  clear h1 h2
  obtain ⟨bl, off, e, hbk, hc⟩ := H.out.open_ (by omega)
  subst e
  have HC := Lib.hid hc
  obtain ⟨i0, hi0, hz0, hz1, hz2⟩ := info_parts int_info
  have HZ2 := Lib.hid hz2
  clear hc hz2
  go_enter Tryd.func60, Tryd.ntmps60
  go_wp2_with (at_make; refine wpList_make_own _ rfl _ _ 22 rfl w.heap.size 3 i0 (.int .i64 0) 1 Tryd.underlying22 hi0 hz0 hz1 .i64 .i64 l.length l.length rfl rfl rfl (by rw [HZ2.out]; omega) (by unfold maxLen; omega) (Nat.le_refl _) ?_; intro w4 hown4 hg4)
  have hB4 : Below w.heap.size w w4 := (Below.refl _ _).grown hg4 (Nat.le_refl _) (by simp)
  have HO4 := Lib.hid hown4
  clear hown4 hg4 hi0 hz0 hz1 HZ2
  go_loopw [4, 5, 21] (fun v a i wr => ∃ k : Nat, k ≤ l.length ∧ i = .int .i64 k ∧ ∃ (xs : List Int) (t : Int), a = .int .i64 t ∧ (0 ≤ t ∧ t ≤ 1023) ∧ wr.ownsRow w.heap.size 3 1 v k (xs.map (Value.int .i64)) ∧ Below w.heap.size w wr ∧ Hid (xs = sumL (l.take k) ∧ t = (l.take k).sum ∧ xs.all smpB = true)) (fun _ _ i _ => l.length - (intOf i).toNat)
  case atStart => exact ⟨0, Nat.zero_le _, rfl, [], 0, rfl, by omega, HO4.out, hB4, rfl, rfl, rfl⟩
  case round =>
    clear hB4
    obtain ⟨k, hk, rfl, xs, t, rfl, ht, hown, hB, hX⟩ := hrel
    obtain ⟨ht0, ht1⟩ := ht
    by_cases hlt : k < l.length
    · obtain ⟨d, hd⟩ := getElem?_of_lt hlt
      have f0 := (hB.cell (p := ⟨bl, off + k, none⟩) hbk).trans (HC.out _ _ hd)
      have hdb := HWF.out d (List.mem_of_getElem? hd)
      have hsum := sum_snoc hd
      have HD := Lib.hid hd
      have HS := Lib.hid hsum
      have hsz := hB.size
      clear hd hsum
      by_cases hlo : d < -t
      · have u1 : decide (d < -t) = true := decide_eq_true hlo
        go_wp2
        go_ret2
        exact .inr ⟨sumL_bad hlt (by rw [HS.out, ← hX.out.2.1]; simp [smpB]; omega), rfl, hB⟩
      · have u1 : decide (d < -t) = false := decide_eq_false hlo
        by_cases hhi : 1023 - t < d
        · have u2 : decide (1023 - t < d) = true := decide_eq_true hhi
          go_wp2
          go_ret2
          exact .inr ⟨sumL_bad hlt (by rw [HS.out, ← hX.out.2.1]; simp [smpB]; omega), rfl, hB⟩
        · have u2 : decide (1023 - t < d) = false := decide_eq_false hhi
          have HNX : Hid (xs ++ [t + d] = sumL (l.take (k + 1)) ∧ t + d = (l.take (k + 1)).sum ∧ (xs ++ [t + d]).all smpB = true) := by
            refine ⟨?_, by rw [HS.out, ← hX.out.2.1], ?_⟩
            · rw [take_snoc HD.out, sumL_snoc, ← hX.out.1, ← hX.out.2.1]
            · rw [List.all_append, hX.out.2.2]; simp [smpB]; omega
          clear hX
          go_wp2_with (at_builtin; refine wp_app_int _ rfl (.tmp 38) (.tmp 40) rfl w.heap.size _ k xs _ rfl hown rfl (by omega) hsz ?_; intro v2 w2 hown2 hB2)
          go_roundw
          case rel => exact ⟨k + 1, by omega, by go_num, _, t + d, rfl, by omega, hown2, hB.trans hB2, HNX.out⟩
          case measure => simp [intOf]; omega
    · obtain rfl : k = l.length := by omega
      go_wp2
      go_ret2
      have hx : xs = sumL l := by have := hX.out.1; rwa [List.take_length] at this
      obtain ⟨A', c', rfl, hO⟩ := own_ints hown
      refine .inl ⟨?_, A', c', xs, rfl, hO, hx, hB⟩
      rw [← hx]
      exact (vw_end (by rw [hx, sumL_len]; omega) hX.out.2.2).symm

set_option maxRecDepth 100000 in
theorem waveSamples_any (l : List Int) (A : Option Addr) (c : Nat) (w : World) (h : Ints w A l) (hl : l.length ≤ maxLen) (hw : I64s l) :
    Calls Tryd.prog 22 #[.slice A l.length c] w fun e w' => ListRes (smpE l) (smpR l) e w w' := by
  have HS := Lib.hid (samplesOf_any l A c w h hl hw)
  clear h hw
  cases hv : vwB (sumL l) with
  | false =>
    have HV := Lib.hid hv
    clear hv
    have HS2 : Hid (Calls Tryd.prog 60 #[.slice A l.length c] w fun e w' => e = .returned (.tuple #[.slice none 0 0, .bool false]) ∧ Below w.heap.size w w') :=
      Lib.hid (HS.out.mono fun e w' h => h.elim (fun h => absurd h.1 (by rw [HV.out]; decide)) (fun h => h.2))
    go_enter Tryd.func22, Tryd.ntmps22
    go_wp2_with (go_at_call 60; refine HS2.out.mono ?_; rintro e w1 ⟨rfl, hB⟩)
    go_ret2
    exact ⟨none, 0, [], 5, rfl, Out.nil_, hB, (smp_no HV.out).2.symm, (smp_no HV.out).1.symm⟩
  | true =>
    have HV := Lib.hid hv
    clear hv
    have HS2 : Hid (Calls Tryd.prog 60 #[.slice A l.length c] w fun e w' => ∃ (A : Option Addr) (c : Nat) (zs : List Int), e = .returned (.tuple #[.slice A zs.length c, .bool true]) ∧ Out w' A c zs ∧ Below w.heap.size w w' ∧ Hid (zs = sumL l)) :=
      Lib.hid (HS.out.mono fun e w' h => h.elim (fun ⟨_, A, c, zs, h1, h2, h3, h4⟩ => ⟨A, c, zs, h1, h2, h4, h3⟩) (fun h => absurd h.1 (by rw [HV.out]; decide)))
    go_enter Tryd.func22, Tryd.ntmps22
    go_wp2_with (go_at_call 60; refine HS2.out.mono ?_; rintro e w1 ⟨A1, c1, zs, rfl, hO, hB, hz⟩)
    go_ret2
    exact ⟨A1, c1, zs, 0, rfl, hO, hB, hz.out.trans (smp_ok HV.out).2.symm, (smp_ok HV.out).1.symm⟩
end Go.Proofs.YtcmnjmhedmneiaaDoor
