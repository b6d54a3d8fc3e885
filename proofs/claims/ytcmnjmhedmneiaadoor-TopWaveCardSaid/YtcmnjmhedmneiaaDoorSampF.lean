/-
  Contract: samplesOf once more, with where the list lies.
-/
import Derived.Test.YtcmnjmhedmneiaaDoorRefRead
namespace Go.Proofs.YtcmnjmhedmneiaaDoor
open Go.RowKit Go.Shelf

/-- A list that lies in a block made since. -/
def Fr (B : Nat) (A : Option Addr) : Prop := ∀ ad, A = some ad → B ≤ ad.block
theorem fr_own {w : World} {base n m k c : Nat} {e : TypeId} {A : Option Addr} {xs : List Value} (h : w.ownsRow base e n (.slice A k c) m xs) : Fr base A := fun ad ha => by
  subst ha
  exact (own_lt h rfl).1
theorem Fr.less {B B' : Nat} {A : Option Addr} (h : Fr B A) (hb : B' ≤ B) : Fr B' A := fun ad ha => Nat.le_trans hb (h ad ha)
/-- Cells of other blocks are as they were. -/
theorem Out.apart {w w' : World} {A : Option Addr} {c B : Nat} {zs : List Int} (h : Out w A c zs) (hf : Fr B A) (hs : w.heap.size ≤ w'.heap.size) (hc : ∀ p : Addr, B ≤ p.block → p.block < w.heap.size → w'.cell? p = w.cell? p) : Out w' A c zs := by
  refine ⟨⟨h.ints.1, fun hn => ?_⟩, h.le, h.cap⟩
  obtain ⟨ad, e, hb, hcc⟩ := h.ints.2 hn
  exact ⟨ad, e, Nat.lt_of_lt_of_le hb hs, fun j u hu => (hc _ (by rw [block_of_add]; exact hf ad e) (by rw [block_of_add]; exact hb)).trans (hcc j u hu)⟩
/-- What samplesOf answers: the wave form, or none. -/
def SamResF (l : List Int) (e : Ending) (w w' : World) : Prop :=
  (vwB (sumL l) = true ∧ ∃ (A : Option Addr) (c : Nat) (zs : List Int), e = .returned (.tuple #[.slice A zs.length c, .bool true]) ∧ Out w' A c zs ∧ zs = sumL l ∧ Below w.heap.size w w' ∧ Fr w.heap.size A) ∨
  (vwB (sumL l) = false ∧ e = .returned (.tuple #[.slice none 0 0, .bool false]) ∧ Below w.heap.size w w')
set_option maxRecDepth 100000 in
set_option maxHeartbeats 1000000 in
theorem samplesF_any (l : List Int) (A : Option Addr) (c : Nat) (w : World) (h : Ints w A l) (hl : l.length ≤ maxLen) (hw : I64s l) :
    Calls Tryd.prog 60 #[.slice A l.length c] w fun e w' => SamResF l e w w' := by
  unfold maxLen at hl
  have H := Lib.hid h
  have HWF := Lib.hid hw
  clear h hw
  by_cases h1 : (l.length : Int) < 1
  · have t1 : decide ((l.length : Int) < 1) = true := decide_eq_true h1
    go_enter Tryd.func60, Tryd.ntmps60
    go_wp2
    go_ret2
    exact .inr ⟨(vw_len (by rw [sumL_len]; omega)).symm, rfl, Below.refl _ _⟩
  have t1 : decide ((l.length : Int) < 1) = false := decide_eq_false h1
  by_cases h2 : 40 < (l.length : Int)
  · have t2 : decide (40 < (l.length : Int)) = true := decide_eq_true h2
    go_enter Tryd.func60, Tryd.ntmps60
    go_wp2
    go_ret2
    exact .inr ⟨(vw_len (by rw [sumL_len]; omega)).symm, rfl, Below.refl _ _⟩
  have t2 : decide (40 < (l.length : Int)) = false := decide_eq_false h2
  have hn1 : 1 ≤ l.length := by omega
  have hn2 : l.length ≤ 40 := by omega
  clear h1 h2
  obtain ⟨bl, off, e, hbk, hc⟩ := H.out.open_ (by omega)
  subst e
  have HC := Lib.hid hc
  obtain ⟨i0, hi0, hz0, hz1, hz2⟩ := info_parts int_info
  have HZ2 := Lib.hid hz2
  clear hc hz2
  go_enter Tryd.func60, Tryd.ntmps60
  go_wp2_with (at_make; refine wpList_make_own _ rfl _ _ 22 rfl w.heap.size 3 i0 (.int .i64 0) 1 Tryd.underlying22 hi0 hz0 hz1 .i64 .i64 l.length l.length rfl rfl rfl (by rw [HZ2.out]; omega) (by unfold maxLen; omega) (Nat.le_refl _) ?_; intro w4 hown4 hg4)
  have hB4 : Below w.heap.size w w4 := (Below.refl _ _).grown hg4 (Nat.le_refl _) (by simp)
  have HO4 := Lib.hid hown4
  clear hown4 hg4 hi0 hz0 hz1 HZ2
  go_loopw [4, 5, 21] (fun v a i wr => ∃ k : Nat, k ≤ l.length ∧ i = .int .i64 k ∧ ∃ (xs : List Int) (t : Int), a = .int .i64 t ∧ (0 ≤ t ∧ t ≤ 1023) ∧ wr.ownsRow w.heap.size 3 1 v k (xs.map (Value.int .i64)) ∧ Below w.heap.size w wr ∧ Hid (xs = sumL (l.take k) ∧ t = (l.take k).sum ∧ xs.all smpB = true)) (fun _ _ i _ => l.length - (intOf i).toNat)
  case atStart => exact ⟨0, Nat.zero_le _, rfl, [], 0, rfl, by omega, HO4.out, hB4, rfl, rfl, rfl⟩
  case round =>
    clear hB4
    obtain ⟨k, hk, rfl, xs, t, rfl, ht, hown, hB, hX⟩ := hrel
    obtain ⟨ht0, ht1⟩ := ht
    by_cases hlt : k < l.length
    · obtain ⟨d, hd⟩ := getElem?_of_lt hlt
      have f0 := (hB.cell (p := ⟨bl, off + k, none⟩) hbk).trans (HC.out _ _ hd)
      have hdb := HWF.out d (List.mem_of_getElem? hd)
      have hsum := sum_snoc hd
      have HD := Lib.hid hd
      have HS := Lib.hid hsum
      have hsz := hB.size
      clear hd hsum
      by_cases hlo : d < -t
      · have u1 : decide (d < -t) = true := decide_eq_true hlo
        go_wp2
        go_ret2
        exact .inr ⟨sumL_bad hlt (by rw [HS.out, ← hX.out.2.1]; simp [smpB]; omega), rfl, hB⟩
      · have u1 : decide (d < -t) = false := decide_eq_false hlo
        by_cases hhi : 1023 - t < d
        · have u2 : decide (1023 - t < d) = true := decide_eq_true hhi
          go_wp2
          go_ret2
          exact .inr ⟨sumL_bad hlt (by rw [HS.out, ← hX.out.2.1]; simp [smpB]; omega), rfl, hB⟩
        · have u2 : decide (1023 - t < d) = false := decide_eq_false hhi
          have HNX : Hid (xs ++ [t + d] = sumL (l.take (k + 1)) ∧ t + d = (l.take (k + 1)).sum ∧ (xs ++ [t + d]).all smpB = true) := by
            refine ⟨?_, by rw [HS.out, ← hX.out.2.1], ?_⟩
            · rw [take_snoc HD.out, sumL_snoc, ← hX.out.1, ← hX.out.2.1]
            · rw [List.all_append, hX.out.2.2]; simp [smpB]; omega
          clear hX
          go_wp2_with (at_builtin; refine wp_app_int _ rfl (.tmp 38) (.tmp 40) rfl w.heap.size _ k xs _ rfl hown rfl (by omega) hsz ?_; intro v2 w2 hown2 hB2)
          go_roundw
          case rel => exact ⟨k + 1, by omega, by go_num, _, t + d, rfl, by omega, hown2, hB.trans hB2, HNX.out⟩
          case measure => simp [intOf]; omega
    · obtain rfl : k = l.length := by omega
      go_wp2
      go_ret2
      have hx : xs = sumL l := by have := hX.out.1; rwa [List.take_length] at this
      obtain ⟨A', c', rfl, hO⟩ := own_ints hown
      refine .inl ⟨?_, A', c', xs, rfl, hO, hx, hB, fr_own hown⟩
      rw [← hx]
      exact (vw_end (by rw [hx, sumL_len]; omega) hX.out.2.2).symm

end Go.Proofs.YtcmnjmhedmneiaaDoor
