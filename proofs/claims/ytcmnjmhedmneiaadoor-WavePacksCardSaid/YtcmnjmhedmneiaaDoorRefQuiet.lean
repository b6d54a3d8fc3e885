/-
  Contract: Quiet (firnref03).
-/
import Derived.Test.YtcmnjmhedmneiaaDoorQuiet
import Derived.Test.YtcmnjmhedmneiaaDoorRefDiffs
import Derived.Test.YtcmnjmhedmneiaaDoorChange
namespace Go.Proofs.YtcmnjmhedmneiaaDoor
open Go.RowKit Go.Shelf

theorem qt_last {m z0 : Int} {s xs : List Int} {k : Nat} (h : xs = qtG m z0 (s.take k)) (hk : 0 < k) (hl : k ≤ s.length) : ∃ l, xs[k - 1]? = some l ∧ lastG z0 xs = l := by
  have hxl : xs.length = k := by rw [h, qtG_len, List.length_take]; omega
  obtain ⟨l, hl2⟩ := getElem?_of_lt (show k - 1 < xs.length by omega)
  refine ⟨l, hl2, ?_⟩
  rw [lastG, List.getLast?_eq_getElem?, hxl, hl2]; rfl
theorem qt_range {m z0 : Int} {s : List Int} (h0 : 0 ≤ z0 ∧ z0 ≤ 1023) (ha : ∀ n ∈ s, 0 ≤ n ∧ n ≤ 1023) (k : Nat) : ∀ n ∈ qtG m z0 (s.take k), 0 ≤ n ∧ n ≤ 1023 :=
  qtG_bd m z0 (s.take k) h0 (fun n hn => ha n (List.mem_of_mem_take hn))

set_option maxRecDepth 100000 in
set_option maxHeartbeats 2000000 in
theorem refQuiet_any (m : Int) (s : List Int) (A : Option Addr) (c : Nat) (w : World) (h : Ints w A s) (hl : s.length ≤ maxLen) :
    Calls Tryd.prog 57 #[.slice A s.length c, .int .i64 m] w fun e w' => ListRes (qtE m s) (qtR m s) e w w' := by
  have H := Lib.hid h
  clear h
  cases hv : vwB s with
  | false =>
    have HV := Lib.hid hv
    clear hv
    go_enter Tryd.func57, Tryd.ntmps57
    go_wp2_with (go_at_call 25; refine (refValid_any s _ _ _ H.out hl).mono ?_; rintro e w1 ⟨rfl, rfl⟩; rw [HV.out])
    go_ret2
    exact ⟨none, 0, [], 30, rfl, Out.nil_, Below.refl _ _, (qt_wave HV.out).2.symm, (qt_wave HV.out).1.symm⟩
  | true =>
    have HV := Lib.hid hv
    clear hv
    by_cases hm0 : m < 0
    · have u1 : decide (m < 0) = true := decide_eq_true hm0
      have HM : Hid (smpB m = false) := Lib.hid (by simp [smpB]; omega)
      go_enter Tryd.func57, Tryd.ntmps57
      go_wp2_with (go_at_call 25; refine (refValid_any s _ _ _ H.out hl).mono ?_; rintro e w1 ⟨rfl, rfl⟩; rw [HV.out])
      go_ret2
      exact ⟨none, 0, [], 2, rfl, Out.nil_, Below.refl _ _, (qt_arg HV.out HM.out).2.symm, (qt_arg HV.out HM.out).1.symm⟩
    have u1 : decide (m < 0) = false := decide_eq_false hm0
    by_cases hm1 : 1023 < m
    · have u2 : decide (1023 < m) = true := decide_eq_true hm1
      have HM : Hid (smpB m = false) := Lib.hid (by simp [smpB]; omega)
      go_enter Tryd.func57, Tryd.ntmps57
      go_wp2_with (go_at_call 25; refine (refValid_any s _ _ _ H.out hl).mono ?_; rintro e w1 ⟨rfl, rfl⟩; rw [HV.out])
      go_ret2
      exact ⟨none, 0, [], 2, rfl, Out.nil_, Below.refl _ _, (qt_arg HV.out HM.out).2.symm, (qt_arg HV.out HM.out).1.symm⟩
    have u2 : decide (1023 < m) = false := decide_eq_false hm1
    have HM : Hid (smpB m = true) := Lib.hid (by simp [smpB]; omega)
    obtain ⟨⟨hn1, hn2⟩, hall⟩ := vw_parts HV.out
    have HA := Lib.hid hall
    obtain ⟨bl, off, e, hbk, hc⟩ := H.out.open_ (by omega)
    subst e
    have HC := Lib.hid hc
    obtain ⟨z0, hz0⟩ := getElem?_of_lt (show 0 < s.length by omega)
    have hz0b := hall z0 (List.mem_of_getElem? hz0)
    have HZ0 : Hid (s.headD 0 = z0) := Lib.hid (by cases s <;> simp_all)
    have HZ := Lib.hid hz0
    have HB0 := Lib.hid hz0b
    clear hc hall hz0 hz0b
    go_enter Tryd.func57, Tryd.ntmps57
    go_wp2_with (go_at_call 25; refine (refValid_any s _ _ _ H.out hl).mono ?_; rintro e w1 ⟨rfl, rfl⟩; rw [HV.out])
    go_loopw [6, 7, 8, 20] (fun v _ _ i wr => ∃ k : Nat, k ≤ s.length ∧ i = .int .i64 k ∧ ∃ xs : List Int, wr.ownsRow w.heap.size 3 1 v k (xs.map (Value.int .i64)) ∧ Below w.heap.size w wr ∧ Hid (xs = qtG m z0 (s.take k))) (fun _ _ _ i _ => s.length - (intOf i).toNat)
    case atStart => exact ⟨0, Nat.zero_le _, rfl, [], World.ownsRow_nil _ _ _ _, Below.refl _ _, rfl⟩
    case round =>
      obtain ⟨k, hk, rfl, xs, hown, hB, hX⟩ := hrel
      have hsz := hB.size
      by_cases hlt : k < s.length
      · obtain ⟨z, hz⟩ := getElem?_of_lt hlt
        have f0 := (hB.cell (p := ⟨bl, off + k, none⟩) hbk).trans (HC.out _ _ hz)
        have hzb := HA.out z (List.mem_of_getElem? hz)
        obtain ⟨hzb0, hzb1⟩ := hzb
        have HNX : Hid (qtG m z0 (s.take (k + 1)) = xs ++ [qtS m (lastG z0 xs) z]) := Lib.hid (by rw [take_snoc hz, qtG_snoc, ← hX.out])
        rcases Nat.eq_zero_or_pos k with h0 | h0
        · subst h0
          have hzz : z = z0 := by have := HZ.out; rw [hz] at this; exact Option.some.inj this
          have hx0 : xs = [] := by rw [hX.out]; rfl
          have HF : Hid (qtS m (lastG z0 xs) z = z) := Lib.hid (by rw [hx0, hzz]; exact qtS_self)
          subst hx0
          rw [Nat.add_zero] at f0
          have u3 : decide ((0 : Int) < ((0 : Nat) : Int)) = false := by decide
          clear hz hX hzz
          go_wp2
          go_quiet (fail)
          have hB2 := below_drewN hB nq
          have hown2 := own_drewB hown nq
          have hsz2 : w.heap.size ≤ (wr.drewN nq).heap.size := hsz
          have f3 : (wr.drewN nq).cell? ⟨bl, off, none⟩ = some (.int .i64 z) := f0
          clear hown hB f0
          generalize wr.drewN nq = wd at hB2 hown2 hsz2 f3 ⊢
          go_wp2_with (at_builtin; refine wp_app_int _ rfl (.tmp 51) (.tmp 53) rfl w.heap.size _ 0 [] z rfl hown2 rfl (by omega) hsz2 ?_; intro v2 w2 hown3 hB3)
          go_roundw
          case rel => exact ⟨1, by omega, by go_num, [z], hown3, hB2.trans hB3, Lib.hid (by rw [HNX.out, HF.out]; rfl)⟩
          case measure => simp [intOf]; omega
        · obtain ⟨l, hl1, hl2⟩ := qt_last hX.out h0 hk
          have hlb := qt_range HB0.out HA.out k (m := m) l (by rw [← hX.out]; exact List.mem_of_getElem? hl1)
          obtain ⟨hlb0, hlb1⟩ := hlb
          rw [hl2] at HNX
          have hxl : xs.length = k := by have := hown.1; simpa using this
          obtain ⟨A1, c1, e1, hO⟩ := own_ints hown
          rw [hxl] at e1
          subst e1
          obtain ⟨g, rfl⟩ : ∃ g, A1 = some ⟨g, 0, none⟩ := by
            rcases hown.2 with ⟨hv, h5⟩ | ⟨g, _, _, hv, _⟩
            · omega
            · injection hv with hv; exact ⟨g, hv⟩
          have c2 : wr.cell? ⟨g, k - 1, none⟩ = some (.int .i64 l) := by
            have := hown.cellAt (k - 1) (by omega)
            rw [List.getElem?_map, hl1] at this
            exact this
          have u3 : decide ((0 : Int) < (k : Int)) = true := decide_eq_true (by omega)
          have v4 : IntKind.i64.wrap ((k : Int) - 1) = (k : Int) - 1 := IntWalk.i64_in _ (by omega)
          have v5 : IntKind.i64.wrap (z - l) = z - l := IntWalk.i64_in _ (by omega)
          have v6 : IntKind.i64.wrap (l - z) = l - z := IntWalk.i64_in _ (by omega)
          have v8 : (k : Int) - 1 < (k : Int) := by omega
          have v9 : (0 : Int) ≤ (k : Int) - 1 := by omega
          have va : ((k : Int) - 1).toNat = k - 1 := by omega
          have vb : (1 : Int) ≤ (k : Int) := by omega
          have vd : (k : Int) < (k : Int) + 1 := by omega
          have ve : k ≠ 0 := by omega
          clear hz hX hl1 hl2 hO
          cases hf : farB m l z with
          | true =>
            have HF := Lib.hid (qtS_far hf)
            have u1 : decide (max (z - l) (l - z) ≤ m) = false := by simp only [farB, decide_eq_true_eq, decide_eq_false_iff_not] at hf ⊢; omega
            clear hf
            go_wp2
            go_quiet (fail)
            have hB2 := below_drewN hB nq
            have hown2 := own_drewB hown nq
            have hsz2 : w.heap.size ≤ (wr.drewN nq).heap.size := hsz
            have c3 : (wr.drewN nq).cell? ⟨g, k - 1, none⟩ = some (.int .i64 l) := c2
            have f3 : (wr.drewN nq).cell? ⟨bl, off + k, none⟩ = some (.int .i64 z) := f0
            clear hown hB c2 f0
            generalize wr.drewN nq = wd at hB2 hown2 hsz2 c3 f3 ⊢
            go_wp2_with (at_builtin; refine wp_app_int _ rfl (.tmp 51) (.tmp 53) rfl w.heap.size _ k xs z rfl hown2 rfl (by omega) hsz2 ?_; intro v2 w2 hown3 hB3)
            go_roundw
            case rel => exact ⟨k + 1, by omega, by go_num, xs ++ [z], hown3, hB2.trans hB3, Lib.hid (by rw [HNX.out, HF.out])⟩
            case measure => simp [intOf]; omega
          | false =>
            have HF := Lib.hid (qtS_near hf)
            have u1 : decide (max (z - l) (l - z) ≤ m) = true := by simp only [farB, decide_eq_false_iff_not, decide_eq_true_eq] at hf ⊢; omega
            clear hf
            go_wp2
            go_quiet (fail)
            have hB2 := below_drewN hB nq
            have hown2 := own_drewB hown nq
            have hsz2 : w.heap.size ≤ (wr.drewN nq).heap.size := hsz
            have c3 : (wr.drewN nq).cell? ⟨g, k - 1, none⟩ = some (.int .i64 l) := c2
            have f3 : (wr.drewN nq).cell? ⟨bl, off + k, none⟩ = some (.int .i64 z) := f0
            clear hown hB c2 f0
            generalize wr.drewN nq = wd at hB2 hown2 hsz2 c3 f3 ⊢
            go_wp2_with (at_builtin; refine wp_app_int _ rfl (.tmp 51) (.tmp 53) rfl w.heap.size _ k xs l rfl hown2 rfl (by omega) hsz2 ?_; intro v2 w2 hown3 hB3)
            go_roundw
            case rel => exact ⟨k + 1, by omega, by go_num, xs ++ [l], hown3, hB2.trans hB3, Lib.hid (by rw [HNX.out, HF.out])⟩
            case measure => simp [intOf]; omega
      · obtain rfl : k = s.length := by omega
        go_wp2
        go_ret2
        obtain ⟨A', c', e1, hO⟩ := own_ints hown
        have hxl : xs.length = s.length := by have := hown.1; simpa using this
        subst e1
        exact ⟨A', c', xs, 0, by rfl, hO, hB, by have h1 := hX.out; rw [List.take_length] at h1; rw [(qt_ok HV.out HM.out).2, qtL, HZ0.out]; exact h1, (qt_ok HV.out HM.out).1.symm⟩
end Go.Proofs.YtcmnjmhedmneiaaDoor
