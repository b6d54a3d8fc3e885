/-
  The walk of WaveFewest: it returns true, whatever it is given.
-/
import Derived.Test.YtcmnjmhedmneiaaDoorLawFewest
namespace Go.Proofs.YtcmnjmhedmneiaaDoor
open Go.RowKit Go.Shelf

set_option maxRecDepth 100000 in
set_option maxHeartbeats 1000000 in
theorem waveFewest_walk (s : List Int) (A : Option Addr) (c : Nat) (t : ByteArray) (l : List Int) (B : Option Addr) (d : Nat) (w : World) (hW : Wids w) (hs : Ints w A s) (hc : s.length ≤ c) (hc0 : c ≤ maxLen) (_hsw : I64s s) (ht : t.size ≤ maxLen) (hl : Ints w B l) (hd : l.length ≤ d) (hd0 : d ≤ maxLen) (_hlw : I64s l) :
    Calls Tryd.prog 11 #[.slice A s.length c, .string t, .slice B l.length d] w fun e w' => e = .returned (.bool true) ∧ Below w.heap.size w w' := by
  have H := Lib.hid hs
  have HL := Lib.hid hl
  have HW := Lib.hid hW
  have hsl : s.length ≤ maxLen := Nat.le_trans hc hc0
  have hll : l.length ≤ maxLen := Nat.le_trans hd hd0
  clear hs hc hc0 _hsw hl hd hd0 _hlw hW
  by_cases h1 : 200 < s.length
  · have t1 : decide (200 < s.length) = true := decide_eq_true h1
    go_enter Tryd.func11, Tryd.ntmps11
    go_wp2_with (first
      | (go_at_call 17; refine (many_any _ _ _ _).mono ?_; rintro e w' ⟨rfl, rfl⟩)
      | (go_at_call 19; refine (awake_any _ HW.out).mono ?_; rintro e w' ⟨rfl, hB⟩))
    go_ret
    exact ⟨rfl, hB⟩
  have t1 : decide (200 < s.length) = false := decide_eq_false h1
  have TA : Hid True := Lib.hid trivial
  by_cases h2 : 200 < l.length
  · have t2 : decide (200 < l.length) = true := decide_eq_true h2
    go_enter Tryd.func11, Tryd.ntmps11
    go_wp2_with (first
      | (go_at_call 17; clear TA; refine (many_any s _ _ _).mono ?_; rintro e w' ⟨rfl, rfl⟩)
      | (go_at_call 17; refine (many_any l _ _ _).mono ?_; rintro e w' ⟨rfl, rfl⟩)
      | (go_at_call 19; refine (awake_any _ HW.out).mono ?_; rintro e w' ⟨rfl, hB⟩))
    go_ret
    exact ⟨rfl, hB⟩
  have t2 : decide (200 < l.length) = false := decide_eq_false h2
  by_cases h3 : 2000 < t.size
  · have t3 : decide (2000 < t.size) = true := decide_eq_true h3
    go_enter Tryd.func11, Tryd.ntmps11
    go_wp2_with (first
      | (go_at_call 17; clear TA; refine (many_any s _ _ _).mono ?_; rintro e w' ⟨rfl, rfl⟩)
      | (go_at_call 17; refine (many_any l _ _ _).mono ?_; rintro e w' ⟨rfl, rfl⟩)
      | (go_at_call 18; refine (lawLong_any t _).mono ?_; rintro e w' ⟨rfl, rfl⟩)
      | (go_at_call 19; refine (awake_any _ HW.out).mono ?_; rintro e w' ⟨rfl, hB⟩))
    go_ret
    exact ⟨rfl, hB⟩
  have t3 : decide (2000 < t.size) = false := decide_eq_false h3
  cases hv : vwB s with
  | false =>
    have HV := Lib.hid hv
    clear hv h1 h2 h3
    go_enter Tryd.func11, Tryd.ntmps11
    go_wp2_with (first
      | (go_at_call 17; clear TA; refine (many_any s _ _ _).mono ?_; rintro e w' ⟨rfl, rfl⟩)
      | (go_at_call 17; refine (many_any l _ _ _).mono ?_; rintro e w' ⟨rfl, rfl⟩)
      | (go_at_call 18; refine (lawLong_any t _).mono ?_; rintro e w' ⟨rfl, rfl⟩)
      | (go_at_call 25; refine (refValid_any s _ _ _ H.out hsl).mono ?_; rintro e w' ⟨rfl, rfl⟩; rw [HV.out])
      | (go_at_call 19; refine (awake_any _ HW.out).mono ?_; rintro e w' ⟨rfl, hB⟩))
    go_ret
    exact ⟨rfl, hB⟩
  | true =>
    refine waveFewest_main s A c t l B d w HW H hsl HL hll ht t1 t2 t3 (Lib.hid hv) _ _ _ rfl rfl rfl ?_
    rcases it_cases s t hv with h | h
    · cases hb : itB s t with
      | true => exact .inl ⟨h, rfl⟩
      | false => exact .inr (.inl ⟨h, rfl⟩)
    · exact .inr (.inr ⟨h, it_31 h⟩)
end Go.Proofs.YtcmnjmhedmneiaaDoor
