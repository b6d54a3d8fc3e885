/-
  The walk of WaveNumbers: it returns true, whatever it is given.
-/
import Derived.Test.YtcmnjmhedmneiaaDoorNumber
namespace Go.Proofs.YtcmnjmhedmneiaaDoor
open Go.RowKit Go.Shelf

theorem ww_cases (wi n : Int) : (∃ k, k < 5 ∧ wi = wdN k ∧ inwB (wdN k) n = true ∧ wwE wi n = 0 ∧ wwL wi n = wordL (wdN k) n) ∨ (wwE wi n = 2 ∧ wwL wi n = []) := by
  cases ho : ksF wi with
  | none => exact .inr (ww_none ho)
  | some k =>
    obtain ⟨hk, e⟩ := ks_some ho
    cases hb : inwB (wdN k) n with
    | false => exact .inr (ww_out ho hb)
    | true => exact .inl ⟨k, hk, e.symm, hb, ww_ok ho hb⟩
theorem nn_cases (l : List UInt8) : (∃ k, k < 5 ∧ l.length = wdN k ∧ l.all bitB = true ∧ nnE l = 0 ∧ nnL l = numL l) ∨ (nnE l = 3 ∧ nnL l = 0) := by
  cases ho : ksF l.length with
  | none => exact .inr (nn_none ho)
  | some k =>
    obtain ⟨hk, e⟩ := ks_some ho
    cases hb : l.all bitB with
    | false => exact .inr (nn_out ho hb)
    | true => exact .inl ⟨k, hk, by omega, rfl, nn_ok ho hb⟩
theorem nn_word {k : Nat} (hk : k < 5) {n : Int} (h : inwB (wdN k) n = true) : nnE (wordL (wdN k) n) = 0 ∧ nnL (wordL (wdN k) n) = n := by
  have h2 := nn_ok (l := wordL (wdN k) n) (k := k) (by rw [word_len]; exact ks_wd hk) (word_bits _ _)
  exact ⟨h2.1, h2.2.trans (num_there hk h)⟩
theorem ww_back {k : Nat} (hk : k < 5) {l : List UInt8} (hl : l.length = wdN k) (h : l.all bitB = true) : wwE l.length (numL l) = 0 ∧ wwL l.length (numL l) = l := by
  have h2 := num_back hk hl h
  have h3 := ww_ok (wi := (l.length : Int)) (n := numL l) (k := k) (by rw [hl]; exact ks_wd hk) h2.1
  exact ⟨h3.1, h3.2.trans h2.2⟩
theorem bt_self (t : ByteArray) : (⟨t.data.toList.toArray⟩ : ByteArray) = t := by simp
/-- What the first half of the law is told: the word, and what it reads as. -/
theorem numbers_fst {wi n : Int} (h : ∃ k, k < 5 ∧ wi = wdN k ∧ inwB (wdN k) n = true ∧ wwE wi n = 0 ∧ wwL wi n = wordL (wdN k) n) :
    wwE wi n = 0 ∧ ∀ q : ByteArray, q = ⟨(wwL wi n).toArray⟩ → (q.size : Int) = wi ∧ q.size ≤ 11 ∧ nnE q.data.toList = 0 ∧ nnL q.data.toList = n := by
  obtain ⟨k, hk, rfl, hb, h1, h2⟩ := h
  refine ⟨h1, ?_⟩
  rintro q rfl
  rw [h2]
  have hw := wd_bd k
  refine ⟨by rw [sv_size, word_len], by rw [sv_size, word_len]; exact hw.2, ?_⟩
  exact nn_word hk hb
set_option maxRecDepth 100000 in
set_option maxHeartbeats 2000000 in
theorem waveNumbers_walk (wi n : Int) (t : ByteArray) (w : World) (hW : Wids w) (_h1 : (Lit.int .i64 wi).wf = true) (_h2 : (Lit.int .i64 n).wf = true) (ht : t.size ≤ maxLen) :
    Calls Tryd.prog 13 #[.int .i64 wi, .int .i64 n, .string t] w fun e w' => e = .returned (.bool true) ∧ Below w.heap.size w w' := by
  have HW := Lib.hid hW
  clear hW _h1 _h2
  by_cases h1 : 2000 < t.size
  · have t1 : decide (2000 < t.size) = true := decide_eq_true h1
    go_enter Tryd.func13, Tryd.ntmps13
    go_wp2_with (first
      | (go_at_call 18; refine (lawLong_any _ _).mono ?_; rintro e w' ⟨rfl, rfl⟩)
      | (go_at_call 19; refine (awake_any _ HW.out).mono ?_; rintro e w' ⟨rfl, hB⟩))
    go_ret
    exact ⟨rfl, hB⟩
  have t1 : decide (2000 < t.size) = false := decide_eq_false h1
  clear h1
  have TA : Hid True := Lib.hid trivial
  have TB : Hid True := Lib.hid trivial
  have HTL : Hid (t.data.toList.length = t.size) := Lib.hid (by simp)
  rcases ww_cases wi n with hA | hA
  · have HA := Lib.hid (numbers_fst hA)
    clear hA
    rcases nn_cases t.data.toList with ⟨k, hk, hl, hb, hE, hN⟩ | hE
    · have HE := Lib.hid (And.intro hE hN)
      have hww := ww_back hk hl hb
      rw [HTL.out] at hww
      have HBK := Lib.hid hww
      clear hE hN hl hb hk hww
      go_enter Tryd.func13, Tryd.ntmps13
      go_wp2_with (first
        | (go_at_call 18; refine (lawLong_any t _).mono ?_; rintro e w' ⟨rfl, rfl⟩)
        | (go_at_call 29; clear TA; refine (waveWord_any wi n _ HW.out).mono ?_; rintro e w1 ⟨q, E, rfl, hB1, hF1⟩; obtain rfl := hF1.out.2.trans HA.out.1; obtain ⟨hq1, hq2, hq3, hq4⟩ := HA.out.2 q hF1.out.1; have HQ3 := Lib.hid hq3; have HQ4 := Lib.hid hq4; have u1 : ((q.size : Int) != wi) = false := (by rw [hq1]; simp); clear hF1 hq1 hq3 hq4)
        | (go_at_call 31; clear TB; refine (waveNumber_any q _ (HW.out.below hB1) (by unfold maxLen; omega)).mono ?_; rintro e w2 ⟨m, E2, rfl, hB2, hF2⟩; obtain rfl := hF2.out.2.trans HQ3.out; obtain rfl := hF2.out.1.trans HQ4.out; have hW2 := below_step hB1 hB2; clear hF2 HQ3 HQ4)
        | (go_at_call 31; refine (waveNumber_any t _ (HW.out.below hW2) ht).mono ?_; rintro e w3 ⟨m3, E3, rfl, hB3, hF3⟩; obtain rfl := hF3.out.2.trans HE.out.1; have HM := Lib.hid (hF3.out.1.trans HE.out.2); have hW3 := below_step hW2 hB3; clear hF3)
        | (go_at_call 29; refine (waveWord_any t.size m3 _ (HW.out.below hW3)).mono ?_; rintro e w4 ⟨q4, E4, rfl, hB4, hF4⟩; obtain rfl : E4 = 0 := hF4.out.2.trans (by rw [HM.out]; exact HBK.out.1); obtain rfl : q4 = t := (hF4.out.1.trans (by rw [HM.out, HBK.out.2])); have hW4 := below_step hW3 hB4; clear hF4)
        | (go_at_call 19; refine (awake_any _ (HW.out.below hW4)).mono ?_; rintro e w8 ⟨rfl, hB8⟩))
      go_ret
      exact ⟨rfl, below_step hW4 hB8⟩
    · have HE := Lib.hid hE
      clear hE
      go_enter Tryd.func13, Tryd.ntmps13
      go_wp2_with (first
        | (go_at_call 18; refine (lawLong_any t _).mono ?_; rintro e w' ⟨rfl, rfl⟩)
        | (go_at_call 29; clear TA; refine (waveWord_any wi n _ HW.out).mono ?_; rintro e w1 ⟨q, E, rfl, hB1, hF1⟩; obtain rfl := hF1.out.2.trans HA.out.1; obtain ⟨hq1, hq2, hq3, hq4⟩ := HA.out.2 q hF1.out.1; have HQ3 := Lib.hid hq3; have HQ4 := Lib.hid hq4; have u1 : ((q.size : Int) != wi) = false := (by rw [hq1]; simp); clear hF1 hq1 hq3 hq4)
        | (go_at_call 31; clear TB; refine (waveNumber_any q _ (HW.out.below hB1) (by unfold maxLen; omega)).mono ?_; rintro e w2 ⟨m, E2, rfl, hB2, hF2⟩; obtain rfl := hF2.out.2.trans HQ3.out; obtain rfl := hF2.out.1.trans HQ4.out; have hW2 := below_step hB1 hB2; clear hF2 HQ3 HQ4)
        | (go_at_call 31; refine (waveNumber_any t _ (HW.out.below hW2) ht).mono ?_; rintro e w3 ⟨m3, E3, rfl, hB3, hF3⟩; obtain rfl := hF3.out.2.trans HE.out.1; obtain rfl := hF3.out.1.trans HE.out.2; have hW3 := below_step hW2 hB3; clear hF3)
        | (go_at_call 19; refine (awake_any _ (HW.out.below hW3)).mono ?_; rintro e w8 ⟨rfl, hB8⟩))
      go_ret
      exact ⟨rfl, below_step hW3 hB8⟩
  · have HA := Lib.hid hA
    clear hA
    rcases nn_cases t.data.toList with ⟨k, hk, hl, hb, hE, hN⟩ | hE
    · have HE := Lib.hid (And.intro hE hN)
      have hww := ww_back hk hl hb
      rw [HTL.out] at hww
      have HBK := Lib.hid hww
      clear hE hN hl hb hk hww
      go_enter Tryd.func13, Tryd.ntmps13
      go_wp2_with (first
        | (go_at_call 18; refine (lawLong_any t _).mono ?_; rintro e w' ⟨rfl, rfl⟩)
        | (go_at_call 29; clear TA; refine (waveWord_any wi n _ HW.out).mono ?_; rintro e w1 ⟨q, E, rfl, hB1, hF1⟩; obtain rfl := hF1.out.2.trans HA.out.1; obtain rfl : q = ⟨#[]⟩ := (hF1.out.1.trans (by rw [HA.out.2])); clear hF1)
        | (go_at_call 31; refine (waveNumber_any t _ (HW.out.below hB1) ht).mono ?_; rintro e w3 ⟨m3, E3, rfl, hB3, hF3⟩; obtain rfl := hF3.out.2.trans HE.out.1; have HM := Lib.hid (hF3.out.1.trans HE.out.2); have hW3 := below_step hB1 hB3; clear hF3)
        | (go_at_call 29; refine (waveWord_any t.size m3 _ (HW.out.below hW3)).mono ?_; rintro e w4 ⟨q4, E4, rfl, hB4, hF4⟩; obtain rfl : E4 = 0 := hF4.out.2.trans (by rw [HM.out]; exact HBK.out.1); obtain rfl : q4 = t := (hF4.out.1.trans (by rw [HM.out, HBK.out.2])); have hW4 := below_step hW3 hB4; clear hF4)
        | (go_at_call 19; refine (awake_any _ (HW.out.below hW4)).mono ?_; rintro e w8 ⟨rfl, hB8⟩))
      go_ret
      exact ⟨rfl, below_step hW4 hB8⟩
    · have HE := Lib.hid hE
      clear hE
      go_enter Tryd.func13, Tryd.ntmps13
      go_wp2_with (first
        | (go_at_call 18; refine (lawLong_any t _).mono ?_; rintro e w' ⟨rfl, rfl⟩)
        | (go_at_call 29; clear TA; refine (waveWord_any wi n _ HW.out).mono ?_; rintro e w1 ⟨q, E, rfl, hB1, hF1⟩; obtain rfl := hF1.out.2.trans HA.out.1; obtain rfl : q = ⟨#[]⟩ := (hF1.out.1.trans (by rw [HA.out.2])); clear hF1)
        | (go_at_call 31; refine (waveNumber_any t _ (HW.out.below hB1) ht).mono ?_; rintro e w3 ⟨m3, E3, rfl, hB3, hF3⟩; obtain rfl := hF3.out.2.trans HE.out.1; obtain rfl := hF3.out.1.trans HE.out.2; have hW3 := below_step hB1 hB3; clear hF3)
        | (go_at_call 19; refine (awake_any _ (HW.out.below hW3)).mono ?_; rintro e w8 ⟨rfl, hB8⟩))
      go_ret
      exact ⟨rfl, below_step hW3 hB8⟩
end Go.Proofs.YtcmnjmhedmneiaaDoor
