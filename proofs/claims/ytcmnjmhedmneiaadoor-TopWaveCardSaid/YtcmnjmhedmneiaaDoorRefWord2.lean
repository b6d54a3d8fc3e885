/-
  Contracts: word, Word (firnref03).
-/
import Derived.Test.YtcmnjmhedmneiaaDoorRefWord
namespace Go.Proofs.YtcmnjmhedmneiaaDoor
open Go.RowKit Go.Shelf

theorem bt_snoc {q : ByteArray} {l : List UInt8} (b : UInt8) (h : q = ⟨l.toArray⟩) : q ++ (⟨#[b]⟩ : ByteArray) = ⟨(l ++ [b]).toArray⟩ := by
  rw [h]; exact sv_append l [b]
theorem size_snoc (q : ByteArray) (b : UInt8) : (q ++ (⟨#[b]⟩ : ByteArray)).size = q.size + 1 := by
  rw [ByteArray.size_append]; rfl
/-- What is left behind the bits above j. -/
def LeftAt (W : Nat) (n : Int) (j : Nat) (l : Int) : Prop := (j = W ∧ l = n) ∨ (j < W ∧ l = n % 2 ^ j)
theorem mod_bd {n l : Int} : ∀ j, j < 11 → l = n % 2 ^ j → 0 ≤ l ∧ l ≤ 1023 := by
  intro j h1 h3
  rcases (show j = 0 ∨ j = 1 ∨ j = 2 ∨ j = 3 ∨ j = 4 ∨ j = 5 ∨ j = 6 ∨ j = 7 ∨ j = 8 ∨ j = 9 ∨ j = 10 by omega) with rfl | rfl | rfl | rfl | rfl | rfl | rfl | rfl | rfl | rfl | rfl
  all_goals
    simp at h3
    omega
set_option maxRecDepth 100000 in
set_option maxHeartbeats 2000000 in
theorem refword_any (W : Nat) (n : Int) (w : World) (h1 : 1 ≤ W) (h2 : W ≤ 11) (h3 : inwB W n = true) :
    Calls Tryd.prog 69 #[.int .i64 W, .int .i64 n] w fun e w' => ∃ q : ByteArray, e = .returned (.string q) ∧ q.size ≤ 11 ∧ w = w' ∧ Hid (q = ⟨(wordL W n).toArray⟩) := by
  simp only [inwB, decide_eq_true_eq] at h3
  have HI := Lib.hid h3
  have hbW := half_bd W (by omega)
  have hnb : -1024 ≤ n ∧ n ≤ 1023 := by omega
  obtain ⟨hn0, hn1⟩ := hnb
  clear h3 hbW
  go_enter Tryd.func69, Tryd.ntmps69
  go_wp2
  go_loop [5, 6, 7, 8, 9] (fun v a i _ _ => ∃ j : Nat, j ≤ W ∧ i = .int .i64 j ∧ ∃ (q : ByteArray) (l : Int), v = .string q ∧ q.size ≤ 11 ∧ a = .int .i64 l ∧ (-1024 ≤ l ∧ l ≤ 1023) ∧ Hid (q = ⟨((wordL W n).take (W - j)).toArray⟩ ∧ LeftAt W n j l)) (fun _ _ i _ _ => (intOf i).toNat)
  case atStart => exact ⟨W, Nat.le_refl _, rfl, ⟨#[]⟩, n, rfl, by show 0 ≤ 11; omega, rfl, by omega, Lib.hid ⟨by rw [Nat.sub_self]; rfl, .inl ⟨rfl, rfl⟩⟩⟩
  case round =>
    obtain ⟨j, hj, rfl, q, l, rfl, hq, rfl, hl, hX⟩ := hrel
    obtain ⟨hl0, hl1⟩ := hl
    by_cases hlt : 1 ≤ j
    · have hcall := refhalf_any j hlt (by omega) w
      have hbd := half_bd j (by omega)
      have HWA := Lib.hid (word_at (n := n) hlt hj)
      have hqs : q.size ≤ 10 := by
        rw [hX.out.1, sv_size, List.length_take, word_len]; omega
      have e1 : IntKind.i64.wrap ((j : Int) - 1) = ((j - 1 : Nat) : Int) := by rw [IntWalk.i64_in _ (by omega)]; omega
      have e2 : IntKind.i64.wrap ((j : Int) - 1) = (j : Int) - 1 := IntWalk.i64_in _ (by omega)
      by_cases hjW : j = W
      · subst hjW
        have hle : l = n := by rcases hX.out.2 with h | h <;> omega
        subst hle
        have hst := wstep_hi (n := l) j h1 h2 HI.out.1 HI.out.2
        generalize hh : halfN j = h at hcall hbd hst
        have hbd0 := hbd.1
        have hbd1 := hbd.2
        have HH := Lib.hid hh
        clear hh hbd
        by_cases hneg : l < 0
        · have u1 : decide (l < 0) = true := decide_eq_true hneg
          have HS := Lib.hid (hst.1 hneg)
          have hm := mod_bd (n := l) (j - 1) (by omega) HS.out.2
          obtain ⟨hm0, hm1⟩ := hm
          clear hst
          go_wp2_with (go_at_call 68; refine hcall.mono ?_; rintro e w1 ⟨rfl, rfl⟩)
          go_round
          case rel => exact ⟨j - 1, by omega, by go_num, _, l + h, rfl, by rw [size_snoc]; omega, by go_num, by omega, Lib.hid ⟨by rw [HWA.out, HS.out.1]; exact bt_snoc 49 hX.out.1, .inr ⟨by omega, HS.out.2⟩⟩⟩
          case measure => simp [intOf]; omega
        · have u1 : decide (l < 0) = false := decide_eq_false hneg
          have HS := Lib.hid (hst.2 hneg)
          clear hst
          go_wp2_with (go_at_call 68; refine hcall.mono ?_; rintro e w1 ⟨rfl, rfl⟩)
          go_round
          case rel => exact ⟨j - 1, by omega, by go_num, _, l, rfl, by rw [size_snoc]; omega, by go_num, by omega, Lib.hid ⟨by rw [HWA.out, HS.out.1]; exact bt_snoc 48 hX.out.1, .inr ⟨by omega, HS.out.2⟩⟩⟩
          case measure => simp [intOf]; omega
      · have u0 : ((j : Int) == (W : Int)) = false := beq_eq_false_iff_ne.2 (by omega)
        have HL : Hid (l = n % 2 ^ j) := Lib.hid (by rcases hX.out.2 with h | h <;> omega)
        have hst := wstep_lo (n := n) j hlt (by omega) HL.out
        generalize hh : halfN j = h at hcall hbd hst
        have hbd0 := hbd.1
        have hbd1 := hbd.2
        have HH := Lib.hid hh
        have hm := mod_bd (n := n) j (by omega) HL.out
        obtain ⟨hm0, hm1⟩ := hm
        clear hh hbd
        by_cases hge : h ≤ l
        · have u1 : decide (h ≤ l) = true := decide_eq_true hge
          have HS := Lib.hid (hst.1 hge)
          clear hst
          go_wp2_with (go_at_call 68; refine hcall.mono ?_; rintro e w1 ⟨rfl, rfl⟩)
          go_round
          case rel => exact ⟨j - 1, by omega, by go_num, _, l - h, rfl, by rw [size_snoc]; omega, by go_num, by omega, Lib.hid ⟨by rw [HWA.out, HS.out.1]; exact bt_snoc 49 hX.out.1, .inr ⟨by omega, HS.out.2⟩⟩⟩
          case measure => simp [intOf]; omega
        · have u1 : decide (h ≤ l) = false := decide_eq_false hge
          have HS := Lib.hid (hst.2 hge)
          clear hst
          go_wp2_with (go_at_call 68; refine hcall.mono ?_; rintro e w1 ⟨rfl, rfl⟩)
          go_round
          case rel => exact ⟨j - 1, by omega, by go_num, _, l, rfl, by rw [size_snoc]; omega, by go_num, by omega, Lib.hid ⟨by rw [HWA.out, HS.out.1]; exact bt_snoc 48 hX.out.1, .inr ⟨by omega, HS.out.2⟩⟩⟩
          case measure => simp [intOf]; omega
    · obtain rfl : j = 0 := by omega
      go_wp2
      go_ret
      exact ⟨q, rfl, hq, rfl, Lib.hid (by have := hX.out.1; rwa [Nat.sub_zero, List.take_of_length_le (by rw [word_len]; exact Nat.le_refl _)] at this)⟩

theorem inw_half {k : Nat} {n : Int} : inwB (wdN k) n = decide (-halfN (wdN k) ≤ n ∧ n < halfN (wdN k)) := rfl
set_option maxRecDepth 100000 in
set_option maxHeartbeats 1000000 in
theorem refWord_any (wi n : Int) (w : World) :
    Calls Tryd.prog 30 #[.int .i64 wi, .int .i64 n] w fun e w' => TextRes (wwE wi n) (wwL wi n) e w w' := by
  cases ho : ksF wi with
  | none =>
    have HO := Lib.hid ho
    clear ho
    go_enter Tryd.func30, Tryd.ntmps30
    go_wp2_with (go_at_call 67; refine (refkind_any wi _).mono ?_; rintro e w1 ⟨rfl, rfl⟩; rw [HO.out, st_none])
    go_ret2
    exact ⟨⟨#[]⟩, 2, rfl, Below.refl _ _, by rw [(ww_none HO.out).2], (ww_none HO.out).1.symm⟩
  | some k =>
    obtain ⟨hk, rfl⟩ := ks_some ho
    have HO := Lib.hid ho
    have hw := wd_bd k
    have hcall := refhalf_any (wdN k) hw.1 hw.2
    have hkind := refkind_any (wdN k)
    have hword := refword_any (wdN k) n
    have hb := half_bd (wdN k) (by omega)
    have hin := inw_half (k := k) (n := n)
    rw [ho] at hkind
    have HNO := Lib.hid (fun h => ww_out (wi := (wdN k : Int)) (n := n) (k := k) ho h)
    have HOK := Lib.hid (fun h => ww_ok (wi := (wdN k : Int)) (n := n) (k := k) ho h)
    generalize hh : halfN (wdN k) = h at hcall hb hin
    obtain ⟨hb0, hb1⟩ := hb
    have HIN := Lib.hid hin
    clear hh hin ho HO
    generalize hd : inwB (wdN k) n = B at HIN HNO HOK hword
    have HB := Lib.hid hd
    clear hd
    generalize wdN k = d at hw hcall hkind hword HNO HOK HB ⊢
    have HW := Lib.hid hw
    have HWD := Lib.hid hword
    clear hw hword
    by_cases h1 : n < -h
    · have u1 : decide (n < -h) = true := decide_eq_true h1
      have e1 : B = false := HIN.out.trans (decide_eq_false (by omega))
      go_enter Tryd.func30, Tryd.ntmps30
      go_wp2_with (first
        | (go_at_call 67; refine (hkind _).mono ?_; rintro e w1 ⟨rfl, rfl⟩; rw [st_some])
        | (go_at_call 68; refine (hcall _).mono ?_; rintro e w1 ⟨rfl, rfl⟩))
      go_ret2
      exact ⟨⟨#[]⟩, 2, rfl, Below.refl _ _, by rw [(HNO.out e1).2], (HNO.out e1).1.symm⟩
    · have u1 : decide (n < -h) = false := decide_eq_false h1
      by_cases h2 : h ≤ n
      · have u2 : decide (h ≤ n) = true := decide_eq_true h2
        have e1 : B = false := HIN.out.trans (decide_eq_false (by omega))
        go_enter Tryd.func30, Tryd.ntmps30
        go_wp2_with (first
          | (go_at_call 67; refine (hkind _).mono ?_; rintro e w1 ⟨rfl, rfl⟩; rw [st_some])
          | (go_at_call 68; refine (hcall _).mono ?_; rintro e w1 ⟨rfl, rfl⟩))
        go_ret2
        exact ⟨⟨#[]⟩, 2, rfl, Below.refl _ _, by rw [(HNO.out e1).2], (HNO.out e1).1.symm⟩
      · have u2 : decide (h ≤ n) = false := decide_eq_false h2
        have e1 : B = true := HIN.out.trans (decide_eq_true (by omega))
        have E1 := Lib.hid e1
        clear e1
        go_enter Tryd.func30, Tryd.ntmps30
        go_wp2_with (first
          | (go_at_call 67; refine (hkind _).mono ?_; rintro e w1 ⟨rfl, rfl⟩; rw [st_some])
          | (go_at_call 68; refine (hcall _).mono ?_; rintro e w1 ⟨rfl, rfl⟩)
          | (go_at_call 69; refine (HWD.out _ HW.out.1 HW.out.2 E1.out).mono ?_; rintro e w1 ⟨q, rfl, hq, rfl, hQ⟩))
        go_ret2
        exact ⟨q, 0, rfl, Below.refl _ _, by rw [(HOK.out E1.out).2]; exact hQ.out, (HOK.out E1.out).1.symm⟩
end Go.Proofs.YtcmnjmhedmneiaaDoor
