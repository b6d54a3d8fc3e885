/-
  The walk of ConeTimes: it returns true, whatever it is given.
-/
import Derived.Test.YticokhiehejljaaLawTriggers
namespace Go.Proofs.Yticokhiehejljaa
open Go.RowKit Go.Shelf

set_option maxRecDepth 100000 in
set_option maxHeartbeats 800000 in
theorem lawCount_is (ms : List (Int × Int)) (A : Option Addr) (c : Nat) (t v z : Int) (w : World) (h : Marks w A ms) (hv : vhB ms = true) (ht : -1000 ≤ t ∧ t ≤ 1000) (hw : 0 ≤ v ∧ v ≤ 2000) (hz : cntI ms t v = z) :
    Calls Try.prog 56 #[.slice A ms.length c, .int .i64 t, .int .i64 v] w fun e w' => e = .returned (.int .i64 z) ∧ w = w' := by
  obtain ⟨hn1, hn2⟩ := vh_parts hv
  have HV := Lib.hid hv
  obtain ⟨bl, off, rfl, hbk, hcells⟩ := h.open_ (by omega)
  have HC := Lib.hid hcells
  obtain ⟨t0, t1⟩ := ht
  obtain ⟨v0, v1⟩ := hw
  have HZ := Lib.hid hz
  clear hcells hv h hz
  go_enter Try.func56, Try.ntmps56
  go_wp2
  go_loop [7, 8] (fun x i => ∃ (k : Nat) (y : Int), k ≤ ms.length ∧ i = .int .i64 k ∧ x = .int .i64 y ∧ 0 ≤ y ∧ y ≤ k ∧ Hid (y = cntI (ms.take k) t v)) (fun _ i => ms.length - (intOf i).toNat)
  case atStart => exact ⟨0, 0, Nat.zero_le _, rfl, rfl, by omega, by omega, (cnt_zero ms t v).symm⟩
  case round =>
    obtain ⟨k, y, hk, rfl, rfl, y0, y1, hy⟩ := hrel
    by_cases hlt : k < ms.length
    · obtain ⟨a, b, hx⟩ := getM_of_lt hlt
      have f1 := (HC.out _ _ hx).2
      have HX := Lib.hid hx
      clear hx
      by_cases h1 : t ≤ b
      · by_cases h2 : b ≤ t + v
        · have HN := Lib.hid (cnt_yes (t := t) (w := v) HX.out (by simp [inW, h1, h2]))
          go_wp2
          go_round
          case rel => exact ⟨k + 1, y + 1, by omega, by go_num, rfl, by omega, by omega, (by rw [HN.out, hy.out] : y + 1 = _)⟩
          case measure => simp [intOf]; omega
        · have HN := Lib.hid (cnt_no (t := t) (w := v) HX.out (by simp [inW, h2]))
          go_wp2
          go_round
          case rel => exact ⟨k + 1, y, by omega, by go_num, rfl, by omega, by omega, (by rw [HN.out, hy.out] : y = _)⟩
          case measure => simp [intOf]; omega
      · have HN := Lib.hid (cnt_no (t := t) (w := v) HX.out (by simp [inW, h1]))
        go_wp2
        go_round
        case rel => exact ⟨k + 1, y, by omega, by go_num, rfl, by omega, by omega, (by rw [HN.out, hy.out] : y = _)⟩
        case measure => simp [intOf]; omega
    · obtain rfl : k = ms.length := by omega
      go_wp2
      go_ret
      exact ⟨ret_int (by rw [← HZ.out, hy.out, List.take_length]), rfl⟩

theorem most_ok (ms : List (Int × Int)) (A : Option Addr) (c : Nat) (v : Int) (w : World) (h : Clk w A c ms) (hv : vhB ms = true) (ho : okW v = true) :
    Calls Try.prog 45 #[.slice A ms.length c, .int .i64 v] w fun e w' => ∃ M t : Int, e = .returned (.tuple #[.int .i64 M, .int .i64 t, .int .i64 0]) ∧ Below w.heap.size w w' ∧ Hid (MInv ms v (allL ms.length) M t) :=
  (most_any ms A c v w h).mono fun e w' ⟨M, t, E, he, hB, hM⟩ => by
    have h2 := hM.out
    unfold MostR at h2
    rw [hv, ho] at h2
    simp only [if_true] at h2
    exact ⟨M, t, by rw [he, h2.1], hB, h2.2⟩
theorem trig_yes (ms : List (Int × Int)) (A : Option Addr) (c : Nat) (n v : Int) (w : World) (h : Clk w A c ms) (hv : vhB ms = true) (ho : okW v = true) (hn : okN n = true) (hex : ∃ a ∈ allL ms.length, n ≤ cntI ms (timeI ms a) v) :
    Calls Try.prog 47 #[.slice A ms.length c, .int .i64 n, .int .i64 v] w fun e w' => ∃ t : Int, e = .returned (.tuple #[.int .i64 t, .int .i64 0]) ∧ Below w.heap.size w w' ∧ Hid ((∃ a ∈ allL ms.length, timeI ms a = t ∧ n ≤ cntI ms t v) ∧ ∀ b ∈ allL ms.length, n ≤ cntI ms (timeI ms b) v → t ≤ timeI ms b) :=
  (trigger_any ms A c n v w h).mono fun e w' ⟨t, E, he, hB, hT⟩ => by
    have h2 := hT.out
    unfold TrigR at h2
    rw [hv, ho, hn] at h2
    simp only [Bool.and_self, if_true] at h2
    rcases h2 with ⟨rfl, h3⟩ | ⟨_, _, h3⟩
    · exact ⟨t, he, hB, h3⟩
    · obtain ⟨a, ha, h4⟩ := hex
      have := h3 a ha; omega
theorem trig_no (ms : List (Int × Int)) (A : Option Addr) (c : Nat) (n v : Int) (w : World) (h : Clk w A c ms) (hv : vhB ms = true) (ho : okW v = true) (hn : okN n = true) (hex : ¬ ∃ a ∈ allL ms.length, n ≤ cntI ms (timeI ms a) v) :
    Calls Try.prog 47 #[.slice A ms.length c, .int .i64 n, .int .i64 v] w fun e w' => e = .returned (.tuple #[.int .i64 0, .int .i64 5]) ∧ Below w.heap.size w w' :=
  (trigger_any ms A c n v w h).mono fun e w' ⟨t, E, he, hB, hT⟩ => by
    have h2 := hT.out
    unfold TrigR at h2
    rw [hv, ho, hn] at h2
    simp only [Bool.and_self, if_true] at h2
    rcases h2 with ⟨_, ⟨a, ha, e1, h4⟩, _⟩ | ⟨rfl, rfl, h3⟩
    · exact absurd ⟨a, ha, by rw [e1]; exact h4⟩ hex
    · exact ⟨he, hB⟩
theorem u16_bd {a : Int} (h : (Lit.int .u16 a).wf = true) : 0 ≤ a ∧ a ≤ 65535 := by
  have h2 : (decide (0 ≤ a) && decide (a ≤ 65535)) = true := h
  simpa using h2
theorem u8_bd' {a : Int} (h : (Lit.int .u8 a).wf = true) : 0 ≤ a ∧ a ≤ 255 := by
  have h2 : (decide (0 ≤ a) && decide (a ≤ 255)) = true := h
  simpa using h2
/-- What the most is worth, for the law: its time is a hit's. -/
theorem minv_law {ms : List (Int × Int)} {v M t : Int} (hv : vhB ms = true) (hw : 0 ≤ v) (h : MInv ms v (allL ms.length) M t) :
    1 ≤ M ∧ M ≤ ms.length ∧ (-1000 ≤ t ∧ t ≤ 1000) ∧ cntI ms t v = M ∧ ∀ b ∈ allL ms.length, cntI ms (timeI ms b) v < M ∨ cntI ms (timeI ms b) v = M ∧ t ≤ timeI ms b := by
  obtain ⟨a, ha, h1, h2⟩ := h.2.1 (allL_ne hv)
  have hb := time_bd hv (allL_has ha)
  have hp := time_pos (allL_has ha) hw
  have hc := (cnt_bd ms (timeI ms a) v).2
  rw [h2] at h1 hb hp hc
  exact ⟨by omega, by omega, hb, h1, h.2.2⟩
theorem minv_ge {ms : List (Int × Int)} {v M t v' M' t' : Int} (hv : vhB ms = true) (h : MInv ms v (allL ms.length) M t) (h' : MInv ms v' (allL ms.length) M' t') (hl : v ≤ v') : M ≤ M' := by
  obtain ⟨a, ha, h1, h2⟩ := h.2.1 (allL_ne hv)
  have := h'.2.2 a ha
  have := cnt_more ms (timeI ms a) hl
  omega

set_option maxRecDepth 100000 in
set_option maxHeartbeats 4000000 in
theorem coneTimes_walk (ms : List (Int × Int)) (A : Option Addr) (c : Nat) (n x0 x1 : Int) (w : World) (hA : Marks w A ms) (hc : ms.length ≤ c) (hc0 : c ≤ maxLen) (hn : (Lit.int .u8 n).wf = true) (hx0 : (Lit.int .u16 x0).wf = true) (hx1 : (Lit.int .u16 x1).wf = true) :
    Calls Try.prog 13 #[.slice A ms.length c, .int .u8 n, .agg #[.int .u16 x0, .int .u16 x1]] w fun e w' => e = .returned (.bool true) ∧ Below w.heap.size w w' := by
  have H : Hid (Clk w A c ms) := ⟨hA, hc, hc0⟩
  obtain ⟨d0, d1⟩ := u8_bd' hn
  obtain ⟨d2, d3⟩ := u16_bd hx0
  obtain ⟨d4, d5⟩ := u16_bd hx1
  clear hA hc hc0 hn hx0 hx1
  by_cases hm : 40 < ms.length
  · have hm1 : decide (40 < ms.length) = true := decide_eq_true hm
    go_enter Try.func13, Try.ntmps13
    go_wp2_with (first
      | (go_at_call 15; refine (lawLong_any _ _ _ _).mono ?_; rintro e w' ⟨rfl, rfl⟩)
      | (go_at_call 16; refine (sane_any _).mono ?_; rintro e w' ⟨rfl, hW⟩))
    go_ret
    exact ⟨rfl, Below.trans (by repeat (first | with_reducible exact Below.refl _ _ | with_reducible assumption | refine below_drewN ?_ _ | with_reducible refine Below.drew ?_ | (refine Below.setCell ?_ (by first | (simp; done) | (simp; omega) | omega) _) | (refine Below.alloc ?_ (by first | (simp; done) | (simp; omega) | omega) _))) (hW.mono (by first | (simp; done) | (simp; omega) | omega))⟩
  have hm1 : decide (40 < ms.length) = false := decide_eq_false hm
  cases hv : vhB ms with
  | false =>
    have HV := Lib.hid hv
    clear hv
    go_enter Try.func13, Try.ntmps13
    go_wp2_with (first
      | (go_at_call 15; refine (lawLong_any _ _ _ _).mono ?_; rintro e w' ⟨rfl, rfl⟩)
      | (go_at_call 22; refine (refValid_any ms A c _ (H.out.below (by repeat (first | with_reducible exact Below.refl _ _ | with_reducible assumption | refine below_drewN ?_ _ | with_reducible refine Below.drew ?_ | (refine Below.setCell ?_ (by first | (simp; done) | (simp; omega) | omega) _) | (refine Below.alloc ?_ (by first | (simp; done) | (simp; omega) | omega) _)))).marks H.out.len).mono ?_; rintro e w6 ⟨he, n6, rfl⟩; rw [HV.out] at he; subst he)
      | (go_at_call 16; refine (sane_any _).mono ?_; rintro e w9 ⟨rfl, hB9⟩))
    go_ret
    exact ⟨rfl, Below.trans (by repeat (first | with_reducible exact Below.refl _ _ | with_reducible assumption | refine below_drewN ?_ _ | with_reducible refine Below.drew ?_ | (refine Below.setCell ?_ (by first | (simp; done) | (simp; omega) | omega) _) | (refine Below.alloc ?_ (by first | (simp; done) | (simp; omega) | omega) _))) (hB9.mono (by first | (simp; done) | (simp; omega) | omega))⟩
  | true =>
    obtain ⟨hn1, hn2⟩ := vh_parts hv
    have HV := Lib.hid hv
    clear hv
    obtain ⟨bl, off, rfl, hbk, hcells⟩ := H.out.marks.open_ (by omega)
    have HC := Lib.hid hcells
    clear hcells
    obtain ⟨q, eq⟩ : ∃ q, n % 14 = q := ⟨_, rfl⟩
    obtain ⟨b, eb⟩ : ∃ b, x0 % 2001 = b := ⟨_, rfl⟩
    obtain ⟨r, er⟩ : ∃ r, x1 % (2001 - b) = r := ⟨_, rfl⟩
    have q0 : 0 ≤ q ∧ q ≤ 13 := by omega
    have b0 : 0 ≤ b := by omega
    have b1 : b ≤ 2000 := by omega
    have r0 : 0 ≤ r := by rw [← er]; exact Int.emod_nonneg _ (by omega)
    have r1 : r < 2001 - b := by rw [← er]; exact Int.emod_lt_of_pos _ (by omega)
    obtain ⟨q0, q1⟩ := q0
    have OB : Hid (okW b = true) := by show _ = _; simp [okW]; omega
    have OR : Hid (okW (b + r) = true) := by show _ = _; simp [okW]; omega
    have OQ : Hid (okN (1 + q) = true) := by show _ = _; simp [okN]; omega
    have T1 : Hid True := Lib.hid trivial
    have T2 : Hid True := Lib.hid trivial
    go_enter Try.func13, Try.ntmps13
    go_wp2_with (first
      | (go_at_call 15; refine (lawLong_any _ _ _ _).mono ?_; rintro e w' ⟨rfl, rfl⟩)
      | (go_at_call 22; refine (refValid_any ms _ c _ (H.out.below (by repeat (first | with_reducible exact Below.refl _ _ | with_reducible assumption | refine below_drewN ?_ _ | with_reducible refine Below.drew ?_ | (refine Below.setCell ?_ (by first | (simp; done) | (simp; omega) | omega) _) | (refine Below.alloc ?_ (by first | (simp; done) | (simp; omega) | omega) _)))).marks H.out.len).mono ?_; rintro e w6 ⟨he, n6, rfl⟩; rw [HV.out] at he; subst he))
    have hB0 : Below w.heap.size w ((w.alloc (.cells #[.int .u16 x0, .int .u16 x1] 60)).drewN n6) := (by repeat (first | with_reducible exact Below.refl _ _ | with_reducible assumption | refine below_drewN ?_ _ | with_reducible refine Below.drew ?_ | (refine Below.setCell ?_ (by first | (simp; done) | (simp; omega) | omega) _) | (refine Below.alloc ?_ (by first | (simp; done) | (simp; omega) | omega) _)))
    have c1 : ((w.alloc (.cells #[.int .u16 x0, .int .u16 x1] 60)).drewN n6).cell? ⟨w.heap.size, 1, none⟩ = some (.int .u16 x1) := by simp
    have hz0 : w.heap.size < ((w.alloc (.cells #[.int .u16 x0, .int .u16 x1] 60)).drewN n6).heap.size := (by first | (simp; done) | (simp; omega) | omega)
    generalize (w.alloc (.cells #[.int .u16 x0, .int .u16 x1] 60)).drewN n6 = W0 at hB0 c1 hz0 ⊢
    simp only [eb, eq]
    clear eb eq d0 d1 d2 d3
    by_cases hex : ∃ a ∈ allL ms.length, 1 + q ≤ cntI ms (timeI ms a) b
    · have HEX := Lib.hid hex
      clear hex
      go_wp2_with (first
          | (go_at_call 45; clear T1; refine (most_ok ms _ c b _ (H.out.below hB0) HV.out OB.out).mono ?_; rintro e w1 ⟨M, at_, rfl, hB, hM⟩; have hB1 := below_step hB0 hB; obtain ⟨aa, haa, ea1, ea2⟩ := hM.out.2.1 (allL_ne HV.out); obtain ⟨m1, m2, ⟨m3, m4⟩, m5, m6⟩ := minv_law HV.out b0 hM.out; have hM2 := Lib.hid m6; have HM5 := Lib.hid m5; have c1 := (hB.cell (p := ⟨w.heap.size, 1, none⟩) hz0).trans c1; have hz01 := hB.size; clear m5 m6 hB)
          | (go_at_call 47; refine (trig_yes ms _ c (1 + q) b _ (H.out.below hB1) HV.out OB.out OQ.out HEX.out).mono ?_; rintro e w2 ⟨tm, rfl, hB2, hT⟩; have hW2 := below_step hB1 hB2; obtain ⟨⟨bb, hbb, e1, e2⟩, hle⟩ := hT.out; have hM3 : 1 + q ≤ M := (by have h9 := hM2.out bb hbb; rw [e1] at h9; omega); have tb : -1000 ≤ tm ∧ tm ≤ 1000 := (by rw [← e1]; exact time_bd HV.out (allL_has hbb)); have hta : tm ≤ at_ := (by have h9 := hle aa haa; rw [ea1, ea2] at h9; exact h9 hM3); obtain ⟨C, hC⟩ : ∃ C, cntI ms tm b = C := ⟨_, rfl⟩; have hC2 : 1 + q ≤ C := (by rw [← hC]; exact e2); have HC2 := Lib.hid hC; have HLE := Lib.hid hle; obtain ⟨tb0, tb1⟩ := tb; clear hT hbb e1 e2 hle hC)
          | (go_at_call 56; clear T2; refine (lawCount_is ms _ c at_ b M _ (H.out.below hW2).marks HV.out ⟨m3, m4⟩ ⟨b0, b1⟩ HM5.out).mono ?_; rintro e w' ⟨rfl, rfl⟩)
          | (go_at_call 56; refine (lawCount_is ms _ c tm b C _ (H.out.below hW2).marks HV.out ⟨tb0, tb1⟩ ⟨b0, b1⟩ HC2.out).mono ?_; rintro e w' ⟨rfl, rfl⟩))
      have c1 := (hB2.cell (p := ⟨w.heap.size, 1, none⟩) (Nat.lt_of_lt_of_le hz0 hz01)).trans c1
      clear hB2 ea1 ea2 haa
      go_loop [14] (fun s => ∃ k : Nat, k ≤ ms.length ∧ s = .int .i64 k) (fun s => ms.length - (intOf s).toNat)
      case atStart => exact ⟨0, Nat.zero_le _, rfl⟩
      case round =>
        obtain ⟨k, hk, rfl⟩ := hrel
        by_cases hlt : k < ms.length
        · have HZ := Lib.hid (show hasB ms (k : Int) = true by simp [hasB]; omega)
          obtain ⟨i, hzi, hi, ft⟩ := has_cells HC.out HZ.out
          obtain rfl : i = k := by omega
          clear hzi
          have ft := (hW2.cell (p := ⟨bl, off + i * 2 + 1, none⟩) hbk).trans ft
          obtain ⟨T, hT⟩ : ∃ T, timeI ms (i : Int) = T := ⟨_, rfl⟩
          rw [hT] at ft
          have HT := Lib.hid hT
          obtain ⟨t0, t1⟩ := time_bd HV.out HZ.out
          rw [hT] at t0 t1
          obtain ⟨x, hx⟩ : ∃ x, cntI ms T b = x := ⟨_, rfl⟩
          have HX := Lib.hid hx
          have hx2 : x < M ∨ x = M ∧ at_ ≤ T := by have h9 := hM2.out (i : Int) (mem_allK HZ.out); rw [hT, hx] at h9; exact h9
          clear hT hx
          have hx3 : ¬ (1 + q ≤ x ∧ T < tm) := by have h9 := HLE.out (i : Int) (mem_allK HZ.out); rw [HT.out, HX.out] at h9; omega
          have arm := Lib.hid (And.intro t0 t1)
          rcases hx2 with hx2 | ⟨hx2, hx4⟩
          all_goals
            go_wp2_with (go_at_call 56; refine (lawCount_is ms _ c T b x _ (H.out.below hW2).marks HV.out ⟨t0, t1⟩ ⟨b0, b1⟩ HX.out).mono ?_; rintro e w' ⟨rfl, rfl⟩)
            all_goals
              go_round
              case rel => exact ⟨i + 1, by omega, by go_num⟩
              case measure => simp [intOf]; omega
        · obtain rfl : k = ms.length := by omega
          go_wp2_with (first
            | (go_at_call 45; refine (most_ok ms _ c (b + r) _ (H.out.below hW2) HV.out OR.out).mono ?_; rintro e w5 ⟨M5, t5, rfl, hB5, hM5⟩; have hW5 := below_step hW2 hB5; have hge : M ≤ M5 := minv_ge HV.out hM.out hM5.out (by omega))
            | (go_at_call 16; refine (sane_any _).mono ?_; rintro e w9 ⟨rfl, hB9⟩))
          go_ret
          exact ⟨rfl, below_step hW5 hB9⟩
    · have HEX := Lib.hid hex
      clear hex
      go_wp2_with (first
          | (go_at_call 45; clear T1; refine (most_ok ms _ c b _ (H.out.below hB0) HV.out OB.out).mono ?_; rintro e w1 ⟨M, at_, rfl, hB, hM⟩; have hB1 := below_step hB0 hB; obtain ⟨aa, haa, ea1, ea2⟩ := hM.out.2.1 (allL_ne HV.out); obtain ⟨m1, m2, ⟨m3, m4⟩, m5, m6⟩ := minv_law HV.out b0 hM.out; have hM2 := Lib.hid m6; have HM5 := Lib.hid m5; have c1 := (hB.cell (p := ⟨w.heap.size, 1, none⟩) hz0).trans c1; have hz01 := hB.size; clear m5 m6 hB)
          | (go_at_call 47; refine (trig_no ms _ c (1 + q) b _ (H.out.below hB1) HV.out OB.out OQ.out HEX.out).mono ?_; rintro e w2 ⟨rfl, hB2⟩; have hW2 := below_step hB1 hB2; have hM3 : M < 1 + q := (by have h9 : ¬ 1 + q ≤ cntI ms (timeI ms aa) b := fun h => HEX.out ⟨aa, haa, h⟩; rw [ea1] at h9; omega))
          | (go_at_call 56; clear T2; refine (lawCount_is ms _ c at_ b M _ (H.out.below hW2).marks HV.out ⟨m3, m4⟩ ⟨b0, b1⟩ HM5.out).mono ?_; rintro e w' ⟨rfl, rfl⟩))
      have c1 := (hB2.cell (p := ⟨w.heap.size, 1, none⟩) (Nat.lt_of_lt_of_le hz0 hz01)).trans c1
      clear hB2 ea1 ea2 haa
      go_loop [14] (fun s => ∃ k : Nat, k ≤ ms.length ∧ s = .int .i64 k) (fun s => ms.length - (intOf s).toNat)
      case atStart => exact ⟨0, Nat.zero_le _, rfl⟩
      case round =>
        obtain ⟨k, hk, rfl⟩ := hrel
        by_cases hlt : k < ms.length
        · have HZ := Lib.hid (show hasB ms (k : Int) = true by simp [hasB]; omega)
          obtain ⟨i, hzi, hi, ft⟩ := has_cells HC.out HZ.out
          obtain rfl : i = k := by omega
          clear hzi
          have ft := (hW2.cell (p := ⟨bl, off + i * 2 + 1, none⟩) hbk).trans ft
          obtain ⟨T, hT⟩ : ∃ T, timeI ms (i : Int) = T := ⟨_, rfl⟩
          rw [hT] at ft
          have HT := Lib.hid hT
          obtain ⟨t0, t1⟩ := time_bd HV.out HZ.out
          rw [hT] at t0 t1
          obtain ⟨x, hx⟩ : ∃ x, cntI ms T b = x := ⟨_, rfl⟩
          have HX := Lib.hid hx
          have hx2 : x < M ∨ x = M ∧ at_ ≤ T := by have h9 := hM2.out (i : Int) (mem_allK HZ.out); rw [hT, hx] at h9; exact h9
          clear hT hx
          have arm := Lib.hid (And.intro t0 t1)
          rcases hx2 with hx2 | ⟨hx2, hx4⟩
          all_goals
            go_wp2_with (go_at_call 56; refine (lawCount_is ms _ c T b x _ (H.out.below hW2).marks HV.out ⟨t0, t1⟩ ⟨b0, b1⟩ HX.out).mono ?_; rintro e w' ⟨rfl, rfl⟩)
            all_goals
              go_round
              case rel => exact ⟨i + 1, by omega, by go_num⟩
              case measure => simp [intOf]; omega
        · obtain rfl : k = ms.length := by omega
          go_wp2_with (first
            | (go_at_call 45; refine (most_ok ms _ c (b + r) _ (H.out.below hW2) HV.out OR.out).mono ?_; rintro e w5 ⟨M5, t5, rfl, hB5, hM5⟩; have hW5 := below_step hW2 hB5; have hge : M ≤ M5 := minv_ge HV.out hM.out hM5.out (by omega))
            | (go_at_call 16; refine (sane_any _).mono ?_; rintro e w9 ⟨rfl, hB9⟩))
          go_ret
          exact ⟨rfl, below_step hW5 hB9⟩
end Go.Proofs.Yticokhiehejljaa
