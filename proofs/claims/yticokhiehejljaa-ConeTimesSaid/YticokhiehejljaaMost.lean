/-
  Contracts: both Most.
-/
import Derived.Test.YticokhiehejljaaWithin
namespace Go.Proofs.Yticokhiehejljaa
open Go.RowKit Go.Shelf

theorem perm_has {ms : List (Int × Int)} {ys : List Int} (hp : ys.Perm (allL ms.length)) {k : Nat} {z : Int} (hz : ys[k]? = some z) : hasB ms z = true :=
  allL_has (hp.mem_iff.1 (List.mem_of_getElem? hz))
theorem has_cells {ms : List (Int × Int)} {bl off : Nat} {w : World} (hc : ∀ (k : Nat) (m : Int × Int), ms[k]? = some m → w.cell? ⟨bl, off + k * 2, none⟩ = some (.int .i64 m.1) ∧ w.cell? ⟨bl, off + k * 2 + 1, none⟩ = some (.int .i64 m.2)) {z : Int} (hz : hasB ms z = true) :
    ∃ i : Nat, z = i ∧ i < ms.length ∧ w.cell? ⟨bl, off + i * 2 + 1, none⟩ = some (.int .i64 (timeI ms z)) := by
  obtain ⟨i, rfl, hi⟩ := has_nat hz
  obtain ⟨a, b, e⟩ := getM_of_lt hi
  exact ⟨i, rfl, hi, by rw [(hc _ _ e).2, timeI, hAt_of e]⟩
theorem time_bd {ms : List (Int × Int)} (hv : vhB ms = true) {z : Int} (hz : hasB ms z = true) : -1000 ≤ timeI ms z ∧ timeI ms z ≤ 1000 := by
  obtain ⟨i, rfl, hi⟩ := has_nat hz
  obtain ⟨a, b, e⟩ := getM_of_lt hi
  rw [timeI, hAt_of e]
  exact (vh_at hv e).2
theorem time_pos {ms : List (Int × Int)} {w z : Int} (hz : hasB ms z = true) (hw : 0 ≤ w) : 1 ≤ cntI ms (timeI ms z) w := by
  simp [hasB] at hz
  exact cnt_pos (hAt_mem hz) hw
theorem okW_bd {w : Int} (h : okW w = true) : 0 ≤ w ∧ w ≤ 2000 := by simpa [okW] using h
theorem minv_full {ms : List (Int × Int)} {w M t : Int} {ys : List Int} (hp : ys.Perm (allL ms.length)) (h : MInv ms w ys M t) : MInv ms w (allL ms.length) M t := by
  refine ⟨fun e => h.1 (by rw [e] at hp; exact hp.eq_nil), fun e => ?_, fun b hb => h.2.2 b (hp.mem_iff.2 hb)⟩
  obtain ⟨a, ha, h1⟩ := h.2.1 (fun e' => e (by rw [e'] at hp; exact hp.symm.eq_nil))
  exact ⟨a, hp.mem_iff.1 ha, h1⟩

set_option maxRecDepth 100000 in
set_option maxHeartbeats 1600000 in
theorem most_any (ms : List (Int × Int)) (A : Option Addr) (c : Nat) (v : Int) (w : World) (h : Clk w A c ms) :
    Calls Try.prog 45 #[.slice A ms.length c, .int .i64 v] w fun e w' => ∃ M t E : Int, e = .returned (.tuple #[.int .i64 M, .int .i64 t, .int .i64 E]) ∧ Below w.heap.size w w' ∧ Hid (MostR ms v M t E) := by
  have H := Lib.hid h
  clear h
  cases hv : vhB ms with
  | true =>
    obtain ⟨hn1, hn2⟩ := vh_parts hv
    have HV := Lib.hid hv
    clear hv
    cases ho : okW v with
    | true =>
      obtain ⟨v0, v1⟩ := okW_bd ho
      have HO := Lib.hid ho
      clear ho
      obtain ⟨bl, off, rfl, hbk, hcells⟩ := H.out.marks.open_ (by omega)
      have HC := Lib.hid hcells
      clear hcells
      go_enter Try.func45, Try.ntmps45
      go_wp2_with (first
        | (go_at_call 21; refine (valid_any ms _ c _ H.out.marks H.out.len).mono ?_; rintro e w1 ⟨he, hB1⟩; rw [HV.out] at he; subst he)
        | (go_at_call 90; refine (validWithin_any v _).mono ?_; rintro e w' ⟨he, rfl⟩; rw [HO.out] at he; subst he)
        | (go_at_call 91; refine (byTime_any ms _ c _ (H.out.marks.below hB1) HV.out).mono ?_; rintro e w2 ⟨A2, c2, ys, rfl, hO2, hB2, hP⟩; have hW2 := below_step hB1 hB2))
      have hyl : ys.length = ms.length := hP.out.1.length_eq.trans (allL_len _)
      have HYL := Lib.hid hyl
      have HO2 := Lib.hid hO2
      have hy14 : ys.length ≤ 14 := by omega
      clear hyl hO2 hB1 hB2
      obtain ⟨w2', hw2'⟩ : ∃ w2', w2' = w2 := ⟨_, rfl⟩
      go_loopw [8, 9, 23] (fun a b i wr => ∃ (k : Nat) (M t : Int), k ≤ ys.length ∧ i = .int .i64 k ∧ a = .int .i64 M ∧ b = .int .i64 t ∧ Below w2.heap.size w2 wr ∧ Hid (MInv ms v (ys.take k) M t)) (fun _ _ i _ => ys.length - (intOf i).toNat)
      case atStart => exact ⟨0, 0, 0, Nat.zero_le _, rfl, rfl, rfl, Below.refl _ _, minv_nil ms v⟩
      case round =>
        obtain ⟨k, M, t, hk, rfl, rfl, rfl, hB, hM⟩ := hrel
        have hBW := below_step hW2 hB
        by_cases hlt : k < ys.length
        · obtain ⟨ad, z, rfl, hbz, hz, hcz⟩ := HO2.out.ints.get hlt
          have fz := (hB.cell (p := ad.add k) (by rw [block_of_add]; exact hbz)).trans hcz
          have HZ := Lib.hid (perm_has hP.out.1 hz.out)
          obtain ⟨i, hzi, hi, hct⟩ := has_cells HC.out HZ.out
          have ft := (hBW.cell (p := ⟨bl, off + i * 2 + 1, none⟩) hbk).trans hct
          obtain ⟨t0, t1⟩ := time_bd HV.out HZ.out
          have HP1 := Lib.hid (time_pos HZ.out v0)
          have HM2 := Lib.hid (H.out.marks.below hBW)
          have hi0 : (0 : Int) ≤ (i : Int) := by omega
          have hi1 : (i : Int) < (ms.length : Int) := by omega
          subst hzi
          obtain ⟨T, hT⟩ : ∃ T, timeI ms (i : Int) = T := ⟨_, rfl⟩
          rw [hT] at ft t0 t1 HP1
          have HT := Lib.hid hT
          clear hT hct hcz
          go_wp2_with (go_at_call 92; refine (within_any ms _ c T v _ HM2.out HV.out ⟨t0, t1⟩ ⟨v0, v1⟩).mono ?_; rintro e w3 ⟨x, rfl, hB3, x0, x1, hx⟩; have hB23 := below_step hB hB3; have ft3 := (hB3.cell (p := ⟨bl, off + i * 2 + 1, none⟩) (by exact Nat.lt_of_lt_of_le hbk hBW.size)).trans ft)
          · have hgt : M < x := by assumption
            go_quiet (fail)
            go_wp2
            go_roundw
            case rel =>
              refine ⟨k + 1, x, T, by omega, by go_num, rfl, rfl, below_drewN hB23 _, ?_⟩
              show MInv _ _ _ _ _
              rw [take_snoc hz.out, hx.out, ← HT.out]
              exact minv_new hM.out (.inl (by rw [HT.out, ← hx.out]; exact hgt))
            case measure => simp [intOf]; omega
          · have hgt : ¬ M < x := by first | assumption | (exact Int.not_lt.2 (by assumption))
            go_roundw
            case rel =>
              refine ⟨k + 1, M, t, by omega, by go_num, rfl, rfl, hB23, ?_⟩
              exact minv_sorted hM.out (by rw [HYL.out]; exact hP.out.2) hz.out (by rw [HT.out]; exact HP1.out) (by rw [HT.out, ← hx.out]; exact hgt)
            case measure => simp [intOf]; omega
        · obtain rfl : k = ys.length := by omega
          go_wp2
          go_ret3
          refine ⟨M, t, 0, rfl, hBW, ?_⟩
          show MostR _ _ _ _ _
          rw [MostR, HV.out, HO.out]
          refine ⟨rfl, minv_full hP.out.1 ?_⟩
          have := hM.out
          rwa [List.take_length] at this
    | false =>
      have HO := Lib.hid ho
      clear ho
      go_enter Try.func45, Try.ntmps45
      go_wp2_with (first
        | (go_at_call 21; refine (valid_any ms _ c _ H.out.marks H.out.len).mono ?_; rintro e w1 ⟨he, hB1⟩; rw [HV.out] at he; subst he)
        | (go_at_call 90; refine (validWithin_any v _).mono ?_; rintro e w' ⟨he, rfl⟩; rw [HO.out] at he; subst he))
      go_ret3
      exact ⟨0, 0, 2, rfl, hB1, (by rw [MostR, HV.out, HO.out]; simp : MostR _ _ _ _ _)⟩
  | false =>
    have HV := Lib.hid hv
    clear hv
    go_enter Try.func45, Try.ntmps45
    go_wp2_with (go_at_call 21; refine (valid_any ms _ c _ H.out.marks H.out.len).mono ?_; rintro e w1 ⟨he, hB1⟩; rw [HV.out] at he; subst he)
    go_ret3
    exact ⟨0, 0, 20, rfl, hB1, (by rw [MostR, HV.out]; simp : MostR _ _ _ _ _)⟩

set_option maxRecDepth 100000 in
set_option maxHeartbeats 1600000 in
theorem refMost_any (ms : List (Int × Int)) (A : Option Addr) (c : Nat) (v : Int) (w : World) (h : Clk w A c ms) :
    Calls Try.prog 46 #[.slice A ms.length c, .int .i64 v] w fun e w' => ∃ M t E : Int, e = .returned (.tuple #[.int .i64 M, .int .i64 t, .int .i64 E]) ∧ Below w.heap.size w w' ∧ Hid (MostR ms v M t E) := by
  have H := Lib.hid h
  clear h
  cases hv : vhB ms with
  | true =>
    obtain ⟨hn1, hn2⟩ := vh_parts hv
    have HV := Lib.hid hv
    clear hv
    cases ho : okW v with
    | true =>
      obtain ⟨v0, v1⟩ := okW_bd ho
      have HO := Lib.hid ho
      clear ho
      obtain ⟨bl, off, rfl, hbk, hcells⟩ := H.out.marks.open_ (by omega)
      have HC := Lib.hid hcells
      have HAL := Lib.hid (allL_len ms.length)
      clear hcells
      go_enter Try.func46, Try.ntmps46
      go_wp2_with (first
        | (go_at_call 22; refine (refValid_any ms _ c _ H.out.marks H.out.len).mono ?_; rintro e w1 ⟨he, n1, rfl⟩; rw [HV.out] at he; subst he)
        | (go_at_call 64; refine (refWithin_w v _).mono ?_; rintro e w' ⟨he, rfl⟩; rw [HO.out] at he; subst he))
      go_loopw [7, 8, 9] (fun a b i wr => ∃ (k m : Nat) (M t : Int), k ≤ ms.length ∧ i = .int .i64 k ∧ a = .int .i64 M ∧ b = .int .i64 t ∧ wr = w.drewN m ∧ Hid (MInv ms v (allL k) M t)) (fun _ _ i _ => ms.length - (intOf i).toNat)
      case atStart => exact ⟨0, n1, 0, 0, Nat.zero_le _, rfl, rfl, rfl, rfl, minv_nil ms v⟩
      case round =>
        obtain ⟨k, m, M, t, hk, rfl, rfl, rfl, rfl, hM⟩ := hrel
        by_cases hlt : k < ms.length
        · have HZ := Lib.hid (show hasB ms (k : Int) = true by simp [hasB]; omega)
          obtain ⟨i, hzi, hi, ft⟩ := has_cells HC.out HZ.out
          obtain rfl : i = k := by omega
          clear hzi
          obtain ⟨t0, t1⟩ := time_bd HV.out HZ.out
          have HP1 := Lib.hid (time_pos HZ.out v0)
          have HM2 := Lib.hid (H.out.marks.drewN m)
          have hi0 : (0 : Int) ≤ (i : Int) := by omega
          have hi1 : (i : Int) < (ms.length : Int) := by omega
          obtain ⟨T, hT⟩ : ∃ T, timeI ms (i : Int) = T := ⟨_, rfl⟩
          rw [hT] at ft t0 t1 HP1
          have HT := Lib.hid hT
          have HAS := Lib.hid (allL_succ i)
          clear hT
          go_wp2_with (go_at_call 93; refine (refFrom_any ms _ c T v _ HM2.out HV.out ⟨t0, t1⟩ ⟨v0, v1⟩).mono ?_; rintro e w3 ⟨x, rfl, rfl, x0, x1, hx⟩)
          · have h1 : x = M := by assumption
            have h2 : T < t := by assumption
            go_quiet (fail)
            go_wp2
            go_roundw
            case rel =>
              refine ⟨i + 1, _, M, T, by omega, by go_num, rfl, rfl, (by first | rfl | exact World.drewN_drewN _ _ _), ?_⟩
              show MInv _ _ _ _ _
              rw [HAS.out, ← h1, hx.out, ← HT.out]
              exact minv_new hM.out (by rw [HT.out, ← hx.out]; omega)
            case measure => simp [intOf]; omega
          · have h1 : x = M := by assumption
            have h2 : t ≤ T := by assumption
            go_roundw
            case rel =>
              refine ⟨i + 1, m, M, t, by omega, by go_num, rfl, rfl, rfl, ?_⟩
              show MInv _ _ _ _ _
              rw [HAS.out]
              exact minv_old hM.out (by rw [HT.out]; exact HP1.out) (by rw [HT.out, ← hx.out]; omega)
            case measure => simp [intOf]; omega
          · have h1 : ¬ x = M := by assumption
            have h2 : x ≤ M := by assumption
            go_roundw
            case rel =>
              refine ⟨i + 1, m, M, t, by omega, by go_num, rfl, rfl, rfl, ?_⟩
              show MInv _ _ _ _ _
              rw [HAS.out]
              exact minv_old hM.out (by rw [HT.out]; exact HP1.out) (by rw [HT.out, ← hx.out]; omega)
            case measure => simp [intOf]; omega
          · have h1 : M < x := by assumption
            go_quiet (fail)
            go_wp2
            go_roundw
            case rel =>
              refine ⟨i + 1, _, x, T, by omega, by go_num, rfl, rfl, (by first | rfl | exact World.drewN_drewN _ _ _), ?_⟩
              show MInv _ _ _ _ _
              rw [HAS.out, hx.out, ← HT.out]
              exact minv_new hM.out (by rw [HT.out, ← hx.out]; omega)
            case measure => simp [intOf]; omega
        · obtain rfl : k = ms.length := by omega
          go_wp2
          go_ret3
          refine ⟨M, t, 0, rfl, (by repeat (first | with_reducible exact Below.refl _ _ | with_reducible assumption | refine below_drewN ?_ _ | with_reducible refine Below.drew ?_ | (refine Below.setCell ?_ (by first | (simp; done) | (simp; omega) | omega) _) | (refine Below.alloc ?_ (by first | (simp; done) | (simp; omega) | omega) _))), ?_⟩
          show MostR _ _ _ _ _
          rw [MostR, HV.out, HO.out]
          exact ⟨rfl, hM.out⟩
    | false =>
      have HO := Lib.hid ho
      clear ho
      go_enter Try.func46, Try.ntmps46
      go_wp2_with (first
        | (go_at_call 22; refine (refValid_any ms _ c _ H.out.marks H.out.len).mono ?_; rintro e w1 ⟨he, n1, rfl⟩; rw [HV.out] at he; subst he)
        | (go_at_call 64; refine (refWithin_w v _).mono ?_; rintro e w' ⟨he, rfl⟩; rw [HO.out] at he; subst he))
      go_ret3
      exact ⟨0, 0, 2, rfl, (by repeat (first | with_reducible exact Below.refl _ _ | with_reducible assumption | refine below_drewN ?_ _ | with_reducible refine Below.drew ?_ | (refine Below.setCell ?_ (by first | (simp; done) | (simp; omega) | omega) _) | (refine Below.alloc ?_ (by first | (simp; done) | (simp; omega) | omega) _))), (by rw [MostR, HV.out, HO.out]; simp : MostR _ _ _ _ _)⟩
  | false =>
    have HV := Lib.hid hv
    clear hv
    go_enter Try.func46, Try.ntmps46
    go_wp2_with (go_at_call 22; refine (refValid_any ms _ c _ H.out.marks H.out.len).mono ?_; rintro e w1 ⟨he, n1, rfl⟩; rw [HV.out] at he; subst he)
    go_ret3
    exact ⟨0, 0, 20, rfl, (by repeat (first | with_reducible exact Below.refl _ _ | with_reducible assumption | refine below_drewN ?_ _ | with_reducible refine Below.drew ?_ | (refine Below.setCell ?_ (by first | (simp; done) | (simp; omega) | omega) _) | (refine Below.alloc ?_ (by first | (simp; done) | (simp; omega) | omega) _))), (by rw [MostR, HV.out]; simp : MostR _ _ _ _ _)⟩
end Go.Proofs.Yticokhiehejljaa
