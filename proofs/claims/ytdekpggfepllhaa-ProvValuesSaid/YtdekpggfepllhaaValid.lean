/-
  Contracts: validProduct, ValidSum; the reference's ValidSum.
-/
import Derived.Test.YtdekpggfepllhaaTok
set_option linter.unusedVariables false
set_option linter.unusedSimpArgs false
namespace Go.Proofs.Ytdekpggfepllhaa
open Go Go.RowKit

theorem pr_no1 {q : ByteArray} {t : Int} (h : tokB q = false) : false = prB (q, t) := by rw [prB, h]; rfl
theorem pr_no2 {q : ByteArray} {t : Int} (h : ¬ (1 ≤ t ∧ t ≤ 100000)) : false = prB (q, t) := by rw [prB, decide_eq_false h, Bool.and_false]
theorem pr_yes {q : ByteArray} {t : Int} (h : tokB q = true) (h1 : 1 ≤ t) (h2 : t ≤ 100000) : true = prB (q, t) := by rw [prB, h, decide_eq_true ⟨h1, h2⟩]; rfl
set_option maxRecDepth 100000 in
set_option maxHeartbeats 1000000 in
theorem validProduct_any (q : ByteArray) (t : Int) (w : World) (hl : q.size ≤ maxLen) :
    Calls Try.prog 41 #[.agg #[.string q, .int .i64 t]] w fun e w' => e = .returned (.bool (prB (q, t))) ∧ Below w.heap.size w w' := by
  have HT : Hid (∀ W, Calls Try.prog 69 #[.string q] W fun e w' => e = .returned (.bool (tokB q)) ∧ W = w') := Lib.hid fun W => validTokens_any q W hl
  cases ht : tokB q with
  | false =>
    rw [ht] at HT
    have HP := Lib.hid (pr_no1 (t := t) ht)
    clear ht
    go_enter Try.func41, Try.ntmps41
    go_wp2_with (go_at_call 69; refine (HT.out _).mono ?_; rintro e w1 ⟨rfl, rfl⟩)
    go_ret
    exact ⟨ret_bool HP.out, (by repeat (first | with_reducible exact Below.refl _ _ | with_reducible assumption | refine below_drewN ?_ _ | with_reducible refine Below.drew ?_ | (refine Below.setCell ?_ (by first | (simp; done) | (simp; omega) | omega) _) | (refine Below.alloc ?_ (by first | (simp; done) | (simp; omega) | omega) _)))⟩
  | true =>
    rw [ht] at HT
    by_cases h1 : 1 ≤ t
    · have t1 : decide (1 ≤ t) = true := decide_eq_true h1
      by_cases h2 : t ≤ 100000
      · have t2 : decide (t ≤ 100000) = true := decide_eq_true h2
        have HP := Lib.hid (pr_yes ht h1 h2)
        clear ht h1 h2
        go_enter Try.func41, Try.ntmps41
        go_wp2_with (go_at_call 69; refine (HT.out _).mono ?_; rintro e w1 ⟨rfl, rfl⟩)
        go_ret
        exact ⟨ret_bool HP.out, (by repeat (first | with_reducible exact Below.refl _ _ | with_reducible assumption | refine below_drewN ?_ _ | with_reducible refine Below.drew ?_ | (refine Below.setCell ?_ (by first | (simp; done) | (simp; omega) | omega) _) | (refine Below.alloc ?_ (by first | (simp; done) | (simp; omega) | omega) _)))⟩
      · have t2 : decide (t ≤ 100000) = false := decide_eq_false h2
        have HP := Lib.hid (pr_no2 (q := q) (t := t) (by omega))
        clear ht h1 h2
        go_enter Try.func41, Try.ntmps41
        go_wp2_with (go_at_call 69; refine (HT.out _).mono ?_; rintro e w1 ⟨rfl, rfl⟩)
        go_ret
        exact ⟨ret_bool HP.out, (by repeat (first | with_reducible exact Below.refl _ _ | with_reducible assumption | refine below_drewN ?_ _ | with_reducible refine Below.drew ?_ | (refine Below.setCell ?_ (by first | (simp; done) | (simp; omega) | omega) _) | (refine Below.alloc ?_ (by first | (simp; done) | (simp; omega) | omega) _)))⟩
    · have t1 : decide (1 ≤ t) = false := decide_eq_false h1
      have HP := Lib.hid (pr_no2 (q := q) (t := t) (by omega))
      clear ht h1
      go_enter Try.func41, Try.ntmps41
      go_wp2_with (go_at_call 69; refine (HT.out _).mono ?_; rintro e w1 ⟨rfl, rfl⟩)
      go_ret
      exact ⟨ret_bool HP.out, (by repeat (first | with_reducible exact Below.refl _ _ | with_reducible assumption | refine below_drewN ?_ _ | with_reducible refine Below.drew ?_ | (refine Below.setCell ?_ (by first | (simp; done) | (simp; omega) | omega) _) | (refine Below.alloc ?_ (by first | (simp; done) | (simp; omega) | omega) _)))⟩

theorem tl_of {s : Sm} {k : Nat} {q : ByteArray} {t : Int} (h : s[k]? = some (q, t)) : tl s k = q.toList := by rw [tl, getP_parts h, ByteArray.toList_eq]
theorem va_zero {s : Sm} {q : ByteArray} {t : Int} {b : Bool} (h : s[0]? = some (q, t)) (hp : prB (q, t) = b) : vaK s 0 = b := by
  rw [vaK, getP_parts h, hp]; simp
theorem va_succ {s : Sm} {m : Nat} {q r : ByteArray} {t u : Int} (h : s[m + 1]? = some (q, t)) (h' : s[m]? = some (r, u)) (hp : prB (q, t) = true) : vaK s (m + 1) = Op.bytesLess r.toList q.toList := by
  rw [vaK, getP_parts h, hp, Nat.add_sub_cancel, tl_of h, tl_of h']; simp
theorem va_pr {s : Sm} {k : Nat} {q : ByteArray} {t : Int} (h : s[k]? = some (q, t)) (hp : prB (q, t) = false) : vaK s k = false := by rw [vaK, getP_parts h, hp]; rfl
theorem va_next {s : Sm} {k : Nat} (ha : (List.range k).all (vaK s) = true) (h : vaK s k = true) : (List.range (k + 1)).all (vaK s) = true := by rw [range_snoc, ha, h]; rfl
set_option maxRecDepth 100000 in
set_option maxHeartbeats 2000000 in
theorem validSum_any (s : Sm) (A : Option Addr) (c : Nat) (w : World) (h : Marks w A s) (hz : Szs s) (hl : s.length ≤ maxLen) :
    Calls Try.prog 16 #[.slice A s.length c] w fun e w' => e = .returned (.bool (vsB s)) ∧ Below w.heap.size w w' := by
  have H := Lib.hid h
  have HZ := Lib.hid hz
  unfold maxLen at hl
  clear h hz
  by_cases hs : 40 < s.length
  · have t1 : decide (40 < (s.length : Int)) = true := decide_eq_true (by omega)
    have HP := Lib.hid (vs_not_len hs)
    go_enter Try.func16, Try.ntmps16
    go_wp2
    go_ret
    exact ⟨ret_bool HP.out.symm, Below.refl _ _⟩
  · have t1 : decide (40 < (s.length : Int)) = false := decide_eq_false (by omega)
    have hl2 : s.length ≤ 40 := by omega
    go_enter Try.func16, Try.ntmps16
    go_wp2
    clear t1
    go_loopw [10] (fun i wr => ∃ k : Nat, k ≤ s.length ∧ i = .int .i64 k ∧ Hid ((List.range k).all (vaK s) = true) ∧ Below w.heap.size w wr) (fun i _ => s.length - (intOf i).toNat)
    case atStart => exact ⟨0, Nat.zero_le _, rfl, rfl, Below.refl _ _⟩
    case round =>
      obtain ⟨k, hk, rfl, ha, hB⟩ := hrel
      rename World => wr
      by_cases hlt : k < s.length
      · obtain ⟨bl, off, rfl, hbk, hcells⟩ := H.out.open_ (show 0 < s.length by omega)
        obtain ⟨q, t, hx⟩ := getP_of_lt hlt
        have f0 := (hB.cell (p := ⟨bl, off + k * 2, none⟩) hbk).trans (hcells _ _ hx).1
        have f1 := (hB.cell (p := ⟨bl, off + k * 2 + 1, none⟩) hbk).trans (hcells _ _ hx).2
        have hbw : bl < wr.heap.size := Nat.lt_of_lt_of_le hbk hB.size
        obtain ⟨W1, hW1, q0, q1, hbw1, HB1⟩ : ∃ W1, wr.alloc (.cells #[.string q, .int .i64 t] 42) = W1 ∧ (∀ g : Gw W1, g.v.cell? ⟨wr.heap.size, 0, none⟩ = some (.string q)) ∧ (∀ g : Gw W1, g.v.cell? ⟨wr.heap.size, 1, none⟩ = some (.int .i64 t)) ∧ bl < W1.heap.size ∧ Hid (Below w.heap.size w W1) :=
          ⟨_, rfl, fun g => (g.cell (by simp)).trans (alloc_cell2 _ _ _ _).1, fun g => (g.cell (by simp)).trans (alloc_cell2 _ _ _ _).2, by simp; omega, Lib.hid (Below.alloc hB hB.size _)⟩
        have hqs := HZ.out.at_ hx
        have HVP : Hid (∀ W, Calls Try.prog 41 #[.agg #[.string q, .int .i64 t]] W fun e w' => e = .returned (.bool (prB (q, t))) ∧ Below W.heap.size W w') := Lib.hid fun W => validProduct_any q t W hqs
        have HX := Lib.hid hx
        have hold : ∀ p : Addr, p.block < wr.heap.size → W1.cell? p = wr.cell? p := fun p hp => by rw [← hW1]; exact World.cell?_alloc_lt _ _ _ hp
        clear hx
        cases hp : prB (q, t) with
        | false =>
          have HN := Lib.hid (va_pr HX.out hp)
          rw [hp] at HVP
          clear hp hold
          go_wp2
          refine wp_region_grow (by kernel_rfl) (by kernel_rfl) ?_
          repeat (go_big_quiet_step ((go_at_call 41; exact Calls.grow_of (HVP.out _))))
          refine wpQuiet_nil ?_
          rintro _ ⟨g1, rfl⟩
          have hB5 := below_step HB1.out g1.h
          clear q0 q1
          go_wp2
          go_ret
          exact ⟨ret_bool (vs_not hlt HN.out).symm, hB5⟩
        | true =>
          rw [hp] at HVP
          by_cases hk0 : k = 0
          · subst hk0
            rw [Nat.zero_mul, Nat.add_zero] at f0 f1
            have HN := Lib.hid (va_zero HX.out hp)
            clear hp hold
            go_wp2
            refine wp_region_grow (by kernel_rfl) (by kernel_rfl) ?_
            repeat (go_big_quiet_step ((go_at_call 41; exact Calls.grow_of (HVP.out _))))
            refine wpQuiet_nil ?_
            rintro _ ⟨g1, rfl⟩
            have hB5 := below_step HB1.out g1.h
            clear q0 q1
            go_wp2
            go_roundw
            case rel => exact ⟨1, by omega, by go_num, va_next ha.out HN.out, hB5⟩
            case measure => simp [intOf]; omega
          · obtain ⟨m, rfl⟩ : ∃ m, k = m + 1 := ⟨k - 1, by omega⟩
            obtain ⟨r, u, hy⟩ := getP_of_lt (show m < s.length by omega)
            have HN := Lib.hid (va_succ HX.out hy hp)
            have q2 : ∀ g : Gw W1, g.v.cell? ⟨bl, off + m * 2, none⟩ = some (.string r) := fun g => (g.cell hbw1).trans ((hold ⟨bl, off + m * 2, none⟩ hbw).trans ((hB.cell (p := ⟨bl, off + m * 2, none⟩) hbk).trans (hcells _ _ hy).1))
            have u7 : decide ((0 : Int) < ((m + 1 : Nat) : Int)) = true := decide_eq_true (by omega)
            have u8 : decide ((0 : Int) < (m : Int) + 1) = true := decide_eq_true (by omega)
            clear hp hold hy hcells
            cases hbl : Op.bytesLess r.toList q.toList with
            | false =>
              rw [hbl] at HN
              go_wp2
              refine wp_region_grow (by kernel_rfl) (by kernel_rfl) ?_
              repeat (go_big_quiet_step ((go_at_call 41; exact Calls.grow_of (HVP.out _))))
              refine wpQuiet_nil ?_
              rintro _ ⟨g1, rfl⟩
              have hB5 := below_step HB1.out g1.h
              clear q0 q1 q2
              go_wp2
              go_ret
              exact ⟨ret_bool (vs_not hlt HN.out).symm, hB5⟩
            | true =>
              rw [hbl] at HN
              go_wp2
              refine wp_region_grow (by kernel_rfl) (by kernel_rfl) ?_
              repeat (go_big_quiet_step ((go_at_call 41; exact Calls.grow_of (HVP.out _))))
              refine wpQuiet_nil ?_
              rintro _ ⟨g1, rfl⟩
              have hB5 := below_step HB1.out g1.h
              clear q0 q1 q2
              go_wp2
              go_roundw
              case rel => exact ⟨m + 1 + 1, by omega, by go_num, va_next ha.out HN.out, hB5⟩
              case measure => simp [intOf]; omega
      · obtain rfl : k = s.length := by omega
        go_wp2
        go_ret
        exact ⟨ret_bool (vs_yes hl2 ha.out).symm, hB⟩

set_option maxRecDepth 100000 in
set_option maxHeartbeats 2000000 in
theorem refValidSum_any (s : Sm) (A : Option Addr) (c : Nat) (w : World) (h : Marks w A s) (hz : Szs s) (hl : s.length ≤ maxLen) :
    Calls Try.prog 17 #[.slice A s.length c] w fun e w' => e = .returned (.bool (vsB s)) ∧ Below w.heap.size w w' := by
  have H := Lib.hid h
  have HZ := Lib.hid hz
  unfold maxLen at hl
  clear h hz
  go_enter Try.func17, Try.ntmps17
  go_wp2
  go_loopw [7] (fun i wr => ∃ k : Nat, k ≤ s.length ∧ i = .int .i64 k ∧ Hid ((List.range k).all (vaK s) = true) ∧ Below w.heap.size w wr) (fun i _ => s.length - (intOf i).toNat)
  case atStart => exact ⟨0, Nat.zero_le _, rfl, rfl, Below.refl _ _⟩
  case round =>
    obtain ⟨k, hk, rfl, ha, hB⟩ := hrel
    rename World => wr
    by_cases hlt : k < s.length
    · obtain ⟨bl, off, rfl, hbk, hcells⟩ := H.out.open_ (show 0 < s.length by omega)
      obtain ⟨q, t, hx⟩ := getP_of_lt hlt
      have f0 := (hB.cell (p := ⟨bl, off + k * 2, none⟩) hbk).trans (hcells _ _ hx).1
      have f1 := (hB.cell (p := ⟨bl, off + k * 2 + 1, none⟩) hbk).trans (hcells _ _ hx).2
      have hbw : bl < wr.heap.size := Nat.lt_of_lt_of_le hbk hB.size
      obtain ⟨W1, hW1, q0, q1, hbw1, HB1⟩ : ∃ W1, wr.alloc (.cells #[.string q, .int .i64 t] 42) = W1 ∧ (∀ g : Gw W1, g.v.cell? ⟨wr.heap.size, 0, none⟩ = some (.string q)) ∧ (∀ g : Gw W1, g.v.cell? ⟨wr.heap.size, 1, none⟩ = some (.int .i64 t)) ∧ bl < W1.heap.size ∧ Hid (Below w.heap.size w W1) :=
        ⟨_, rfl, fun g => (g.cell (by simp)).trans (alloc_cell2 _ _ _ _).1, fun g => (g.cell (by simp)).trans (alloc_cell2 _ _ _ _).2, by simp; omega, Lib.hid (Below.alloc hB hB.size _)⟩
      have hqs := HZ.out.at_ hx
      have HVP : Hid (∀ W, Calls Try.prog 42 #[.string q] W fun e w' => e = .returned (.bool (tokB q)) ∧ Below W.heap.size W w') := Lib.hid fun W => isTokens_any q W hqs
      have HX := Lib.hid hx
      have hold : ∀ p : Addr, p.block < wr.heap.size → W1.cell? p = wr.cell? p := fun p hp => by rw [← hW1]; exact World.cell?_alloc_lt _ _ _ hp
      clear hx
      cases ht : tokB q with
      | false =>
        have HN := Lib.hid (va_pr HX.out (pr_no1 ht).symm)
        rw [ht] at HVP
        clear ht hold
        go_wp2
        refine wp_region_grow (by kernel_rfl) (by kernel_rfl) ?_
        repeat (go_big_quiet_step ((go_at_call 42; exact Calls.grow_of (HVP.out _))))
        refine wpQuiet_nil ?_
        rintro _ ⟨g1, rfl⟩
        have hB5 := below_step HB1.out g1.h
        clear q0 q1
        go_wp2
        go_ret
        exact ⟨ret_bool (vs_not hlt HN.out).symm, hB5⟩
      | true =>
        rw [ht] at HVP
        by_cases h1 : t < 1
        · have HN := Lib.hid (va_pr HX.out (pr_no2 (q := q) (t := t) (by omega)).symm)
          have u1 : decide (t < 1) = true := decide_eq_true h1
          clear ht hold
          go_wp2
          refine wp_region_grow (by kernel_rfl) (by kernel_rfl) ?_
          repeat (go_big_quiet_step ((go_at_call 42; exact Calls.grow_of (HVP.out _))))
          refine wpQuiet_nil ?_
          rintro _ ⟨g1, rfl⟩
          have hB5 := below_step HB1.out g1.h
          clear q0 q1
          go_wp2
          go_ret
          exact ⟨ret_bool (vs_not hlt HN.out).symm, hB5⟩
        · have u1 : decide (t < 1) = false := decide_eq_false h1
          by_cases h2 : 100000 < t
          · have HN := Lib.hid (va_pr HX.out (pr_no2 (q := q) (t := t) (by omega)).symm)
            have u2 : decide (100000 < t) = true := decide_eq_true h2
            clear ht hold
            go_wp2
            refine wp_region_grow (by kernel_rfl) (by kernel_rfl) ?_
            repeat (go_big_quiet_step ((go_at_call 42; exact Calls.grow_of (HVP.out _))))
            refine wpQuiet_nil ?_
            rintro _ ⟨g1, rfl⟩
            have hB5 := below_step HB1.out g1.h
            clear q0 q1
            go_wp2
            go_ret
            exact ⟨ret_bool (vs_not hlt HN.out).symm, hB5⟩
          · have u2 : decide (100000 < t) = false := decide_eq_false h2
            have hp : prB (q, t) = true := (pr_yes ht (by omega) (by omega)).symm
            clear ht
            by_cases hk0 : k = 0
            · subst hk0
              rw [Nat.zero_mul, Nat.add_zero] at f0 f1
              have HN := Lib.hid (va_zero HX.out hp)
              clear hp hold
              go_wp2
              refine wp_region_grow (by kernel_rfl) (by kernel_rfl) ?_
              repeat (go_big_quiet_step ((go_at_call 42; exact Calls.grow_of (HVP.out _))))
              refine wpQuiet_nil ?_
              rintro _ ⟨g1, rfl⟩
              have hB5 := below_step HB1.out g1.h
              clear q0 q1
              go_wp2
              go_roundw
              case rel => exact ⟨1, by omega, by go_num, va_next ha.out HN.out, hB5⟩
              case measure => simp [intOf]; omega
            · obtain ⟨m, rfl⟩ : ∃ m, k = m + 1 := ⟨k - 1, by omega⟩
              obtain ⟨r, u, hy⟩ := getP_of_lt (show m < s.length by omega)
              have HN := Lib.hid (va_succ HX.out hy hp)
              have q2 : ∀ g : Gw W1, g.v.cell? ⟨bl, off + m * 2, none⟩ = some (.string r) := fun g => (g.cell hbw1).trans ((hold ⟨bl, off + m * 2, none⟩ hbw).trans ((hB.cell (p := ⟨bl, off + m * 2, none⟩) hbk).trans (hcells _ _ hy).1))
              have u7 : decide ((0 : Int) < ((m + 1 : Nat) : Int)) = true := decide_eq_true (by omega)
              have u8 : decide ((0 : Int) < (m : Int) + 1) = true := decide_eq_true (by omega)
              have hle := bl_leq r.toList q.toList
              clear hp hold hy hcells
              cases hbl : Op.bytesLess r.toList q.toList with
              | false =>
                rw [hbl] at HN hle
                go_wp2
                refine wp_region_grow (by kernel_rfl) (by kernel_rfl) ?_
                repeat (go_big_quiet_step ((go_at_call 42; exact Calls.grow_of (HVP.out _))))
                refine wpQuiet_nil ?_
                rintro _ ⟨g1, rfl⟩
                have hB5 := below_step HB1.out g1.h
                clear q0 q1 q2
                go_wp2
                go_ret
                exact ⟨ret_bool (vs_not hlt HN.out).symm, hB5⟩
              | true =>
                rw [hbl] at HN hle
                go_wp2
                refine wp_region_grow (by kernel_rfl) (by kernel_rfl) ?_
                repeat (go_big_quiet_step ((go_at_call 42; exact Calls.grow_of (HVP.out _))))
                refine wpQuiet_nil ?_
                rintro _ ⟨g1, rfl⟩
                have hB5 := below_step HB1.out g1.h
                clear q0 q1 q2
                go_wp2
                go_roundw
                case rel => exact ⟨m + 1 + 1, by omega, by go_num, va_next ha.out HN.out, hB5⟩
                case measure => simp [intOf]; omega
    · obtain rfl : k = s.length := by omega
      go_wp2
      go_ret
      exact ⟨ret_bool (by rw [vsB, ha.out, Bool.and_true, Bool.eq_iff_iff]; simp; omega), hB⟩
end Go.Proofs.Ytdekpggfepllhaa
