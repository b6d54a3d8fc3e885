/-
  Contracts: mostUrgent, urgent.
-/
import Derived.Test.YthanmiifcpajhaaValid
import Derived.Laws.CopyOwn
set_option linter.unusedVariables false
set_option linter.unusedSimpArgs false
namespace Go.Proofs.Ythanmiifcpajhaa
open Go Go.RowKit

theorem bst_skip {ts : List (Int × Int × Int)} {c : Nat → Int} {m : Int} {k : Nat} (h : cdB ts c m k = false) : bst ts c m (k + 1) = bst ts c m k := by
  show (if _ then _ else _) = _
  rw [if_neg (by rw [h]; rintro ⟨h, _⟩; cases h)]
theorem bst_take {ts : List (Int × Int × Int)} {c : Nat → Int} {m : Int} {k : Nat} (h : cdB ts c m k = true) (h2 : bst ts c m k < 0 ∨ ltI ts k < ltI ts (bst ts c m k).toNat) : bst ts c m (k + 1) = k := by
  show (if _ then _ else _) = _
  rw [if_pos ⟨h, h2⟩]
theorem bst_leave {ts : List (Int × Int × Int)} {c : Nat → Int} {m : Int} {k : Nat} (h2 : ¬ (bst ts c m k < 0 ∨ ltI ts k < ltI ts (bst ts c m k).toNat)) : bst ts c m (k + 1) = bst ts c m k := by
  show (if _ then _ else _) = _
  rw [if_neg (by rintro ⟨_, h⟩; exact h2 h)]

theorem cd_closed {ts : List (Int × Int × Int)} {c : Nat → Int} {m : Int} {k : Nat} (h : opB ts k m = false) : cdB ts c m k = false := by rw [cdB, h]; rfl
theorem cd_done {ts : List (Int × Int × Int)} {c : Nat → Int} {m : Int} {k : Nat} (h : c k = wkI ts k) : cdB ts c m k = false := by
  rw [cdB, Bool.and_eq_false_iff]; right; exact decide_eq_false (by omega)
theorem cd_yes {ts : List (Int × Int × Int)} {c : Nat → Int} {m : Int} {k : Nat} (h : opB ts k m = true) (h2 : c k < wkI ts k) : cdB ts c m k = true := by
  rw [cdB, h, decide_eq_true h2]; rfl
theorem alloc_cell3 (w : World) (x y z : Value) (T : TypeId) : (w.alloc (.cells #[x, y, z] T)).cell? ⟨w.heap.size, 0, none⟩ = some x ∧ (w.alloc (.cells #[x, y, z] T)).cell? ⟨w.heap.size, 1, none⟩ = some y ∧ (w.alloc (.cells #[x, y, z] T)).cell? ⟨w.heap.size, 2, none⟩ = some z :=
  ⟨blk_cell (heap_alloc_new w _) 0 rfl, blk_cell (heap_alloc_new w _) 1 rfl, blk_cell (heap_alloc_new w _) 2 rfl⟩

set_option maxRecDepth 100000 in
set_option maxHeartbeats 1000000 in
theorem mostUrgent_any (ts : List (Int × Int × Int)) (A : Option Addr) (cap : Nat) (c : Nat → Int) (m : Nat) (w : World) (h : Marks w A ts) (hl : ts.length ≤ 12) (hc : ∀ i, i < ts.length → c i ≤ wkI ts i) :
    Calls Try.prog 85 #[.slice A ts.length cap, .agg (vC c 12), .int .i64 m] w fun e w' => e = .returned (.int .i64 (bst ts c m ts.length)) ∧ Below w.heap.size w w' := by
  have H := Lib.hid h
  have HC := Lib.hid hc
  clear h hc
  go_enter Try.func85, Try.ntmps85
  go_wp2
  go_loopw [7, 12] (fun b i wr => ∃ (k : Nat) (B : Int), k ≤ ts.length ∧ i = .int .i64 k ∧ b = .int .i64 B ∧ Hid (B = bst ts c m k) ∧ Hid (Arr wr w.heap.size 78 c 12) ∧ Below w.heap.size w wr) (fun _ i _ => ts.length - (intOf i).toNat)
  case atStart => exact ⟨0, -1, Nat.zero_le _, rfl, rfl, rfl, Lib.hid (Arr.new _ _ _ _), (by repeat (first | with_reducible exact Below.refl _ _ | with_reducible assumption | refine below_drewN ?_ _ | with_reducible refine Below.drew ?_ | (refine Below.setCell ?_ (by first | (simp; done) | (simp; omega) | omega) _) | (refine Below.alloc ?_ (by first | (simp; done) | (simp; omega) | omega) _)))⟩
  case round =>
    obtain ⟨k, B, hk, rfl, rfl, hBst, hArr, hB⟩ := hrel
    by_cases hlt : k < ts.length
    · obtain ⟨bl, off, rfl, hbk, hcells⟩ := H.out.open_ (show 0 < ts.length by omega)
      obtain ⟨a, b, d, hx⟩ := getT_of_lt hlt
      have hp := getT_parts hx
      have hbw : bl < wr.heap.size := Nat.lt_of_lt_of_le hbk hB.size
      have f0 := (hB.cell (p := ⟨bl, off + k * 3, none⟩) hbk).trans (hcells _ _ hx).1
      have f1 := (hB.cell (p := ⟨bl, off + k * 3 + 1, none⟩) hbk).trans (hcells _ _ hx).2.1
      have f2 := (hB.cell (p := ⟨bl, off + k * 3 + 2, none⟩) hbk).trans (hcells _ _ hx).2.2
      have hcs := Lib.hid fun (j : Nat) (x : Int × Int × Int) (hj : ts[j]? = some x) => (hB.cell (p := ⟨bl, off + j * 3 + 1, none⟩) hbk).trans (hcells _ _ hj).2.1
      have hnew := alloc_cell3 wr (.int .i64 a) (.int .i64 b) (.int .i64 d) 53
      have q0 : ∀ g : Gw (wr.alloc (.cells #[.int .i64 a, .int .i64 b, .int .i64 d] 53)), g.v.cell? ⟨wr.heap.size, 0, none⟩ = some (.int .i64 a) := fun g => (g.cell (by simp)).trans hnew.1
      have q1 : ∀ g : Gw (wr.alloc (.cells #[.int .i64 a, .int .i64 b, .int .i64 d] 53)), g.v.cell? ⟨wr.heap.size, 1, none⟩ = some (.int .i64 b) := fun g => (g.cell (by simp)).trans hnew.2.1
      have q2 : ∀ g : Gw (wr.alloc (.cells #[.int .i64 a, .int .i64 b, .int .i64 d] 53)), g.v.cell? ⟨wr.heap.size, 2, none⟩ = some (.int .i64 d) := fun g => (g.cell (by simp)).trans hnew.2.2
      have q3 : ∀ g : Gw (wr.alloc (.cells #[.int .i64 a, .int .i64 b, .int .i64 d] 53)), g.v.cell? ⟨w.heap.size, k, none⟩ = some (.int .i64 (c k)) := fun g => (g.cell (Nat.lt_of_lt_of_le hArr.out.lt (by simp))).trans ((hArr.out.alloc _).cell (by omega))
      have HE : Hid (∀ g : Gw (wr.alloc (.cells #[.int .i64 a, .int .i64 b, .int .i64 d] 53)), Arr g.v w.heap.size 78 c 12 ∧ Below w.heap.size w g.v) := Lib.hid fun g => ⟨(hArr.out.alloc _).below g.h, Below.trans (Below.alloc hB hB.size _) (g.h.mono (Nat.le_trans hB.size (by simp)))⟩
      have hcw := HC.out k hlt
      rw [hp.2.2] at hcw
      have HO := Lib.hid (opT_eq hx m)
      have HP := Lib.hid hp
      have HX := Lib.hid hx
      clear hx hcells hp hnew
      cases ho : opT (a, b, d) m with
      | false =>
        have HN : Hid (bst ts c m (k + 1) = bst ts c m k) := Lib.hid (bst_skip (cd_closed (by rw [← HO.out, ho])))
        have HQ := Lib.hid ho
        clear ho
        go_wp2
        refine wp_region_grow (by kernel_rfl) (by kernel_rfl) ?_
        repeat (go_big_quiet_step ((go_at_call 81; exact Calls.grow_of ((open_any a b d m _).mono fun _ _ h => ⟨by rw [h.1, HQ.out], h.2⟩))))
        refine wpQuiet_nil ?_
        rintro _ ⟨g1, rfl⟩
        clear q0 q1 q2 q3
        go_wp2
        go_roundw
        case rel => exact ⟨k + 1, B, by omega, by go_num, rfl, Lib.hid (by rw [HN.out, hBst.out]), Lib.hid (HE.out g1).1, (HE.out g1).2⟩
        case measure => simp [intOf]; omega
      | true =>
        have HQ := Lib.hid ho
        clear ho
        by_cases hcd : c k = d
        · have HN : Hid (bst ts c m (k + 1) = bst ts c m k) := Lib.hid (bst_skip (cd_done (by rw [hcd, HP.out.2.2])))
          have t1 : (c k == d) = true := by simpa using hcd
          have HCD := Lib.hid hcd
          clear hcd
          go_wp2
          refine wp_region_grow (by kernel_rfl) (by kernel_rfl) ?_
          repeat (go_big_quiet_step ((go_at_call 81; exact Calls.grow_of ((open_any a b d m _).mono fun _ _ h => ⟨by rw [h.1, HQ.out], h.2⟩))))
          refine wpQuiet_nil ?_
          rintro _ ⟨g1, rfl⟩
          clear q0 q1 q2 q3
          go_wp2
          go_roundw
          case rel => exact ⟨k + 1, B, by omega, by go_num, rfl, Lib.hid (by rw [HN.out, hBst.out]), Lib.hid (HE.out g1).1, (HE.out g1).2⟩
          case measure => simp [intOf]; omega
        · have HCD : Hid (cdB ts c m k = true) := Lib.hid (cd_yes (by rw [← HO.out, HQ.out]) (by rw [HP.out.2.2]; omega))
          have t1 : (c k == d) = false := by simpa using hcd
          clear hcd
          go_wp2
          refine wp_region_grow (by kernel_rfl) (by kernel_rfl) ?_
          repeat (go_big_quiet_step ((go_at_call 81; exact Calls.grow_of ((open_any a b d m _).mono fun _ _ h => ⟨by rw [h.1, HQ.out], h.2⟩))))
          refine wpQuiet_nil ?_
          rintro _ ⟨g1, rfl⟩
          have r1 := q1 g1
          have hcs1 := Lib.hid fun (j : Nat) (x : Int × Int × Int) (hj : ts[j]? = some x) => (g1.cell (b := bl) (o := off + j * 3 + 1) (Nat.lt_of_lt_of_le hbw (by simp))).trans ((Below.cell (p := ⟨bl, off + j * 3 + 1, none⟩) (Below.alloc (Below.refl wr.heap.size wr) (Nat.le_refl _) _) hbw).trans (hcs.out j x hj))
          obtain ⟨W, hWe⟩ : ∃ W, g1.v = W := ⟨_, rfl⟩
          have HE1 := HE.out g1
          rw [hWe] at r1 HE1 hcs1 ⊢
          have HE1 := Lib.hid HE1
          clear q0 q1 q2 q3 HE hWe g1
          have hbd := bst_bd ts c m k
          rw [← hBst.out] at hbd
          by_cases hb : B = -1
          · have t2 : (B == -1) = true := by simpa using hb
            have HN : Hid (bst ts c m (k + 1) = k) := Lib.hid (bst_take HCD.out (.inl (by rw [← hBst.out]; omega)))
            have HBB := Lib.hid hb
            clear hb hbd
            go_wp2
            go_quiet (fail)
            go_wp2
            go_roundw
            case rel => exact ⟨k + 1, k, by omega, by go_num, rfl, Lib.hid (by rw [HN.out]), Lib.hid HE1.out.1, below_drewN HE1.out.2 _⟩
            case measure => simp [intOf]; omega
          · have t2 : (B == -1) = false := by simpa using hb
            obtain ⟨j, rfl⟩ : ∃ j : Nat, B = j := ⟨B.toNat, by omega⟩
            have hjk : j < k := by omega
            obtain ⟨a', L, d', hxj⟩ := getT_of_lt (show j < ts.length by omega)
            have rj := hcs1.out j _ hxj
            have hLj := (getT_parts hxj).2.1
            clear hb hbd hxj
            by_cases hL : b < L
            · have t3 : decide (b < L) = true := decide_eq_true hL
              have HN : Hid (bst ts c m (k + 1) = k) := Lib.hid (bst_take HCD.out (.inr (by rw [← hBst.out, Int.toNat_natCast, HP.out.2.1, hLj]; exact hL)))
              clear hLj hL
              go_wp2
              go_quiet (fail)
              go_wp2
              go_roundw
              case rel => exact ⟨k + 1, k, by omega, by go_num, rfl, Lib.hid (by rw [HN.out]), Lib.hid HE1.out.1, below_drewN HE1.out.2 _⟩
              case measure => simp [intOf]; omega
            · have t3 : decide (b < L) = false := decide_eq_false hL
              have HN : Hid (bst ts c m (k + 1) = bst ts c m k) := Lib.hid (bst_leave (by rw [← hBst.out, Int.toNat_natCast, HP.out.2.1, hLj]; omega))
              clear hLj hL
              go_wp2
              go_quiet (fail)
              go_wp2
              go_roundw
              case rel => exact ⟨k + 1, j, by omega, by go_num, rfl, Lib.hid (by rw [HN.out, ← hBst.out]), Lib.hid HE1.out.1, below_drewN HE1.out.2 _⟩
              case measure => simp [intOf]; omega
    · obtain rfl : k = ts.length := by omega
      go_wp2
      go_ret
      exact ⟨ret_int (by rw [hBst.out]), hB⟩

theorem us_le {ts : List (Int × Int × Int)} (hv : vaB ts = true) (m : Nat) : ∀ i, i < ts.length → usN ts m i ≤ wkI ts i := fun i hi => by rw [us_cn]; exact ur_le ts hv hi m
theorem us_in {ts : List (Int × Int × Int)} {k j : Nat} (h : urF ts k = (j : Int)) (i : Nat) : usN ts (k + 1) i = if i = j then usN ts k j + 1 else usN ts k i := by
  show usN ts k i + (if urF ts k = (i : Int) then 1 else 0) = _
  by_cases e : i = j
  · subst e; rw [if_pos h, if_pos rfl]
  · rw [if_neg (by rw [h]; omega), if_neg e]; omega
theorem us_out {ts : List (Int × Int × Int)} {k : Nat} (h : urF ts k = -1) (i : Nat) : usN ts (k + 1) i = usN ts k i := by
  show usN ts k i + (if urF ts k = (i : Int) then 1 else 0) = _
  rw [if_neg (by rw [h]; omega)]; omega
/-- The first k of a plan, the rest 0. -/
def upT (p : Nat → Int) (k i : Nat) : Int := if i < k then p i else 0
theorem upT_snoc (p : Nat → Int) (k i : Nat) : upT p (k + 1) i = if i = k then p k else upT p k i := by
  unfold upT
  by_cases e : i = k
  · subst e; rw [if_pos (by omega), if_pos rfl]
  · rw [if_neg e]
    by_cases h : i < k
    · rw [if_pos h, if_pos (by omega)]
    · rw [if_neg h, if_neg (by omega)]
theorem zero100 : Option.map (fun (i : TypeInfo) => (i.zero, i.size)) (Try.prog.info? 58) = some (some (.agg (vC (fun _ => 0) 100)), 100) := by kernel_rfl
theorem plan_size : (Try.prog.info? 58).map (·.size) = some 100 := (zero_of_info zero100).2
set_option maxRecDepth 100000 in
set_option maxHeartbeats 1000000 in
theorem urgentP_any (ts : List (Int × Int × Int)) (A : Option Addr) (cap : Nat) (w : World) (h : Marks w A ts) (hv : vaB ts = true) :
    Calls Try.prog 65 #[.slice A ts.length cap] w fun e w' => e = .returned (.agg (vC (urF ts) 100)) ∧ Below w.heap.size w w' := by
  have H := Lib.hid h
  have HV := Lib.hid hv
  have hl := (va_len hv).2
  have Z := (zero_of_info zero100).1
  clear h hv
  go_enter Try.func65, Try.ntmps65
  go_wp2
  rw [zero12]
  have hA0 : Arr (((w.alloc (.cells (vC (fun _ => 0) 100) 58)).alloc (.cells (vC (fun _ => 0) 100) 58)).alloc (.cells (vC (fun _ => 0) 12) 78)) w.heap.size 58 (fun _ => 0) 100 := ((Arr.new _ _ _ _).alloc _).alloc _
  have hA1 : Arr (((w.alloc (.cells (vC (fun _ => 0) 100) 58)).alloc (.cells (vC (fun _ => 0) 100) 58)).alloc (.cells (vC (fun _ => 0) 12) 78)) (w.heap.size + 1) 58 (fun _ => 0) 100 := (show Arr _ _ _ _ _ by have := Arr.new (w.alloc (.cells (vC (fun _ => 0) 100) 58)) 58 (fun _ => 0) 100; simpa using this).alloc _
  have hA2 : Arr (((w.alloc (.cells (vC (fun _ => 0) 100) 58)).alloc (.cells (vC (fun _ => 0) 100) 58)).alloc (.cells (vC (fun _ => 0) 12) 78)) (w.heap.size + 1 + 1) 78 (fun _ => 0) 12 := by have := Arr.new ((w.alloc (.cells (vC (fun _ => 0) 100) 58)).alloc (.cells (vC (fun _ => 0) 100) 58)) 78 (fun _ => 0) 12; simpa using this
  have hB0 : Below w.heap.size w (((w.alloc (.cells (vC (fun _ => 0) 100) 58)).alloc (.cells (vC (fun _ => 0) 100) 58)).alloc (.cells (vC (fun _ => 0) 12) 78)) := (by repeat (first | with_reducible exact Below.refl _ _ | with_reducible assumption | refine below_drewN ?_ _ | with_reducible refine Below.drew ?_ | (refine Below.setCell ?_ (by first | (simp; done) | (simp; omega) | omega) _) | (refine Below.alloc ?_ (by first | (simp; done) | (simp; omega) | omega) _)))
  have HA0 := Lib.hid hA0
  have HA1 := Lib.hid hA1
  have HA2 := Lib.hid hA2
  clear hA0 hA1 hA2
  go_loopw [6] (fun i wr => ∃ k : Nat, k ≤ 100 ∧ i = .int .i64 k ∧ Hid (Arr wr w.heap.size 58 (fun _ => 0) 100) ∧ Hid (Arr wr (w.heap.size + 1) 58 (upT (urF ts) k) 100) ∧ Hid (Arr wr (w.heap.size + 1 + 1) 78 (usN ts k) 12) ∧ Below w.heap.size w wr) (fun i _ => 100 - (intOf i).toNat)
  case atStart => exact ⟨0, Nat.zero_le _, rfl, HA0, Lib.hid (HA1.out.congr (fun i _ => by simp [upT])), HA2, hB0⟩
  case round =>
    clear HA0 HA1 HA2 hB0
    obtain ⟨k, hk, rfl, hA0, hA1, hA2, hB⟩ := hrel
    by_cases hlt : k < 100
    · have hbd := ur_bd ts k
      obtain ⟨v, hv⟩ : ∃ v, urF ts k = v := ⟨_, rfl⟩
      rw [hv] at hbd
      have HVV := Lib.hid hv
      have HBW := Lib.hid hB
      clear hv
      by_cases hneg : v = -1
      · subst hneg
        clear hbd
        go_wp2_with (first
          | (refine wpList_load_row rfl 78 (.tmp 4) rfl (w.heap.size + 1 + 1) rfl 78 (vC (usN ts k) 12) (0, 0) _ hA2.out Try.underlying78 (by rfl) (by rw [vC_size]; kernel_rfl) ?_)
          | (go_at_call 85; refine (mostUrgent_any ts _ _ (usN ts k) k _ (H.out.below HBW.out) hl (us_le HV.out k)).mono ?_; rintro e w2 ⟨he, hB2⟩; rw [show bst ts (usN ts k) k ts.length = -1 from HVV.out] at he; subst he; have hA0 := Lib.hid (hA0.out.below hB2); have hA1 := Lib.hid (hA1.out.below hB2); have hA2 := Lib.hid (hA2.out.below hB2); have hB3 : Below w.heap.size w w2 := below_step HBW.out hB2; clear hB2; have c1 := hA1.out.cell hlt; have fr1 := blk_frozen hA1.out k)
          | fail)
        go_roundw
        case rel => exact ⟨k + 1, by omega, by go_num, Lib.hid (hA0.out.other (by simp)), Lib.hid (hA1.out.put hlt (fun i => by rw [upT_snoc, HVV.out])), Lib.hid ((hA2.out.other (by simp)).congr (fun i _ => by rw [us_out HVV.out])), Below.setCell hB3 (by simp) _⟩
        case measure => simp [intOf]; omega
      · obtain ⟨j, rfl⟩ : ∃ j : Nat, v = j := ⟨v.toNat, by omega⟩
        have hj : j < ts.length := by omega
        have hj12 : j < 12 := by omega
        have hcn := cn_nn (urF ts) j k
        have hus : usN ts k j = cn (urF ts) j k := by rw [us_cn]
        rw [← hus] at hcn
        obtain ⟨u, hu⟩ : ∃ u, usN ts k j = u := ⟨_, rfl⟩
        rw [hu] at hcn
        obtain ⟨u1, u2⟩ := hcn
        have HU := Lib.hid hu
        clear hbd hneg hus hu
        go_wp2_with (first
          | (refine wpList_load_row rfl 78 (.tmp 4) rfl (w.heap.size + 1 + 1) rfl 78 (vC (usN ts k) 12) (0, 0) _ hA2.out Try.underlying78 (by rfl) (by rw [vC_size]; kernel_rfl) ?_)
          | (go_at_call 85; refine (mostUrgent_any ts _ _ (usN ts k) k _ (H.out.below HBW.out) hl (us_le HV.out k)).mono ?_; rintro e w2 ⟨he, hB2⟩; rw [show bst ts (usN ts k) k ts.length = (j : Int) from HVV.out] at he; subst he; have hA0 := Lib.hid (hA0.out.below hB2); have hA1 := Lib.hid (hA1.out.below hB2); have hA2 := Lib.hid (hA2.out.below hB2); have hB3 : Below w.heap.size w w2 := below_step HBW.out hB2; clear hB2; have c1 := hA1.out.cell hlt; have fr1 := blk_frozen hA1.out k; have c2 : w2.cell? ⟨w.heap.size + 1 + 1, j, none⟩ = some (.int .i64 u) := (by rw [← HU.out]; exact hA2.out.cell hj12); have fr2 := blk_frozen hA2.out j)
          | fail)
        go_roundw
        case rel => exact ⟨k + 1, by omega, by go_num, Lib.hid ((hA0.out.other (by simp)).other (by first | (simp; done) | (simp; omega))), Lib.hid ((hA1.out.put hlt (fun i => by rw [upT_snoc, HVV.out])).other (by simp)), Lib.hid ((hA2.out.other (by simp)).put hj12 (fun i => by rw [us_in HVV.out, HU.out])), Below.setCell (Below.setCell hB3 (by simp) _) (by simp; omega) _⟩
        case measure => simp [intOf]; omega
    · obtain rfl : k = 100 := by omega
      have hA1 := Lib.hid (hA1.out.congr (q := urF ts) (fun i hi => by rw [upT, if_pos hi]))
      go_wp2_with (first
        | (refine wpList_load_row rfl 58 (.tmp 3) rfl (w.heap.size + 1) rfl 58 (vC (urF ts) 100) (0, 0) _ hA1.out Try.underlying58 (by rfl) (by rw [vC_size]; exact plan_size) ?_)
        | (refine wpList_store_row rfl 58 (.tmp 2) (.tmp 27) rfl w.heap.size (vC (urF ts) 100) rfl rfl 58 (vC (fun _ => 0) 100) hA0.out (by rw [vC_size]; exact plan_size) (by rw [vC_size, vC_size]) (vC_one _ _) ?_)
        | fail)
      exact bodyPost_ret (results_cell_row rfl _ _ w.heap.size 58 (vC (urF ts) 100) (0, 0) _ rfl (setRow_heap _ _ _ _ _ _ hA0.out) Try.underlying58 (by rfl) (by rw [vC_size]; exact plan_size)) rfl ⟨rfl, below_setRow hB (Nat.le_refl _) _⟩
end Go.Proofs.Ythanmiifcpajhaa
