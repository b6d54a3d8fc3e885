/-
  Contracts: over where a weight is too great, notBetter where the best cut keeps no more (firnlaw07).
-/
import Derived.Test.YtolpbbabmcpdkaaBestM
import Derived.Test.YtolpbbabmcpdkaaKeptLaw
import Derived.Test.YtolpbbabmcpdkaaGrow
import Derived.Deep.CutRange
set_option linter.unusedVariables false
set_option linter.unusedSimpArgs false
namespace Go.Proofs.Ytolpbbabmcpdkaa
open Go.RowKit Go.Shelf

/-- A box of 24. -/
def Ov (W : World) (g : Nat) (u v : Value) : Prop := W.heap[g]? = some (.cells #[u, v] 24 (0, 0))
section
variable {W V : World} {g g' : Nat} {u v a b : Value}
theorem Ov.lt (h : Ov W g u v) : g < W.heap.size := (Array.getElem?_eq_some_iff.1 h).1
theorem Ov.below (h : Ov W g u v) (hb : Below W.heap.size W V) : Ov V g u v := (hb.block g h.lt).trans h
theorem Ov.alloc (h : Ov W g u v) (o : Obj) : Ov (W.alloc o) g u v := (Below.heap_alloc W o g h.lt).trans h
theorem Ov.new (W : World) (u v : Value) : Ov (W.alloc (.cells #[u, v] 24)) W.heap.size u v := heap_alloc_new W _
theorem Ov.c0 (h : Ov W g u v) : W.cell? ⟨g, 0, none⟩ = some u := blk_cell h 0 rfl
theorem Ov.c1 (h : Ov W g u v) : W.cell? ⟨g, 1, none⟩ = some v := blk_cell h 1 rfl
end
/-- A box of 28. -/
def Rv (W : World) (g : Nat) (u v : Value) : Prop := W.heap[g]? = some (.cells #[u, v] 28 (0, 0))
section
variable {W V : World} {g g' : Nat} {u v a b : Value}
theorem Rv.lt (h : Rv W g u v) : g < W.heap.size := (Array.getElem?_eq_some_iff.1 h).1
theorem Rv.below (h : Rv W g u v) (hb : Below W.heap.size W V) : Rv V g u v := (hb.block g h.lt).trans h
theorem Rv.alloc (h : Rv W g u v) (o : Obj) : Rv (W.alloc o) g u v := (Below.heap_alloc W o g h.lt).trans h
theorem Rv.new (W : World) (u v : Value) : Rv (W.alloc (.cells #[u, v] 28)) W.heap.size u v := heap_alloc_new W _
theorem Rv.c0 (h : Rv W g u v) : W.cell? ⟨g, 0, none⟩ = some u := blk_cell h 0 rfl
theorem Rv.c1 (h : Rv W g u v) : W.cell? ⟨g, 1, none⟩ = some v := blk_cell h 1 rfl
end

set_option maxRecDepth 100000 in
set_option maxHeartbeats 2000000 in
theorem over_true (ms ts : List Int) (A B : Option Addr) (c d : Nat) (w : World) (hA : Ints w A ms) (hB : Ints w B ts) (hl : ms.length ≤ 1000) (hl2 : ts.length ≤ 1000) (h : (∃ z ∈ ms, 1000 < z) ∨ ∃ z ∈ ts, 1000 < z) :
    Calls Try.prog 61 #[.agg #[.slice A ms.length c, .slice B ts.length d]] w fun e w' => e = .returned (.bool true) ∧ Below w.heap.size w w' := by
  obtain ⟨W0, hW0, HW, HO, z0⟩ := one_new w #[.slice A ms.length c, .slice B ts.length d] 24
  have HO : Hid (Ov W0 w.heap.size (.slice A ms.length c) (.slice B ts.length d)) := HO
  have b0 := HO.out.c0
  have b1 := HO.out.c1
  have HA := Lib.hid (hA.below HW.out)
  have HB := Lib.hid (hB.below HW.out)
  have H := Lib.hid h
  clear hA hB h z0
  go_enter Try.func61, Try.ntmps61
  go_upto_region 1 with (fail)
  rw [← hW0]
  clear hW0
  go_wp2
  go_loopw [10] (fun i wr => ∃ k : Nat, k ≤ ms.length ∧ i = .int .i64 k ∧ wr = W0 ∧ Hid (∀ z ∈ ms.take k, ¬ 1000 < z)) (fun i _ => ms.length - (intOf i).toNat)
  case atStart => exact ⟨0, Nat.zero_le _, rfl, rfl, Lib.hid (by intro z hz; simp at hz)⟩
  case round =>
    obtain ⟨k, hk, rfl, rfl, ha⟩ := hrel
    by_cases hlt : k < ms.length
    · obtain ⟨ad, z, rfl, hbk, hz, hc⟩ := HA.out.get hlt
      by_cases h1 : 1000 < z
      · have t1 : decide (1000 < z) = true := decide_eq_true h1
        go_wp2
        go_ret
        exact ⟨rfl, HW.out⟩
      · have t1 : decide (1000 < z) = false := decide_eq_false h1
        have HN := Lib.hid h1
        clear h1
        go_wp2
        go_roundw
        case rel => exact ⟨k + 1, by omega, by go_num, (by first | trivial | rfl), Lib.hid (by
          intro x hx
          rw [List.take_add_one, hz.out, Option.toList_some, List.mem_append, List.mem_singleton] at hx
          rcases hx with hx | rfl
          · exact ha.out x hx
          · exact HN.out)⟩
        case measure => simp [intOf]; omega
    · obtain rfl : k = ms.length := by omega
      rw [List.take_length] at ha
      have HT : Hid (∃ z ∈ ts, 1000 < z) := Lib.hid (by
        rcases H.out with ⟨z, hz, hz2⟩ | h
        · exact absurd hz2 (ha.out z hz)
        · exact h)
      clear ha hlt hk
      go_wp2
      rename World => wo
      go_loopw [20] (fun i wr => ∃ k : Nat, k ≤ ts.length ∧ i = .int .i64 k ∧ wr = wo ∧ Hid (∀ z ∈ ts.take k, ¬ 1000 < z)) (fun i _ => ts.length - (intOf i).toNat)
      case atStart => exact ⟨0, Nat.zero_le _, rfl, rfl, Lib.hid (by intro z hz; simp at hz)⟩
      case round =>
        obtain ⟨k, hk, rfl, rfl, ha⟩ := hrel
        by_cases hlt : k < ts.length
        · obtain ⟨ad, z, rfl, hbk, hz, hc⟩ := HB.out.get hlt
          by_cases h1 : 1000 < z
          · have t1 : decide (1000 < z) = true := decide_eq_true h1
            go_wp2
            go_ret
            exact ⟨rfl, HW.out⟩
          · have t1 : decide (1000 < z) = false := decide_eq_false h1
            have HN := Lib.hid h1
            clear h1
            go_wp2
            go_roundw
            case rel => exact ⟨k + 1, by omega, by go_num, (by first | trivial | rfl), Lib.hid (by
              intro x hx
              rw [List.take_add_one, hz.out, Option.toList_some, List.mem_append, List.mem_singleton] at hx
              rcases hx with hx | rfl
              · exact ha.out x hx
              · exact HN.out)⟩
            case measure => simp [intOf]; omega
        · obtain rfl : k = ts.length := by omega
          rw [List.take_length] at ha
          obtain ⟨z, hz, hz2⟩ := HT.out
          exact absurd hz2 (ha.out z hz)

set_option maxRecDepth 100000 in
set_option maxHeartbeats 4000000 in
theorem notBetter_true (ms ts ns ss lm lo : List Int) (A B C D : Option Addr) (c d e f : Nat) (p q N1 D1 S1 T1 N2 D2 S2 T2 : Int) (w : World)
    (hB1 : ∀ W, Below w.heap.size w W → Calls Try.prog 30 #[(.agg #[.slice A ms.length c, .slice B ts.length d]), (.agg #[.int .i64 p, .int .i64 q])] W fun e w' => ∃ A' c', e = .returned (.tuple #[.slice A' lm.length c', .int .i64 0]) ∧ Out w' A' c' lm ∧ Below W.heap.size W w')
    (hB2 : ∀ W, Below w.heap.size w W → Calls Try.prog 30 #[(.agg #[.slice C ns.length e, .slice D ss.length f]), (.agg #[.int .i64 p, .int .i64 q])] W fun e w' => ∃ A' c', e = .returned (.tuple #[.slice A' lo.length c', .int .i64 0]) ∧ Out w' A' c' lo ∧ Below W.heap.size W w')
    (hK1 : ∀ W A' c', Below w.heap.size w W → Out W A' c' lm → Calls Try.prog 53 #[(.agg #[.slice A ms.length c, .slice B ts.length d]), .slice A' lm.length c'] W fun e w' => e = .returned (.tuple #[.agg #[.int .i64 N1, .int .i64 D1], .agg #[.int .i64 S1, .int .i64 T1], .bool true]) ∧ Below W.heap.size W w')
    (hK2 : ∀ W A' c', Below w.heap.size w W → Out W A' c' lo → Calls Try.prog 53 #[(.agg #[.slice C ns.length e, .slice D ss.length f]), .slice A' lo.length c'] W fun e w' => e = .returned (.tuple #[.agg #[.int .i64 N2, .int .i64 D2], .agg #[.int .i64 S2, .int .i64 T2], .bool true]) ∧ Below W.heap.size W w')
    (m1 : smB S1 T1 = true) (m2 : smB S2 T2 = true) (hl1 : decide (S2 * T1 < S1 * T2) = false) :
    Calls Try.prog 63 #[(.agg #[.slice A ms.length c, .slice B ts.length d]), (.agg #[.slice C ns.length e, .slice D ss.length f]), (.agg #[.int .i64 p, .int .i64 q])] w fun e w' => e = .returned (.bool true) ∧ Below w.heap.size w w' := by
  have HB1 := Lib.hid hB1
  have HB2 := Lib.hid hB2
  have HK1 := Lib.hid hK1
  have HK2 := Lib.hid hK2
  obtain ⟨m1a, m1b, m1c, m1d⟩ := sm_of m1
  obtain ⟨m2a, m2b, m2c, m2d⟩ := sm_of m2
  have HLa : Hid (∀ V : World, Calls Try.prog 54 #[.agg #[.int .i64 S2, .int .i64 T2], .agg #[.int .i64 S1, .int .i64 T1]] V fun e w' => e = .returned (.bool false) ∧ Below V.heap.size V w') := Lib.hid fun V => by
    have := lessR_any S2 T2 S1 T1 V (by omega) (by omega) (by omega) (by omega)
    rw [hl1] at this
    exact this
  clear hB1 hB2 hK1 hK2 m1 m2 m1a m1b m1c m1d m2a m2b m2c m2d hl1
  obtain ⟨W0, hW0, HW, HO, HP, HQ, z0, z1, z2⟩ := three_new1 w #[.slice A ms.length c, .slice B ts.length d] #[.slice C ns.length e, .slice D ss.length f] #[.int .i64 p, .int .i64 q] 24 24 28
  have HO : Hid (Ov W0 w.heap.size (.slice A ms.length c) (.slice B ts.length d)) := HO
  have HP : Hid (Ov W0 (w.heap.size + 1) (.slice C ns.length e) (.slice D ss.length f)) := HP
  have HQ : Hid (Rv W0 (w.heap.size + 1 + 1) (.int .i64 p) (.int .i64 q)) := HQ
  clear z0 z1 z2
  have b0 := HO.out.c0
  have b1 := HO.out.c1
  have o0 := HP.out.c0
  have o1 := HP.out.c1
  have r0 := HQ.out.c0
  have r1 := HQ.out.c1
  go_enter Try.func63, Try.ntmps63
  go_upto_region 2 with (go_at_call 30; with_reducible refine (HB1.out _ (by repeat (first | with_reducible exact Below.refl _ _ | with_reducible assumption | refine below_drewN ?_ _ | with_reducible refine Below.drew ?_ | (refine Below.setCell ?_ (by first | (simp; done) | (simp; omega) | omega) _) | (refine Below.alloc ?_ (by first | (simp; done) | (simp; omega) | omega) _)))).mono ?_; rintro e v1 ⟨A1, c1, rfl, ho, hB1⟩; rw [← hW0] at hB1; have HO := Lib.hid (Ov.below HO.out hB1); have b0 := HO.out.c0; have b1 := HO.out.c1; have HP := Lib.hid (Ov.below HP.out hB1); have o0 := HP.out.c0; have o1 := HP.out.c1; have HQ := Lib.hid (Rv.below HQ.out hB1); have r0 := HQ.out.c0; have r1 := HQ.out.c1; have HW : Hid (Below w.heap.size w _) := Lib.hid (below_step HW.out hB1); have HO1 := Lib.hid ho; clear ho; clear hB1)
  go_upto_region 3 with (go_at_call 30; with_reducible refine (HB2.out _ HW.out).mono ?_; rintro e v2 ⟨A2, c2, rfl, ho, hB2⟩; have HO := Lib.hid (Ov.below HO.out hB2); have b0 := HO.out.c0; have b1 := HO.out.c1; have HP := Lib.hid (Ov.below HP.out hB2); have o0 := HP.out.c0; have o1 := HP.out.c1; have HQ := Lib.hid (Rv.below HQ.out hB2); have r0 := HQ.out.c0; have r1 := HQ.out.c1; have HO1 := Lib.hid (Out.below HO1.out hB2); have HW : Hid (Below w.heap.size w _) := Lib.hid (below_step HW.out hB2); have HO2 := Lib.hid ho; clear ho; clear hB2)
  go_upto_region 4 with (go_at_call 53; with_reducible refine (HK1.out _ A1 c1 HW.out HO1.out).mono ?_; rintro e v3 ⟨rfl, hB3⟩; have HO := Lib.hid (Ov.below HO.out hB3); have b0 := HO.out.c0; have b1 := HO.out.c1; have HP := Lib.hid (Ov.below HP.out hB3); have o0 := HP.out.c0; have o1 := HP.out.c1; have HQ := Lib.hid (Rv.below HQ.out hB3); have r0 := HQ.out.c0; have r1 := HQ.out.c1; have HO1 := Lib.hid (Out.below HO1.out hB3); have HO2 := Lib.hid (Out.below HO2.out hB3); have HW : Hid (Below w.heap.size w _) := Lib.hid (below_step HW.out hB3); clear hB3)
  have HLT := HQ.out.lt
  obtain ⟨X3, hX3, HW, HN, HS, HO, HP, HQ, HO1, HO2⟩ : ∃ X, ((v3.alloc (.cells #[.int .i64 N1, .int .i64 D1] 28)).alloc (.cells #[.int .i64 S1, .int .i64 T1] 28)) = X ∧ Hid (Below w.heap.size w X) ∧ Hid (Rv X v3.heap.size (.int .i64 N1) (.int .i64 D1)) ∧ Hid (Rv X (v3.heap.size + 1) (.int .i64 S1) (.int .i64 T1)) ∧ Hid (Ov X w.heap.size (.slice A ms.length c) (.slice B ts.length d)) ∧ Hid (Ov X (w.heap.size + 1) (.slice C ns.length e) (.slice D ss.length f)) ∧ Hid (Rv X (w.heap.size + 1 + 1) (.int .i64 p) (.int .i64 q)) ∧ Hid (Out X A1 c1 lm) ∧ Hid (Out X A2 c2 lo) :=
    ⟨_, rfl, Lib.hid (Below.alloc (Below.alloc HW.out HW.out.size _) (by have := HW.out.size; simp; omega) _), Lib.hid ((Rv.new _ _ _).alloc _), Lib.hid (by have := Rv.new (v3.alloc (.cells #[.int .i64 N1, .int .i64 D1] 28)) (.int .i64 S1) (.int .i64 T1); simpa using this), Lib.hid ((HO.out.alloc _).alloc _), Lib.hid ((HP.out.alloc _).alloc _), Lib.hid ((HQ.out.alloc _).alloc _), Lib.hid (HO1.out.below ((Below.alloc (Below.refl _ _) (Nat.le_refl _) _).alloc (by simp) _)), Lib.hid (HO2.out.below ((Below.alloc (Below.refl _ _) (Nat.le_refl _) _).alloc (by simp) _))⟩
  rw [hX3]
  clear hX3 HLT
  obtain ⟨gn, hgn⟩ : ∃ g, v3.heap.size = g := ⟨_, rfl⟩
  try rw [hgn] at HN HS ⊢
  clear hgn
  have b0 := HO.out.c0
  have b1 := HO.out.c1
  have o0 := HP.out.c0
  have o1 := HP.out.c1
  have r0 := HQ.out.c0
  have r1 := HQ.out.c1
  have n0 := HN.out.c0
  have n1 := HN.out.c1
  have s0 := HS.out.c0
  have s1 := HS.out.c1
  go_upto_region 5 with (go_at_call 53; with_reducible refine (HK2.out _ A2 c2 HW.out HO2.out).mono ?_; rintro e v4 ⟨rfl, hB4⟩; have HO := Lib.hid (Ov.below HO.out hB4); have b0 := HO.out.c0; have b1 := HO.out.c1; have HP := Lib.hid (Ov.below HP.out hB4); have o0 := HP.out.c0; have o1 := HP.out.c1; have HQ := Lib.hid (Rv.below HQ.out hB4); have r0 := HQ.out.c0; have r1 := HQ.out.c1; have HO1 := Lib.hid (Out.below HO1.out hB4); have HO2 := Lib.hid (Out.below HO2.out hB4); have HN := Lib.hid (Rv.below HN.out hB4); have n0 := HN.out.c0; have n1 := HN.out.c1; have HS := Lib.hid (Rv.below HS.out hB4); have s0 := HS.out.c0; have s1 := HS.out.c1; have HW : Hid (Below w.heap.size w _) := Lib.hid (below_step HW.out hB4); clear hB4)
  have HLT := HS.out.lt
  obtain ⟨X4, hX4, HW, HM, HU, HO, HP, HQ, HO1, HO2, HN, HS⟩ : ∃ X, ((v4.alloc (.cells #[.int .i64 N2, .int .i64 D2] 28)).alloc (.cells #[.int .i64 S2, .int .i64 T2] 28)) = X ∧ Hid (Below w.heap.size w X) ∧ Hid (Rv X v4.heap.size (.int .i64 N2) (.int .i64 D2)) ∧ Hid (Rv X (v4.heap.size + 1) (.int .i64 S2) (.int .i64 T2)) ∧ Hid (Ov X w.heap.size (.slice A ms.length c) (.slice B ts.length d)) ∧ Hid (Ov X (w.heap.size + 1) (.slice C ns.length e) (.slice D ss.length f)) ∧ Hid (Rv X (w.heap.size + 1 + 1) (.int .i64 p) (.int .i64 q)) ∧ Hid (Out X A1 c1 lm) ∧ Hid (Out X A2 c2 lo) ∧ Hid (Rv X gn (.int .i64 N1) (.int .i64 D1)) ∧ Hid (Rv X (gn + 1) (.int .i64 S1) (.int .i64 T1)) :=
    ⟨_, rfl, Lib.hid (Below.alloc (Below.alloc HW.out HW.out.size _) (by have := HW.out.size; simp; omega) _), Lib.hid ((Rv.new _ _ _).alloc _), Lib.hid (by have := Rv.new (v4.alloc (.cells #[.int .i64 N2, .int .i64 D2] 28)) (.int .i64 S2) (.int .i64 T2); simpa using this), Lib.hid ((HO.out.alloc _).alloc _), Lib.hid ((HP.out.alloc _).alloc _), Lib.hid ((HQ.out.alloc _).alloc _), Lib.hid (HO1.out.below ((Below.alloc (Below.refl _ _) (Nat.le_refl _) _).alloc (by simp) _)), Lib.hid (HO2.out.below ((Below.alloc (Below.refl _ _) (Nat.le_refl _) _).alloc (by simp) _)), Lib.hid ((HN.out.alloc _).alloc _), Lib.hid ((HS.out.alloc _).alloc _)⟩
  rw [hX4]
  clear hX4 HLT
  obtain ⟨gm, hgm⟩ : ∃ g, v4.heap.size = g := ⟨_, rfl⟩
  try rw [hgm] at HM HU ⊢
  clear hgm
  have b0 := HO.out.c0
  have b1 := HO.out.c1
  have o0 := HP.out.c0
  have o1 := HP.out.c1
  have r0 := HQ.out.c0
  have r1 := HQ.out.c1
  have n0 := HN.out.c0
  have n1 := HN.out.c1
  have s0 := HS.out.c0
  have s1 := HS.out.c1
  have x0 := HM.out.c0
  have x1 := HM.out.c1
  have u0 := HU.out.c0
  have u1 := HU.out.c1
  go_wp2_with (go_at_call 54; with_reducible refine (HLa.out _).mono ?_; rintro e v5 ⟨rfl, hB5⟩; have HO := Lib.hid (Ov.below HO.out hB5); have b0 := HO.out.c0; have b1 := HO.out.c1; have HP := Lib.hid (Ov.below HP.out hB5); have o0 := HP.out.c0; have o1 := HP.out.c1; have HQ := Lib.hid (Rv.below HQ.out hB5); have r0 := HQ.out.c0; have r1 := HQ.out.c1; have HO1 := Lib.hid (Out.below HO1.out hB5); have HO2 := Lib.hid (Out.below HO2.out hB5); have HN := Lib.hid (Rv.below HN.out hB5); have n0 := HN.out.c0; have n1 := HN.out.c1; have HS := Lib.hid (Rv.below HS.out hB5); have s0 := HS.out.c0; have s1 := HS.out.c1; have HM := Lib.hid (Rv.below HM.out hB5); have x0 := HM.out.c0; have x1 := HM.out.c1; have HU := Lib.hid (Rv.below HU.out hB5); have u0 := HU.out.c0; have u1 := HU.out.c1; have HW : Hid (Below w.heap.size w _) := Lib.hid (below_step HW.out hB5); clear hB5)
  go_ret
  exact ⟨rfl, HW.out⟩
end Go.Proofs.Ytolpbbabmcpdkaa
