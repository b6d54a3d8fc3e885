/-
  Contract: inFront (wave).
-/
import Derived.Test.YtcmnjmhedmneiaaDoorWord
import Derived.StillTailTactics
import Derived.Deep.RegionHeld3
namespace Go.Proofs.YtcmnjmhedmneiaaDoor
open Go.RowKit Go.Shelf

theorem change_some (a b : Nat) (ha : a < 5) (hb : b < 5) (w : World) (hw : Wids w) :
    Calls Tryd.prog 88 #[.int .i64 a, .int .i64 b] w fun e w' => ∃ q : ByteArray, e = .returned (.string q) ∧ q.size ≤ 48 ∧ Below w.heap.size w w' ∧ Hid (q = ⟨(changeL a b).toArray⟩) :=
  (change_any a b ha hb w hw).mono fun e w' ⟨he, hB⟩ => ⟨_, he, by rw [sv_size]; exact change_len ha hb, hB, rfl⟩
theorem word_some (k : Nat) (n : Int) (w : World) :
    Calls Tryd.prog 66 #[.int .i64 (wdN k), .int .i64 n] w fun e w' => ∃ q : ByteArray, e = .returned (.string q) ∧ q.size ≤ 11 ∧ Below w.heap.size w w' ∧ Hid (q = ⟨(wordL (wdN k) n).toArray⟩) :=
  (word_any k n w).mono fun e w' ⟨he, hB⟩ => ⟨_, he, by rw [sv_size, word_len]; exact (wd_bd k).2, hB, rfl⟩
theorem better_some (a b : List UInt8) (x y : ByteArray) (w : World) (hx : x = ⟨a.toArray⟩) (hy : y = ⟨b.toArray⟩) :
    Calls Tryd.prog 96 #[.string x, .string y] w fun e w' => e = .returned (.bool (betterB a b)) ∧ w = w' := by
  subst hx hy; exact better_any a b w
theorem bt_list (l : List UInt8) : (⟨l.toArray⟩ : ByteArray).toList = l := by simp
/-- Five texts as a value. -/
def agg5 (f : Nat → List UInt8) : Value := .agg #[sv (f 0), sv (f 1), sv (f 2), sv (f 3), sv (f 4)]

/-- The frame of inFront as it goes on. -/
structure FrI (w wr : World) (S : Nat) (bh best : Nat → List UInt8) : Prop where
  below : Below w.heap.size w wr
  base : S = w.heap.size
  size : S + 3 ≤ wr.heap.size
  bhd : ∀ k, k < 5 → wr.cell? ⟨S, k, none⟩ = some (sv (bh k))
  bst : ∀ k, k < 5 → wr.cell? ⟨S + 1 + 1, k, none⟩ = some (sv (best k)) ∧ wr.frozen? ⟨S + 1 + 1, k, none⟩ = false
  res : ∀ k, k < 5 → (∃ v, wr.cell? ⟨S + 1, k, none⟩ = some v) ∧ wr.frozen? ⟨S + 1, k, none⟩ = false
theorem FrI.step {w wr w' : World} {S : Nat} {bh best : Nat → List UInt8} (h : FrI w wr S bh best) (hB : Below wr.heap.size wr w') : FrI w w' S bh best := by
  have hs := h.size
  refine ⟨below_step h.below hB, h.base, Nat.le_trans h.size hB.size, fun k hk => ?_, fun k hk => ⟨?_, ?_⟩, fun k hk => ⟨?_, ?_⟩⟩
  · exact (hB.cell (p := ⟨S, k, none⟩) (show S < _ by omega)).trans (h.bhd k hk)
  · exact (hB.cell (p := ⟨S + 1 + 1, k, none⟩) (show S + 1 + 1 < _ by omega)).trans (h.bst k hk).1
  · exact (hB.frozen (p := ⟨S + 1 + 1, k, none⟩) (show S + 1 + 1 < _ by omega)).trans (h.bst k hk).2
  · obtain ⟨v, hv⟩ := (h.res k hk).1
    exact ⟨v, (hB.cell (p := ⟨S + 1, k, none⟩) (show S + 1 < _ by omega)).trans hv⟩
  · exact (hB.frozen (p := ⟨S + 1, k, none⟩) (show S + 1 < _ by omega)).trans (h.res k hk).2
theorem FrI.drewN {w wr : World} {S : Nat} {bh best : Nat → List UInt8} (h : FrI w wr S bh best) (n : Nat) : FrI w (wr.drewN n) S bh best := h.step (below_drewN (Below.refl _ _) n)
theorem FrI.same {w wr : World} {S : Nat} {bh best best' : Nat → List UInt8} (h : FrI w wr S bh best) (hk : ∀ k, k < 5 → best' k = best k) : FrI w wr S bh best' :=
  ⟨h.below, h.base, h.size, h.bhd, fun k hk5 => by rw [hk k hk5]; exact h.bst k hk5, h.res⟩
theorem FrI.put {w wr : World} {S a : Nat} {bh best best' : Nat → List UInt8} {t : List UInt8} (h : FrI w wr S bh best) (ha : a < 5) (hk : ∀ k, k < 5 → best' k = if k = a then t else best k) : FrI w (wr.setCell ⟨S + 1 + 1, a, none⟩ (sv t)) S bh best' := by
  have hS := h.base
  refine ⟨h.below.setCell (by show w.heap.size ≤ S + 1 + 1; omega) _, h.base, by simpa using h.size, fun k hk5 => ?_, fun k hk5 => ⟨?_, by rw [World.frozen?_setCell]; exact (h.bst k hk5).2⟩, fun k hk5 => ⟨?_, by rw [World.frozen?_setCell]; exact (h.res k hk5).2⟩⟩
  · rw [World.cell?_setCell_other _ _ _ _ (by intro e; injection e with e1; omega)]; exact h.bhd k hk5
  · rw [hk k hk5]
    by_cases e : k = a
    · subst e
      rw [if_pos rfl]
      exact World.cell?_setCell_same' _ _ _ (by rw [(h.bst k hk5).1]; rfl)
    · rw [if_neg e, World.cell?_setCell_other _ _ _ _ (by intro h; injection h with h1 h2; exact e h2.symm)]
      exact (h.bst k hk5).1
  · obtain ⟨v, hv⟩ := (h.res k hk5).1
    exact ⟨v, by rw [World.cell?_setCell_other _ _ _ _ (by intro e; injection e with e1; omega)]; exact hv⟩

theorem set5 {w : World} {B : Nat} {v0 v1 v2 v3 v4 x0 x1 x2 x3 x4 : Value} (r0 : w.cell? ⟨B, 0, none⟩ = some v0) (r1 : w.cell? ⟨B, 1, none⟩ = some v1) (r2 : w.cell? ⟨B, 2, none⟩ = some v2) (r3 : w.cell? ⟨B, 3, none⟩ = some v3) (r4 : w.cell? ⟨B, 4, none⟩ = some v4) :
    ∀ W, W = ((((w.setCell ⟨B, 0, none⟩ x0).setCell ⟨B, 1, none⟩ x1).setCell ⟨B, 2, none⟩ x2).setCell ⟨B, 3, none⟩ x3).setCell ⟨B, 4, none⟩ x4 →
      W.cell? ⟨B, 0, none⟩ = some x0 ∧ W.cell? ⟨B, 1, none⟩ = some x1 ∧ W.cell? ⟨B, 2, none⟩ = some x2 ∧ W.cell? ⟨B, 3, none⟩ = some x3 ∧ W.cell? ⟨B, 4, none⟩ = some x4 := by
  rintro W rfl
  have ne : ∀ {i j : Nat}, i ≠ j → (⟨B, i, none⟩ : Addr) ≠ ⟨B, j, none⟩ := fun h e => by injection e with _ e2; exact h e2
  refine ⟨?_, ?_, ?_, ?_, ?_⟩
  · rw [World.cell?_setCell_other _ _ _ _ (ne (by decide)), World.cell?_setCell_other _ _ _ _ (ne (by decide)), World.cell?_setCell_other _ _ _ _ (ne (by decide)), World.cell?_setCell_other _ _ _ _ (ne (by decide))]
    exact World.cell?_setCell_same' _ _ _ (by rw [r0]; rfl)
  · rw [World.cell?_setCell_other _ _ _ _ (ne (by decide)), World.cell?_setCell_other _ _ _ _ (ne (by decide)), World.cell?_setCell_other _ _ _ _ (ne (by decide))]
    exact World.cell?_setCell_same' _ _ _ (by rw [World.cell?_setCell_other _ _ _ _ (ne (by decide)), r1]; rfl)
  · rw [World.cell?_setCell_other _ _ _ _ (ne (by decide)), World.cell?_setCell_other _ _ _ _ (ne (by decide))]
    exact World.cell?_setCell_same' _ _ _ (by rw [World.cell?_setCell_other _ _ _ _ (ne (by decide)), World.cell?_setCell_other _ _ _ _ (ne (by decide)), r2]; rfl)
  · rw [World.cell?_setCell_other _ _ _ _ (ne (by decide))]
    exact World.cell?_setCell_same' _ _ _ (by rw [World.cell?_setCell_other _ _ _ _ (ne (by decide)), World.cell?_setCell_other _ _ _ _ (ne (by decide)), World.cell?_setCell_other _ _ _ _ (ne (by decide)), r3]; rfl)
  · exact World.cell?_setCell_same' _ _ _ (by rw [World.cell?_setCell_other _ _ _ _ (ne (by decide)), World.cell?_setCell_other _ _ _ _ (ne (by decide)), World.cell?_setCell_other _ _ _ _ (ne (by decide)), World.cell?_setCell_other _ _ _ _ (ne (by decide)), r4]; rfl)

/-- The best texts while those from step a by way of k steps have been looked at. -/
def bestF (d : Int) (bh : Nat → List UInt8) (a k : Nat) (j : Nat) : List UInt8 := if j < a then frontL d bh j else if j = a then bestK d bh a k else []
theorem bestF_self (d : Int) (bh : Nat → List UInt8) (a b : Nat) : bestF d bh a b a = bestK d bh a b := by
  unfold bestF; rw [if_neg (by omega), if_pos rfl]
theorem bestF_put (d : Int) (bh : Nat → List UInt8) (a b k : Nat) : bestF d bh a (b + 1) k = if k = a then bestK d bh a (b + 1) else bestF d bh a b k := by
  by_cases e : k = a
  · subst e; rw [if_pos rfl, bestF_self]
  · rw [if_neg e]; unfold bestF; rw [if_neg e, if_neg e]
theorem bestF_skip {d : Int} {bh : Nat → List UInt8} {a b : Nat} (h : bestK d bh a (b + 1) = bestK d bh a b) (k : Nat) : bestF d bh a (b + 1) k = bestF d bh a b k := by
  rw [bestF_put]
  split
  · next e => subst e; rw [h, bestF_self]
  · rfl
theorem bestF_row (d : Int) (bh : Nat → List UInt8) (a k : Nat) : bestF d bh (a + 1) 0 k = bestF d bh a 5 k := by
  unfold bestF
  by_cases h1 : k < a
  · rw [if_pos (by omega), if_pos h1]
  · by_cases h2 : k = a
    · rw [if_pos (by omega), if_neg h1, if_pos h2, h2]; rfl
    · rw [if_neg (by omega), if_neg h1, if_neg h2]
      split <;> rfl
theorem bestF_all {d : Int} {bh : Nat → List UInt8} {k : Nat} (h : k < 5) : bestF d bh 5 0 k = frontL d bh k := by
  unfold bestF; rw [if_pos h]
theorem best_no {d : Int} {bh : Nat → List UInt8} {a b : Nat} (h : canB (wdN b) d = false) : bestK d bh a (b + 1) = bestK d bh a b := by
  rw [best_succ, bestS, h]; rfl
theorem best_first {d : Int} {bh : Nat → List UInt8} {a b : Nat} (h : canB (wdN b) d = true) (h0 : bestK d bh a b = []) : bestK d bh a (b + 1) = viaL d bh a b := by
  rw [best_succ, bestS, h, if_pos rfl, if_pos (.inl h0)]
theorem best_yes {d : Int} {bh : Nat → List UInt8} {a b : Nat} (h : canB (wdN b) d = true) (h0 : betterB (viaL d bh a b) (bestK d bh a b) = true) : bestK d bh a (b + 1) = viaL d bh a b := by
  rw [best_succ, bestS, h, if_pos rfl, if_pos (.inr h0)]
theorem best_stay {d : Int} {bh : Nat → List UInt8} {a b : Nat} (h1 : bestK d bh a b ≠ []) (h0 : betterB (viaL d bh a b) (bestK d bh a b) = false) : bestK d bh a (b + 1) = bestK d bh a b := by
  rw [best_succ, bestS]
  split
  · rw [if_neg]
    rintro (h | h)
    · exact h1 h
    · rw [h0] at h; cases h
  · rfl

set_option maxRecDepth 100000 in
set_option maxHeartbeats 4000000 in
theorem inFront_any (d : Int) (bh : Nat → List UInt8) (w : World) (hw : Wids w) (hd0 : -2000 ≤ d) (hd1 : d ≤ 2000) (hl : ∀ k, k < 5 → (bh k).length ≤ 10000) :
    Calls Tryd.prog 73 #[.int .i64 d, agg5 bh] w fun e w' => e = .returned (agg5 (frontL d bh)) ∧ Below w.heap.size w w' := by
  have HW := Lib.hid hw
  have HL := Lib.hid hl
  clear hw hl
  rw [show agg5 bh = .agg #[sv (bh 0), sv (bh 1), sv (bh 2), sv (bh 3), sv (bh 4)] from rfl]
  go_enter Tryd.func73, Tryd.ntmps73
  go_wp2
  obtain ⟨W0, hW0⟩ : ∃ W0, W0 = ((w.alloc (.cells #[sv (bh 0), sv (bh 1), sv (bh 2), sv (bh 3), sv (bh 4)] 65)).alloc (.cells #[sv [], sv [], sv [], sv [], sv []] 65)).alloc (.cells #[sv [], sv [], sv [], sv [], sv []] 65) := ⟨_, rfl⟩
  have hF0 : FrI w W0 w.heap.size bh (bestF d bh 0 0) := by
    rw [hW0]
    refine ⟨(by repeat (first | with_reducible exact Below.refl _ _ | with_reducible assumption | refine below_drewN ?_ _ | with_reducible refine Below.drew ?_ | (refine Below.setCell ?_ (by first | (simp; done) | (simp; omega) | omega) _) | (refine Below.alloc ?_ (by first | (simp; done) | (simp; omega) | omega) _))), rfl, by simp, fun k hk => ?_, fun k hk => ⟨?_, ?_⟩, fun k hk => ⟨?_, ?_⟩⟩
    · rcases (show k = 0 ∨ k = 1 ∨ k = 2 ∨ k = 3 ∨ k = 4 by omega) with rfl | rfl | rfl | rfl | rfl <;> go_simp
    · have e : bestF d bh 0 0 k = [] := by
        unfold bestF
        rw [if_neg (by omega)]
        split <;> rfl
      rw [e]
      rcases (show k = 0 ∨ k = 1 ∨ k = 2 ∨ k = 3 ∨ k = 4 by omega) with rfl | rfl | rfl | rfl | rfl <;> go_simp
    · rcases (show k = 0 ∨ k = 1 ∨ k = 2 ∨ k = 3 ∨ k = 4 by omega) with rfl | rfl | rfl | rfl | rfl <;> go_simp
    · rcases (show k = 0 ∨ k = 1 ∨ k = 2 ∨ k = 3 ∨ k = 4 by omega) with rfl | rfl | rfl | rfl | rfl <;> exact ⟨sv [], by go_simp⟩
    · rcases (show k = 0 ∨ k = 1 ∨ k = 2 ∨ k = 3 ∨ k = 4 by omega) with rfl | rfl | rfl | rfl | rfl <;> go_simp
  have HF0 := Lib.hid hF0
  rw [← hW0]
  clear hW0 hF0
  go_loopw [9] (fun i wr => ∃ a : Nat, a ≤ 5 ∧ i = .int .i64 a ∧ FrI w wr w.heap.size bh (bestF d bh a 0)) (fun i _ => 5 - (intOf i).toNat)
  case atStart => exact ⟨0, by omega, rfl, HF0.out⟩
  case round =>
    obtain ⟨a, ha, rfl, hF⟩ := hrel
    by_cases hlt : a < 5
    · have ta : decide ((a : Int) < 5) = true := decide_eq_true (by omega)
      have HF := Lib.hid hF
      clear hF
      obtain ⟨wo, rfl⟩ : ∃ wo : World, wo = wr := ⟨_, rfl⟩
      go_wp2
      go_loopw [12] (fun i wr => ∃ b : Nat, b ≤ 5 ∧ i = .int .i64 b ∧ FrI w wr w.heap.size bh (bestF d bh a b)) (fun i _ => 5 - (intOf i).toNat)
      case atStart => exact ⟨0, by omega, rfl, HF.out⟩
      case round =>
        obtain ⟨b, hb, rfl, hF⟩ := hrel
        by_cases hltb : b < 5
        · have tb : decide ((b : Int) < 5) = true := decide_eq_true (by omega)
          have hWw := HW.out.below hF.below
          have f0 := hWw.2 b hltb
          have i0 : (0 : Int) ≤ (b : Int) := by omega
          have i1 : (b : Int) < 5 := by omega
          have i2 : (0 : Int) ≤ (a : Int) := by omega
          have i3 : (a : Int) < 5 := by omega
          have hs := hF.size
          have h0 := hWw.1
          have HWw := Lib.hid hWw
          have HF := Lib.hid hF
          clear hWw hF
          cases hc : canB (wdN b) d with
          | false =>
            have HC := Lib.hid hc
            clear hc
            go_wp2_with (go_at_call 80; refine (canHave_at b d _ hd0 hd1).mono ?_; rintro e w1 ⟨rfl, rfl⟩; rw [HC.out])
            go_roundw
            case rel => exact ⟨b + 1, by omega, by go_num, HF.out.same fun k _ => bestF_skip (best_no HC.out) k⟩
            case measure => simp [intOf]; omega
          | true =>
            have HC := Lib.hid hc
            clear hc
            have g0 := HF.out.bhd b hltb
            obtain ⟨s, hs0⟩ : ∃ s : ByteArray, (⟨(bh b).toArray⟩ : ByteArray) = s := ⟨_, rfl⟩
            rw [show sv (bh b) = .string ⟨(bh b).toArray⟩ from rfl, hs0] at g0
            have hsl : s.size ≤ 10000 := by rw [← hs0, sv_size]; exact HL.out b hltb
            have HS := Lib.hid hs0
            have HWW : Hid (Below wr.heap.size wr wr) := Below.refl _ _
            clear hs0
            go_wp2_with (go_at_call 80; refine (canHave_at b d _ hd0 hd1).mono ?_; rintro e w1 ⟨rfl, rfl⟩; rw [HC.out])
            go_region_held3 (fun w' => w'.cell? ⟨0, b, none⟩ = some (.int .i64 (wdN b)) ∧ w'.cell? ⟨w.heap.size, b, none⟩ = some (.string s))
              (exact ⟨f0, g0⟩)
              ((first
                | (go_at_call 88; refine (change_some a b hlt hltb _ (HWw.out.below (by first | exact HWW.out.drew | exact HWW.out))).mono ?_; rintro e wx ⟨q1, rfl, hq1, hBx, HQ1⟩; have HWW : Hid (Below wr.heap.size wr wx) := (by first | exact HWW.out.drew.trans (hBx.mono HWW.out.size) | exact HWW.out.trans (hBx.mono HWW.out.size)); have f0 := (hBx.cell (p := ⟨0, b, none⟩) (World.block_lt_of_cell? _ _ f0)).trans f0; have g0 := (hBx.cell (p := ⟨w.heap.size, b, none⟩) (World.block_lt_of_cell? _ _ g0)).trans g0; clear hBx; try (have r12 : (9223372036854775807 < q1.size + q2.size) = False := eq_false (by omega); have r123 : (9223372036854775807 < q1.size + q2.size + s.size) = False := eq_false (by omega); have r124 : (9223372036854775807 < (q1 ++ q2).size + s.size) = False := eq_false (by rw [ByteArray.size_append]; omega)))
                | (go_at_call 66; refine (word_some b d _).mono ?_; rintro e wx ⟨q2, rfl, hq2, hBx, HQ2⟩; have HWW : Hid (Below wr.heap.size wr wx) := (by first | exact HWW.out.drew.trans (hBx.mono HWW.out.size) | exact HWW.out.trans (hBx.mono HWW.out.size)); have f0 := (hBx.cell (p := ⟨0, b, none⟩) (World.block_lt_of_cell? _ _ f0)).trans f0; have g0 := (hBx.cell (p := ⟨w.heap.size, b, none⟩) (World.block_lt_of_cell? _ _ g0)).trans g0; clear hBx; try (have r12 : (9223372036854775807 < q1.size + q2.size) = False := eq_false (by omega); have r123 : (9223372036854775807 < q1.size + q2.size + s.size) = False := eq_false (by omega); have r124 : (9223372036854775807 < (q1 ++ q2).size + s.size) = False := eq_false (by rw [ByteArray.size_append]; omega)))))
            have hF2 := HF.out.step HWW.out
            have HT : Hid ((⟨(viaL d bh a b).toArray⟩ : ByteArray) = q1 ++ q2 ++ s) := by
              rw [HQ1.out, HQ2.out, ← HS.out, sv_append, sv_append]; rfl
            have p0 := (hF2.bst a hlt).1
            have p1 := (hF2.bst a hlt).2
            rw [bestF_self] at p0
            have HF2 := Lib.hid hF2
            clear hF2
            by_cases hacc : bestK d bh a b = []
            · have HN := Lib.hid (best_first HC.out hacc)
              rw [hacc] at p0
              clear hacc
              go_wp2
              go_roundw
              case rel => exact ⟨b + 1, by omega, by go_num, by rw [← HT.out]; exact HF2.out.put hlt (fun k _ => by rw [bestF_put, HN.out])⟩
              case measure => simp [intOf]; omega
            · have HA := Lib.hid hacc
              obtain ⟨p, hp⟩ : ∃ p : ByteArray, (⟨(bestK d bh a b).toArray⟩ : ByteArray) = p := ⟨_, rfl⟩
              rw [show sv (bestK d bh a b) = .string ⟨(bestK d bh a b).toArray⟩ from rfl, hp] at p0
              have HP := Lib.hid hp
              have hp1 : ¬ p.toList = [] := by rw [← hp, bt_list]; exact hacc
              have hp2 : p.toList.isEmpty = false := by simpa using hp1
              clear hacc hp
              cases hbt : betterB (viaL d bh a b) (bestK d bh a b) with
              | true =>
                have HBT := Lib.hid hbt
                have HN := Lib.hid (best_yes HC.out hbt)
                clear hbt
                go_wp2_with (go_at_call 96; refine (better_some _ _ _ _ _ HT.out.symm HP.out.symm).mono ?_; rintro e wb ⟨rfl, rfl⟩; rw [HBT.out])
                go_roundw
                case rel => exact ⟨b + 1, by omega, by go_num, by rw [← HT.out]; exact HF2.out.put hlt (fun k _ => by rw [bestF_put, HN.out])⟩
                case measure => simp [intOf]; omega
              | false =>
                have HBT := Lib.hid hbt
                have HN := Lib.hid (best_stay HA.out hbt)
                clear hbt
                go_wp2_with (go_at_call 96; refine (better_some _ _ _ _ _ HT.out.symm HP.out.symm).mono ?_; rintro e wb ⟨rfl, rfl⟩; rw [HBT.out])
                go_roundw
                case rel => exact ⟨b + 1, by omega, by go_num, HF2.out.same fun k _ => bestF_skip HN.out k⟩
                case measure => simp [intOf]; omega
        · obtain rfl : b = 5 := by omega
          go_wp2
          go_roundw
          case rel => exact ⟨a + 1, by omega, by go_num, hF.same fun k _ => bestF_row d bh a k⟩
          case measure => simp [intOf]; omega
    · obtain rfl : a = 5 := by omega
      have e0 := hF.bst 0 (by omega)
      have e1 := hF.bst 1 (by omega)
      have e2 := hF.bst 2 (by omega)
      have e3 := hF.bst 3 (by omega)
      have e4 := hF.bst 4 (by omega)
      rw [bestF_all (by omega)] at e0 e1 e2 e3 e4
      obtain ⟨⟨v0, r0⟩, z0⟩ := hF.res 0 (by omega)
      obtain ⟨⟨v1, r1⟩, z1⟩ := hF.res 1 (by omega)
      obtain ⟨⟨v2, r2⟩, z2⟩ := hF.res 2 (by omega)
      obtain ⟨⟨v3, r3⟩, z3⟩ := hF.res 3 (by omega)
      obtain ⟨⟨v4, r4⟩, z4⟩ := hF.res 4 (by omega)
      obtain ⟨e0, _⟩ := e0
      obtain ⟨e1, _⟩ := e1
      obtain ⟨e2, _⟩ := e2
      obtain ⟨e3, _⟩ := e3
      obtain ⟨e4, _⟩ := e4
      have hB := Lib.hid hF.below
      clear hF
      go_wp2
      obtain ⟨W, hW⟩ : ∃ W, W = ((((wr.setCell ⟨w.heap.size + 1, 0, none⟩ (sv (frontL d bh 0))).setCell ⟨w.heap.size + 1, 1, none⟩ (sv (frontL d bh 1))).setCell ⟨w.heap.size + 1, 2, none⟩ (sv (frontL d bh 2))).setCell ⟨w.heap.size + 1, 3, none⟩ (sv (frontL d bh 3))).setCell ⟨w.heap.size + 1, 4, none⟩ (sv (frontL d bh 4)) := ⟨_, rfl⟩
      obtain ⟨c0, c1, c2, c3, c4⟩ := set5 r0 r1 r2 r3 r4 W hW
      have hBW : Below w.heap.size w W := by
        rw [hW]
        refine ((((hB.out.setCell ?_ _).setCell ?_ _).setCell ?_ _).setCell ?_ _).setCell ?_ _ <;> (show w.heap.size ≤ w.heap.size + 1; omega)
      rw [← hW]
      exact bodyPost_ret (v := agg5 (frontL d bh)) (by simp [results, Tryd.results73, go_sem, c0, c1, c2, c3, c4, agg5]) rfl ⟨rfl, hBW⟩
end Go.Proofs.YtcmnjmhedmneiaaDoor
