/-
  Contract: Apart (ref).
-/
import Derived.Test.YtjghlfagdleglaaApart
namespace Go.Proofs.Ytjghlfagdleglaa
open Go.RowKit

def upTo (a : Int) (n : Nat) : List Int := (List.range n).map fun (i : Nat) => a + 1 + (i : Int)
theorem upTo_len (a : Int) (n : Nat) : (upTo a n).length = n := by simp [upTo]
theorem upTo_get {a : Int} {n k : Nat} (h : k < n) : (upTo a n)[k]? = some (a + 1 + (k : Int)) := by
  simp [upTo, List.getElem?_map, List.getElem?_range h]
def apR (ms ns : List (Int × Int)) (a b : Int) : Int × (Int × Int) := (upTo a (b - a).toNat).foldl (apF ms ns) (a, gapP ms ns a)

set_option maxRecDepth 100000 in
set_option maxHeartbeats 1600000 in
theorem refApart_any (ms ns : List (Int × Int)) (A B : Option Addr) (c d : Nat) (a b : Int) (w : World) (hA : Clk w A c ms) (hB : Clk w B d ns) :
    Calls Try.prog 48 #[.slice A ms.length c, .slice B ns.length d, .int .i64 a, .int .i64 b] w fun e w' => ∃ t p q E : Int,
      e = .returned (.tuple #[.int .i64 t, .agg #[.int .i64 p, .int .i64 q], .int .i64 E]) ∧ Below w.heap.size w w' ∧ Hid (E = apE ms ns a b ∧ (E = 0 → (t, (p, q)) = apR ms ns a b) ∧ (E ≠ 0 → t = 0 ∧ p = 0 ∧ q = 0)) := by
  have HA := Lib.hid hA
  have HB := Lib.hid hB
  clear hA hB
  by_cases hv : vkB ms = true
  · have HV := Lib.hid hv
    clear hv
    by_cases hv' : vkB ns = true
    · have HV' := Lib.hid hv'
      clear hv'
      by_cases hab : (tickB a = true ∧ tickB b = true) ∧ a ≤ b
      · obtain ⟨⟨ta, tb⟩, hle⟩ := hab
        obtain ⟨ha0, ha1⟩ : 0 ≤ a ∧ a ≤ 100000 := by simpa [tickB] using ta
        obtain ⟨hb0, hb1⟩ : 0 ≤ b ∧ b ≤ 100000 := by simpa [tickB] using tb
        have hE : Hid (apE ms ns a b = 0) := by show _ = _; rw [apE, HV.out, HV'.out, ta, tb, decide_eq_true hle]; rfl
        have TA : Hid True := Lib.hid trivial
        obtain ⟨g1, g2, hg0⟩ : ∃ p q, gapP ms ns a = (p, q) := ⟨_, _, rfl⟩
        have hgok := gap_ok HV.out HV'.out ta
        rw [hg0] at hgok
        obtain ⟨⟨og1, og2⟩, ⟨og3, og4⟩⟩ := hgok
        simp only at og1 og2 og3 og4
        have HG0 := Lib.hid hg0
        have HTA := Lib.hid ta
        clear hg0
        go_enter Try.func48, Try.ntmps48
        go_wp2_with (first
          | (go_at_call 33; have hstop := hB1; refine (refValidClock_any ns _ _ _ (HB.out.below hW1).marks HB.out.len).mono ?_; rintro e w2 ⟨he, hB2⟩; rw [HV'.out] at he; subst he; have hW2 := hW1.trans (hB2.mono hW1.size); have hR := (hB2.block _ (by omega)).trans HR1.out; have HR2 := Lib.hid hR; clear hR; have z2 := hB2.size)
          | (clear TA; go_at_call 33; refine (refValidClock_any ms _ _ _ (HA.out.below (by exact (by repeat (first | with_reducible exact Below.refl _ _ | with_reducible assumption | refine below_drewN ?_ _ | with_reducible refine Below.drew ?_ | (refine Below.setCell ?_ (by first | (simp; done) | (simp; omega) | omega) _) | (refine Below.alloc ?_ (by first | (simp; done) | (simp; omega) | omega) _))))).marks HA.out.len).mono ?_; rintro e w1 ⟨he, hB1⟩; rw [HV.out] at he; subst he; have hW1 : Below w.heap.size w w1 := Below.trans (by exact (by repeat (first | with_reducible exact Below.refl _ _ | with_reducible assumption | refine below_drewN ?_ _ | with_reducible refine Below.drew ?_ | (refine Below.setCell ?_ (by first | (simp; done) | (simp; omega) | omega) _) | (refine Below.alloc ?_ (by first | (simp; done) | (simp; omega) | omega) _)))) (hB1.mono (by simp)); have HR1 := Lib.hid ((hB1.block w.heap.size (by simp)).trans (heap_alloc_new w (.cells #[.int .i64 0, .int .i64 0] 36))); have z1 := hB1.size; simp at z1; have zR1 : w.heap.size < w1.heap.size := (by omega))
          | (go_at_call 61; refine (isTick_any _ _).mono ?_; rintro e w9 ⟨rfl, rfl⟩)
          | (go_at_call 78; refine (refapart_any ms ns A B c d a _ (HA.out.below (by exact (by repeat (first | with_reducible exact Below.refl _ _ | with_reducible assumption | refine below_drewN ?_ _ | with_reducible refine Below.drew ?_ | (refine Below.setCell ?_ (by first | (simp; done) | (simp; omega) | omega) _) | (refine Below.alloc ?_ (by first | (simp; done) | (simp; omega) | omega) _))))) (HB.out.below (by exact (by repeat (first | with_reducible exact Below.refl _ _ | with_reducible assumption | refine below_drewN ?_ _ | with_reducible refine Below.drew ?_ | (refine Below.setCell ?_ (by first | (simp; done) | (simp; omega) | omega) _) | (refine Below.alloc ?_ (by first | (simp; done) | (simp; omega) | omega) _))))) HV.out HV'.out HTA.out).mono ?_; rintro e w3 ⟨p, q, rfl, hB3, hF3⟩; obtain ⟨rfl, rfl⟩ : p = g1 ∧ q = g2 := (by have := hF3.out.trans HG0.out; injection this with h1 h2; exact ⟨h1, h2⟩); have hW3 := hW2.trans (hB3.mono hW2.size); have HR3 := Lib.hid ((hB3.block _ (by omega)).trans HR2.out); have z3 := hB3.size))
        have hW4 : Below w.heap.size w (w3.alloc (.cells #[.int .i64 p, .int .i64 q] 36)) := Below.alloc hW3 (by omega) _
        have hR4 := (Below.heap_alloc w3 (.cells #[.int .i64 p, .int .i64 q] 36) _ (by omega)).trans HR3.out
        have hM4 := heap_alloc_new w3 (.cells #[.int .i64 p, .int .i64 q] 36)
        have zRM : w.heap.size < w3.heap.size := by omega
        have nMR : w3.heap.size ≠ w.heap.size := by omega
        generalize hW : w3.alloc (.cells #[.int .i64 p, .int .i64 q] 36) = W4 at hW4 hR4 hM4 ⊢
        clear hW HR3 HR2 HR1 hB1 hB2 hB3 hW1 hW2 hW3
        generalize w3.heap.size = gM at hM4 nMR zRM z3 ⊢
        obtain ⟨N, hN⟩ : ∃ N : Nat, N = (b - a).toNat := ⟨_, rfl⟩
        have hNb : (N : Int) = b - a := by omega
        have HNB := Lib.hid hNb
        have HN := Lib.hid hN
        clear hN hNb
        go_loopw [11, 13] (fun v i wr => ∃ (k : Nat) (t p q x : Int), k ≤ N ∧ i = .int .i64 x ∧ v = .int .i64 t ∧ Below w.heap.size w wr ∧ wr.heap[w.heap.size]? = some (.cells #[.int .i64 0, .int .i64 0] 36 (0, 0)) ∧ wr.heap[gM]? = some (.cells #[.int .i64 p, .int .i64 q] 36 (0, 0)) ∧
            Hid (x = a + 1 + (k : Int) ∧ (t, (p, q)) = ((upTo a N).take k).foldl (apF ms ns) (a, gapP ms ns a) ∧ okG (p, q))) (fun _ i _ => (b + 1 - intOf i).toNat)
        case atStart => exact ⟨0, a, p, q, a + 1, Nat.zero_le _, rfl, rfl, hW4, hR4, hM4, by omega, by rw [HG0.out]; rfl, ⟨⟨og1, og2⟩, ⟨og3, og4⟩⟩⟩
        case round =>
          clear hW4 hR4 hM4
          obtain ⟨k, t, p1, q1, x, hk, rfl, rfl, hBw, hR, hM, hst⟩ := hrel
          clear og1 og2 og3 og4
          have hz := hBw.size
          have zM : gM < wr.heap.size := (Array.getElem?_eq_some_iff.1 hM).1
          have zR : w.heap.size < wr.heap.size := by omega
          have m0 := cell_of_row wr _ 0 _ _ _ hM
          have m1 := cell_of_row wr _ 1 _ _ _ hM
          have r0 := cell_of_row wr _ 0 _ _ _ hR
          have r1 := cell_of_row wr _ 1 _ _ _ hR
          simp at m0 m1 r0 r1
          have e0 := blk_frozen hR 0
          have e1 := blk_frozen hR 1
          have HR := Lib.hid hR
          have HM := Lib.hid hM
          have HBW := Lib.hid hBw
          obtain ⟨⟨op1, op2⟩, ⟨oq1, oq2⟩⟩ := hst.out.2.2
          simp only at op1 op2 oq1 oq2
          have hxk := hst.out.1
          by_cases hlt : k < N
          · have hxb : x ≤ b := by have := HNB.out; omega
            have hxa : 0 ≤ x := by omega
            have HX := Lib.hid (upTo_get (a := a) hlt)
            rw [← hxk] at HX
            clear hR hM hBw hxk
            have htx := tick_of (x := x) (by omega) (by omega)
            obtain ⟨g1, g2, hg0⟩ : ∃ p q, gapP ms ns x = (p, q) := ⟨_, _, rfl⟩
            have hgok := gap_ok HV.out HV'.out htx
            rw [hg0] at hgok
            have HOK := Lib.hid hgok
            obtain ⟨⟨og1, og2⟩, ⟨og3, og4⟩⟩ := hgok
            simp only at og1 og2 og3 og4
            have HG := Lib.hid hg0
            have HTX := Lib.hid htx
            clear hg0 htx
            have HNX : Hid (((if ltR (p1, q1) (g1, g2) then (x, (g1, g2)) else (t, (p1, q1)))) = apF ms ns (t, (p1, q1)) x) := by show _ = _; rw [apF, HG.out]
            cases hlt2 : ltR (p1, q1) (g1, g2)
            · have HNX' : Hid ((t, (p1, q1)) = ((upTo a N).take (k + 1)).foldl (apF ms ns) (a, gapP ms ns a)) := by show _ = _; rw [fold_take HX.out, ← hst.out.2.1, ← HNX.out, hlt2]; rfl
              have TB : Hid True := Lib.hid trivial
              go_wp2_with (first
                | (go_at_call 78; refine (refapart_any ms ns A B c d x _ (HA.out.below HBW.out) (HB.out.below HBW.out) HV.out HV'.out HTX.out).mono ?_; rintro e w7 ⟨g1', g2', rfl, hB7, hF7⟩; obtain ⟨rfl, rfl⟩ : g1 = g1' ∧ g2 = g2' := (by have := HG.out.symm.trans hF7.out.symm; injection this with h1 h2; exact ⟨h1, h2⟩); clear hF7; have z7 := hB7.size; have m0 := (hB7.cell (p := ⟨gM, 0, none⟩) zM).trans m0; have m1 := (hB7.cell (p := ⟨gM, 1, none⟩) zM).trans m1; have s7 : gM < w7.heap.size := (by omega))
                | (go_at_call 55; refine (more_any _ g1 g2 p1 q1 _ (Nat.le_refl _) (by omega) (by omega) (by omega) (by omega)).mono ?_; rintro e w8 ⟨he, hB8⟩; rw [hlt2] at he; subst he; have z8 := hB8.size; simp at z8; have HB8 : Hid (Below wr.heap.size wr w8) := hB7.trans (Below.trans (show Below wr.heap.size w7 (w7.alloc (.cells #[.int .i64 g1, .int .i64 g2] 36)) from Below.alloc (Below.refl _ _) z7 _) (hB8.mono (by simp; omega))); have v0 := (hB8.cell (p := ⟨w7.heap.size, 0, none⟩) (by simp)).trans (cell_of_row _ _ 0 _ _ _ (heap_alloc_new w7 (.cells #[.int .i64 g1, .int .i64 g2] 36))); have v1 := (hB8.cell (p := ⟨w7.heap.size, 1, none⟩) (by simp)).trans (cell_of_row _ _ 1 _ _ _ (heap_alloc_new w7 (.cells #[.int .i64 g1, .int .i64 g2] 36))); simp at v0 v1; have hM8 := (HB8.out.block gM zM).trans HM.out; have m0 := cell_of_row w8 _ 0 _ _ _ hM8; have m1 := cell_of_row w8 _ 1 _ _ _ hM8; simp at m0 m1; have k0 := blk_frozen hM8 0; have k1 := blk_frozen hM8 1; have HM8 := Lib.hid hM8; clear hM8; have HR8 := Lib.hid ((HB8.out.block w.heap.size zR).trans HR.out); have HBW8 := Lib.hid (HBW.out.trans (HB8.out.mono hz)); have nG : w7.heap.size ≠ gM := (by omega); clear hB8))
              go_roundw
              case rel => exact ⟨k + 1, t, p1, q1, x + 1, by omega, by go_num, rfl, HBW8.out, HR8.out, HM8.out, by have := hst.out.1; omega, HNX'.out, hst.out.2.2⟩
              case measure => have := hst.out.1; have := HNB.out; simp [intOf]; omega
            · have HNX' : Hid ((x, (g1, g2)) = ((upTo a N).take (k + 1)).foldl (apF ms ns) (a, gapP ms ns a)) := by show _ = _; rw [fold_take HX.out, ← hst.out.2.1, ← HNX.out, hlt2]; rfl
              have TB : Hid True := Lib.hid trivial
              go_wp2_with (first
                | (go_at_call 78; refine (refapart_any ms ns A B c d x _ (HA.out.below HBW.out) (HB.out.below HBW.out) HV.out HV'.out HTX.out).mono ?_; rintro e w7 ⟨g1', g2', rfl, hB7, hF7⟩; obtain ⟨rfl, rfl⟩ : g1 = g1' ∧ g2 = g2' := (by have := HG.out.symm.trans hF7.out.symm; injection this with h1 h2; exact ⟨h1, h2⟩); clear hF7; have z7 := hB7.size; have m0 := (hB7.cell (p := ⟨gM, 0, none⟩) zM).trans m0; have m1 := (hB7.cell (p := ⟨gM, 1, none⟩) zM).trans m1; have s7 : gM < w7.heap.size := (by omega))
                | (go_at_call 55; refine (more_any _ g1 g2 p1 q1 _ (Nat.le_refl _) (by omega) (by omega) (by omega) (by omega)).mono ?_; rintro e w8 ⟨he, hB8⟩; rw [hlt2] at he; subst he; have z8 := hB8.size; simp at z8; have HB8 : Hid (Below wr.heap.size wr w8) := hB7.trans (Below.trans (show Below wr.heap.size w7 (w7.alloc (.cells #[.int .i64 g1, .int .i64 g2] 36)) from Below.alloc (Below.refl _ _) z7 _) (hB8.mono (by simp; omega))); have v0 := (hB8.cell (p := ⟨w7.heap.size, 0, none⟩) (by simp)).trans (cell_of_row _ _ 0 _ _ _ (heap_alloc_new w7 (.cells #[.int .i64 g1, .int .i64 g2] 36))); have v1 := (hB8.cell (p := ⟨w7.heap.size, 1, none⟩) (by simp)).trans (cell_of_row _ _ 1 _ _ _ (heap_alloc_new w7 (.cells #[.int .i64 g1, .int .i64 g2] 36))); simp at v0 v1; have hM8 := (HB8.out.block gM zM).trans HM.out; have m0 := cell_of_row w8 _ 0 _ _ _ hM8; have m1 := cell_of_row w8 _ 1 _ _ _ hM8; simp at m0 m1; have k0 := blk_frozen hM8 0; have k1 := blk_frozen hM8 1; have HM8 := Lib.hid hM8; clear hM8; have HR8 := Lib.hid ((HB8.out.block w.heap.size zR).trans HR.out); have HBW8 := Lib.hid (HBW.out.trans (HB8.out.mono hz)); have nG : w7.heap.size ≠ gM := (by omega); clear hB8))
              go_region_held3 (fun w' => w'.cell? ⟨w7.heap.size, 0, none⟩ = some (.int .i64 g1) ∧ w'.cell? ⟨w7.heap.size, 1, none⟩ = some (.int .i64 g2))
                ((simp only [cell_drew']; first | with_reducible exact ⟨v0, v1⟩ | exact ⟨(cell_far2 (p := ⟨w7.heap.size, _, none⟩) nG).trans v0, (cell_far2 (p := ⟨w7.heap.size, _, none⟩) nG).trans v1⟩))
                ((fail))
              go_wp2
              go_roundw
              case rel => exact ⟨k + 1, x, g1, g2, x + 1, by omega, by go_num, rfl, (Below.setCell (Below.setCell HBW8.out (by show _ ≤ gM; omega) _) (by show _ ≤ gM; omega) _).drew, (set2_far (Ne.symm nMR)).trans HR8.out, set2_row HM8.out, by have := hst.out.1; omega, HNX'.out, HOK.out⟩
              case measure => have := hst.out.1; have := HNB.out; simp [intOf]; omega
          · obtain rfl : k = N := by omega
            have fin : Hid ((t, (p1, q1)) = apR ms ns a b) := by
              have := hst.out.2.1
              rw [List.take_of_length_le (by rw [upTo_len]; omega), HN.out] at this
              exact this
            have hxb : b < x := by have := HNB.out; omega
            clear hR hM
            go_wp2
            go_region_held3 (fun w' => w'.cell? ⟨gM, 0, none⟩ = some (.int .i64 p1) ∧ w'.cell? ⟨gM, 1, none⟩ = some (.int .i64 q1))
              ((simp only [cell_drew']; first | with_reducible exact ⟨m0, m1⟩ | exact ⟨(cell_far2 (p := ⟨gM, _, none⟩) nMR).trans m0, (cell_far2 (p := ⟨gM, _, none⟩) nMR).trans m1⟩))
              ((fail))
            go_wp2
            refine bodyPost_ret (v := .tuple #[.int .i64 t, .agg #[.int .i64 p1, .int .i64 q1], .int .i64 0]) (by simp [results, Try.results48, go_sem, r0, r1]) rfl
              ⟨t, p1, q1, 0, rfl, by refine Below.drew (Below.setCell (Below.setCell HBW.out ?_ _) ?_ _) <;> simp, hE.out.symm, fun _ => fin.out, fun h => absurd rfl h⟩
      · have TA : Hid True := Lib.hid trivial
        have hE : Hid (2 = apE ms ns a b) := by
          show _ = _
          rw [apE, HV.out, HV'.out]
          have : (tickB a && tickB b && decide (a ≤ b)) = false := by
            cases h1 : tickB a <;> cases h2 : tickB b <;> simp_all
          rw [this]; rfl
        have HAB := Lib.hid hab
        clear hab
        go_enter Try.func48, Try.ntmps48
        cases h1 : tickB a
        · go_wp2_with (first
            | (go_at_call 33; have hstop := hB1; refine (refValidClock_any ns _ _ _ (HB.out.below hW1).marks HB.out.len).mono ?_; rintro e w2 ⟨he, hB2⟩; rw [HV'.out] at he; subst he; have hW2 := hW1.trans (hB2.mono hW1.size); have hR := (hB2.block _ (by omega)).trans HR1.out; have HR2 := Lib.hid hR; clear hR; have z2 := hB2.size; have c0 := cell_of_row w2 _ 0 _ _ _ HR2.out; have c1 := cell_of_row w2 _ 1 _ _ _ HR2.out; simp at c0 c1; have e0 := blk_frozen HR2.out 0; have e1 := blk_frozen HR2.out 1)
            | (clear TA; go_at_call 33; refine (refValidClock_any ms _ _ _ (HA.out.below (by exact (by repeat (first | with_reducible exact Below.refl _ _ | with_reducible assumption | refine below_drewN ?_ _ | with_reducible refine Below.drew ?_ | (refine Below.setCell ?_ (by first | (simp; done) | (simp; omega) | omega) _) | (refine Below.alloc ?_ (by first | (simp; done) | (simp; omega) | omega) _))))).marks HA.out.len).mono ?_; rintro e w1 ⟨he, hB1⟩; rw [HV.out] at he; subst he; have hW1 : Below w.heap.size w w1 := Below.trans (by exact (by repeat (first | with_reducible exact Below.refl _ _ | with_reducible assumption | refine below_drewN ?_ _ | with_reducible refine Below.drew ?_ | (refine Below.setCell ?_ (by first | (simp; done) | (simp; omega) | omega) _) | (refine Below.alloc ?_ (by first | (simp; done) | (simp; omega) | omega) _)))) (hB1.mono (by simp)); have HR1 := Lib.hid ((hB1.block w.heap.size (by simp)).trans (heap_alloc_new w (.cells #[.int .i64 0, .int .i64 0] 36))); have z1 := hB1.size; simp at z1; have zR1 : w.heap.size < w1.heap.size := (by omega))
            | (go_at_call 61; refine (isTick_any _ _).mono ?_; rintro e w9 ⟨rfl, rfl⟩))
          refine bodyPost_ret (v := .tuple #[.int .i64 0, .agg #[.int .i64 0, .int .i64 0], .int .i64 2]) (by simp [results, Try.results48, go_sem, c0, c1]) rfl
            ⟨0, 0, 0, 2, rfl, by refine Below.setCell (Below.setCell hW2 ?_ _) ?_ _ <;> simp, hE.out, fun h => absurd h (by omega), fun _ => ⟨rfl, rfl, rfl⟩⟩
        · cases h2 : tickB b
          · go_wp2_with (first
              | (go_at_call 33; have hstop := hB1; refine (refValidClock_any ns _ _ _ (HB.out.below hW1).marks HB.out.len).mono ?_; rintro e w2 ⟨he, hB2⟩; rw [HV'.out] at he; subst he; have hW2 := hW1.trans (hB2.mono hW1.size); have hR := (hB2.block _ (by omega)).trans HR1.out; have HR2 := Lib.hid hR; clear hR; have z2 := hB2.size; have c0 := cell_of_row w2 _ 0 _ _ _ HR2.out; have c1 := cell_of_row w2 _ 1 _ _ _ HR2.out; simp at c0 c1; have e0 := blk_frozen HR2.out 0; have e1 := blk_frozen HR2.out 1)
              | (clear TA; go_at_call 33; refine (refValidClock_any ms _ _ _ (HA.out.below (by exact (by repeat (first | with_reducible exact Below.refl _ _ | with_reducible assumption | refine below_drewN ?_ _ | with_reducible refine Below.drew ?_ | (refine Below.setCell ?_ (by first | (simp; done) | (simp; omega) | omega) _) | (refine Below.alloc ?_ (by first | (simp; done) | (simp; omega) | omega) _))))).marks HA.out.len).mono ?_; rintro e w1 ⟨he, hB1⟩; rw [HV.out] at he; subst he; have hW1 : Below w.heap.size w w1 := Below.trans (by exact (by repeat (first | with_reducible exact Below.refl _ _ | with_reducible assumption | refine below_drewN ?_ _ | with_reducible refine Below.drew ?_ | (refine Below.setCell ?_ (by first | (simp; done) | (simp; omega) | omega) _) | (refine Below.alloc ?_ (by first | (simp; done) | (simp; omega) | omega) _)))) (hB1.mono (by simp)); have HR1 := Lib.hid ((hB1.block w.heap.size (by simp)).trans (heap_alloc_new w (.cells #[.int .i64 0, .int .i64 0] 36))); have z1 := hB1.size; simp at z1; have zR1 : w.heap.size < w1.heap.size := (by omega))
              | (go_at_call 61; refine (isTick_any _ _).mono ?_; rintro e w9 ⟨rfl, rfl⟩))
            refine bodyPost_ret (v := .tuple #[.int .i64 0, .agg #[.int .i64 0, .int .i64 0], .int .i64 2]) (by simp [results, Try.results48, go_sem, c0, c1]) rfl
              ⟨0, 0, 0, 2, rfl, by refine Below.setCell (Below.setCell hW2 ?_ _) ?_ _ <;> simp, hE.out, fun h => absurd h (by omega), fun _ => ⟨rfl, rfl, rfl⟩⟩
          · have h3 : b < a := by
              have := HAB.out
              rw [h1, h2] at this
              simp at this
              omega
            go_wp2_with (first
              | (go_at_call 33; have hstop := hB1; refine (refValidClock_any ns _ _ _ (HB.out.below hW1).marks HB.out.len).mono ?_; rintro e w2 ⟨he, hB2⟩; rw [HV'.out] at he; subst he; have hW2 := hW1.trans (hB2.mono hW1.size); have hR := (hB2.block _ (by omega)).trans HR1.out; have HR2 := Lib.hid hR; clear hR; have z2 := hB2.size; have c0 := cell_of_row w2 _ 0 _ _ _ HR2.out; have c1 := cell_of_row w2 _ 1 _ _ _ HR2.out; simp at c0 c1; have e0 := blk_frozen HR2.out 0; have e1 := blk_frozen HR2.out 1)
              | (clear TA; go_at_call 33; refine (refValidClock_any ms _ _ _ (HA.out.below (by exact (by repeat (first | with_reducible exact Below.refl _ _ | with_reducible assumption | refine below_drewN ?_ _ | with_reducible refine Below.drew ?_ | (refine Below.setCell ?_ (by first | (simp; done) | (simp; omega) | omega) _) | (refine Below.alloc ?_ (by first | (simp; done) | (simp; omega) | omega) _))))).marks HA.out.len).mono ?_; rintro e w1 ⟨he, hB1⟩; rw [HV.out] at he; subst he; have hW1 : Below w.heap.size w w1 := Below.trans (by exact (by repeat (first | with_reducible exact Below.refl _ _ | with_reducible assumption | refine below_drewN ?_ _ | with_reducible refine Below.drew ?_ | (refine Below.setCell ?_ (by first | (simp; done) | (simp; omega) | omega) _) | (refine Below.alloc ?_ (by first | (simp; done) | (simp; omega) | omega) _)))) (hB1.mono (by simp)); have HR1 := Lib.hid ((hB1.block w.heap.size (by simp)).trans (heap_alloc_new w (.cells #[.int .i64 0, .int .i64 0] 36))); have z1 := hB1.size; simp at z1; have zR1 : w.heap.size < w1.heap.size := (by omega))
              | (go_at_call 61; refine (isTick_any _ _).mono ?_; rintro e w9 ⟨rfl, rfl⟩))
            refine bodyPost_ret (v := .tuple #[.int .i64 0, .agg #[.int .i64 0, .int .i64 0], .int .i64 2]) (by simp [results, Try.results48, go_sem, c0, c1]) rfl
              ⟨0, 0, 0, 2, rfl, by refine Below.setCell (Below.setCell hW2 ?_ _) ?_ _ <;> simp, hE.out, fun h => absurd h (by omega), fun _ => ⟨rfl, rfl, rfl⟩⟩
    · have hv2 : vkB ns = false := by simpa using hv'
      have TA : Hid True := Lib.hid trivial
      have hE : Hid (11 = apE ms ns a b) := by show _ = _; rw [apE, HV.out, hv2]; rfl
      go_enter Try.func48, Try.ntmps48
      go_wp2_with (first
        | (go_at_call 33; have hstop := hB1; refine (refValidClock_any ns _ _ _ (HB.out.below hW1).marks HB.out.len).mono ?_; rintro e w2 ⟨he, hB2⟩; rw [hv2] at he; subst he; have hW2 := hW1.trans (hB2.mono hW1.size); have hR := (hB2.block _ (by omega)).trans HR1.out; have HR2 := Lib.hid hR; clear hR; have z2 := hB2.size; have c0 := cell_of_row w2 _ 0 _ _ _ HR2.out; have c1 := cell_of_row w2 _ 1 _ _ _ HR2.out; simp at c0 c1; have e0 := blk_frozen HR2.out 0; have e1 := blk_frozen HR2.out 1)
        | (clear TA; go_at_call 33; refine (refValidClock_any ms _ _ _ (HA.out.below (by exact (by repeat (first | with_reducible exact Below.refl _ _ | with_reducible assumption | refine below_drewN ?_ _ | with_reducible refine Below.drew ?_ | (refine Below.setCell ?_ (by first | (simp; done) | (simp; omega) | omega) _) | (refine Below.alloc ?_ (by first | (simp; done) | (simp; omega) | omega) _))))).marks HA.out.len).mono ?_; rintro e w1 ⟨he, hB1⟩; rw [HV.out] at he; subst he; have hW1 : Below w.heap.size w w1 := Below.trans (by exact (by repeat (first | with_reducible exact Below.refl _ _ | with_reducible assumption | refine below_drewN ?_ _ | with_reducible refine Below.drew ?_ | (refine Below.setCell ?_ (by first | (simp; done) | (simp; omega) | omega) _) | (refine Below.alloc ?_ (by first | (simp; done) | (simp; omega) | omega) _)))) (hB1.mono (by simp)); have HR1 := Lib.hid ((hB1.block w.heap.size (by simp)).trans (heap_alloc_new w (.cells #[.int .i64 0, .int .i64 0] 36))); have z1 := hB1.size; simp at z1; have zR1 : w.heap.size < w1.heap.size := (by omega)))
      refine bodyPost_ret (v := .tuple #[.int .i64 0, .agg #[.int .i64 0, .int .i64 0], .int .i64 11]) (by simp [results, Try.results48, go_sem, c0, c1]) rfl
        ⟨0, 0, 0, 11, rfl, by refine Below.setCell (Below.setCell hW2 ?_ _) ?_ _ <;> simp, hE.out, fun h => absurd h (by omega), fun _ => ⟨rfl, rfl, rfl⟩⟩
  · have hv2 : vkB ms = false := by simpa using hv
    have hE : Hid (11 = apE ms ns a b) := by show _ = _; rw [apE, hv2]; rfl
    have TA : Hid True := Lib.hid trivial
    go_enter Try.func48, Try.ntmps48
    go_wp2_with (first
      | (clear TA; go_at_call 33; refine (refValidClock_any ms _ _ _ (HA.out.below (by exact (by repeat (first | with_reducible exact Below.refl _ _ | with_reducible assumption | refine below_drewN ?_ _ | with_reducible refine Below.drew ?_ | (refine Below.setCell ?_ (by first | (simp; done) | (simp; omega) | omega) _) | (refine Below.alloc ?_ (by first | (simp; done) | (simp; omega) | omega) _))))).marks HA.out.len).mono ?_; rintro e w1 ⟨he, hB1⟩; rw [hv2] at he; subst he; have hW1 : Below w.heap.size w w1 := Below.trans (by exact (by repeat (first | with_reducible exact Below.refl _ _ | with_reducible assumption | refine below_drewN ?_ _ | with_reducible refine Below.drew ?_ | (refine Below.setCell ?_ (by first | (simp; done) | (simp; omega) | omega) _) | (refine Below.alloc ?_ (by first | (simp; done) | (simp; omega) | omega) _)))) (hB1.mono (by simp)); have HR1 := Lib.hid ((hB1.block w.heap.size (by simp)).trans (heap_alloc_new w (.cells #[.int .i64 0, .int .i64 0] 36))); have c0 := cell_of_row w1 _ 0 _ _ _ HR1.out; have c1 := cell_of_row w1 _ 1 _ _ _ HR1.out; simp at c0 c1; have e0 := blk_frozen HR1.out 0; have e1 := blk_frozen HR1.out 1))
    refine bodyPost_ret (v := .tuple #[.int .i64 0, .agg #[.int .i64 0, .int .i64 0], .int .i64 11]) (by simp [results, Try.results48, go_sem, c0, c1]) rfl
      ⟨0, 0, 0, 11, rfl, by refine Below.setCell (Below.setCell hW1 ?_ _) ?_ _ <;> simp, hE.out, fun h => absurd h (by omega), fun _ => ⟨rfl, rfl, rfl⟩⟩
end Go.Proofs.Ytjghlfagdleglaa
