/-
  Contract: Speeds (firnref01).
-/
import Derived.Test.YtjghlfagdleglaaRefStraight
namespace Go.Proofs.Ytjghlfagdleglaa
open Go.RowKit

set_option maxRecDepth 100000 in
set_option maxHeartbeats 1600000 in
theorem refSpeeds_any (ms : List (Int × Int)) (A : Option Addr) (c : Nat) (w : World) (h : Clk w A c ms) :
    Calls Try.prog 39 #[.slice A ms.length c] w fun e w' => ∃ a b p q E : Int,
      e = .returned (.tuple #[.agg #[.int .i64 a, .int .i64 b], .agg #[.int .i64 p, .int .i64 q], .int .i64 E]) ∧ Below w.heap.size w w' ∧ Hid ((a, b) = spsN1 ms ∧ (p, q) = spsN2 ms ∧ E = clkE ms) := by
  have H := Lib.hid h
  clear h
  by_cases hv : vkB ms = true
  · obtain ⟨hn2, hn30⟩ := vk_parts hv
    have HV := Lib.hid hv
    clear hv
    obtain ⟨bl, off, rfl, hbk, hcells⟩ := H.out.marks.open_ (by omega)
    have HC := Lib.hid hcells
    clear hcells
    go_enter Try.func39, Try.ntmps39
    go_wp2_with (go_at_call 33; refine (refValidClock_any _ _ _ _ (H.out.below (by repeat (first | with_reducible exact Below.refl _ _ | with_reducible assumption | refine below_drewN ?_ _ | with_reducible refine Below.drew ?_ | (refine Below.setCell ?_ (by first | (simp; done) | (simp; omega) | omega) _) | (refine Below.alloc ?_ (by first | (simp; done) | (simp; omega) | omega) _)))).marks H.out.len).mono ?_; rintro e w1 ⟨he, hB1⟩; rw [HV.out] at he; subst he; have hW1 : Below w.heap.size w w1 := Below.trans (by exact (by repeat (first | with_reducible exact Below.refl _ _ | with_reducible assumption | refine below_drewN ?_ _ | with_reducible refine Below.drew ?_ | (refine Below.setCell ?_ (by first | (simp; done) | (simp; omega) | omega) _) | (refine Below.alloc ?_ (by first | (simp; done) | (simp; omega) | omega) _)))) (hB1.mono (by first | (simp; done) | (simp; omega) | omega)))
    have z1 := hB1.size
    simp at z1
    have hG : w1.heap[w.heap.size]? = some (.cells #[.int .i64 0, .int .i64 0] 36 (0, 0)) := (hB1.block w.heap.size (by simp; omega)).trans ((Below.heap_alloc _ _ _ (by simp)).trans (heap_alloc_new w _))
    have hG' : w1.heap[w.heap.size + 1]? = some (.cells #[.int .i64 0, .int .i64 0] 36 (0, 0)) := (hB1.block (w.heap.size + 1) (by simp)).trans (by rw [show w.heap.size + 1 = (w.alloc (.cells #[.int .i64 0, .int .i64 0] 36)).heap.size by simp]; exact heap_alloc_new _ _)
    have n10 : w.heap.size + 1 ≠ w.heap.size := by omega
    have n01 : w.heap.size ≠ w.heap.size + 1 := by omega
    have hne : bl ≠ w.heap.size := by omega
    have hne2 : bl ≠ w.heap.size + 1 := by omega
    go_loopw [5] (fun i wr => ∃ (k : Nat) (l0 l1 m0 m1 : Int), 1 ≤ k ∧ k ≤ ms.length ∧ i = .int .i64 k ∧ Below w.heap.size w wr ∧ wr.heap[w.heap.size]? = some (.cells #[.int .i64 l0, .int .i64 l1] 36 (0, 0)) ∧ wr.heap[w.heap.size + 1]? = some (.cells #[.int .i64 m0, .int .i64 m1] 36 (0, 0)) ∧
        Hid (2 ≤ k → (l0, l1) = leastK ms (k - 2) ∧ (m0, m1) = mostK ms (k - 2))) (fun i _ => ms.length - (intOf i).toNat)
    case atStart => exact ⟨1, 0, 0, 0, 0, by omega, by omega, rfl, hW1, hG, hG', fun h => absurd h (by omega)⟩
    case round =>
      clear hB1 hW1 hG hG' z1
      obtain ⟨k, l0, l1, m0, m1, hk1, hk, rfl, hB, hg, hg', hlm⟩ := hrel
      by_cases hlt : k < ms.length
      · obtain ⟨a', b', hx⟩ := getM_of_lt (show k - 1 < ms.length by omega)
        obtain ⟨a, b, hy⟩ := getM_of_lt hlt
        have hy' : ms[k - 1 + 1]? = some (a, b) := by rw [show k - 1 + 1 = k by omega]; exact hy
        have f0 := (hB.cell (p := ⟨bl, off + (k - 1) * 2, none⟩) hbk).trans (HC.out _ _ hx).1
        have f1 := (hB.cell (p := ⟨bl, off + (k - 1) * 2 + 1, none⟩) hbk).trans (HC.out _ _ hx).2
        have f2 := (hB.cell (p := ⟨bl, off + k * 2, none⟩) hbk).trans (HC.out _ _ hy).1
        have f3 := (hB.cell (p := ⟨bl, off + k * 2 + 1, none⟩) hbk).trans (HC.out _ _ hy).2
        obtain ⟨s, t, hst⟩ : ∃ s t, spdL ms (k - 1) = (s, t) := ⟨_, _, rfl⟩
        have b0 := vk_at HV.out hx
        have b1 := vk_at HV.out hy
        have l0' := vk_lt HV.out hx hy'
        have HS1 : Hid (lowN (b - b') (a - a') = s ∧ lowD (b - b') (a - a') = t) := by
          have := (spdL_of hx hy').symm.trans hst
          injection this with h1 h2; exact ⟨h1, h2⟩
        obtain ⟨⟨o1, o2⟩, ⟨o3, o4⟩⟩ := by have := spdL_ok HV.out (show k - 1 + 1 < ms.length by omega); rw [hst] at this; exact this
        simp only at o1 o2 o3 o4
        have HST := Lib.hid hst
        have z := hB.size
        have zg : w.heap.size + 1 < wr.heap.size := (Array.getElem?_eq_some_iff.1 hg').1
        have zg0 : w.heap.size < wr.heap.size := by omega
        have hbW : bl < wr.heap.size := by omega
        have hnbl : bl ≠ wr.heap.size := by omega
        have HG := Lib.hid hg
        have HG' := Lib.hid hg'
        have HB := Lib.hid hB
        have i3 : (0 : Int) ≤ (k : Int) - 1 := by omega
        have i4 : (k : Int) - 1 < (ms.length : Int) := by omega
        have i0 : (0 : Int) ≤ (k : Int) := by omega
        have i1 : (k : Int) < (ms.length : Int) := by omega
        have i7 : (1 : Int) ≤ (k : Int) := by omega
        have i8 : (k : Int) ≤ (ms.length : Int) := by omega
        have i2 : IntKind.i64.wrap ((k : Int) - 1) = (k : Int) - 1 := IntWalk.i64_in _ (by omega)
        have i5 : ((k : Int) - 1).toNat = k - 1 := by omega
        clear hg hg' hB hst hx hy hy'
        go_wp2
        go_region_held3 (fun w' => w'.cell? ⟨bl, off + (k - 1) * 2, none⟩ = some (.int .i64 a') ∧ w'.cell? ⟨bl, off + (k - 1) * 2 + 1, none⟩ = some (.int .i64 b') ∧ w'.cell? ⟨bl, off + k * 2, none⟩ = some (.int .i64 a) ∧ w'.cell? ⟨bl, off + k * 2 + 1, none⟩ = some (.int .i64 b))
          (((try simp only [cell_drew']); first | with_reducible exact ⟨f0, f1, f2, f3⟩ | exact ⟨(World.cell?_alloc_lt _ _ ⟨bl, _, none⟩ (by show bl < _; omega)).trans f0, (World.cell?_alloc_lt _ _ ⟨bl, _, none⟩ (by show bl < _; omega)).trans f1, (World.cell?_alloc_lt _ _ ⟨bl, _, none⟩ (by show bl < _; omega)).trans f2, (World.cell?_alloc_lt _ _ ⟨bl, _, none⟩ (by show bl < _; omega)).trans f3⟩ | exact ⟨(cell_far2 (p := ⟨bl, _, none⟩) hnbl).trans f0, (cell_far2 (p := ⟨bl, _, none⟩) hnbl).trans f1, (cell_far2 (p := ⟨bl, _, none⟩) hnbl).trans f2, (cell_far2 (p := ⟨bl, _, none⟩) hnbl).trans f3⟩))
          ((go_at_call 72; refine (refspeed_any a' b' a b _ (by omega) (by omega) (by omega) (by omega) (by omega) (by omega)).mono ?_; rintro e w3 ⟨he, hB3⟩; rw [HS1.out.1, HS1.out.2] at he; subst he; have f0 : w3.cell? ⟨bl, off + (k - 1) * 2, none⟩ = some (.int .i64 a') := (by first | exact (hB3.cell (p := ⟨bl, off + (k - 1) * 2, none⟩) hbW).trans f0 | exact (hB3.cell (p := ⟨bl, off + (k - 1) * 2, none⟩) (by show bl < _; simp; omega)).trans ((World.cell?_alloc_lt wr _ ⟨bl, off + (k - 1) * 2, none⟩ hbW).trans f0)); have f1 : w3.cell? ⟨bl, off + (k - 1) * 2 + 1, none⟩ = some (.int .i64 b') := (by first | exact (hB3.cell (p := ⟨bl, off + (k - 1) * 2 + 1, none⟩) hbW).trans f1 | exact (hB3.cell (p := ⟨bl, off + (k - 1) * 2 + 1, none⟩) (by show bl < _; simp; omega)).trans ((World.cell?_alloc_lt wr _ ⟨bl, off + (k - 1) * 2 + 1, none⟩ hbW).trans f1)); have f2 : w3.cell? ⟨bl, off + k * 2, none⟩ = some (.int .i64 a) := (by first | exact (hB3.cell (p := ⟨bl, off + k * 2, none⟩) hbW).trans f2 | exact (hB3.cell (p := ⟨bl, off + k * 2, none⟩) (by show bl < _; simp; omega)).trans ((World.cell?_alloc_lt wr _ ⟨bl, off + k * 2, none⟩ hbW).trans f2)); have f3 : w3.cell? ⟨bl, off + k * 2 + 1, none⟩ = some (.int .i64 b) := (by first | exact (hB3.cell (p := ⟨bl, off + k * 2 + 1, none⟩) hbW).trans f3 | exact (hB3.cell (p := ⟨bl, off + k * 2 + 1, none⟩) (by show bl < _; simp; omega)).trans ((World.cell?_alloc_lt wr _ ⟨bl, off + k * 2 + 1, none⟩ hbW).trans f3)); (try have hn := (hB3.block wr.heap.size (by simp)).trans (heap_alloc_new wr (.cells #[.int .i64 0, .int .i64 0] 36))); (try have n0 := cell_of_row w3 wr.heap.size 0 _ _ _ hn); (try have n1 := cell_of_row w3 wr.heap.size 1 _ _ _ hn); (try simp at n0 n1); (try have e0 := blk_frozen hn 0); (try have e1 := blk_frozen hn 1); (try have HN := Lib.hid hn); (try clear hn); have z3 := hB3.size; (try simp at z3); have HB3 := Lib.hid hB3; clear hB3))
        · have v0 : (w3.alloc (.cells #[.int .i64 s, .int .i64 t] 36)).cell? ⟨w3.heap.size, 0, none⟩ = some (.int .i64 s) := cell_of_row _ _ 0 _ _ _ (heap_alloc_new w3 _)
          have v1 : (w3.alloc (.cells #[.int .i64 s, .int .i64 t] 36)).cell? ⟨w3.heap.size, 1, none⟩ = some (.int .i64 t) := cell_of_row _ _ 1 _ _ _ (heap_alloc_new w3 _)
          have HGW : Hid ((w3.alloc (.cells #[.int .i64 s, .int .i64 t] 36)).heap[w.heap.size]? = _) := (Below.heap_alloc _ _ _ (by omega)).trans ((HB3.out.block _ zg0).trans HG.out)
          have HGW' : Hid ((w3.alloc (.cells #[.int .i64 s, .int .i64 t] 36)).heap[w.heap.size + 1]? = _) := (Below.heap_alloc _ _ _ (by omega)).trans ((HB3.out.block _ zg).trans HG'.out)
          have HBW : Hid (Below w.heap.size w (w3.alloc (.cells #[.int .i64 s, .int .i64 t] 36))) := Below.alloc (HB.out.drew.trans (HB3.out.mono (by show _ ≤ wr.heap.size; omega))) (by omega) _
          have hnb : w3.heap.size < (w3.alloc (.cells #[.int .i64 s, .int .i64 t] 36)).heap.size := by simp
          have nG : w3.heap.size ≠ w.heap.size := by omega
          have nG1 : w3.heap.size ≠ w.heap.size + 1 := by omega
          clear f0 f1 f2 f3 HB3 HG HG' HB
          generalize w3.alloc (.cells #[.int .i64 s, .int .i64 t] 36) = W at v0 v1 HGW HGW' HBW hnb ⊢
          generalize w3.heap.size = nb at v0 v1 hnb nG nG1 z3 ⊢
          have zW : w.heap.size + 1 < W.heap.size := by omega
          have zW0 : w.heap.size < W.heap.size := by omega
          have c0 := cell_of_row W _ 0 _ _ _ HGW.out
          have c1 := cell_of_row W _ 1 _ _ _ HGW.out
          have c2 := cell_of_row W _ 0 _ _ _ HGW'.out
          have c3 := cell_of_row W _ 1 _ _ _ HGW'.out
          have e0 := blk_frozen HGW.out 0
          have e1 := blk_frozen HGW.out 1
          have e2 := blk_frozen HGW'.out 0
          have e3 := blk_frozen HGW'.out 1
          simp at c0 c1 c2 c3
          by_cases hk2 : k = 1
          · subst hk2
            obtain ⟨g0, g1⟩ := set22 (a := .int .i64 s) (b := .int .i64 t) (p := .int .i64 s) (q := .int .i64 t) HGW.out HGW'.out (by omega)
            have G0 := Lib.hid g0
            have G1 := Lib.hid g1
            clear g0 g1
            have w0 := (cell_far2 (x := .int .i64 s) (y := .int .i64 t) (p := ⟨nb, 0, none⟩) nG).trans v0
            have w1 := (cell_far2 (x := .int .i64 s) (y := .int .i64 t) (p := ⟨nb, 1, none⟩) nG).trans v1
            go_wp2
            go_roundw
            case rel => exact ⟨1 + 1, s, t, s, t, by omega, by omega, by go_num, by refine Below.setCell (Below.setCell (Below.setCell (Below.setCell (by first | exact HBW.out | exact HBW.out.drew) ?_ _) ?_ _) ?_ _) ?_ _ <;> simp, G0.out, G1.out, fun _ => ⟨by rw [leastK]; exact HST.out.symm, by rw [mostK]; exact HST.out.symm⟩⟩
            case measure => simp [intOf]; omega
          · have t1 : ((k : Int) == 1) = false := by simp; omega
            obtain ⟨hl, hm⟩ := hlm.out (by omega)
            obtain ⟨⟨o5, o6⟩, ⟨o7, o8⟩⟩ := by have := leastK_ok HV.out (show k - 2 + 1 < ms.length by omega); rw [← hl] at this; exact this
            obtain ⟨⟨o9, p1⟩, ⟨p2, p3⟩⟩ := by have := mostK_ok HV.out (show k - 2 + 1 < ms.length by omega); rw [← hm] at this; exact this
            simp only at o5 o6 o7 o8 o9 p1 p2 p3
            have ek : k - 1 = k - 2 + 1 := by omega
            have HK1 : Hid ((if ltR (s, t) (l0, l1) then (s, t) else (l0, l1)) = leastK ms (k - 1)) := by show _ = _; rw [ek, leastK, ← ek, HST.out, ← hl]
            have HK2 : Hid ((if ltR (m0, m1) (s, t) then (s, t) else (m0, m1)) = mostK ms (k - 1)) := by show _ = _; rw [ek, mostK, ← ek, HST.out, ← hm]
            clear hl hm hk2 ek
            cases hb1 : ltR (s, t) (l0, l1) <;> cases hb2 : ltR (m0, m1) (s, t)
            · have HK1' : Hid ((l0, l1) = leastK ms (k - 1)) := by have := HK1.out; rw [hb1] at this; exact this
              have HK2' : Hid ((m0, m1) = mostK ms (k - 1)) := by have := HK2.out; rw [hb2] at this; exact this
              clear HK1 HK2
              have TA : Hid True := Lib.hid trivial
              go_wp2_with (first
                | (go_at_call 53; have hstop := HG4; refine (refLess_any m0 m1 s t _ (by omega) (by omega) (by omega) (by omega) (by omega) (by omega) (by omega) (by omega)).mono ?_; rintro e w5 ⟨he, hB5⟩; rw [hb2] at he; subst he; have z5 := hB5.size; (try simp at z5); have v0 := (hB5.cell (p := ⟨nb, 0, none⟩) (by first | omega | (simp; omega))).trans (v0); have v1 := (hB5.cell (p := ⟨nb, 1, none⟩) (by first | omega | (simp; omega))).trans (v1); have HG5 := Lib.hid ((hB5.block w.heap.size (by first | omega | (simp; omega))).trans (HG4.out)); have hg' := (hB5.block (w.heap.size + 1) (by first | omega | (simp; omega))).trans (HG4'.out); have HB5 := Lib.hid ((HB4.out).trans (hB5.mono (by first | omega | (simp; omega)))); have c2 := cell_of_row w5 _ 0 _ _ _ hg'; have c3 := cell_of_row w5 _ 1 _ _ _ hg'; simp at c2 c3; have e2 := blk_frozen hg' 0; have e3 := blk_frozen hg' 1; have HG5' := Lib.hid hg'; clear hg')
                | (clear TA; go_at_call 53; refine (refLess_any s t l0 l1 _ (by omega) (by omega) (by omega) (by omega) (by omega) (by omega) (by omega) (by omega)).mono ?_; rintro e w4 ⟨he, hB4⟩; rw [hb1] at he; subst he; have z4 := hB4.size; (try simp at z4); have v0 := (hB4.cell (p := ⟨nb, 0, none⟩) (by first | omega | (simp; omega))).trans v0; have v1 := (hB4.cell (p := ⟨nb, 1, none⟩) (by first | omega | (simp; omega))).trans v1; have hg := (hB4.block w.heap.size (by first | omega | (simp; omega))).trans HGW.out; have hg' := (hB4.block (w.heap.size + 1) (by first | omega | (simp; omega))).trans HGW'.out; have HB4 : Hid (Below w.heap.size w w4) := (by first | exact HBW.out.trans (hB4.mono (by first | omega | (simp; omega))) | exact HBW.out.drew.trans (hB4.mono (by first | omega | (simp; omega)))); have c0 := cell_of_row w4 _ 0 _ _ _ hg; have c1 := cell_of_row w4 _ 1 _ _ _ hg; have c2 := cell_of_row w4 _ 0 _ _ _ hg'; have c3 := cell_of_row w4 _ 1 _ _ _ hg'; simp at c0 c1 c2 c3; have e0 := blk_frozen hg 0; have e1 := blk_frozen hg 1; have HG4 := Lib.hid hg; have HG4' := Lib.hid hg'; clear hg hg'))
              go_roundw
              case rel => exact ⟨k + 1, l0, l1, m0, m1, by omega, by omega, by go_num, HB5.out, HG5.out, HG5'.out, fun _ => ⟨HK1'.out, HK2'.out⟩⟩
              case measure => simp [intOf]; omega
            · have HK1' : Hid ((l0, l1) = leastK ms (k - 1)) := by have := HK1.out; rw [hb1] at this; exact this
              have HK2' : Hid ((s, t) = mostK ms (k - 1)) := by have := HK2.out; rw [hb2] at this; exact this
              clear HK1 HK2
              have TA : Hid True := Lib.hid trivial
              go_wp2_with (first
                | (go_at_call 53; have hstop := HG4; refine (refLess_any m0 m1 s t _ (by omega) (by omega) (by omega) (by omega) (by omega) (by omega) (by omega) (by omega)).mono ?_; rintro e w5 ⟨he, hB5⟩; rw [hb2] at he; subst he; have z5 := hB5.size; (try simp at z5); have v0 := (hB5.cell (p := ⟨nb, 0, none⟩) (by first | omega | (simp; omega))).trans (v0); have v1 := (hB5.cell (p := ⟨nb, 1, none⟩) (by first | omega | (simp; omega))).trans (v1); have HG5 := Lib.hid ((hB5.block w.heap.size (by first | omega | (simp; omega))).trans (HG4.out)); have hg' := (hB5.block (w.heap.size + 1) (by first | omega | (simp; omega))).trans (HG4'.out); have HB5 := Lib.hid ((HB4.out).trans (hB5.mono (by first | omega | (simp; omega)))); have c2 := cell_of_row w5 _ 0 _ _ _ hg'; have c3 := cell_of_row w5 _ 1 _ _ _ hg'; simp at c2 c3; have e2 := blk_frozen hg' 0; have e3 := blk_frozen hg' 1; have HG5' := Lib.hid hg'; clear hg')
                | (clear TA; go_at_call 53; refine (refLess_any s t l0 l1 _ (by omega) (by omega) (by omega) (by omega) (by omega) (by omega) (by omega) (by omega)).mono ?_; rintro e w4 ⟨he, hB4⟩; rw [hb1] at he; subst he; have z4 := hB4.size; (try simp at z4); have v0 := (hB4.cell (p := ⟨nb, 0, none⟩) (by first | omega | (simp; omega))).trans v0; have v1 := (hB4.cell (p := ⟨nb, 1, none⟩) (by first | omega | (simp; omega))).trans v1; have hg := (hB4.block w.heap.size (by first | omega | (simp; omega))).trans HGW.out; have hg' := (hB4.block (w.heap.size + 1) (by first | omega | (simp; omega))).trans HGW'.out; have HB4 : Hid (Below w.heap.size w w4) := (by first | exact HBW.out.trans (hB4.mono (by first | omega | (simp; omega))) | exact HBW.out.drew.trans (hB4.mono (by first | omega | (simp; omega)))); have c0 := cell_of_row w4 _ 0 _ _ _ hg; have c1 := cell_of_row w4 _ 1 _ _ _ hg; have c2 := cell_of_row w4 _ 0 _ _ _ hg'; have c3 := cell_of_row w4 _ 1 _ _ _ hg'; simp at c0 c1 c2 c3; have e0 := blk_frozen hg 0; have e1 := blk_frozen hg 1; have HG4 := Lib.hid hg; have HG4' := Lib.hid hg'; clear hg hg'))
              go_roundw
              case rel => exact ⟨k + 1, l0, l1, s, t, by omega, by omega, by go_num, Below.setCell (Below.setCell HB5.out (by simp) _) (by simp) _, (set2_far n01).trans HG5.out, set2_row HG5'.out, fun _ => ⟨HK1'.out, HK2'.out⟩⟩
              case measure => simp [intOf]; omega
            · have HK1' : Hid ((s, t) = leastK ms (k - 1)) := by have := HK1.out; rw [hb1] at this; exact this
              have HK2' : Hid ((m0, m1) = mostK ms (k - 1)) := by have := HK2.out; rw [hb2] at this; exact this
              clear HK1 HK2
              have TA : Hid True := Lib.hid trivial
              go_wp2_with (first
                | (go_at_call 53; have hstop := HG4; refine (refLess_any m0 m1 s t _ (by omega) (by omega) (by omega) (by omega) (by omega) (by omega) (by omega) (by omega)).mono ?_; rintro e w5 ⟨he, hB5⟩; rw [hb2] at he; subst he; have z5 := hB5.size; (try simp at z5); have v0 := (hB5.cell (p := ⟨nb, 0, none⟩) (by first | omega | (simp; omega))).trans ((cell_far2 (p := ⟨nb, 0, none⟩) nG).trans v0); have v1 := (hB5.cell (p := ⟨nb, 1, none⟩) (by first | omega | (simp; omega))).trans ((cell_far2 (p := ⟨nb, 1, none⟩) nG).trans v1); have HG5 := Lib.hid ((hB5.block w.heap.size (by first | omega | (simp; omega))).trans (set2_row HG4.out)); have hg' := (hB5.block (w.heap.size + 1) (by first | omega | (simp; omega))).trans ((set2_far n10).trans HG4'.out); have HB5 := Lib.hid (((Below.setCell (Below.setCell HB4.out (by simp) _) (by simp) _)).trans (hB5.mono (by first | omega | (simp; omega)))); have c2 := cell_of_row w5 _ 0 _ _ _ hg'; have c3 := cell_of_row w5 _ 1 _ _ _ hg'; simp at c2 c3; have e2 := blk_frozen hg' 0; have e3 := blk_frozen hg' 1; have HG5' := Lib.hid hg'; clear hg')
                | (clear TA; go_at_call 53; refine (refLess_any s t l0 l1 _ (by omega) (by omega) (by omega) (by omega) (by omega) (by omega) (by omega) (by omega)).mono ?_; rintro e w4 ⟨he, hB4⟩; rw [hb1] at he; subst he; have z4 := hB4.size; (try simp at z4); have v0 := (hB4.cell (p := ⟨nb, 0, none⟩) (by first | omega | (simp; omega))).trans v0; have v1 := (hB4.cell (p := ⟨nb, 1, none⟩) (by first | omega | (simp; omega))).trans v1; have hg := (hB4.block w.heap.size (by first | omega | (simp; omega))).trans HGW.out; have hg' := (hB4.block (w.heap.size + 1) (by first | omega | (simp; omega))).trans HGW'.out; have HB4 : Hid (Below w.heap.size w w4) := (by first | exact HBW.out.trans (hB4.mono (by first | omega | (simp; omega))) | exact HBW.out.drew.trans (hB4.mono (by first | omega | (simp; omega)))); have c0 := cell_of_row w4 _ 0 _ _ _ hg; have c1 := cell_of_row w4 _ 1 _ _ _ hg; have c2 := cell_of_row w4 _ 0 _ _ _ hg'; have c3 := cell_of_row w4 _ 1 _ _ _ hg'; simp at c0 c1 c2 c3; have e0 := blk_frozen hg 0; have e1 := blk_frozen hg 1; have HG4 := Lib.hid hg; have HG4' := Lib.hid hg'; clear hg hg'))
              go_roundw
              case rel => exact ⟨k + 1, s, t, m0, m1, by omega, by omega, by go_num, HB5.out, HG5.out, HG5'.out, fun _ => ⟨HK1'.out, HK2'.out⟩⟩
              case measure => simp [intOf]; omega
            · have HK1' : Hid ((s, t) = leastK ms (k - 1)) := by have := HK1.out; rw [hb1] at this; exact this
              have HK2' : Hid ((s, t) = mostK ms (k - 1)) := by have := HK2.out; rw [hb2] at this; exact this
              clear HK1 HK2
              have TA : Hid True := Lib.hid trivial
              go_wp2_with (first
                | (go_at_call 53; have hstop := HG4; refine (refLess_any m0 m1 s t _ (by omega) (by omega) (by omega) (by omega) (by omega) (by omega) (by omega) (by omega)).mono ?_; rintro e w5 ⟨he, hB5⟩; rw [hb2] at he; subst he; have z5 := hB5.size; (try simp at z5); have v0 := (hB5.cell (p := ⟨nb, 0, none⟩) (by first | omega | (simp; omega))).trans ((cell_far2 (p := ⟨nb, 0, none⟩) nG).trans v0); have v1 := (hB5.cell (p := ⟨nb, 1, none⟩) (by first | omega | (simp; omega))).trans ((cell_far2 (p := ⟨nb, 1, none⟩) nG).trans v1); have HG5 := Lib.hid ((hB5.block w.heap.size (by first | omega | (simp; omega))).trans (set2_row HG4.out)); have hg' := (hB5.block (w.heap.size + 1) (by first | omega | (simp; omega))).trans ((set2_far n10).trans HG4'.out); have HB5 := Lib.hid (((Below.setCell (Below.setCell HB4.out (by simp) _) (by simp) _)).trans (hB5.mono (by first | omega | (simp; omega)))); have c2 := cell_of_row w5 _ 0 _ _ _ hg'; have c3 := cell_of_row w5 _ 1 _ _ _ hg'; simp at c2 c3; have e2 := blk_frozen hg' 0; have e3 := blk_frozen hg' 1; have HG5' := Lib.hid hg'; clear hg')
                | (clear TA; go_at_call 53; refine (refLess_any s t l0 l1 _ (by omega) (by omega) (by omega) (by omega) (by omega) (by omega) (by omega) (by omega)).mono ?_; rintro e w4 ⟨he, hB4⟩; rw [hb1] at he; subst he; have z4 := hB4.size; (try simp at z4); have v0 := (hB4.cell (p := ⟨nb, 0, none⟩) (by first | omega | (simp; omega))).trans v0; have v1 := (hB4.cell (p := ⟨nb, 1, none⟩) (by first | omega | (simp; omega))).trans v1; have hg := (hB4.block w.heap.size (by first | omega | (simp; omega))).trans HGW.out; have hg' := (hB4.block (w.heap.size + 1) (by first | omega | (simp; omega))).trans HGW'.out; have HB4 : Hid (Below w.heap.size w w4) := (by first | exact HBW.out.trans (hB4.mono (by first | omega | (simp; omega))) | exact HBW.out.drew.trans (hB4.mono (by first | omega | (simp; omega)))); have c0 := cell_of_row w4 _ 0 _ _ _ hg; have c1 := cell_of_row w4 _ 1 _ _ _ hg; have c2 := cell_of_row w4 _ 0 _ _ _ hg'; have c3 := cell_of_row w4 _ 1 _ _ _ hg'; simp at c0 c1 c2 c3; have e0 := blk_frozen hg 0; have e1 := blk_frozen hg 1; have HG4 := Lib.hid hg; have HG4' := Lib.hid hg'; clear hg hg'))
              go_roundw
              case rel => exact ⟨k + 1, s, t, s, t, by omega, by omega, by go_num, Below.setCell (Below.setCell HB5.out (by simp) _) (by simp) _, (set2_far n01).trans HG5.out, set2_row HG5'.out, fun _ => ⟨HK1'.out, HK2'.out⟩⟩
              case measure => simp [intOf]; omega
        · have hrow := set2_row (x := .int .i64 s) (y := .int .i64 t) HN.out
          have v0 : ((w3.setCell ⟨wr.heap.size, 0, none⟩ (.int .i64 s)).setCell ⟨wr.heap.size, 1, none⟩ (.int .i64 t)).cell? ⟨wr.heap.size, 0, none⟩ = some (.int .i64 s) := cell_of_row _ _ 0 _ _ _ hrow
          have v1 : ((w3.setCell ⟨wr.heap.size, 0, none⟩ (.int .i64 s)).setCell ⟨wr.heap.size, 1, none⟩ (.int .i64 t)).cell? ⟨wr.heap.size, 1, none⟩ = some (.int .i64 t) := cell_of_row _ _ 1 _ _ _ hrow
          have HGW : Hid (((w3.setCell ⟨wr.heap.size, 0, none⟩ (.int .i64 s)).setCell ⟨wr.heap.size, 1, none⟩ (.int .i64 t)).heap[w.heap.size]? = _) := (set2_far (by omega)).trans ((HB3.out.block _ (by show _ < (wr.alloc _).heap.size; simp; omega)).trans ((Below.heap_alloc _ _ _ zg0).trans HG.out))
          have HGW' : Hid (((w3.setCell ⟨wr.heap.size, 0, none⟩ (.int .i64 s)).setCell ⟨wr.heap.size, 1, none⟩ (.int .i64 t)).heap[w.heap.size + 1]? = _) := (set2_far (by omega)).trans ((HB3.out.block _ (by show _ < (wr.alloc _).heap.size; simp; omega)).trans ((Below.heap_alloc _ _ _ zg).trans HG'.out))
          have HBW : Hid (Below w.heap.size w ((w3.setCell ⟨wr.heap.size, 0, none⟩ (.int .i64 s)).setCell ⟨wr.heap.size, 1, none⟩ (.int .i64 t))) := by
            show Below _ _ _
            refine Below.setCell (Below.setCell ((Below.alloc HB.out (by omega) _).drew.trans (HB3.out.mono (by show _ ≤ (wr.alloc _).heap.size; simp; omega))) ?_ _) ?_ _ <;> (simp; omega)
          have hnb : wr.heap.size < ((w3.setCell ⟨wr.heap.size, 0, none⟩ (.int .i64 s)).setCell ⟨wr.heap.size, 1, none⟩ (.int .i64 t)).heap.size := by simp; omega
          have nG : wr.heap.size ≠ w.heap.size := by omega
          have nG1 : wr.heap.size ≠ w.heap.size + 1 := by omega
          clear f0 f1 f2 f3 HB3 HG HG' HB HN hrow n0 n1 e0 e1
          generalize ((w3.setCell ⟨wr.heap.size, 0, none⟩ (.int .i64 s)).setCell ⟨wr.heap.size, 1, none⟩ (.int .i64 t)) = W at v0 v1 HGW HGW' HBW hnb ⊢
          have zW : w.heap.size + 1 < W.heap.size := by omega
          have zW0 : w.heap.size < W.heap.size := by omega
          generalize wr.heap.size = nb at v0 v1 hnb nG nG1 ⊢
          have c0 := cell_of_row W _ 0 _ _ _ HGW.out
          have c1 := cell_of_row W _ 1 _ _ _ HGW.out
          have c2 := cell_of_row W _ 0 _ _ _ HGW'.out
          have c3 := cell_of_row W _ 1 _ _ _ HGW'.out
          have e0 := blk_frozen HGW.out 0
          have e1 := blk_frozen HGW.out 1
          have e2 := blk_frozen HGW'.out 0
          have e3 := blk_frozen HGW'.out 1
          simp at c0 c1 c2 c3
          by_cases hk2 : k = 1
          · subst hk2
            obtain ⟨g0, g1⟩ := set22 (a := .int .i64 s) (b := .int .i64 t) (p := .int .i64 s) (q := .int .i64 t) HGW.out HGW'.out (by omega)
            have G0 := Lib.hid g0
            have G1 := Lib.hid g1
            clear g0 g1
            have w0 := (cell_far2 (x := .int .i64 s) (y := .int .i64 t) (p := ⟨nb, 0, none⟩) nG).trans v0
            have w1 := (cell_far2 (x := .int .i64 s) (y := .int .i64 t) (p := ⟨nb, 1, none⟩) nG).trans v1
            go_wp2
            go_roundw
            case rel => exact ⟨1 + 1, s, t, s, t, by omega, by omega, by go_num, by refine Below.setCell (Below.setCell (Below.setCell (Below.setCell (by first | exact HBW.out | exact HBW.out.drew) ?_ _) ?_ _) ?_ _) ?_ _ <;> simp, G0.out, G1.out, fun _ => ⟨by rw [leastK]; exact HST.out.symm, by rw [mostK]; exact HST.out.symm⟩⟩
            case measure => simp [intOf]; omega
          · have t1 : ((k : Int) == 1) = false := by simp; omega
            obtain ⟨hl, hm⟩ := hlm.out (by omega)
            obtain ⟨⟨o5, o6⟩, ⟨o7, o8⟩⟩ := by have := leastK_ok HV.out (show k - 2 + 1 < ms.length by omega); rw [← hl] at this; exact this
            obtain ⟨⟨o9, p1⟩, ⟨p2, p3⟩⟩ := by have := mostK_ok HV.out (show k - 2 + 1 < ms.length by omega); rw [← hm] at this; exact this
            simp only at o5 o6 o7 o8 o9 p1 p2 p3
            have ek : k - 1 = k - 2 + 1 := by omega
            have HK1 : Hid ((if ltR (s, t) (l0, l1) then (s, t) else (l0, l1)) = leastK ms (k - 1)) := by show _ = _; rw [ek, leastK, ← ek, HST.out, ← hl]
            have HK2 : Hid ((if ltR (m0, m1) (s, t) then (s, t) else (m0, m1)) = mostK ms (k - 1)) := by show _ = _; rw [ek, mostK, ← ek, HST.out, ← hm]
            clear hl hm hk2 ek
            cases hb1 : ltR (s, t) (l0, l1) <;> cases hb2 : ltR (m0, m1) (s, t)
            · have HK1' : Hid ((l0, l1) = leastK ms (k - 1)) := by have := HK1.out; rw [hb1] at this; exact this
              have HK2' : Hid ((m0, m1) = mostK ms (k - 1)) := by have := HK2.out; rw [hb2] at this; exact this
              clear HK1 HK2
              have TA : Hid True := Lib.hid trivial
              go_wp2_with (first
                | (go_at_call 53; have hstop := HG4; refine (refLess_any m0 m1 s t _ (by omega) (by omega) (by omega) (by omega) (by omega) (by omega) (by omega) (by omega)).mono ?_; rintro e w5 ⟨he, hB5⟩; rw [hb2] at he; subst he; have z5 := hB5.size; (try simp at z5); have v0 := (hB5.cell (p := ⟨nb, 0, none⟩) (by first | omega | (simp; omega))).trans (v0); have v1 := (hB5.cell (p := ⟨nb, 1, none⟩) (by first | omega | (simp; omega))).trans (v1); have HG5 := Lib.hid ((hB5.block w.heap.size (by first | omega | (simp; omega))).trans (HG4.out)); have hg' := (hB5.block (w.heap.size + 1) (by first | omega | (simp; omega))).trans (HG4'.out); have HB5 := Lib.hid ((HB4.out).trans (hB5.mono (by first | omega | (simp; omega)))); have c2 := cell_of_row w5 _ 0 _ _ _ hg'; have c3 := cell_of_row w5 _ 1 _ _ _ hg'; simp at c2 c3; have e2 := blk_frozen hg' 0; have e3 := blk_frozen hg' 1; have HG5' := Lib.hid hg'; clear hg')
                | (clear TA; go_at_call 53; refine (refLess_any s t l0 l1 _ (by omega) (by omega) (by omega) (by omega) (by omega) (by omega) (by omega) (by omega)).mono ?_; rintro e w4 ⟨he, hB4⟩; rw [hb1] at he; subst he; have z4 := hB4.size; (try simp at z4); have v0 := (hB4.cell (p := ⟨nb, 0, none⟩) (by first | omega | (simp; omega))).trans v0; have v1 := (hB4.cell (p := ⟨nb, 1, none⟩) (by first | omega | (simp; omega))).trans v1; have hg := (hB4.block w.heap.size (by first | omega | (simp; omega))).trans HGW.out; have hg' := (hB4.block (w.heap.size + 1) (by first | omega | (simp; omega))).trans HGW'.out; have HB4 : Hid (Below w.heap.size w w4) := (by first | exact HBW.out.trans (hB4.mono (by first | omega | (simp; omega))) | exact HBW.out.drew.trans (hB4.mono (by first | omega | (simp; omega)))); have c0 := cell_of_row w4 _ 0 _ _ _ hg; have c1 := cell_of_row w4 _ 1 _ _ _ hg; have c2 := cell_of_row w4 _ 0 _ _ _ hg'; have c3 := cell_of_row w4 _ 1 _ _ _ hg'; simp at c0 c1 c2 c3; have e0 := blk_frozen hg 0; have e1 := blk_frozen hg 1; have HG4 := Lib.hid hg; have HG4' := Lib.hid hg'; clear hg hg'))
              go_roundw
              case rel => exact ⟨k + 1, l0, l1, m0, m1, by omega, by omega, by go_num, HB5.out, HG5.out, HG5'.out, fun _ => ⟨HK1'.out, HK2'.out⟩⟩
              case measure => simp [intOf]; omega
            · have HK1' : Hid ((l0, l1) = leastK ms (k - 1)) := by have := HK1.out; rw [hb1] at this; exact this
              have HK2' : Hid ((s, t) = mostK ms (k - 1)) := by have := HK2.out; rw [hb2] at this; exact this
              clear HK1 HK2
              have TA : Hid True := Lib.hid trivial
              go_wp2_with (first
                | (go_at_call 53; have hstop := HG4; refine (refLess_any m0 m1 s t _ (by omega) (by omega) (by omega) (by omega) (by omega) (by omega) (by omega) (by omega)).mono ?_; rintro e w5 ⟨he, hB5⟩; rw [hb2] at he; subst he; have z5 := hB5.size; (try simp at z5); have v0 := (hB5.cell (p := ⟨nb, 0, none⟩) (by first | omega | (simp; omega))).trans (v0); have v1 := (hB5.cell (p := ⟨nb, 1, none⟩) (by first | omega | (simp; omega))).trans (v1); have HG5 := Lib.hid ((hB5.block w.heap.size (by first | omega | (simp; omega))).trans (HG4.out)); have hg' := (hB5.block (w.heap.size + 1) (by first | omega | (simp; omega))).trans (HG4'.out); have HB5 := Lib.hid ((HB4.out).trans (hB5.mono (by first | omega | (simp; omega)))); have c2 := cell_of_row w5 _ 0 _ _ _ hg'; have c3 := cell_of_row w5 _ 1 _ _ _ hg'; simp at c2 c3; have e2 := blk_frozen hg' 0; have e3 := blk_frozen hg' 1; have HG5' := Lib.hid hg'; clear hg')
                | (clear TA; go_at_call 53; refine (refLess_any s t l0 l1 _ (by omega) (by omega) (by omega) (by omega) (by omega) (by omega) (by omega) (by omega)).mono ?_; rintro e w4 ⟨he, hB4⟩; rw [hb1] at he; subst he; have z4 := hB4.size; (try simp at z4); have v0 := (hB4.cell (p := ⟨nb, 0, none⟩) (by first | omega | (simp; omega))).trans v0; have v1 := (hB4.cell (p := ⟨nb, 1, none⟩) (by first | omega | (simp; omega))).trans v1; have hg := (hB4.block w.heap.size (by first | omega | (simp; omega))).trans HGW.out; have hg' := (hB4.block (w.heap.size + 1) (by first | omega | (simp; omega))).trans HGW'.out; have HB4 : Hid (Below w.heap.size w w4) := (by first | exact HBW.out.trans (hB4.mono (by first | omega | (simp; omega))) | exact HBW.out.drew.trans (hB4.mono (by first | omega | (simp; omega)))); have c0 := cell_of_row w4 _ 0 _ _ _ hg; have c1 := cell_of_row w4 _ 1 _ _ _ hg; have c2 := cell_of_row w4 _ 0 _ _ _ hg'; have c3 := cell_of_row w4 _ 1 _ _ _ hg'; simp at c0 c1 c2 c3; have e0 := blk_frozen hg 0; have e1 := blk_frozen hg 1; have HG4 := Lib.hid hg; have HG4' := Lib.hid hg'; clear hg hg'))
              go_roundw
              case rel => exact ⟨k + 1, l0, l1, s, t, by omega, by omega, by go_num, Below.setCell (Below.setCell HB5.out (by simp) _) (by simp) _, (set2_far n01).trans HG5.out, set2_row HG5'.out, fun _ => ⟨HK1'.out, HK2'.out⟩⟩
              case measure => simp [intOf]; omega
            · have HK1' : Hid ((s, t) = leastK ms (k - 1)) := by have := HK1.out; rw [hb1] at this; exact this
              have HK2' : Hid ((m0, m1) = mostK ms (k - 1)) := by have := HK2.out; rw [hb2] at this; exact this
              clear HK1 HK2
              have TA : Hid True := Lib.hid trivial
              go_wp2_with (first
                | (go_at_call 53; have hstop := HG4; refine (refLess_any m0 m1 s t _ (by omega) (by omega) (by omega) (by omega) (by omega) (by omega) (by omega) (by omega)).mono ?_; rintro e w5 ⟨he, hB5⟩; rw [hb2] at he; subst he; have z5 := hB5.size; (try simp at z5); have v0 := (hB5.cell (p := ⟨nb, 0, none⟩) (by first | omega | (simp; omega))).trans ((cell_far2 (p := ⟨nb, 0, none⟩) nG).trans v0); have v1 := (hB5.cell (p := ⟨nb, 1, none⟩) (by first | omega | (simp; omega))).trans ((cell_far2 (p := ⟨nb, 1, none⟩) nG).trans v1); have HG5 := Lib.hid ((hB5.block w.heap.size (by first | omega | (simp; omega))).trans (set2_row HG4.out)); have hg' := (hB5.block (w.heap.size + 1) (by first | omega | (simp; omega))).trans ((set2_far n10).trans HG4'.out); have HB5 := Lib.hid (((Below.setCell (Below.setCell HB4.out (by simp) _) (by simp) _)).trans (hB5.mono (by first | omega | (simp; omega)))); have c2 := cell_of_row w5 _ 0 _ _ _ hg'; have c3 := cell_of_row w5 _ 1 _ _ _ hg'; simp at c2 c3; have e2 := blk_frozen hg' 0; have e3 := blk_frozen hg' 1; have HG5' := Lib.hid hg'; clear hg')
                | (clear TA; go_at_call 53; refine (refLess_any s t l0 l1 _ (by omega) (by omega) (by omega) (by omega) (by omega) (by omega) (by omega) (by omega)).mono ?_; rintro e w4 ⟨he, hB4⟩; rw [hb1] at he; subst he; have z4 := hB4.size; (try simp at z4); have v0 := (hB4.cell (p := ⟨nb, 0, none⟩) (by first | omega | (simp; omega))).trans v0; have v1 := (hB4.cell (p := ⟨nb, 1, none⟩) (by first | omega | (simp; omega))).trans v1; have hg := (hB4.block w.heap.size (by first | omega | (simp; omega))).trans HGW.out; have hg' := (hB4.block (w.heap.size + 1) (by first | omega | (simp; omega))).trans HGW'.out; have HB4 : Hid (Below w.heap.size w w4) := (by first | exact HBW.out.trans (hB4.mono (by first | omega | (simp; omega))) | exact HBW.out.drew.trans (hB4.mono (by first | omega | (simp; omega)))); have c0 := cell_of_row w4 _ 0 _ _ _ hg; have c1 := cell_of_row w4 _ 1 _ _ _ hg; have c2 := cell_of_row w4 _ 0 _ _ _ hg'; have c3 := cell_of_row w4 _ 1 _ _ _ hg'; simp at c0 c1 c2 c3; have e0 := blk_frozen hg 0; have e1 := blk_frozen hg 1; have HG4 := Lib.hid hg; have HG4' := Lib.hid hg'; clear hg hg'))
              go_roundw
              case rel => exact ⟨k + 1, s, t, m0, m1, by omega, by omega, by go_num, HB5.out, HG5.out, HG5'.out, fun _ => ⟨HK1'.out, HK2'.out⟩⟩
              case measure => simp [intOf]; omega
            · have HK1' : Hid ((s, t) = leastK ms (k - 1)) := by have := HK1.out; rw [hb1] at this; exact this
              have HK2' : Hid ((s, t) = mostK ms (k - 1)) := by have := HK2.out; rw [hb2] at this; exact this
              clear HK1 HK2
              have TA : Hid True := Lib.hid trivial
              go_wp2_with (first
                | (go_at_call 53; have hstop := HG4; refine (refLess_any m0 m1 s t _ (by omega) (by omega) (by omega) (by omega) (by omega) (by omega) (by omega) (by omega)).mono ?_; rintro e w5 ⟨he, hB5⟩; rw [hb2] at he; subst he; have z5 := hB5.size; (try simp at z5); have v0 := (hB5.cell (p := ⟨nb, 0, none⟩) (by first | omega | (simp; omega))).trans ((cell_far2 (p := ⟨nb, 0, none⟩) nG).trans v0); have v1 := (hB5.cell (p := ⟨nb, 1, none⟩) (by first | omega | (simp; omega))).trans ((cell_far2 (p := ⟨nb, 1, none⟩) nG).trans v1); have HG5 := Lib.hid ((hB5.block w.heap.size (by first | omega | (simp; omega))).trans (set2_row HG4.out)); have hg' := (hB5.block (w.heap.size + 1) (by first | omega | (simp; omega))).trans ((set2_far n10).trans HG4'.out); have HB5 := Lib.hid (((Below.setCell (Below.setCell HB4.out (by simp) _) (by simp) _)).trans (hB5.mono (by first | omega | (simp; omega)))); have c2 := cell_of_row w5 _ 0 _ _ _ hg'; have c3 := cell_of_row w5 _ 1 _ _ _ hg'; simp at c2 c3; have e2 := blk_frozen hg' 0; have e3 := blk_frozen hg' 1; have HG5' := Lib.hid hg'; clear hg')
                | (clear TA; go_at_call 53; refine (refLess_any s t l0 l1 _ (by omega) (by omega) (by omega) (by omega) (by omega) (by omega) (by omega) (by omega)).mono ?_; rintro e w4 ⟨he, hB4⟩; rw [hb1] at he; subst he; have z4 := hB4.size; (try simp at z4); have v0 := (hB4.cell (p := ⟨nb, 0, none⟩) (by first | omega | (simp; omega))).trans v0; have v1 := (hB4.cell (p := ⟨nb, 1, none⟩) (by first | omega | (simp; omega))).trans v1; have hg := (hB4.block w.heap.size (by first | omega | (simp; omega))).trans HGW.out; have hg' := (hB4.block (w.heap.size + 1) (by first | omega | (simp; omega))).trans HGW'.out; have HB4 : Hid (Below w.heap.size w w4) := (by first | exact HBW.out.trans (hB4.mono (by first | omega | (simp; omega))) | exact HBW.out.drew.trans (hB4.mono (by first | omega | (simp; omega)))); have c0 := cell_of_row w4 _ 0 _ _ _ hg; have c1 := cell_of_row w4 _ 1 _ _ _ hg; have c2 := cell_of_row w4 _ 0 _ _ _ hg'; have c3 := cell_of_row w4 _ 1 _ _ _ hg'; simp at c0 c1 c2 c3; have e0 := blk_frozen hg 0; have e1 := blk_frozen hg 1; have HG4 := Lib.hid hg; have HG4' := Lib.hid hg'; clear hg hg'))
              go_roundw
              case rel => exact ⟨k + 1, s, t, s, t, by omega, by omega, by go_num, Below.setCell (Below.setCell HB5.out (by simp) _) (by simp) _, (set2_far n01).trans HG5.out, set2_row HG5'.out, fun _ => ⟨HK1'.out, HK2'.out⟩⟩
              case measure => simp [intOf]; omega
      · obtain rfl : k = ms.length := by omega
        obtain ⟨hl, hm⟩ := hlm.out (by omega)
        have HL := Lib.hid hl
        have HM := Lib.hid hm
        clear hl hm
        have c0 := cell_of_row wr _ 0 _ _ _ hg
        have c1 := cell_of_row wr _ 1 _ _ _ hg
        have c2 := cell_of_row wr _ 0 _ _ _ hg'
        have c3 := cell_of_row wr _ 1 _ _ _ hg'
        have e0 := blk_frozen hg 0
        have e1 := blk_frozen hg 1
        have e2 := blk_frozen hg' 0
        have e3 := blk_frozen hg' 1
        simp at c0 c1 c2 c3
        clear hg hg'
        go_wp2
        go_region_held3 (fun w' => w'.cell? ⟨w.heap.size, 0, none⟩ = some (.int .i64 l0) ∧ w'.cell? ⟨w.heap.size, 1, none⟩ = some (.int .i64 l1) ∧ w'.cell? ⟨w.heap.size + 1, 0, none⟩ = some (.int .i64 m0) ∧ w'.cell? ⟨w.heap.size + 1, 1, none⟩ = some (.int .i64 m1))
          ((simp only [cell_drew']; first | with_reducible exact ⟨c0, c1, c2, c3⟩ | with_reducible exact ⟨same2_0 c0, same2_1 c1, (cell_far2 (p := ⟨w.heap.size + 1, _, none⟩) n10).trans c2, (cell_far2 (p := ⟨w.heap.size + 1, _, none⟩) n10).trans c3⟩ | with_reducible exact ⟨(cell_far2 (p := ⟨w.heap.size, _, none⟩) n01).trans (same2_0 c0), (cell_far2 (p := ⟨w.heap.size, _, none⟩) n01).trans (same2_1 c1), same2_0 ((cell_far2 (p := ⟨w.heap.size + 1, _, none⟩) n10).trans c2), same2_1 ((cell_far2 (p := ⟨w.heap.size + 1, _, none⟩) n10).trans c3)⟩))
          ((fail))
        go_wp2
        refine bodyPost_ret (v := .tuple #[.agg #[.int .i64 l0, .int .i64 l1], .agg #[.int .i64 m0, .int .i64 m1], .int .i64 0]) (by simp [results, Try.results39, go_sem, c0, c1, c2, c3]) rfl
          ⟨l0, l1, m0, m1, 0, rfl, by refine Below.drew (Below.setCell (Below.setCell (Below.setCell (Below.setCell hB ?_ _) ?_ _) ?_ _) ?_ _) <;> simp, ?_⟩
        refine ⟨?_, ?_, ?_⟩
        · show (l0, l1) = spsN1 ms
          rw [spsN1, if_pos HV.out, HL.out]
        · show (m0, m1) = spsN2 ms
          rw [spsN2, if_pos HV.out, HM.out]
        · simp [clkE, HV.out]
  · have hv2 : vkB ms = false := by simpa using hv
    go_enter Try.func39, Try.ntmps39
    go_wp2_with (first
      | (go_at_call 33; refine (refValidClock_any _ _ _ _ (H.out.below (by repeat (first | with_reducible exact Below.refl _ _ | with_reducible assumption | refine below_drewN ?_ _ | with_reducible refine Below.drew ?_ | (refine Below.setCell ?_ (by first | (simp; done) | (simp; omega) | omega) _) | (refine Below.alloc ?_ (by first | (simp; done) | (simp; omega) | omega) _)))).marks H.out.len).mono ?_; rintro e w1 ⟨he, hB1⟩; rw [hv2] at he; subst he; have hW1 : Below w.heap.size w w1 := Below.trans (by exact (by repeat (first | with_reducible exact Below.refl _ _ | with_reducible assumption | refine below_drewN ?_ _ | with_reducible refine Below.drew ?_ | (refine Below.setCell ?_ (by first | (simp; done) | (simp; omega) | omega) _) | (refine Below.alloc ?_ (by first | (simp; done) | (simp; omega) | omega) _)))) (hB1.mono (by first | (simp; done) | (simp; omega) | omega)); have z1 := hB1.size; simp at z1; have hG := (hB1.block w.heap.size (by simp; omega)).trans ((Below.heap_alloc _ _ _ (by simp)).trans (heap_alloc_new w _)); have hG' : w1.heap[w.heap.size + 1]? = some (.cells #[.int .i64 0, .int .i64 0] 36 (0, 0)) := (hB1.block (w.heap.size + 1) (by simp)).trans (by rw [show w.heap.size + 1 = (w.alloc (.cells #[.int .i64 0, .int .i64 0] 36)).heap.size by simp]; exact heap_alloc_new _ _); have e0 := blk_frozen hG 0; have e1 := blk_frozen hG 1; have e2 := blk_frozen hG' 0; have e3 := blk_frozen hG' 1; have c0 := cell_of_row w1 _ 0 _ _ _ hG; have c1 := cell_of_row w1 _ 1 _ _ _ hG; have c2 := cell_of_row w1 _ 0 _ _ _ hG'; have c3 := cell_of_row w1 _ 1 _ _ _ hG'; simp at c0 c1 c2 c3; have HG := Lib.hid hG; have HG' := Lib.hid hG'; clear hG hG'; have n10 : w.heap.size + 1 ≠ w.heap.size := (by omega); have n01 : w.heap.size ≠ w.heap.size + 1 := (by omega)))
    obtain ⟨g0, g1⟩ := set22 (a := .int .i64 0) (b := .int .i64 0) (p := .int .i64 0) (q := .int .i64 0) HG.out HG'.out (by omega)
    have hBW : Below w.heap.size w ((((w1.setCell ⟨w.heap.size, 0, none⟩ (.int .i64 0)).setCell ⟨w.heap.size, 1, none⟩ (.int .i64 0)).setCell ⟨w.heap.size + 1, 0, none⟩ (.int .i64 0)).setCell ⟨w.heap.size + 1, 1, none⟩ (.int .i64 0)) := by
      refine Below.setCell (Below.setCell (Below.setCell (Below.setCell hW1 ?_ _) ?_ _) ?_ _) ?_ _ <;> simp
    generalize (((w1.setCell ⟨w.heap.size, 0, none⟩ (.int .i64 0)).setCell ⟨w.heap.size, 1, none⟩ (.int .i64 0)).setCell ⟨w.heap.size + 1, 0, none⟩ (.int .i64 0)).setCell ⟨w.heap.size + 1, 1, none⟩ (.int .i64 0) = W at *
    clear c0 c1 c2 c3
    have c0 := cell_of_row W _ 0 _ _ _ g0
    have c1 := cell_of_row W _ 1 _ _ _ g0
    have c2 := cell_of_row W _ 0 _ _ _ g1
    have c3 := cell_of_row W _ 1 _ _ _ g1
    simp at c0 c1 c2 c3
    refine bodyPost_ret (v := .tuple #[.agg #[.int .i64 0, .int .i64 0], .agg #[.int .i64 0, .int .i64 0], .int .i64 11]) (by simp [results, Try.results39, go_sem, c0, c1, c2, c3]) rfl
      ⟨0, 0, 0, 0, 11, rfl, hBW, ?_⟩
    exact ⟨by simp [spsN1, hv2], by simp [spsN2, hv2], by simp [clkE, hv2]⟩
end Go.Proofs.Ytjghlfagdleglaa
