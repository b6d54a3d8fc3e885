/-
  Contract: Apart (tick).
-/
import Derived.Test.YtjghlfagdleglaaRefSame
namespace Go.Proofs.Ytjghlfagdleglaa
open Go.RowKit

def apF (ms ns : List (Int × Int)) (st : Int × (Int × Int)) (x : Int) : Int × (Int × Int) := if ltR st.2 (gapP ms ns x) then (x, gapP ms ns x) else st
def apT (ms ns : List (Int × Int)) (a b : Int) : Int × (Int × Int) := (cornersL ms ns a b).foldl (apF ms ns) (a, (0, 1))
def apE (ms ns : List (Int × Int)) (a b : Int) : Int := if vkB ms && vkB ns then (if tickB a && tickB b && decide (a ≤ b) then 0 else 2) else 11
def okG (v : Int × Int) : Prop := (0 ≤ v.1 ∧ v.1 ≤ 4000000000000000) ∧ (1 ≤ v.2 ∧ v.2 ≤ 10000000000)
theorem gap_ok {ms ns : List (Int × Int)} {x : Int} (hv : vkB ms = true) (hv' : vkB ns = true) (hx : tickB x = true) : okG (gapP ms ns x) := by
  obtain ⟨b1, b2⟩ := t_bd hv hx
  obtain ⟨b3, b4⟩ := t_bd hv' hx
  have m1 := mul_box (x := tN ms x) (y := tD ns x) (X := 20000000000) (Y := 100000) b2.1 b2.2 (by omega) b3.2
  have m2 := mul_box (x := tN ns x) (y := tD ms x) (X := 20000000000) (Y := 100000) b4.1 b4.2 (by omega) b1.2
  have m3 := mul_box (x := tD ms x) (y := tD ns x) (X := 100000) (Y := 100000) (by omega) b1.2 (by omega) b3.2
  have m4 : 0 < tD ms x * tD ns x := Int.mul_pos (by omega) (by omega)
  have ha : 0 ≤ absI (tN ms x * tD ns x - tN ns x * tD ms x) ∧ absI (tN ms x * tD ns x - tN ns x * tD ms x) ≤ 4000000000000000 := by rw [absI]; omega
  have s1 := lowN_sm (n := absI (tN ms x * tD ns x - tN ns x * tD ms x)) (B := 4000000000000000) m4 (by omega) ha.2
  have s2 := lowD_bd (n := absI (tN ms x * tD ns x - tN ns x * tD ms x)) m4
  have s3 : 0 ≤ lowN (absI (tN ms x * tD ns x - tN ns x * tD ms x)) (tD ms x * tD ns x) := Int.ediv_nonneg ha.1 (by omega)
  exact ⟨⟨s3, s1.2⟩, ⟨s2.1, by show _ ≤ (10000000000 : Int); exact Int.le_trans s2.2 (by omega)⟩⟩
theorem apF_ok {ms ns : List (Int × Int)} {st : Int × (Int × Int)} {x : Int} (hv : vkB ms = true) (hv' : vkB ns = true) (hx : tickB x = true) (h : okG st.2) : okG (apF ms ns st x).2 := by
  rw [apF]; split
  · exact gap_ok hv hv' hx
  · exact h
theorem fold_take {L : List Int} {k : Nat} {x : Int} (h : L[k]? = some x) (f : Int × (Int × Int) → Int → Int × (Int × Int)) (s : Int × (Int × Int)) : (L.take (k + 1)).foldl f s = f ((L.take k).foldl f s) x := by
  rw [take_snoc h, List.foldl_append]; rfl
theorem corners_len (ms ns : List (Int × Int)) (a b : Int) : 2 ≤ (cornersL ms ns a b).length ∧ (cornersL ms ns a b).length ≤ ms.length + ns.length + 2 := by
  rw [cornersL, List.length_mergeSort, cornersU]
  have := List.length_filter_le (cornIn a b) ((ms ++ ns).map (·.1))
  simp at this ⊢
  omega
theorem tick_of {x : Int} (h0 : 0 ≤ x) (h1 : x ≤ 100000) : tickB x = true := decide_eq_true ⟨h0, h1⟩
theorem set2_cell {w : World} {g : Nat} {x y : Value} {p : Addr} (h : p.block ≠ g) : ((w.setCell ⟨g, 0, none⟩ x).setCell ⟨g, 1, none⟩ y).cell? p = w.cell? p := cell_far2 h

set_option maxRecDepth 100000 in
set_option maxHeartbeats 1600000 in
theorem apart_any (ms ns : List (Int × Int)) (A B : Option Addr) (c d : Nat) (a b : Int) (w : World) (hA : Clk w A c ms) (hB : Clk w B d ns) :
    Calls Try.prog 47 #[.slice A ms.length c, .slice B ns.length d, .int .i64 a, .int .i64 b] w fun e w' => ∃ t p q E : Int,
      e = .returned (.tuple #[.int .i64 t, .agg #[.int .i64 p, .int .i64 q], .int .i64 E]) ∧ Below w.heap.size w w' ∧ Hid (E = apE ms ns a b ∧ (E = 0 → (t, (p, q)) = apT ms ns a b) ∧ (E ≠ 0 → t = 0 ∧ p = 0 ∧ q = 0)) := by
  have HA := Lib.hid hA
  have HB := Lib.hid hB
  clear hA hB
  by_cases hv : vkB ms = true
  · have HV := Lib.hid hv
    clear hv
    by_cases hv' : vkB ns = true
    · have HV' := Lib.hid hv'
      clear hv'
      by_cases hab : (tickB a = true ∧ tickB b = true) ∧ a ≤ b
      · obtain ⟨⟨ta, tb⟩, hle⟩ := hab
        obtain ⟨ha0, ha1⟩ : 0 ≤ a ∧ a ≤ 100000 := by simpa [tickB] using ta
        obtain ⟨hb0, hb1⟩ : 0 ≤ b ∧ b ≤ 100000 := by simpa [tickB] using tb
        have hE : Hid (apE ms ns a b = 0) := by show _ = _; rw [apE, HV.out, HV'.out, ta, tb, decide_eq_true hle]; rfl
        have TA : Hid True := Lib.hid trivial
        go_enter Try.func47, Try.ntmps47
        go_wp2_with (first
          | (go_at_call 32; have hstop := hB1; refine (validClock_any ns _ _ _ (HB.out.below hW1).marks HB.out.len).mono ?_; rintro e w2 ⟨he, hB2⟩; rw [HV'.out] at he; subst he; have hW2 := hW1.trans (hB2.mono hW1.size); have hR := (hB2.block _ (by omega)).trans HR1.out; have HR2 := Lib.hid hR; clear hR; have z2 := hB2.size)
          | (clear TA; go_at_call 32; refine (validClock_any ms _ _ _ (HA.out.below (by exact (by repeat (first | with_reducible exact Below.refl _ _ | with_reducible assumption | refine below_drewN ?_ _ | with_reducible refine Below.drew ?_ | (refine Below.setCell ?_ (by first | (simp; done) | (simp; omega) | omega) _) | (refine Below.alloc ?_ (by first | (simp; done) | (simp; omega) | omega) _))))).marks HA.out.len).mono ?_; rintro e w1 ⟨he, hB1⟩; rw [HV.out] at he; subst he; have hW1 : Below w.heap.size w w1 := Below.trans (by exact (by repeat (first | with_reducible exact Below.refl _ _ | with_reducible assumption | refine below_drewN ?_ _ | with_reducible refine Below.drew ?_ | (refine Below.setCell ?_ (by first | (simp; done) | (simp; omega) | omega) _) | (refine Below.alloc ?_ (by first | (simp; done) | (simp; omega) | omega) _)))) (hB1.mono (by simp)); have HR1 := Lib.hid ((hB1.block w.heap.size (by simp)).trans (heap_alloc_new w (.cells #[.int .i64 0, .int .i64 0] 36))); have z1 := hB1.size; simp at z1; have zR1 : w.heap.size < w1.heap.size := (by omega))
          | (go_at_call 63; refine (validTick_any _ _).mono ?_; rintro e w9 ⟨rfl, rfl⟩)
          | (go_at_call 69; refine (whole_any _ _).mono ?_; rintro e w3 ⟨rfl, hB3⟩; have hW3 := hW2.trans (hB3.mono hW2.size); have HR3 := Lib.hid ((hB3.block _ (by omega)).trans HR2.out); have z3 := hB3.size))
        have hWM : Below w.heap.size w (w3.alloc (.cells #[.int .i64 0, .int .i64 1] 36)) := Below.alloc hW3 (by omega) _
        refine (corners_any ms ns A B c d a b _ (HA.out.below hWM) (HB.out.below hWM) HV.out HV'.out).mono ?_
        rintro e w4 ⟨A4, c4, xs, rfl, hC4, hB4, hxs, hN4⟩
        have hcl := corners_len ms ns a b
        rw [← hxs.out] at hcl
        have hpn := (vk_parts HV.out).2
        have hpm := (vk_parts HV'.out).2
        have hxl : 0 < xs.length ∧ xs.length ≤ 100 := by omega
        obtain ⟨bx, ox, rfl, hbx, hcells⟩ := hC4.ints.open_ hxl.1
        have hbn : (w3.alloc (.cells #[.int .i64 0, .int .i64 1] 36)).heap.size ≤ bx := hN4 _ rfl
        simp at hbn
        have z4 := hB4.size
        simp at z4
        have hW4 : Below w.heap.size w w4 := hWM.trans (hB4.mono hWM.size)
        have hR4 := (hB4.block w.heap.size (by simp; omega)).trans ((Below.heap_alloc _ _ _ (by omega)).trans HR3.out)
        have hM4 := (hB4.block w3.heap.size (by simp)).trans (heap_alloc_new w3 (.cells #[.int .i64 0, .int .i64 1] 36))
        have hL4 : bx < w4.heap.size ∧ ∀ (k : Nat) (z : Int), xs[k]? = some z → w4.cell? ⟨bx, ox + k, none⟩ = some (.int .i64 z) := ⟨hbx, hcells⟩
        have hzx : xs.length ≤ c4 := hC4.le
        have nMR : w3.heap.size ≠ w.heap.size := by omega
        have nLM : bx ≠ w3.heap.size := by omega
        have nLR : bx ≠ w.heap.size := by omega
        have zRM : w.heap.size < w3.heap.size := by omega
        clear hcells hC4 hN4 hB4 hcl hWM hB3 HR3 HR2 HR1 hB1 hB2 hW1 hW2 z1 z2
        clear hW3
        generalize w3.heap.size = gM at hM4 nMR nLM zRM hbn z4 ⊢
        go_wp2_with fail
        go_loopw [11, 47] (fun v i wr => ∃ (k : Nat) (t p q : Int), k ≤ xs.length ∧ i = .int .i64 k ∧ v = .int .i64 t ∧ Below w.heap.size w wr ∧ wr.heap[w.heap.size]? = some (.cells #[.int .i64 0, .int .i64 0] 36 (0, 0)) ∧ wr.heap[gM]? = some (.cells #[.int .i64 p, .int .i64 q] 36 (0, 0)) ∧
            (bx < wr.heap.size ∧ ∀ (k : Nat) (z : Int), xs[k]? = some z → wr.cell? ⟨bx, ox + k, none⟩ = some (.int .i64 z)) ∧ Hid ((t, (p, q)) = (xs.take k).foldl (apF ms ns) (a, ((0 : Int), (1 : Int))) ∧ okG (p, q))) (fun _ i _ => xs.length - (intOf i).toNat)
        case atStart => exact ⟨0, a, 0, 1, Nat.zero_le _, rfl, rfl, hW4, hR4, hM4, hL4, rfl, by simp [okG]⟩
        case round =>
          clear hW4 hR4 hM4 hL4
          obtain ⟨k, t, p, q, hk, rfl, rfl, hBw, hR, hM, hL, hst⟩ := hrel
          have hz := hBw.size
          have zM : gM < wr.heap.size := (Array.getElem?_eq_some_iff.1 hM).1
          have zR : w.heap.size < wr.heap.size := by omega
          have m0 := cell_of_row wr _ 0 _ _ _ hM
          have m1 := cell_of_row wr _ 1 _ _ _ hM
          have r0 := cell_of_row wr _ 0 _ _ _ hR
          have r1 := cell_of_row wr _ 1 _ _ _ hR
          simp at m0 m1 r0 r1
          have e0 := blk_frozen hR 0
          have e1 := blk_frozen hR 1
          have HR := Lib.hid hR
          have HM := Lib.hid hM
          have HL := Lib.hid hL
          have HBW := Lib.hid hBw
          have hzl := hL.1
          obtain ⟨⟨op1, op2⟩, ⟨oq1, oq2⟩⟩ := hst.out.2
          simp only at op1 op2 oq1 oq2
          by_cases hlt : k < xs.length
          · obtain ⟨x, hx⟩ : ∃ x, xs[k]? = some x := ⟨_, List.getElem?_eq_getElem hlt⟩
            have f0 := hL.2 k x hx
            have hin := corner_in (ms := ms) (ns := ns) hle (by rw [← hxs.out]; exact List.mem_of_getElem? hx)
            have HX := Lib.hid hx
            clear hx hL hR hM hBw
            have htx := tick_of (x := x) (by omega) (by omega)
            obtain ⟨g1, g2, hg0⟩ : ∃ p q, gapP ms ns x = (p, q) := ⟨_, _, rfl⟩
            have hgok := gap_ok HV.out HV'.out htx
            rw [hg0] at hgok
            have HOK := Lib.hid hgok
            obtain ⟨⟨og1, og2⟩, ⟨og3, og4⟩⟩ := hgok
            simp only at og1 og2 og3 og4
            have HG := Lib.hid hg0
            have HTX := Lib.hid htx
            clear hg0 htx
            have HNX : Hid (((if ltR (p, q) (g1, g2) then (x, (g1, g2)) else (t, (p, q)))) = apF ms ns (t, (p, q)) x) := by show _ = _; rw [apF, HG.out]
            cases hlt2 : ltR (p, q) (g1, g2)
            · have HNX' : Hid ((t, (p, q)) = (xs.take (k + 1)).foldl (apF ms ns) (a, ((0 : Int), (1 : Int)))) := by show _ = _; rw [fold_take HX.out, ← hst.out.1, ← HNX.out, hlt2]; rfl
              have HGN : Hid (lowN (absI (tN ms x * tD ns x - tN ns x * tD ms x)) (tD ms x * tD ns x) = g1 ∧ lowD (absI (tN ms x * tD ns x - tN ns x * tD ms x)) (tD ms x * tD ns x) = g2) := by
                have := HG.out
                rw [gapP] at this
                injection this with h1 h2
                exact ⟨h1, h2⟩
              have TB : Hid True := Lib.hid trivial
              go_wp2_with (first
                | (go_at_call 60; have hstop := hB5; refine (timeAt2_any ns _ _ x _ (HB.out.below (HBW.out.trans (hB5.mono hz))) HV'.out (by omega) (by omega)).mono ?_; rintro e w6 ⟨rfl, hB6⟩; have hB6 := hB5.trans (hB6.mono hB5.size); have z6 := hB6.size; obtain ⟨⟨u1, u2⟩, u3⟩ := t_bd HV.out HTX.out; obtain ⟨⟨u4, u5⟩, u6⟩ := t_bd HV'.out HTX.out)
                | (clear TB; go_at_call 60; refine (timeAt2_any ms _ _ x _ (HA.out.below HBW.out) HV.out (by omega) (by omega)).mono ?_; rintro e w5 ⟨rfl, hB5⟩)
                | (go_at_call 77; refine (difference_any (tN ms x) (tD ms x) (tN ns x) (tD ns x) _ u3 ⟨u1, u2⟩ u6 ⟨u4, u5⟩).mono ?_; rintro e w7 ⟨he, hB7⟩; rw [HGN.out.1, HGN.out.2] at he; subst he; have hB7 := hB6.trans (hB7.mono hB6.size); have z7 := hB7.size; have m0 := (hB7.cell (p := ⟨gM, 0, none⟩) zM).trans m0; have m1 := (hB7.cell (p := ⟨gM, 1, none⟩) zM).trans m1; clear u3 u6; have s7 : gM < w7.heap.size := (by omega))
                | (go_at_call 74; refine (less_any p q g1 g2 _ (by omega) (by omega) (by omega) (by omega) (by omega) (by omega) (by omega) (by omega)).mono ?_; rintro e w8 ⟨he, hB8⟩; rw [hlt2] at he; subst he; have z8 := hB8.size; simp at z8; have HB8 : Hid (Below wr.heap.size wr w8) := hB7.trans (Below.trans (show Below wr.heap.size w7 (w7.alloc (.cells #[.int .i64 g1, .int .i64 g2] 36)) from Below.alloc (Below.refl _ _) z7 _) (hB8.mono (by simp; omega))); have v0 := (hB8.cell (p := ⟨w7.heap.size, 0, none⟩) (by simp)).trans (cell_of_row _ _ 0 _ _ _ (heap_alloc_new w7 (.cells #[.int .i64 g1, .int .i64 g2] 36))); have v1 := (hB8.cell (p := ⟨w7.heap.size, 1, none⟩) (by simp)).trans (cell_of_row _ _ 1 _ _ _ (heap_alloc_new w7 (.cells #[.int .i64 g1, .int .i64 g2] 36))); simp at v0 v1; have hM8 := (HB8.out.block gM zM).trans HM.out; have m0 := cell_of_row w8 _ 0 _ _ _ hM8; have m1 := cell_of_row w8 _ 1 _ _ _ hM8; simp at m0 m1; have k0 := blk_frozen hM8 0; have k1 := blk_frozen hM8 1; have HM8 := Lib.hid hM8; clear hM8; have HR8 := Lib.hid ((HB8.out.block w.heap.size zR).trans HR.out); have HBW8 := Lib.hid (HBW.out.trans (HB8.out.mono hz)); have nG : w7.heap.size ≠ gM := (by omega); clear hB8))
              go_roundw
              case rel => exact ⟨k + 1, t, p, q, by omega, by go_num, rfl, HBW8.out, HR8.out, HM8.out, ⟨Nat.lt_of_lt_of_le hzl HB8.out.size, fun k z hk => (HB8.out.cell (p := ⟨bx, ox + k, none⟩) hzl).trans (HL.out.2 k z hk)⟩, HNX'.out, hst.out.2⟩
              case measure => simp [intOf]; omega
            · have HNX' : Hid ((x, (g1, g2)) = (xs.take (k + 1)).foldl (apF ms ns) (a, ((0 : Int), (1 : Int)))) := by show _ = _; rw [fold_take HX.out, ← hst.out.1, ← HNX.out, hlt2]; rfl
              have HGN : Hid (lowN (absI (tN ms x * tD ns x - tN ns x * tD ms x)) (tD ms x * tD ns x) = g1 ∧ lowD (absI (tN ms x * tD ns x - tN ns x * tD ms x)) (tD ms x * tD ns x) = g2) := by
                have := HG.out
                rw [gapP] at this
                injection this with h1 h2
                exact ⟨h1, h2⟩
              have TB : Hid True := Lib.hid trivial
              go_wp2_with (first
                | (go_at_call 60; have hstop := hB5; refine (timeAt2_any ns _ _ x _ (HB.out.below (HBW.out.trans (hB5.mono hz))) HV'.out (by omega) (by omega)).mono ?_; rintro e w6 ⟨rfl, hB6⟩; have hB6 := hB5.trans (hB6.mono hB5.size); have z6 := hB6.size; obtain ⟨⟨u1, u2⟩, u3⟩ := t_bd HV.out HTX.out; obtain ⟨⟨u4, u5⟩, u6⟩ := t_bd HV'.out HTX.out)
                | (clear TB; go_at_call 60; refine (timeAt2_any ms _ _ x _ (HA.out.below HBW.out) HV.out (by omega) (by omega)).mono ?_; rintro e w5 ⟨rfl, hB5⟩)
                | (go_at_call 77; refine (difference_any (tN ms x) (tD ms x) (tN ns x) (tD ns x) _ u3 ⟨u1, u2⟩ u6 ⟨u4, u5⟩).mono ?_; rintro e w7 ⟨he, hB7⟩; rw [HGN.out.1, HGN.out.2] at he; subst he; have hB7 := hB6.trans (hB7.mono hB6.size); have z7 := hB7.size; have m0 := (hB7.cell (p := ⟨gM, 0, none⟩) zM).trans m0; have m1 := (hB7.cell (p := ⟨gM, 1, none⟩) zM).trans m1; clear u3 u6; have s7 : gM < w7.heap.size := (by omega))
                | (go_at_call 74; refine (less_any p q g1 g2 _ (by omega) (by omega) (by omega) (by omega) (by omega) (by omega) (by omega) (by omega)).mono ?_; rintro e w8 ⟨he, hB8⟩; rw [hlt2] at he; subst he; have z8 := hB8.size; simp at z8; have HB8 : Hid (Below wr.heap.size wr w8) := hB7.trans (Below.trans (show Below wr.heap.size w7 (w7.alloc (.cells #[.int .i64 g1, .int .i64 g2] 36)) from Below.alloc (Below.refl _ _) z7 _) (hB8.mono (by simp; omega))); have v0 := (hB8.cell (p := ⟨w7.heap.size, 0, none⟩) (by simp)).trans (cell_of_row _ _ 0 _ _ _ (heap_alloc_new w7 (.cells #[.int .i64 g1, .int .i64 g2] 36))); have v1 := (hB8.cell (p := ⟨w7.heap.size, 1, none⟩) (by simp)).trans (cell_of_row _ _ 1 _ _ _ (heap_alloc_new w7 (.cells #[.int .i64 g1, .int .i64 g2] 36))); simp at v0 v1; have hM8 := (HB8.out.block gM zM).trans HM.out; have m0 := cell_of_row w8 _ 0 _ _ _ hM8; have m1 := cell_of_row w8 _ 1 _ _ _ hM8; simp at m0 m1; have k0 := blk_frozen hM8 0; have k1 := blk_frozen hM8 1; have HM8 := Lib.hid hM8; clear hM8; have HR8 := Lib.hid ((HB8.out.block w.heap.size zR).trans HR.out); have HBW8 := Lib.hid (HBW.out.trans (HB8.out.mono hz)); have nG : w7.heap.size ≠ gM := (by omega); clear hB8))
              go_region_held3 (fun w' => w'.cell? ⟨w7.heap.size, 0, none⟩ = some (.int .i64 g1) ∧ w'.cell? ⟨w7.heap.size, 1, none⟩ = some (.int .i64 g2))
                ((simp only [cell_drew']; first | with_reducible exact ⟨v0, v1⟩ | exact ⟨(cell_far2 (p := ⟨w7.heap.size, _, none⟩) nG).trans v0, (cell_far2 (p := ⟨w7.heap.size, _, none⟩) nG).trans v1⟩))
                ((fail))
              go_wp2
              go_roundw
              case rel => exact ⟨k + 1, x, g1, g2, by omega, by go_num, rfl, (Below.setCell (Below.setCell HBW8.out (by show _ ≤ gM; omega) _) (by show _ ≤ gM; omega) _).drew, (set2_far (Ne.symm nMR)).trans HR8.out, set2_row HM8.out, ⟨by simp; exact Nat.lt_of_lt_of_le hzl HB8.out.size, fun k z hk => (cell_far2 (p := ⟨bx, ox + k, none⟩) nLM).trans ((HB8.out.cell (p := ⟨bx, ox + k, none⟩) hzl).trans (HL.out.2 k z hk))⟩, HNX'.out, HOK.out⟩
              case measure => simp [intOf]; omega
          · obtain rfl : k = xs.length := by omega
            have fin : Hid ((t, (p, q)) = apT ms ns a b) := by
              have := hst.out.1
              rw [List.take_length, hxs.out] at this
              exact this
            clear hL hR hM
            go_wp2
            go_region_held3 (fun w' => w'.cell? ⟨gM, 0, none⟩ = some (.int .i64 p) ∧ w'.cell? ⟨gM, 1, none⟩ = some (.int .i64 q))
              ((simp only [cell_drew']; first | with_reducible exact ⟨m0, m1⟩ | exact ⟨(cell_far2 (p := ⟨gM, _, none⟩) nMR).trans m0, (cell_far2 (p := ⟨gM, _, none⟩) nMR).trans m1⟩))
              ((fail))
            go_wp2
            refine bodyPost_ret (v := .tuple #[.int .i64 t, .agg #[.int .i64 p, .int .i64 q], .int .i64 0]) (by simp [results, Try.results47, go_sem, r0, r1]) rfl
              ⟨t, p, q, 0, rfl, by refine Below.drew (Below.setCell (Below.setCell HBW.out ?_ _) ?_ _) <;> simp, hE.out.symm, fun _ => fin.out, fun h => absurd rfl h⟩
      · have TA : Hid True := Lib.hid trivial
        have hE : Hid (2 = apE ms ns a b) := by
          show _ = _
          rw [apE, HV.out, HV'.out]
          have : (tickB a && tickB b && decide (a ≤ b)) = false := by
            cases h1 : tickB a <;> cases h2 : tickB b <;> simp_all
          rw [this]; rfl
        have HAB := Lib.hid hab
        clear hab
        go_enter Try.func47, Try.ntmps47
        cases h1 : tickB a
        · go_wp2_with (first
            | (go_at_call 32; have hstop := hB1; refine (validClock_any ns _ _ _ (HB.out.below hW1).marks HB.out.len).mono ?_; rintro e w2 ⟨he, hB2⟩; rw [HV'.out] at he; subst he; have hW2 := hW1.trans (hB2.mono hW1.size); have hR := (hB2.block _ (by omega)).trans HR1.out; have HR2 := Lib.hid hR; clear hR; have z2 := hB2.size; have c0 := cell_of_row w2 _ 0 _ _ _ HR2.out; have c1 := cell_of_row w2 _ 1 _ _ _ HR2.out; simp at c0 c1; have e0 := blk_frozen HR2.out 0; have e1 := blk_frozen HR2.out 1)
            | (clear TA; go_at_call 32; refine (validClock_any ms _ _ _ (HA.out.below (by exact (by repeat (first | with_reducible exact Below.refl _ _ | with_reducible assumption | refine below_drewN ?_ _ | with_reducible refine Below.drew ?_ | (refine Below.setCell ?_ (by first | (simp; done) | (simp; omega) | omega) _) | (refine Below.alloc ?_ (by first | (simp; done) | (simp; omega) | omega) _))))).marks HA.out.len).mono ?_; rintro e w1 ⟨he, hB1⟩; rw [HV.out] at he; subst he; have hW1 : Below w.heap.size w w1 := Below.trans (by exact (by repeat (first | with_reducible exact Below.refl _ _ | with_reducible assumption | refine below_drewN ?_ _ | with_reducible refine Below.drew ?_ | (refine Below.setCell ?_ (by first | (simp; done) | (simp; omega) | omega) _) | (refine Below.alloc ?_ (by first | (simp; done) | (simp; omega) | omega) _)))) (hB1.mono (by simp)); have HR1 := Lib.hid ((hB1.block w.heap.size (by simp)).trans (heap_alloc_new w (.cells #[.int .i64 0, .int .i64 0] 36))); have z1 := hB1.size; simp at z1; have zR1 : w.heap.size < w1.heap.size := (by omega))
            | (go_at_call 63; refine (validTick_any _ _).mono ?_; rintro e w9 ⟨rfl, rfl⟩))
          refine bodyPost_ret (v := .tuple #[.int .i64 0, .agg #[.int .i64 0, .int .i64 0], .int .i64 2]) (by simp [results, Try.results47, go_sem, c0, c1]) rfl
            ⟨0, 0, 0, 2, rfl, by refine Below.setCell (Below.setCell hW2 ?_ _) ?_ _ <;> simp, hE.out, fun h => absurd h (by omega), fun _ => ⟨rfl, rfl, rfl⟩⟩
        · cases h2 : tickB b
          · go_wp2_with (first
              | (go_at_call 32; have hstop := hB1; refine (validClock_any ns _ _ _ (HB.out.below hW1).marks HB.out.len).mono ?_; rintro e w2 ⟨he, hB2⟩; rw [HV'.out] at he; subst he; have hW2 := hW1.trans (hB2.mono hW1.size); have hR := (hB2.block _ (by omega)).trans HR1.out; have HR2 := Lib.hid hR; clear hR; have z2 := hB2.size; have c0 := cell_of_row w2 _ 0 _ _ _ HR2.out; have c1 := cell_of_row w2 _ 1 _ _ _ HR2.out; simp at c0 c1; have e0 := blk_frozen HR2.out 0; have e1 := blk_frozen HR2.out 1)
              | (clear TA; go_at_call 32; refine (validClock_any ms _ _ _ (HA.out.below (by exact (by repeat (first | with_reducible exact Below.refl _ _ | with_reducible assumption | refine below_drewN ?_ _ | with_reducible refine Below.drew ?_ | (refine Below.setCell ?_ (by first | (simp; done) | (simp; omega) | omega) _) | (refine Below.alloc ?_ (by first | (simp; done) | (simp; omega) | omega) _))))).marks HA.out.len).mono ?_; rintro e w1 ⟨he, hB1⟩; rw [HV.out] at he; subst he; have hW1 : Below w.heap.size w w1 := Below.trans (by exact (by repeat (first | with_reducible exact Below.refl _ _ | with_reducible assumption | refine below_drewN ?_ _ | with_reducible refine Below.drew ?_ | (refine Below.setCell ?_ (by first | (simp; done) | (simp; omega) | omega) _) | (refine Below.alloc ?_ (by first | (simp; done) | (simp; omega) | omega) _)))) (hB1.mono (by simp)); have HR1 := Lib.hid ((hB1.block w.heap.size (by simp)).trans (heap_alloc_new w (.cells #[.int .i64 0, .int .i64 0] 36))); have z1 := hB1.size; simp at z1; have zR1 : w.heap.size < w1.heap.size := (by omega))
              | (go_at_call 63; refine (validTick_any _ _).mono ?_; rintro e w9 ⟨rfl, rfl⟩))
            refine bodyPost_ret (v := .tuple #[.int .i64 0, .agg #[.int .i64 0, .int .i64 0], .int .i64 2]) (by simp [results, Try.results47, go_sem, c0, c1]) rfl
              ⟨0, 0, 0, 2, rfl, by refine Below.setCell (Below.setCell hW2 ?_ _) ?_ _ <;> simp, hE.out, fun h => absurd h (by omega), fun _ => ⟨rfl, rfl, rfl⟩⟩
          · have h3 : b < a := by
              have := HAB.out
              rw [h1, h2] at this
              simp at this
              omega
            go_wp2_with (first
              | (go_at_call 32; have hstop := hB1; refine (validClock_any ns _ _ _ (HB.out.below hW1).marks HB.out.len).mono ?_; rintro e w2 ⟨he, hB2⟩; rw [HV'.out] at he; subst he; have hW2 := hW1.trans (hB2.mono hW1.size); have hR := (hB2.block _ (by omega)).trans HR1.out; have HR2 := Lib.hid hR; clear hR; have z2 := hB2.size; have c0 := cell_of_row w2 _ 0 _ _ _ HR2.out; have c1 := cell_of_row w2 _ 1 _ _ _ HR2.out; simp at c0 c1; have e0 := blk_frozen HR2.out 0; have e1 := blk_frozen HR2.out 1)
              | (clear TA; go_at_call 32; refine (validClock_any ms _ _ _ (HA.out.below (by exact (by repeat (first | with_reducible exact Below.refl _ _ | with_reducible assumption | refine below_drewN ?_ _ | with_reducible refine Below.drew ?_ | (refine Below.setCell ?_ (by first | (simp; done) | (simp; omega) | omega) _) | (refine Below.alloc ?_ (by first | (simp; done) | (simp; omega) | omega) _))))).marks HA.out.len).mono ?_; rintro e w1 ⟨he, hB1⟩; rw [HV.out] at he; subst he; have hW1 : Below w.heap.size w w1 := Below.trans (by exact (by repeat (first | with_reducible exact Below.refl _ _ | with_reducible assumption | refine below_drewN ?_ _ | with_reducible refine Below.drew ?_ | (refine Below.setCell ?_ (by first | (simp; done) | (simp; omega) | omega) _) | (refine Below.alloc ?_ (by first | (simp; done) | (simp; omega) | omega) _)))) (hB1.mono (by simp)); have HR1 := Lib.hid ((hB1.block w.heap.size (by simp)).trans (heap_alloc_new w (.cells #[.int .i64 0, .int .i64 0] 36))); have z1 := hB1.size; simp at z1; have zR1 : w.heap.size < w1.heap.size := (by omega))
              | (go_at_call 63; refine (validTick_any _ _).mono ?_; rintro e w9 ⟨rfl, rfl⟩))
            refine bodyPost_ret (v := .tuple #[.int .i64 0, .agg #[.int .i64 0, .int .i64 0], .int .i64 2]) (by simp [results, Try.results47, go_sem, c0, c1]) rfl
              ⟨0, 0, 0, 2, rfl, by refine Below.setCell (Below.setCell hW2 ?_ _) ?_ _ <;> simp, hE.out, fun h => absurd h (by omega), fun _ => ⟨rfl, rfl, rfl⟩⟩
    · have hv2 : vkB ns = false := by simpa using hv'
      have TA : Hid True := Lib.hid trivial
      have hE : Hid (11 = apE ms ns a b) := by show _ = _; rw [apE, HV.out, hv2]; rfl
      go_enter Try.func47, Try.ntmps47
      go_wp2_with (first
        | (go_at_call 32; have hstop := hB1; refine (validClock_any ns _ _ _ (HB.out.below hW1).marks HB.out.len).mono ?_; rintro e w2 ⟨he, hB2⟩; rw [hv2] at he; subst he; have hW2 := hW1.trans (hB2.mono hW1.size); have hR := (hB2.block _ (by omega)).trans HR1.out; have HR2 := Lib.hid hR; clear hR; have z2 := hB2.size; have c0 := cell_of_row w2 _ 0 _ _ _ HR2.out; have c1 := cell_of_row w2 _ 1 _ _ _ HR2.out; simp at c0 c1; have e0 := blk_frozen HR2.out 0; have e1 := blk_frozen HR2.out 1)
        | (clear TA; go_at_call 32; refine (validClock_any ms _ _ _ (HA.out.below (by exact (by repeat (first | with_reducible exact Below.refl _ _ | with_reducible assumption | refine below_drewN ?_ _ | with_reducible refine Below.drew ?_ | (refine Below.setCell ?_ (by first | (simp; done) | (simp; omega) | omega) _) | (refine Below.alloc ?_ (by first | (simp; done) | (simp; omega) | omega) _))))).marks HA.out.len).mono ?_; rintro e w1 ⟨he, hB1⟩; rw [HV.out] at he; subst he; have hW1 : Below w.heap.size w w1 := Below.trans (by exact (by repeat (first | with_reducible exact Below.refl _ _ | with_reducible assumption | refine below_drewN ?_ _ | with_reducible refine Below.drew ?_ | (refine Below.setCell ?_ (by first | (simp; done) | (simp; omega) | omega) _) | (refine Below.alloc ?_ (by first | (simp; done) | (simp; omega) | omega) _)))) (hB1.mono (by simp)); have HR1 := Lib.hid ((hB1.block w.heap.size (by simp)).trans (heap_alloc_new w (.cells #[.int .i64 0, .int .i64 0] 36))); have z1 := hB1.size; simp at z1; have zR1 : w.heap.size < w1.heap.size := (by omega)))
      refine bodyPost_ret (v := .tuple #[.int .i64 0, .agg #[.int .i64 0, .int .i64 0], .int .i64 11]) (by simp [results, Try.results47, go_sem, c0, c1]) rfl
        ⟨0, 0, 0, 11, rfl, by refine Below.setCell (Below.setCell hW2 ?_ _) ?_ _ <;> simp, hE.out, fun h => absurd h (by omega), fun _ => ⟨rfl, rfl, rfl⟩⟩
  · have hv2 : vkB ms = false := by simpa using hv
    have hE : Hid (11 = apE ms ns a b) := by show _ = _; rw [apE, hv2]; rfl
    have TA : Hid True := Lib.hid trivial
    go_enter Try.func47, Try.ntmps47
    go_wp2_with (first
      | (clear TA; go_at_call 32; refine (validClock_any ms _ _ _ (HA.out.below (by exact (by repeat (first | with_reducible exact Below.refl _ _ | with_reducible assumption | refine below_drewN ?_ _ | with_reducible refine Below.drew ?_ | (refine Below.setCell ?_ (by first | (simp; done) | (simp; omega) | omega) _) | (refine Below.alloc ?_ (by first | (simp; done) | (simp; omega) | omega) _))))).marks HA.out.len).mono ?_; rintro e w1 ⟨he, hB1⟩; rw [hv2] at he; subst he; have hW1 : Below w.heap.size w w1 := Below.trans (by exact (by repeat (first | with_reducible exact Below.refl _ _ | with_reducible assumption | refine below_drewN ?_ _ | with_reducible refine Below.drew ?_ | (refine Below.setCell ?_ (by first | (simp; done) | (simp; omega) | omega) _) | (refine Below.alloc ?_ (by first | (simp; done) | (simp; omega) | omega) _)))) (hB1.mono (by simp)); have HR1 := Lib.hid ((hB1.block w.heap.size (by simp)).trans (heap_alloc_new w (.cells #[.int .i64 0, .int .i64 0] 36))); have c0 := cell_of_row w1 _ 0 _ _ _ HR1.out; have c1 := cell_of_row w1 _ 1 _ _ _ HR1.out; simp at c0 c1; have e0 := blk_frozen HR1.out 0; have e1 := blk_frozen HR1.out 1))
    refine bodyPost_ret (v := .tuple #[.int .i64 0, .agg #[.int .i64 0, .int .i64 0], .int .i64 11]) (by simp [results, Try.results47, go_sem, c0, c1]) rfl
      ⟨0, 0, 0, 11, rfl, by refine Below.setCell (Below.setCell hW1 ?_ _) ?_ _ <;> simp, hE.out, fun h => absurd h (by omega), fun _ => ⟨rfl, rfl, rfl⟩⟩
end Go.Proofs.Ytjghlfagdleglaa
