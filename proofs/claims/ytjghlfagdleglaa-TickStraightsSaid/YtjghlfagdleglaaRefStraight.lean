/-
  Contract: Straight (firnref01).
-/
import Derived.Test.YtjghlfagdleglaaStraight
import Derived.Test.YtjghlfagdleglaaRefAt
import Derived.Test.YtjghlfagdleglaaRefInv
namespace Go.Proofs.Ytjghlfagdleglaa
open Go.RowKit

theorem own_below {w w' : World} {base : Nat} {t : TypeId} {sz n : Nat} {v : Value} {xs : List Value} (h : w.ownsRow base t sz v n xs) (hb : Below w.heap.size w w') : w'.ownsRow base t sz v n xs := by
  refine ⟨h.1, ?_⟩
  rcases h.2 with h0 | ⟨g, cap, cur, h1, h2, h3, h4⟩
  · exact .inl h0
  · refine .inr ⟨g, cap, cur, h1, h2, (hb.block g ?_).trans h3, h4⟩
    exact (Array.getElem?_eq_some_iff.1 h3).1
theorem own_same {w w' : World} {base : Nat} {t : TypeId} {sz n : Nat} {v : Value} {xs : List Value} (h : w.ownsRow base t sz v n xs) (hb : ∀ g, g < w.heap.size → w'.heap[g]? = w.heap[g]?) : w'.ownsRow base t sz v n xs := by
  refine ⟨h.1, ?_⟩
  rcases h.2 with h0 | ⟨g, cap, cur, h1, h2, h3, h4⟩
  · exact .inl h0
  · refine .inr ⟨g, cap, cur, h1, h2, (hb g ?_).trans h3, h4⟩
    exact (Array.getElem?_eq_some_iff.1 h3).1
def refKp (ms : List (Int × Int)) (k : Nat) : List (Int × Int) :=
  if k = 0 then [] else if k < ms.length then keepK ms (k - 1) else keepK ms (ms.length - 2) ++ [mA ms (ms.length - 1)]
theorem refKp_len (ms : List (Int × Int)) (k : Nat) (h2 : 2 ≤ ms.length) : (refKp ms k).length ≤ ms.length := by
  rw [refKp]
  split
  · simp
  · split
    · have := keepK_len ms (k - 1); omega
    · have := keepK_len ms (ms.length - 2); simp; omega
theorem spdL_of {ms : List (Int × Int)} {j : Nat} {a b p q : Int} (hx : ms[j]? = some (a, b)) (hy : ms[j + 1]? = some (p, q)) : spdL ms j = (lowN (q - b) (p - a), lowD (q - b) (p - a)) := by
  rw [spdL, spN, spD, mA_of hx, mA_of hy]

set_option maxRecDepth 100000 in
set_option maxHeartbeats 1600000 in
theorem refStraight_any (ms : List (Int × Int)) (A : Option Addr) (c : Nat) (w : World) (h : Clk w A c ms) :
    Calls Try.prog 41 #[.slice A ms.length c] w fun e w' => ∃ (A' : Option Addr) (c' : Nat) (ys : List (Int × Int)) (E : Int),
      e = .returned (.tuple #[.slice A' ys.length c', .int .i64 E]) ∧ Clk w' A' c' ys ∧ Below w.heap.size w w' ∧ Hid (ys = straightF ms ∧ E = clkE ms) := by
  have H := Lib.hid h
  clear h
  by_cases hv : vkB ms = true
  · obtain ⟨hn2, hn30⟩ := vk_parts hv
    have HV := Lib.hid hv
    clear hv
    obtain ⟨bl, off, rfl, hbk, hcells⟩ := H.out.marks.open_ (by omega)
    have HC := Lib.hid hcells
    clear hcells
    go_enter Try.func41, Try.ntmps41
    go_wp2_with (go_at_call 33; refine (refValidClock_any _ _ _ _ H.out.marks H.out.len).mono ?_; rintro e w1 ⟨he, hB1⟩; rw [HV.out] at he; subst he; have hz1 := hB1.size)
    go_loopw [4, 12] (fun v i wr => ∃ k : Nat, k ≤ ms.length ∧ i = .int .i64 k ∧ wr.ownsRow w.heap.size 61 2 v (refKp ms k).length ((refKp ms k).flatMap mk2) ∧ Below w.heap.size w wr) (fun _ i _ => ms.length - (intOf i).toNat)
    case atStart => exact ⟨0, Nat.zero_le _, rfl, World.ownsRow_nil _ _ _ _, hB1⟩
    case round =>
      clear hB1 hz1
      obtain ⟨k, hk, rfl, hown, hB⟩ := hrel
      by_cases hlt : k < ms.length
      · obtain ⟨a, b, hx⟩ := getM_of_lt hlt
        have f0 := (hB.cell (p := ⟨bl, off + k * 2, none⟩) hbk).trans (HC.out _ _ hx).1
        have f1 := (hB.cell (p := ⟨bl, off + k * 2 + 1, none⟩) hbk).trans (HC.out _ _ hx).2
        have HX := Lib.hid hx
        clear hx
        have hz := hB.size
        have hkl := refKp_len ms k hn2
        have HO3 := Lib.hid (hown.alloc (.cells #[.int .i64 a, .int .i64 b] 61))
        have HW3 : Hid (Below w.heap.size w (wr.alloc (.cells #[.int .i64 a, .int .i64 b] 61))) := by show Below _ _ _; exact (by repeat (first | with_reducible exact Below.refl _ _ | with_reducible assumption | refine below_drewN ?_ _ | with_reducible refine Below.drew ?_ | (refine Below.setCell ?_ (by first | (simp; done) | (simp; omega) | omega) _) | (refine Below.alloc ?_ (by first | (simp; done) | (simp; omega) | omega) _)))
        have HS : Hid (∀ m, Value.slice (some ⟨wr.heap.size + 1, 0, none⟩) 1 1 = Value.slice (some ⟨((wr.alloc (.cells #[.int .i64 a, .int .i64 b] 61)).drewN m).heap.size, 0, none⟩) 1 1) := by show ∀ m, _ = _; intro m; simp
        have i0 : (0 : Int) ≤ (k : Int) := by omega
        have i1 : (k : Int) < (ms.length : Int) := by omega
        by_cases hk0 : k = 0
        · subst hk0
          simp only [Nat.zero_mul, Nat.add_zero] at f0 f1
          have HK : Hid (refKp ms (0 + 1) = refKp ms 0 ++ [(a, b)]) := by show _ = _; rw [refKp, refKp, if_neg (by omega), if_pos (by omega), if_pos rfl, keepK, mA_of HX.out]; rfl
          go_wp2
          go_quiet (fail)
          go_wp2_with (at_builtin; refine wp_app_mark _ rfl (.tmp 43) (.tmp 45) rfl w.heap.size _ _ _ _ _ rfl (own_drewN HO3.out _) (HS.out _) (by omega) (by simp; omega) ?_; intro v2 w2 hown2 hB2)
          go_roundw
          case rel => exact ⟨0 + 1, by omega, by go_num, by rw [HK.out, List.length_append]; exact hown2, Below.trans (below_drewN HW3.out _) hB2⟩
          case measure => simp [intOf]; omega
        · have t0 : ((k : Int) == 0) = false := by simp; omega
          have w1' : IntKind.i64.wrap ((ms.length : Int) - 1) = (ms.length : Int) - 1 := IntWalk.i64_in _ (by omega)
          by_cases hkn : k = ms.length - 1
          · have t1 : ((k : Int) == (ms.length : Int) - 1) = true := by simp; omega
            have HK : Hid (refKp ms (k + 1) = refKp ms k ++ [(a, b)]) := by
              show _ = _
              rw [refKp, refKp, if_neg (by omega), if_neg (by omega), if_neg hk0, if_pos (by omega), show ms.length - 2 = k - 1 by omega, show ms.length - 1 = k by omega, mA_of HX.out]
            clear hkn
            go_wp2
            go_quiet (fail)
            go_wp2_with (at_builtin; refine wp_app_mark _ rfl (.tmp 43) (.tmp 45) rfl w.heap.size _ _ _ _ _ rfl (own_drewN HO3.out _) (HS.out _) (by omega) (by simp; omega) ?_; intro v2 w2 hown2 hB2)
            go_roundw
            case rel => exact ⟨k + 1, by omega, by go_num, by rw [HK.out, List.length_append]; exact hown2, Below.trans (below_drewN HW3.out _) hB2⟩
            case measure => simp [intOf]; omega
          · have t1 : ((k : Int) == (ms.length : Int) - 1) = false := by simp; omega
            obtain ⟨a', b', hx'⟩ := getM_of_lt (show k - 1 < ms.length by omega)
            obtain ⟨p, q, hy⟩ := getM_of_lt (show k + 1 < ms.length by omega)
            have f2 := (hB.cell (p := ⟨bl, off + (k - 1) * 2, none⟩) hbk).trans (HC.out _ _ hx').1
            have f3 := (hB.cell (p := ⟨bl, off + (k - 1) * 2 + 1, none⟩) hbk).trans (HC.out _ _ hx').2
            have f4 := (hB.cell (p := ⟨bl, off + (k + 1) * 2, none⟩) hbk).trans (HC.out _ _ hy).1
            have f5 := (hB.cell (p := ⟨bl, off + (k + 1) * 2 + 1, none⟩) hbk).trans (HC.out _ _ hy).2
            obtain ⟨s, t, hst⟩ : ∃ s t, spdL ms (k - 1) = (s, t) := ⟨_, _, rfl⟩
            obtain ⟨s', t', hst'⟩ : ∃ s t, spdL ms k = (s, t) := ⟨_, _, rfl⟩
            have b0 := vk_at HV.out hx'
            have b1 := vk_at HV.out HX.out
            have b2 := vk_at HV.out hy
            have l0 := vk_lt HV.out hx' (show ms[k - 1 + 1]? = some (a, b) by rw [show k - 1 + 1 = k by omega]; exact HX.out)
            have l1 := vk_lt HV.out HX.out hy
            have HS1 : Hid (lowN (b - b') (a - a') = s ∧ lowD (b - b') (a - a') = t) := by
              have := (spdL_of hx' (show ms[k - 1 + 1]? = some (a, b) by rw [show k - 1 + 1 = k by omega]; exact HX.out)).symm.trans hst
              injection this with h1 h2; exact ⟨h1, h2⟩
            have HS2 : Hid (lowN (q - b) (p - a) = s' ∧ lowD (q - b) (p - a) = t') := by
              have := (spdL_of HX.out hy).symm.trans hst'
              injection this with h1 h2; exact ⟨h1, h2⟩
            have HK : Hid (refKp ms (k + 1) = if (s, t) = (s', t') then refKp ms k else refKp ms k ++ [(a, b)]) := by
              show _ = _
              have e1 := show k = k - 1 + 1 by omega
              have e2 : keepK ms k = if (s, t) = (s', t') then keepK ms (k - 1) else keepK ms (k - 1) ++ [(a, b)] := by
                rw [← hst, ← hst', ← mA_of HX.out]
                conv => lhs; rw [e1, keepK]
                rw [← e1]
              rw [refKp, refKp, if_neg (show ¬ k + 1 = 0 by omega), if_pos (show k + 1 < ms.length by omega), if_neg hk0, if_pos hlt, Nat.add_sub_cancel, e2]
            have i3 : (0 : Int) ≤ (k : Int) - 1 := by omega
            have i4 : (k : Int) - 1 < (ms.length : Int) := by omega
            have i7 : (1 : Int) ≤ (k : Int) := by omega
            have i8 : (k : Int) + 1 < (ms.length : Int) := by omega
            have i2 : IntKind.i64.wrap ((k : Int) - 1) = (k : Int) - 1 := IntWalk.i64_in _ (by omega)
            have i6 : IntKind.i64.wrap ((k : Int) + 1) = (k : Int) + 1 := IntWalk.i64_in _ (by omega)
            have i5 : ((k : Int) - 1).toNat = k - 1 := by omega
            have i9 : (0 : Int) ≤ (k : Int) + 1 := by omega
            have i10 : ((k : Int) + 1).toNat = k + 1 := by omega
            clear hst hst' hx' hy hk0 hkn
            by_cases h12 : s = s' ∧ t = t'
            · obtain ⟨rfl, rfl⟩ := h12
              have HK' : Hid (refKp ms (k + 1) = refKp ms k) := by show _ = _; rw [HK.out, if_pos rfl]
              clear HK
              go_wp2
              have g0 := (World.cell?_alloc_lt wr (.cells #[.int .i64 a, .int .i64 b] 61) ⟨bl, off + (k - 1) * 2, none⟩ (by show bl < _; omega)).trans f2
              have g1 := (World.cell?_alloc_lt wr (.cells #[.int .i64 a, .int .i64 b] 61) ⟨bl, off + (k - 1) * 2 + 1, none⟩ (by show bl < _; omega)).trans f3
              have g4 := (World.cell?_alloc_lt wr (.cells #[.int .i64 a, .int .i64 b] 61) ⟨bl, off + (k + 1) * 2, none⟩ (by show bl < _; omega)).trans f4
              have g5 := (World.cell?_alloc_lt wr (.cells #[.int .i64 a, .int .i64 b] 61) ⟨bl, off + (k + 1) * 2 + 1, none⟩ (by show bl < _; omega)).trans f5
              have g2 : (wr.alloc (.cells #[.int .i64 a, .int .i64 b] 61)).cell? ⟨wr.heap.size, 0, none⟩ = some (.int .i64 a) := cell_of_row _ _ 0 _ _ _ (heap_alloc_new wr _)
              have g3 : (wr.alloc (.cells #[.int .i64 a, .int .i64 b] 61)).cell? ⟨wr.heap.size, 1, none⟩ = some (.int .i64 b) := cell_of_row _ _ 1 _ _ _ (heap_alloc_new wr _)
              have hnW : wr.heap.size < (wr.alloc (.cells #[.int .i64 a, .int .i64 b] 61)).heap.size := by simp
              have hW := HW3.out
              have hown := HO3.out
              clear f0 f1 f2 f3 f4 f5 HS HO3 HW3
              generalize wr.alloc (.cells #[.int .i64 a, .int .i64 b] 61) = W1 at g0 g1 g2 g3 g4 g5 hnW hW hown ⊢
              have hbW : bl < W1.heap.size := by omega
              have hwW : w.heap.size ≤ W1.heap.size := by omega
              have HOWN := Lib.hid hown
              have HWW := Lib.hid hW
              clear hown hW
              go_region_held3 (fun w' => w'.cell? ⟨bl, off + (k - 1) * 2, none⟩ = some (.int .i64 a') ∧ w'.cell? ⟨bl, off + (k - 1) * 2 + 1, none⟩ = some (.int .i64 b') ∧ w'.cell? ⟨wr.heap.size, 0, none⟩ = some (.int .i64 a) ∧ w'.cell? ⟨wr.heap.size, 1, none⟩ = some (.int .i64 b) ∧ w'.cell? ⟨bl, off + (k + 1) * 2, none⟩ = some (.int .i64 p) ∧ w'.cell? ⟨bl, off + (k + 1) * 2 + 1, none⟩ = some (.int .i64 q))
                (exact ⟨g0, g1, g2, g3, g4, g5⟩)
                ((go_at_call 72; refine (refspeed_any _ _ _ _ _ (by omega) (by omega) (by omega) (by omega) (by omega) (by omega)).mono ?_; rintro e w3 ⟨he, hB3⟩; (first | rw [HS1.out.1, HS1.out.2] at he | rw [HS2.out.1, HS2.out.2] at he); subst he; have g0 := (hB3.cell (p := ⟨bl, _, none⟩) hbW).trans g0; have g1 := (hB3.cell (p := ⟨bl, _, none⟩) hbW).trans g1; have g4 := (hB3.cell (p := ⟨bl, _, none⟩) hbW).trans g4; have g5 := (hB3.cell (p := ⟨bl, _, none⟩) hbW).trans g5; have g2 := (hB3.cell (p := ⟨wr.heap.size, _, none⟩) hnW).trans g2; have g3 := (hB3.cell (p := ⟨wr.heap.size, _, none⟩) hnW).trans g3; have HOWN := Lib.hid (own_same (w' := w3) HOWN.out (fun g hg => hB3.block g hg)); have HWW : Hid (Below w.heap.size w w3) := (by first | exact HWW.out.drew.trans (hB3.mono hwW) | exact HWW.out.trans (hB3.mono hwW)); have hbW := Nat.lt_of_lt_of_le hbW hB3.size; have hnW := Nat.lt_of_lt_of_le hnW hB3.size; have hwW := Nat.le_trans hwW hB3.size))

              go_wp2
              go_roundw
              case rel => exact ⟨k + 1, by omega, by go_num, by rw [HK'.out]; exact own_same HOWN.out (fun _ _ => rfl), by first | exact HWW.out.drew | exact HWW.out⟩
              case measure => simp [intOf]; omega
            · have HK' : Hid (refKp ms (k + 1) = refKp ms k ++ [(a, b)]) := by show _ = _; rw [HK.out, if_neg (by intro h; injection h with h1 h2; exact h12 ⟨h1, h2⟩)]
              clear HK
              by_cases h1 : s = s'
              · subst h1
                have t2 : (t == t') = false := by simp; intro h; exact h12 ⟨rfl, h⟩
                clear h12
                go_wp2
                have g0 := (World.cell?_alloc_lt wr (.cells #[.int .i64 a, .int .i64 b] 61) ⟨bl, off + (k - 1) * 2, none⟩ (by show bl < _; omega)).trans f2
                have g1 := (World.cell?_alloc_lt wr (.cells #[.int .i64 a, .int .i64 b] 61) ⟨bl, off + (k - 1) * 2 + 1, none⟩ (by show bl < _; omega)).trans f3
                have g4 := (World.cell?_alloc_lt wr (.cells #[.int .i64 a, .int .i64 b] 61) ⟨bl, off + (k + 1) * 2, none⟩ (by show bl < _; omega)).trans f4
                have g5 := (World.cell?_alloc_lt wr (.cells #[.int .i64 a, .int .i64 b] 61) ⟨bl, off + (k + 1) * 2 + 1, none⟩ (by show bl < _; omega)).trans f5
                have g2 : (wr.alloc (.cells #[.int .i64 a, .int .i64 b] 61)).cell? ⟨wr.heap.size, 0, none⟩ = some (.int .i64 a) := cell_of_row _ _ 0 _ _ _ (heap_alloc_new wr _)
                have g3 : (wr.alloc (.cells #[.int .i64 a, .int .i64 b] 61)).cell? ⟨wr.heap.size, 1, none⟩ = some (.int .i64 b) := cell_of_row _ _ 1 _ _ _ (heap_alloc_new wr _)
                have hnW : wr.heap.size < (wr.alloc (.cells #[.int .i64 a, .int .i64 b] 61)).heap.size := by simp
                have hW := HW3.out
                have hown := HO3.out
                clear f0 f1 f2 f3 f4 f5 HS HO3 HW3
                generalize wr.alloc (.cells #[.int .i64 a, .int .i64 b] 61) = W1 at g0 g1 g2 g3 g4 g5 hnW hW hown ⊢
                have hbW : bl < W1.heap.size := by omega
                have hwW : w.heap.size ≤ W1.heap.size := by omega
                have HOWN := Lib.hid hown
                have HWW := Lib.hid hW
                clear hown hW
                go_region_held3 (fun w' => w'.cell? ⟨bl, off + (k - 1) * 2, none⟩ = some (.int .i64 a') ∧ w'.cell? ⟨bl, off + (k - 1) * 2 + 1, none⟩ = some (.int .i64 b') ∧ w'.cell? ⟨wr.heap.size, 0, none⟩ = some (.int .i64 a) ∧ w'.cell? ⟨wr.heap.size, 1, none⟩ = some (.int .i64 b) ∧ w'.cell? ⟨bl, off + (k + 1) * 2, none⟩ = some (.int .i64 p) ∧ w'.cell? ⟨bl, off + (k + 1) * 2 + 1, none⟩ = some (.int .i64 q))
                  (exact ⟨g0, g1, g2, g3, g4, g5⟩)
                  ((go_at_call 72; refine (refspeed_any _ _ _ _ _ (by omega) (by omega) (by omega) (by omega) (by omega) (by omega)).mono ?_; rintro e w3 ⟨he, hB3⟩; (first | rw [HS1.out.1, HS1.out.2] at he | rw [HS2.out.1, HS2.out.2] at he); subst he; have g0 := (hB3.cell (p := ⟨bl, _, none⟩) hbW).trans g0; have g1 := (hB3.cell (p := ⟨bl, _, none⟩) hbW).trans g1; have g4 := (hB3.cell (p := ⟨bl, _, none⟩) hbW).trans g4; have g5 := (hB3.cell (p := ⟨bl, _, none⟩) hbW).trans g5; have g2 := (hB3.cell (p := ⟨wr.heap.size, _, none⟩) hnW).trans g2; have g3 := (hB3.cell (p := ⟨wr.heap.size, _, none⟩) hnW).trans g3; have HOWN := Lib.hid (own_same (w' := w3) HOWN.out (fun g hg => hB3.block g hg)); have HWW : Hid (Below w.heap.size w w3) := (by first | exact HWW.out.drew.trans (hB3.mono hwW) | exact HWW.out.trans (hB3.mono hwW)); have hbW := Nat.lt_of_lt_of_le hbW hB3.size; have hnW := Nat.lt_of_lt_of_le hnW hB3.size; have hwW := Nat.le_trans hwW hB3.size))
                go_wp2_with (at_builtin; (first | refine wp_app_mark w3.drew rfl (.tmp 43) (.tmp 45) rfl w.heap.size _ _ _ a b rfl (own_same (w' := w3.drew) HOWN.out (fun _ _ => rfl)) rfl (by omega) (by first | omega | (simp; omega)) ?_ | refine wp_app_mark w3 rfl (.tmp 43) (.tmp 45) rfl w.heap.size _ _ _ a b rfl HOWN.out rfl (by omega) (by omega) ?_); intro v2 w2 hown2 hB2)
                go_roundw
                case rel => exact ⟨k + 1, by omega, by go_num, by rw [HK'.out, List.length_append]; exact hown2, Below.trans (by first | exact HWW.out.drew | exact HWW.out) hB2⟩
                case measure => simp [intOf]; omega
              · have t2 : (s == s') = false := by simpa using h1
                clear h12
                go_wp2
                have g0 := (World.cell?_alloc_lt wr (.cells #[.int .i64 a, .int .i64 b] 61) ⟨bl, off + (k - 1) * 2, none⟩ (by show bl < _; omega)).trans f2
                have g1 := (World.cell?_alloc_lt wr (.cells #[.int .i64 a, .int .i64 b] 61) ⟨bl, off + (k - 1) * 2 + 1, none⟩ (by show bl < _; omega)).trans f3
                have g4 := (World.cell?_alloc_lt wr (.cells #[.int .i64 a, .int .i64 b] 61) ⟨bl, off + (k + 1) * 2, none⟩ (by show bl < _; omega)).trans f4
                have g5 := (World.cell?_alloc_lt wr (.cells #[.int .i64 a, .int .i64 b] 61) ⟨bl, off + (k + 1) * 2 + 1, none⟩ (by show bl < _; omega)).trans f5
                have g2 : (wr.alloc (.cells #[.int .i64 a, .int .i64 b] 61)).cell? ⟨wr.heap.size, 0, none⟩ = some (.int .i64 a) := cell_of_row _ _ 0 _ _ _ (heap_alloc_new wr _)
                have g3 : (wr.alloc (.cells #[.int .i64 a, .int .i64 b] 61)).cell? ⟨wr.heap.size, 1, none⟩ = some (.int .i64 b) := cell_of_row _ _ 1 _ _ _ (heap_alloc_new wr _)
                have hnW : wr.heap.size < (wr.alloc (.cells #[.int .i64 a, .int .i64 b] 61)).heap.size := by simp
                have hW := HW3.out
                have hown := HO3.out
                clear f0 f1 f2 f3 f4 f5 HS HO3 HW3
                generalize wr.alloc (.cells #[.int .i64 a, .int .i64 b] 61) = W1 at g0 g1 g2 g3 g4 g5 hnW hW hown ⊢
                have hbW : bl < W1.heap.size := by omega
                have hwW : w.heap.size ≤ W1.heap.size := by omega
                have HOWN := Lib.hid hown
                have HWW := Lib.hid hW
                clear hown hW
                go_region_held3 (fun w' => w'.cell? ⟨bl, off + (k - 1) * 2, none⟩ = some (.int .i64 a') ∧ w'.cell? ⟨bl, off + (k - 1) * 2 + 1, none⟩ = some (.int .i64 b') ∧ w'.cell? ⟨wr.heap.size, 0, none⟩ = some (.int .i64 a) ∧ w'.cell? ⟨wr.heap.size, 1, none⟩ = some (.int .i64 b) ∧ w'.cell? ⟨bl, off + (k + 1) * 2, none⟩ = some (.int .i64 p) ∧ w'.cell? ⟨bl, off + (k + 1) * 2 + 1, none⟩ = some (.int .i64 q))
                  (exact ⟨g0, g1, g2, g3, g4, g5⟩)
                  ((go_at_call 72; refine (refspeed_any _ _ _ _ _ (by omega) (by omega) (by omega) (by omega) (by omega) (by omega)).mono ?_; rintro e w3 ⟨he, hB3⟩; (first | rw [HS1.out.1, HS1.out.2] at he | rw [HS2.out.1, HS2.out.2] at he); subst he; have g0 := (hB3.cell (p := ⟨bl, _, none⟩) hbW).trans g0; have g1 := (hB3.cell (p := ⟨bl, _, none⟩) hbW).trans g1; have g4 := (hB3.cell (p := ⟨bl, _, none⟩) hbW).trans g4; have g5 := (hB3.cell (p := ⟨bl, _, none⟩) hbW).trans g5; have g2 := (hB3.cell (p := ⟨wr.heap.size, _, none⟩) hnW).trans g2; have g3 := (hB3.cell (p := ⟨wr.heap.size, _, none⟩) hnW).trans g3; have HOWN := Lib.hid (own_same (w' := w3) HOWN.out (fun g hg => hB3.block g hg)); have HWW : Hid (Below w.heap.size w w3) := (by first | exact HWW.out.drew.trans (hB3.mono hwW) | exact HWW.out.trans (hB3.mono hwW)); have hbW := Nat.lt_of_lt_of_le hbW hB3.size; have hnW := Nat.lt_of_lt_of_le hnW hB3.size; have hwW := Nat.le_trans hwW hB3.size))
                go_wp2_with (at_builtin; (first | refine wp_app_mark w3.drew rfl (.tmp 43) (.tmp 45) rfl w.heap.size _ _ _ a b rfl (own_same (w' := w3.drew) HOWN.out (fun _ _ => rfl)) rfl (by omega) (by first | omega | (simp; omega)) ?_ | refine wp_app_mark w3 rfl (.tmp 43) (.tmp 45) rfl w.heap.size _ _ _ a b rfl HOWN.out rfl (by omega) (by omega) ?_); intro v2 w2 hown2 hB2)
                go_roundw
                case rel => exact ⟨k + 1, by omega, by go_num, by rw [HK'.out, List.length_append]; exact hown2, Below.trans (by first | exact HWW.out.drew | exact HWW.out) hB2⟩
                case measure => simp [intOf]; omega
      · obtain rfl : k = ms.length := by omega
        go_wp2
        go_ret2
        obtain ⟨A', c', rfl, hI⟩ := own_marks hown
        exact ⟨A', c', _, _, rfl, hI, hB, by rw [refKp, if_neg (by omega), if_neg (by omega), straightF, if_pos HV.out], by simp [clkE, HV.out]⟩
  · have hv2 : vkB ms = false := by simpa using hv
    go_enter Try.func41, Try.ntmps41
    go_wp2_with (go_at_call 33; refine (refValidClock_any _ _ _ _ H.out.marks H.out.len).mono ?_; rintro e w1 ⟨he, hB1⟩; rw [hv2] at he; subst he)
    go_ret2
    exact ⟨none, 0, [], _, rfl, Clk.nil_, hB1, by simp [straightF, hv2], by simp [clkE, hv2]⟩
end Go.Proofs.Ytjghlfagdleglaa
