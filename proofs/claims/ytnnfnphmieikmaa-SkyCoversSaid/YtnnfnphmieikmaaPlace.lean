/-
  Contract: place of a spot.
-/
import Derived.Test.YtnnfnphmieikmaaRing
namespace Go.Proofs.Ytnnfnphmieikmaa
open Go Go.RowKit

theorem ring_bd {k : Nat} (hk : k < 5) {f x y : Int} (_ : 0 ≤ f) (_ : f < 12) (x0 : 0 ≤ x) (x1 : x < sdI k) (y0 : 0 ≤ y) (y1 : y < sdI k) : 1 ≤ ringI k f x y ∧ ringI k f x y ≤ 4 * sdI k - 1 := by
  rw [ring_sd]
  obtain rfl | rfl | rfl | rfl | rfl := five hk <;> simp [sdI] at * <;> omega
theorem len_bd {k : Nat} (hk : k < 5) {r : Int} (r0 : 1 ≤ r) (r1 : r ≤ 4 * sdI k - 1) : 4 ≤ lenI k r ∧ lenI k r ≤ 64 := by
  rw [len_sd]
  obtain ⟨b1, b2⟩ := sd_bd hk
  omega
theorem eigh_bd {f : Int} (_ : 0 ≤ f) (_ : f < 12) : 0 ≤ eighI f ∧ eighI f ≤ 7 := by
  unfold eighI; split <;> omega
theorem odd_one {k : Nat} {r : Int} (h : sdI k ≤ r) (h2 : r - sdI k ≤ 2 * sdI k) (h3 : ((r - sdI k) % 2 == 1) = true) : oddI k r = 1 :=
  if_pos ⟨by unfold sdI at h; omega, h2, by simpa [sdI] using h3⟩
theorem odd_zero {k : Nat} {r : Int} (h : r < sdI k ∨ 2 * sdI k < r - sdI k ∨ ((r - sdI k) % 2 == 1) = false) : oddI k r = 0 := by
  refine if_neg ?_
  rintro ⟨h1, h2, h3⟩
  rcases h with h | h | h
  · unfold sdI at h; omega
  · unfold sdI at h; omega
  · rw [show sdI k = 2 ^ k from rfl, h3] at h; cases h
theorem tdiv2_bd {T : Int} (h0 : -100 ≤ T) (h1 : T ≤ 200) : -100 ≤ T.tdiv 2 ∧ T.tdiv 2 ≤ 200 := by
  by_cases h : 0 ≤ T
  · rw [Int.tdiv_eq_ediv_of_nonneg h]; omega
  · obtain ⟨U, rfl⟩ : ∃ U, T = -U := ⟨-T, by omega⟩
    rw [Int.neg_tdiv, Int.tdiv_eq_ediv_of_nonneg (by omega)]; omega
theorem lo_wrap {T S : Int} (h0 : -100 ≤ T) (h1 : T ≤ 200) (s0 : 1 ≤ S) (s1 : S ≤ 16) : wrap64 (T.tdiv 2 + 4 * S) = T.tdiv 2 + 4 * S :=
  IntWalk.wrap64_in _ (by have := tdiv2_bd h0 h1; omega)
theorem place_lo {k : Nat} {f x y T : Int} (e : T = twiceI k f x y) (h : T < 2) : placeI k f x y = T.tdiv 2 + 4 * sdI k := by
  subst e; rw [placeI, if_pos h]; rfl
theorem place_hi {k : Nat} {f x y T : Int} (e : T = twiceI k f x y) (h : ¬ T < 2) : placeI k f x y = T / 2 := by
  subst e; rw [placeI, if_neg h, Int.tdiv_eq_ediv_of_nonneg (by omega)]
theorem twice_eq {k : Nat} {f x y R L E o : Int} (hR : R = ringI k f x y) (hL : L = lenI k R) (hE : E = eighI f) (ho : oddI k R = o) : twiceI k f x y = E * (L / 4) + x - y + 1 + o := by
  subst hR hL hE ho; rfl

set_option maxRecDepth 100000 in
set_option maxHeartbeats 400000 in
theorem place_any (k : Nat) (hk : k < 5) (f x y : Int) (f0 : 0 ≤ f) (f1 : f < 12) (x0 : 0 ≤ x) (x1 : x < sdI k) (y0 : 0 ≤ y) (y1 : y < sdI k) (w : World) :
    Calls Try.prog 117 #[.agg #[.int .i64 f, .int .i64 x, .int .i64 y], .int .i64 (k : Int)] w fun e w' => e = .returned (.int .i64 (placeI k f x y)) ∧ Below w.heap.size w w' := by
  obtain ⟨b1, b2⟩ := sd_bd hk
  have hR := ring_bd hk f0 f1 x0 x1 y0 y1
  have cR := fun W => ring_any k hk f x y f0 f1 x0 (by omega) y0 (by omega) W
  obtain ⟨R, eR⟩ : ∃ R, R = ringI k f x y := ⟨_, rfl⟩
  rw [← eR] at hR cR
  obtain ⟨r0, r1⟩ := hR
  have hL := len_bd hk r0 r1
  have cL := fun W => length_any k hk R (by omega) (by omega) W
  obtain ⟨L, eL⟩ : ∃ L, L = lenI k R := ⟨_, rfl⟩
  rw [← eL] at hL cL
  obtain ⟨l0, l1⟩ := hL
  have hE := eigh_bd f0 f1
  have cE := fun W => eighths_any f x y f0 f1 W
  obtain ⟨E, eE⟩ : ∃ E, E = eighI f := ⟨_, rfl⟩
  rw [← eE] at hE cE
  obtain ⟨e0, e1⟩ := hE
  obtain ⟨m0, m1⟩ := mul_bd (a := E) (b := L / 4) (A := 7) (B := 16) e0 e1 (by omega) (by omega)
  have HR := Lib.hid eR
  have HL := Lib.hid eL
  have HE := Lib.hid eE
  have CR := Lib.hid cR
  have CL := Lib.hid cL
  have CE := Lib.hid cE
  clear eR eL eE cR cL cE
  go_enter Try.func117, Try.ntmps117
  go_wp2_with (first | (go_at_call 116; refine (CR.out _).mono ?_; rintro e w1 ⟨rfl, hB1⟩; have c0 := (hB1.cell (p := ⟨w.heap.size, 0, none⟩) (by simp)).trans (cell_of_row _ _ 0 _ _ _ (heap_alloc_new w _)); have c1 := (hB1.cell (p := ⟨w.heap.size, 1, none⟩) (by simp)).trans (cell_of_row _ _ 1 _ _ _ (heap_alloc_new w _)); have c2 := (hB1.cell (p := ⟨w.heap.size, 2, none⟩) (by simp)).trans (cell_of_row _ _ 2 _ _ _ (heap_alloc_new w _)); simp at c0 c1 c2; have HB1 := Lib.hid hB1; have z1 := hB1.size; simp at z1; clear hB1) | (go_at_call 84; refine (CL.out _).mono ?_; rintro e w2 ⟨rfl, rfl⟩))
  have hz : w.heap.size < w1.heap.size := by omega
  have hW1 : Below w.heap.size w w1 := Below.trans (Below.alloc (Below.refl _ _) (Nat.le_refl _) _) (HB1.out.mono (by simp))
  go_region_held3 (fun W => W.cell? ⟨w.heap.size, 0, none⟩ = some (.int .i64 f) ∧ W.cell? ⟨w.heap.size, 1, none⟩ = some (.int .i64 x) ∧ W.cell? ⟨w.heap.size, 2, none⟩ = some (.int .i64 y))
    ((first | with_reducible exact ⟨c0, c1, c2⟩ | exact ⟨c0, c1, c2⟩))
    ((go_at_call 122; refine (CE.out _).mono ?_; rintro e w3 ⟨rfl, hB3⟩; have c0 := (hB3.cell (p := ⟨w.heap.size, 0, none⟩) (by simpa using hz)).trans c0; have c1 := (hB3.cell (p := ⟨w.heap.size, 1, none⟩) (by simpa using hz)).trans c1; have c2 := (hB3.cell (p := ⟨w.heap.size, 2, none⟩) (by simpa using hz)).trans c2; have HB3 := Lib.hid hB3; have z3 := hB3.size; clear hB3))
  go_wp2_with (go_at_call 81; refine (side_any k hk _).mono ?_; rintro e w4 ⟨rfl, rfl⟩)
  all_goals
    go_ret
    refine ⟨ret_int ?_, ?_⟩
    · first
        | (rw [lo_wrap (by omega) (by omega) b1 b2]; exact (place_lo (T := E * (L / 4) + x - y + 1 + 1) (by rw [twice_eq HR.out HL.out HE.out (odd_one (by assumption) (by assumption) (by assumption))]) (by assumption)).symm)
        | exact (place_hi (T := E * (L / 4) + x - y + 1 + 1) (by rw [twice_eq HR.out HL.out HE.out (odd_one (by assumption) (by assumption) (by assumption))]) (by omega)).symm
        | (rw [lo_wrap (by omega) (by omega) b1 b2]; exact (place_lo (T := E * (L / 4) + x - y + 1) (by rw [twice_eq HR.out HL.out HE.out (odd_zero (by first | exact .inl (by assumption) | exact .inr (.inl (by assumption)) | exact .inr (.inr (by assumption))))]; omega) (by assumption)).symm)
        | exact (place_hi (T := E * (L / 4) + x - y + 1) (by rw [twice_eq HR.out HL.out HE.out (odd_zero (by first | exact .inl (by assumption) | exact .inr (.inl (by assumption)) | exact .inr (.inr (by assumption))))]; omega) (by omega)).symm
    · exact Below.trans (below_drewN hW1 _) (HB3.out.mono (by first | (simp; done) | (simp; omega) | omega))
end Go.Proofs.Ytnnfnphmieikmaa
