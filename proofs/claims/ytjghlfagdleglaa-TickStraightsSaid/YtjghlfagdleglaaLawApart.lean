/-
  The walk of TickApart.
-/
import Derived.Test.YtjghlfagdleglaaApartM2
namespace Go.Proofs.Ytjghlfagdleglaa
open Go.RowKit

theorem apE_ok {ms ns : List (Int × Int)} {a b : Int} (h : apE ms ns a b = 0) : (vkB ms = true ∧ vkB ns = true) ∧ (0 ≤ a ∧ b ≤ 100000) ∧ a ≤ b := by
  rw [apE] at h
  split at h
  · rename_i h1
    split at h
    · rename_i h2
      simp only [Bool.and_eq_true, decide_eq_true_eq, tickB] at h1 h2
      exact ⟨h1, ⟨h2.1.1.1, h2.1.2.2⟩, h2.2⟩
    · omega
  · omega
theorem ap_res {ms ns : List (Int × Int)} {a b t p q E t2 p2 q2 E2 : Int} (h : E = apE ms ns a b ∧ (E = 0 → (t, (p, q)) = apT ms ns a b) ∧ (E ≠ 0 → t = 0 ∧ p = 0 ∧ q = 0))
    (h2 : E2 = apE ms ns a b ∧ (E2 = 0 → (t2, (p2, q2)) = apR ms ns a b) ∧ (E2 ≠ 0 → t2 = 0 ∧ p2 = 0 ∧ q2 = 0)) : t = t2 ∧ p = p2 ∧ q = q2 ∧ E = E2 := by
  obtain ⟨e1, f1, g1⟩ := h
  obtain ⟨e2, f2, g2⟩ := h2
  have he : E = E2 := e1.trans e2.symm
  by_cases h0 : E = 0
  · obtain ⟨⟨hv, hv'⟩, ⟨ha, hb⟩, hab⟩ := apE_ok (e1.symm.trans h0)
    have := (f1 h0).trans ((ap_same hv hv' ha hb hab).trans (f2 (he.symm.trans h0)).symm)
    injection this with h3 h4
    injection h4 with h5 h6
    exact ⟨h3, h5, h6, he⟩
  · obtain ⟨a1, a2, a3⟩ := g1 h0
    obtain ⟨b1, b2, b3⟩ := g2 (fun h => h0 (he.trans h))
    exact ⟨a1.trans b1.symm, a2.trans b2.symm, a3.trans b3.symm, he⟩

set_option maxRecDepth 100000 in
set_option maxHeartbeats 1600000 in
theorem tickApart_walk (ms : List (Int × Int)) (A : Option Addr) (c : Nat) (ns : List (Int × Int)) (B : Option Addr) (d : Nat) (a b : Int) (w : World) (hA : Marks w A ms) (hle : ms.length ≤ c) (hcap : c ≤ maxLen) (hB : Marks w B ns) (hle' : ns.length ≤ d) (hcap' : d ≤ maxLen)
    (_wa : (Lit.int .i64 a).wf = true) (_wb : (Lit.int .i64 b).wf = true) :
    Calls Try.prog 6 #[.slice A ms.length c, .slice B ns.length d, .int .i64 a, .int .i64 b] w fun e w' => e = .returned (.bool true) ∧ Below w.heap.size w w' := by
  have HC : Hid (Clk w A c ms) := ⟨hA, hle, hcap⟩
  have HD : Hid (Clk w B d ns) := ⟨hB, hle', hcap'⟩
  have HSM : Hid (sameR ms ns = sameV ms ns) := by show _ = _; exact same_same.symm
  clear hA hle hcap hB hle' hcap'
  go_enter Try.func6, Try.ntmps6
  go_wp2_with (first
    | (go_at_call 29; refine (long_any _ _ _ _).mono ?_; rintro e w' ⟨rfl, rfl⟩)
    | (go_at_call 47; refine (apart_any ms ns _ _ _ _ a b _ (HC.out.below (by exact (by repeat (first | with_reducible exact Below.refl _ _ | with_reducible assumption | refine below_drewN ?_ _ | with_reducible refine Below.drew ?_ | (refine Below.setCell ?_ (by first | (simp; done) | (simp; omega) | omega) _) | (refine Below.alloc ?_ (by first | (simp; done) | (simp; omega) | omega) _))))) (HD.out.below (by exact (by repeat (first | with_reducible exact Below.refl _ _ | with_reducible assumption | refine below_drewN ?_ _ | with_reducible refine Below.drew ?_ | (refine Below.setCell ?_ (by first | (simp; done) | (simp; omega) | omega) _) | (refine Below.alloc ?_ (by first | (simp; done) | (simp; omega) | omega) _)))))).mono ?_; rintro e w1 ⟨t, p, q, E, rfl, hB1, hF1⟩; have HF1 := Lib.hid hF1.out; clear hF1; have z1 := hB1.size; have hW1 : Below w.heap.size w w1 := Below.trans (by exact (by repeat (first | with_reducible exact Below.refl _ _ | with_reducible assumption | refine below_drewN ?_ _ | with_reducible refine Below.drew ?_ | (refine Below.setCell ?_ (by first | (simp; done) | (simp; omega) | omega) _) | (refine Below.alloc ?_ (by first | (simp; done) | (simp; omega) | omega) _)))) (hB1.mono (by first | omega | (simp; omega))); have y1 := hW1.size)
    | (go_at_call 48; refine (refApart_any ms ns _ _ _ _ a b _ (HC.out.below (by exact (by repeat (first | with_reducible exact Below.refl _ _ | with_reducible assumption | refine below_drewN ?_ _ | with_reducible refine Below.drew ?_ | (refine Below.setCell ?_ (by first | (simp; done) | (simp; omega) | omega) _) | (refine Below.alloc ?_ (by first | (simp; done) | (simp; omega) | omega) _))))) (HD.out.below (by exact (by repeat (first | with_reducible exact Below.refl _ _ | with_reducible assumption | refine below_drewN ?_ _ | with_reducible refine Below.drew ?_ | (refine Below.setCell ?_ (by first | (simp; done) | (simp; omega) | omega) _) | (refine Below.alloc ?_ (by first | (simp; done) | (simp; omega) | omega) _)))))).mono ?_; rintro e w2 ⟨t2, p2, q2, E2, rfl, hB2, hF2⟩; obtain ⟨rfl, rfl, rfl, rfl⟩ := ap_res HF1.out hF2.out; clear hF2; have z2 := hB2.size; simp at z2; have k0 := (hB2.cell (p := ⟨w1.heap.size, 0, none⟩) (by simp)).trans (cell_of_row _ _ 0 _ _ _ (heap_alloc_new w1 (.cells #[.int .i64 p, .int .i64 q] 36))); have k1 := (hB2.cell (p := ⟨w1.heap.size, 1, none⟩) (by simp)).trans (cell_of_row _ _ 1 _ _ _ (heap_alloc_new w1 (.cells #[.int .i64 p, .int .i64 q] 36))); have s1 : w1.heap.size < w2.heap.size := (by omega); have s2 : w1.heap.size < w2.heap.size + 1 := (by omega); have hW2 : Below w.heap.size w w2 := Below.trans (by exact (by repeat (first | with_reducible exact Below.refl _ _ | with_reducible assumption | refine below_drewN ?_ _ | with_reducible refine Below.drew ?_ | (refine Below.setCell ?_ (by first | (simp; done) | (simp; omega) | omega) _) | (refine Below.alloc ?_ (by first | (simp; done) | (simp; omega) | omega) _)))) (hB2.mono (by first | omega | (simp; omega))); have y2 := hW2.size)
    | (go_at_call 49; refine (same_any ms ns _ _ _ _ _ (HC.out.below (by exact (by repeat (first | with_reducible exact Below.refl _ _ | with_reducible assumption | refine below_drewN ?_ _ | with_reducible refine Below.drew ?_ | (refine Below.setCell ?_ (by first | (simp; done) | (simp; omega) | omega) _) | (refine Below.alloc ?_ (by first | (simp; done) | (simp; omega) | omega) _))))) (HD.out.below (by exact (by repeat (first | with_reducible exact Below.refl _ _ | with_reducible assumption | refine below_drewN ?_ _ | with_reducible refine Below.drew ?_ | (refine Below.setCell ?_ (by first | (simp; done) | (simp; omega) | omega) _) | (refine Below.alloc ?_ (by first | (simp; done) | (simp; omega) | omega) _)))))).mono ?_; rintro e w3 ⟨rfl, hB3⟩; have hW3 : Below w.heap.size w w3 := Below.trans (by exact (by repeat (first | with_reducible exact Below.refl _ _ | with_reducible assumption | refine below_drewN ?_ _ | with_reducible refine Below.drew ?_ | (refine Below.setCell ?_ (by first | (simp; done) | (simp; omega) | omega) _) | (refine Below.alloc ?_ (by first | (simp; done) | (simp; omega) | omega) _)))) (hB3.mono (by first | omega | (simp; omega))); have y3 := hW3.size)
    | (go_at_call 50; refine (refSame_any ms ns _ _ _ _ _ (HC.out.below (by exact (by repeat (first | with_reducible exact Below.refl _ _ | with_reducible assumption | refine below_drewN ?_ _ | with_reducible refine Below.drew ?_ | (refine Below.setCell ?_ (by first | (simp; done) | (simp; omega) | omega) _) | (refine Below.alloc ?_ (by first | (simp; done) | (simp; omega) | omega) _))))) (HD.out.below (by exact (by repeat (first | with_reducible exact Below.refl _ _ | with_reducible assumption | refine below_drewN ?_ _ | with_reducible refine Below.drew ?_ | (refine Below.setCell ?_ (by first | (simp; done) | (simp; omega) | omega) _) | (refine Below.alloc ?_ (by first | (simp; done) | (simp; omega) | omega) _)))))).mono ?_; rintro e w4 ⟨he, hB4⟩; rw [HSM.out] at he; subst he; have hW4 : Below w.heap.size w w4 := Below.trans (by exact (by repeat (first | with_reducible exact Below.refl _ _ | with_reducible assumption | refine below_drewN ?_ _ | with_reducible refine Below.drew ?_ | (refine Below.setCell ?_ (by first | (simp; done) | (simp; omega) | omega) _) | (refine Below.alloc ?_ (by first | (simp; done) | (simp; omega) | omega) _)))) (hB4.mono (by first | omega | (simp; omega))); have y4 := hW4.size)
    | (go_at_call 15; refine (awake_any _).mono ?_; rintro e w9 ⟨rfl, hB9⟩))
  all_goals go_ret
  all_goals exact ⟨by simp, Below.trans (by exact (by repeat (first | with_reducible exact Below.refl _ _ | with_reducible assumption | refine below_drewN ?_ _ | with_reducible refine Below.drew ?_ | (refine Below.setCell ?_ (by first | (simp; done) | (simp; omega) | omega) _) | (refine Below.alloc ?_ (by first | (simp; done) | (simp; omega) | omega) _)))) (hB9.mono (by first | (simp; done) | (simp; omega) | omega))⟩
end Go.Proofs.Ytjghlfagdleglaa
