/-
  Contracts: difference (tick), apart (firnref01): by how much two clocks differ at a local time.
-/
import Derived.Test.YtjghlfagdleglaaCorners
namespace Go.Proofs.Ytjghlfagdleglaa
open Go.RowKit

def tN (ms : List (Int × Int)) (x : Int) : Int := lowN (atN ms x) (atD ms x)
def tD (ms : List (Int × Int)) (x : Int) : Int := lowD (atN ms x) (atD ms x)
def absI (n : Int) : Int := max n (-n)
def gapP (ms ns : List (Int × Int)) (x : Int) : Int × Int :=
  (lowN (absI (tN ms x * tD ns x - tN ns x * tD ms x)) (tD ms x * tD ns x), lowD (absI (tN ms x * tD ns x - tN ns x * tD ms x)) (tD ms x * tD ns x))

set_option maxRecDepth 100000 in
theorem difference_any (n1 d1 n2 d2 : Int) (w : World) (hn1 : -20000000000 ≤ n1 ∧ n1 ≤ 20000000000) (hd1 : 1 ≤ d1 ∧ d1 ≤ 100000) (hn2 : -20000000000 ≤ n2 ∧ n2 ≤ 20000000000) (hd2 : 1 ≤ d2 ∧ d2 ≤ 100000) :
    Calls Try.prog 77 #[.agg #[.int .i64 n1, .int .i64 d1], .agg #[.int .i64 n2, .int .i64 d2]] w fun e w' =>
      e = .returned (.agg #[.int .i64 (lowN (absI (n1 * d2 - n2 * d1)) (d1 * d2)), .int .i64 (lowD (absI (n1 * d2 - n2 * d1)) (d1 * d2))]) ∧ Below w.heap.size w w' := by
  have m1 := mul_box (x := n1) (y := d2) (X := 20000000000) (Y := 100000) hn1.1 hn1.2 (by omega) hd2.2
  have m2 := mul_box (x := n2) (y := d1) (X := 20000000000) (Y := 100000) hn2.1 hn2.2 (by omega) hd1.2
  have m3 := mul_box (x := d1) (y := d2) (X := 100000) (Y := 100000) (by omega) hd1.2 (by omega) hd2.2
  have m4 : 0 < d1 * d2 := Int.mul_pos (by omega) (by omega)
  go_enter Try.func77, Try.ntmps77
  have HA : Hid (0 ≤ absI (n1 * d2 - n2 * d1) ∧ absI (n1 * d2 - n2 * d1) ≤ 4611686018427387904) := by show _ ∧ _; rw [absI]; omega
  have HROW : Hid ((((w.alloc (.cells #[.int .i64 n1, .int .i64 d1] 36)).alloc (.cells #[.int .i64 n2, .int .i64 d2] 36)).alloc (.cells #[.int .i64 0, .int .i64 0] 36)).heap[w.heap.size + 2]? = some (.cells #[.int .i64 0, .int .i64 0] 36 (0, 0))) := by
    show _ = _
    rw [show w.heap.size + 2 = ((w.alloc (.cells #[.int .i64 n1, .int .i64 d1] 36)).alloc (.cells #[.int .i64 n2, .int .i64 d2] 36)).heap.size by simp]
    exact heap_alloc_new _ _
  go_wp2_with (go_at_call 81; refine (lowest_any (absI (n1 * d2 - n2 * d1)) (d1 * d2) _ (by have := HA.out; omega) (by have := HA.out; omega) m4 (by omega)).mono ?_; rintro e w1 ⟨rfl, hB1⟩; have hrow := (hB1.block (w.heap.size + 2) (by simp)).trans HROW.out; have c0 := cell_of_row w1 _ 0 _ _ _ hrow; have c1 := cell_of_row w1 _ 1 _ _ _ hrow; simp at c0 c1; have e0 := blk_frozen hrow 0; have e1 := blk_frozen hrow 1; have HR1 := Lib.hid hrow; clear hrow)
  have hrow2 := set2_row (x := .int .i64 (lowN (absI (n1 * d2 - n2 * d1)) (d1 * d2))) (y := .int .i64 (lowD (absI (n1 * d2 - n2 * d1)) (d1 * d2))) HR1.out
  have k0 := cell_of_row _ _ 0 _ _ _ hrow2
  have k1 := cell_of_row _ _ 1 _ _ _ hrow2
  have hW : Below w.heap.size w w1 := Below.trans (by exact (by repeat (first | with_reducible exact Below.refl _ _ | with_reducible assumption | refine below_drewN ?_ _ | with_reducible refine Below.drew ?_ | (refine Below.setCell ?_ (by first | (simp; done) | (simp; omega) | omega) _) | (refine Below.alloc ?_ (by first | (simp; done) | (simp; omega) | omega) _)))) (hB1.mono (by simp; omega))
  refine bodyPost_ret (v := .agg #[.int .i64 (lowN (absI (n1 * d2 - n2 * d1)) (d1 * d2)), .int .i64 (lowD (absI (n1 * d2 - n2 * d1)) (d1 * d2))]) (by simp at k0 k1; simp [results, Try.results77, go_sem, k0, k1]) rfl ⟨rfl, ?_⟩
  exact Below.setCell (Below.setCell hW (by simp; omega) _) (by simp; omega) _
theorem t_bd {ms : List (Int × Int)} {x : Int} (hv : vkB ms = true) (hx : tickB x = true) : (1 ≤ tD ms x ∧ tD ms x ≤ 100000) ∧ (-20000000000 ≤ tN ms x ∧ tN ms x ≤ 20000000000) := by
  have k0 : okAt ms x = true := by simp [okAt, hv, hx]
  have := atR_bd hv hx
  rw [atRN, atRD, if_pos k0, if_pos k0] at this
  exact this

set_option maxRecDepth 100000 in
set_option maxHeartbeats 800000 in
theorem refapart_any (ms ns : List (Int × Int)) (A B : Option Addr) (c d : Nat) (x : Int) (w : World) (hA : Clk w A c ms) (hB : Clk w B d ns) (hv : vkB ms = true) (hv' : vkB ns = true) (hx : tickB x = true) :
    Calls Try.prog 78 #[.slice A ms.length c, .slice B ns.length d, .int .i64 x] w fun e w' => ∃ p q : Int,
      e = .returned (.agg #[.int .i64 p, .int .i64 q]) ∧ Below w.heap.size w w' ∧ Hid ((p, q) = gapP ms ns x) := by
  obtain ⟨bD1, bN1⟩ := t_bd hv hx
  obtain ⟨bD2, bN2⟩ := t_bd hv' hx
  obtain ⟨hx0, hx1⟩ : 0 ≤ x ∧ x ≤ 100000 := by simpa [tickB] using hx
  have HV := Lib.hid hv
  have HV' := Lib.hid hv'
  have HA := Lib.hid hA
  have HB := Lib.hid hB
  have BD := Lib.hid (And.intro (And.intro bD1 bN1) (And.intro bD2 bN2))
  clear hA hB hv hv' hx bD1 bD2 bN1 bN2
  have HROW : Hid ((w.alloc (.cells #[.int .i64 0, .int .i64 0] 36)).heap[w.heap.size]? = some (.cells #[.int .i64 0, .int .i64 0] 36 (0, 0))) := heap_alloc_new _ _
  go_enter Try.func78, Try.ntmps78
  have TA : Hid True := Lib.hid trivial
  go_wp2_with (first
    | (go_at_call 62; have hstop := HF1; refine (refat_any ns _ _ x _ (HB.out.below (by exact (by repeat (first | with_reducible exact Below.refl _ _ | with_reducible assumption | refine below_drewN ?_ _ | with_reducible refine Below.drew ?_ | (refine Below.setCell ?_ (by first | (simp; done) | (simp; omega) | omega) _) | (refine Below.alloc ?_ (by first | (simp; done) | (simp; omega) | omega) _))))) HV'.out (by omega) (by omega)).mono ?_; rintro e w2 ⟨n2, d2, rfl, hB2, hF2⟩; have HF2 := Lib.hid hF2.out; clear hF2; have HROW2 := Lib.hid ((hB2.block w.heap.size (by omega)).trans HROW1.out); have z2 := hB2.size; have hW2 : Below w.heap.size w w2 := hW1.trans (hB2.mono (by omega)); obtain ⟨⟨hd11, hd12⟩, ⟨hn11, hn12⟩⟩ : (1 ≤ d1 ∧ d1 ≤ 100000) ∧ (-20000000000 ≤ n1 ∧ n1 ≤ 20000000000) := (by rw [HF1.out.1, HF1.out.2]; exact BD.out.1); obtain ⟨⟨hd21, hd22⟩, ⟨hn21, hn22⟩⟩ : (1 ≤ d2 ∧ d2 ≤ 100000) ∧ (-20000000000 ≤ n2 ∧ n2 ≤ 20000000000) := (by rw [HF2.out.1, HF2.out.2]; exact BD.out.2); have m1 := mul_box (x := n1) (y := d2) (X := 20000000000) (Y := 100000) hn11 hn12 (by omega) hd22; have m2 := mul_box (x := n2) (y := d1) (X := 20000000000) (Y := 100000) hn21 hn22 (by omega) hd12; have m3 := mul_box (x := d1) (y := d2) (X := 100000) (Y := 100000) (by omega) hd12 (by omega) hd22; have m4 : 0 < d1 * d2 := Int.mul_pos (by omega) (by omega); have HAB : Hid (0 ≤ absI (n1 * d2 - n2 * d1) ∧ absI (n1 * d2 - n2 * d1) ≤ 4611686018427387904) := (by show _ ∧ _; rw [absI]; omega))
    | (clear TA; go_at_call 62; refine (refat_any ms _ _ x _ (HA.out.below (by exact (by repeat (first | with_reducible exact Below.refl _ _ | with_reducible assumption | refine below_drewN ?_ _ | with_reducible refine Below.drew ?_ | (refine Below.setCell ?_ (by first | (simp; done) | (simp; omega) | omega) _) | (refine Below.alloc ?_ (by first | (simp; done) | (simp; omega) | omega) _))))) HV.out (by omega) (by omega)).mono ?_; rintro e w1 ⟨n1, d1, rfl, hB1, hF1⟩; have HF1 := Lib.hid hF1.out; clear hF1; have HROW1 := Lib.hid ((hB1.block w.heap.size (by simp)).trans HROW.out); have z1 := hB1.size; simp at z1; have hW1 : Below w.heap.size w w1 := Below.trans (by exact (by repeat (first | with_reducible exact Below.refl _ _ | with_reducible assumption | refine below_drewN ?_ _ | with_reducible refine Below.drew ?_ | (refine Below.setCell ?_ (by first | (simp; done) | (simp; omega) | omega) _) | (refine Below.alloc ?_ (by first | (simp; done) | (simp; omega) | omega) _)))) (hB1.mono (by simp)))
    | (go_at_call 52; refine (ratio_any (absI (n1 * d2 - n2 * d1)) (d1 * d2) _ (by have := HAB.out; omega) (by have := HAB.out; omega) m4 (by omega)).mono ?_; rintro e w3 ⟨rfl, hB3⟩; have hrow := (hB3.block w.heap.size (by simp; omega)).trans ((Below.heap_alloc _ _ _ (by simp; omega)).trans ((Below.heap_alloc _ _ _ (by omega)).trans HROW2.out)); have c0 := cell_of_row w3 _ 0 _ _ _ hrow; have c1 := cell_of_row w3 _ 1 _ _ _ hrow; simp at c0 c1; have e0 := blk_frozen hrow 0; have e1 := blk_frozen hrow 1; have HR1 := Lib.hid hrow; clear hrow; have hW3 : Below w.heap.size w w3 := Below.trans (by exact (by repeat (first | with_reducible exact Below.refl _ _ | with_reducible assumption | refine below_drewN ?_ _ | with_reducible refine Below.drew ?_ | (refine Below.setCell ?_ (by first | (simp; done) | (simp; omega) | omega) _) | (refine Below.alloc ?_ (by first | (simp; done) | (simp; omega) | omega) _)))) (hB3.mono (by simp; omega))))
  have hrow2 := set2_row (x := .int .i64 (lowN (absI (n1 * d2 - n2 * d1)) (d1 * d2))) (y := .int .i64 (lowD (absI (n1 * d2 - n2 * d1)) (d1 * d2))) HR1.out
  have k0 := cell_of_row _ _ 0 _ _ _ hrow2
  have k1 := cell_of_row _ _ 1 _ _ _ hrow2
  refine bodyPost_ret (v := .agg #[.int .i64 (lowN (absI (n1 * d2 - n2 * d1)) (d1 * d2)), .int .i64 (lowD (absI (n1 * d2 - n2 * d1)) (d1 * d2))]) (by simp at k0 k1; simp [results, Try.results78, go_sem, k0, k1]) rfl ⟨_, _, rfl, Below.setCell (Below.setCell hW3 (by simp) _) (by simp) _, ?_⟩
  show _ = _
  rw [gapP, tN, tD, tN, tD, ← HF1.out.1, ← HF1.out.2, ← HF2.out.1, ← HF2.out.2]
end Go.Proofs.Ytjghlfagdleglaa
