/-
  Contracts: rest, rests (track).
-/
import Derived.Test.YtoilbgngefleiaaValid2
import Derived.Test.YtoilbgngefleiaaRatio
import Derived.Test.YtoilbgngefleiaaOwn
namespace Go.Proofs.Ytoilbgngefleiaa
open Go.RowKit Go.Shelf

theorem own_below {w w3 : World} {base : Nat} {e : TypeId} {size n : Nat} {v : Value} {xs : List Value} (h : w.ownsRow base e size v n xs) (hB : Below w.heap.size w w3) : w3.ownsRow base e size v n xs :=
  h.kept (World.grownBy.mk hB.os hB.tape hB.output hB.size (fun i hi _ => hB.block i hi) : World.grownBy _ w3 none) (by cases hh : Value.ownBlock v with | none => exact .inl rfl | some g => exact .inr (by simp))

/-- The rest of a point, times the line's D. -/
def rsI (a b d : Int) (q : Int × Int) : Int := q.2 * d - q.1 * a - b
/-- Bounds of a line within which nothing runs over. -/
def LnB (a b d : Int) : Prop := (-1000000 ≤ a ∧ a ≤ 1000000) ∧ (-1000000000 ≤ b ∧ b ≤ 1000000000) ∧ (1 ≤ d ∧ d ≤ 100000)
theorem pt_parts {q : Int × Int} (h : ptB q = true) : (-100 ≤ q.1 ∧ q.1 ≤ 100) ∧ (-1000 ≤ q.2 ∧ q.2 ≤ 1000) := by
  simpa [ptB, inB] using h
theorem mulBox {x y X Y : Int} (h1 : -X ≤ x) (h2 : x ≤ X) (h3 : -Y ≤ y) (h4 : y ≤ Y) : -(X * Y) ≤ x * y ∧ x * y ≤ X * Y := by
  have a1 := Int.mul_nonneg (show 0 ≤ X - x by omega) (show 0 ≤ Y - y by omega)
  have a2 := Int.mul_nonneg (show 0 ≤ X + x by omega) (show 0 ≤ Y + y by omega)
  have a3 := Int.mul_nonneg (show 0 ≤ X - x by omega) (show 0 ≤ Y + y by omega)
  have a4 := Int.mul_nonneg (show 0 ≤ X + x by omega) (show 0 ≤ Y - y by omega)
  constructor <;> grind
theorem rs_box {a b d : Int} {q : Int × Int} (hL : LnB a b d) (hq : ptB q = true) : (-100000000 ≤ q.2 * d ∧ q.2 * d ≤ 100000000) ∧ (-100000000 ≤ q.1 * a ∧ q.1 * a ≤ 100000000) ∧ (-1200000000 ≤ rsI a b d q ∧ rsI a b d q ≤ 1200000000) := by
  obtain ⟨⟨x0, x1⟩, y0, y1⟩ := pt_parts hq
  obtain ⟨⟨a0, a1⟩, ⟨b0, b1⟩, d0, d1⟩ := hL
  have h1 := mulBox (X := 1000) (Y := 100000) y0 y1 (show -100000 ≤ d by omega) d1
  have h2 := mulBox (X := 100) (Y := 1000000) x0 x1 a0 a1
  unfold rsI
  refine ⟨by omega, by omega, by omega⟩

set_option maxRecDepth 100000 in
theorem rest_any (x y a b d : Int) (w : World) (hL : LnB a b d) (hq : ptB (x, y) = true) :
    Calls Try.prog 89 #[.agg #[.int .i64 x, .int .i64 y], .agg #[.int .i64 a, .int .i64 b, .int .i64 d]] w fun e w' => e = .returned (.int .i64 (rsI a b d (x, y))) ∧ Below w.heap.size w w' := by
  obtain ⟨⟨p0, p1⟩, ⟨p2, p3⟩, p4, p5⟩ := rs_box hL hq
  have HB := hL.2.1
  simp only [rsI] at p0 p1 p2 p3 p4 p5
  go_enter Try.func89, Try.ntmps89
  go_wp2
  go_ret
  exact ⟨ret_int (by simp only [rsI]), (by repeat (first | with_reducible exact Below.refl _ _ | with_reducible assumption | refine below_drewN ?_ _ | with_reducible refine Below.drew ?_ | (refine Below.setCell ?_ (by first | (simp; done) | (simp; omega) | omega) _) | (refine Below.alloc ?_ (by first | (simp; done) | (simp; omega) | omega) _)))⟩

set_option maxRecDepth 100000 in
set_option maxHeartbeats 1000000 in
theorem rests_any (ms : List (Int × Int)) (A : Option Addr) (c : Nat) (a b d : Int) (w : World) (h : Marks w A ms) (hl : ms.length ≤ 1000) (hL : LnB a b d) (hv : ms.all ptB = true) :
    Calls Try.prog 58 #[.slice A ms.length c, .agg #[.int .i64 a, .int .i64 b, .int .i64 d]] w fun e w' => ∃ (A' : Option Addr) (c' : Nat) (zs : List Int), e = .returned (.slice A' zs.length c') ∧ Out w' A' c' zs ∧ Below w.heap.size w w' ∧ Hid (zs = ms.map (rsI a b d)) := by
  have H := Lib.hid h
  have HL := Lib.hid hL
  have HV : Hid (∀ q ∈ ms, ptB q = true) := Lib.hid (by simpa using hv)
  clear h hL hv
  obtain ⟨i0, hi0, hz0, hz1, hz2⟩ := info_parts int_info
  have HZ2 := Lib.hid hz2
  clear hz2
  go_enter Try.func58, Try.ntmps58
  go_wp2_with (at_make; refine wpList_make_own _ rfl _ _ 37 rfl (w.heap.size + 1) 3 i0 (.int .i64 0) 1 Try.underlying37 hi0 hz0 hz1 _ _ _ ms.length rfl rfl rfl (by rw [HZ2.out]; omega) (by unfold maxLen; omega) (by simp) ?_; intro w1 hown1 hg1)
  obtain ⟨W0, hW0⟩ : ∃ W0, W0 = w.alloc (.cells #[.int .i64 a, .int .i64 b, .int .i64 d] 24) := ⟨_, rfl⟩
  rw [← hW0] at hg1
  have hs0 : W0.heap.size = w.heap.size + 1 := by rw [hW0]; simp
  have hBW : Below w.heap.size w W0 := by rw [hW0]; exact (Below.refl _ _).alloc (Nat.le_refl _) _
  have hB1 : Below (w.heap.size + 1) W0 w1 := (Below.refl _ _).grown hg1 (by omega) (by simp)
  have x0 : W0.cell? ⟨w.heap.size, 0, none⟩ = some (.int .i64 a) := by rw [hW0]; exact cell_of_row _ _ 0 _ _ _ (heap_alloc_new w _)
  have x1 : W0.cell? ⟨w.heap.size, 1, none⟩ = some (.int .i64 b) := by rw [hW0]; exact cell_of_row _ _ 1 _ _ _ (heap_alloc_new w _)
  have x2 : W0.cell? ⟨w.heap.size, 2, none⟩ = some (.int .i64 d) := by rw [hW0]; exact cell_of_row _ _ 2 _ _ _ (heap_alloc_new w _)
  have HX : Hid ((W0.cell? ⟨w.heap.size, 0, none⟩ = some (.int .i64 a)) ∧ (W0.cell? ⟨w.heap.size, 1, none⟩ = some (.int .i64 b)) ∧ (W0.cell? ⟨w.heap.size, 2, none⟩ = some (.int .i64 d))) := Lib.hid ⟨x0, x1, x2⟩
  have HBW := Lib.hid hBW
  have HS0 := Lib.hid hs0
  clear hg1 HZ2 hz0 hz1 hi0 x0 x1 x2 hBW hs0 hW0
  go_loopw [5, 13] (fun v i wr => ∃ k : Nat, k ≤ ms.length ∧ i = .int .i64 k ∧ wr.ownsRow (w.heap.size + 1) 3 1 v k (((ms.take k).map (rsI a b d)).map (Value.int .i64)) ∧ Below (w.heap.size + 1) W0 wr) (fun _ i _ => ms.length - (intOf i).toNat)
  case atStart => exact ⟨0, Nat.zero_le _, rfl, (by simpa using hown1), hB1⟩
  case round =>
    clear hown1 hB1
    obtain ⟨k, hk, rfl, hown, hB⟩ := hrel
    have hsz : w.heap.size + 1 ≤ wr.heap.size := by have := hB.size; have := HS0.out; omega
    have hBw : Below w.heap.size w wr := below_step HBW.out (hB.mono (by have := HS0.out; omega))
    by_cases hlt : k < ms.length
    · obtain ⟨bl, off, rfl, hbk, hcells⟩ := H.out.open_ (show 0 < ms.length by omega)
      obtain ⟨x, y, hxy⟩ := getM_of_lt hlt
      have HP : Hid (ptB (x, y) = true) := Lib.hid (HV.out _ (List.mem_of_getElem? hxy))
      obtain ⟨hc0, hc1⟩ := hcells k _ hxy
      have c0 := (hBw.cell (p := ⟨bl, off + k * 2, none⟩) hbk).trans (by simpa using hc0)
      have c1 := (hBw.cell (p := ⟨bl, off + k * 2 + 1, none⟩) hbk).trans (by simpa using hc1)
      have x0 := (hB.cell (p := ⟨w.heap.size, 0, none⟩) (by simp)).trans HX.out.1
      have x1 := (hB.cell (p := ⟨w.heap.size, 1, none⟩) (by simp)).trans HX.out.2.1
      have x2 := (hB.cell (p := ⟨w.heap.size, 2, none⟩) (by simp)).trans HX.out.2.2
      clear hcells hc0 hc1
      have HXY := Lib.hid hxy
      have HBw := Lib.hid hBw
      clear hxy hBw
      have g1 : w.heap.size < wr.heap.size := by omega
      have g2 : bl < wr.heap.size := by omega
      have TA : Hid True := Lib.hid trivial
      go_wp2_with (first
        | (go_at_call 89; clear TA; refine (rest_any x y a b d _ HL.out HP.out).mono ?_; rintro e w2 ⟨rfl, hB2⟩; have hB3 : Below wr.heap.size wr w2 := below_step ((Below.refl _ _).alloc (Nat.le_refl _) _) hB2; have hown2 := own_below hown hB3)
        | (at_builtin; refine wp_app_int _ rfl (.tmp 17) (.tmp 21) rfl (w.heap.size + 1) _ k _ _ rfl hown2 rfl (by omega) (by have := hB3.size; omega) ?_; intro v2 w4 hown4 hB4))
      go_roundw
      case rel => exact ⟨k + 1, by omega, by go_num, by rw [take_snoc HXY.out]; simpa using hown4, (hB.trans (hB3.mono (by omega))).trans hB4⟩
      case measure => simp [intOf]; omega
    · obtain rfl : k = ms.length := by omega
      go_wp2
      go_ret
      rw [List.take_length] at hown
      have hown5 : wr.ownsRow (w.heap.size + 1) 3 1 u5 (ms.map (rsI a b d)).length ((ms.map (rsI a b d)).map (Value.int .i64)) := by simpa using hown
      obtain ⟨A', c', rfl, hI⟩ := own_ints hown5
      exact ⟨A', c', _, rfl, hI, hBw, rfl⟩
end Go.Proofs.Ytoilbgngefleiaa
