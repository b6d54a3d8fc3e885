/-
  Contracts: Depth, Loss, Dim, greatestDivisor, Mean (ice).
-/
import Derived.Test.YtmndfcjkokolbaaLook
namespace Go.Proofs.Ytmndfcjkokolbaa
open Go.RowKit Go.Shelf

theorem bcell {W w1 : World} (hb : Below W.heap.size W w1) : (∀ b o, b < W.heap.size → w1.cell? ⟨b, o, none⟩ = W.cell? ⟨b, o, none⟩) ∧ (∀ b o, b < W.heap.size → w1.frozen? ⟨b, o, none⟩ = W.frozen? ⟨b, o, none⟩) :=
  ⟨fun b o h => hb.cell (p := ⟨b, o, none⟩) h, fun b o h => hb.frozen (p := ⟨b, o, none⟩) h⟩
theorem look_ok {ms : List (Int × Int)} {A : Option Addr} {c : Nat} {ds : List Int} {D : Option Addr} {cd : Nat} {w : World} (h : Clk w A c ms) (hD : Ints w D ds) (hdl : ds.length ≤ maxLen) (h0 : lookE ms ds = 0) :
    Calls Try.prog 60 #[.slice A ms.length c, .slice D ds.length cd] w fun e w' => ∃ A' c', e = .returned (.tuple #[.slice A' ((mtL ms).length + 1) c', .int .i64 0]) ∧ Los w' A' (mtL ms) ∧ Below w.heap.size w w' :=
  (look_any ms A c ds D cd w h hD hdl).mono fun e w' ⟨hB, hh⟩ => by
    rcases hh with ⟨_, A', c', he, hL⟩ | ⟨h1, _⟩
    · exact ⟨A', c', he, hL, hB⟩
    · exact absurd h0 h1
theorem look_no {ms : List (Int × Int)} {A : Option Addr} {c : Nat} {ds : List Int} {D : Option Addr} {cd : Nat} {w : World} (h : Clk w A c ms) (hD : Ints w D ds) (hdl : ds.length ≤ maxLen) (h0 : lookE ms ds ≠ 0) :
    Calls Try.prog 60 #[.slice A ms.length c, .slice D ds.length cd] w fun e w' => ∃ E : Int, e = .returned (.tuple #[.slice none 0 0, .int .i64 E]) ∧ (E != 0) = true ∧ Below w.heap.size w w' ∧ Hid (E = lookE ms ds) :=
  (look_any ms A c ds D cd w h hD hdl).mono fun e w' ⟨hB, hh⟩ => by
    rcases hh with ⟨h1, _⟩ | ⟨h1, he⟩
    · exact absurd h1 h0
    · exact ⟨_, he, by simpa using h1, hB, rfl⟩
theorem Ints.two {w : World} {g : Nat} {x y : Int} (h : w.cell? ⟨g, 0, none⟩ = some (.int .i64 x)) (h2 : w.cell? ⟨g, 1, none⟩ = some (.int .i64 y)) : Ints w (some ⟨g, 0, none⟩) [x, y] :=
  ⟨rfl, fun _ => ⟨_, rfl, World.block_lt_of_cell? w _ h, fun j u hj => by
    have hl := (List.getElem?_eq_some_iff.1 hj).1
    simp at hl
    rcases (show j = 0 ∨ j = 1 by omega) with rfl | rfl
    · simp at hj; subst hj; exact h
    · simp at hj; subst hj; exact h2⟩⟩

def depthN (ms : List (Int × Int)) : Nat := (mtL ms).length
def depthR (ms : List (Int × Int)) : Int := if lookE ms [] = 0 then (depthN ms : Int) else 0
def lossE (ms : List (Int × Int)) (a b : Int) : Int := lookE ms [a, b]
def lossR (ms : List (Int × Int)) (a b : Int) : Int := if lossE ms a b = 0 then lossI (mtL ms) a b else 0
theorem lossE_in {ms : List (Int × Int)} {a b : Int} (h : lossE ms a b = 0) : viB ms = true ∧ (0 ≤ a ∧ a ≤ depthN ms) ∧ 0 ≤ b ∧ b ≤ depthN ms := by
  have := look_parts h
  refine ⟨this.1, ?_⟩
  simpa [inB, depthN] using this.2
theorem ret_tup2 {a b c d : Int} (h1 : a = c) (h2 : b = d) : Ending.returned (.tuple #[.int .i64 a, .int .i64 b]) = .returned (.tuple #[.int .i64 c, .int .i64 d]) := by rw [h1, h2]

set_option maxRecDepth 100000 in
theorem iceDepth_any (ms : List (Int × Int)) (A : Option Addr) (c : Nat) (w : World) (h : Clk w A c ms) :
    Calls Try.prog 19 #[.slice A ms.length c] w fun e w' => ∃ r E : Int, e = .returned (.tuple #[.int .i64 r, .int .i64 E]) ∧ Below w.heap.size w w' ∧ Hid (r = depthR ms ∧ E = lookE ms []) := by
  have H := Lib.hid h
  clear h
  by_cases h0 : lookE ms [] = 0
  · have H0 := Lib.hid h0
    have hlen := (mt_ok (look_parts h0).1).2
    clear h0
    go_enter Try.func19, Try.ntmps19
    go_wp2_with (first
      | (go_at_call 60; refine (look_ok (ds := []) H.out Ints.nil_ (Nat.zero_le _) H0.out).mono ?_; rintro e w1 ⟨A1, c1, rfl, hL, hB1⟩)
      | (go_at_call 61; refine (depth_any _ _ _ _ (by omega)).mono ?_; rintro e w2 ⟨rfl, rfl⟩))
    go_ret2
    exact ⟨_, _, rfl, hB1, by rw [depthR, if_pos H0.out, depthN], H0.out.symm⟩
  · have H0 := Lib.hid h0
    clear h0
    go_enter Try.func19, Try.ntmps19
    go_wp2_with (go_at_call 60; refine (look_no (ds := []) H.out Ints.nil_ (Nat.zero_le _) H0.out).mono ?_; rintro e w1 ⟨E, rfl, hE0, hB1, hE⟩)
    go_ret2
    exact ⟨_, _, rfl, hB1, by rw [depthR, if_neg H0.out], hE.out⟩

set_option maxRecDepth 100000 in
theorem iceLoss_any (ms : List (Int × Int)) (A : Option Addr) (c : Nat) (a b : Int) (w : World) (h : Clk w A c ms) :
    Calls Try.prog 25 #[.slice A ms.length c, .int .i64 a, .int .i64 b] w fun e w' => ∃ r E : Int, e = .returned (.tuple #[.int .i64 r, .int .i64 E]) ∧ Below w.heap.size w w' ∧ Hid (r = lossR ms a b ∧ E = lossE ms a b) := by
  have H := Lib.hid h
  clear h
  have hB0 : Below w.heap.size w (w.alloc (.cells #[.int .i64 a, .int .i64 b] 3)) := (Below.refl _ _).alloc (Nat.le_refl _) _
  by_cases h0 : lossE ms a b = 0
  · have H0 := Lib.hid h0
    obtain ⟨hv, ⟨ha0, ha1⟩, hb0, hb1⟩ := lossE_in h0
    unfold depthN at ha1 hb1
    obtain ⟨x, rfl⟩ := Int.eq_ofNat_of_zero_le ha0
    obtain ⟨y, rfl⟩ := Int.eq_ofNat_of_zero_le hb0
    clear h0
    go_enter Try.func25, Try.ntmps25
    go_wp2_with (first
      | (go_at_call 60; refine (look_ok (ds := [(x : Int), (y : Int)]) (D := some ⟨w.heap.size, 0, none⟩) (H.out.below hB0) (Ints.two (by go_simp) (by go_simp)) (by simp [maxLen]) H0.out).mono ?_; rintro e w1 ⟨A1, c1, rfl, hL, hB1⟩)
      | (go_at_call 66; refine (loss_any _ _ _ x y _ hL (by omega) (by omega)).mono ?_; rintro e w2 ⟨rfl, n, rfl⟩))
    go_ret2
    exact ⟨_, _, rfl, below_drewN (hB0.trans (hB1.mono (by simp))) n, by rw [lossR, if_pos H0.out], H0.out.symm⟩
  · have H0 := Lib.hid h0
    clear h0
    go_enter Try.func25, Try.ntmps25
    go_wp2_with (go_at_call 60; refine (look_no (ds := [a, b]) (D := some ⟨w.heap.size, 0, none⟩) (H.out.below hB0) (Ints.two (by go_simp) (by go_simp)) (by simp [maxLen]) H0.out).mono ?_; rintro e w1 ⟨E, rfl, hE0, hB1, hE⟩)
    go_ret2
    exact ⟨_, _, rfl, hB0.trans (hB1.mono (by simp)), by rw [lossR, if_neg H0.out], hE.out⟩

def dimR (ms : List (Int × Int)) (m : Int) : Int := lossR ms m (wrap64 (m + 1))
def dimE (ms : List (Int × Int)) (m : Int) : Int := lossE ms m (wrap64 (m + 1))
set_option maxRecDepth 100000 in
theorem iceDim_any (ms : List (Int × Int)) (A : Option Addr) (c : Nat) (m : Int) (w : World) (h : Clk w A c ms) :
    Calls Try.prog 23 #[.slice A ms.length c, .int .i64 m] w fun e w' => ∃ r E : Int, e = .returned (.tuple #[.int .i64 r, .int .i64 E]) ∧ Below w.heap.size w w' ∧ Hid (r = dimR ms m ∧ E = dimE ms m) := by
  have H := Lib.hid h
  clear h
  go_enter Try.func23, Try.ntmps23
  go_wp2_with (go_at_call 25; refine (iceLoss_any ms _ _ _ _ _ H.out).mono ?_; rintro e w1 ⟨r, E, rfl, hB1, hE⟩)
  go_ret2
  exact ⟨_, _, rfl, hB1, hE.out⟩
end Go.Proofs.Ytmndfcjkokolbaa
