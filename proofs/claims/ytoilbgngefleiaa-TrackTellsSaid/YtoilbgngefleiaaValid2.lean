/-
  Contracts: Valid, ValidLine (track), IsPoint, Valid, ValidLine (firnref05).
-/
import Derived.Test.YtoilbgngefleiaaValid
namespace Go.Proofs.Ytoilbgngefleiaa
open Go.RowKit Go.Shelf

/-- Points are valid. -/
def viP (ms : List (Int × Int)) : Bool := decide (2 ≤ ms.length ∧ ms.length ≤ 12) && (ms.all ptB && ms.any fun q => decide (q.1 ≠ (ms.headD (0, 0)).1))
theorem vi_len {ms : List (Int × Int)} (h : ¬ (2 ≤ ms.length ∧ ms.length ≤ 12)) : false = viP ms := by rw [viP, decide_eq_false h]; rfl
theorem vi_out {ms : List (Int × Int)} (h : ms.all ptB = false) : false = viP ms := by rw [viP, h, Bool.false_and, Bool.and_false]
theorem vi_all {ms : List (Int × Int)} (h : 2 ≤ ms.length ∧ ms.length ≤ 12) (h2 : ms.all ptB = true) : (ms.any fun q => decide (q.1 ≠ (ms.headD (0, 0)).1)) = viP ms := by rw [viP, decide_eq_true h, h2]; rfl
theorem vi_parts {ms : List (Int × Int)} (h : viP ms = true) : (2 ≤ ms.length ∧ ms.length ≤ 12) ∧ (∀ q ∈ ms, ptB q = true) ∧ ∃ q ∈ ms, q.1 ≠ (ms.headD (0, 0)).1 := by
  simp only [viP, Bool.and_eq_true, decide_eq_true_eq, List.all_eq_true, List.any_eq_true] at h
  exact ⟨h.1, h.2.1, h.2.2⟩

theorem CatchP.below {B : Nat} {x : Int} {w w' : World} (h : CatchP B x w) (hb : Below w.heap.size w w') : CatchP B x w' := by
  obtain ⟨b, o, n, c, h1, h2, h3, h4, h5⟩ := h
  exact ⟨b, o, n, c, Nat.lt_of_lt_of_le h1 hb.size, Nat.lt_of_lt_of_le h2 hb.size, h3, (hb.cell (p := ⟨B, 0, none⟩) h1).trans h4, (hb.cell (p := ⟨b, o, none⟩) h2).trans h5⟩

set_option maxRecDepth 100000 in
set_option maxHeartbeats 1000000 in
theorem valid_any (ms : List (Int × Int)) (A : Option Addr) (c : Nat) (w : World) (h : Marks w A ms) (hl : ms.length ≤ maxLen) :
    Calls Try.prog 19 #[.slice A ms.length c] w fun e w' => e = .returned (.bool (viP ms)) ∧ Below w.heap.size w w' := by
  unfold maxLen at hl
  have H := Lib.hid h
  clear h
  by_cases n1 : (ms.length : Int) < 2
  · have n2 : decide ((ms.length : Int) < 2) = true := decide_eq_true n1
    go_enter Try.func19, Try.ntmps19
    go_wp2
    go_ret
    exact ⟨ret_bool (vi_len (by omega)), (by repeat (first | with_reducible exact Below.refl _ _ | with_reducible assumption | refine below_drewN ?_ _ | with_reducible refine Below.drew ?_ | (refine Below.setCell ?_ (by first | (simp; done) | (simp; omega) | omega) _) | (refine Below.alloc ?_ (by first | (simp; done) | (simp; omega) | omega) _)))⟩
  · have n2 : decide ((ms.length : Int) < 2) = false := decide_eq_false n1
    by_cases n3 : 12 < (ms.length : Int)
    · have n4 : decide (12 < (ms.length : Int)) = true := decide_eq_true n3
      go_enter Try.func19, Try.ntmps19
      go_wp2
      go_ret
      exact ⟨ret_bool (vi_len (by omega)), (by repeat (first | with_reducible exact Below.refl _ _ | with_reducible assumption | refine below_drewN ?_ _ | with_reducible refine Below.drew ?_ | (refine Below.setCell ?_ (by first | (simp; done) | (simp; omega) | omega) _) | (refine Below.alloc ?_ (by first | (simp; done) | (simp; omega) | omega) _)))⟩
    · have n4 : decide (12 < (ms.length : Int)) = false := decide_eq_false n3
      obtain ⟨bl, off, rfl, hbk, hcells⟩ := H.out.open_ (show 0 < ms.length by omega)
      obtain ⟨x, y, hxy⟩ := getM_of_lt (show 0 < ms.length by omega)
      have hc0 := (hcells 0 _ hxy).1
      have HX : Hid ((ms.headD (0, 0)).1 = x) := Lib.hid (by cases ms <;> simp_all)
      have hW0 : Below w.heap.size w (w.alloc (.cells #[.slice (some ⟨bl, off, none⟩) ms.length c] 22)) := (Below.refl _ _).alloc (Nat.le_refl _) _
      have HCP : Hid (CatchP w.heap.size x (w.alloc (.cells #[.slice (some ⟨bl, off, none⟩) ms.length c] 22))) := Lib.hid ⟨bl, off, ms.length, c, by simp, by simp; omega, by omega, cell_of_row _ _ 0 _ _ _ (heap_alloc_new w _), (hW0.cell (p := ⟨bl, off, none⟩) hbk).trans (by simpa using hc0)⟩
      have eg : ∀ args w, (callFunc 64 args).run Try.prog w = .ok (.enter 64 args) w := enters_of Try.func64 (by kernel_rfl) rfl
      have HEG := Lib.hid eg
      have HW0 := Lib.hid hW0
      clear hcells hc0 hxy eg hW0
      cases hp : ms.all ptB with
      | false =>
        have HP := Lib.hid hp
        clear hp
        go_enter Try.func19, Try.ntmps19
        go_wp2_with (go_at_call 62; refine (placed_any ms _ c _ (H.out.below HW0.out) (by omega)).mono ?_; rintro e w1 ⟨rfl, hB1⟩; rw [HP.out])
        go_ret
        exact ⟨ret_bool (vi_out HP.out), below_step HW0.out hB1⟩
      | true =>
        have HP := Lib.hid hp
        clear hp
        go_enter Try.func19, Try.ntmps19
        go_wp2_with (first
          | (go_at_call 62; refine (placed_any ms _ c _ (H.out.below HW0.out) (by omega)).mono ?_; rintro e w1 ⟨rfl, hB1⟩; rw [HP.out]; have hc1 := (hB1.cell (p := ⟨w.heap.size, 0, none⟩) (by simp)).trans (cell_of_row _ _ 0 _ _ _ (heap_alloc_new w (.cells #[.slice (some ⟨bl, off, none⟩) ms.length c] 22))); have hW1 := below_step HW0.out hB1)
          | (go_at_call 63; refine (containsM_any _ #[.pointer (some ⟨w.heap.size, 0, none⟩)] (fun q => decide (q.1 ≠ x)) HEG.out ms _ c _ (fun W a b hWW => validLit_any w.heap.size x a b W ((HCP.out.below hB1).below hWW)) (H.out.below hW1) (by omega)).mono ?_; rintro e w2 ⟨rfl, hB2⟩))
        go_ret
        exact ⟨ret_bool (by rw [← vi_all (by omega) HP.out, HX.out]; congr 1; funext q; simp), below_step hW1 hB2⟩

def lnB (a b d : Int) : Bool := inB 1000000 a && (inB 100000000 b && decide (1 ≤ d ∧ d ≤ 10000))
end Go.Proofs.Ytoilbgngefleiaa
