/-
  Contracts: Long and Awake (firnlaw09).
-/
import Derived.Test.YtdekpggfepllhaaCost
set_option linter.unusedVariables false
set_option linter.unusedSimpArgs false
namespace Go.Proofs.Ytdekpggfepllhaa
open Go Go.RowKit

def lgP (p : Pr) : Bool := decide (100 < p.1.size)
def lgB (s : Sm) : Bool := s.any lgP || decide (100 < s.length)
theorem lg_yes {s : Sm} {k : Nat} {q : ByteArray} {t : Int} (h : s[k]? = some (q, t)) (hq : 100 < q.size) : true = lgB s := by
  have : s.any lgP = true := List.any_eq_true.2 ⟨_, List.mem_of_getElem? h, decide_eq_true hq⟩
  rw [lgB, this]; rfl
theorem lg_no {s : Sm} (h : lgB s = false) : s.length ≤ 100 ∧ Szs s := by
  simp only [lgB, Bool.or_eq_false_iff, decide_eq_false_iff_not, List.any_eq_false] at h
  refine ⟨by omega, fun p hp => ?_⟩
  have := h.1 p hp
  simp [lgP] at this
  unfold maxLen; omega
set_option maxRecDepth 100000 in
set_option maxHeartbeats 1000000 in
theorem long_any (s : Sm) (A : Option Addr) (c : Nat) (w : World) (h : Marks w A s) (hz : Szs s) (hl : s.length ≤ maxLen) :
    Calls Try.prog 10 #[.slice A s.length c] w fun e w' => e = .returned (.bool (lgB s)) ∧ Below w.heap.size w w' := by
  have H := Lib.hid h
  have HZ := Lib.hid hz
  unfold maxLen at hl
  clear h hz
  go_enter Try.func10, Try.ntmps10
  go_wp2
  go_loopw [7] (fun i wr => ∃ k : Nat, k ≤ s.length ∧ i = .int .i64 k ∧ Hid ((s.take k).any lgP = false) ∧ Below w.heap.size w wr) (fun i _ => s.length - (intOf i).toNat)
  case atStart => exact ⟨0, Nat.zero_le _, rfl, rfl, Below.refl _ _⟩
  case round =>
    obtain ⟨k, hk, rfl, ha, hB⟩ := hrel
    rename World => wr
    by_cases hlt : k < s.length
    · obtain ⟨bl, off, rfl, hbk, hcells⟩ := H.out.open_ (show 0 < s.length by omega)
      obtain ⟨q, t, hx⟩ := getP_of_lt hlt
      have f0 := (hB.cell (p := ⟨bl, off + k * 2, none⟩) hbk).trans (hcells _ _ hx).1
      have f1 := (hB.cell (p := ⟨bl, off + k * 2 + 1, none⟩) hbk).trans (hcells _ _ hx).2
      have hqs := HZ.out.at_ hx
      unfold maxLen at hqs
      have HX := Lib.hid hx
      have HB1 : Hid (Below w.heap.size w (wr.alloc (.cells #[.string q, .int .i64 t] 42))) := Lib.hid (Below.alloc hB hB.size _)
      clear hx hcells
      by_cases h1 : 100 < q.size
      · have u1 : decide (100 < (q.size : Int)) = true := decide_eq_true (by omega)
        have u2 : decide (100 < q.size) = true := decide_eq_true h1
        have HN := Lib.hid (lg_yes HX.out h1)
        go_wp2
        go_ret
        exact ⟨ret_bool HN.out, HB1.out⟩
      · have u1 : decide (100 < (q.size : Int)) = false := decide_eq_false (by omega)
        have u2 : decide (100 < q.size) = false := decide_eq_false h1
        have HN : Hid (lgP (q, t) = false) := Lib.hid u2
        go_wp2
        go_roundw
        case rel => exact ⟨k + 1, by omega, by go_num, by rw [any_snoc HX.out, ha.out, HN.out]; rfl, HB1.out⟩
        case measure => simp [intOf]; omega
    · obtain rfl : k = s.length := by omega
      have HA : Hid (lgB s = decide (100 < s.length)) := Lib.hid (by
        have := ha.out
        rw [List.take_length] at this
        rw [lgB, this]; rfl)
      go_wp2
      go_ret
      exact ⟨ret_bool (by rw [HA.out, Bool.eq_iff_iff]; simp; omega), hB⟩

def exS : Sm := [(⟨#[97]⟩, 2), (⟨#[97, 98]⟩, 1), (⟨#[98, 99]⟩, 1)]
def exL : List Int := [1, 1, 1, 1, 1, 1, 1, 1]
theorem ex_va : vaV exS exL = 4 ∧ vaE exS exL = 0 := by decide +kernel
theorem ex_sz : Szs exS := by
  intro p hp
  simp [exS] at hp
  rcases hp with rfl | rfl | rfl <;> (unfold maxLen; decide)
theorem three_prods (w : World) : Marks (w.alloc (.cells #[.string ⟨#[97]⟩, .int .i64 2, .string ⟨#[97, 98]⟩, .int .i64 1, .string ⟨#[98, 99]⟩, .int .i64 1] 42)) (some ⟨w.heap.size, 0, none⟩) exS :=
  ⟨rfl, fun _ => ⟨_, rfl, by simp, cells_new w [.string ⟨#[97]⟩, .int .i64 2, .string ⟨#[97, 98]⟩, .int .i64 1, .string ⟨#[98, 99]⟩, .int .i64 1] 42⟩⟩
theorem eight_ints (w : World) : Ints (w.alloc (.cells #[.int .i64 1, .int .i64 1, .int .i64 1, .int .i64 1, .int .i64 1, .int .i64 1, .int .i64 1, .int .i64 1] 3)) (some ⟨w.heap.size, 0, none⟩) exL :=
  ⟨rfl, fun _ => ⟨_, rfl, by simp, cells_new w [.int .i64 1, .int .i64 1, .int .i64 1, .int .i64 1, .int .i64 1, .int .i64 1, .int .i64 1, .int .i64 1] 3⟩⟩
set_option maxRecDepth 100000 in
set_option maxHeartbeats 1000000 in
theorem awake_any (w : World) : Calls Try.prog 11 #[] w fun e w' => e = .returned (.bool true) ∧ Below w.heap.size w w' := by
  have HC : Hid (∀ W, Marks W (some ⟨w.heap.size, 0, none⟩) exS → Ints W (some ⟨w.heap.size + 1, 0, none⟩) exL → Calls Try.prog 19 #[.slice (some ⟨w.heap.size, 0, none⟩) 3 3, .slice (some ⟨w.heap.size + 1, 0, none⟩) 8 8] W fun e w' => e = .returned (.tuple #[.int .i64 4, .int .i64 0]) ∧ Below W.heap.size W w') := Lib.hid fun W h1 h2 =>
    (valueX_any exS _ 3 exL _ 8 W h1 ex_sz (by decide) h2 (by decide)).mono fun e w' ⟨h, hb⟩ => ⟨by rw [h, ex_va.1, ex_va.2], hb⟩
  have HM := Lib.hid (three_prods w)
  have HE : Hid (∀ W : World, Ints (W.alloc (.cells #[.int .i64 1, .int .i64 1, .int .i64 1, .int .i64 1, .int .i64 1, .int .i64 1, .int .i64 1, .int .i64 1] 3)) (some ⟨W.heap.size, 0, none⟩) exL) := Lib.hid eight_ints
  go_enter Try.func11, Try.ntmps11
  go_wp2_with (go_at_call 19; refine (HC.out _ (HM.out.below (by repeat (first | with_reducible exact Below.refl _ _ | with_reducible assumption | refine below_drewN ?_ _ | with_reducible refine Below.drew ?_ | (refine Below.setCell ?_ (by first | (simp; done) | (simp; omega) | omega) _) | (refine Below.alloc ?_ (by first | (simp; done) | (simp; omega) | omega) _)))) (by have := HE.out (w.alloc (.cells #[.string ⟨#[97]⟩, .int .i64 2, .string ⟨#[97, 98]⟩, .int .i64 1, .string ⟨#[98, 99]⟩, .int .i64 1] 42)); simpa using this)).mono ?_; rintro e w1 ⟨rfl, hB1⟩)
  go_ret
  exact ⟨rfl, below_step (by repeat (first | with_reducible exact Below.refl _ _ | with_reducible assumption | refine below_drewN ?_ _ | with_reducible refine Below.drew ?_ | (refine Below.setCell ?_ (by first | (simp; done) | (simp; omega) | omega) _) | (refine Below.alloc ?_ (by first | (simp; done) | (simp; omega) | omega) _))) hB1⟩
end Go.Proofs.Ytdekpggfepllhaa
