/-
  Contract: byTime (cone), with the block that it hands back.
-/
import Derived.Test.YtmlkdjcjfkfdiaaByTime
namespace Go.Proofs.Ytmlkdjcjfkfdiaa
open Go.RowKit Go.Shelf

set_option maxRecDepth 100000 in
theorem byTimeNew_any (ms : List (Int × Int)) (A : Option Addr) (c : Nat) (w : World) (h : Marks w A ms) (hv : vhB ms = true) :
    Calls Try.prog 91 #[.slice A ms.length c] w fun e w' => ∃ ys : List Int, e = .returned (.slice (some ⟨w.heap.size + 1, 0, none⟩) ys.length ms.length) ∧ Out w' (some ⟨w.heap.size + 1, 0, none⟩) ms.length ys ∧ Below w.heap.size w w' ∧ Hid (ys.Perm (allL ms.length) ∧ Srt (timeI ms) ys ms.length) := by
  obtain ⟨hn1, hn2⟩ := vh_parts hv
  have H := Lib.hid (And.intro h hv)
  have eg : Hid (∀ args w, (callFunc 114 args).run Try.prog w = .ok (.enter 114 args) w) := enters_of Try.func114 (by kernel_rfl) rfl
  clear h hv
  go_enter Try.func91, Try.ntmps91
  go_wp2_with fail
  refine (all_own ms.length A c _ (by omega)).mono ?_
  rintro e w1 ⟨rfl, hown1, hB1⟩
  have hBx : Below w.heap.size w (w.alloc (.cells #[.slice A ms.length c] 65)) := (Below.refl _ _).alloc (Nat.le_refl _) _
  have hBA : Below (w.heap.size + 1) w1 w1 := Below.refl _ _
  have hsz : (w.alloc (.cells #[.slice A ms.length c] 65)).heap.size = w.heap.size + 1 := by simp
  have hB0 : Below w.heap.size w w1 := hBx.trans (hB1.mono (by first | (simp; done) | (simp; omega) | omega))
  have hcc : w1.cell? ⟨w.heap.size, 0, none⟩ = some (.slice A ms.length c) := (hB1.cell (p := ⟨w.heap.size, 0, none⟩) (by simp)).trans (by simp)
  have hlt : ∀ ad, A = some ad → ad.block < w.heap.size := by
    intro ad hA
    obtain ⟨ad', e', hb', _⟩ := H.out.1.2 (by omega)
    rw [hA] at e'; cases e'; exact hb'
  have hcmp := cmp_time ms A c (allL ms.length) (w.heap.size + 1) w.heap.size w1 (H.out.1.below hB0) H.out.2 (fun b hb => allL_has hb) (fun ad hA => Nat.lt_succ_of_lt (hlt ad hA)) (Nat.lt_succ_self _) hcc
  rw [hsz] at hown1
  have hcon := sortStable_any _ _ _ eg.out (allL ms.length) ms.length _ _ _ w1 w1 hn1 (by omega) (allL_len _) hown1 hBA hcmp
  have HQ := Lib.hid hcon
  have HB0 := Lib.hid hB0
  clear hcon hcmp hown1 hB0 hBA hBx hcc hlt hB1
  go_wp2_with (go_at_call 113; refine HQ.out.mono ?_; rintro e w2 ⟨rfl, ys, hown2, hB2, hP⟩)
  go_ret
  obtain ⟨A', c', e, hO⟩ := own_ints hown2
  have hyl : ys.length = ms.length := hP.out.1.length_eq.trans (allL_len _)
  rw [hyl] at e
  cases e
  refine ⟨ys, (by rw [hyl]; rfl), hO, HB0.out.trans (hB2.mono (Nat.le_succ _)), hP.out⟩
end Go.Proofs.Ytmlkdjcjfkfdiaa
