/-
  Contracts: IsLayer of cone and firnref02.
-/
import Derived.Test.YtmlkdjcjfkfdiaaJoined
import Derived.Test.YtmlkdjcjfkfdiaaRefIsLayer
namespace Go.Proofs.Ytmlkdjcjfkfdiaa
open Go.RowKit Go.Shelf

def islF (ms : List (Int × Int)) (l : List Int) : Bool := vhB ms && islB ms l
theorem islF_yes {ms : List (Int × Int)} {l : List Int} (h : vhB ms = true) : islF ms l = islB ms l := by simp [islF, h]
theorem islF_no {ms : List (Int × Int)} {l : List Int} (h : vhB ms = false) : islF ms l = false := by simp [islF, h]

set_option maxRecDepth 100000 in
theorem isLayer1_any (ms : List (Int × Int)) (A : Option Addr) (c : Nat) (l : List Int) (A2 : Option Addr) (c2 : Nat) (B0 B1 : Nat) (w : World) (h : Marks w A ms) (hv : vhB ms = true) (hI : Ints w A2 l) (hl : l.length ≤ c2) (hl2 : c2 ≤ maxLen)
    (h0 : w.cell? ⟨B0, 0, none⟩ = some (.slice A ms.length c)) (h1 : w.cell? ⟨B1, 0, none⟩ = some (.slice A2 l.length c2)) :
    Calls Try.prog 84 #[.pointer (some ⟨B0, 0, none⟩), .pointer (some ⟨B1, 0, none⟩)] w fun e w' => e = .returned (.bool (islB ms l)) ∧ Below w.heap.size w w' := by
  have HQ := Lib.hid (isLayer_any ms A c l A2 c2 w h hv hI hl hl2)
  clear h hv hI
  go_enter Try.func84, Try.ntmps84
  go_wp2_with (go_at_call 85; refine HQ.out.mono ?_; rintro e w1 ⟨rfl, hB1⟩)
  go_ret
  exact ⟨rfl, hB1⟩

set_option maxRecDepth 100000 in
theorem toldIsLayer_any (ms : List (Int × Int)) (A : Option Addr) (c : Nat) (l : List Int) (A2 : Option Addr) (c2 : Nat) (B0 B1 : Nat) (w : World) (h : Clk w A c ms) (hI : Ints w A2 l) (hl : l.length ≤ c2) (hl2 : c2 ≤ maxLen)
    (z0 : B0 < w.heap.size) (z1 : B1 < w.heap.size) (h0 : w.cell? ⟨B0, 0, none⟩ = some (.slice A ms.length c)) (h1 : w.cell? ⟨B1, 0, none⟩ = some (.slice A2 l.length c2)) :
    Calls Try.prog 71 #[.slice A ms.length c, .func (Fn.func 84) #[] #[.pointer (some ⟨B0, 0, none⟩), .pointer (some ⟨B1, 0, none⟩)]] w fun e w' => ∃ (x : Bool) (E : Int), e = .returned (.tuple #[.bool x, .int .i64 E]) ∧ Below w.heap.size w w' ∧ Hid (x = islF ms l ∧ E = hitsE ms) := by
  have H := Lib.hid (And.intro h (And.intro hI (And.intro (And.intro z0 z1) (And.intro h0 h1))))
  clear h hI h0 h1
  cases hv : vhB ms with
  | true =>
    have HV := Lib.hid hv
    clear hv
    go_enter Try.func71, Try.ntmps71
    go_wp2_with (first
      | (go_at_call 21; refine (valid_any ms A c _ H.out.1.marks H.out.1.len).mono ?_; rintro e w1 ⟨he, hB1⟩; rw [HV.out] at he; subst he)
      | (go_at_call 84; refine (isLayer1_any ms A c l A2 c2 B0 B1 _ (H.out.1.marks.below hB1) HV.out (H.out.2.1.below hB1) hl hl2 ((hB1.cell (p := ⟨B0, 0, none⟩) H.out.2.2.1.1).trans H.out.2.2.2.1) ((hB1.cell (p := ⟨B1, 0, none⟩) H.out.2.2.1.2).trans H.out.2.2.2.2)).mono ?_; rintro e w2 ⟨rfl, hB2⟩))
    go_ret2
    exact ⟨_, _, rfl, below_step hB1 hB2, (islF_yes HV.out).symm, (hitsE_yes HV.out).symm⟩
  | false =>
    have HV := Lib.hid hv
    clear hv
    go_enter Try.func71, Try.ntmps71
    go_wp2_with (go_at_call 21; refine (valid_any ms A c _ H.out.1.marks H.out.1.len).mono ?_; rintro e w1 ⟨he, hB1⟩; rw [HV.out] at he; subst he)
    go_ret2
    exact ⟨_, _, rfl, hB1, (islF_no HV.out).symm, (hitsE_no HV.out).symm⟩

set_option maxRecDepth 100000 in
theorem coneIsLayer_any (ms : List (Int × Int)) (A : Option Addr) (c : Nat) (l : List Int) (A2 : Option Addr) (c2 : Nat) (w : World) (h : Clk w A c ms) (hI : Ints w A2 l) (hl : l.length ≤ c2) (hl2 : c2 ≤ maxLen) :
    Calls Try.prog 40 #[.slice A ms.length c, .slice A2 l.length c2] w fun e w' => ∃ (x : Bool) (E : Int), e = .returned (.tuple #[.bool x, .int .i64 E]) ∧ Below w.heap.size w w' ∧ Hid (x = islF ms l ∧ E = hitsE ms) := by
  obtain ⟨w1, hw1⟩ : ∃ w1, w1 = (w.alloc (.cells #[.slice A ms.length c] 22)).alloc (.cells #[.slice A2 l.length c2] 28) := ⟨_, rfl⟩
  have hBB : Below w.heap.size w w1 := by rw [hw1]; exact ((Below.refl _ _).alloc (Nat.le_refl _) _).alloc (by first | (simp; done) | (simp; omega) | omega) _
  have z0 : w.heap.size < w1.heap.size := by rw [hw1]; simp; omega
  have z1 : w.heap.size + 1 < w1.heap.size := by rw [hw1]; simp
  have g0 : w1.cell? ⟨w.heap.size, 0, none⟩ = some (.slice A ms.length c) := by rw [hw1]; simp
  have g1 : w1.cell? ⟨w.heap.size + 1, 0, none⟩ = some (.slice A2 l.length c2) := by rw [hw1]; simp
  have hcon := toldIsLayer_any ms A c l A2 c2 w.heap.size (w.heap.size + 1) w1 (h.below hBB) (hI.below hBB) hl hl2 z0 z1 g0 g1
  rw [hw1] at hcon
  have HQ := Lib.hid hcon
  clear hcon hBB h hI z0 z1 g0 g1
  go_enter Try.func40, Try.ntmps40
  go_wp2_with (go_at_call 71; refine HQ.out.mono ?_; rintro e w2 ⟨x, E, rfl, hB2, hy⟩)
  go_ret2
  exact ⟨x, E, rfl, Below.trans (by repeat (first | with_reducible exact Below.refl _ _ | with_reducible assumption | refine below_drewN ?_ _ | with_reducible refine Below.drew ?_ | (refine Below.setCell ?_ (by first | (simp; done) | (simp; omega) | omega) _) | (refine Below.alloc ?_ (by first | (simp; done) | (simp; omega) | omega) _))) (hB2.mono (by first | (simp; done) | (simp; omega) | omega)), hy⟩

set_option maxRecDepth 100000 in
theorem refConeIsLayer_any (ms : List (Int × Int)) (A : Option Addr) (c : Nat) (l : List Int) (A2 : Option Addr) (c2 : Nat) (w : World) (h : Clk w A c ms) (hI : Ints w A2 l) (hl : l.length ≤ maxLen) :
    Calls Try.prog 41 #[.slice A ms.length c, .slice A2 l.length c2] w fun e w' => ∃ (x : Bool) (E : Int), e = .returned (.tuple #[.bool x, .int .i64 E]) ∧ Below w.heap.size w w' ∧ Hid (x = islF ms l ∧ E = hitsE ms) := by
  have H := Lib.hid (And.intro h hI)
  clear h hI
  cases hv : vhB ms with
  | true =>
    have HV := Lib.hid hv
    clear hv
    go_enter Try.func41, Try.ntmps41
    go_wp2_with (first
      | (go_at_call 22; refine (refValid_any ms A c _ H.out.1.marks H.out.1.len).mono ?_; rintro e w1 ⟨he, n1, rfl⟩; rw [HV.out] at he; subst he)
      | (go_at_call 86; refine (refIsLayer_any ms A c l A2 c2 _ (H.out.1.marks.below (below_drewN (Below.refl _ _) _)) HV.out (H.out.2.below (below_drewN (Below.refl _ _) _)) hl).mono ?_; rintro e w2 ⟨rfl, hB2⟩))
    go_ret2
    exact ⟨_, _, rfl, below_step (below_drewN (Below.refl _ _) _) hB2, (islF_yes HV.out).symm, (hitsE_yes HV.out).symm⟩
  | false =>
    have HV := Lib.hid hv
    clear hv
    go_enter Try.func41, Try.ntmps41
    go_wp2_with (go_at_call 22; refine (refValid_any ms A c _ H.out.1.marks H.out.1.len).mono ?_; rintro e w1 ⟨he, n1, rfl⟩; rw [HV.out] at he; subst he)
    go_ret2
    exact ⟨_, _, rfl, below_drewN (Below.refl _ _) _, (islF_no HV.out).symm, (hitsE_no HV.out).symm⟩
end Go.Proofs.Ytmlkdjcjfkfdiaa
