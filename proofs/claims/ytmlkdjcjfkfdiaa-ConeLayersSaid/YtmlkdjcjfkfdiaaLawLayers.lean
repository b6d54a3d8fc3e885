/-
  The walk of ConeLayers: it returns true, whatever it is given.
-/
import Derived.Test.YtmlkdjcjfkfdiaaLayersT
import Derived.Test.YtmlkdjcjfkfdiaaRefLays
import Derived.Test.YtmlkdjcjfkfdiaaRefAre
import Derived.Test.YtmlkdjcjfkfdiaaTabW
namespace Go.Proofs.Ytmlkdjcjfkfdiaa
open Go.RowKit Go.Shelf

theorem layersF_yes {ms : List (Int × Int)} (h : vhB ms = true) : layersF ms = layersL ms := by rw [layersF, h]; rfl
theorem layersF_no {ms : List (Int × Int)} (h : vhB ms = false) : layersF ms = [] := by rw [layersF, h]; rfl
set_option maxRecDepth 100000 in
theorem refConeLayers_any (ms : List (Int × Int)) (A : Option Addr) (c : Nat) (w : World) (h : Clk w A c ms) :
    Calls Try.prog 34 #[.slice A ms.length c] w fun e w' => ∃ (A' : Option Addr) (c' : Nat) (ys : List (List Int)) (E : Int), e = .returned (.tuple #[.slice A' ys.length c', .int .i64 E]) ∧ TOut w' A' c' ys ∧ Below w.heap.size w w' ∧ Hid (ys = layersF ms ∧ E = hitsE ms) := by
  cases hv : vhB ms with
  | true => exact (refLayers_yes ms A c w h hv).mono fun e w' ⟨A', c', T, he, hO, hB, hT⟩ => ⟨A', c', T, 0, he, hO, hB, Lib.hid ⟨by rw [hT.out, layersF_yes hv], (hitsE_yes hv).symm⟩⟩
  | false =>
    have H := Lib.hid h
    have HV := Lib.hid hv
    clear h hv
    go_enter Try.func34, Try.ntmps34
    go_wp2_with (go_at_call 22; refine (refValid_any ms A c _ H.out.marks H.out.len).mono ?_; rintro e w1 ⟨he, n1, rfl⟩; rw [HV.out] at he; subst he)
    go_ret2
    exact ⟨none, 0, [], _, rfl, TOut.nil_, below_drewN (Below.refl _ _) _, (layersF_no HV.out).symm, (hitsE_no HV.out).symm⟩
theorem sameTables_same (T : List (List Int)) (A B : Option Addr) (c d : Nat) (w : World) (hA : TOut w A c T) (hB : TOut w B d T) :
    Calls Try.prog 37 #[.slice A T.length c, .slice B T.length d] w fun e w' => e = .returned (.bool true) ∧ Below w.heap.size w w' :=
  (sameTables_any T T A B c d w hA.tabs hB.tabs (Nat.le_trans hA.le hA.cap)).mono fun e w' ⟨he, n, hw⟩ => ⟨by rw [he, decide_eq_true rfl], by rw [hw]; exact below_drewN (Below.refl _ _) n⟩
theorem lawWide_is (T : List (List Int)) (A : Option Addr) (c : Nat) (b : Bool) (w : World) (h : Tabs w A T) (hl : T.length ≤ maxLen) (hb : wideB T = b) :
    Calls Try.prog 32 #[.slice A T.length c] w fun e w' => e = .returned (.bool b) ∧ w = w' := by rw [← hb]; exact lawWide_any T A c w h hl

set_option maxRecDepth 100000 in
set_option maxHeartbeats 1000000 in
theorem coneLayers_walk (ms : List (Int × Int)) (A : Option Addr) (c : Nat) (T : List (List Int)) (A2 : Option Addr) (c2 : Nat) (w : World) (hA : Marks w A ms) (hc : ms.length ≤ c) (hc0 : c ≤ maxLen) (hI : Tabs w A2 T) (hd : T.length ≤ c2) (hd0 : c2 ≤ maxLen) :
    Calls Try.prog 5 #[.slice A ms.length c, .slice A2 T.length c2] w fun e w' => e = .returned (.bool true) ∧ Below w.heap.size w w' := by
  have H : Hid (Clk w A c ms) := ⟨hA, hc, hc0⟩
  have HI := Lib.hid hI
  have HL := Lib.hid (Nat.le_trans hd hd0)
  clear hA hc hc0 hI
  by_cases hm : 40 < ms.length
  · have hm1 : decide (40 < ms.length) = true := decide_eq_true hm
    go_enter Try.func5, Try.ntmps5
    go_wp2_with (first
      | (go_at_call 15; refine (lawLong_any _ _ _ _).mono ?_; rintro e w' ⟨rfl, rfl⟩)
      | (go_at_call 16; refine (sane_any _).mono ?_; rintro e w' ⟨rfl, hW⟩))
    go_ret
    exact ⟨rfl, hW⟩
  have hm1 : decide (40 < ms.length) = false := decide_eq_false hm
  cases hwd : wideB T with
  | true =>
    have HWD := Lib.hid hwd
    clear hwd
    go_enter Try.func5, Try.ntmps5
    go_wp2_with (first
      | (go_at_call 15; refine (lawLong_any _ _ _ _).mono ?_; rintro e w' ⟨rfl, rfl⟩)
      | (go_at_call 32; refine (lawWide_is T _ _ true _ HI.out HL.out HWD.out).mono ?_; rintro e w' ⟨rfl, rfl⟩)
      | (go_at_call 16; refine (sane_any _).mono ?_; rintro e w' ⟨rfl, hW⟩))
    go_ret
    exact ⟨rfl, hW⟩
  | false =>
    have HWD := Lib.hid hwd
    clear hwd
    go_enter Try.func5, Try.ntmps5
    go_wp2_with (first
      | (go_at_call 15; refine (lawLong_any _ _ _ _).mono ?_; rintro e w' ⟨rfl, rfl⟩)
      | (go_at_call 32; refine (lawWide_is T _ _ false _ HI.out HL.out HWD.out).mono ?_; rintro e w' ⟨rfl, rfl⟩)
      | (go_at_call 33; refine (coneLayers_any _ _ _ _ H.out).mono ?_; rintro e w1 ⟨A3, c3, ys, E, rfl, hI3, hB1, hF1⟩)
      | (go_at_call 34; refine (refConeLayers_any _ _ _ _ (H.out.below hB1)).mono ?_; rintro e w2 ⟨A4, c4, ys2, E2, rfl, hI4, hB2, hF2⟩; obtain rfl : ys2 = ys := (hF2.out.1.trans hF1.out.1.symm); obtain rfl : E2 = E := (hF2.out.2.trans hF1.out.2.symm); have hW2 := below_step hB1 hB2)
      | (go_at_call 35; refine (coneAreLayers_any _ _ _ _ _ _ _ (H.out.below hW2) (HI.out.below hW2) hd hd0).mono ?_; rintro e w3 ⟨x, F, rfl, hB3, hF3⟩; have hW3 := below_step hW2 hB3)
      | (go_at_call 36; refine (refConeAreLayers_any _ _ _ _ _ _ _ (H.out.below hW3) (HI.out.below hW3) (Nat.le_trans hd hd0)).mono ?_; rintro e w4 ⟨x2, F2, rfl, hB4, hF4⟩; obtain rfl : x2 = x := (hF4.out.1.trans hF3.out.1.symm); obtain rfl : F2 = F := (hF4.out.2.trans hF3.out.2.symm); have hW4 := below_step hW3 hB4)
      | (go_at_call 37; refine (sameTables_same _ _ _ _ _ _ (((hI3.below hB2).below hB3).below hB4) ((hI4.below hB3).below hB4)).mono ?_; rintro e w7 ⟨rfl, hB7⟩; have hW7 := below_step hW4 hB7)
      | (go_at_call 16; refine (sane_any _).mono ?_; rintro e w8 ⟨rfl, hB8⟩)
      | fail)
    go_ret
    exact ⟨rfl, below_step hW7 hB8⟩
end Go.Proofs.Ytmlkdjcjfkfdiaa
