/-
  The walk of ConeThreads: it returns true, whatever it is given.
-/
import Derived.Test.YtmlkdjcjfkfdiaaThreadsT
import Derived.Test.YtmlkdjcjfkfdiaaRefLayer
import Derived.Test.YtmlkdjcjfkfdiaaTabW
namespace Go.Proofs.Ytmlkdjcjfkfdiaa
open Go.RowKit Go.Shelf

theorem lawWide_is (T : List (List Int)) (A : Option Addr) (c : Nat) (b : Bool) (w : World) (h : Tabs w A T) (hl : T.length ≤ maxLen) (hb : wideB T = b) :
    Calls Try.prog 32 #[.slice A T.length c] w fun e w' => e = .returned (.bool b) ∧ w = w' := by rw [← hb]; exact lawWide_any T A c w h hl

set_option maxRecDepth 100000 in
set_option maxHeartbeats 1000000 in
theorem coneThreads_walk (ms : List (Int × Int)) (A : Option Addr) (c : Nat) (T : List (List Int)) (A2 : Option Addr) (c2 : Nat) (w : World) (hA : Marks w A ms) (hc : ms.length ≤ c) (hc0 : c ≤ maxLen) (hI : Tabs w A2 T) (hd : T.length ≤ c2) (hd0 : c2 ≤ maxLen) :
    Calls Try.prog 7 #[.slice A ms.length c, .slice A2 T.length c2] w fun e w' => e = .returned (.bool true) ∧ Below w.heap.size w w' := by
  have H : Hid (Clk w A c ms) := ⟨hA, hc, hc0⟩
  have HI := Lib.hid hI
  have HL := Lib.hid (Nat.le_trans hd hd0)
  clear hA hc hc0 hI
  by_cases hm : 40 < ms.length
  · have hm1 : decide (40 < ms.length) = true := decide_eq_true hm
    go_enter Try.func7, Try.ntmps7
    go_wp2_with (first
      | (go_at_call 15; refine (lawLong_any _ _ _ _).mono ?_; rintro e w' ⟨rfl, rfl⟩)
      | (go_at_call 16; refine (sane_any _).mono ?_; rintro e w' ⟨rfl, hW⟩))
    go_ret
    exact ⟨rfl, hW⟩
  have hm1 : decide (40 < ms.length) = false := decide_eq_false hm
  cases hwd : wideB T with
  | true =>
    have HWD := Lib.hid hwd
    clear hwd
    go_enter Try.func7, Try.ntmps7
    go_wp2_with (first
      | (go_at_call 15; refine (lawLong_any _ _ _ _).mono ?_; rintro e w' ⟨rfl, rfl⟩)
      | (go_at_call 32; refine (lawWide_is T _ _ true _ HI.out HL.out HWD.out).mono ?_; rintro e w' ⟨rfl, rfl⟩)
      | (go_at_call 16; refine (sane_any _).mono ?_; rintro e w' ⟨rfl, hW⟩))
    go_ret
    exact ⟨rfl, hW⟩
  | false =>
    have HWD := Lib.hid hwd
    clear hwd
    have hE : ∃ EE, hitsE ms = EE := ⟨_, rfl⟩
    cases hv : vhB ms with
    | true =>
      have HV := Lib.hid hv
      have HE := Lib.hid (hitsE_yes hv)
      clear hv hE
      go_enter Try.func7, Try.ntmps7
      go_upto_region 7 with (first
      | (go_at_call 15; refine (lawLong_any _ _ _ _).mono ?_; rintro e w' ⟨rfl, rfl⟩)
      | (go_at_call 32; refine (lawWide_is T _ _ false _ HI.out HL.out HWD.out).mono ?_; rintro e w' ⟨rfl, rfl⟩)
      | (go_at_call 42; refine (coneAreThreads_any _ _ _ _ _ _ _ H.out HI.out hd hd0).mono ?_; rintro e w1 ⟨x, F, rfl, hB1, hF1⟩; obtain rfl := hF1.out.2.trans HE.out)
      | (go_at_call 43; refine (refConeAreThreads_any _ _ _ _ _ _ _ (H.out.below hB1) (HI.out.below hB1) (Nat.le_trans hd hd0)).mono ?_; rintro e w2 ⟨x2, F2, rfl, hB2, hF2⟩; obtain rfl : x2 = x := (hF2.out.1.trans hF1.out.1.symm); obtain rfl := hF2.out.2.trans HE.out; have hW2 := below_step hB1 hB2)
      | (go_at_call 44; refine (coneThreads_any _ _ _ _ (H.out.below hW2)).mono ?_; rintro e w3 ⟨A3, c3, ys, E, rfl, hI3, hB3, hF3⟩; obtain rfl := hF3.out.1.trans HE.out; have HYS := Lib.hid (hF3.out.2.1 HV.out); have hW3 := below_step hW2 hB3)
      | (go_at_call 39; refine (refLayer_any _ _ _ _ (H.out.below hW3)).mono ?_; rintro e w4 ⟨A4, c4, zs, E4, rfl, hI4, hB4, hF4⟩; obtain rfl := hF4.out.2.trans HE.out; have hzl : zs.length = ys.length := (by rw [HYS.out.2, hF4.out.1, layerF, HV.out]; rfl); have hW4 := below_step hW3 hB4)
      | fail)
      have hI5 := (hI3.below hB4)
      go_wp2_with (first
      | (go_at_call 43; refine (refConeAreThreads_any _ _ _ _ _ _ _ (H.out.below hW4) hI5.tabs (Nat.le_trans hI5.le hI5.cap)).mono ?_; rintro e w5 ⟨x5, F5, rfl, hB5, hF5⟩; obtain rfl : x5 = true := (hF5.out.1.trans ((thyF_yes HV.out).trans HYS.out.1)); obtain rfl := hF5.out.2.trans HE.out; have hW5 := below_step hW4 hB5)
      | (go_at_call 16; refine (sane_any _).mono ?_; rintro e w8 ⟨rfl, hB8⟩))
      go_ret
      exact ⟨rfl, below_step hW5 hB8⟩
    | false =>
      have HV := Lib.hid hv
      have HE := Lib.hid (hitsE_no hv)
      clear hv hE
      go_enter Try.func7, Try.ntmps7
      go_wp2_with (first
      | (go_at_call 15; refine (lawLong_any _ _ _ _).mono ?_; rintro e w' ⟨rfl, rfl⟩)
      | (go_at_call 32; refine (lawWide_is T _ _ false _ HI.out HL.out HWD.out).mono ?_; rintro e w' ⟨rfl, rfl⟩)
      | (go_at_call 42; refine (coneAreThreads_any _ _ _ _ _ _ _ H.out HI.out hd hd0).mono ?_; rintro e w1 ⟨x, F, rfl, hB1, hF1⟩; obtain rfl := hF1.out.2.trans HE.out)
      | (go_at_call 43; refine (refConeAreThreads_any _ _ _ _ _ _ _ (H.out.below hB1) (HI.out.below hB1) (Nat.le_trans hd hd0)).mono ?_; rintro e w2 ⟨x2, F2, rfl, hB2, hF2⟩; obtain rfl : x2 = x := (hF2.out.1.trans hF1.out.1.symm); obtain rfl := hF2.out.2.trans HE.out; have hW2 := below_step hB1 hB2)
      | (go_at_call 44; refine (coneThreads_any _ _ _ _ (H.out.below hW2)).mono ?_; rintro e w3 ⟨A3, c3, ys, E, rfl, hI3, hB3, hF3⟩; obtain rfl := hF3.out.1.trans HE.out; have HYS := Lib.hid (hF3.out.2.2 HV.out); have hW3 := below_step hW2 hB3)
      | (go_at_call 39; refine (refLayer_any _ _ _ _ (H.out.below hW3)).mono ?_; rintro e w4 ⟨A4, c4, zs, E4, rfl, hI4, hB4, hF4⟩; obtain rfl := hF4.out.2.trans HE.out; have hzl : zs.length = ys.length := (by rw [HYS.out, hF4.out.1, layerF, HV.out]; rfl); have hW4 := below_step hW3 hB4)
      | (go_at_call 16; refine (sane_any _).mono ?_; rintro e w8 ⟨rfl, hB8⟩))
      go_ret
      exact ⟨rfl, below_step hW4 hB8⟩
end Go.Proofs.Ytmlkdjcjfkfdiaa
