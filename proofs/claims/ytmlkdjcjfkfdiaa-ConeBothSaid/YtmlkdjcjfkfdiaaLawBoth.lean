/-
  The walk of ConeBoth: it returns true, whatever it is given.
-/
import Derived.Test.YtmlkdjcjfkfdiaaThreadsT
import Derived.Test.YtmlkdjcjfkfdiaaChain
import Derived.Test.YtmlkdjcjfkfdiaaIsChains
import Derived.Test.YtmlkdjcjfkfdiaaTabW
namespace Go.Proofs.Ytmlkdjcjfkfdiaa
open Go.RowKit Go.Shelf

theorem lawWide_is (T : List (List Int)) (A : Option Addr) (c : Nat) (b : Bool) (w : World) (h : Tabs w A T) (hl : T.length ≤ maxLen) (hb : wideB T = b) :
    Calls Try.prog 32 #[.slice A T.length c] w fun e w' => e = .returned (.bool b) ∧ w = w' := by rw [← hb]; exact lawWide_any T A c w h hl
theorem refValid_is (ms : List (Int × Int)) (A : Option Addr) (c : Nat) (b : Bool) (w : World) (h : Clk w A c ms) (hb : vhB ms = b) :
    Calls Try.prog 22 #[.slice A ms.length c] w fun e w' => e = .returned (.bool b) ∧ Below w.heap.size w w' :=
  (refValid_any ms A c w h.marks h.len).mono fun e w' ⟨he, n, hw⟩ => ⟨by rw [he, hb], by rw [hw]; exact below_drewN (Below.refl _ _) n⟩
theorem both_facts {ms : List (Int × Int)} (hv : vhB ms = true) : (layersL ms).length = (chainL ms).length ∧ ischB ms (chainL ms) = true ∧ aryB ms (layersL ms) = true ∧ islB ms (layerL ms) = true ∧ ms.length ≤ (chainL ms).length * (layerL ms).length ∧ (chainL ms).length ≤ 14 ∧ (layerL ms).length ≤ 14 ∧ 1 ≤ (chainL ms).length ∧ 1 ≤ (layerL ms).length := by
  obtain ⟨hn1, hn2⟩ := vh_parts hv
  have h1 := ary_layers (ms := ms) (by omega)
  have h2 := chain_is hn1 (ms := ms) (by omega)
  have h3 := layer_is hn1 (ms := ms) (by omega)
  refine ⟨(mirsky hn1 (by omega)).symm, h2, h1, h3, both_mul hn1 (by omega), ?_, ?_, ?_, ?_⟩
  · have := pigeon (ch_nodup h2) (isc_in h2).2
    omega
  · have := pigeon (lay_nodup h3) (isl_in h3).2
    omega
  · unfold ischB at h2
    rw [Bool.and_eq_true] at h2
    exact (listB_parts h2.1).1.1
  · unfold islB at h3
    rw [Bool.and_eq_true] at h3
    exact (listB_parts h3.1).1.1

theorem both_nums {ms : List (Int × Int)} (hv : vhB ms = true) : ∃ n1 n2 p : Nat, (chainL ms).length = n1 ∧ (layersL ms).length = n1 ∧ (layerL ms).length = n2 ∧ wrap64 ((n1 : Int) * (n2 : Int)) = (p : Int) ∧ decide (p < ms.length) = false := by
  obtain ⟨h1, h2, h3, h4, h5, h6, h7, _⟩ := both_facts hv
  have h8 : (chainL ms).length * (layerL ms).length ≤ 14 * 14 := Nat.mul_le_mul h6 h7
  refine ⟨_, _, (chainL ms).length * (layerL ms).length, rfl, h1, rfl, ?_, decide_eq_false (by omega)⟩
  rw [← Int.natCast_mul, IntWalk.wrap64_in _ (by omega)]
theorem both_q {ms : List (Int × Int)} {one : List Int} {T : List (List Int)} {n1 n2 : Nat} {b1 b2 b3 b4 : Bool} (hv : vhB ms = true) (e1 : (chainL ms).length = n1) (e2 : (layersL ms).length = n1) (e3 : (layerL ms).length = n2)
    (hb1 : ischB ms one = b1) (hb2 : islB ms one = b2) (hb3 : aryB ms T = b3) (hb4 : thyB ms T = b4) :
    (b1 = true → decide (one.length ≤ n1) = true) ∧ (b2 = true → decide (one.length ≤ n2) = true) ∧ (b3 = true → decide (n1 ≤ T.length) = true) ∧ (b4 = true → decide (n2 ≤ T.length) = true) := by
  obtain ⟨h1, h2, h3, h4, h5, h6, h7, _⟩ := both_facts hv
  refine ⟨fun h => ?_, fun h => ?_, fun h => ?_, fun h => ?_⟩
  · have := ch_ary (hb1.trans h) h3
    exact decide_eq_true (by omega)
  · have := layer_max (hb2.trans h)
    exact decide_eq_true (by omega)
  · have := ch_ary h2 (hb3.trans h)
    exact decide_eq_true (by omega)
  · have := lay_thy h4 (hb4.trans h)
    exact decide_eq_true (by omega)
section
variable {ms : List (Int × Int)} {A : Option Addr} {c : Nat} {w : World}
theorem both_6 (h : Clk w A c ms) (hv : vhB ms = true) {l : List Int} {A2 : Option Addr} {c2 : Nat} (hO : Ints w A2 l) (hl : l.length ≤ c2) (hc : c2 ≤ maxLen) {n : Nat} (hn : l.length = n) {b : Bool} (hb : ischB ms l = b) : ∀ W, Below w.heap.size w W → Calls Try.prog 28 #[.slice A ms.length c, .slice A2 n c2] W fun e w' => e = .returned (.tuple #[.bool b, .int .i64 0]) ∧ Below W.heap.size W w' := fun W hB => by
  have q := coneIsChain_any ms A c l A2 c2 W (h.below hB) (hO.below hB) hl hc
  rw [hn] at q
  exact q.mono fun e w' ⟨x, E, he, hB', hF⟩ => ⟨by rw [he, hF.out.1, hF.out.2, hitsE_yes hv, ischF_yes hv, hb], hB'⟩
theorem both_8 (h : Clk w A c ms) (hv : vhB ms = true) {l : List Int} {A2 : Option Addr} {c2 : Nat} (hO : Ints w A2 l) (hl : l.length ≤ c2) (hc : c2 ≤ maxLen) {n : Nat} (hn : l.length = n) {b : Bool} (hb : islB ms l = b) : ∀ W, Below w.heap.size w W → Calls Try.prog 40 #[.slice A ms.length c, .slice A2 n c2] W fun e w' => e = .returned (.tuple #[.bool b, .int .i64 0]) ∧ Below W.heap.size W w' := fun W hB => by
  have q := coneIsLayer_any ms A c l A2 c2 W (h.below hB) (hO.below hB) hl hc
  rw [hn] at q
  exact q.mono fun e w' ⟨x, E, he, hB', hF⟩ => ⟨by rw [he, hF.out.1, hF.out.2, hitsE_yes hv, islF_yes hv, hb], hB'⟩
theorem both_7 (h : Clk w A c ms) (hv : vhB ms = true) {l : List (List Int)} {A2 : Option Addr} {c2 : Nat} (hO : Tabs w A2 l) (hl : l.length ≤ c2) (hc : c2 ≤ maxLen) {n : Nat} (hn : l.length = n) {b : Bool} (hb : aryB ms l = b) : ∀ W, Below w.heap.size w W → Calls Try.prog 35 #[.slice A ms.length c, .slice A2 n c2] W fun e w' => e = .returned (.tuple #[.bool b, .int .i64 0]) ∧ Below W.heap.size W w' := fun W hB => by
  have q := coneAreLayers_any ms A c l A2 c2 W (h.below hB) (hO.below hB) hl hc
  rw [hn] at q
  exact q.mono fun e w' ⟨x, E, he, hB', hF⟩ => ⟨by rw [he, hF.out.1, hF.out.2, hitsE_yes hv, aryF_yes hv, hb], hB'⟩
theorem both_9 (h : Clk w A c ms) (hv : vhB ms = true) {l : List (List Int)} {A2 : Option Addr} {c2 : Nat} (hO : Tabs w A2 l) (hl : l.length ≤ c2) (hc : c2 ≤ maxLen) {n : Nat} (hn : l.length = n) {b : Bool} (hb : thyB ms l = b) : ∀ W, Below w.heap.size w W → Calls Try.prog 42 #[.slice A ms.length c, .slice A2 n c2] W fun e w' => e = .returned (.tuple #[.bool b, .int .i64 0]) ∧ Below W.heap.size W w' := fun W hB => by
  have q := coneAreThreads_any ms A c l A2 c2 W (h.below hB) (hO.below hB) hl hc
  rw [hn] at q
  exact q.mono fun e w' ⟨x, E, he, hB', hF⟩ => ⟨by rw [he, hF.out.1, hF.out.2, hitsE_yes hv, thyF_yes hv, hb], hB'⟩
theorem both_2 (h : Clk w A c ms) (hv : vhB ms = true) {n1 : Nat} (e1 : (chainL ms).length = n1) : Calls Try.prog 26 #[.slice A ms.length c] w fun e w' => ∃ (A' : Option Addr) (c' : Nat) (ys : List Int), e = .returned (.tuple #[.slice A' n1 c', .int .i64 0]) ∧ Out w' A' c' ys ∧ Below w.heap.size w w' ∧ Hid (ys = chainL ms) :=
  (coneChain_any ms A c w h).mono fun e w' ⟨A', c', ys, E, he, hO, hB, hF⟩ => by
    have hy : ys = chainL ms := by rw [hF.out.1, chainF, hv]; rfl
    exact ⟨A', c', ys, by rw [he, hF.out.2, hitsE_yes hv, hy, e1], hO, hB, hy⟩
theorem both_4 (h : Clk w A c ms) (hv : vhB ms = true) {n2 : Nat} (e3 : (layerL ms).length = n2) : Calls Try.prog 38 #[.slice A ms.length c] w fun e w' => ∃ (A' : Option Addr) (c' : Nat) (ys : List Int), e = .returned (.tuple #[.slice A' n2 c', .int .i64 0]) ∧ Out w' A' c' ys ∧ Below w.heap.size w w' ∧ Hid (ys = layerL ms) :=
  (coneLayer_any ms A c w h).mono fun e w' ⟨A', c', ys, E, he, hO, hB, hF⟩ => by
    have hy : ys = layerL ms := by rw [hF.out.1, layerF, hv]; rfl
    exact ⟨A', c', ys, by rw [he, hF.out.2, hitsE_yes hv, hy, e3], hO, hB, hy⟩
theorem both_3 (h : Clk w A c ms) (hv : vhB ms = true) {n1 : Nat} (e2 : (layersL ms).length = n1) : Calls Try.prog 33 #[.slice A ms.length c] w fun e w' => ∃ (A' : Option Addr) (c' : Nat) (Ts : List (List Int)), e = .returned (.tuple #[.slice A' n1 c', .int .i64 0]) ∧ TOut w' A' c' Ts ∧ Below w.heap.size w w' ∧ Hid (Ts = layersL ms) :=
  (coneLayers_any ms A c w h).mono fun e w' ⟨A', c', ys, E, he, hO, hB, hF⟩ => by
    have hy : ys = layersL ms := by rw [hF.out.1, layersF, hv]; rfl
    exact ⟨A', c', ys, by rw [he, hF.out.2, hitsE_yes hv, hy, e2], hO, hB, hy⟩
theorem both_5 (h : Clk w A c ms) (hv : vhB ms = true) {n2 : Nat} (e3 : (layerL ms).length = n2) : Calls Try.prog 44 #[.slice A ms.length c] w fun e w' => ∃ (A' : Option Addr) (c' : Nat) (Us : List (List Int)), e = .returned (.tuple #[.slice A' n2 c', .int .i64 0]) ∧ TOut w' A' c' Us ∧ Below w.heap.size w w' ∧ Hid (thyB ms Us = true ∧ Us.length = n2) :=
  (coneThreads_any ms A c w h).mono fun e w' ⟨A', c', ys, E, he, hO, hB, hF⟩ => by
    obtain ⟨h1, h2⟩ := hF.out.2.1 hv
    exact ⟨A', c', ys, by rw [he, hF.out.1, hitsE_yes hv, h2, e3], hO, hB, h1, h2.trans e3⟩
end

set_option maxRecDepth 100000 in
set_option maxHeartbeats 40000000 in
theorem both_core    (ms : List (Int × Int)) (A : Option Addr) (c : Nat) (one : List Int) (A1 : Option Addr) (c1 : Nat) (T : List (List Int)) (A2 : Option Addr) (c2 : Nat) (w : World)
    (H : Hid (Clk w A c ms)) (HO : Hid (Ints w A1 one ∧ one.length ≤ c1 ∧ c1 ≤ maxLen)) (HI : Hid (Tabs w A2 T)) (HD : Hid (T.length ≤ c2 ∧ c2 ≤ maxLen)) (hm1 : decide (40 < ms.length) = false) (HV : Hid (vhB ms = true)) (h101 : decide ((100 : Int) < (one.length : Int)) = false) (HWD : Hid (wideB T = false)) (hW0 : Below w.heap.size w w) :
    Calls Try.prog 10 #[.slice A ms.length c, .slice A1 one.length c1, .slice A2 T.length c2] w fun e w' => e = .returned (.bool true) ∧ Below w.heap.size w w' := by
  obtain ⟨n1, n2, p, e1, e2, e3, hp1, hp2⟩ := both_nums HV.out
  obtain ⟨b1, hb1⟩ : ∃ b, ischB ms one = b := ⟨_, rfl⟩
  obtain ⟨b2, hb2⟩ : ∃ b, islB ms one = b := ⟨_, rfl⟩
  obtain ⟨b3, hb3⟩ : ∃ b, aryB ms T = b := ⟨_, rfl⟩
  obtain ⟨b4, hb4⟩ : ∃ b, thyB ms T = b := ⟨_, rfl⟩
  have HQ := Lib.hid (both_q HV.out e1 e2 e3 hb1 hb2 hb3 hb4)
  have HB1 := Lib.hid hb1
  have HB2 := Lib.hid hb2
  have HB3 := Lib.hid hb3
  have HB4 := Lib.hid hb4
  have E1 := Lib.hid e1
  have E2 := Lib.hid e2
  have E3 := Lib.hid e3
  have HL : Hid (T.length ≤ maxLen) := Lib.hid (Nat.le_trans HD.out.1 HD.out.2)
  clear hb1 hb2 hb3 hb4 e1 e2 e3
  go_enter Try.func10, Try.ntmps10
  go_upto_region 7 with (first
    | (go_at_call 15; refine (lawLong_any _ _ _ _).mono ?_; rintro e w' ⟨rfl, rfl⟩)
    | (go_at_call 22; refine (refValid_is _ _ _ true _ H.out HV.out).mono ?_; rintro e w1 ⟨rfl, hB1⟩; have hW1 := below_step hW0 hB1)
    | (go_at_call 32; refine (lawWide_is T _ _ false _ (HI.out.below hW1) HL.out HWD.out).mono ?_; rintro e w' ⟨rfl, rfl⟩)
    | (go_at_call 26; refine (both_2 (H.out.below hW1) HV.out E1.out).mono ?_; rintro e w2 ⟨A3, c3, ys, rfl, hO2, hB2, hY2⟩; have hW2 := below_step hW1 hB2)
    | (go_at_call 33; refine (both_3 (H.out.below hW2) HV.out E2.out).mono ?_; rintro e w3 ⟨A4, c4, Ts, rfl, hO3, hB3, hY3⟩; have hW3 := below_step hW2 hB3)
    | (go_at_call 38; refine (both_4 (H.out.below hW3) HV.out E3.out).mono ?_; rintro e w4 ⟨A5, c5, zs, rfl, hO4, hB4, hY4⟩; have hW4 := below_step hW3 hB4)
    | (go_at_call 44; refine (both_5 (H.out.below hW4) HV.out E3.out).mono ?_; rintro e w5 ⟨A6, c6, Us, rfl, hO5, hB5, hY5⟩; have hW5 := below_step hW4 hB5)
    | fail)
  have HF := Lib.hid (both_facts HV.out)
  have hH5 := H.out.below hW5
  have HO2 := (hO2.below hB3).below hB4 |>.below hB5
  have HO3 := (hO3.below hB4).below hB5
  have HO4 := hO4.below hB5
  have HC6 := Lib.hid (both_6 hH5 HV.out HO2.ints HO2.le HO2.cap (n := n1) (by have q := E1.out; rw [← hY2.out] at q; exact q) (b := true) (by have q := HF.out.2.1; rw [← hY2.out] at q; exact q))
  have HC7 := Lib.hid (both_7 hH5 HV.out HO3.tabs HO3.le HO3.cap (n := n1) (by have q := E2.out; rw [← hY3.out] at q; exact q) (b := true) (by have q := HF.out.2.2.1; rw [← hY3.out] at q; exact q))
  have HC8 := Lib.hid (both_8 hH5 HV.out HO4.ints HO4.le HO4.cap (n := n2) (by have q := E3.out; rw [← hY4.out] at q; exact q) (b := true) (by have q := HF.out.2.2.2.1; rw [← hY4.out] at q; exact q))
  have HC9 := Lib.hid (both_9 hH5 HV.out hO5.tabs hO5.le hO5.cap hY5.out.2 hY5.out.1)
  have HC10 := Lib.hid (both_6 hH5 HV.out (HO.out.1.below hW5) HO.out.2.1 HO.out.2.2 (n := one.length) rfl HB1.out)
  have HC11 := Lib.hid (both_8 hH5 HV.out (HO.out.1.below hW5) HO.out.2.1 HO.out.2.2 (n := one.length) rfl HB2.out)
  have HC12 := Lib.hid (both_7 hH5 HV.out (HI.out.below hW5) HD.out.1 HD.out.2 (n := T.length) rfl HB3.out)
  have HC13 := Lib.hid (both_9 hH5 HV.out (HI.out.below hW5) HD.out.1 HD.out.2 (n := T.length) rfl HB4.out)
  have HW5 := Lib.hid hW5
  have hV5 : Below w5.heap.size w5 w5 := Below.refl _ _
  clear hO2 hO3 hO4 hO5 HO2 HO3 HO4 hH5 hY2 hY3 hY4 hY5 hW0 hW1 hW2 hW3 hW4 hW5 hB1 hB2 hB3 hB4 hB5
  go_upto_region 13 with (first
    | (go_at_call 28; refine (HC6.out _ hV5).mono ?_; rintro e w6 ⟨rfl, hB6⟩; have hV6 := below_step hV5 hB6)
    | (go_at_call 35; refine (HC7.out _ hV6).mono ?_; rintro e w7 ⟨rfl, hB7⟩; have hV7 := below_step hV6 hB7)
    | (go_at_call 40; refine (HC8.out _ hV7).mono ?_; rintro e w8 ⟨rfl, hB8⟩; have hV8 := below_step hV7 hB8)
    | (go_at_call 42; refine (HC9.out _ hV8).mono ?_; rintro e w9 ⟨rfl, hB9⟩; have hV9 := below_step hV8 hB9)
    | fail)
  go_upto_region 21 with (first
    | (go_at_call 28; refine (HC10.out _ hV9).mono ?_; rintro e w10 ⟨rfl, hB10⟩; have hV10 := below_step hV9 hB10)
    | (go_at_call 40; refine (HC11.out _ hV10).mono ?_; rintro e w11 ⟨rfl, hB11⟩; have hV11 := below_step hV10 hB11)
    | (go_at_call 35; refine (HC12.out _ hV11).mono ?_; rintro e w12 ⟨rfl, hB12⟩; have hV12 := below_step hV11 hB12)
    | (go_at_call 42; refine (HC13.out _ hV12).mono ?_; rintro e w13 ⟨rfl, hB13⟩; have hV13 := below_step hV12 hB13)
    | fail)
  have HW13 : Hid (Below w.heap.size w w13) := Lib.hid (below_step HW5.out hV13)
  have FIN : Hid (Calls Try.prog 16 #[] w13 fun e w' => e = .returned (.bool true) ∧ Below w13.heap.size w13 w') := Lib.hid (sane_any _)
  clear hV5 hV6 hV7 hV8 hV9 hV10 hV11 hV12 hV13 hB6 hB7 hB8 hB9 hB10 hB11 hB12 hB13 HC6 HC7 HC8 HC9 HC10 HC11 HC12 HC13 hp1 hp2
  cases b1 <;> cases b2 <;> cases b3 <;> cases b4
  all_goals
    obtain ⟨r1, r2, r3, r4⟩ := HQ.out
    simp only [forall_const, reduceCtorEq, false_implies] at r1 r2 r3 r4
    go_wp2_with (go_at_call 16; refine FIN.out.mono ?_; rintro e w20 ⟨rfl, hB20⟩)
    go_ret
    exact ⟨rfl, below_step HW13.out hB20⟩

set_option maxRecDepth 100000 in
set_option maxHeartbeats 4000000 in
theorem coneBoth_walk (ms : List (Int × Int)) (A : Option Addr) (c : Nat) (one : List Int) (A1 : Option Addr) (c1 : Nat) (T : List (List Int)) (A2 : Option Addr) (c2 : Nat) (w : World) (hA : Marks w A ms) (hc : ms.length ≤ c) (hc0 : c ≤ maxLen) (hO : Ints w A1 one) (ho : one.length ≤ c1) (ho0 : c1 ≤ maxLen) (hI : Tabs w A2 T) (hd : T.length ≤ c2) (hd0 : c2 ≤ maxLen) :
    Calls Try.prog 10 #[.slice A ms.length c, .slice A1 one.length c1, .slice A2 T.length c2] w fun e w' => e = .returned (.bool true) ∧ Below w.heap.size w w' := by
  have H : Hid (Clk w A c ms) := ⟨hA, hc, hc0⟩
  have HO := Lib.hid (And.intro hO (And.intro ho ho0))
  have HI := Lib.hid hI
  have HD := Lib.hid (And.intro hd hd0)
  have HL := Lib.hid (Nat.le_trans hd hd0)
  have hW0 : Below w.heap.size w w := Below.refl _ _
  clear hA hc hc0 hI hO ho ho0 hd hd0
  by_cases hm : 40 < ms.length
  · have hm1 : decide (40 < ms.length) = true := decide_eq_true hm
    go_enter Try.func10, Try.ntmps10
    go_wp2_with (first
      | (go_at_call 15; refine (lawLong_any _ _ _ _).mono ?_; rintro e w' ⟨rfl, rfl⟩)
      | (go_at_call 16; refine (sane_any _).mono ?_; rintro e w20 ⟨rfl, hB20⟩))
    go_ret
    exact ⟨rfl, hB20⟩
  have hm1 : decide (40 < ms.length) = false := decide_eq_false hm
  cases hv : vhB ms with
  | false =>
    have HV := Lib.hid hv
    clear hv
    go_enter Try.func10, Try.ntmps10
    go_wp2_with (first
      | (go_at_call 15; refine (lawLong_any _ _ _ _).mono ?_; rintro e w' ⟨rfl, rfl⟩)
      | (go_at_call 22; refine (refValid_is _ _ _ false _ H.out HV.out).mono ?_; rintro e w1 ⟨rfl, hB1⟩; have hW1 := below_step hW0 hB1)
      | (go_at_call 16; refine (sane_any _).mono ?_; rintro e w20 ⟨rfl, hB20⟩))
    go_ret
    exact ⟨rfl, below_step hW1 hB20⟩
  | true =>
    have HV := Lib.hid hv
    by_cases h100 : 100 < one.length
    · have h101 : decide ((100 : Int) < (one.length : Int)) = true := decide_eq_true (by omega)
      clear hv
      go_enter Try.func10, Try.ntmps10
      go_wp2_with (first
        | (go_at_call 15; refine (lawLong_any _ _ _ _).mono ?_; rintro e w' ⟨rfl, rfl⟩)
        | (go_at_call 22; refine (refValid_is _ _ _ true _ H.out HV.out).mono ?_; rintro e w1 ⟨rfl, hB1⟩; have hW1 := below_step hW0 hB1)
        | (go_at_call 16; refine (sane_any _).mono ?_; rintro e w20 ⟨rfl, hB20⟩))
      go_ret
      exact ⟨rfl, below_step hW1 hB20⟩
    have h101 : decide ((100 : Int) < (one.length : Int)) = false := decide_eq_false (by omega)
    cases hwd : wideB T with
    | true =>
      have HWD := Lib.hid hwd
      clear hwd hv
      go_enter Try.func10, Try.ntmps10
      go_wp2_with (first
        | (go_at_call 15; refine (lawLong_any _ _ _ _).mono ?_; rintro e w' ⟨rfl, rfl⟩)
        | (go_at_call 22; refine (refValid_is _ _ _ true _ H.out HV.out).mono ?_; rintro e w1 ⟨rfl, hB1⟩; have hW1 := below_step hW0 hB1)
        | (go_at_call 32; refine (lawWide_is T _ _ true _ (HI.out.below hW1) HL.out HWD.out).mono ?_; rintro e w' ⟨rfl, rfl⟩)
        | (go_at_call 16; refine (sane_any _).mono ?_; rintro e w20 ⟨rfl, hB20⟩))
      go_ret
      exact ⟨rfl, below_step hW1 hB20⟩
    | false => exact both_core ms A c one A1 c1 T A2 c2 w H HO HI HD hm1 HV h101 (Lib.hid hwd) hW0
end Go.Proofs.Ytmlkdjcjfkfdiaa
