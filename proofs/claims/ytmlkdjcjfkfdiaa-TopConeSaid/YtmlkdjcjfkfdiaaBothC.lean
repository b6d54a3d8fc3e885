/-
  Contracts of cone at valid hits, with the lengths as numbers.
-/
import Derived.Test.YtmlkdjcjfkfdiaaThreadsT
import Derived.Test.YtmlkdjcjfkfdiaaChain
import Derived.Test.YtmlkdjcjfkfdiaaIsChains
import Derived.Test.YtmlkdjcjfkfdiaaTabW
namespace Go.Proofs.Ytmlkdjcjfkfdiaa
open Go.RowKit Go.Shelf

theorem lawWide_is (T : List (List Int)) (A : Option Addr) (c : Nat) (b : Bool) (w : World) (h : Tabs w A T) (hl : T.length ≤ maxLen) (hb : wideB T = b) :
    Calls Try.prog 32 #[.slice A T.length c] w fun e w' => e = .returned (.bool b) ∧ w = w' := by rw [← hb]; exact lawWide_any T A c w h hl
theorem refValid_is (ms : List (Int × Int)) (A : Option Addr) (c : Nat) (b : Bool) (w : World) (h : Clk w A c ms) (hb : vhB ms = b) :
    Calls Try.prog 22 #[.slice A ms.length c] w fun e w' => e = .returned (.bool b) ∧ Below w.heap.size w w' :=
  (refValid_any ms A c w h.marks h.len).mono fun e w' ⟨he, n, hw⟩ => ⟨by rw [he, hb], by rw [hw]; exact below_drewN (Below.refl _ _) n⟩
theorem both_facts {ms : List (Int × Int)} (hv : vhB ms = true) : (layersL ms).length = (chainL ms).length ∧ ischB ms (chainL ms) = true ∧ aryB ms (layersL ms) = true ∧ islB ms (layerL ms) = true ∧ ms.length ≤ (chainL ms).length * (layerL ms).length ∧ (chainL ms).length ≤ 14 ∧ (layerL ms).length ≤ 14 ∧ 1 ≤ (chainL ms).length ∧ 1 ≤ (layerL ms).length := by
  obtain ⟨hn1, hn2⟩ := vh_parts hv
  have h1 := ary_layers (ms := ms) (by omega)
  have h2 := chain_is hn1 (ms := ms) (by omega)
  have h3 := layer_is hn1 (ms := ms) (by omega)
  refine ⟨(mirsky hn1 (by omega)).symm, h2, h1, h3, both_mul hn1 (by omega), ?_, ?_, ?_, ?_⟩
  · have := pigeon (ch_nodup h2) (isc_in h2).2
    omega
  · have := pigeon (lay_nodup h3) (isl_in h3).2
    omega
  · unfold ischB at h2
    rw [Bool.and_eq_true] at h2
    exact (listB_parts h2.1).1.1
  · unfold islB at h3
    rw [Bool.and_eq_true] at h3
    exact (listB_parts h3.1).1.1

theorem both_nums {ms : List (Int × Int)} (hv : vhB ms = true) : ∃ n1 n2 p : Nat, (chainL ms).length = n1 ∧ (layersL ms).length = n1 ∧ (layerL ms).length = n2 ∧ wrap64 ((n1 : Int) * (n2 : Int)) = (p : Int) ∧ decide (p < ms.length) = false := by
  obtain ⟨h1, h2, h3, h4, h5, h6, h7, _⟩ := both_facts hv
  have h8 : (chainL ms).length * (layerL ms).length ≤ 14 * 14 := Nat.mul_le_mul h6 h7
  refine ⟨_, _, (chainL ms).length * (layerL ms).length, rfl, h1, rfl, ?_, decide_eq_false (by omega)⟩
  rw [← Int.natCast_mul, IntWalk.wrap64_in _ (by omega)]
theorem both_q {ms : List (Int × Int)} {one : List Int} {T : List (List Int)} {n1 n2 : Nat} {b1 b2 b3 b4 : Bool} (hv : vhB ms = true) (e1 : (chainL ms).length = n1) (e2 : (layersL ms).length = n1) (e3 : (layerL ms).length = n2)
    (hb1 : ischB ms one = b1) (hb2 : islB ms one = b2) (hb3 : aryB ms T = b3) (hb4 : thyB ms T = b4) :
    (b1 = true → decide (one.length ≤ n1) = true) ∧ (b2 = true → decide (one.length ≤ n2) = true) ∧ (b3 = true → decide (n1 ≤ T.length) = true) ∧ (b4 = true → decide (n2 ≤ T.length) = true) := by
  obtain ⟨h1, h2, h3, h4, h5, h6, h7, _⟩ := both_facts hv
  refine ⟨fun h => ?_, fun h => ?_, fun h => ?_, fun h => ?_⟩
  · have := ch_ary (hb1.trans h) h3
    exact decide_eq_true (by omega)
  · have := layer_max (hb2.trans h)
    exact decide_eq_true (by omega)
  · have := ch_ary h2 (hb3.trans h)
    exact decide_eq_true (by omega)
  · have := lay_thy h4 (hb4.trans h)
    exact decide_eq_true (by omega)
section
variable {ms : List (Int × Int)} {A : Option Addr} {c : Nat} {w : World}
theorem both_6 (h : Clk w A c ms) (hv : vhB ms = true) {l : List Int} {A2 : Option Addr} {c2 : Nat} (hO : Ints w A2 l) (hl : l.length ≤ c2) (hc : c2 ≤ maxLen) {n : Nat} (hn : l.length = n) {b : Bool} (hb : ischB ms l = b) : ∀ W, Below w.heap.size w W → Calls Try.prog 28 #[.slice A ms.length c, .slice A2 n c2] W fun e w' => e = .returned (.tuple #[.bool b, .int .i64 0]) ∧ Below W.heap.size W w' := fun W hB => by
  have q := coneIsChain_any ms A c l A2 c2 W (h.below hB) (hO.below hB) hl hc
  rw [hn] at q
  exact q.mono fun e w' ⟨x, E, he, hB', hF⟩ => ⟨by rw [he, hF.out.1, hF.out.2, hitsE_yes hv, ischF_yes hv, hb], hB'⟩
theorem both_8 (h : Clk w A c ms) (hv : vhB ms = true) {l : List Int} {A2 : Option Addr} {c2 : Nat} (hO : Ints w A2 l) (hl : l.length ≤ c2) (hc : c2 ≤ maxLen) {n : Nat} (hn : l.length = n) {b : Bool} (hb : islB ms l = b) : ∀ W, Below w.heap.size w W → Calls Try.prog 40 #[.slice A ms.length c, .slice A2 n c2] W fun e w' => e = .returned (.tuple #[.bool b, .int .i64 0]) ∧ Below W.heap.size W w' := fun W hB => by
  have q := coneIsLayer_any ms A c l A2 c2 W (h.below hB) (hO.below hB) hl hc
  rw [hn] at q
  exact q.mono fun e w' ⟨x, E, he, hB', hF⟩ => ⟨by rw [he, hF.out.1, hF.out.2, hitsE_yes hv, islF_yes hv, hb], hB'⟩
theorem both_7 (h : Clk w A c ms) (hv : vhB ms = true) {l : List (List Int)} {A2 : Option Addr} {c2 : Nat} (hO : Tabs w A2 l) (hl : l.length ≤ c2) (hc : c2 ≤ maxLen) {n : Nat} (hn : l.length = n) {b : Bool} (hb : aryB ms l = b) : ∀ W, Below w.heap.size w W → Calls Try.prog 35 #[.slice A ms.length c, .slice A2 n c2] W fun e w' => e = .returned (.tuple #[.bool b, .int .i64 0]) ∧ Below W.heap.size W w' := fun W hB => by
  have q := coneAreLayers_any ms A c l A2 c2 W (h.below hB) (hO.below hB) hl hc
  rw [hn] at q
  exact q.mono fun e w' ⟨x, E, he, hB', hF⟩ => ⟨by rw [he, hF.out.1, hF.out.2, hitsE_yes hv, aryF_yes hv, hb], hB'⟩
theorem both_9 (h : Clk w A c ms) (hv : vhB ms = true) {l : List (List Int)} {A2 : Option Addr} {c2 : Nat} (hO : Tabs w A2 l) (hl : l.length ≤ c2) (hc : c2 ≤ maxLen) {n : Nat} (hn : l.length = n) {b : Bool} (hb : thyB ms l = b) : ∀ W, Below w.heap.size w W → Calls Try.prog 42 #[.slice A ms.length c, .slice A2 n c2] W fun e w' => e = .returned (.tuple #[.bool b, .int .i64 0]) ∧ Below W.heap.size W w' := fun W hB => by
  have q := coneAreThreads_any ms A c l A2 c2 W (h.below hB) (hO.below hB) hl hc
  rw [hn] at q
  exact q.mono fun e w' ⟨x, E, he, hB', hF⟩ => ⟨by rw [he, hF.out.1, hF.out.2, hitsE_yes hv, thyF_yes hv, hb], hB'⟩
theorem both_2 (h : Clk w A c ms) (hv : vhB ms = true) {n1 : Nat} (e1 : (chainL ms).length = n1) : Calls Try.prog 26 #[.slice A ms.length c] w fun e w' => ∃ (A' : Option Addr) (c' : Nat) (ys : List Int), e = .returned (.tuple #[.slice A' n1 c', .int .i64 0]) ∧ Out w' A' c' ys ∧ Below w.heap.size w w' ∧ Hid (ys = chainL ms) :=
  (coneChain_any ms A c w h).mono fun e w' ⟨A', c', ys, E, he, hO, hB, hF⟩ => by
    have hy : ys = chainL ms := by rw [hF.out.1, chainF, hv]; rfl
    exact ⟨A', c', ys, by rw [he, hF.out.2, hitsE_yes hv, hy, e1], hO, hB, hy⟩
theorem both_4 (h : Clk w A c ms) (hv : vhB ms = true) {n2 : Nat} (e3 : (layerL ms).length = n2) : Calls Try.prog 38 #[.slice A ms.length c] w fun e w' => ∃ (A' : Option Addr) (c' : Nat) (ys : List Int), e = .returned (.tuple #[.slice A' n2 c', .int .i64 0]) ∧ Out w' A' c' ys ∧ Below w.heap.size w w' ∧ Hid (ys = layerL ms) :=
  (coneLayer_any ms A c w h).mono fun e w' ⟨A', c', ys, E, he, hO, hB, hF⟩ => by
    have hy : ys = layerL ms := by rw [hF.out.1, layerF, hv]; rfl
    exact ⟨A', c', ys, by rw [he, hF.out.2, hitsE_yes hv, hy, e3], hO, hB, hy⟩
theorem both_3 (h : Clk w A c ms) (hv : vhB ms = true) {n1 : Nat} (e2 : (layersL ms).length = n1) : Calls Try.prog 33 #[.slice A ms.length c] w fun e w' => ∃ (A' : Option Addr) (c' : Nat) (Ts : List (List Int)), e = .returned (.tuple #[.slice A' n1 c', .int .i64 0]) ∧ TOut w' A' c' Ts ∧ Below w.heap.size w w' ∧ Hid (Ts = layersL ms) :=
  (coneLayers_any ms A c w h).mono fun e w' ⟨A', c', ys, E, he, hO, hB, hF⟩ => by
    have hy : ys = layersL ms := by rw [hF.out.1, layersF, hv]; rfl
    exact ⟨A', c', ys, by rw [he, hF.out.2, hitsE_yes hv, hy, e2], hO, hB, hy⟩
theorem both_5 (h : Clk w A c ms) (hv : vhB ms = true) {n2 : Nat} (e3 : (layerL ms).length = n2) : Calls Try.prog 44 #[.slice A ms.length c] w fun e w' => ∃ (A' : Option Addr) (c' : Nat) (Us : List (List Int)), e = .returned (.tuple #[.slice A' n2 c', .int .i64 0]) ∧ TOut w' A' c' Us ∧ Below w.heap.size w w' ∧ Hid (thyB ms Us = true ∧ Us.length = n2) :=
  (coneThreads_any ms A c w h).mono fun e w' ⟨A', c', ys, E, he, hO, hB, hF⟩ => by
    obtain ⟨h1, h2⟩ := hF.out.2.1 hv
    exact ⟨A', c', ys, by rw [he, hF.out.1, hitsE_yes hv, h2, e3], hO, hB, h1, h2.trans e3⟩
end
end Go.Proofs.Ytmlkdjcjfkfdiaa
