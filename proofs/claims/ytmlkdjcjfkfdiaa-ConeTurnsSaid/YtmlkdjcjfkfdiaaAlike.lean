/-
  Contract: alike (firnlaw02) where chains, layers and numbers of chains are.
-/
import Derived.Test.YtmlkdjcjfkfdiaaTurnsM
import Derived.Test.YtmlkdjcjfkfdiaaLong
import Derived.Test.YtmlkdjcjfkfdiaaChain
namespace Go.Proofs.Ytmlkdjcjfkfdiaa
open Go.RowKit Go.Shelf

set_option maxRecDepth 100000 in
set_option maxHeartbeats 2000000 in
theorem alike_core (A B : Option Addr) (m n c d n1 n2 : Nat) (z : Int) (w : World)
    (c1 : ∀ W, Below w.heap.size w W → Calls Try.prog 26 #[.slice A m c] W fun e w' => ∃ A' c', e = .returned (.tuple #[.slice A' n1 c', .int .i64 0]) ∧ Below W.heap.size W w')
    (c2 : ∀ W, Below w.heap.size w W → Calls Try.prog 26 #[.slice B n d] W fun e w' => ∃ A' c', e = .returned (.tuple #[.slice A' n1 c', .int .i64 0]) ∧ Below W.heap.size W w')
    (l1 : ∀ W, Below w.heap.size w W → Calls Try.prog 38 #[.slice A m c] W fun e w' => ∃ A' c', e = .returned (.tuple #[.slice A' n2 c', .int .i64 0]) ∧ Below W.heap.size W w')
    (l2 : ∀ W, Below w.heap.size w W → Calls Try.prog 38 #[.slice B n d] W fun e w' => ∃ A' c', e = .returned (.tuple #[.slice A' n2 c', .int .i64 0]) ∧ Below W.heap.size W w')
    (k1 : ∀ W, Below w.heap.size w W → Calls Try.prog 30 #[.slice A m c] W fun e w' => e = .returned (.tuple #[.int .i64 z, .int .i64 0]) ∧ Below W.heap.size W w')
    (k2 : ∀ W, Below w.heap.size w W → Calls Try.prog 30 #[.slice B n d] W fun e w' => e = .returned (.tuple #[.int .i64 z, .int .i64 0]) ∧ Below W.heap.size W w') :
    Calls Try.prog 55 #[.slice A m c, .slice B n d] w fun e w' => e = .returned (.bool true) ∧ Below w.heap.size w w' := by
  have C1 := Lib.hid c1
  have C2 := Lib.hid c2
  have L1 := Lib.hid l1
  have L2 := Lib.hid l2
  have K1 := Lib.hid k1
  have K2 := Lib.hid k2
  have HW : Hid (Below w.heap.size w w) := Lib.hid (Below.refl _ _)
  clear c1 c2 l1 l2 k1 k2
  go_enter Try.func55, Try.ntmps55
  go_wp2_with (first
    | (go_at_call 26; with_reducible refine (C1.out _ HW.out).mono ?_; rintro e v0 ⟨A0, c0, rfl, hB0⟩; have HW : Hid (Below w.heap.size w _) := Lib.hid (below_step HW.out hB0); clear hB0)
    | (go_at_call 26; with_reducible refine (C2.out _ HW.out).mono ?_; rintro e v1 ⟨A1, c1, rfl, hB1⟩; have HW : Hid (Below w.heap.size w _) := Lib.hid (below_step HW.out hB1); clear hB1)
    | (go_at_call 38; with_reducible refine (L1.out _ HW.out).mono ?_; rintro e v2 ⟨A2, c2, rfl, hB2⟩; have HW : Hid (Below w.heap.size w _) := Lib.hid (below_step HW.out hB2); clear hB2)
    | (go_at_call 38; with_reducible refine (L2.out _ HW.out).mono ?_; rintro e v3 ⟨A3, c3, rfl, hB3⟩; have HW : Hid (Below w.heap.size w _) := Lib.hid (below_step HW.out hB3); clear hB3)
    | (go_at_call 30; with_reducible refine (K1.out _ HW.out).mono ?_; rintro e v4 ⟨rfl, hB4⟩; have HW : Hid (Below w.heap.size w _) := Lib.hid (below_step HW.out hB4); clear hB4)
    | (go_at_call 30; with_reducible refine (K2.out _ HW.out).mono ?_; rintro e v5 ⟨rfl, hB5⟩; have HW : Hid (Below w.heap.size w _) := Lib.hid (below_step HW.out hB5); clear hB5)
    | fail)
  go_ret
  exact ⟨rfl, HW.out⟩

theorem chain_told (ms : List (Int × Int)) (A : Option Addr) (c : Nat) (w : World) (h : Clk w A c ms) (hv : vhB ms = true) :
    Calls Try.prog 26 #[.slice A ms.length c] w fun e w' => ∃ A' c', e = .returned (.tuple #[.slice A' (chainL ms).length c', .int .i64 0]) ∧ Below w.heap.size w w' :=
  (coneChain_any ms A c w h).mono fun e w' ⟨A', c', ys, E, he, _, hb, hy⟩ => by
    obtain ⟨hy1, hy2⟩ := hy.out
    unfold chainF at hy1
    unfold hitsE at hy2
    rw [if_pos hv] at hy1 hy2
    subst hy1 hy2
    exact ⟨A', c', he, hb⟩
theorem layer_told (ms : List (Int × Int)) (A : Option Addr) (c : Nat) (w : World) (h : Clk w A c ms) (hv : vhB ms = true) :
    Calls Try.prog 38 #[.slice A ms.length c] w fun e w' => ∃ A' c', e = .returned (.tuple #[.slice A' (layerL ms).length c', .int .i64 0]) ∧ Below w.heap.size w w' :=
  (coneLayer_any ms A c w h).mono fun e w' ⟨A', c', ys, E, he, _, hb, hy⟩ => by
    obtain ⟨hy1, hy2⟩ := hy.out
    unfold layerF at hy1
    unfold hitsE at hy2
    rw [if_pos hv] at hy1 hy2
    subst hy1 hy2
    exact ⟨A', c', he, hb⟩
theorem chains_told (ms : List (Int × Int)) (A : Option Addr) (c : Nat) (w : World) (h : Clk w A c ms) (hv : vhB ms = true) :
    Calls Try.prog 30 #[.slice A ms.length c] w fun e w' => e = .returned (.tuple #[.int .i64 (chainsI ms), .int .i64 0]) ∧ Below w.heap.size w w' :=
  (coneChains_any ms A c w h).mono fun e w' ⟨z, E, he, hb, hy⟩ => by
    obtain ⟨hy1, hy2⟩ := hy.out
    unfold chainsF at hy1
    unfold hitsE at hy2
    rw [if_pos hv] at hy1 hy2
    subst hy1 hy2
    exact ⟨he, hb⟩
theorem alike_true (ms ns : List (Int × Int)) (A B : Option Addr) (c d : Nat) (w : World) (h : Clk w A c ms) (k : Clk w B d ns) (hv : vhB ms = true) (hu : vhB ns = true)
    (e : (chainL ms).length = (chainL ns).length ∧ (layerL ms).length = (layerL ns).length ∧ chainsI ms = chainsI ns) :
    Calls Try.prog 55 #[.slice A ms.length c, .slice B ns.length d] w fun e w' => e = .returned (.bool true) ∧ Below w.heap.size w w' := by
  refine alike_core A B ms.length ns.length c d (chainL ms).length (layerL ms).length (chainsI ms) w (fun W hW => chain_told ms A c W (h.below hW) hv) (fun W hW => ?_) (fun W hW => layer_told ms A c W (h.below hW) hv) (fun W hW => ?_) (fun W hW => chains_told ms A c W (h.below hW) hv) (fun W hW => ?_)
  · rw [e.1]; exact chain_told ns B d W (k.below hW) hu
  · rw [e.2.1]; exact layer_told ns B d W (k.below hW) hu
  · rw [e.2.2]; exact chains_told ns B d W (k.below hW) hu
end Go.Proofs.Ytmlkdjcjfkfdiaa
