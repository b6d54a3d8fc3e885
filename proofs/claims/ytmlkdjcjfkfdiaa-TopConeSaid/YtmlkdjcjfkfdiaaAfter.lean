/-
  Contracts: after (cone), and the two function literals that join numbers of chains.
-/
import Derived.Test.YtmlkdjcjfkfdiaaJoined
import Derived.Test.YtmlkdjcjfkfdiaaNumM
namespace Go.Proofs.Ytmlkdjcjfkfdiaa
open Go.RowKit Go.Shelf

set_option maxRecDepth 100000 in
theorem keep_after (ms : List (Int × Int)) (A : Option Addr) (c : Nat) (a : Int) (S : List Int) (B0 B1 : Nat) (w : World) (h : Marks w A ms) (hv : vhB ms = true) (ha : hasB ms a = true) (hS : ∀ b ∈ S, hasB ms b = true) (hC : Caught w B0 B1 A ms.length c a) :
    KeepAt 120 #[.pointer (some ⟨B0, 0, none⟩), .pointer (some ⟨B1, 0, none⟩)] (fun b => befI ms a b) S w := by
  intro W b hb hB
  have H := Lib.hid (And.intro (h.below hB) (And.intro hv (And.intro ha (hS b hb))))
  obtain ⟨l0, l1, c0, c1⟩ := hC.below hB
  clear h hv ha hS hC hB hb
  show Calls Try.prog _ #[.int .i64 b, .pointer (some ⟨B0, 0, none⟩), .pointer (some ⟨B1, 0, none⟩)] W _
  go_enter Try.func120, Try.ntmps120
  go_wp2_with (go_at_call 59; refine (before_any ms A c a b _ H.out.1 H.out.2.1 H.out.2.2.1 H.out.2.2.2).mono ?_; rintro e w' ⟨rfl, n, rfl⟩)
  go_ret
  exact ⟨rfl, below_drewN (Below.refl _ _) n⟩
set_option maxRecDepth 100000 in
theorem after_any (ms : List (Int × Int)) (A : Option Addr) (c : Nat) (a : Int) (w : World) (h : Marks w A ms) (hv : vhB ms = true) (ha : hasB ms a = true) :
    Calls Try.prog 103 #[.slice A ms.length c, .int .i64 a] w fun e w' => ∃ (A' : Option Addr) (c' : Nat) (ys : List Int), e = .returned (.slice A' ys.length c') ∧ Out w' A' c' ys ∧ Below w.heap.size w w' ∧ Hid (ys = afterL ms a) := by
  have hn := (vh_parts hv).2
  have H := Lib.hid (And.intro h (And.intro hv ha))
  have eg : ∀ args w, (callFunc 120 args).run Try.prog w = .ok (.enter 120 args) w := enters_of Try.func120 (by kernel_rfl) rfl
  clear h hv ha
  go_enter Try.func103, Try.ntmps103
  go_wp2_with fail
  refine (all_any ms.length A c _ (by omega)).mono ?_
  rintro e w1 ⟨A1, c1, rfl, hO1, hB1⟩
  have hB0 : Below w.heap.size w w1 := Below.trans (by repeat (first | with_reducible exact Below.refl _ _ | with_reducible assumption | refine below_drewN ?_ _ | with_reducible refine Below.drew ?_ | (refine Below.setCell ?_ (by first | (simp; done) | (simp; omega) | omega) _) | (refine Below.alloc ?_ (by first | (simp; done) | (simp; omega) | omega) _))) (hB1.mono (by first | (simp; done) | (simp; omega) | omega))
  have hC : Caught w1 w.heap.size (w.heap.size + 1) A ms.length c a := Caught.below ⟨(by first | (simp; done) | (simp; omega) | omega), (by first | (simp; done) | (simp; omega) | omega), by simp, by simp⟩ hB1
  have hlen := allL_len ms.length
  have HK := Lib.hid (keep_after ms A c a (allL ms.length) _ _ w1 (H.out.1.below hB0) H.out.2.1 H.out.2.2 (fun b hb => allL_has hb) hC)
  have HO := Lib.hid hO1
  have HC := Lib.hid hC
  clear hO1 hC
  have hsz : w.heap.size + 2 ≤ w1.heap.size := by have := hB1.size; simp at this; omega
  have hcon := kept_any _ _ _ eg (allL ms.length) A1 c1 w1 HK.out HO.out.ints (by omega)
  rw [hlen] at hcon
  have HQ := Lib.hid hcon
  clear hcon hlen eg
  go_wp2_with (go_at_call 97; refine HQ.out.mono ?_; rintro e w2 ⟨A2, c2, ys, rfl, hO2, hB2, hy⟩)
  go_ret
  exact ⟨A2, c2, ys, rfl, hO2, below_step hB0 hB2, hy⟩

/-- What a join makes of two numbers. -/
structure JoinAt (g : Nat) (J : Int → Int → Int) : Prop where
  enters : ∀ args w, (callFunc g args).run Try.prog w = .ok (.enter g args) w
  calls : ∀ (x y : Int) (w : World), 0 ≤ x → 0 ≤ y → x + y ≤ 4000000000000000000 → Calls Try.prog g #[.int .i64 x, .int .i64 y] w fun e w' => e = .returned (.int .i64 (J x y)) ∧ w' = w
set_option maxRecDepth 100000 in
theorem join_max : JoinAt 102 max := by
  refine ⟨enters_of Try.func102 (by kernel_rfl) rfl, fun x y w hx hy hs => ?_⟩
  go_enter Try.func102, Try.ntmps102
  rcases Int.lt_or_le x y with h | h
  · have e := Lib.hid (show max x y = y by omega)
    go_wp2
    go_ret
    exact ⟨by rw [e.out]; rfl, rfl⟩
  · have e := Lib.hid (show max x y = x by omega)
    go_wp2
    go_ret
    exact ⟨by rw [e.out]; rfl, rfl⟩
set_option maxRecDepth 100000 in
theorem join_add : JoinAt 105 (fun a b => a + b) := by
  refine ⟨enters_of Try.func105 (by kernel_rfl) rfl, fun x y w hx hy hs => ?_⟩
  go_enter Try.func105, Try.ntmps105
  go_wp2
  go_ret
  exact ⟨by first | rfl | go_num, rfl⟩
end Go.Proofs.Ytmlkdjcjfkfdiaa
