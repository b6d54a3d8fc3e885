/-
  Contracts: past, firstOf, first (cone), with their function literals.
-/
import Derived.Test.YtmlkdjcjfkfdiaaKept
namespace Go.Proofs.Ytmlkdjcjfkfdiaa
open Go.RowKit Go.Shelf

theorem allL_has {ms : List (Int × Int)} {a : Int} (h : a ∈ allL ms.length) : hasB ms a = true := by
  have := allL_mem h
  simp [hasB]; omega

/-- What a function literal has captured: hits in one block, a number in another one. -/
structure Caught (w : World) (B0 B1 : Nat) (A : Option Addr) (n c : Nat) (a : Int) : Prop where
  lt0 : B0 < w.heap.size
  lt1 : B1 < w.heap.size
  hits : w.cell? ⟨B0, 0, none⟩ = some (.slice A n c)
  num : w.cell? ⟨B1, 0, none⟩ = some (.int .i64 a)
theorem Caught.below {w W : World} {B0 B1 : Nat} {A : Option Addr} {n c : Nat} {a : Int} (h : Caught w B0 B1 A n c a) (hb : Below w.heap.size w W) : Caught W B0 B1 A n c a :=
  ⟨Nat.lt_of_lt_of_le h.lt0 hb.size, Nat.lt_of_lt_of_le h.lt1 hb.size, (hb.cell (p := ⟨B0, 0, none⟩) h.lt0).trans h.hits, (hb.cell (p := ⟨B1, 0, none⟩) h.lt1).trans h.num⟩

set_option maxRecDepth 100000 in
theorem keep_past (ms : List (Int × Int)) (A : Option Addr) (c : Nat) (a : Int) (S : List Int) (B0 B1 : Nat) (w : World) (h : Marks w A ms) (hv : vhB ms = true) (ha : hasB ms a = true) (hS : ∀ b ∈ S, hasB ms b = true) (hC : Caught w B0 B1 A ms.length c a) :
    KeepAt 99 #[.pointer (some ⟨B0, 0, none⟩), .pointer (some ⟨B1, 0, none⟩)] (fun b => befI ms b a) S w := by
  intro W b hb hB
  have H := Lib.hid (And.intro (h.below hB) (And.intro hv (And.intro ha (hS b hb))))
  obtain ⟨l0, l1, c0, c1⟩ := hC.below hB
  clear h hv ha hS hC hB hb
  show Calls Try.prog _ #[.int .i64 b, .pointer (some ⟨B0, 0, none⟩), .pointer (some ⟨B1, 0, none⟩)] W _
  go_enter Try.func99, Try.ntmps99
  go_wp2_with (go_at_call 59; refine (before_any ms A c b a _ H.out.1 H.out.2.1 H.out.2.2.2 H.out.2.2.1).mono ?_; rintro e w' ⟨rfl, n, rfl⟩)
  go_ret
  exact ⟨rfl, below_drewN (Below.refl _ _) n⟩
set_option maxRecDepth 100000 in
theorem keep_first1 (ms : List (Int × Int)) (A : Option Addr) (c : Nat) (a : Int) (S : List Int) (B0 B1 : Nat) (w : World) (h : Marks w A ms) (hv : vhB ms = true) (ha : hasB ms a = true) (hS : ∀ b ∈ S, hasB ms b = true) (hC : Caught w B0 B1 A ms.length c a) :
    KeepAt 118 #[.pointer (some ⟨B0, 0, none⟩), .pointer (some ⟨B1, 0, none⟩)] (fun b => befI ms b a) S w := by
  intro W b hb hB
  have H := Lib.hid (And.intro (h.below hB) (And.intro hv (And.intro ha (hS b hb))))
  obtain ⟨l0, l1, c0, c1⟩ := hC.below hB
  clear h hv ha hS hC hB hb
  show Calls Try.prog _ #[.int .i64 b, .pointer (some ⟨B0, 0, none⟩), .pointer (some ⟨B1, 0, none⟩)] W _
  go_enter Try.func118, Try.ntmps118
  go_wp2_with (go_at_call 59; refine (before_any ms A c b a _ H.out.1 H.out.2.1 H.out.2.2.2 H.out.2.2.1).mono ?_; rintro e w' ⟨rfl, n, rfl⟩)
  go_ret
  exact ⟨rfl, below_drewN (Below.refl _ _) n⟩

set_option maxRecDepth 100000 in
theorem past_any (ms : List (Int × Int)) (A : Option Addr) (c : Nat) (a : Int) (w : World) (h : Marks w A ms) (hv : vhB ms = true) (ha : hasB ms a = true) :
    Calls Try.prog 62 #[.slice A ms.length c, .int .i64 a] w fun e w' => ∃ (A' : Option Addr) (c' : Nat) (ys : List Int), e = .returned (.slice A' ys.length c') ∧ Out w' A' c' ys ∧ Below w.heap.size w w' ∧ Hid (ys = pastL ms a) := by
  have hn := (vh_parts hv).2
  have H := Lib.hid (And.intro h (And.intro hv ha))
  have eg : ∀ args w, (callFunc 99 args).run Try.prog w = .ok (.enter 99 args) w := enters_of Try.func99 (by kernel_rfl) rfl
  clear h hv ha
  go_enter Try.func62, Try.ntmps62
  go_wp2_with fail
  refine (all_any ms.length A c _ (by omega)).mono ?_
  rintro e w1 ⟨A1, c1, rfl, hO1, hB1⟩
  have hB0 : Below w.heap.size w w1 := Below.trans (by repeat (first | with_reducible exact Below.refl _ _ | with_reducible assumption | refine below_drewN ?_ _ | with_reducible refine Below.drew ?_ | (refine Below.setCell ?_ (by first | (simp; done) | (simp; omega) | omega) _) | (refine Below.alloc ?_ (by first | (simp; done) | (simp; omega) | omega) _))) (hB1.mono (by first | (simp; done) | (simp; omega) | omega))
  have hC : Caught w1 w.heap.size (w.heap.size + 1) A ms.length c a := Caught.below ⟨(by first | (simp; done) | (simp; omega) | omega), (by first | (simp; done) | (simp; omega) | omega), by simp, by simp⟩ hB1
  have hlen := allL_len ms.length
  have HK := Lib.hid (keep_past ms A c a (allL ms.length) _ _ w1 (H.out.1.below hB0) H.out.2.1 H.out.2.2 (fun b hb => allL_has hb) hC)
  have HO := Lib.hid hO1
  have HC := Lib.hid hC
  clear hO1 hC
  have hsz : w.heap.size + 2 ≤ w1.heap.size := by have := hB1.size; simp at this; omega
  have hcon := kept_any _ _ _ eg (allL ms.length) A1 c1 w1 HK.out HO.out.ints (by omega)
  rw [hlen] at hcon
  have HQ := Lib.hid hcon
  clear hcon hlen eg
  go_wp2_with (go_at_call 97; refine HQ.out.mono ?_; rintro e w2 ⟨A2, c2, ys, rfl, hO2, hB2, hy⟩)
  go_ret
  exact ⟨A2, c2, ys, rfl, hO2, below_step hB0 hB2, hy⟩
end Go.Proofs.Ytmlkdjcjfkfdiaa
