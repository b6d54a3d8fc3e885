/-
  Contracts: firstOf, first, told for first, First (cone).
-/
import Derived.Test.YtmlkdjcjfkfdiaaPast
namespace Go.Proofs.Ytmlkdjcjfkfdiaa
open Go.RowKit Go.Shelf

set_option maxRecDepth 100000 in
theorem keep_first (ms : List (Int × Int)) (A : Option Addr) (c : Nat) (S : List Int) (A2 : Option Addr) (c2 : Nat) (B0 B1 : Nat) (w : World) (h : Marks w A ms) (hv : vhB ms = true) (hS : ∀ b ∈ S, hasB ms b = true) (hI : Ints w A2 S) (hn : S.length ≤ 1000)
    (h0 : B0 < w.heap.size) (h1 : B1 < w.heap.size) (g0 : w.cell? ⟨B0, 0, none⟩ = some (.slice A2 S.length c2)) (g1 : w.cell? ⟨B1, 0, none⟩ = some (.slice A ms.length c)) :
    KeepAt 116 #[.pointer (some ⟨B0, 0, none⟩), .pointer (some ⟨B1, 0, none⟩)] (fun a => !(S.any fun b => befI ms b a)) S w := by
  intro W a ha hB
  have HB := Lib.hid hB
  have H := Lib.hid (And.intro (h.below hB) (And.intro hv (And.intro hS (hS a ha))))
  have HI := Lib.hid (hI.below hB)
  have c0 := (hB.cell (p := ⟨B0, 0, none⟩) h0).trans g0
  have c1 := (hB.cell (p := ⟨B1, 0, none⟩) h1).trans g1
  have z0 : B0 < W.heap.size := Nat.lt_of_lt_of_le h0 hB.size
  have z1 : B1 < W.heap.size := Nat.lt_of_lt_of_le h1 hB.size
  have eg : ∀ args w, (callFunc 118 args).run Try.prog w = .ok (.enter 118 args) w := enters_of Try.func118 (by kernel_rfl) rfl
  have hBB : Below W.heap.size W (W.alloc (.cells #[.int .i64 a] 3)) := (Below.refl _ _).alloc (Nat.le_refl _) _
  have hC : Caught (W.alloc (.cells #[.int .i64 a] 3)) B1 W.heap.size A ms.length c a := ⟨by simp; omega, by simp, (hBB.cell (p := ⟨B1, 0, none⟩) z1).trans c1, by simp⟩
  have hcon := contains_any _ _ _ eg S A2 c2 _ (keep_first1 ms A c a S B1 W.heap.size _ (H.out.1.below hBB) hv H.out.2.2.2 hS hC) (HI.out.below hBB) hn
  have HQ := Lib.hid hcon
  clear hcon hC hBB eg h hv hS hI hB g0 g1 ha
  show Calls Try.prog _ #[.int .i64 a, .pointer (some ⟨B0, 0, none⟩), .pointer (some ⟨B1, 0, none⟩)] W _
  go_enter Try.func116, Try.ntmps116
  go_wp2_with (go_at_call 117; refine HQ.out.mono ?_; rintro e w2 ⟨rfl, hB2⟩)
  go_ret
  exact ⟨rfl, Below.trans (by repeat (first | with_reducible exact Below.refl _ _ | with_reducible assumption | refine below_drewN ?_ _ | with_reducible refine Below.drew ?_ | (refine Below.setCell ?_ (by first | (simp; done) | (simp; omega) | omega) _) | (refine Below.alloc ?_ (by first | (simp; done) | (simp; omega) | omega) _))) (hB2.mono (by first | (simp; done) | (simp; omega) | omega))⟩

set_option maxRecDepth 100000 in
theorem firstOf_any (ms : List (Int × Int)) (A : Option Addr) (c : Nat) (S : List Int) (A2 : Option Addr) (c2 : Nat) (w : World) (h : Marks w A ms) (hv : vhB ms = true) (hS : ∀ b ∈ S, hasB ms b = true) (hI : Ints w A2 S) (hn : S.length ≤ 1000) :
    Calls Try.prog 100 #[.slice A ms.length c, .slice A2 S.length c2] w fun e w' => ∃ (A' : Option Addr) (c' : Nat) (ys : List Int), e = .returned (.slice A' ys.length c') ∧ Out w' A' c' ys ∧ Below w.heap.size w w' ∧ Hid (ys = firstOfL ms S) := by
  have eg : ∀ args w, (callFunc 116 args).run Try.prog w = .ok (.enter 116 args) w := enters_of Try.func116 (by kernel_rfl) rfl
  obtain ⟨w1, hw1⟩ : ∃ w1, w1 = (w.alloc (.cells #[.slice A ms.length c] 65)).alloc (.cells #[.slice A2 S.length c2] 28) := ⟨_, rfl⟩
  have hBB : Below w.heap.size w w1 := by rw [hw1]; exact ((Below.refl _ _).alloc (Nat.le_refl _) _).alloc (by first | (simp; done) | (simp; omega) | omega) _
  have hcon := kept_any _ _ _ eg S A2 c2 w1 (keep_first ms A c S A2 c2 (w.heap.size + 1) w.heap.size w1 (h.below hBB) hv hS (hI.below hBB) hn (by rw [hw1]; simp) (by rw [hw1]; exact (by first | (simp; done) | (simp; omega) | omega)) (by rw [hw1]; simp) (by rw [hw1]; simp)) (hI.below hBB) hn
  rw [hw1] at hcon
  have HQ := Lib.hid hcon
  have HBB := Lib.hid hBB
  clear hcon hBB eg h hv hS hI
  go_enter Try.func100, Try.ntmps100
  go_wp2_with (go_at_call 97; refine HQ.out.mono ?_; rintro e w2 ⟨A2, c2, ys, rfl, hO2, hB2, hy⟩)
  go_ret
  exact ⟨A2, c2, ys, rfl, hO2, Below.trans (by repeat (first | with_reducible exact Below.refl _ _ | with_reducible assumption | refine below_drewN ?_ _ | with_reducible refine Below.drew ?_ | (refine Below.setCell ?_ (by first | (simp; done) | (simp; omega) | omega) _) | (refine Below.alloc ?_ (by first | (simp; done) | (simp; omega) | omega) _))) (hB2.mono (by first | (simp; done) | (simp; omega) | omega)), hy⟩

set_option maxRecDepth 100000 in
theorem first_any (ms : List (Int × Int)) (A : Option Addr) (c : Nat) (w : World) (h : Marks w A ms) (hv : vhB ms = true) :
    Calls Try.prog 66 #[.slice A ms.length c] w fun e w' => ∃ (A' : Option Addr) (c' : Nat) (ys : List Int), e = .returned (.slice A' ys.length c') ∧ Out w' A' c' ys ∧ Below w.heap.size w w' ∧ Hid (ys = firstL ms) := by
  have hn := (vh_parts hv).2
  have H := Lib.hid (And.intro h hv)
  have HL := Lib.hid (allL_len ms.length)
  clear h hv
  go_enter Try.func66, Try.ntmps66
  go_wp2_with fail
  refine (all_any ms.length A c _ (by omega)).mono ?_
  rintro e w1 ⟨A1, c1, rfl, hO1, hB1⟩
  have hcon := firstOf_any ms A c (allL ms.length) A1 c1 w1 (H.out.1.below hB1) H.out.2 (fun b hb => allL_has hb) hO1.ints (by rw [HL.out]; omega)
  rw [HL.out] at hcon
  have HQ := Lib.hid hcon
  have HO := Lib.hid hO1
  clear hcon hO1
  go_wp2_with (go_at_call 100; refine HQ.out.mono ?_; rintro e w2 ⟨A2, c2, ys, rfl, hO2, hB2, hy⟩)
  go_ret
  exact ⟨A2, c2, ys, rfl, hO2, below_step hB1 hB2, hy⟩

def hitsE (ms : List (Int × Int)) : Int := if vhB ms then 0 else 20
def firstF (ms : List (Int × Int)) : List Int := if vhB ms then firstL ms else []
theorem hitsE_yes {ms : List (Int × Int)} (h : vhB ms = true) : hitsE ms = 0 := by simp [hitsE, h]
theorem hitsE_no {ms : List (Int × Int)} (h : vhB ms = false) : hitsE ms = 20 := by simp [hitsE, h]

set_option maxRecDepth 100000 in
theorem toldFirst_any (ms : List (Int × Int)) (A : Option Addr) (c : Nat) (w : World) (h : Clk w A c ms) :
    Calls Try.prog 65 #[.slice A ms.length c, .func (Fn.func 66) #[.slice A ms.length c] #[]] w fun e w' => ∃ (A' : Option Addr) (c' : Nat) (ys : List Int) (E : Int), e = .returned (.tuple #[.slice A' ys.length c', .int .i64 E]) ∧ Out w' A' c' ys ∧ Below w.heap.size w w' ∧ Hid (ys = firstF ms ∧ E = hitsE ms) := by
  have H := Lib.hid h
  clear h
  cases hv : vhB ms with
  | true =>
    have HV := Lib.hid hv
    clear hv
    go_enter Try.func65, Try.ntmps65
    go_wp2_with (first
      | (go_at_call 21; refine (valid_any ms A c _ H.out.marks H.out.len).mono ?_; rintro e w1 ⟨he, hB1⟩; rw [HV.out] at he; subst he)
      | (go_at_call 66; refine (first_any ms A c _ (H.out.marks.below hB1) HV.out).mono ?_; rintro e w2 ⟨A2, c2, ys, rfl, hO2, hB2, hy⟩))
    go_ret2
    exact ⟨A2, c2, ys, _, rfl, hO2, below_step hB1 hB2, by rw [hy.out, firstF, HV.out]; rfl, (hitsE_yes HV.out).symm⟩
  | false =>
    have HV := Lib.hid hv
    clear hv
    go_enter Try.func65, Try.ntmps65
    go_wp2_with (go_at_call 21; refine (valid_any ms A c _ H.out.marks H.out.len).mono ?_; rintro e w1 ⟨he, hB1⟩; rw [HV.out] at he; subst he)
    go_ret2
    exact ⟨none, 0, [], _, rfl, Out.nil_, hB1, by rw [firstF, HV.out]; rfl, (hitsE_no HV.out).symm⟩
set_option maxRecDepth 100000 in
theorem coneFirst_any (ms : List (Int × Int)) (A : Option Addr) (c : Nat) (w : World) (h : Clk w A c ms) :
    Calls Try.prog 24 #[.slice A ms.length c] w fun e w' => ∃ (A' : Option Addr) (c' : Nat) (ys : List Int) (E : Int), e = .returned (.tuple #[.slice A' ys.length c', .int .i64 E]) ∧ Out w' A' c' ys ∧ Below w.heap.size w w' ∧ Hid (ys = firstF ms ∧ E = hitsE ms) := by
  have H := Lib.hid h
  clear h
  go_enter Try.func24, Try.ntmps24
  go_wp2_with (go_at_call 65; refine (toldFirst_any ms A c _ H.out).mono ?_; rintro e w2 ⟨A2, c2, ys, E, rfl, hO2, hB2, hy⟩)
  go_ret2
  exact ⟨A2, c2, ys, E, rfl, hO2, hB2, hy⟩
end Go.Proofs.Ytmlkdjcjfkfdiaa
