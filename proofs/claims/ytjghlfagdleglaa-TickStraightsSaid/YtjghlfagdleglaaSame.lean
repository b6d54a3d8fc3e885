/-
  Contracts: Same (tick), Same (firnref01).
-/
import Derived.Test.YtjghlfagdleglaaMore
namespace Go.Proofs.Ytjghlfagdleglaa
open Go.RowKit

def eqT (ms ns : List (Int × Int)) (x : Int) : Bool := tN ms x == tN ns x && tD ms x == tD ns x
def sameV (ms ns : List (Int × Int)) : Bool := if vkB ms && vkB ns then (cornersL ms ns 0 100000).all (eqT ms ns) else false
def refTimes (ms ns : List (Int × Int)) : List Int := ([-1, 100001] : List Int) ++ ms.map Prod.fst ++ ns.map Prod.fst
def sameR (ms ns : List (Int × Int)) : Bool := if vkB ms && vkB ns then (refTimes ms ns).all (eqT ms ns) else false
def twoE (ms ns : List (Int × Int)) : Int := if vkB ms && vkB ns then 0 else 11
theorem timeAt2_any (ms : List (Int × Int)) (A : Option Addr) (c : Nat) (x : Int) (w : World) (h : Clk w A c ms) (hv : vkB ms = true) (hx0 : 0 ≤ x) (hx1 : x ≤ 100000) :
    Calls Try.prog 60 #[.slice A ms.length c, .int .i64 x] w fun e w' => e = .returned (.agg #[.int .i64 (tN ms x), .int .i64 (tD ms x)]) ∧ Below w.heap.size w w' := by
  refine (timeAt_any ms A c x w h hv hx0 hx1).mono ?_
  rintro e w' ⟨n, d, rfl, hB, hF⟩
  refine ⟨?_, hB⟩
  rw [hF.out.1, hF.out.2]; rfl
theorem refat2_any (ms : List (Int × Int)) (A : Option Addr) (c : Nat) (x : Int) (w : World) (h : Clk w A c ms) (hv : vkB ms = true) (hx0 : -1 ≤ x) (hx1 : x ≤ 100001) :
    Calls Try.prog 62 #[.slice A ms.length c, .int .i64 x] w fun e w' => e = .returned (.agg #[.int .i64 (tN ms x), .int .i64 (tD ms x)]) ∧ Below w.heap.size w w' := by
  refine (refat_any ms A c x w h hv hx0 hx1).mono ?_
  rintro e w' ⟨n, d, rfl, hB, hF⟩
  refine ⟨?_, hB⟩
  rw [hF.out.1, hF.out.2]; rfl
theorem corner_mem {ms ns : List (Int × Int)} {a b x : Int} : x ∈ cornersL ms ns a b ↔ x = a ∨ x = b ∨ ((a < x ∧ x < b) ∧ ∃ m, m ∈ ms ++ ns ∧ m.1 = x) := by
  rw [cornersL, List.mem_mergeSort, cornersU]
  simp only [List.mem_cons, List.mem_filter, cornIn, Bool.and_eq_true, decide_eq_true_eq, List.mem_map]
  constructor
  · rintro (h | h | ⟨h1, h2⟩)
    · exact .inl h
    · exact .inr (.inl h)
    · exact .inr (.inr ⟨h2, h1⟩)
  · rintro (h | h | ⟨h1, h2⟩)
    · exact .inl h
    · exact .inr (.inl h)
    · exact .inr (.inr ⟨h2, h1⟩)
theorem corner_in {ms ns : List (Int × Int)} {a b x : Int} (hab : a ≤ b) (h : x ∈ cornersL ms ns a b) : a ≤ x ∧ x ≤ b := by
  rcases corner_mem.1 h with rfl | rfl | ⟨h, _⟩ <;> omega
theorem take_all {L : List Int} {p : Int → Bool} {k : Nat} {x : Int} (h : (L.take k).all p = true) (hx : L[k]? = some x) (hp : p x = true) : (L.take (k + 1)).all p = true := by
  rw [take_snoc hx, List.all_append, h]; simp [hp]
theorem all_no {L : List Int} {p : Int → Bool} {k : Nat} {x : Int} (hx : L[k]? = some x) (hp : p x = false) : L.all p = false := by
  rw [List.all_eq_false]
  exact ⟨x, List.mem_of_getElem? hx, by simp [hp]⟩

set_option maxRecDepth 100000 in
set_option maxHeartbeats 1600000 in
theorem same_any (ms ns : List (Int × Int)) (A B : Option Addr) (c d : Nat) (w : World) (hA : Clk w A c ms) (hB : Clk w B d ns) :
    Calls Try.prog 49 #[.slice A ms.length c, .slice B ns.length d] w fun e w' => e = .returned (.tuple #[.bool (sameV ms ns), .int .i64 (twoE ms ns)]) ∧ Below w.heap.size w w' := by
  have HA := Lib.hid hA
  have HB := Lib.hid hB
  clear hA hB
  by_cases hv : vkB ms = true
  · have HV := Lib.hid hv
    clear hv
    by_cases hv' : vkB ns = true
    · have HV' := Lib.hid hv'
      clear hv'
      go_enter Try.func49, Try.ntmps49
      have TA : Hid True := Lib.hid trivial
      go_wp2_with (first
        | (go_at_call 32; have hstop := hB1; refine (validClock_any ns _ _ _ (HB.out.below hB1).marks HB.out.len).mono ?_; rintro e w2 ⟨he, hB2⟩; rw [HV'.out] at he; subst he; have hW2 := hB1.trans (hB2.mono hB1.size))
        | (clear TA; go_at_call 32; refine (validClock_any ms _ _ _ (HA.out.below (by exact (by repeat (first | with_reducible exact Below.refl _ _ | with_reducible assumption | refine below_drewN ?_ _ | with_reducible refine Below.drew ?_ | (refine Below.setCell ?_ (by first | (simp; done) | (simp; omega) | omega) _) | (refine Below.alloc ?_ (by first | (simp; done) | (simp; omega) | omega) _))))).marks HA.out.len).mono ?_; rintro e w1 ⟨he, hB1⟩; rw [HV.out] at he; subst he))
      refine (corners_any ms ns A B c d 0 100000 _ (HA.out.below hW2) (HB.out.below hW2) HV.out HV'.out).mono ?_
      rintro e w3 ⟨A3, c3, xs, rfl, hC3, hB3, hxs, _⟩
      have hW3 := hW2.trans (hB3.mono hW2.size)
      have H3 := Lib.hid hC3
      clear hC3 hB1 hB2 hW2 hB3
      have hlb := hW3.size
      have hcl : xs.length ≤ maxLen := Nat.le_trans H3.out.le H3.out.cap
      unfold maxLen at hcl
      go_wp2_with fail
      go_loopw [20] (fun i wr => ∃ k : Nat, k ≤ xs.length ∧ i = .int .i64 k ∧ Below w3.heap.size w3 wr ∧ Hid ((xs.take k).all (eqT ms ns) = true)) (fun i _ => xs.length - (intOf i).toNat)
      case atStart => exact ⟨0, Nat.zero_le _, rfl, Below.refl _ _, rfl⟩
      case round =>
        obtain ⟨k, hk, rfl, hBw, hall⟩ := hrel
        have hz := hBw.size
        have hW := hW3.trans (hBw.mono hlb)
        by_cases hlt : k < xs.length
        · obtain ⟨b1, o1, rfl, hb1, hcells⟩ := H3.out.ints.open_ (by omega)
          obtain ⟨x, hx⟩ : ∃ x, xs[k]? = some x := ⟨_, List.getElem?_eq_getElem hlt⟩
          have f0 := (hBw.cell (p := ⟨b1, o1 + k, none⟩) hb1).trans (hcells k x hx)
          have hin := corner_in (ms := ms) (ns := ns) (a := 0) (b := 100000) (by omega) (by rw [← hxs.out]; exact List.mem_of_getElem? hx)
          have HX := Lib.hid hx
          clear hx hcells
          have TA : Hid True := Lib.hid trivial
          cases he : eqT ms ns x
          · have fin : Hid (false = sameV ms ns ∧ 0 = twoE ms ns) := by
              refine ⟨?_, by simp [twoE, HV.out, HV'.out]⟩
              rw [sameV, HV.out, HV'.out, ← hxs.out]
              exact (all_no HX.out he).symm
            by_cases h1 : tN ms x = tN ns x
            · have t1 : (tN ms x == tN ns x) = true := by simpa using h1
              have t2 : (tD ms x == tD ns x) = false := by simpa [eqT, t1] using he
              clear he h1
              go_wp2_with (first
                | (go_at_call 60; have hstop := hB4; refine (timeAt2_any ns _ _ x _ (HB.out.below (hW.trans (hB4.mono (by omega)))) HV'.out (by omega) (by omega)).mono ?_; rintro e w5 ⟨rfl, hB5⟩; have z4 := hB4.size)
                | (clear TA; go_at_call 60; refine (timeAt2_any ms _ _ x _ (HA.out.below hW) HV.out (by omega) (by omega)).mono ?_; rintro e w4 ⟨rfl, hB4⟩))
              go_ret2
              exact ⟨by rw [← fin.out.1, ← fin.out.2]; rfl, hW.trans ((hB4.mono (by omega)).trans (hB5.mono (by omega)))⟩
            · have t1 : (tN ms x == tN ns x) = false := by simpa using h1
              clear he h1
              go_wp2_with (first
                | (go_at_call 60; have hstop := hB4; refine (timeAt2_any ns _ _ x _ (HB.out.below (hW.trans (hB4.mono (by omega)))) HV'.out (by omega) (by omega)).mono ?_; rintro e w5 ⟨rfl, hB5⟩; have z4 := hB4.size)
                | (clear TA; go_at_call 60; refine (timeAt2_any ms _ _ x _ (HA.out.below hW) HV.out (by omega) (by omega)).mono ?_; rintro e w4 ⟨rfl, hB4⟩))
              go_ret2
              exact ⟨by rw [← fin.out.1, ← fin.out.2]; rfl, hW.trans ((hB4.mono (by omega)).trans (hB5.mono (by omega)))⟩
          · have HE := Lib.hid he
            obtain ⟨t1, t2⟩ : (tN ms x == tN ns x) = true ∧ (tD ms x == tD ns x) = true := by simpa [eqT] using he
            clear he
            go_wp2_with (first
              | (go_at_call 60; have hstop := hB4; refine (timeAt2_any ns _ _ x _ (HB.out.below (hW.trans (hB4.mono (by omega)))) HV'.out (by omega) (by omega)).mono ?_; rintro e w5 ⟨rfl, hB5⟩; have z4 := hB4.size)
              | (clear TA; go_at_call 60; refine (timeAt2_any ms _ _ x _ (HA.out.below hW) HV.out (by omega) (by omega)).mono ?_; rintro e w4 ⟨rfl, hB4⟩))
            go_roundw
            case rel => exact ⟨k + 1, by omega, by go_num, hBw.trans ((hB4.mono (by omega)).trans (hB5.mono (by omega))), take_all hall.out HX.out HE.out⟩
            case measure => simp [intOf]; omega
        · obtain rfl : k = xs.length := by omega
          go_wp2
          go_ret2
          refine ⟨?_, hW⟩
          have := hall.out
          rw [List.take_length, hxs.out] at this
          rw [sameV, twoE, HV.out, HV'.out, this]; rfl
    · have hv2 : vkB ns = false := by simpa using hv'
      go_enter Try.func49, Try.ntmps49
      have TA : Hid True := Lib.hid trivial
      go_wp2_with (first
        | (go_at_call 32; have hstop := hB1; refine (validClock_any ns _ _ _ (HB.out.below hB1).marks HB.out.len).mono ?_; rintro e w2 ⟨he, hB2⟩; rw [hv2] at he; subst he; have hW2 := hB1.trans (hB2.mono hB1.size))
        | (clear TA; go_at_call 32; refine (validClock_any ms _ _ _ (HA.out.below (by exact (by repeat (first | with_reducible exact Below.refl _ _ | with_reducible assumption | refine below_drewN ?_ _ | with_reducible refine Below.drew ?_ | (refine Below.setCell ?_ (by first | (simp; done) | (simp; omega) | omega) _) | (refine Below.alloc ?_ (by first | (simp; done) | (simp; omega) | omega) _))))).marks HA.out.len).mono ?_; rintro e w1 ⟨he, hB1⟩; rw [HV.out] at he; subst he))
      go_ret2
      exact ⟨by simp [sameV, twoE, hv2], hW2⟩
  · have hv2 : vkB ms = false := by simpa using hv
    go_enter Try.func49, Try.ntmps49
    go_wp2_with (go_at_call 32; refine (validClock_any ms _ _ _ (HA.out.below (by exact (by repeat (first | with_reducible exact Below.refl _ _ | with_reducible assumption | refine below_drewN ?_ _ | with_reducible refine Below.drew ?_ | (refine Below.setCell ?_ (by first | (simp; done) | (simp; omega) | omega) _) | (refine Below.alloc ?_ (by first | (simp; done) | (simp; omega) | omega) _))))).marks HA.out.len).mono ?_; rintro e w1 ⟨he, hB1⟩; rw [hv2] at he; subst he)
    go_ret2
    exact ⟨by simp [sameV, twoE, hv2], hB1⟩
end Go.Proofs.Ytjghlfagdleglaa
