/-
  Contracts: has, before, know (cone); isHit, before (firnref02); both Before.
-/
import Derived.Test.YtmlkdjcjfkfdiaaRefValid
namespace Go.Proofs.Ytmlkdjcjfkfdiaa
open Go.RowKit

/-- A hit's index. -/
def hasB (ms : List (Int × Int)) (a : Int) : Bool := decide (0 ≤ a ∧ a < ms.length)
theorem has_nat {ms : List (Int × Int)} {a : Int} (h : hasB ms a = true) : ∃ k : Nat, a = k ∧ k < ms.length := by
  simp [hasB] at h
  exact ⟨a.toNat, by omega, by omega⟩
theorem has_any (ms : List (Int × Int)) (A : Option Addr) (c : Nat) (a : Int) (w : World) :
    Calls Try.prog 58 #[.slice A ms.length c, .int .i64 a] w fun e w' => e = .returned (.bool (hasB ms a)) ∧ w = w' := by
  go_enter Try.func58, Try.ntmps58
  go_wp2
  all_goals
    go_ret
    exact ⟨ret_bool (by simp [hasB]; try omega), rfl⟩
theorem isHit_any (ms : List (Int × Int)) (A : Option Addr) (c : Nat) (a : Int) (w : World) (hl : ms.length ≤ maxLen) :
    Calls Try.prog 60 #[.slice A ms.length c, .int .i64 a] w fun e w' => e = .returned (.bool (hasB ms a)) ∧ w = w' := by
  unfold maxLen at hl
  go_enter Try.func60, Try.ntmps60
  go_wp2_with (go_at_call 64; refine (refWithin_any _ _ _ _).mono ?_; rintro e w' ⟨rfl, rfl⟩)
  go_ret
  exact ⟨ret_bool (by rw [Bool.eq_iff_iff]; simp [hasB, wiB]; try omega), rfl⟩

set_option maxRecDepth 100000 in
set_option maxHeartbeats 400000 in
theorem beforeN (ms : List (Int × Int)) (A : Option Addr) (c : Nat) (i j : Nat) (w : World) (h : Marks w A ms) (hv : vhB ms = true) (hi : i < ms.length) (hj : j < ms.length) :
    Calls Try.prog 59 #[.slice A ms.length c, .int .i64 i, .int .i64 j] w fun e w' => e = .returned (.bool (befI ms i j)) ∧ ∃ n, w' = w.drewN n := by
  obtain ⟨hn1, hn2⟩ := vh_parts hv
  obtain ⟨bl, off, rfl, hbk, hc⟩ := h.open_ (by omega)
  obtain ⟨a, b, hx⟩ := getM_of_lt hi
  obtain ⟨p, q, hy⟩ := getM_of_lt hj
  have c0 := (hc _ _ hx).1
  have c1 := (hc _ _ hx).2
  have c2 := (hc _ _ hy).1
  have c3 := (hc _ _ hy).2
  obtain ⟨⟨a0, a1⟩, b0, b1⟩ := vh_at hv hx
  obtain ⟨⟨p0, p1⟩, q0, q1⟩ := vh_at hv hy
  simp only at a0 a1 b0 b1 p0 p1 q0 q1
  have F : Hid (befI ms i j = bef (a, b) (p, q)) := by show _ = _; rw [befI, hAt_of hx, hAt_of hy]
  clear hx hy hc h
  have HV := Lib.hid hv
  clear hv
  go_enter Try.func59, Try.ntmps59
  go_wp2
  go_quiet (fail)
  go_wp2
  go_quiet (fail)
  go_wp2
  all_goals
    go_ret
    exact ⟨ret_bool (by rw [F.out, Bool.eq_iff_iff]; simp [bef]; try omega), _, (by first | rfl | exact World.drewN_drewN _ _ _)⟩
theorem before_any (ms : List (Int × Int)) (A : Option Addr) (c : Nat) (a b : Int) (w : World) (h : Marks w A ms) (hv : vhB ms = true) (ha : hasB ms a = true) (hb : hasB ms b = true) :
    Calls Try.prog 59 #[.slice A ms.length c, .int .i64 a, .int .i64 b] w fun e w' => e = .returned (.bool (befI ms a b)) ∧ ∃ n, w' = w.drewN n := by
  obtain ⟨i, rfl, hi⟩ := has_nat ha
  obtain ⟨j, rfl, hj⟩ := has_nat hb
  exact beforeN ms A c i j w h hv hi hj

set_option maxRecDepth 100000 in
set_option maxHeartbeats 400000 in
theorem refBeforeN (ms : List (Int × Int)) (A : Option Addr) (c : Nat) (i j : Nat) (w : World) (h : Marks w A ms) (hv : vhB ms = true) (hi : i < ms.length) (hj : j < ms.length) :
    Calls Try.prog 61 #[.slice A ms.length c, .int .i64 i, .int .i64 j] w fun e w' => e = .returned (.bool (befI ms i j)) ∧ ∃ n, w' = w.drewN n := by
  obtain ⟨hn1, hn2⟩ := vh_parts hv
  obtain ⟨bl, off, rfl, hbk, hc⟩ := h.open_ (by omega)
  obtain ⟨a, b, hx⟩ := getM_of_lt hi
  obtain ⟨p, q, hy⟩ := getM_of_lt hj
  have c0 := (hc _ _ hx).1
  have c1 := (hc _ _ hx).2
  have c2 := (hc _ _ hy).1
  have c3 := (hc _ _ hy).2
  obtain ⟨⟨a0, a1⟩, b0, b1⟩ := vh_at hv hx
  obtain ⟨⟨p0, p1⟩, q0, q1⟩ := vh_at hv hy
  simp only at a0 a1 b0 b1 p0 p1 q0 q1
  have F : Hid (befI ms i j = bef (a, b) (p, q)) := by show _ = _; rw [befI, hAt_of hx, hAt_of hy]
  clear hx hy hc h
  have HV := Lib.hid hv
  clear hv
  go_enter Try.func61, Try.ntmps61
  go_wp2
  go_quiet (fail)
  go_wp2
  go_quiet (fail)
  go_wp2
  all_goals
    go_ret
    exact ⟨ret_bool (by rw [F.out, Bool.eq_iff_iff]; simp [bef]; try omega), _, (by first | rfl | exact World.drewN_drewN _ _ _)⟩
theorem refBefore_any (ms : List (Int × Int)) (A : Option Addr) (c : Nat) (a b : Int) (w : World) (h : Marks w A ms) (hv : vhB ms = true) (ha : hasB ms a = true) (hb : hasB ms b = true) :
    Calls Try.prog 61 #[.slice A ms.length c, .int .i64 a, .int .i64 b] w fun e w' => e = .returned (.bool (befI ms a b)) ∧ ∃ n, w' = w.drewN n := by
  obtain ⟨i, rfl, hi⟩ := has_nat ha
  obtain ⟨j, rfl, hj⟩ := has_nat hb
  exact refBeforeN ms A c i j w h hv hi hj

set_option maxRecDepth 100000 in
theorem know_any (ms : List (Int × Int)) (A : Option Addr) (c : Nat) (a b : Int) (w : World) (h : Marks w A ms) (hv : vhB ms = true) (ha : hasB ms a = true) (hb : hasB ms b = true) :
    Calls Try.prog 111 #[.slice A ms.length c, .int .i64 a, .int .i64 b] w fun e w' => e = .returned (.bool (knowI ms a b)) ∧ ∃ n, w' = w.drewN n := by
  have H := Lib.hid (And.intro h (And.intro hv (And.intro ha hb)))
  clear h hv ha hb
  cases hk : befI ms a b with
  | true =>
    go_enter Try.func111, Try.ntmps111
    go_wp2_with (go_at_call 59; refine (before_any ms A c a b _ H.out.1 H.out.2.1 H.out.2.2.1 H.out.2.2.2).mono ?_; rintro e w' ⟨rfl, n, rfl⟩)
    go_ret
    exact ⟨ret_bool (by simp [knowI, hk]), _, rfl⟩
  | false =>
    have K := Lib.hid hk
    have TA : Hid True := Lib.hid trivial
    go_enter Try.func111, Try.ntmps111
    go_wp2_with (first
      | (go_at_call 59; clear TA; refine (before_any ms A c a b _ H.out.1 H.out.2.1 H.out.2.2.1 H.out.2.2.2).mono ?_; rintro e w' ⟨he, n, rfl⟩; rw [K.out] at he; subst he)
      | (go_at_call 59; refine (before_any ms A c b a _ (H.out.1.drewN n) H.out.2.1 H.out.2.2.2 H.out.2.2.1).mono ?_; rintro e w' ⟨rfl, n2, rfl⟩))
    go_ret
    exact ⟨ret_bool (by simp [knowI, K.out]), _, (by first | rfl | exact World.drewN_drewN _ _ _)⟩
end Go.Proofs.Ytmlkdjcjfkfdiaa
