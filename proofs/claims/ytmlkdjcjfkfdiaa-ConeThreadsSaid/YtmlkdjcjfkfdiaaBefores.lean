/-
  Contracts: both Before, both Past (cone, firnref02).
-/
import Derived.Test.YtmlkdjcjfkfdiaaJoined
namespace Go.Proofs.Ytmlkdjcjfkfdiaa
open Go.RowKit Go.Shelf

def beforeF (ms : List (Int × Int)) (a b : Int) : Bool := vhB ms && (hasB ms a && (hasB ms b && befI ms a b))
def beforeE (ms : List (Int × Int)) (a b : Int) : Int := if vhB ms then (if hasB ms a && hasB ms b then 0 else 2) else 20
def pastF (ms : List (Int × Int)) (a : Int) : List Int := if vhB ms && hasB ms a then pastL ms a else []
def pastE (ms : List (Int × Int)) (a : Int) : Int := if vhB ms then (if hasB ms a then 0 else 2) else 20

set_option maxRecDepth 100000 in
theorem coneBefore_any (ms : List (Int × Int)) (A : Option Addr) (c : Nat) (a b : Int) (w : World) (h : Clk w A c ms) :
    Calls Try.prog 17 #[.slice A ms.length c, .int .i64 a, .int .i64 b] w fun e w' => ∃ (x : Bool) (E : Int), e = .returned (.tuple #[.bool x, .int .i64 E]) ∧ Below w.heap.size w w' ∧ Hid (x = beforeF ms a b ∧ E = beforeE ms a b) := by
  have H := Lib.hid h
  have TA : Hid True := Lib.hid trivial
  clear h
  cases hv : vhB ms with
  | true =>
    have HV := Lib.hid hv
    clear hv
    cases ha : hasB ms a with
    | true =>
      have HA := Lib.hid ha
      clear ha
      cases hb : hasB ms b with
      | true =>
        have HB := Lib.hid hb
        clear hb
        go_enter Try.func17, Try.ntmps17
        go_wp2_with (first
          | (go_at_call 21; refine (valid_any ms A c _ H.out.marks H.out.len).mono ?_; rintro e w1 ⟨he, hB1⟩; rw [HV.out] at he; subst he)
          | (go_at_call 58; clear TA; refine (has_any ms A c a _).mono ?_; rintro e w' ⟨he, rfl⟩; rw [HA.out] at he; subst he)
          | (go_at_call 58; refine (has_any ms A c b _).mono ?_; rintro e w' ⟨he, rfl⟩; rw [HB.out] at he; subst he)
          | (go_at_call 59; refine (before_any ms A c a b _ (H.out.marks.below hB1) HV.out HA.out HB.out).mono ?_; rintro e w2 ⟨rfl, n, rfl⟩))
        go_ret2
        exact ⟨_, _, rfl, below_drewN hB1 n, by simp [beforeF, HV.out, HA.out, HB.out], by simp [beforeE, HV.out, HA.out, HB.out]⟩
      | false =>
        have HB := Lib.hid hb
        clear hb
        go_enter Try.func17, Try.ntmps17
        go_wp2_with (first
          | (go_at_call 21; refine (valid_any ms A c _ H.out.marks H.out.len).mono ?_; rintro e w1 ⟨he, hB1⟩; rw [HV.out] at he; subst he)
          | (go_at_call 58; clear TA; refine (has_any ms A c a _).mono ?_; rintro e w' ⟨he, rfl⟩; rw [HA.out] at he; subst he)
          | (go_at_call 58; refine (has_any ms A c b _).mono ?_; rintro e w' ⟨he, rfl⟩; rw [HB.out] at he; subst he))
        go_ret2
        exact ⟨_, _, rfl, hB1, by simp [beforeF, HB.out], by simp [beforeE, HV.out, HB.out]⟩
    | false =>
      have HA := Lib.hid ha
      clear ha
      go_enter Try.func17, Try.ntmps17
      go_wp2_with (first
        | (go_at_call 21; refine (valid_any ms A c _ H.out.marks H.out.len).mono ?_; rintro e w1 ⟨he, hB1⟩; rw [HV.out] at he; subst he)
        | (go_at_call 58; clear TA; refine (has_any ms A c a _).mono ?_; rintro e w' ⟨he, rfl⟩; rw [HA.out] at he; subst he))
      go_ret2
      exact ⟨_, _, rfl, hB1, by simp [beforeF, HA.out], by simp [beforeE, HV.out, HA.out]⟩
  | false =>
    have HV := Lib.hid hv
    clear hv
    go_enter Try.func17, Try.ntmps17
    go_wp2_with (go_at_call 21; refine (valid_any ms A c _ H.out.marks H.out.len).mono ?_; rintro e w1 ⟨he, hB1⟩; rw [HV.out] at he; subst he)
    go_ret2
    exact ⟨_, _, rfl, hB1, by simp [beforeF, HV.out], by simp [beforeE, HV.out]⟩

set_option maxRecDepth 100000 in
theorem refConeBefore_any (ms : List (Int × Int)) (A : Option Addr) (c : Nat) (a b : Int) (w : World) (h : Clk w A c ms) :
    Calls Try.prog 18 #[.slice A ms.length c, .int .i64 a, .int .i64 b] w fun e w' => ∃ (x : Bool) (E : Int), e = .returned (.tuple #[.bool x, .int .i64 E]) ∧ Below w.heap.size w w' ∧ Hid (x = beforeF ms a b ∧ E = beforeE ms a b) := by
  have H := Lib.hid h
  have TA : Hid True := Lib.hid trivial
  clear h
  cases hv : vhB ms with
  | true =>
    have HV := Lib.hid hv
    clear hv
    cases ha : hasB ms a with
    | true =>
      have HA := Lib.hid ha
      clear ha
      cases hb : hasB ms b with
      | true =>
        have HB := Lib.hid hb
        clear hb
        go_enter Try.func18, Try.ntmps18
        go_wp2_with (first
          | (go_at_call 22; refine (refValid_any ms A c _ H.out.marks H.out.len).mono ?_; rintro e w1 ⟨he, n1, rfl⟩; rw [HV.out] at he; subst he)
          | (go_at_call 60; clear TA; refine (isHit_any ms A c a _ H.out.len).mono ?_; rintro e w' ⟨he, rfl⟩; rw [HA.out] at he; subst he)
          | (go_at_call 60; refine (isHit_any ms A c b _ H.out.len).mono ?_; rintro e w' ⟨he, rfl⟩; rw [HB.out] at he; subst he)
          | (go_at_call 61; refine (refBefore_any ms A c a b _ (H.out.marks.drewN n1) HV.out HA.out HB.out).mono ?_; rintro e w2 ⟨rfl, n, rfl⟩))
        go_ret2
        exact ⟨_, _, rfl, (by repeat (first | with_reducible exact Below.refl _ _ | with_reducible assumption | refine below_drewN ?_ _ | with_reducible refine Below.drew ?_ | (refine Below.setCell ?_ (by first | (simp; done) | (simp; omega) | omega) _) | (refine Below.alloc ?_ (by first | (simp; done) | (simp; omega) | omega) _))), by simp [beforeF, HV.out, HA.out, HB.out], by simp [beforeE, HV.out, HA.out, HB.out]⟩
      | false =>
        have HB := Lib.hid hb
        clear hb
        go_enter Try.func18, Try.ntmps18
        go_wp2_with (first
          | (go_at_call 22; refine (refValid_any ms A c _ H.out.marks H.out.len).mono ?_; rintro e w1 ⟨he, n1, rfl⟩; rw [HV.out] at he; subst he)
          | (go_at_call 60; clear TA; refine (isHit_any ms A c a _ H.out.len).mono ?_; rintro e w' ⟨he, rfl⟩; rw [HA.out] at he; subst he)
          | (go_at_call 60; refine (isHit_any ms A c b _ H.out.len).mono ?_; rintro e w' ⟨he, rfl⟩; rw [HB.out] at he; subst he))
        go_ret2
        exact ⟨_, _, rfl, (by repeat (first | with_reducible exact Below.refl _ _ | with_reducible assumption | refine below_drewN ?_ _ | with_reducible refine Below.drew ?_ | (refine Below.setCell ?_ (by first | (simp; done) | (simp; omega) | omega) _) | (refine Below.alloc ?_ (by first | (simp; done) | (simp; omega) | omega) _))), by simp [beforeF, HB.out], by simp [beforeE, HV.out, HB.out]⟩
    | false =>
      have HA := Lib.hid ha
      clear ha
      go_enter Try.func18, Try.ntmps18
      go_wp2_with (first
        | (go_at_call 22; refine (refValid_any ms A c _ H.out.marks H.out.len).mono ?_; rintro e w1 ⟨he, n1, rfl⟩; rw [HV.out] at he; subst he)
        | (go_at_call 60; clear TA; refine (isHit_any ms A c a _ H.out.len).mono ?_; rintro e w' ⟨he, rfl⟩; rw [HA.out] at he; subst he))
      go_ret2
      exact ⟨_, _, rfl, (by repeat (first | with_reducible exact Below.refl _ _ | with_reducible assumption | refine below_drewN ?_ _ | with_reducible refine Below.drew ?_ | (refine Below.setCell ?_ (by first | (simp; done) | (simp; omega) | omega) _) | (refine Below.alloc ?_ (by first | (simp; done) | (simp; omega) | omega) _))), by simp [beforeF, HA.out], by simp [beforeE, HV.out, HA.out]⟩
  | false =>
    have HV := Lib.hid hv
    clear hv
    go_enter Try.func18, Try.ntmps18
    go_wp2_with (go_at_call 22; refine (refValid_any ms A c _ H.out.marks H.out.len).mono ?_; rintro e w1 ⟨he, n1, rfl⟩; rw [HV.out] at he; subst he)
    go_ret2
    exact ⟨_, _, rfl, (by repeat (first | with_reducible exact Below.refl _ _ | with_reducible assumption | refine below_drewN ?_ _ | with_reducible refine Below.drew ?_ | (refine Below.setCell ?_ (by first | (simp; done) | (simp; omega) | omega) _) | (refine Below.alloc ?_ (by first | (simp; done) | (simp; omega) | omega) _))), by simp [beforeF, HV.out], by simp [beforeE, HV.out]⟩

set_option maxRecDepth 100000 in
theorem conePast_any (ms : List (Int × Int)) (A : Option Addr) (c : Nat) (a : Int) (w : World) (h : Clk w A c ms) :
    Calls Try.prog 19 #[.slice A ms.length c, .int .i64 a] w fun e w' => ∃ (A' : Option Addr) (c' : Nat) (ys : List Int) (E : Int), e = .returned (.tuple #[.slice A' ys.length c', .int .i64 E]) ∧ Out w' A' c' ys ∧ Below w.heap.size w w' ∧ Hid (ys = pastF ms a ∧ E = pastE ms a) := by
  have H := Lib.hid h
  clear h
  cases hv : vhB ms with
  | true =>
    have HV := Lib.hid hv
    clear hv
    cases ha : hasB ms a with
    | true =>
      have HA := Lib.hid ha
      clear ha
      go_enter Try.func19, Try.ntmps19
      go_wp2_with (first
        | (go_at_call 21; refine (valid_any ms A c _ H.out.marks H.out.len).mono ?_; rintro e w1 ⟨he, hB1⟩; rw [HV.out] at he; subst he)
        | (go_at_call 58; refine (has_any ms A c a _).mono ?_; rintro e w' ⟨he, rfl⟩; rw [HA.out] at he; subst he)
        | (go_at_call 62; refine (past_any ms A c a _ (H.out.marks.below hB1) HV.out HA.out).mono ?_; rintro e w2 ⟨A2, c2, ys, rfl, hO2, hB2, hy⟩))
      go_ret2
      exact ⟨A2, c2, ys, _, rfl, hO2, below_step hB1 hB2, by rw [hy.out]; simp [pastF, HV.out, HA.out], by simp [pastE, HV.out, HA.out]⟩
    | false =>
      have HA := Lib.hid ha
      clear ha
      go_enter Try.func19, Try.ntmps19
      go_wp2_with (first
        | (go_at_call 21; refine (valid_any ms A c _ H.out.marks H.out.len).mono ?_; rintro e w1 ⟨he, hB1⟩; rw [HV.out] at he; subst he)
        | (go_at_call 58; refine (has_any ms A c a _).mono ?_; rintro e w' ⟨he, rfl⟩; rw [HA.out] at he; subst he))
      go_ret2
      exact ⟨none, 0, [], _, rfl, Out.nil_, hB1, by simp [pastF, HA.out], by simp [pastE, HV.out, HA.out]⟩
  | false =>
    have HV := Lib.hid hv
    clear hv
    go_enter Try.func19, Try.ntmps19
    go_wp2_with (go_at_call 21; refine (valid_any ms A c _ H.out.marks H.out.len).mono ?_; rintro e w1 ⟨he, hB1⟩; rw [HV.out] at he; subst he)
    go_ret2
    exact ⟨none, 0, [], _, rfl, Out.nil_, hB1, by simp [pastF, HV.out], by simp [pastE, HV.out]⟩

theorem past_take {ms : List (Int × Int)} {a : Int} {k : Nat} : (allL (k + 1)).filter (fun b => befI ms b a) = (allL k).filter (fun b => befI ms b a) ++ (if befI ms k a then [(k : Int)] else []) := by
  rw [allL_succ, List.filter_append]; cases h : befI ms (k : Int) a <;> simp [h]
set_option maxRecDepth 100000 in
set_option maxHeartbeats 800000 in
theorem refPast_any (ms : List (Int × Int)) (A : Option Addr) (c : Nat) (a : Int) (w : World) (h : Clk w A c ms) :
    Calls Try.prog 20 #[.slice A ms.length c, .int .i64 a] w fun e w' => ∃ (A' : Option Addr) (c' : Nat) (ys : List Int) (E : Int), e = .returned (.tuple #[.slice A' ys.length c', .int .i64 E]) ∧ Out w' A' c' ys ∧ Below w.heap.size w w' ∧ Hid (ys = pastF ms a ∧ E = pastE ms a) := by
  have H := Lib.hid h
  clear h
  cases hv : vhB ms with
  | true =>
    obtain ⟨hn1, hn2⟩ := vh_parts hv
    have HV := Lib.hid hv
    clear hv
    cases ha : hasB ms a with
    | true =>
      have HA := Lib.hid ha
      clear ha
      go_enter Try.func20, Try.ntmps20
      go_wp2_with (first
        | (go_at_call 22; refine (refValid_any ms A c _ H.out.marks H.out.len).mono ?_; rintro e w1 ⟨he, n1, rfl⟩; rw [HV.out] at he; subst he)
        | (go_at_call 60; refine (isHit_any ms A c a _ H.out.len).mono ?_; rintro e w' ⟨he, rfl⟩; rw [HA.out] at he; subst he))
      have hB1 : Below w.heap.size w (w.drewN n1) := below_drewN (Below.refl _ _) n1
      generalize w.drewN n1 = w1 at hB1 ⊢
      go_loopw [6, 7] (fun v i wr => ∃ k : Nat, k ≤ ms.length ∧ i = .int .i64 k ∧ (∃ ys : List Int, wr.ownsRow w.heap.size 3 1 v ys.length (ys.map (Value.int .i64)) ∧ ys.length ≤ k ∧ Hid (ys = (allL k).filter fun b => befI ms b a)) ∧ Below w.heap.size w wr) (fun _ i _ => ms.length - (intOf i).toNat)
      case atStart => exact ⟨0, Nat.zero_le _, rfl, ⟨[], World.ownsRow_nil _ _ _ _, Nat.le_refl _, rfl⟩, hB1⟩
      case round =>
        clear hB1
        obtain ⟨k, hk, rfl, ⟨ys, hown, hyk, hys⟩, hB⟩ := hrel
        by_cases hlt : k < ms.length
        · have HM := Lib.hid (H.out.marks.below hB)
          have HK := Lib.hid (show hasB ms (k : Int) = true by simp [hasB]; omega)
          have hz := hB.size
          cases hp : befI ms k a with
          | true =>
            have HP := Lib.hid hp
            clear hp
            go_wp2_with (first
              | (go_at_call 61; refine (refBefore_any ms A c k a _ HM.out HV.out HK.out HA.out).mono ?_; rintro e w2 ⟨he, n, rfl⟩; rw [HP.out] at he; subst he; have hown3 := World.ownsRow.alloc (show (wr.drewN n).ownsRow _ _ _ _ _ _ from hown) (.cells #[.int .i64 (k : Int)] 3))
              | (at_builtin; refine wp_app_int (wr.drewN n) rfl (.tmp 25) (.tmp 27) rfl w.heap.size _ ys.length ys _ rfl (show (wr.drewN n).ownsRow _ _ _ _ _ _ from hown) rfl (by omega) hz ?_; intro v2 w2 hown2 hB2))
            go_roundw
            case rel => exact ⟨k + 1, by omega, by go_num, ⟨ys ++ [(k : Int)], by rw [List.length_append]; exact hown2, by simp; omega, (by rw [past_take, HP.out, if_pos rfl, hys.out] : ys ++ [(k : Int)] = _)⟩, (below_drewN hB n).trans hB2⟩
            case measure => simp [intOf]; omega
          | false =>
            have HP := Lib.hid hp
            clear hp
            go_wp2_with (go_at_call 61; refine (refBefore_any ms A c k a _ HM.out HV.out HK.out HA.out).mono ?_; rintro e w2 ⟨he, n, rfl⟩; rw [HP.out] at he; subst he)
            go_roundw
            case rel => exact ⟨k + 1, by omega, by go_num, ⟨ys, hown, by omega, (by rw [past_take, HP.out, hys.out]; simp : ys = _)⟩, below_drewN hB n⟩
            case measure => simp [intOf]; omega
        · obtain rfl : k = ms.length := by omega
          go_wp2
          go_ret2
          obtain ⟨A', c', rfl, hI⟩ := own_ints hown
          exact ⟨A', c', ys, _, rfl, hI, hB, by rw [hys.out]; simp [pastF, HV.out, HA.out, pastL], by simp [pastE, HV.out, HA.out]⟩
    | false =>
      have HA := Lib.hid ha
      clear ha
      go_enter Try.func20, Try.ntmps20
      go_wp2_with (first
        | (go_at_call 22; refine (refValid_any ms A c _ H.out.marks H.out.len).mono ?_; rintro e w1 ⟨he, n1, rfl⟩; rw [HV.out] at he; subst he)
        | (go_at_call 60; refine (isHit_any ms A c a _ H.out.len).mono ?_; rintro e w' ⟨he, rfl⟩; rw [HA.out] at he; subst he))
      go_ret2
      exact ⟨none, 0, [], _, rfl, Out.nil_, (by repeat (first | with_reducible exact Below.refl _ _ | with_reducible assumption | refine below_drewN ?_ _ | with_reducible refine Below.drew ?_ | (refine Below.setCell ?_ (by first | (simp; done) | (simp; omega) | omega) _) | (refine Below.alloc ?_ (by first | (simp; done) | (simp; omega) | omega) _))), by simp [pastF, HA.out], by simp [pastE, HV.out, HA.out]⟩
  | false =>
    have HV := Lib.hid hv
    clear hv
    go_enter Try.func20, Try.ntmps20
    go_wp2_with (go_at_call 22; refine (refValid_any ms A c _ H.out.marks H.out.len).mono ?_; rintro e w1 ⟨he, n1, rfl⟩; rw [HV.out] at he; subst he)
    go_ret2
    exact ⟨none, 0, [], _, rfl, Out.nil_, (by repeat (first | with_reducible exact Below.refl _ _ | with_reducible assumption | refine below_drewN ?_ _ | with_reducible refine Below.drew ?_ | (refine Below.setCell ?_ (by first | (simp; done) | (simp; omega) | omega) _) | (refine Below.alloc ?_ (by first | (simp; done) | (simp; omega) | omega) _))), by simp [pastF, HV.out], by simp [pastE, HV.out]⟩
end Go.Proofs.Ytmlkdjcjfkfdiaa
