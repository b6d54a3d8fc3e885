/-
  Contracts of the reference: mixed in its three ways, Join, Both, Without, Sky, Rest.
-/
import Derived.Test.YtnnfnphmieikmaaArea3
namespace Go.Proofs.Ytnnfnphmieikmaa
open Go Go.RowKit Go.Shelf

theorem full_congr {P R : Nat → Bool} {o p : Nat} (h : ∀ q, q < 3072 → P q = R q) (he : p * wN o + wN o ≤ 3072) : fullB P o p = fullB R o p := by
  rw [Bool.eq_iff_iff, fullB, fullB, List.all_eq_true, List.all_eq_true]
  constructor
  · intro H n hn; rw [← h _ (by have := List.mem_range.1 hn; omega)]; exact H n hn
  · intro H n hn; rw [h _ (by have := List.mem_range.1 hn; omega)]; exact H n hn
theorem okAt_congr {P R : Nat → Bool} {q o : Nat} (h : ∀ q, q < 3072 → P q = R q) (hq : q < 3072) (ho : o < 5) : okAt P q o = okAt R q o := by
  have e := px_w ho
  have hp : q / wN o < pxN o := Nat.div_lt_of_lt_mul (by rw [Nat.mul_comm, e]; exact hq)
  rw [okAt, okAt, full_congr h (cell_end ho hp)]
theorem ord_congr {P R : Nat → Bool} {q : Nat} (h : ∀ q, q < 3072 → P q = R q) (hq : q < 3072) : ordAt P q = ordAt R q := by
  simp only [ordAt, okAt_congr h hq (show 0 < 5 by omega), okAt_congr h hq (show 1 < 5 by omega), okAt_congr h hq (show 2 < 5 by omega), okAt_congr h hq (show 3 < 5 by omega)]
theorem cellsF_congr {P R : Nat → Bool} (h : ∀ q, q < 3072 → P q = R q) : ∀ f q, cellsF P f q = cellsF R f q
  | 0, _ => rfl
  | f + 1, q => by
    rw [cellsF, cellsF]
    by_cases hq : 3072 ≤ q
    · rw [if_pos hq, if_pos hq]
    · rw [if_neg hq, if_neg hq, ord_congr h (by omega), h q (by omega), cellsF_congr h f, cellsF_congr h f]
theorem cellsP_congr {P R : Nat → Bool} (h : ∀ q, q < 3072 → P q = R q) : cellsP P = cellsP R := cellsF_congr h _ _
theorem stL_congr {P R : Nat → Bool} (h : ∀ q, q < 3072 → P q = R q) : stL P = stL R ∧ stE P = stE R := by
  rw [stL, stE, stL, stE, cellsP_congr h]; exact ⟨rfl, rfl⟩
theorem stL_len (P : Nat → Bool) : (stL P).length ≤ 400 := by unfold stL; split <;> simp_all

def mxP (f : Bool → Bool → Bool) (l m : List (Int × Int)) (q : Nat) : Bool := f (inL l q) (inL m q)
def mxOk (l m : List (Int × Int)) : Bool := vaB l && vaB m
def mxL (f : Bool → Bool → Bool) (l m : List (Int × Int)) : List (Int × Int) := if mxOk l m then stL (mxP f l m) else []
def mxE (f : Bool → Bool → Bool) (l m : List (Int × Int)) : Int := if mxOk l m then stE (mxP f l m) else 60
theorem mx_no {f : Bool → Bool → Bool} {l m : List (Int × Int)} (h : mxOk l m = false) : mxL f l m = [] ∧ mxE f l m = 60 := by simp [mxL, mxE, h]
theorem mx_yes {f : Bool → Bool → Bool} {l m : List (Int × Int)} (h : mxOk l m = true) : mxL f l m = stL (mxP f l m) ∧ mxE f l m = stE (mxP f l m) := by simp [mxL, mxE, h]
def orB (a b : Bool) : Bool := a || b
def andB (a b : Bool) : Bool := a && b
def lessB (a b : Bool) : Bool := a && !b
/-- The first k pixels of what two sets mix to. -/
def mxTo (f : Bool → Bool → Bool) (l m : List (Int × Int)) (k q : Nat) : Bool := if q < k then mxP f l m q else false
theorem mxTo_snoc (f : Bool → Bool → Bool) (l m : List (Int × Int)) (k q : Nat) : mxTo f l m (k + 1) q = if q = k then mxP f l m k else mxTo f l m k q := by
  unfold mxTo
  by_cases e : q = k
  · subst e; simp
  · rw [if_neg e]
    by_cases h : q < k
    · rw [if_pos h, if_pos (by omega)]
    · rw [if_neg h, if_neg (by omega)]

set_option maxRecDepth 100000 in
set_option maxHeartbeats 1000000 in
theorem refMix_join (l m : List (Int × Int)) (A B : Option Addr) (c d : Nat) (w : World) (hA : Marks w A l) (hB : Marks w B m) (hl : l.length ≤ maxLen) (hm : m.length ≤ maxLen) :
    Calls Try.prog 107 #[.slice A l.length c, .slice B m.length d, .bool true, .bool true, .bool true] w fun e w' => ∃ A' c', e = .returned (.tuple #[.slice A' (mxL orB l m).length c', .int .i64 (mxE orB l m)]) ∧ Clk w' A' c' (mxL orB l m) ∧ Below w.heap.size w w' := by
  have HA := Lib.hid hA
  have HB := Lib.hid hB
  have HL := Lib.hid hl
  have HM := Lib.hid hm
  clear hA hB hl hm
  have TA : Hid True := Lib.hid trivial
  cases hv : vaB l with
  | false =>
    have hs := mx_no (f := orB) (l := l) (m := m) (by rw [mxOk, hv]; rfl)
    rw [hs.1, hs.2]
    have HV := Lib.hid hv
    clear hv hs
    go_enter Try.func107, Try.ntmps107
    go_wp2_with (go_at_call 44; refine (refValid_any l _ _ _ HA.out HL.out).mono ?_; rintro e w1 ⟨he, hB1⟩; rw [HV.out] at he; subst he)
    go_ret2
    exact ⟨none, 0, rfl, Clk.nil_, hB1⟩
  | true =>
    cases hv2 : vaB m with
    | false =>
      have hs := mx_no (f := orB) (l := l) (m := m) (by rw [mxOk, hv2]; simp)
      rw [hs.1, hs.2]
      have HV := Lib.hid hv
      have HV2 := Lib.hid hv2
      clear hv hv2 hs
      go_enter Try.func107, Try.ntmps107
      go_wp2_with (first
        | (go_at_call 44; clear TA; refine (refValid_any l _ _ _ HA.out HL.out).mono ?_; rintro e w1 ⟨he, hB1⟩; rw [HV.out] at he; subst he)
        | (go_at_call 44; refine (refValid_any m _ _ _ (HB.out.below hB1) HM.out).mono ?_; rintro e w2 ⟨he, hB2⟩; rw [HV2.out] at he; subst he; have hW2 := below_step hB1 hB2))
      go_ret2
      exact ⟨none, 0, rfl, Clk.nil_, hW2⟩
    | true =>
      have hs := mx_yes (f := orB) (l := l) (m := m) (by rw [mxOk, hv, hv2]; rfl)
      rw [hs.1, hs.2]
      obtain ⟨v1, v2, v3⟩ := va_parts hv
      obtain ⟨u1, u2, u3⟩ := va_parts hv2
      have HV := Lib.hid hv
      have HV2 := Lib.hid hv2
      have HC := Lib.hid v2
      have HC2 := Lib.hid u2
      have TB : Hid True := Lib.hid trivial
      clear hv hv2 hs v2 v3 u2 u3
      go_enter Try.func107, Try.ntmps107
      go_wp2_with (first
        | (go_at_call 44; clear TA; refine (refValid_any l _ _ _ HA.out HL.out).mono ?_; rintro e w1 ⟨he, hB1⟩; rw [HV.out] at he; subst he)
        | (go_at_call 44; refine (refValid_any m _ _ _ (HB.out.below hB1) HM.out).mono ?_; rintro e w2 ⟨he, hB2⟩; rw [HV2.out] at he; subst he; have hW2 := below_step hB1 hB2; clear hB1 hB2)
        | (go_at_call 96; clear TB; refine (areaOf_any l _ _ _ (HA.out.below hW2) (by omega) HC.out).mono ?_; rintro e w3 ⟨rfl, hO3, hB3⟩; have HA3 := Lib.hid hO3.area; have hW3 := below_step hW2 hB3; clear hO3 hB3)
        | (go_at_call 96; refine (areaOf_any m _ _ _ (HB.out.below hW3) (by omega) HC2.out).mono ?_; rintro e w4 ⟨rfl, hO4, hB4⟩; have HB4 := Lib.hid hO4.area; have HA4 := Lib.hid (HA3.out.below hB4); have hW4 := below_step hW3 hB4; clear hO4 hB4)
        | (go_at_call 112; refine (nothing_any _).mono ?_; rintro e w5 ⟨rfl, hO5, hB5⟩; have HO5 := Lib.hid hO5; clear hO5)
        | fail)
      go_loopw [15] (fun i wr => ∃ k : Nat, k ≤ 3072 ∧ i = .int .i64 k ∧ OwnA wr w4.heap.size w4.heap.size (mxTo orB l m k) ∧ Below w4.heap.size w4 wr) (fun i _ => 3072 - (intOf i).toNat)
      case atStart => exact ⟨0, Nat.zero_le _, rfl, HO5.out.congr (fun q _ => by simp [mxTo]), hB5⟩
      case round =>
        clear HO5 hB5
        obtain ⟨k, hk, rfl, hO, hB⟩ := hrel
        by_cases hlt : k < 3072
        · have tq : decide ((k : Int) < 3072) = true := decide_eq_true (by omega)
          have ca := (HA4.out.below hB).2 k hlt
          have cb := (HB4.out.below hB).2 k hlt
          have cc := hO.area.2 k hlt
          have cf := World.ownsRow.frozenAt hO k
          have HO := Lib.hid hO
          have HN := Lib.hid (mxTo_snoc orB l m k)
          have HP : Hid (mxP orB l m k = orB (inL l k) (inL m k)) := Lib.hid rfl
          clear hO
          cases ha : inL l k <;> cases hb : inL m k
          all_goals
            rw [ha] at ca
            rw [hb] at cb
            rw [ha, hb] at HP
            clear ha hb
            go_wp2
            go_roundw
            case rel => exact ⟨k + 1, by omega, by go_num, HO.out.put (fun q => by rw [HN.out, HP.out]; rfl), Below.setCell hB (Nat.le_refl _) _⟩
            case measure => simp [intOf]; omega
        · obtain rfl : k = 3072 := by omega
          have HO : Hid (OwnA wr w4.heap.size w4.heap.size (mxP orB l m)) := Lib.hid (hO.congr fun q hq => by rw [mxTo, if_pos hq])
          have hWr : Below w.heap.size w wr := below_step hW4 hB
          clear hO
          go_wp2_with (go_at_call 95; refine (refSetA_any _ _ _ _ HO.out.area).mono ?_; rintro e w6 ⟨A6, c6, rfl, hC6, hB6⟩; have hW6 := below_step hWr hB6; have HC6 := Lib.hid hC6; clear hC6 hB6)
          go_ret2
          exact ⟨A6, c6, rfl, HC6.out, hW6⟩

set_option maxRecDepth 100000 in
set_option maxHeartbeats 1000000 in
theorem refMix_both (l m : List (Int × Int)) (A B : Option Addr) (c d : Nat) (w : World) (hA : Marks w A l) (hB : Marks w B m) (hl : l.length ≤ maxLen) (hm : m.length ≤ maxLen) :
    Calls Try.prog 107 #[.slice A l.length c, .slice B m.length d, .bool false, .bool false, .bool true] w fun e w' => ∃ A' c', e = .returned (.tuple #[.slice A' (mxL andB l m).length c', .int .i64 (mxE andB l m)]) ∧ Clk w' A' c' (mxL andB l m) ∧ Below w.heap.size w w' := by
  have HA := Lib.hid hA
  have HB := Lib.hid hB
  have HL := Lib.hid hl
  have HM := Lib.hid hm
  clear hA hB hl hm
  have TA : Hid True := Lib.hid trivial
  cases hv : vaB l with
  | false =>
    have hs := mx_no (f := andB) (l := l) (m := m) (by rw [mxOk, hv]; rfl)
    rw [hs.1, hs.2]
    have HV := Lib.hid hv
    clear hv hs
    go_enter Try.func107, Try.ntmps107
    go_wp2_with (go_at_call 44; refine (refValid_any l _ _ _ HA.out HL.out).mono ?_; rintro e w1 ⟨he, hB1⟩; rw [HV.out] at he; subst he)
    go_ret2
    exact ⟨none, 0, rfl, Clk.nil_, hB1⟩
  | true =>
    cases hv2 : vaB m with
    | false =>
      have hs := mx_no (f := andB) (l := l) (m := m) (by rw [mxOk, hv2]; simp)
      rw [hs.1, hs.2]
      have HV := Lib.hid hv
      have HV2 := Lib.hid hv2
      clear hv hv2 hs
      go_enter Try.func107, Try.ntmps107
      go_wp2_with (first
        | (go_at_call 44; clear TA; refine (refValid_any l _ _ _ HA.out HL.out).mono ?_; rintro e w1 ⟨he, hB1⟩; rw [HV.out] at he; subst he)
        | (go_at_call 44; refine (refValid_any m _ _ _ (HB.out.below hB1) HM.out).mono ?_; rintro e w2 ⟨he, hB2⟩; rw [HV2.out] at he; subst he; have hW2 := below_step hB1 hB2))
      go_ret2
      exact ⟨none, 0, rfl, Clk.nil_, hW2⟩
    | true =>
      have hs := mx_yes (f := andB) (l := l) (m := m) (by rw [mxOk, hv, hv2]; rfl)
      rw [hs.1, hs.2]
      obtain ⟨v1, v2, v3⟩ := va_parts hv
      obtain ⟨u1, u2, u3⟩ := va_parts hv2
      have HV := Lib.hid hv
      have HV2 := Lib.hid hv2
      have HC := Lib.hid v2
      have HC2 := Lib.hid u2
      have TB : Hid True := Lib.hid trivial
      clear hv hv2 hs v2 v3 u2 u3
      go_enter Try.func107, Try.ntmps107
      go_wp2_with (first
        | (go_at_call 44; clear TA; refine (refValid_any l _ _ _ HA.out HL.out).mono ?_; rintro e w1 ⟨he, hB1⟩; rw [HV.out] at he; subst he)
        | (go_at_call 44; refine (refValid_any m _ _ _ (HB.out.below hB1) HM.out).mono ?_; rintro e w2 ⟨he, hB2⟩; rw [HV2.out] at he; subst he; have hW2 := below_step hB1 hB2; clear hB1 hB2)
        | (go_at_call 96; clear TB; refine (areaOf_any l _ _ _ (HA.out.below hW2) (by omega) HC.out).mono ?_; rintro e w3 ⟨rfl, hO3, hB3⟩; have HA3 := Lib.hid hO3.area; have hW3 := below_step hW2 hB3; clear hO3 hB3)
        | (go_at_call 96; refine (areaOf_any m _ _ _ (HB.out.below hW3) (by omega) HC2.out).mono ?_; rintro e w4 ⟨rfl, hO4, hB4⟩; have HB4 := Lib.hid hO4.area; have HA4 := Lib.hid (HA3.out.below hB4); have hW4 := below_step hW3 hB4; clear hO4 hB4)
        | (go_at_call 112; refine (nothing_any _).mono ?_; rintro e w5 ⟨rfl, hO5, hB5⟩; have HO5 := Lib.hid hO5; clear hO5)
        | fail)
      go_loopw [15] (fun i wr => ∃ k : Nat, k ≤ 3072 ∧ i = .int .i64 k ∧ OwnA wr w4.heap.size w4.heap.size (mxTo andB l m k) ∧ Below w4.heap.size w4 wr) (fun i _ => 3072 - (intOf i).toNat)
      case atStart => exact ⟨0, Nat.zero_le _, rfl, HO5.out.congr (fun q _ => by simp [mxTo]), hB5⟩
      case round =>
        clear HO5 hB5
        obtain ⟨k, hk, rfl, hO, hB⟩ := hrel
        by_cases hlt : k < 3072
        · have tq : decide ((k : Int) < 3072) = true := decide_eq_true (by omega)
          have ca := (HA4.out.below hB).2 k hlt
          have cb := (HB4.out.below hB).2 k hlt
          have cc := hO.area.2 k hlt
          have cf := World.ownsRow.frozenAt hO k
          have HO := Lib.hid hO
          have HN := Lib.hid (mxTo_snoc andB l m k)
          have HP : Hid (mxP andB l m k = andB (inL l k) (inL m k)) := Lib.hid rfl
          clear hO
          cases ha : inL l k <;> cases hb : inL m k
          all_goals
            rw [ha] at ca
            rw [hb] at cb
            rw [ha, hb] at HP
            clear ha hb
            go_wp2
            go_roundw
            case rel => exact ⟨k + 1, by omega, by go_num, HO.out.put (fun q => by rw [HN.out, HP.out]; rfl), Below.setCell hB (Nat.le_refl _) _⟩
            case measure => simp [intOf]; omega
        · obtain rfl : k = 3072 := by omega
          have HO : Hid (OwnA wr w4.heap.size w4.heap.size (mxP andB l m)) := Lib.hid (hO.congr fun q hq => by rw [mxTo, if_pos hq])
          have hWr : Below w.heap.size w wr := below_step hW4 hB
          clear hO
          go_wp2_with (go_at_call 95; refine (refSetA_any _ _ _ _ HO.out.area).mono ?_; rintro e w6 ⟨A6, c6, rfl, hC6, hB6⟩; have hW6 := below_step hWr hB6; have HC6 := Lib.hid hC6; clear hC6 hB6)
          go_ret2
          exact ⟨A6, c6, rfl, HC6.out, hW6⟩

set_option maxRecDepth 100000 in
set_option maxHeartbeats 1000000 in
theorem refMix_less (l m : List (Int × Int)) (A B : Option Addr) (c d : Nat) (w : World) (hA : Marks w A l) (hB : Marks w B m) (hl : l.length ≤ maxLen) (hm : m.length ≤ maxLen) :
    Calls Try.prog 107 #[.slice A l.length c, .slice B m.length d, .bool true, .bool false, .bool false] w fun e w' => ∃ A' c', e = .returned (.tuple #[.slice A' (mxL lessB l m).length c', .int .i64 (mxE lessB l m)]) ∧ Clk w' A' c' (mxL lessB l m) ∧ Below w.heap.size w w' := by
  have HA := Lib.hid hA
  have HB := Lib.hid hB
  have HL := Lib.hid hl
  have HM := Lib.hid hm
  clear hA hB hl hm
  have TA : Hid True := Lib.hid trivial
  cases hv : vaB l with
  | false =>
    have hs := mx_no (f := lessB) (l := l) (m := m) (by rw [mxOk, hv]; rfl)
    rw [hs.1, hs.2]
    have HV := Lib.hid hv
    clear hv hs
    go_enter Try.func107, Try.ntmps107
    go_wp2_with (go_at_call 44; refine (refValid_any l _ _ _ HA.out HL.out).mono ?_; rintro e w1 ⟨he, hB1⟩; rw [HV.out] at he; subst he)
    go_ret2
    exact ⟨none, 0, rfl, Clk.nil_, hB1⟩
  | true =>
    cases hv2 : vaB m with
    | false =>
      have hs := mx_no (f := lessB) (l := l) (m := m) (by rw [mxOk, hv2]; simp)
      rw [hs.1, hs.2]
      have HV := Lib.hid hv
      have HV2 := Lib.hid hv2
      clear hv hv2 hs
      go_enter Try.func107, Try.ntmps107
      go_wp2_with (first
        | (go_at_call 44; clear TA; refine (refValid_any l _ _ _ HA.out HL.out).mono ?_; rintro e w1 ⟨he, hB1⟩; rw [HV.out] at he; subst he)
        | (go_at_call 44; refine (refValid_any m _ _ _ (HB.out.below hB1) HM.out).mono ?_; rintro e w2 ⟨he, hB2⟩; rw [HV2.out] at he; subst he; have hW2 := below_step hB1 hB2))
      go_ret2
      exact ⟨none, 0, rfl, Clk.nil_, hW2⟩
    | true =>
      have hs := mx_yes (f := lessB) (l := l) (m := m) (by rw [mxOk, hv, hv2]; rfl)
      rw [hs.1, hs.2]
      obtain ⟨v1, v2, v3⟩ := va_parts hv
      obtain ⟨u1, u2, u3⟩ := va_parts hv2
      have HV := Lib.hid hv
      have HV2 := Lib.hid hv2
      have HC := Lib.hid v2
      have HC2 := Lib.hid u2
      have TB : Hid True := Lib.hid trivial
      clear hv hv2 hs v2 v3 u2 u3
      go_enter Try.func107, Try.ntmps107
      go_wp2_with (first
        | (go_at_call 44; clear TA; refine (refValid_any l _ _ _ HA.out HL.out).mono ?_; rintro e w1 ⟨he, hB1⟩; rw [HV.out] at he; subst he)
        | (go_at_call 44; refine (refValid_any m _ _ _ (HB.out.below hB1) HM.out).mono ?_; rintro e w2 ⟨he, hB2⟩; rw [HV2.out] at he; subst he; have hW2 := below_step hB1 hB2; clear hB1 hB2)
        | (go_at_call 96; clear TB; refine (areaOf_any l _ _ _ (HA.out.below hW2) (by omega) HC.out).mono ?_; rintro e w3 ⟨rfl, hO3, hB3⟩; have HA3 := Lib.hid hO3.area; have hW3 := below_step hW2 hB3; clear hO3 hB3)
        | (go_at_call 96; refine (areaOf_any m _ _ _ (HB.out.below hW3) (by omega) HC2.out).mono ?_; rintro e w4 ⟨rfl, hO4, hB4⟩; have HB4 := Lib.hid hO4.area; have HA4 := Lib.hid (HA3.out.below hB4); have hW4 := below_step hW3 hB4; clear hO4 hB4)
        | (go_at_call 112; refine (nothing_any _).mono ?_; rintro e w5 ⟨rfl, hO5, hB5⟩; have HO5 := Lib.hid hO5; clear hO5)
        | fail)
      go_loopw [15] (fun i wr => ∃ k : Nat, k ≤ 3072 ∧ i = .int .i64 k ∧ OwnA wr w4.heap.size w4.heap.size (mxTo lessB l m k) ∧ Below w4.heap.size w4 wr) (fun i _ => 3072 - (intOf i).toNat)
      case atStart => exact ⟨0, Nat.zero_le _, rfl, HO5.out.congr (fun q _ => by simp [mxTo]), hB5⟩
      case round =>
        clear HO5 hB5
        obtain ⟨k, hk, rfl, hO, hB⟩ := hrel
        by_cases hlt : k < 3072
        · have tq : decide ((k : Int) < 3072) = true := decide_eq_true (by omega)
          have ca := (HA4.out.below hB).2 k hlt
          have cb := (HB4.out.below hB).2 k hlt
          have cc := hO.area.2 k hlt
          have cf := World.ownsRow.frozenAt hO k
          have HO := Lib.hid hO
          have HN := Lib.hid (mxTo_snoc lessB l m k)
          have HP : Hid (mxP lessB l m k = lessB (inL l k) (inL m k)) := Lib.hid rfl
          clear hO
          cases ha : inL l k <;> cases hb : inL m k
          all_goals
            rw [ha] at ca
            rw [hb] at cb
            rw [ha, hb] at HP
            clear ha hb
            go_wp2
            go_roundw
            case rel => exact ⟨k + 1, by omega, by go_num, HO.out.put (fun q => by rw [HN.out, HP.out]; rfl), Below.setCell hB (Nat.le_refl _) _⟩
            case measure => simp [intOf]; omega
        · obtain rfl : k = 3072 := by omega
          have HO : Hid (OwnA wr w4.heap.size w4.heap.size (mxP lessB l m)) := Lib.hid (hO.congr fun q hq => by rw [mxTo, if_pos hq])
          have hWr : Below w.heap.size w wr := below_step hW4 hB
          clear hO
          go_wp2_with (go_at_call 95; refine (refSetA_any _ _ _ _ HO.out.area).mono ?_; rintro e w6 ⟨A6, c6, rfl, hC6, hB6⟩; have hW6 := below_step hWr hB6; have HC6 := Lib.hid hC6; clear hC6 hB6)
          go_ret2
          exact ⟨A6, c6, rfl, HC6.out, hW6⟩
theorem refJoin_any (l m : List (Int × Int)) (A B : Option Addr) (c d : Nat) (w : World) (hA : Marks w A l) (hB : Marks w B m) (hl : l.length ≤ maxLen) (hm : m.length ≤ maxLen) :
    Calls Try.prog 51 #[.slice A l.length c, .slice B m.length d] w fun e w' => ∃ A' c', e = .returned (.tuple #[.slice A' (mxL orB l m).length c', .int .i64 (mxE orB l m)]) ∧ Clk w' A' c' (mxL orB l m) ∧ Below w.heap.size w w' := by
  have C := Lib.hid (refMix_join l m A B c d w hA hB hl hm)
  clear hA hB hl hm
  go_enter Try.func51, Try.ntmps51
  go_wp2_with (go_at_call 107; refine (C.out).mono ?_; rintro e w1 ⟨A1, c1, rfl, hC1, hB1⟩)
  go_ret2
  exact ⟨A1, c1, rfl, hC1, hB1⟩
theorem refBoth_any (l m : List (Int × Int)) (A B : Option Addr) (c d : Nat) (w : World) (hA : Marks w A l) (hB : Marks w B m) (hl : l.length ≤ maxLen) (hm : m.length ≤ maxLen) :
    Calls Try.prog 53 #[.slice A l.length c, .slice B m.length d] w fun e w' => ∃ A' c', e = .returned (.tuple #[.slice A' (mxL andB l m).length c', .int .i64 (mxE andB l m)]) ∧ Clk w' A' c' (mxL andB l m) ∧ Below w.heap.size w w' := by
  have C := Lib.hid (refMix_both l m A B c d w hA hB hl hm)
  clear hA hB hl hm
  go_enter Try.func53, Try.ntmps53
  go_wp2_with (go_at_call 107; refine (C.out).mono ?_; rintro e w1 ⟨A1, c1, rfl, hC1, hB1⟩)
  go_ret2
  exact ⟨A1, c1, rfl, hC1, hB1⟩
theorem refWithout_any (l m : List (Int × Int)) (A B : Option Addr) (c d : Nat) (w : World) (hA : Marks w A l) (hB : Marks w B m) (hl : l.length ≤ maxLen) (hm : m.length ≤ maxLen) :
    Calls Try.prog 55 #[.slice A l.length c, .slice B m.length d] w fun e w' => ∃ A' c', e = .returned (.tuple #[.slice A' (mxL lessB l m).length c', .int .i64 (mxE lessB l m)]) ∧ Clk w' A' c' (mxL lessB l m) ∧ Below w.heap.size w w' := by
  have C := Lib.hid (refMix_less l m A B c d w hA hB hl hm)
  clear hA hB hl hm
  go_enter Try.func55, Try.ntmps55
  go_wp2_with (go_at_call 107; refine (C.out).mono ?_; rintro e w1 ⟨A1, c1, rfl, hC1, hB1⟩)
  go_ret2
  exact ⟨A1, c1, rfl, hC1, hB1⟩

def skyN (k : Nat) : List (Int × Int) := (List.range k).map fun f : Nat => ((0 : Int), (f : Int))
def skyL : List (Int × Int) := skyN 12
theorem skyN_snoc (k : Nat) : skyN (k + 1) = skyN k ++ [((0 : Int), (k : Int))] := by simp [skyN, List.range_succ]
theorem skyN_len (k : Nat) : (skyN k).length = k := by simp [skyN]
theorem sky_full : allB 3072 (inL skyL) = true := by decide +kernel
theorem sky_in {q : Nat} (h : q < 3072) : inL skyL q = true := allB_of sky_full h
theorem sky_valid : vaB skyL = true := by decide +kernel
set_option maxRecDepth 100000 in
theorem refSky_any (w : World) :
    Calls Try.prog 63 #[] w fun e w' => ∃ A c, e = .returned (.slice A skyL.length c) ∧ Clk w' A c skyL ∧ Below w.heap.size w w' := by
  go_enter Try.func63, Try.ntmps63
  go_wp2
  go_loopw [1, 2] (fun v i wr => ∃ k : Nat, k ≤ 12 ∧ i = .int .i64 k ∧ wr.ownsRow w.heap.size 43 2 v k ((skyN k).flatMap mk2) ∧ Below w.heap.size w wr) (fun _ i _ => 12 - (intOf i).toNat)
  case atStart => exact ⟨0, Nat.zero_le _, rfl, ⟨rfl, .inl ⟨rfl, rfl⟩⟩, Below.refl _ _⟩
  case round =>
    obtain ⟨k, hk, rfl, hown, hB⟩ := hrel
    by_cases hlt : k < 12
    · have HS := Lib.hid (skyN_snoc k)
      have HO := Lib.hid hown
      clear hown
      go_wp2_with (at_builtin; refine wp_app_cell wr rfl (.tmp 7) (.tmp 10) rfl w.heap.size _ k (skyN k) 0 (k : Int) rfl HO.out wr.heap.size rfl rfl (by omega) hB.size ?_; intro v2 w2 hown2 hB2 hfar hz2; have HO2 := Lib.hid hown2; clear hown2 hfar hz2)
      go_roundw
      case rel => exact ⟨k + 1, by omega, by go_num, by rw [HS.out]; exact HO2.out, Below.trans hB hB2⟩
      case measure => simp [intOf]; omega
    · obtain rfl : k = 12 := by omega
      obtain ⟨A', c', rfl, hC⟩ := own_layers (xs := skyL) hown
      have HC := Lib.hid hC
      clear hown hC
      go_wp2
      go_ret
      exact ⟨A', c', rfl, HC.out, hB⟩
def rsP (l : List (Int × Int)) (q : Nat) : Bool := !inL l q
def rsL (l : List (Int × Int)) : List (Int × Int) := if vaB l then stL (rsP l) else []
def rsE (l : List (Int × Int)) : Int := if vaB l then stE (rsP l) else 60
theorem rest_mix (l : List (Int × Int)) : mxL lessB skyL l = rsL l ∧ mxE lessB skyL l = rsE l := by
  have hc := stL_congr (P := mxP lessB skyL l) (R := rsP l) (fun q hq => by rw [mxP, lessB, sky_in hq, rsP]; rfl)
  rw [mxL, mxE, mxOk, sky_valid, Bool.true_and, hc.1, hc.2]; exact ⟨rfl, rfl⟩
theorem refRest_any (l : List (Int × Int)) (A : Option Addr) (c : Nat) (w : World) (hA : Marks w A l) (hl : l.length ≤ maxLen) :
    Calls Try.prog 57 #[.slice A l.length c] w fun e w' => ∃ A' c', e = .returned (.tuple #[.slice A' (rsL l).length c', .int .i64 (rsE l)]) ∧ Clk w' A' c' (rsL l) ∧ Below w.heap.size w w' := by
  have HA := Lib.hid hA
  have HL := Lib.hid hl
  have HR := Lib.hid (rest_mix l)
  clear hA hl
  go_enter Try.func57, Try.ntmps57
  go_wp2_with (first
    | (go_at_call 63; refine (refSky_any _).mono ?_; rintro e w1 ⟨A1, c1, rfl, hC1, hB1⟩)
    | (go_at_call 55; refine (refWithout_any skyL l _ _ _ _ _ hC1.marks (HA.out.below hB1) hC1.len HL.out).mono ?_; rintro e w2 ⟨A2, c2, rfl, hC2, hB2⟩; have hW2 := below_step hB1 hB2))
  go_ret2
  exact ⟨A2, c2, by rw [← HR.out.1, ← HR.out.2]; rfl, by rw [← HR.out.1]; exact hC2, hW2⟩
end Go.Proofs.Ytnnfnphmieikmaa
