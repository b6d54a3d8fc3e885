/-
  Contracts of the reference: Coarse, Rings.
-/
import Derived.Test.YtnnfnphmieikmaaArea4
namespace Go.Proofs.Ytnnfnphmieikmaa
open Go Go.RowKit Go.Shelf

/-- Whether the cell of the order k that has a pixel has one of a set among the first n. -/
def coTo (l : List (Int × Int)) (k n q : Nat) : Bool := (List.range n).any fun i => inL l i && decide (i / wN k = q / wN k)
def coP (l : List (Int × Int)) (k q : Nat) : Bool := coTo l k 3072 q
theorem coTo_snoc (l : List (Int × Int)) (k n q : Nat) : coTo l k (n + 1) q = (coTo l k n q || (inL l n && decide (n / wN k = q / wN k))) := by
  simp [coTo, List.range_succ]
theorem coTo_no {l : List (Int × Int)} {n : Nat} (h : inL l n = false) (k q : Nat) : coTo l k (n + 1) q = coTo l k n q := by rw [coTo_snoc, h]; simp
theorem coTo_yes {l : List (Int × Int)} {n : Nat} (h : inL l n = true) (k q : Nat) : coTo l k (n + 1) q = (coTo l k n q || part k (n / wN k) (wN k) q) := by
  rw [coTo_snoc, h, Bool.true_and, part]
  congr 1
  have hw := wN_pos k
  rw [Bool.eq_iff_iff]; simp only [decide_eq_true_eq, Bool.and_eq_true]
  constructor
  · intro e; rw [e]
    have h1 := Nat.div_add_mod q (wN k)
    have h2 := Nat.mod_lt q hw
    rw [Nat.mul_comm] at h1; omega
  · rintro ⟨h1, h2⟩
    have a := (Nat.le_div_iff_mul_le hw).2 h1
    have b := (Nat.div_lt_iff_lt_mul hw).2 (show q < (n / wN k + 1) * wN k by rw [Nat.add_mul]; omega)
    omega
def coOk (l : List (Int × Int)) (n : Int) : Bool := vaB l && okO n
def coL (l : List (Int × Int)) (n : Int) : List (Int × Int) := if coOk l n then stL (coP l n.toNat) else []
def coE (l : List (Int × Int)) (n : Int) : Int := if vaB l then (if okO n then stE (coP l n.toNat) else 2) else 60
set_option maxRecDepth 100000 in
set_option maxHeartbeats 1000000 in
theorem refCoarse_any (l : List (Int × Int)) (A : Option Addr) (c : Nat) (n : Int) (w : World) (hA : Marks w A l) (hl : l.length ≤ maxLen) :
    Calls Try.prog 59 #[.slice A l.length c, .int .i64 n] w fun e w' => ∃ A' c', e = .returned (.tuple #[.slice A' (coL l n).length c', .int .i64 (coE l n)]) ∧ Clk w' A' c' (coL l n) ∧ Below w.heap.size w w' := by
  have HA := Lib.hid hA
  have HL := Lib.hid hl
  clear hA hl
  cases hv : vaB l with
  | false =>
    have e1 : coL l n = [] := by simp [coL, coOk, hv]
    have e2 : coE l n = 60 := by simp [coE, hv]
    rw [e1, e2]
    have HV := Lib.hid hv
    clear hv e1 e2
    go_enter Try.func59, Try.ntmps59
    go_wp2_with (go_at_call 44; refine (refValid_any l _ _ _ HA.out HL.out).mono ?_; rintro e w1 ⟨he, hB1⟩; rw [HV.out] at he; subst he)
    go_ret2
    exact ⟨none, 0, rfl, Clk.nil_, hB1⟩
  | true =>
    cases ho : okO n with
    | false =>
      have e1 : coL l n = [] := by simp [coL, coOk, ho]
      have e2 : coE l n = 2 := by simp [coE, hv, ho]
      rw [e1, e2]
      have HV := Lib.hid hv
      have HO := Lib.hid ho
      clear hv e1 e2 ho
      go_enter Try.func59, Try.ntmps59
      go_wp2_with (first
        | (go_at_call 44; refine (refValid_any l _ _ _ HA.out HL.out).mono ?_; rintro e w1 ⟨he, hB1⟩; rw [HV.out] at he; subst he)
        | (go_at_call 67; refine (isOrder_any _ _).mono ?_; rintro e w2 ⟨he, rfl⟩; rw [HO.out] at he; subst he))
      go_ret2
      exact ⟨none, 0, rfl, Clk.nil_, hB1⟩
    | true =>
      have e1 : coL l n = stL (coP l n.toNat) := by simp [coL, coOk, hv, ho]
      have e2 : coE l n = stE (coP l n.toNat) := by simp [coE, hv, ho]
      rw [e1, e2]
      obtain ⟨k, rfl, hk⟩ := okO_of ho
      rw [Int.toNat_natCast]
      obtain ⟨v1, v2, v3⟩ := va_parts hv
      have HV := Lib.hid hv
      have HO := Lib.hid ho
      have HV2 := Lib.hid v2
      have CW := Lib.hid (fun W => width_any k hk 0 W)
      have hS1 := wN_pos k
      have hS2 := wN_le k
      have HYES : Hid (∀ i, inL l i = true → ∀ q, coTo l k (i + 1) q = (coTo l k i q || part k (i / wN k) (wN k) q)) := Lib.hid (fun i h q => coTo_yes h k q)
      have HNO : Hid (∀ i, inL l i = false → ∀ q, coTo l k (i + 1) q = coTo l k i q) := Lib.hid (fun i h q => coTo_no h k q)
      have HENDC : Hid (∀ i, i < 3072 → i / wN k * wN k + wN k ≤ 3072) := Lib.hid (fun i hi => cell_end hk (by have e := px_w hk; exact Nat.div_lt_of_lt_mul (by rw [Nat.mul_comm, e]; exact hi)))
      obtain ⟨S, hS⟩ : ∃ S, S = wN k := ⟨_, rfl⟩
      have HS := Lib.hid hS
      rw [← hS] at CW hS1 hS2 HENDC HYES
      clear hv e1 e2 ho v2 v3 hS
      go_enter Try.func59, Try.ntmps59
      go_wp2_with (first
        | (go_at_call 44; refine (refValid_any l _ _ _ HA.out HL.out).mono ?_; rintro e w1 ⟨he, hB1⟩; rw [HV.out] at he; subst he)
        | (go_at_call 67; refine (isOrder_any _ _).mono ?_; rintro e w2 ⟨he, rfl⟩; rw [HO.out] at he; subst he)
        | (go_at_call 96; refine (areaOf_any l _ _ _ (HA.out.below hB1) (by omega) HV2.out).mono ?_; rintro e w3 ⟨rfl, hO3, hB3⟩; have HA3 := Lib.hid hO3.area; have hW3 := below_step hB1 hB3; clear hO3 hB3)
        | (go_at_call 112; refine (nothing_any _).mono ?_; rintro e w5 ⟨rfl, hO5, hB5⟩; have HO5 := Lib.hid hO5; clear hO5)
        | (go_at_call 113; refine (CW.out _).mono ?_; rintro e w6 ⟨rfl, hB6⟩; have HO6 := Lib.hid (HO5.out.below hB6); have hB6' : Below w3.heap.size w3 w6 := below_step hB5 hB6; clear hB6)
        | fail)
      go_loopw [9] (fun i wr => ∃ a : Nat, a ≤ 3072 ∧ i = .int .i64 a ∧ OwnA wr w3.heap.size w3.heap.size (coTo l k a) ∧ Below w3.heap.size w3 wr) (fun i _ => 3072 - (intOf i).toNat)
      case atStart => exact ⟨0, Nat.zero_le _, rfl, HO6.out.congr (fun q _ => by simp [coTo]), hB6'⟩
      case round =>
        clear HO5 HO6 hB6' hB5
        obtain ⟨a, ha, rfl, hO, hB⟩ := hrel
        by_cases hlt : a < 3072
        · have tq : decide ((a : Int) < 3072) = true := decide_eq_true (by omega)
          have HO := Lib.hid hO
          obtain ⟨wo, rfl⟩ : ∃ wo : World, wo = wr := ⟨_, rfl⟩
          have ca := (HA3.out.below hB).2 a hlt
          clear hO
          cases hP : inL l a with
          | false =>
            rw [hP] at ca
            have HN := Lib.hid (HNO.out a hP)
            clear hP
            go_wp2
            go_loopw [10] (fun i wr => i = .int .i64 0 ∧ wr = wo) (fun _ _ => 0)
            case atStart => exact ⟨rfl, rfl⟩
            case round =>
              obtain ⟨rfl, rfl⟩ := hrel
              go_wp2
              go_roundw
              case rel => exact ⟨a + 1, by omega, by go_num, HO.out.congr (fun q _ => (HN.out q).symm), hB⟩
              case measure => simp [intOf]; omega
          | true =>
            rw [hP] at ca
            have HN := Lib.hid (HYES.out a hP)
            have hend := HENDC.out a hlt
            obtain ⟨M, hM⟩ : ∃ M, M = a % S := ⟨_, rfl⟩
            have eM : (a : Int) % (S : Int) = (M : Int) := by rw [hM]; simp
            obtain ⟨B, hBB⟩ : ∃ B, B = a / S * S := ⟨_, rfl⟩
            have eB : (a : Int) - (M : Int) = (B : Int) := by have h1 := Nat.div_add_mod a S; rw [Nat.mul_comm] at h1; omega
            have HBB := Lib.hid hBB
            rw [← hBB] at hend
            have HPT : Hid (∀ m q, part k (a / S) m q = (decide (B ≤ q) && decide (q < B + m))) := Lib.hid (fun m q => by rw [part, ← HS.out, ← HBB.out])
            clear hP hM hBB
            go_wp2
            go_loopw [10] (fun i wr => ∃ m : Nat, m ≤ S ∧ i = .int .i64 m ∧ OwnA wr w3.heap.size w3.heap.size (fun q => coTo l k a q || part k (a / S) m q) ∧ Below w3.heap.size w3 wr) (fun i _ => S - (intOf i).toNat)
            case atStart => exact ⟨0, Nat.zero_le _, rfl, HO.out.congr (fun q _ => by simp [part_zero]), hB⟩
            case round =>
              obtain ⟨m, hm, rfl, hO2, hB2⟩ := hrel
              have ca := (HA3.out.below hB2).2 a hlt
              have ca2 : wr.cell? ⟨w1.heap.size, a, none⟩ = some (.bool true) := by rw [ca, ← (HA3.out.below hB).2 a hlt]; assumption
              clear ca
              by_cases hlt2 : m < S
              · have cc := hO2.area.2 (B + m) (by omega)
                have cf := World.ownsRow.frozenAt hO2 (B + m)
                have HO2 := Lib.hid hO2
                have HNN : Hid (∀ q, (coTo l k a q || part k (a / S) (m + 1) q) = if q = B + m then true else (coTo l k a q || part k (a / S) m q)) := Lib.hid (fun q => by
                  rw [part_snoc, ← HS.out, ← HBB.out]
                  by_cases e : q = B + m
                  · simp [e]
                  · simp [e])
                clear hO2
                go_wp2
                go_roundw
                case rel => exact ⟨m + 1, by omega, by go_num, HO2.out.put HNN.out, Below.setCell hB2 (Nat.le_refl _) _⟩
                case measure => simp [intOf]; omega
              · obtain rfl : m = S := by omega
                have HO2 := Lib.hid hO2
                clear hO2
                go_wp2
                go_roundw
                case rel => exact ⟨a + 1, by omega, by go_num, HO2.out.congr (fun q _ => (HN.out q).symm), hB2⟩
                case measure => simp [intOf]; omega
        · obtain rfl : a = 3072 := by omega
          have HO : Hid (OwnA wr w3.heap.size w3.heap.size (coP l k)) := Lib.hid hO
          have hWr : Below w.heap.size w wr := below_step hW3 hB
          clear hO
          go_wp2_with (go_at_call 95; refine (refSetA_any _ _ _ _ HO.out.area).mono ?_; rintro e w8 ⟨A8, c8, rfl, hC8, hB8⟩; have hW8 := below_step hWr hB8; have HC8 := Lib.hid hC8; clear hC8 hB8)
          go_ret2
          exact ⟨A8, c8, rfl, HC8.out, hW8⟩

def riP (a b q : Nat) : Bool := decide ((a : Int) ≤ (RT 4 q : Nat) ∧ ((RT 4 q : Nat) : Int) ≤ b)
def riOk (a b : Int) : Bool := decide (1 ≤ a ∧ a ≤ b ∧ b ≤ 63)
def riL (a b : Int) : List (Int × Int) := if riOk a b then stL (riP a.toNat b.toNat) else []
def riE (a b : Int) : Int := if riOk a b then stE (riP a.toNat b.toNat) else 2
theorem okR_four (r : Int) : okR 4 r = decide (1 ≤ r ∧ r ≤ 63) := okR_k (k := 4) (by omega) r
def riTo (a b n q : Nat) : Bool := if q < n then riP a b q else false
theorem riTo_snoc (a b n q : Nat) : riTo a b (n + 1) q = if q = n then riP a b n else riTo a b n q := by
  unfold riTo
  by_cases e : q = n
  · subst e; simp
  · rw [if_neg e]
    by_cases h : q < n
    · rw [if_pos h, if_pos (by omega)]
    · rw [if_neg h, if_neg (by omega)]
set_option maxRecDepth 100000 in
set_option maxHeartbeats 1000000 in
theorem refRings_yes (a b : Nat) (h1 : 1 ≤ a) (h2 : a ≤ b) (h3 : b ≤ 63) (w : World) :
    Calls Try.prog 61 #[.int .i64 (a : Int), .int .i64 (b : Int)] w fun e w' => ∃ A' c', e = .returned (.tuple #[.slice A' (stL (riP a b)).length c', .int .i64 (stE (riP a b))]) ∧ Clk w' A' c' (stL (riP a b)) ∧ Below w.heap.size w w' := by
  have C1 : Hid (∀ x : Int, 1 ≤ x → x ≤ 63 → ∀ W, Calls Try.prog 85 #[.int .i64 4, .int .i64 x] W fun e w' => e = .returned (.bool true) ∧ W = w') :=
    Lib.hid (fun x hx hy W => (isRing_any 4 x W).mono fun _ _ h => ⟨by rw [h.1, okR_four, decide_eq_true ⟨hx, hy⟩], h.2⟩)
  have CR : Hid (∀ p : Nat, p < 3072 → ∀ W, Calls Try.prog 27 #[.int .i64 4, .int .i64 (p : Int)] W fun e w' => e = .returned (.tuple #[.int .i64 (RT 4 p : Nat), .int .i64 (PT 4 p : Nat), .int .i64 0]) ∧ Drawn W w') :=
    Lib.hid (fun p hp W => refRingOf_yes 4 p (by omega) (by rw [px_top]; exact hp) W)
  have HN := Lib.hid (riTo_snoc a b)
  have HP : Hid (∀ n, riP a b n = decide ((a : Int) ≤ (RT 4 n : Nat) ∧ ((RT 4 n : Nat) : Int) ≤ b)) := Lib.hid (fun n => rfl)
  have TA : Hid True := Lib.hid trivial
  have hd : decide ((b : Int) < (a : Int)) = false := decide_eq_false (by omega)
  have hd2 : decide (b < a) = false := decide_eq_false (by omega)
  go_enter Try.func61, Try.ntmps61
  go_wp2_with (first
    | (go_at_call 85; refine (C1.out _ (by omega) (by omega) _).mono ?_; rintro e w1 ⟨rfl, rfl⟩)
    | (go_at_call 112; refine (nothing_any _).mono ?_; rintro e w5 ⟨rfl, hO5, hB5⟩; have HO5 := Lib.hid hO5; clear hO5)
    | fail)
  go_loopw [7] (fun i wr => ∃ n : Nat, n ≤ 3072 ∧ i = .int .i64 n ∧ OwnA wr w.heap.size w.heap.size (riTo a b n) ∧ Below w.heap.size w wr) (fun i _ => 3072 - (intOf i).toNat)
  case atStart => exact ⟨0, Nat.zero_le _, rfl, HO5.out.congr (fun q _ => by simp [riTo]), hB5⟩
  case round =>
    clear HO5 hB5
    obtain ⟨n, hn, rfl, hO, hB⟩ := hrel
    by_cases hlt : n < 3072
    · have tq : decide ((n : Int) < 3072) = true := decide_eq_true (by omega)
      have cc := hO.area.2 n hlt
      have cf := World.ownsRow.frozenAt hO n
      have HO := Lib.hid hO
      have CA := Lib.hid (CR.out n hlt)
      have HPn := Lib.hid (HP.out n)
      clear hO
      go_wp2_with (first
        | (go_at_call 27; refine (CA.out _).mono ?_; rintro e w2 ⟨rfl, m2, rfl⟩)
        | (go_at_call 80; refine (within_any _ _ _ _).mono ?_; rintro e w3 ⟨he, rfl⟩; rw [← HPn.out] at he; subst he)
        | fail)
      go_roundw
      case rel => exact ⟨n + 1, by omega, by go_num, (HO.out.drewN _).put (HN.out n), Below.setCell (below_drewN hB _) (Nat.le_refl _) _⟩
      case measure => simp [intOf]; omega
    · obtain rfl : n = 3072 := by omega
      have HO : Hid (OwnA wr w.heap.size w.heap.size (riP a b)) := Lib.hid (hO.congr fun q hq => by rw [riTo, if_pos hq])
      clear hO
      go_wp2_with (go_at_call 95; refine (refSetA_any _ _ _ _ HO.out.area).mono ?_; rintro e w8 ⟨A8, c8, rfl, hC8, hB8⟩; have hW8 := below_step hB hB8; have HC8 := Lib.hid hC8; clear hC8 hB8)
      go_ret2
      exact ⟨A8, c8, rfl, HC8.out, hW8⟩
set_option maxRecDepth 100000 in
theorem refRings_any (a b : Int) (w : World) :
    Calls Try.prog 61 #[.int .i64 a, .int .i64 b] w fun e w' => ∃ A' c', e = .returned (.tuple #[.slice A' (riL a b).length c', .int .i64 (riE a b)]) ∧ Clk w' A' c' (riL a b) ∧ Below w.heap.size w w' := by
  cases h : riOk a b with
  | true =>
    have h0 := h
    simp only [riOk, decide_eq_true_eq] at h0
    obtain ⟨x, rfl⟩ : ∃ x : Nat, a = x := ⟨a.toNat, by omega⟩
    obtain ⟨y, rfl⟩ : ∃ x : Nat, b = x := ⟨b.toNat, by omega⟩
    have e1 : riL x y = stL (riP x y) := by simp [riL, h]
    have e2 : riE x y = stE (riP x y) := by simp [riE, h]
    rw [e1, e2]
    exact refRings_yes x y (by omega) (by omega) (by omega) w
  | false =>
    have e1 : riL a b = [] := by simp [riL, h]
    have e2 : riE a b = 2 := by simp [riE, h]
    rw [e1, e2]
    simp only [riOk, decide_eq_false_iff_not] at h
    have C1 : Hid (∀ x : Int, ∀ W, Calls Try.prog 85 #[.int .i64 4, .int .i64 x] W fun e w' => e = .returned (.bool (decide (1 ≤ x ∧ x ≤ 63))) ∧ W = w') :=
      Lib.hid (fun x W => (isRing_any 4 x W).mono fun _ _ h => ⟨by rw [h.1, okR_four], h.2⟩)
    have TA : Hid True := Lib.hid trivial
    clear e1 e2
    by_cases ha : 1 ≤ a ∧ a ≤ 63
    · have ta : decide (1 ≤ a ∧ a ≤ 63) = true := decide_eq_true ha
      have CA := Lib.hid (fun W => C1.out a W)
      rw [ta] at CA
      by_cases hb : 1 ≤ b ∧ b ≤ 63
      · have tb : decide (1 ≤ b ∧ b ≤ 63) = true := decide_eq_true hb
        have CB := Lib.hid (fun W => C1.out b W)
        rw [tb] at CB
        have hd : decide (b < a) = true := decide_eq_true (by omega)
        clear ta tb ha hb h
        go_enter Try.func61, Try.ntmps61
        go_wp2_with (first
          | (go_at_call 85; with_reducible refine (CA.out _).mono ?_; clear TA; rintro e w1 ⟨rfl, rfl⟩)
          | (go_at_call 85; with_reducible refine (CB.out _).mono ?_; rintro e w1 ⟨rfl, rfl⟩))
        go_ret2
        exact ⟨none, 0, rfl, Clk.nil_, Below.refl _ _⟩
      · have tb : decide (1 ≤ b ∧ b ≤ 63) = false := decide_eq_false hb
        have CB := Lib.hid (fun W => C1.out b W)
        rw [tb] at CB
        clear ta tb ha hb h
        go_enter Try.func61, Try.ntmps61
        go_wp2_with (first
          | (go_at_call 85; with_reducible refine (CA.out _).mono ?_; clear TA; rintro e w1 ⟨rfl, rfl⟩)
          | (go_at_call 85; with_reducible refine (CB.out _).mono ?_; rintro e w1 ⟨rfl, rfl⟩))
        go_ret2
        exact ⟨none, 0, rfl, Clk.nil_, Below.refl _ _⟩
    · have ta : decide (1 ≤ a ∧ a ≤ 63) = false := decide_eq_false ha
      have CA := Lib.hid (fun W => C1.out a W)
      rw [ta] at CA
      clear ta ha h
      go_enter Try.func61, Try.ntmps61
      go_wp2_with (go_at_call 85; with_reducible refine (CA.out _).mono ?_; rintro e w1 ⟨rfl, rfl⟩)
      go_ret2
      exact ⟨none, 0, rfl, Clk.nil_, Below.refl _ _⟩
end Go.Proofs.Ytnnfnphmieikmaa
