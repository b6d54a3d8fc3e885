/-
  Contracts: Nested, up, Up, Children; those of the reference.
-/
import Derived.Test.YtnnfnphmieikmaaTold
namespace Go.Proofs.Ytnnfnphmieikmaa
open Go Go.RowKit Go.Shelf

def neOk (n f x y : Int) : Bool := okO n && decide (0 ≤ f ∧ f ≤ 11) && decide (0 ≤ x ∧ x < sdI n.toNat) && decide (0 ≤ y ∧ y < sdI n.toNat)
def neV (n f x y : Int) : Int := if neOk n f x y then ((nB n.toNat f.toNat n.toNat x.toNat y.toNat : Nat) : Int) else 0
def neE (n f x y : Int) : Int := if neOk n f x y then 0 else 2
theorem sd_nat (k : Nat) : sdI k = ((2 ^ k : Nat) : Int) := by simp [sdI]
theorem okO_k {k : Nat} (hk : k < 5) : okO (k : Int) = true := by simp [okO]; omega

set_option maxRecDepth 100000 in
theorem skyNested_no (n f x y : Int) (w : World) (h : neOk n f x y = false) :
    Calls Try.prog 29 #[.int .i64 n, .int .i64 f, .int .i64 x, .int .i64 y] w fun e w' => e = .returned (.tuple #[.int .i64 0, .int .i64 2]) ∧ Below w.heap.size w w' := by
  cases hO : okO n with
  | false =>
    have HO := Lib.hid hO
    clear hO h
    go_enter Try.func29, Try.ntmps29
    go_wp2_with (go_at_call 65; refine (validOrder_any n _).mono ?_; rintro e w1 ⟨he, rfl⟩; rw [HO.out] at he; subst he)
    go_ret2
    exact ⟨rfl, Below.refl _ _⟩
  | true =>
    obtain ⟨k, rfl, hk⟩ := okO_of hO
    have hh : f < 0 ∨ 11 < f ∨ x < 0 ∨ y < 0 ∨ sdI k ≤ x ∨ sdI k ≤ y := by
      simp [neOk, hO] at h; omega
    have HO := Lib.hid hO
    obtain ⟨b1, b2⟩ := sd_bd hk
    clear hO h
    go_enter Try.func29, Try.ntmps29
    go_wp2_with (first | (go_at_call 65; refine (validOrder_any k _).mono ?_; rintro e w1 ⟨he, rfl⟩; rw [HO.out] at he; subst he) | (go_at_call 81; refine (side_any k hk _).mono ?_; rintro e w1 ⟨rfl, rfl⟩))
    all_goals
      go_ret2
      exact ⟨rfl, Below.refl _ _⟩
theorem neOk_of {n f x y : Int} (h : neOk n f x y = true) : ∃ k a b c : Nat, n = k ∧ f = a ∧ x = b ∧ y = c ∧ k < 5 ∧ a < 12 ∧ b < 2 ^ k ∧ c < 2 ^ k := by
  simp only [neOk, Bool.and_eq_true, decide_eq_true_eq] at h
  obtain ⟨k, rfl, hk⟩ := okO_of h.1.1.1
  have e := sd_nat k
  rw [Int.toNat_natCast] at h
  exact ⟨k, f.toNat, x.toNat, y.toNat, rfl, by omega, by omega, by omega, hk, by omega, by omega, by omega⟩
theorem pow_le16 {k : Nat} (hk : k < 5) : 2 ^ k ≤ 16 := by
  obtain rfl | rfl | rfl | rfl | rfl := five hk <;> decide
set_option maxRecDepth 100000 in
theorem skyNested_yes (k f x y : Nat) (hk : k < 5) (hf : f < 12) (hx : x < 2 ^ k) (hy : y < 2 ^ k) (w : World) :
    Calls Try.prog 29 #[.int .i64 (k : Int), .int .i64 (f : Int), .int .i64 (x : Int), .int .i64 (y : Int)] w fun e w' => e = .returned (.tuple #[.int .i64 (nB k f k x y : Nat), .int .i64 0]) ∧ Below w.heap.size w w' := by
  have HO := Lib.hid (okO_k hk)
  have hl := pow_le16 hk
  have cS : ∀ W, Calls Try.prog 81 #[.int .i64 (k : Int)] W fun e w' => e = .returned (.int .i64 ((2 ^ k : Nat) : Int)) ∧ W = w' := fun W => (side_any k hk W).mono fun _ _ h => ⟨by rw [h.1, sd_nat], h.2⟩
  obtain ⟨S, hS⟩ : ∃ S, S = 2 ^ k := ⟨_, rfl⟩
  rw [← hS] at cS hx hy hl
  have CS := Lib.hid cS
  clear cS hS
  go_enter Try.func29, Try.ntmps29
  go_wp2_with (first | (go_at_call 65; refine (validOrder_any k _).mono ?_; rintro e w1 ⟨he, rfl⟩; rw [HO.out] at he; subst he) | (go_at_call 81; refine (CS.out _).mono ?_; rintro e w1 ⟨rfl, rfl⟩) | (go_at_call 82; refine (nested_any k f x y hk hf (by omega) (by omega) _).mono ?_; rintro e w1 ⟨rfl, hB1⟩))
  all_goals
    first
      | (exfalso; split at * <;> omega)
      | (exfalso; omega)
      | (go_ret2
         exact ⟨rfl, hB1⟩)
theorem skyNested_any (n f x y : Int) (w : World) :
    Calls Try.prog 29 #[.int .i64 n, .int .i64 f, .int .i64 x, .int .i64 y] w fun e w' => e = .returned (.tuple #[.int .i64 (neV n f x y), .int .i64 (neE n f x y)]) ∧ Below w.heap.size w w' := by
  cases h : neOk n f x y with
  | false => exact (skyNested_no n f x y w h).mono fun _ _ hh => ⟨by rw [hh.1]; simp [neV, neE, h], hh.2⟩
  | true =>
    have h0 := h
    obtain ⟨k, a, b, c, rfl, rfl, rfl, rfl, hk, ha, hb, hc⟩ := neOk_of h
    exact (skyNested_yes k a b c hk ha hb hc w).mono fun _ _ hh => ⟨by rw [hh.1]; simp [neV, neE, h0], hh.2⟩

set_option maxRecDepth 100000 in
theorem refNested_no (n f x y : Int) (w : World) (h : neOk n f x y = false) :
    Calls Try.prog 30 #[.int .i64 n, .int .i64 f, .int .i64 x, .int .i64 y] w fun e w' => e = .returned (.tuple #[.int .i64 0, .int .i64 2]) ∧ Below w.heap.size w w' := by
  cases hO : okO n with
  | false =>
    have HO := Lib.hid hO
    clear hO h
    go_enter Try.func30, Try.ntmps30
    go_wp2_with (go_at_call 67; refine (isOrder_any n _).mono ?_; rintro e w1 ⟨he, rfl⟩; rw [HO.out] at he; subst he)
    go_ret2
    exact ⟨rfl, Below.refl _ _⟩
  | true =>
    obtain ⟨k, rfl, hk⟩ := okO_of hO
    have hh : ¬ (0 ≤ f ∧ f ≤ 11) ∨ ¬ (0 ≤ x ∧ x ≤ sdI k - 1) ∨ ¬ (0 ≤ y ∧ y ≤ sdI k - 1) := by
      simp [neOk, hO] at h; omega
    have HO := Lib.hid hO
    obtain ⟨b1, b2⟩ := sd_bd hk
    clear hO h
    go_enter Try.func30, Try.ntmps30
    go_wp2_with (first | (go_at_call 67; refine (isOrder_any k _).mono ?_; rintro e w1 ⟨he, rfl⟩; rw [HO.out] at he; subst he) | (go_at_call 72; refine (refSide_any k hk _).mono ?_; rintro e w1 ⟨rfl, rfl⟩) | (go_at_call 80; refine (within_any _ _ _ _).mono ?_; rintro e w1 ⟨rfl, rfl⟩))
    all_goals
      first
        | (exfalso; simp_all; done)
        | (exfalso; simp at *; omega)
        | (go_ret2
           exact ⟨rfl, Below.refl _ _⟩)
set_option maxRecDepth 100000 in
theorem refNested_yes (k f x y : Nat) (hk : k < 5) (hf : f < 12) (hx : x < 2 ^ k) (hy : y < 2 ^ k) (w : World) :
    Calls Try.prog 30 #[.int .i64 (k : Int), .int .i64 (f : Int), .int .i64 (x : Int), .int .i64 (y : Int)] w fun e w' => e = .returned (.tuple #[.int .i64 (nB k f k x y : Nat), .int .i64 0]) ∧ Below w.heap.size w w' := by
  have HO := Lib.hid (okO_k hk)
  have hl := pow_le16 hk
  have cS : ∀ W, Calls Try.prog 72 #[.int .i64 (k : Int)] W fun e w' => e = .returned (.int .i64 (sdI k)) ∧ W = w' := fun W => refSide_any k hk W
  have t1 : decide ((0 : Int) ≤ f ∧ (f : Int) ≤ 11) = true := decide_eq_true (by omega)
  have t2 : decide ((0 : Int) ≤ x ∧ (x : Int) ≤ sdI k - 1) = true := decide_eq_true (by rw [sd_nat]; omega)
  have t3 : decide ((0 : Int) ≤ y ∧ (y : Int) ≤ sdI k - 1) = true := decide_eq_true (by rw [sd_nat]; omega)
  have c1 : ∀ W, Calls Try.prog 80 #[.int .i64 0, .int .i64 (f : Int), .int .i64 11] W fun e w' => e = .returned (.bool true) ∧ W = w' := fun W => (within_any _ _ _ W).mono fun _ _ h => ⟨by rw [h.1, t1], h.2⟩
  have c2 : ∀ W, Calls Try.prog 80 #[.int .i64 0, .int .i64 (x : Int), .int .i64 (sdI k - 1)] W fun e w' => e = .returned (.bool true) ∧ W = w' := fun W => (within_any _ _ _ W).mono fun _ _ h => ⟨by rw [h.1, t2], h.2⟩
  have c3 : ∀ W, Calls Try.prog 80 #[.int .i64 0, .int .i64 (y : Int), .int .i64 (sdI k - 1)] W fun e w' => e = .returned (.bool true) ∧ W = w' := fun W => (within_any _ _ _ W).mono fun _ _ h => ⟨by rw [h.1, t3], h.2⟩
  obtain ⟨b1, b2⟩ := sd_bd hk
  obtain ⟨m1, m2⟩ := mul_bd (a := (f : Int)) (b := sdI k) (A := 11) (B := 16) (by omega) (by omega) (by omega) b2
  obtain ⟨m3, m4⟩ := mul_bd (a := (f : Int) * sdI k) (b := sdI k) (A := 176) (B := 16) m1 (by omega) (by omega) b2
  have hb := bI_bd x y (show k ≤ 4 by omega)
  have HE : Hid ((f : Int) * sdI k * sdI k + (bI k x y : Nat) = (nB k f k x y : Nat)) := Lib.hid (by
    rw [sd_nat]; unfold nB; rw [show 2 ^ (2 * k) = 2 ^ k * 2 ^ k by rw [← Nat.pow_add]; congr 1; omega]; simp [Int.mul_assoc])
  have CS := Lib.hid cS
  have C1 := Lib.hid c1
  have C2 := Lib.hid c2
  have C3 := Lib.hid c3
  have TA : Hid True := Lib.hid trivial
  have TB : Hid True := Lib.hid trivial
  clear cS t1 t2 t3 c1 c2 c3
  go_enter Try.func30, Try.ntmps30
  go_wp2_with (first | (go_at_call 67; refine (isOrder_any k _).mono ?_; rintro e w1 ⟨he, rfl⟩; rw [HO.out] at he; subst he) | (go_at_call 72; refine (CS.out _).mono ?_; rintro e w1 ⟨rfl, rfl⟩) | (go_at_call 80; with_reducible refine (C1.out _).mono ?_; clear TA; rintro e w1 ⟨rfl, rfl⟩) | (go_at_call 80; with_reducible refine (C2.out _).mono ?_; clear TB; rintro e w1 ⟨rfl, rfl⟩) | (go_at_call 80; with_reducible refine (C3.out _).mono ?_; rintro e w1 ⟨rfl, rfl⟩) | (go_at_call 73; refine (bits_any k x y hk (by omega) (by omega) _).mono ?_; rintro e w1 ⟨rfl, nq, rfl⟩))
  go_ret2
  exact ⟨by rw [HE.out]; rfl, below_drewN (Below.refl _ _) _⟩
theorem refNested_any (n f x y : Int) (w : World) :
    Calls Try.prog 30 #[.int .i64 n, .int .i64 f, .int .i64 x, .int .i64 y] w fun e w' => e = .returned (.tuple #[.int .i64 (neV n f x y), .int .i64 (neE n f x y)]) ∧ Below w.heap.size w w' := by
  cases h : neOk n f x y with
  | false => exact (refNested_no n f x y w h).mono fun _ _ hh => ⟨by rw [hh.1]; simp [neV, neE, h], hh.2⟩
  | true =>
    have h0 := h
    obtain ⟨k, a, b, c, rfl, rfl, rfl, rfl, hk, ha, hb, hc⟩ := neOk_of h
    exact (refNested_yes k a b c hk ha hb hc w).mono fun _ _ hh => ⟨by rw [hh.1]; simp [neV, neE, h0], hh.2⟩
end Go.Proofs.Ytnnfnphmieikmaa
