/-
  Contracts of the reference: RingOf, Ring, FromRing.
-/
import Derived.Test.YtnnfnphmieikmaaRefPlace
namespace Go.Proofs.Ytnnfnphmieikmaa
open Go Go.RowKit Go.Shelf

theorem placeR_sd (k : Nat) (f x y : Int) : placeR k f x y = if 4 * sdI k < (twiceI k f x y).tdiv 2 then (twiceI k f x y).tdiv 2 - 4 * sdI k else if (twiceI k f x y).tdiv 2 < 1 then (twiceI k f x y).tdiv 2 + 4 * sdI k else (twiceI k f x y).tdiv 2 := rfl
theorem placeR_hi {k : Nat} {f x y Q : Int} (e : (twiceI k f x y).tdiv 2 = Q) (h : 4 * sdI k < Q) : placeR k f x y = Q - 4 * sdI k := by
  subst e; rw [placeR_sd, if_pos h]
theorem placeR_lo {k : Nat} {f x y Q : Int} (e : (twiceI k f x y).tdiv 2 = Q) (h : ¬ 4 * sdI k < Q) (h2 : Q < 1) : placeR k f x y = Q + 4 * sdI k := by
  subst e; rw [placeR_sd, if_neg h, if_pos h2]
theorem placeR_mid {k : Nat} {f x y Q : Int} (e : (twiceI k f x y).tdiv 2 = Q) (h : ¬ 4 * sdI k < Q) (h2 : ¬ Q < 1) : placeR k f x y = Q := by
  subst e; rw [placeR_sd, if_neg h, if_neg h2]
theorem odd_yes {k : Nat} {r : Int} (h : sdI k ≤ r ∧ r ≤ 3 * sdI k) (h3 : (r - sdI k) % 2 = 1) : oddI k r = 1 := odd_one h.1 (by omega) (by simpa using h3)
theorem odd_no {k : Nat} {r : Int} (h : ¬ (sdI k ≤ r ∧ r ≤ 3 * sdI k) ∨ ¬ (r - sdI k) % 2 = 1) : oddI k r = 0 := by
  refine odd_zero ?_
  rcases h with h | h
  · omega
  · exact .inr (.inr (by simpa using h))

set_option maxRecDepth 100000 in
theorem ringOf_mid_odd (k p : Nat) (hk : k < 5) (f x y R : Int) (f0 : 0 ≤ f) (f1 : f < 12) (x0 : 0 ≤ x) (x1 : x < sdI k) (y0 : 0 ≤ y) (y1 : y < sdI k) (hR : ringI k f x y = R) (r1 : 1 ≤ R) (r2 : R ≤ 4 * sdI k - 1)
    (hf : f / 4 = 1) (hw : decide (sdI k ≤ R ∧ R ≤ 3 * sdI k) = true) (ho : (R - sdI k) % 2 = 1) (w : World) (CA : Hid (∀ W, Calls Try.prog 21 #[.int .i64 (k : Int), .int .i64 (p : Int)] W fun e w' => e = .returned (.tuple #[.int .i64 f, .int .i64 x, .int .i64 y, .int .i64 0]) ∧ Drawn W w')) :
    Calls Try.prog 27 #[.int .i64 (k : Int), .int .i64 (p : Int)] w fun e w' => e = .returned (.tuple #[.int .i64 R, .int .i64 (placeR k f x y), .int .i64 0]) ∧ Drawn w w' := by
  obtain ⟨b1, b2⟩ := sd_bd hk
  obtain ⟨l0, l1⟩ := len_bd hk r1 r2
  have cL := fun W => refLength_any k hk R (by omega) (by omega) W
  have CS := Lib.hid (fun W => refSide_any k hk W)
  have hE : 2 * (f % 4) = eighI f := by rw [eighI, if_pos hf]
  obtain ⟨v0, v1⟩ := eigh_bd f0 f1
  have hodd : oddI k R = 1 := odd_yes (of_decide_eq_true hw) ho
  have hT := twice_eq (k := k) (f := f) (x := x) (y := y) (R := R) (L := lenI k R) (E := eighI f) (o := 1) hR.symm rfl rfl hodd
  obtain ⟨E, eE⟩ : ∃ E, eighI f = E := ⟨_, rfl⟩
  obtain ⟨L, eL⟩ : ∃ L, lenI k R = L := ⟨_, rfl⟩
  rw [eE] at hE hT v0 v1
  rw [eL] at hT l0 l1 cL
  obtain ⟨m0, m1⟩ := mul_bd (a := E) (b := L / 4) (A := 7) (B := 16) v0 v1 (by omega) (by omega)
  have CL := Lib.hid cL
  obtain ⟨q0, q1⟩ := tdiv2_bd (T := E * (L / 4) + x - y + 1 + 1) (by omega) (by omega)
  obtain ⟨Q, eQ⟩ : ∃ Q, (E * (L / 4) + x - y + 1 + 1).tdiv 2 = Q := ⟨_, rfl⟩
  have HQ : Hid ((twiceI k f x y).tdiv 2 = Q) := Lib.hid (by rw [hT]; exact eQ)
  rw [eQ] at q0 q1
  have t1 : (f / 4 == 1) = true := by simpa using hf
  have hsR : sdI k ≤ R := (of_decide_eq_true hw).1
  have t2 : ((R - sdI k) % 2 == 1) = true := by simpa using ho
  have eR : (2 + f / 4) * sdI k - x - y - 1 = R := by rw [← hR, ring_sd]
  obtain ⟨n0, n1⟩ := mul_bd (a := 2 + f / 4) (b := sdI k) (A := 5) (B := 16) (by omega) (by omega) (by omega) b2
  have HW := Lib.hid hw
  clear hw hodd hT eE eL cL hR hf ho
  go_enter Try.func27, Try.ntmps27
  go_wp2_with (first
    | (go_at_call 21; refine (CA.out _).mono ?_; rintro e w1 ⟨rfl, hD⟩)
    | (go_at_call 72; refine (CS.out _).mono ?_; rintro e w2 ⟨rfl, rfl⟩)
    | (go_at_call 80; refine (within_any _ _ _ _).mono ?_; rintro e w2 ⟨he, rfl⟩; rw [HW.out] at he; subst he)
    | (go_at_call 76; refine (CL.out _).mono ?_; rintro e w2 ⟨rfl, rfl⟩)
    | fail)
  all_goals
    go_ret3
    refine ⟨?_, hD⟩
    first
      | (rw [placeR_hi HQ.out (by assumption)]; rfl)
      | (rw [placeR_lo HQ.out (by omega) (by assumption)]; rfl)
      | (rw [placeR_mid HQ.out (by omega) (by omega)]; rfl)

set_option maxRecDepth 100000 in
theorem ringOf_mid_even (k p : Nat) (hk : k < 5) (f x y R : Int) (f0 : 0 ≤ f) (f1 : f < 12) (x0 : 0 ≤ x) (x1 : x < sdI k) (y0 : 0 ≤ y) (y1 : y < sdI k) (hR : ringI k f x y = R) (r1 : 1 ≤ R) (r2 : R ≤ 4 * sdI k - 1)
    (hf : f / 4 = 1) (hw : decide (sdI k ≤ R ∧ R ≤ 3 * sdI k) = true) (ho : ¬ (R - sdI k) % 2 = 1) (w : World) (CA : Hid (∀ W, Calls Try.prog 21 #[.int .i64 (k : Int), .int .i64 (p : Int)] W fun e w' => e = .returned (.tuple #[.int .i64 f, .int .i64 x, .int .i64 y, .int .i64 0]) ∧ Drawn W w')) :
    Calls Try.prog 27 #[.int .i64 (k : Int), .int .i64 (p : Int)] w fun e w' => e = .returned (.tuple #[.int .i64 R, .int .i64 (placeR k f x y), .int .i64 0]) ∧ Drawn w w' := by
  obtain ⟨b1, b2⟩ := sd_bd hk
  obtain ⟨l0, l1⟩ := len_bd hk r1 r2
  have cL := fun W => refLength_any k hk R (by omega) (by omega) W
  have CS := Lib.hid (fun W => refSide_any k hk W)
  have hE : 2 * (f % 4) = eighI f := by rw [eighI, if_pos hf]
  obtain ⟨v0, v1⟩ := eigh_bd f0 f1
  have hodd : oddI k R = 0 := odd_no (.inr ho)
  have hT := twice_eq (k := k) (f := f) (x := x) (y := y) (R := R) (L := lenI k R) (E := eighI f) (o := 0) hR.symm rfl rfl hodd
  obtain ⟨E, eE⟩ : ∃ E, eighI f = E := ⟨_, rfl⟩
  obtain ⟨L, eL⟩ : ∃ L, lenI k R = L := ⟨_, rfl⟩
  rw [eE] at hE hT v0 v1
  rw [eL] at hT l0 l1 cL
  obtain ⟨m0, m1⟩ := mul_bd (a := E) (b := L / 4) (A := 7) (B := 16) v0 v1 (by omega) (by omega)
  have CL := Lib.hid cL
  obtain ⟨q0, q1⟩ := tdiv2_bd (T := E * (L / 4) + x - y + 1) (by omega) (by omega)
  have HQ : Hid ((twiceI k f x y).tdiv 2 = (E * (L / 4) + x - y + 1).tdiv 2) := Lib.hid (by rw [hT, Int.add_zero])
  have t1 : (f / 4 == 1) = true := by simpa using hf
  have hsR : sdI k ≤ R := (of_decide_eq_true hw).1
  have t2 : ((R - sdI k) % 2 == 1) = false := by simpa using ho
  have eR : (2 + f / 4) * sdI k - x - y - 1 = R := by rw [← hR, ring_sd]
  obtain ⟨n0, n1⟩ := mul_bd (a := 2 + f / 4) (b := sdI k) (A := 5) (B := 16) (by omega) (by omega) (by omega) b2
  have HW := Lib.hid hw
  clear hw hodd hT eE eL cL hR hf ho
  go_enter Try.func27, Try.ntmps27
  go_wp2_with (first
    | (go_at_call 21; refine (CA.out _).mono ?_; rintro e w1 ⟨rfl, hD⟩)
    | (go_at_call 72; refine (CS.out _).mono ?_; rintro e w2 ⟨rfl, rfl⟩)
    | (go_at_call 80; refine (within_any _ _ _ _).mono ?_; rintro e w2 ⟨he, rfl⟩; rw [HW.out] at he; subst he)
    | (go_at_call 76; refine (CL.out _).mono ?_; rintro e w2 ⟨rfl, rfl⟩)
    | fail)
  all_goals
    go_ret3
    refine ⟨?_, hD⟩
    first
      | (rw [placeR_hi HQ.out (by assumption)]; rfl)
      | (rw [placeR_lo HQ.out (by omega) (by assumption)]; rfl)
      | (rw [placeR_mid HQ.out (by omega) (by omega)]; rfl)

set_option maxRecDepth 100000 in
theorem ringOf_mid_out (k p : Nat) (hk : k < 5) (f x y R : Int) (f0 : 0 ≤ f) (f1 : f < 12) (x0 : 0 ≤ x) (x1 : x < sdI k) (y0 : 0 ≤ y) (y1 : y < sdI k) (hR : ringI k f x y = R) (r1 : 1 ≤ R) (r2 : R ≤ 4 * sdI k - 1)
    (hf : f / 4 = 1) (hw : decide (sdI k ≤ R ∧ R ≤ 3 * sdI k) = false) (w : World) (CA : Hid (∀ W, Calls Try.prog 21 #[.int .i64 (k : Int), .int .i64 (p : Int)] W fun e w' => e = .returned (.tuple #[.int .i64 f, .int .i64 x, .int .i64 y, .int .i64 0]) ∧ Drawn W w')) :
    Calls Try.prog 27 #[.int .i64 (k : Int), .int .i64 (p : Int)] w fun e w' => e = .returned (.tuple #[.int .i64 R, .int .i64 (placeR k f x y), .int .i64 0]) ∧ Drawn w w' := by
  obtain ⟨b1, b2⟩ := sd_bd hk
  obtain ⟨l0, l1⟩ := len_bd hk r1 r2
  have cL := fun W => refLength_any k hk R (by omega) (by omega) W
  have CS := Lib.hid (fun W => refSide_any k hk W)
  have hE : 2 * (f % 4) = eighI f := by rw [eighI, if_pos hf]
  obtain ⟨v0, v1⟩ := eigh_bd f0 f1
  have hodd : oddI k R = 0 := odd_no (.inl (of_decide_eq_false hw))
  have hT := twice_eq (k := k) (f := f) (x := x) (y := y) (R := R) (L := lenI k R) (E := eighI f) (o := 0) hR.symm rfl rfl hodd
  obtain ⟨E, eE⟩ : ∃ E, eighI f = E := ⟨_, rfl⟩
  obtain ⟨L, eL⟩ : ∃ L, lenI k R = L := ⟨_, rfl⟩
  rw [eE] at hE hT v0 v1
  rw [eL] at hT l0 l1 cL
  obtain ⟨m0, m1⟩ := mul_bd (a := E) (b := L / 4) (A := 7) (B := 16) v0 v1 (by omega) (by omega)
  have CL := Lib.hid cL
  obtain ⟨q0, q1⟩ := tdiv2_bd (T := E * (L / 4) + x - y + 1) (by omega) (by omega)
  have HQ : Hid ((twiceI k f x y).tdiv 2 = (E * (L / 4) + x - y + 1).tdiv 2) := Lib.hid (by rw [hT, Int.add_zero])
  have t1 : (f / 4 == 1) = true := by simpa using hf
  have eR : (2 + f / 4) * sdI k - x - y - 1 = R := by rw [← hR, ring_sd]
  obtain ⟨n0, n1⟩ := mul_bd (a := 2 + f / 4) (b := sdI k) (A := 5) (B := 16) (by omega) (by omega) (by omega) b2
  have HW := Lib.hid hw
  clear hw hodd hT eE eL cL hR hf
  go_enter Try.func27, Try.ntmps27
  go_wp2_with (first
    | (go_at_call 21; refine (CA.out _).mono ?_; rintro e w1 ⟨rfl, hD⟩)
    | (go_at_call 72; refine (CS.out _).mono ?_; rintro e w2 ⟨rfl, rfl⟩)
    | (go_at_call 80; refine (within_any _ _ _ _).mono ?_; rintro e w2 ⟨he, rfl⟩; rw [HW.out] at he; subst he)
    | (go_at_call 76; refine (CL.out _).mono ?_; rintro e w2 ⟨rfl, rfl⟩)
    | fail)
  all_goals
    go_ret3
    refine ⟨?_, hD⟩
    first
      | (rw [placeR_hi HQ.out (by assumption)]; rfl)
      | (rw [placeR_lo HQ.out (by omega) (by assumption)]; rfl)
      | (rw [placeR_mid HQ.out (by omega) (by omega)]; rfl)

set_option maxRecDepth 100000 in
theorem ringOf_cap_odd (k p : Nat) (hk : k < 5) (f x y R : Int) (f0 : 0 ≤ f) (f1 : f < 12) (x0 : 0 ≤ x) (x1 : x < sdI k) (y0 : 0 ≤ y) (y1 : y < sdI k) (hR : ringI k f x y = R) (r1 : 1 ≤ R) (r2 : R ≤ 4 * sdI k - 1)
    (hf : ¬ f / 4 = 1) (hw : decide (sdI k ≤ R ∧ R ≤ 3 * sdI k) = true) (ho : (R - sdI k) % 2 = 1) (w : World) (CA : Hid (∀ W, Calls Try.prog 21 #[.int .i64 (k : Int), .int .i64 (p : Int)] W fun e w' => e = .returned (.tuple #[.int .i64 f, .int .i64 x, .int .i64 y, .int .i64 0]) ∧ Drawn W w')) :
    Calls Try.prog 27 #[.int .i64 (k : Int), .int .i64 (p : Int)] w fun e w' => e = .returned (.tuple #[.int .i64 R, .int .i64 (placeR k f x y), .int .i64 0]) ∧ Drawn w w' := by
  obtain ⟨b1, b2⟩ := sd_bd hk
  obtain ⟨l0, l1⟩ := len_bd hk r1 r2
  have cL := fun W => refLength_any k hk R (by omega) (by omega) W
  have CS := Lib.hid (fun W => refSide_any k hk W)
  have hE : 1 + 2 * (f % 4) = eighI f := by rw [eighI, if_neg hf]; omega
  obtain ⟨v0, v1⟩ := eigh_bd f0 f1
  have hodd : oddI k R = 1 := odd_yes (of_decide_eq_true hw) ho
  have hT := twice_eq (k := k) (f := f) (x := x) (y := y) (R := R) (L := lenI k R) (E := eighI f) (o := 1) hR.symm rfl rfl hodd
  obtain ⟨E, eE⟩ : ∃ E, eighI f = E := ⟨_, rfl⟩
  obtain ⟨L, eL⟩ : ∃ L, lenI k R = L := ⟨_, rfl⟩
  rw [eE] at hE hT v0 v1
  rw [eL] at hT l0 l1 cL
  obtain ⟨m0, m1⟩ := mul_bd (a := E) (b := L / 4) (A := 7) (B := 16) v0 v1 (by omega) (by omega)
  have CL := Lib.hid cL
  obtain ⟨q0, q1⟩ := tdiv2_bd (T := E * (L / 4) + x - y + 1 + 1) (by omega) (by omega)
  obtain ⟨Q, eQ⟩ : ∃ Q, (E * (L / 4) + x - y + 1 + 1).tdiv 2 = Q := ⟨_, rfl⟩
  have HQ : Hid ((twiceI k f x y).tdiv 2 = Q) := Lib.hid (by rw [hT]; exact eQ)
  rw [eQ] at q0 q1
  have t1 : (f / 4 == 1) = false := by simpa using hf
  have hsR : sdI k ≤ R := (of_decide_eq_true hw).1
  have t2 : ((R - sdI k) % 2 == 1) = true := by simpa using ho
  have eR : (2 + f / 4) * sdI k - x - y - 1 = R := by rw [← hR, ring_sd]
  obtain ⟨n0, n1⟩ := mul_bd (a := 2 + f / 4) (b := sdI k) (A := 5) (B := 16) (by omega) (by omega) (by omega) b2
  have HW := Lib.hid hw
  clear hw hodd hT eE eL cL hR hf ho
  go_enter Try.func27, Try.ntmps27
  go_wp2_with (first
    | (go_at_call 21; refine (CA.out _).mono ?_; rintro e w1 ⟨rfl, hD⟩)
    | (go_at_call 72; refine (CS.out _).mono ?_; rintro e w2 ⟨rfl, rfl⟩)
    | (go_at_call 80; refine (within_any _ _ _ _).mono ?_; rintro e w2 ⟨he, rfl⟩; rw [HW.out] at he; subst he)
    | (go_at_call 76; refine (CL.out _).mono ?_; rintro e w2 ⟨rfl, rfl⟩)
    | fail)
  all_goals
    go_ret3
    refine ⟨?_, hD⟩
    first
      | (rw [placeR_hi HQ.out (by assumption)]; rfl)
      | (rw [placeR_lo HQ.out (by omega) (by assumption)]; rfl)
      | (rw [placeR_mid HQ.out (by omega) (by omega)]; rfl)

set_option maxRecDepth 100000 in
theorem ringOf_cap_even (k p : Nat) (hk : k < 5) (f x y R : Int) (f0 : 0 ≤ f) (f1 : f < 12) (x0 : 0 ≤ x) (x1 : x < sdI k) (y0 : 0 ≤ y) (y1 : y < sdI k) (hR : ringI k f x y = R) (r1 : 1 ≤ R) (r2 : R ≤ 4 * sdI k - 1)
    (hf : ¬ f / 4 = 1) (hw : decide (sdI k ≤ R ∧ R ≤ 3 * sdI k) = true) (ho : ¬ (R - sdI k) % 2 = 1) (w : World) (CA : Hid (∀ W, Calls Try.prog 21 #[.int .i64 (k : Int), .int .i64 (p : Int)] W fun e w' => e = .returned (.tuple #[.int .i64 f, .int .i64 x, .int .i64 y, .int .i64 0]) ∧ Drawn W w')) :
    Calls Try.prog 27 #[.int .i64 (k : Int), .int .i64 (p : Int)] w fun e w' => e = .returned (.tuple #[.int .i64 R, .int .i64 (placeR k f x y), .int .i64 0]) ∧ Drawn w w' := by
  obtain ⟨b1, b2⟩ := sd_bd hk
  obtain ⟨l0, l1⟩ := len_bd hk r1 r2
  have cL := fun W => refLength_any k hk R (by omega) (by omega) W
  have CS := Lib.hid (fun W => refSide_any k hk W)
  have hE : 1 + 2 * (f % 4) = eighI f := by rw [eighI, if_neg hf]; omega
  obtain ⟨v0, v1⟩ := eigh_bd f0 f1
  have hodd : oddI k R = 0 := odd_no (.inr ho)
  have hT := twice_eq (k := k) (f := f) (x := x) (y := y) (R := R) (L := lenI k R) (E := eighI f) (o := 0) hR.symm rfl rfl hodd
  obtain ⟨E, eE⟩ : ∃ E, eighI f = E := ⟨_, rfl⟩
  obtain ⟨L, eL⟩ : ∃ L, lenI k R = L := ⟨_, rfl⟩
  rw [eE] at hE hT v0 v1
  rw [eL] at hT l0 l1 cL
  obtain ⟨m0, m1⟩ := mul_bd (a := E) (b := L / 4) (A := 7) (B := 16) v0 v1 (by omega) (by omega)
  have CL := Lib.hid cL
  obtain ⟨q0, q1⟩ := tdiv2_bd (T := E * (L / 4) + x - y + 1) (by omega) (by omega)
  have HQ : Hid ((twiceI k f x y).tdiv 2 = (E * (L / 4) + x - y + 1).tdiv 2) := Lib.hid (by rw [hT, Int.add_zero])
  have t1 : (f / 4 == 1) = false := by simpa using hf
  have hsR : sdI k ≤ R := (of_decide_eq_true hw).1
  have t2 : ((R - sdI k) % 2 == 1) = false := by simpa using ho
  have eR : (2 + f / 4) * sdI k - x - y - 1 = R := by rw [← hR, ring_sd]
  obtain ⟨n0, n1⟩ := mul_bd (a := 2 + f / 4) (b := sdI k) (A := 5) (B := 16) (by omega) (by omega) (by omega) b2
  have HW := Lib.hid hw
  clear hw hodd hT eE eL cL hR hf ho
  go_enter Try.func27, Try.ntmps27
  go_wp2_with (first
    | (go_at_call 21; refine (CA.out _).mono ?_; rintro e w1 ⟨rfl, hD⟩)
    | (go_at_call 72; refine (CS.out _).mono ?_; rintro e w2 ⟨rfl, rfl⟩)
    | (go_at_call 80; refine (within_any _ _ _ _).mono ?_; rintro e w2 ⟨he, rfl⟩; rw [HW.out] at he; subst he)
    | (go_at_call 76; refine (CL.out _).mono ?_; rintro e w2 ⟨rfl, rfl⟩)
    | fail)
  all_goals
    go_ret3
    refine ⟨?_, hD⟩
    first
      | (rw [placeR_hi HQ.out (by assumption)]; rfl)
      | (rw [placeR_lo HQ.out (by omega) (by assumption)]; rfl)
      | (rw [placeR_mid HQ.out (by omega) (by omega)]; rfl)

set_option maxRecDepth 100000 in
theorem ringOf_cap_out (k p : Nat) (hk : k < 5) (f x y R : Int) (f0 : 0 ≤ f) (f1 : f < 12) (x0 : 0 ≤ x) (x1 : x < sdI k) (y0 : 0 ≤ y) (y1 : y < sdI k) (hR : ringI k f x y = R) (r1 : 1 ≤ R) (r2 : R ≤ 4 * sdI k - 1)
    (hf : ¬ f / 4 = 1) (hw : decide (sdI k ≤ R ∧ R ≤ 3 * sdI k) = false) (w : World) (CA : Hid (∀ W, Calls Try.prog 21 #[.int .i64 (k : Int), .int .i64 (p : Int)] W fun e w' => e = .returned (.tuple #[.int .i64 f, .int .i64 x, .int .i64 y, .int .i64 0]) ∧ Drawn W w')) :
    Calls Try.prog 27 #[.int .i64 (k : Int), .int .i64 (p : Int)] w fun e w' => e = .returned (.tuple #[.int .i64 R, .int .i64 (placeR k f x y), .int .i64 0]) ∧ Drawn w w' := by
  obtain ⟨b1, b2⟩ := sd_bd hk
  obtain ⟨l0, l1⟩ := len_bd hk r1 r2
  have cL := fun W => refLength_any k hk R (by omega) (by omega) W
  have CS := Lib.hid (fun W => refSide_any k hk W)
  have hE : 1 + 2 * (f % 4) = eighI f := by rw [eighI, if_neg hf]; omega
  obtain ⟨v0, v1⟩ := eigh_bd f0 f1
  have hodd : oddI k R = 0 := odd_no (.inl (of_decide_eq_false hw))
  have hT := twice_eq (k := k) (f := f) (x := x) (y := y) (R := R) (L := lenI k R) (E := eighI f) (o := 0) hR.symm rfl rfl hodd
  obtain ⟨E, eE⟩ : ∃ E, eighI f = E := ⟨_, rfl⟩
  obtain ⟨L, eL⟩ : ∃ L, lenI k R = L := ⟨_, rfl⟩
  rw [eE] at hE hT v0 v1
  rw [eL] at hT l0 l1 cL
  obtain ⟨m0, m1⟩ := mul_bd (a := E) (b := L / 4) (A := 7) (B := 16) v0 v1 (by omega) (by omega)
  have CL := Lib.hid cL
  obtain ⟨q0, q1⟩ := tdiv2_bd (T := E * (L / 4) + x - y + 1) (by omega) (by omega)
  have HQ : Hid ((twiceI k f x y).tdiv 2 = (E * (L / 4) + x - y + 1).tdiv 2) := Lib.hid (by rw [hT, Int.add_zero])
  have t1 : (f / 4 == 1) = false := by simpa using hf
  have eR : (2 + f / 4) * sdI k - x - y - 1 = R := by rw [← hR, ring_sd]
  obtain ⟨n0, n1⟩ := mul_bd (a := 2 + f / 4) (b := sdI k) (A := 5) (B := 16) (by omega) (by omega) (by omega) b2
  have HW := Lib.hid hw
  clear hw hodd hT eE eL cL hR hf
  go_enter Try.func27, Try.ntmps27
  go_wp2_with (first
    | (go_at_call 21; refine (CA.out _).mono ?_; rintro e w1 ⟨rfl, hD⟩)
    | (go_at_call 72; refine (CS.out _).mono ?_; rintro e w2 ⟨rfl, rfl⟩)
    | (go_at_call 80; refine (within_any _ _ _ _).mono ?_; rintro e w2 ⟨he, rfl⟩; rw [HW.out] at he; subst he)
    | (go_at_call 76; refine (CL.out _).mono ?_; rintro e w2 ⟨rfl, rfl⟩)
    | fail)
  all_goals
    go_ret3
    refine ⟨?_, hD⟩
    first
      | (rw [placeR_hi HQ.out (by assumption)]; rfl)
      | (rw [placeR_lo HQ.out (by omega) (by assumption)]; rfl)
      | (rw [placeR_mid HQ.out (by omega) (by omega)]; rfl)

theorem refRingOf_yes (k p : Nat) (hk : k < 5) (hp : p < pxN k) (w : World) :
    Calls Try.prog 27 #[.int .i64 (k : Int), .int .i64 (p : Int)] w fun e w' => e = .returned (.tuple #[.int .i64 (RT k p : Nat), .int .i64 (PT k p : Nat), .int .i64 0]) ∧ Drawn w w' := by
  have F := fact_of hk hp
  have hx : ((xB k p : Nat) : Int) < sdI k := by rw [sd_nat]; have := F.x; omega
  have hy : ((yB k p : Nat) : Int) < sdI k := by rw [sd_nat]; have := F.y; omega
  have hf : ((fB k p : Nat) : Int) < 12 := by have := F.f; omega
  have r1 : 1 ≤ ((RT k p : Nat) : Int) := by have := F.r1; omega
  have r2 : ((RT k p : Nat) : Int) ≤ 4 * sdI k - 1 := by rw [sd_nat]; have := F.r2; omega
  have CA := Lib.hid (fun W => refPlace_yes k p hk hp W)
  have gP : placeR k (fB k p : Nat) (xB k p : Nat) (yB k p : Nat) = (PT k p : Nat) := F.placeR
  rw [← gP]
  by_cases h1 : ((fB k p : Nat) : Int) / 4 = 1
  · by_cases h2 : sdI k ≤ ((RT k p : Nat) : Int) ∧ ((RT k p : Nat) : Int) ≤ 3 * sdI k
    · by_cases h3 : (((RT k p : Nat) : Int) - sdI k) % 2 = 1
      · exact ringOf_mid_odd k p hk _ _ _ _ (by omega) hf (by omega) hx (by omega) hy F.ring r1 r2 h1 (decide_eq_true h2) h3 w CA
      · exact ringOf_mid_even k p hk _ _ _ _ (by omega) hf (by omega) hx (by omega) hy F.ring r1 r2 h1 (decide_eq_true h2) h3 w CA
    · exact ringOf_mid_out k p hk _ _ _ _ (by omega) hf (by omega) hx (by omega) hy F.ring r1 r2 h1 (decide_eq_false h2) w CA
  · by_cases h2 : sdI k ≤ ((RT k p : Nat) : Int) ∧ ((RT k p : Nat) : Int) ≤ 3 * sdI k
    · by_cases h3 : (((RT k p : Nat) : Int) - sdI k) % 2 = 1
      · exact ringOf_cap_odd k p hk _ _ _ _ (by omega) hf (by omega) hx (by omega) hy F.ring r1 r2 h1 (decide_eq_true h2) h3 w CA
      · exact ringOf_cap_even k p hk _ _ _ _ (by omega) hf (by omega) hx (by omega) hy F.ring r1 r2 h1 (decide_eq_true h2) h3 w CA
    · exact ringOf_cap_out k p hk _ _ _ _ (by omega) hf (by omega) hx (by omega) hy F.ring r1 r2 h1 (decide_eq_false h2) w CA
theorem refRingOf_any (n p : Int) (w : World) :
    Calls Try.prog 27 #[.int .i64 n, .int .i64 p] w fun e w' => e = .returned (.tuple #[.int .i64 (roR n p), .int .i64 (roP n p), .int .i64 (okE (okP n p))]) ∧ Drawn w w' := by
  cases hp : okP n p with
  | false =>
    have C : ∀ W, Calls Try.prog 21 #[.int .i64 n, .int .i64 p] W fun e w' => e = .returned (.tuple #[.int .i64 0, .int .i64 0, .int .i64 0, .int .i64 2]) ∧ Drawn W w' := fun W => (refPlace_any n p W).mono fun _ _ h => ⟨by rw [h.1]; simp [plF, plX, plY, okE, hp], h.2⟩
    have C := Lib.hid C
    have HP := Lib.hid hp
    clear hp
    go_enter Try.func27, Try.ntmps27
    go_wp2_with (go_at_call 21; refine (C.out _).mono ?_; rintro e w1 ⟨rfl, hD⟩)
    go_ret3
    exact ⟨by simp [roR, roP, okE, HP.out], hD⟩
  | true =>
    obtain ⟨k, q, rfl, rfl, hk, hq⟩ := okP_of hp
    exact (refRingOf_yes k q hk hq w).mono fun _ _ h => ⟨by rw [h.1]; simp [roR, roP, okE, hp], h.2⟩
end Go.Proofs.Ytnnfnphmieikmaa
