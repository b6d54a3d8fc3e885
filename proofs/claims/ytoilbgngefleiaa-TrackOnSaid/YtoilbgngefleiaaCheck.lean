/-
  Contracts: ValidLine, check (track).
-/
import Derived.Test.YtoilbgngefleiaaJoined
namespace Go.Proofs.Ytoilbgngefleiaa
open Go.RowKit Go.Shelf

theorem ln_a {a b d : Int} (h : inB 1000000 a = false) : lnB a b d = false := by simp [lnB, h]
theorem ln_b {a b d : Int} (h : inB 100000000 b = false) : lnB a b d = false := by simp [lnB, h]
theorem ln_d {a b d : Int} (h : ¬ (1 ≤ d ∧ d ≤ 10000)) : lnB a b d = false := by simp [lnB]; intros; omega
theorem ln_ok {a b d : Int} (h : inB 1000000 a = true) (h2 : inB 100000000 b = true) (h3 : 1 ≤ d ∧ d ≤ 10000) : lnB a b d = true := by simp [lnB, h, h2]; omega

set_option maxRecDepth 100000 in
set_option maxHeartbeats 1000000 in
theorem validLine_any (a b d : Int) (w : World) :
    Calls Try.prog 21 #[.agg #[.int .i64 a, .int .i64 b, .int .i64 d]] w fun e w' => e = .returned (.bool (lnB a b d)) ∧ Below w.heap.size w w' := by
  have TA : Hid True := Lib.hid trivial
  cases h1 : inB 1000000 a with
  | false =>
    have H1 : Hid ([a].all (inB 1000000) = false) := Lib.hid (by simp [h1])
    have HP : Hid (lnB a b d = false) := Lib.hid (ln_a h1)
    clear h1
    go_enter Try.func21, Try.ntmps21
    go_wp2_with (go_at_call 65; refine (within_any 1000000 [a] (some ⟨w.heap.size + 1, 0, none⟩) 1 _ (by omega) (by omega) (Ints.one (by go_simp)) (by simp [maxLen])).mono ?_; rintro e w1 ⟨rfl, n, rfl⟩; rw [H1.out])
    go_ret
    exact ⟨ret_bool HP.out.symm, (by repeat (first | with_reducible exact Below.refl _ _ | with_reducible assumption | refine below_drewN ?_ _ | with_reducible refine Below.drew ?_ | (refine Below.setCell ?_ (by first | (simp; done) | (simp; omega) | omega) _) | (refine Below.alloc ?_ (by first | (simp; done) | (simp; omega) | omega) _)))⟩
  | true =>
    have H1 : Hid ([a].all (inB 1000000) = true) := Lib.hid (by simp [h1])
    cases h2 : inB 100000000 b with
    | false =>
      have H2 : Hid ([b].all (inB 100000000) = false) := Lib.hid (by simp [h2])
      have HP : Hid (lnB a b d = false) := Lib.hid (ln_b h2)
      clear h1 h2
      go_enter Try.func21, Try.ntmps21
      go_wp2_with (first
        | (go_at_call 65; clear TA; refine (within_any 1000000 [a] (some ⟨w.heap.size + 1, 0, none⟩) 1 _ (by omega) (by omega) (Ints.one (by go_simp)) (by simp [maxLen])).mono ?_; rintro e w1 ⟨rfl, n, rfl⟩; rw [H1.out])
        | (go_at_call 65; refine (within_any 100000000 [b] _ 1 _ (by omega) (by omega) (Ints.one (by go_simp)) (by simp [maxLen])).mono ?_; rintro e w1 ⟨rfl, n2, rfl⟩; rw [H2.out]))
      go_ret
      exact ⟨ret_bool HP.out.symm, (by repeat (first | with_reducible exact Below.refl _ _ | with_reducible assumption | refine below_drewN ?_ _ | with_reducible refine Below.drew ?_ | (refine Below.setCell ?_ (by first | (simp; done) | (simp; omega) | omega) _) | (refine Below.alloc ?_ (by first | (simp; done) | (simp; omega) | omega) _)))⟩
    | true =>
      have H2 : Hid ([b].all (inB 100000000) = true) := Lib.hid (by simp [h2])
      by_cases h3 : 1 ≤ d
      · by_cases h4 : d ≤ 10000
        · have HP : Hid (lnB a b d = true) := Lib.hid (ln_ok h1 h2 ⟨h3, h4⟩)
          have t3 : decide (1 ≤ d) = true := decide_eq_true h3
          have t4 : decide (d ≤ 10000) = true := decide_eq_true h4
          clear h1 h2
          go_enter Try.func21, Try.ntmps21
          go_wp2_with (first
            | (go_at_call 65; clear TA; refine (within_any 1000000 [a] (some ⟨w.heap.size + 1, 0, none⟩) 1 _ (by omega) (by omega) (Ints.one (by go_simp)) (by simp [maxLen])).mono ?_; rintro e w1 ⟨rfl, n, rfl⟩; rw [H1.out])
            | (go_at_call 65; refine (within_any 100000000 [b] _ 1 _ (by omega) (by omega) (Ints.one (by go_simp)) (by simp [maxLen])).mono ?_; rintro e w1 ⟨rfl, n2, rfl⟩; rw [H2.out]))
          go_ret
          exact ⟨ret_bool HP.out.symm, (by repeat (first | with_reducible exact Below.refl _ _ | with_reducible assumption | refine below_drewN ?_ _ | with_reducible refine Below.drew ?_ | (refine Below.setCell ?_ (by first | (simp; done) | (simp; omega) | omega) _) | (refine Below.alloc ?_ (by first | (simp; done) | (simp; omega) | omega) _)))⟩
        · have HP : Hid (lnB a b d = false) := Lib.hid (ln_d (by omega))
          have t3 : decide (1 ≤ d) = true := decide_eq_true h3
          have t4 : decide (d ≤ 10000) = false := decide_eq_false h4
          clear h1 h2
          go_enter Try.func21, Try.ntmps21
          go_wp2_with (first
            | (go_at_call 65; clear TA; refine (within_any 1000000 [a] (some ⟨w.heap.size + 1, 0, none⟩) 1 _ (by omega) (by omega) (Ints.one (by go_simp)) (by simp [maxLen])).mono ?_; rintro e w1 ⟨rfl, n, rfl⟩; rw [H1.out])
            | (go_at_call 65; refine (within_any 100000000 [b] _ 1 _ (by omega) (by omega) (Ints.one (by go_simp)) (by simp [maxLen])).mono ?_; rintro e w1 ⟨rfl, n2, rfl⟩; rw [H2.out]))
          go_ret
          exact ⟨ret_bool HP.out.symm, (by repeat (first | with_reducible exact Below.refl _ _ | with_reducible assumption | refine below_drewN ?_ _ | with_reducible refine Below.drew ?_ | (refine Below.setCell ?_ (by first | (simp; done) | (simp; omega) | omega) _) | (refine Below.alloc ?_ (by first | (simp; done) | (simp; omega) | omega) _)))⟩
      · have HP : Hid (lnB a b d = false) := Lib.hid (ln_d (by omega))
        have t3 : decide (1 ≤ d) = false := decide_eq_false h3
        clear h1 h2
        go_enter Try.func21, Try.ntmps21
        go_wp2_with (first
          | (go_at_call 65; clear TA; refine (within_any 1000000 [a] (some ⟨w.heap.size + 1, 0, none⟩) 1 _ (by omega) (by omega) (Ints.one (by go_simp)) (by simp [maxLen])).mono ?_; rintro e w1 ⟨rfl, n, rfl⟩; rw [H1.out])
          | (go_at_call 65; refine (within_any 100000000 [b] _ 1 _ (by omega) (by omega) (Ints.one (by go_simp)) (by simp [maxLen])).mono ?_; rintro e w1 ⟨rfl, n2, rfl⟩; rw [H2.out]))
        go_ret
        exact ⟨ret_bool HP.out.symm, (by repeat (first | with_reducible exact Below.refl _ _ | with_reducible assumption | refine below_drewN ?_ _ | with_reducible refine Below.drew ?_ | (refine Below.setCell ?_ (by first | (simp; done) | (simp; omega) | omega) _) | (refine Below.alloc ?_ (by first | (simp; done) | (simp; omega) | omega) _)))⟩

/-- What check says of points and a line. -/
def ckE (ms : List (Int × Int)) (a b d : Int) : Int := if viP ms then (if lnB a b d then 0 else 51) else 50
set_option maxRecDepth 100000 in
theorem check_any (ms : List (Int × Int)) (A : Option Addr) (c : Nat) (a b d : Int) (w : World) (h : Marks w A ms) (hl : ms.length ≤ maxLen) :
    Calls Try.prog 57 #[.slice A ms.length c, .agg #[.int .i64 a, .int .i64 b, .int .i64 d]] w fun e w' => e = .returned (.int .i64 (ckE ms a b d)) ∧ Below w.heap.size w w' := by
  have H := Lib.hid h
  have HL := Lib.hid hl
  clear h hl
  cases h1 : viP ms with
  | false =>
    have HP : Hid (ckE ms a b d = 50) := Lib.hid (by simp [ckE, h1])
    have H1 := Lib.hid h1
    clear h1
    go_enter Try.func57, Try.ntmps57
    go_wp2_with (go_at_call 19; refine (valid_any ms A c _ (H.out.below (by repeat (first | with_reducible exact Below.refl _ _ | with_reducible assumption | refine below_drewN ?_ _ | with_reducible refine Below.drew ?_ | (refine Below.setCell ?_ (by first | (simp; done) | (simp; omega) | omega) _) | (refine Below.alloc ?_ (by first | (simp; done) | (simp; omega) | omega) _)))) HL.out).mono ?_; rintro e w1 ⟨rfl, hB1⟩; rw [H1.out])
    go_ret
    exact ⟨ret_int HP.out.symm, below_step ((Below.refl _ _).alloc (Nat.le_refl _) _) hB1⟩
  | true =>
    have H1 := Lib.hid h1
    cases h2 : lnB a b d with
    | false =>
      have HP : Hid (ckE ms a b d = 51) := Lib.hid (by simp [ckE, h1, h2])
      have H2 := Lib.hid h2
      clear h1 h2
      have W0c : Hid ((w.alloc (.cells #[.int .i64 a, .int .i64 b, .int .i64 d] 24)).heap[w.heap.size]? = some (.cells #[.int .i64 a, .int .i64 b, .int .i64 d] 24 (0, 0))) := Lib.hid (heap_alloc_new w _)
      go_enter Try.func57, Try.ntmps57
      go_wp2_with (first
        | (go_at_call 19; refine (valid_any ms A c _ (H.out.below (by repeat (first | with_reducible exact Below.refl _ _ | with_reducible assumption | refine below_drewN ?_ _ | with_reducible refine Below.drew ?_ | (refine Below.setCell ?_ (by first | (simp; done) | (simp; omega) | omega) _) | (refine Below.alloc ?_ (by first | (simp; done) | (simp; omega) | omega) _)))) HL.out).mono ?_; rintro e w1 ⟨rfl, hB1⟩; rw [H1.out]; have k1 := (hB1.block w.heap.size (by simp)).trans W0c.out; have c0 := cell_of_row w1 _ 0 _ _ _ k1; have c1 := cell_of_row w1 _ 1 _ _ _ k1; have c2 := cell_of_row w1 _ 2 _ _ _ k1; have hW := below_step ((Below.refl _ _).alloc (Nat.le_refl _) _) hB1; clear k1 hB1)
        | (go_at_call 21; refine (validLine_any a b d _).mono ?_; rintro e w2 ⟨rfl, hB2⟩; rw [H2.out]; have hW2 := below_step hW hB2))
      go_ret
      exact ⟨ret_int HP.out.symm, hW2⟩
    | true =>
      have HP : Hid (ckE ms a b d = 0) := Lib.hid (by simp [ckE, h1, h2])
      have H2 := Lib.hid h2
      clear h1 h2
      have W0c : Hid ((w.alloc (.cells #[.int .i64 a, .int .i64 b, .int .i64 d] 24)).heap[w.heap.size]? = some (.cells #[.int .i64 a, .int .i64 b, .int .i64 d] 24 (0, 0))) := Lib.hid (heap_alloc_new w _)
      go_enter Try.func57, Try.ntmps57
      go_wp2_with (first
        | (go_at_call 19; refine (valid_any ms A c _ (H.out.below (by repeat (first | with_reducible exact Below.refl _ _ | with_reducible assumption | refine below_drewN ?_ _ | with_reducible refine Below.drew ?_ | (refine Below.setCell ?_ (by first | (simp; done) | (simp; omega) | omega) _) | (refine Below.alloc ?_ (by first | (simp; done) | (simp; omega) | omega) _)))) HL.out).mono ?_; rintro e w1 ⟨rfl, hB1⟩; rw [H1.out]; have k1 := (hB1.block w.heap.size (by simp)).trans W0c.out; have c0 := cell_of_row w1 _ 0 _ _ _ k1; have c1 := cell_of_row w1 _ 1 _ _ _ k1; have c2 := cell_of_row w1 _ 2 _ _ _ k1; have hW := below_step ((Below.refl _ _).alloc (Nat.le_refl _) _) hB1; clear k1 hB1)
        | (go_at_call 21; refine (validLine_any a b d _).mono ?_; rintro e w2 ⟨rfl, hB2⟩; rw [H2.out]; have hW2 := below_step hW hB2))
      go_ret
      exact ⟨ret_int HP.out.symm, hW2⟩
end Go.Proofs.Ytoilbgngefleiaa
