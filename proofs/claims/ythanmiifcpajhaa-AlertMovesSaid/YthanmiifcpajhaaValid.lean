/-
  Contracts: validTask, Valid, open; the reference's within, Valid, open.
-/
import Derived.Test.YthanmiifcpajhaaPairs
import Derived.Test.YthanmiifcpajhaaGrow
set_option linter.unusedVariables false
set_option linter.unusedSimpArgs false
namespace Go.Proofs.Ythanmiifcpajhaa
open Go Go.RowKit

set_option maxRecDepth 100000 in
theorem validTask_any (a b c : Int) (w : World) :
    Calls Try.prog 60 #[.agg #[.int .i64 a, .int .i64 b, .int .i64 c]] w fun e w' => e = .returned (.bool (tkB (a, b, c))) ∧ Below w.heap.size w w' := by
  have fin : ∀ x : Bool, x = tkB (a, b, c) → Ending.returned (.bool x) = .returned (.bool (tkB (a, b, c))) := fun _ h => ret_bool h
  have FIN := Lib.hid fin
  clear fin
  by_cases h1 : a < 0
  · have t1 : decide (a < 0) = true := decide_eq_true h1
    go_enter Try.func60, Try.ntmps60
    go_wp2
    go_ret
    exact ⟨FIN.out _ (by simp [tkB]; omega), (by repeat (first | with_reducible exact Below.refl _ _ | with_reducible assumption | refine below_drewN ?_ _ | with_reducible refine Below.drew ?_ | (refine Below.setCell ?_ (by first | (simp; done) | (simp; omega) | omega) _) | (refine Below.alloc ?_ (by first | (simp; done) | (simp; omega) | omega) _)))⟩
  · have t1 : decide (a < 0) = false := decide_eq_false h1
    by_cases h2 : 100 < b
    · have t2 : decide (100 < b) = true := decide_eq_true h2
      go_enter Try.func60, Try.ntmps60
      go_wp2
      go_ret
      exact ⟨FIN.out _ (by simp [tkB]; omega), (by repeat (first | with_reducible exact Below.refl _ _ | with_reducible assumption | refine below_drewN ?_ _ | with_reducible refine Below.drew ?_ | (refine Below.setCell ?_ (by first | (simp; done) | (simp; omega) | omega) _) | (refine Below.alloc ?_ (by first | (simp; done) | (simp; omega) | omega) _)))⟩
    · have t2 : decide (100 < b) = false := decide_eq_false h2
      by_cases h3 : b ≤ a
      · have t3 : decide (b ≤ a) = true := decide_eq_true h3
        go_enter Try.func60, Try.ntmps60
        go_wp2
        go_ret
        exact ⟨FIN.out _ (by simp [tkB]; omega), (by repeat (first | with_reducible exact Below.refl _ _ | with_reducible assumption | refine below_drewN ?_ _ | with_reducible refine Below.drew ?_ | (refine Below.setCell ?_ (by first | (simp; done) | (simp; omega) | omega) _) | (refine Below.alloc ?_ (by first | (simp; done) | (simp; omega) | omega) _)))⟩
      · have t3 : decide (b ≤ a) = false := decide_eq_false h3
        by_cases h4 : 1 ≤ c
        · have t4 : decide (1 ≤ c) = true := decide_eq_true h4
          go_enter Try.func60, Try.ntmps60
          go_wp2
          go_ret
          exact ⟨FIN.out _ (by rw [Bool.eq_iff_iff]; simp [tkB]; omega), (by repeat (first | with_reducible exact Below.refl _ _ | with_reducible assumption | refine below_drewN ?_ _ | with_reducible refine Below.drew ?_ | (refine Below.setCell ?_ (by first | (simp; done) | (simp; omega) | omega) _) | (refine Below.alloc ?_ (by first | (simp; done) | (simp; omega) | omega) _)))⟩
        · have t4 : decide (1 ≤ c) = false := decide_eq_false h4
          go_enter Try.func60, Try.ntmps60
          go_wp2
          go_ret
          exact ⟨FIN.out _ (by simp [tkB]; omega), (by repeat (first | with_reducible exact Below.refl _ _ | with_reducible assumption | refine below_drewN ?_ _ | with_reducible refine Below.drew ?_ | (refine Below.setCell ?_ (by first | (simp; done) | (simp; omega) | omega) _) | (refine Below.alloc ?_ (by first | (simp; done) | (simp; omega) | omega) _)))⟩

def opT (x : Int × Int × Int) (m : Int) : Bool := decide (x.1 ≤ m ∧ m < x.2.1)
theorem opT_eq {ts : List (Int × Int × Int)} {k : Nat} {a b c : Int} (h : ts[k]? = some (a, b, c)) (m : Int) : opT (a, b, c) m = opB ts k m := by
  have := getT_parts h
  unfold opT opB; rw [this.1, this.2.1]
set_option maxRecDepth 100000 in
theorem open_any (a b c m : Int) (w : World) :
    Calls Try.prog 81 #[.agg #[.int .i64 a, .int .i64 b, .int .i64 c], .int .i64 m] w fun e w' => e = .returned (.bool (opT (a, b, c) m)) ∧ Below w.heap.size w w' := by
  by_cases h1 : a ≤ m
  · have t1 : decide (a ≤ m) = true := decide_eq_true h1
    go_enter Try.func81, Try.ntmps81
    go_wp2
    go_ret
    exact ⟨ret_bool (by rw [Bool.eq_iff_iff]; simp [opT]; omega), (by repeat (first | with_reducible exact Below.refl _ _ | with_reducible assumption | refine below_drewN ?_ _ | with_reducible refine Below.drew ?_ | (refine Below.setCell ?_ (by first | (simp; done) | (simp; omega) | omega) _) | (refine Below.alloc ?_ (by first | (simp; done) | (simp; omega) | omega) _)))⟩
  · have t1 : decide (a ≤ m) = false := decide_eq_false h1
    go_enter Try.func81, Try.ntmps81
    go_wp2
    go_ret
    exact ⟨ret_bool (by simp [opT]; omega), (by repeat (first | with_reducible exact Below.refl _ _ | with_reducible assumption | refine below_drewN ?_ _ | with_reducible refine Below.drew ?_ | (refine Below.setCell ?_ (by first | (simp; done) | (simp; omega) | omega) _) | (refine Below.alloc ?_ (by first | (simp; done) | (simp; omega) | omega) _)))⟩
set_option maxRecDepth 100000 in
theorem refOpen_any (a b c m : Int) (w : World) :
    Calls Try.prog 84 #[.agg #[.int .i64 a, .int .i64 b, .int .i64 c], .int .i64 m] w fun e w' => e = .returned (.bool (opT (a, b, c) m)) ∧ Below w.heap.size w w' := by
  by_cases h1 : a ≤ m
  · have t1 : decide (a ≤ m) = true := decide_eq_true h1
    go_enter Try.func84, Try.ntmps84
    go_wp2
    go_ret
    exact ⟨ret_bool (by rw [Bool.eq_iff_iff]; simp [opT]; omega), (by repeat (first | with_reducible exact Below.refl _ _ | with_reducible assumption | refine below_drewN ?_ _ | with_reducible refine Below.drew ?_ | (refine Below.setCell ?_ (by first | (simp; done) | (simp; omega) | omega) _) | (refine Below.alloc ?_ (by first | (simp; done) | (simp; omega) | omega) _)))⟩
  · have t1 : decide (a ≤ m) = false := decide_eq_false h1
    go_enter Try.func84, Try.ntmps84
    go_wp2
    go_ret
    exact ⟨ret_bool (by simp [opT]; omega), (by repeat (first | with_reducible exact Below.refl _ _ | with_reducible assumption | refine below_drewN ?_ _ | with_reducible refine Below.drew ?_ | (refine Below.setCell ?_ (by first | (simp; done) | (simp; omega) | omega) _) | (refine Below.alloc ?_ (by first | (simp; done) | (simp; omega) | omega) _)))⟩

def wiB (l n h : Int) : Bool := decide (l ≤ n ∧ n ≤ h)
set_option maxRecDepth 100000 in
theorem within_any (l n h : Int) (w : World) :
    Calls Try.prog 61 #[.int .i64 l, .int .i64 n, .int .i64 h] w fun e w' => e = .returned (.bool (wiB l n h)) ∧ w = w' := by
  by_cases h1 : l ≤ n
  · have t1 : decide (l ≤ n) = true := decide_eq_true h1
    go_enter Try.func61, Try.ntmps61
    go_wp2
    go_ret
    exact ⟨ret_bool (by rw [Bool.eq_iff_iff]; simp [wiB]; omega), rfl⟩
  · have t1 : decide (l ≤ n) = false := decide_eq_false h1
    go_enter Try.func61, Try.ntmps61
    go_wp2
    go_ret
    exact ⟨ret_bool (by simp [wiB]; omega), rfl⟩

theorem va_no_len {ts : List (Int × Int × Int)} (h : ts.length < 1 ∨ 12 < ts.length) : false = vaB ts := by
  rw [eq_comm, vaB, Bool.and_eq_false_iff]; left; exact decide_eq_false (by omega)
theorem va_of {ts : List (Int × Int × Int)} (h1 : 1 ≤ ts.length) (h2 : ts.length ≤ 12) : vaB ts = ts.all tkB := by
  rw [vaB, decide_eq_true ⟨h1, h2⟩, Bool.true_and]

set_option maxRecDepth 100000 in
theorem valid_any (ts : List (Int × Int × Int)) (A : Option Addr) (c : Nat) (w : World) (h : Marks w A ts) (hl : ts.length ≤ maxLen) :
    Calls Try.prog 19 #[.slice A ts.length c] w fun e w' => e = .returned (.bool (vaB ts)) ∧ Below w.heap.size w w' := by
  unfold maxLen at hl
  have H := Lib.hid h
  clear h
  by_cases n1 : (ts.length : Int) < 1
  · have n2 : decide ((ts.length : Int) < 1) = true := decide_eq_true n1
    go_enter Try.func19, Try.ntmps19
    go_wp2
    go_ret
    exact ⟨ret_bool (va_no_len (by omega)), Below.refl _ _⟩
  · have n2 : decide ((ts.length : Int) < 1) = false := decide_eq_false n1
    by_cases n3 : 12 < (ts.length : Int)
    · have n4 : decide (12 < (ts.length : Int)) = true := decide_eq_true n3
      go_enter Try.func19, Try.ntmps19
      go_wp2
      go_ret
      exact ⟨ret_bool (va_no_len (by omega)), Below.refl _ _⟩
    · have n4 : decide (12 < (ts.length : Int)) = false := decide_eq_false n3
      have HV : Hid (vaB ts = ts.all tkB) := Lib.hid (va_of (by omega) (by omega))
      go_enter Try.func19, Try.ntmps19
      go_wp2
      go_loopw [15] (fun i wr => ∃ k : Nat, k ≤ ts.length ∧ i = .int .i64 k ∧ Hid ((ts.take k).all tkB = true) ∧ Below w.heap.size w wr) (fun i _ => ts.length - (intOf i).toNat)
      case atStart => exact ⟨0, Nat.zero_le _, rfl, rfl, Below.refl _ _⟩
      case round =>
        obtain ⟨k, hk, rfl, hall, hB⟩ := hrel
        by_cases hlt : k < ts.length
        · obtain ⟨bl, off, rfl, hbk, hcells⟩ := H.out.open_ (show 0 < ts.length by omega)
          obtain ⟨a, b, d, hx⟩ := getT_of_lt hlt
          have f0 := (hB.cell (p := ⟨bl, off + k * 3, none⟩) hbk).trans (hcells _ _ hx).1
          have f1 := (hB.cell (p := ⟨bl, off + k * 3 + 1, none⟩) hbk).trans (hcells _ _ hx).2.1
          have f2 := (hB.cell (p := ⟨bl, off + k * 3 + 2, none⟩) hbk).trans (hcells _ _ hx).2.2
          have HX := Lib.hid hx
          clear hx hcells
          cases hp : tkB (a, b, d) with
          | true =>
            have HP := Lib.hid hp
            clear hp
            go_wp2_with (go_at_call 60; refine (validTask_any a b d _).mono ?_; rintro e w3 ⟨he, hB3⟩; rw [HP.out] at he; subst he; have hW3 : Below w.heap.size w w3 := Below.trans (by first | exact hB | exact Below.alloc hB hB.size _) (hB3.mono (by first | exact hB.size | (have := hB.size; simp; omega))))
            go_roundw
            case rel => exact ⟨k + 1, by omega, by go_num, (by rw [all_snoc HX.out, hall.out, HP.out]; rfl : (ts.take (k + 1)).all tkB = true), hW3⟩
            case measure => simp [intOf]; omega
          | false =>
            have HP := Lib.hid hp
            clear hp
            go_wp2_with (go_at_call 60; refine (validTask_any a b d _).mono ?_; rintro e w3 ⟨he, hB3⟩; rw [HP.out] at he; subst he; have hW3 : Below w.heap.size w w3 := Below.trans (by first | exact hB | exact Below.alloc hB hB.size _) (hB3.mono (by first | exact hB.size | (have := hB.size; simp; omega))))
            go_ret
            exact ⟨ret_bool (by rw [HV.out, all_not HX.out HP.out]), hW3⟩
        · go_wp2
          go_ret
          exact ⟨ret_bool (by rw [HV.out, ← all_full (p := tkB) (show ts.length ≤ k by omega), hall.out]), hB⟩

theorem tk_wi {a b c : Int} : tkB (a, b, c) = (wiB 0 a 99 && wiB 1 b 100 && !decide (b ≤ a) && wiB 1 c 100) := by
  rw [Bool.eq_iff_iff]; simp [tkB, wiB]; omega
set_option maxRecDepth 100000 in
set_option maxHeartbeats 1000000 in
theorem refValid_any (ts : List (Int × Int × Int)) (A : Option Addr) (c : Nat) (w : World) (h : Marks w A ts) (hl : ts.length ≤ maxLen) :
    Calls Try.prog 20 #[.slice A ts.length c] w fun e w' => e = .returned (.bool (vaB ts)) ∧ ∃ n, w' = w.drewN n := by
  unfold maxLen at hl
  have H := Lib.hid h
  clear h
  cases hn : wiB 1 ts.length 12 with
  | false =>
    have HN := Lib.hid hn
    clear hn
    go_enter Try.func20, Try.ntmps20
    go_wp2_with (go_at_call 61; refine (within_any _ _ _ _).mono ?_; rintro e w1 ⟨he, rfl⟩; rw [HN.out] at he; subst he)
    go_ret
    exact ⟨ret_bool (va_no_len (by have := HN.out; simp [wiB] at this; omega)), 0, rfl⟩
  | true =>
    have HN := Lib.hid hn
    have hn1 : 1 ≤ ts.length ∧ ts.length ≤ 12 := by have := HN.out; simp [wiB] at this; omega
    obtain ⟨n1, n2⟩ := hn1
    have HV : Hid (vaB ts = ts.all tkB) := Lib.hid (va_of n1 n2)
    clear hn
    go_enter Try.func20, Try.ntmps20
    go_wp2_with (go_at_call 61; refine (within_any _ _ _ _).mono ?_; rintro e w1 ⟨he, rfl⟩; rw [HN.out] at he; subst he)
    go_loopw [3] (fun i wr => ∃ k n : Nat, k ≤ ts.length ∧ i = .int .i64 k ∧ wr = w.drewN n ∧ Hid ((ts.take k).all tkB = true)) (fun i _ => ts.length - (intOf i).toNat)
    case atStart => exact ⟨0, 0, Nat.zero_le _, rfl, rfl, rfl⟩
    case round =>
      obtain ⟨k, n, hk, rfl, rfl, hall⟩ := hrel
      by_cases hlt : k < ts.length
      · obtain ⟨bl, off, rfl, hbk, hcells⟩ := H.out.open_ (show 0 < ts.length by omega)
        obtain ⟨a, b, d, hx⟩ := getT_of_lt hlt
        have f0 := (hcells _ _ hx).1
        have f1 := (hcells _ _ hx).2.1
        have f2 := (hcells _ _ hx).2.2
        have HX := Lib.hid hx
        have TK := Lib.hid (tk_wi (a := a) (b := b) (c := d))
        obtain ⟨wr, hwr⟩ : ∃ W, w.drewN n = W := ⟨_, rfl⟩
        have f0 : ∀ j, (wr.drewN j).cell? ⟨bl, off + k * 3, none⟩ = some (.int .i64 a) := fun j => by rw [← hwr]; exact f0
        have f1 : ∀ j, (wr.drewN j).cell? ⟨bl, off + k * 3 + 1, none⟩ = some (.int .i64 b) := fun j => by rw [← hwr]; exact f1
        have f2 : ∀ j, (wr.drewN j).cell? ⟨bl, off + k * 3 + 2, none⟩ = some (.int .i64 d) := fun j => by rw [← hwr]; exact f2
        have HWR : Hid (∀ j, ∃ n, wr.drewN j = w.drewN n) := Lib.hid (fun j => ⟨n + j, by rw [← hwr, World.drewN_drewN]⟩)
        rw [hwr]
        clear hx hcells hwr
        cases e1 : wiB 0 a 99 with
        | false =>
          have HP : Hid (tkB (a, b, d) = false) := Lib.hid (by rw [TK.out, e1]; rfl)
          go_wp2
          go_quiet ((go_at_call 61; exact Calls.quiet_of_same ((within_any _ _ _ _).mono fun _ _ h => ⟨by rw [h.1, e1], h.2.symm⟩)))
          go_wp2
          go_ret
          exact ⟨ret_bool (by rw [HV.out, all_not HX.out HP.out]), HWR.out _⟩
        | true =>
          cases e2 : wiB 1 b 100 with
          | false =>
            have HP : Hid (tkB (a, b, d) = false) := Lib.hid (by rw [TK.out, e1, e2]; rfl)
            go_wp2
            go_quiet ((go_at_call 61; exact Calls.quiet_of_same ((within_any _ _ _ _).mono fun _ _ h => ⟨by first | rw [h.1, e1] | rw [h.1, e2], h.2.symm⟩)))
            go_wp2
            go_ret
            exact ⟨ret_bool (by rw [HV.out, all_not HX.out HP.out]), HWR.out _⟩
          | true =>
            by_cases e3 : b ≤ a
            · have t3 : decide (b ≤ a) = true := decide_eq_true e3
              have HP : Hid (tkB (a, b, d) = false) := Lib.hid (by rw [TK.out, e1, e2, t3]; rfl)
              go_wp2
              go_quiet ((go_at_call 61; exact Calls.quiet_of_same ((within_any _ _ _ _).mono fun _ _ h => ⟨by first | rw [h.1, e1] | rw [h.1, e2], h.2.symm⟩)))
              go_wp2
              go_ret
              exact ⟨ret_bool (by rw [HV.out, all_not HX.out HP.out]), HWR.out _⟩
            · have t3 : decide (b ≤ a) = false := decide_eq_false e3
              cases e4 : wiB 1 d 100 with
              | false =>
                have HP : Hid (tkB (a, b, d) = false) := Lib.hid (by rw [TK.out, e1, e2, t3, e4]; rfl)
                go_wp2
                go_quiet ((go_at_call 61; exact Calls.quiet_of_same ((within_any _ _ _ _).mono fun _ _ h => ⟨by first | rw [h.1, e1] | rw [h.1, e2] | rw [h.1, e4], h.2.symm⟩)))
                go_wp2
                go_ret
                exact ⟨ret_bool (by rw [HV.out, all_not HX.out HP.out]), HWR.out _⟩
              | true =>
                have HP : Hid (tkB (a, b, d) = true) := Lib.hid (by rw [TK.out, e1, e2, t3, e4]; rfl)
                go_wp2
                go_quiet ((go_at_call 61; exact Calls.quiet_of_same ((within_any _ _ _ _).mono fun _ _ h => ⟨by first | rw [h.1, e1] | rw [h.1, e2] | rw [h.1, e4], h.2.symm⟩)))
                go_wp2
                go_roundw
                case rel =>
                  obtain ⟨n', hn'⟩ := HWR.out nq
                  exact ⟨k + 1, n', by omega, by go_num, hn', (by rw [all_snoc HX.out, hall.out, HP.out]; rfl : (ts.take (k + 1)).all tkB = true)⟩
                case measure => simp [intOf]; omega
      · go_wp2
        go_ret
        exact ⟨ret_bool (by rw [HV.out, ← all_full (p := tkB) (show ts.length ≤ k by omega), hall.out]), n, rfl⟩
end Go.Proofs.Ythanmiifcpajhaa
