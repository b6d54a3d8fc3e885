/-
  Contracts: SameInts, SameRatios, SamePoints (firnref05); Long (firnlaw05).
-/
import Derived.Test.YtoilbgngefleiaaRefV
namespace Go.Proofs.Ytoilbgngefleiaa
open Go Go.RowKit Go.Shelf

theorem ne_len {α : Type} [DecidableEq α] {xs ys : List α} (h : xs.length ≠ ys.length) : false = decide (xs = ys) := by
  rw [eq_comm, decide_eq_false_iff_not]; rintro rfl; exact h rfl
theorem ne_at {α : Type} [DecidableEq α] {xs ys : List α} {k : Nat} {x y : α} (hx : xs[k]? = some x) (hy : ys[k]? = some y) (h : x ≠ y) : false = decide (xs = ys) := by
  rw [eq_comm, decide_eq_false_iff_not]; rintro rfl; rw [hx] at hy; exact h (Option.some.inj hy)
theorem eq_next {α : Type} {xs ys : List α} {k : Nat} {x y : α} (hx : xs[k]? = some x) (hy : ys[k]? = some y) (h : x = y) (ht : xs.take k = ys.take k) : xs.take (k + 1) = ys.take (k + 1) := by
  rw [take_snoc hx, take_snoc hy, ht, h]
theorem eq_end {α : Type} [DecidableEq α] {xs ys : List α} {k : Nat} (hl : xs.length = ys.length) (hk : xs.length ≤ k) (ht : xs.take k = ys.take k) : true = decide (xs = ys) := by
  rw [List.take_of_length_le hk, List.take_of_length_le (by omega)] at ht; simp [ht]

set_option maxRecDepth 100000 in
theorem sameInts_any (xs ys : List Int) (A B : Option Addr) (c d : Nat) (w : World) (hA : Ints w A xs) (hB : Ints w B ys) (hl : xs.length ≤ maxLen) :
    Calls Try.prog 30 #[.slice A xs.length c, .slice B ys.length d] w fun e w' => e = .returned (.bool (decide (xs = ys))) ∧ ∃ n, w' = w.drewN n := by
  unfold maxLen at hl
  have HA := Lib.hid hA
  have HB := Lib.hid hB
  clear hA hB
  by_cases hlen : xs.length = ys.length
  · have HL := Lib.hid hlen
    have hn : (((xs.length : Int) != (ys.length : Int)) = false) := by rw [hlen]; simp
    have hle : xs.length ≤ ys.length := by omega
    clear hlen
    go_enter Try.func30, Try.ntmps30
    go_wp2
    go_loopw [13] (fun i wr => ∃ k m : Nat, k ≤ xs.length ∧ i = .int .i64 k ∧ wr = w.drewN m ∧ Hid (xs.take k = ys.take k)) (fun i _ => xs.length - (intOf i).toNat)
    case atStart => exact ⟨0, 0, Nat.zero_le _, rfl, rfl, rfl⟩
    case round =>
      obtain ⟨k, m, hk, rfl, rfl, ht⟩ := hrel
      by_cases hlt : k < xs.length
      · obtain ⟨ad, x, rfl, _, hx, c1⟩ := HA.out.get hlt
        obtain ⟨ad2, y, rfl, _, hy, c2⟩ := HB.out.get (show k < ys.length by omega)
        have hlt2 : k < ys.length := by omega
        by_cases h1 : x = y
        · subst h1
          go_wp2
          go_quiet (fail)
          go_wp2
          go_roundw
          case rel => exact ⟨k + 1, _, by omega, by go_num, (by first | rfl | exact World.drewN_drewN _ _ _), eq_next hx.out hy.out rfl ht.out⟩
          case measure => simp [intOf]; omega
        · have t1 : (x == y) = false := by simpa using h1
          have t2 : (x != y) = true := by simpa using h1
          go_wp2
          go_quiet (fail)
          go_wp2
          go_ret
          exact ⟨ret_bool (ne_at hx.out hy.out h1), _, (by first | rfl | exact World.drewN_drewN _ _ _)⟩
      · go_wp2
        go_ret
        exact ⟨ret_bool (eq_end HL.out (by omega) ht.out), _, rfl⟩
  · have hn : (((xs.length : Int) != (ys.length : Int)) = true) := by simp; omega
    go_enter Try.func30, Try.ntmps30
    go_wp2
    go_ret
    exact ⟨ret_bool (ne_len hlen), 0, rfl⟩

set_option maxRecDepth 100000 in
theorem sameRatios_any (xs ys : List (Int × Int)) (A B : Option Addr) (c d : Nat) (w : World) (hA : Marks w A xs) (hB : Marks w B ys) (hl : xs.length ≤ maxLen) :
    Calls Try.prog 23 #[.slice A xs.length c, .slice B ys.length d] w fun e w' => e = .returned (.bool (decide (xs = ys))) ∧ ∃ n, w' = w.drewN n := by
  unfold maxLen at hl
  have HA := Lib.hid hA
  have HB := Lib.hid hB
  clear hA hB
  by_cases hlen : xs.length = ys.length
  · have HL := Lib.hid hlen
    have hn : (((xs.length : Int) != (ys.length : Int)) = false) := by rw [hlen]; simp
    have hle : xs.length ≤ ys.length := by omega
    clear hlen
    go_enter Try.func23, Try.ntmps23
    go_wp2
    go_loopw [13] (fun i wr => ∃ k m : Nat, k ≤ xs.length ∧ i = .int .i64 k ∧ wr = w.drewN m ∧ Hid (xs.take k = ys.take k)) (fun i _ => xs.length - (intOf i).toNat)
    case atStart => exact ⟨0, 0, Nat.zero_le _, rfl, rfl, rfl⟩
    case round =>
      obtain ⟨k, m, hk, rfl, rfl, ht⟩ := hrel
      by_cases hlt : k < xs.length
      · obtain ⟨bl, off, rfl, _, hc⟩ := HA.out.open_ (show 0 < xs.length by omega)
        obtain ⟨bl2, off2, rfl, _, hd⟩ := HB.out.open_ (show 0 < ys.length by omega)
        obtain ⟨a, b, hx⟩ := getM_of_lt hlt
        obtain ⟨a2, b2, hy⟩ := getM_of_lt (show k < ys.length by omega)
        have hlt2 : k < ys.length := by omega
        have c1 := (hc k _ hx).1
        have c2 := (hc k _ hx).2
        have c3 := (hd k _ hy).1
        have c4 := (hd k _ hy).2
        have HX := Lib.hid hx
        have HY := Lib.hid hy
        clear hx hy hc hd
        by_cases h1 : a = a2
        · subst h1
          by_cases h2 : b = b2
          · subst h2
            go_wp2
            go_quiet (fail)
            go_wp2
            go_roundw
            case rel => exact ⟨k + 1, _, by omega, by go_num, (by first | rfl | exact World.drewN_drewN _ _ _), eq_next HX.out HY.out rfl ht.out⟩
            case measure => simp [intOf]; omega
          · have t2 : (b == b2) = false := by simpa using h2
            go_wp2
            go_quiet (fail)
            go_wp2
            go_ret
            exact ⟨ret_bool (ne_at HX.out HY.out (by simpa using h2)), _, (by first | rfl | exact World.drewN_drewN _ _ _)⟩
        · have t1 : (a == a2) = false := by simpa using h1
          go_wp2
          go_quiet (fail)
          go_wp2
          go_ret
          exact ⟨ret_bool (ne_at HX.out HY.out (by intro e; injection e with e1 e2; exact h1 e1)), _, (by first | rfl | exact World.drewN_drewN _ _ _)⟩
      · go_wp2
        go_ret
        exact ⟨ret_bool (eq_end HL.out (by omega) ht.out), _, rfl⟩
  · have hn : (((xs.length : Int) != (ys.length : Int)) = true) := by simp; omega
    go_enter Try.func23, Try.ntmps23
    go_wp2
    go_ret
    exact ⟨ret_bool (ne_len hlen), 0, rfl⟩

set_option maxRecDepth 100000 in
theorem samePoints_any (xs ys : List (Int × Int)) (A B : Option Addr) (c d : Nat) (w : World) (hA : Marks w A xs) (hB : Marks w B ys) (hl : xs.length ≤ maxLen) :
    Calls Try.prog 48 #[.slice A xs.length c, .slice B ys.length d] w fun e w' => e = .returned (.bool (decide (xs = ys))) ∧ ∃ n, w' = w.drewN n := by
  unfold maxLen at hl
  have HA := Lib.hid hA
  have HB := Lib.hid hB
  clear hA hB
  by_cases hlen : xs.length = ys.length
  · have HL := Lib.hid hlen
    have hn : (((xs.length : Int) != (ys.length : Int)) = false) := by rw [hlen]; simp
    have hle : xs.length ≤ ys.length := by omega
    clear hlen
    go_enter Try.func48, Try.ntmps48
    go_wp2
    go_loopw [13] (fun i wr => ∃ k m : Nat, k ≤ xs.length ∧ i = .int .i64 k ∧ wr = w.drewN m ∧ Hid (xs.take k = ys.take k)) (fun i _ => xs.length - (intOf i).toNat)
    case atStart => exact ⟨0, 0, Nat.zero_le _, rfl, rfl, rfl⟩
    case round =>
      obtain ⟨k, m, hk, rfl, rfl, ht⟩ := hrel
      by_cases hlt : k < xs.length
      · obtain ⟨bl, off, rfl, _, hc⟩ := HA.out.open_ (show 0 < xs.length by omega)
        obtain ⟨bl2, off2, rfl, _, hd⟩ := HB.out.open_ (show 0 < ys.length by omega)
        obtain ⟨a, b, hx⟩ := getM_of_lt hlt
        obtain ⟨a2, b2, hy⟩ := getM_of_lt (show k < ys.length by omega)
        have hlt2 : k < ys.length := by omega
        have c1 := (hc k _ hx).1
        have c2 := (hc k _ hx).2
        have c3 := (hd k _ hy).1
        have c4 := (hd k _ hy).2
        have HX := Lib.hid hx
        have HY := Lib.hid hy
        clear hx hy hc hd
        by_cases h1 : a = a2
        · subst h1
          by_cases h2 : b = b2
          · subst h2
            go_wp2
            go_quiet (fail)
            go_wp2
            go_roundw
            case rel => exact ⟨k + 1, _, by omega, by go_num, (by first | rfl | exact World.drewN_drewN _ _ _), eq_next HX.out HY.out rfl ht.out⟩
            case measure => simp [intOf]; omega
          · have t2 : (b == b2) = false := by simpa using h2
            go_wp2
            go_quiet (fail)
            go_wp2
            go_ret
            exact ⟨ret_bool (ne_at HX.out HY.out (by simpa using h2)), _, (by first | rfl | exact World.drewN_drewN _ _ _)⟩
        · have t1 : (a == a2) = false := by simpa using h1
          go_wp2
          go_quiet (fail)
          go_wp2
          go_ret
          exact ⟨ret_bool (ne_at HX.out HY.out (by intro e; injection e with e1 e2; exact h1 e1)), _, (by first | rfl | exact World.drewN_drewN _ _ _)⟩
      · go_wp2
        go_ret
        exact ⟨ret_bool (eq_end HL.out (by omega) ht.out), _, rfl⟩
  · have hn : (((xs.length : Int) != (ys.length : Int)) = true) := by simp; omega
    go_enter Try.func48, Try.ntmps48
    go_wp2
    go_ret
    exact ⟨ret_bool (ne_len hlen), 0, rfl⟩

theorem sameInts_same (xs : List Int) (A B : Option Addr) (c d : Nat) (w : World) (hA : Ints w A xs) (hB : Ints w B xs) (hl : xs.length ≤ maxLen) :
    Calls Try.prog 30 #[.slice A xs.length c, .slice B xs.length d] w fun e w' => e = .returned (.bool true) ∧ Below w.heap.size w w' :=
  (sameInts_any xs xs A B c d w hA hB hl).mono fun _ _ ⟨he, n, hw⟩ => ⟨by rw [he]; simp, hw ▸ below_drewN (Below.refl _ _) n⟩
theorem sameRatios_same (xs : List (Int × Int)) (A B : Option Addr) (c d : Nat) (w : World) (hA : Marks w A xs) (hB : Marks w B xs) (hl : xs.length ≤ maxLen) :
    Calls Try.prog 23 #[.slice A xs.length c, .slice B xs.length d] w fun e w' => e = .returned (.bool true) ∧ Below w.heap.size w w' :=
  (sameRatios_any xs xs A B c d w hA hB hl).mono fun _ _ ⟨he, n, hw⟩ => ⟨by rw [he]; simp, hw ▸ below_drewN (Below.refl _ _) n⟩
theorem samePoints_same (xs : List (Int × Int)) (A B : Option Addr) (c d : Nat) (w : World) (hA : Marks w A xs) (hB : Marks w B xs) (hl : xs.length ≤ maxLen) :
    Calls Try.prog 48 #[.slice A xs.length c, .slice B xs.length d] w fun e w' => e = .returned (.bool true) ∧ Below w.heap.size w w' :=
  (samePoints_any xs xs A B c d w hA hB hl).mono fun _ _ ⟨he, n, hw⟩ => ⟨by rw [he]; simp, hw ▸ below_drewN (Below.refl _ _) n⟩
theorem lawLong_any (ms : List (Int × Int)) (A : Option Addr) (c : Nat) (w : World) :
    Calls Try.prog 15 #[.slice A ms.length c] w fun e w' => e = .returned (.bool (decide (60 < ms.length))) ∧ w = w' := by
  go_enter Try.func15, Try.ntmps15
  go_wp2
  go_ret
  exact ⟨ret_bool (by simp; omega), rfl⟩
end Go.Proofs.Ytoilbgngefleiaa
