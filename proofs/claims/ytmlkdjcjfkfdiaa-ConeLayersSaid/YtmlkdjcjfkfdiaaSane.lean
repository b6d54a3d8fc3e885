/-
  Contracts: SameInts, SameHits (firnref02); Long, Sane (firnlaw02).
-/
import Derived.Test.YtmlkdjcjfkfdiaaLong
namespace Go.Proofs.Ytmlkdjcjfkfdiaa
open Go.RowKit Go.Shelf

theorem ne_len {α : Type} [DecidableEq α] {xs ys : List α} (h : xs.length ≠ ys.length) : false = decide (xs = ys) := by
  rw [eq_comm, decide_eq_false_iff_not]; rintro rfl; exact h rfl
theorem ne_at {α : Type} [DecidableEq α] {xs ys : List α} {k : Nat} {x y : α} (hx : xs[k]? = some x) (hy : ys[k]? = some y) (h : x ≠ y) : false = decide (xs = ys) := by
  rw [eq_comm, decide_eq_false_iff_not]; rintro rfl; rw [hx] at hy; exact h (Option.some.inj hy)
theorem eq_next {α : Type} {xs ys : List α} {k : Nat} {x y : α} (hx : xs[k]? = some x) (hy : ys[k]? = some y) (h : x = y) (ht : xs.take k = ys.take k) : xs.take (k + 1) = ys.take (k + 1) := by
  rw [take_snoc hx, take_snoc hy, ht, h]
theorem eq_end {α : Type} [DecidableEq α] {xs ys : List α} {k : Nat} (hl : xs.length = ys.length) (hk : xs.length ≤ k) (ht : xs.take k = ys.take k) : true = decide (xs = ys) := by
  rw [List.take_of_length_le hk, List.take_of_length_le (by omega)] at ht; simp [ht]

set_option maxRecDepth 100000 in
theorem sameInts_any (xs ys : List Int) (A B : Option Addr) (c d : Nat) (w : World) (hA : Ints w A xs) (hB : Ints w B ys) (hl : xs.length ≤ maxLen) :
    Calls Try.prog 23 #[.slice A xs.length c, .slice B ys.length d] w fun e w' => e = .returned (.bool (decide (xs = ys))) ∧ ∃ n, w' = w.drewN n := by
  unfold maxLen at hl
  have HA := Lib.hid hA
  have HB := Lib.hid hB
  clear hA hB
  by_cases hlen : xs.length = ys.length
  · have HL := Lib.hid hlen
    have hn : (((xs.length : Int) != (ys.length : Int)) = false) := by rw [hlen]; simp
    have hle : xs.length ≤ ys.length := by omega
    clear hlen
    go_enter Try.func23, Try.ntmps23
    go_wp2
    go_loopw [5] (fun i wr => ∃ k m : Nat, k ≤ xs.length ∧ i = .int .i64 k ∧ wr = w.drewN m ∧ Hid (xs.take k = ys.take k)) (fun i _ => xs.length - (intOf i).toNat)
    case atStart => exact ⟨0, 0, Nat.zero_le _, rfl, rfl, rfl⟩
    case round =>
      obtain ⟨k, m, hk, rfl, rfl, ht⟩ := hrel
      by_cases hlt : k < xs.length
      · obtain ⟨ad, x, rfl, _, hx, c1⟩ := HA.out.get hlt
        obtain ⟨ad2, y, rfl, _, hy, c2⟩ := HB.out.get (show k < ys.length by omega)
        have hlt2 : k < ys.length := by omega
        by_cases h1 : x = y
        · subst h1
          go_wp2
          go_quiet (fail)
          go_wp2
          go_roundw
          case rel => exact ⟨k + 1, _, by omega, by go_num, (by first | rfl | exact World.drewN_drewN _ _ _), eq_next hx.out hy.out rfl ht.out⟩
          case measure => simp [intOf]; omega
        · have t1 : (x == y) = false := by simpa using h1
          have t2 : (x != y) = true := by simpa using h1
          go_wp2
          go_quiet (fail)
          go_wp2
          go_ret
          exact ⟨ret_bool (ne_at hx.out hy.out h1), _, (by first | rfl | exact World.drewN_drewN _ _ _)⟩
      · go_wp2
        go_ret
        exact ⟨ret_bool (eq_end HL.out (by omega) ht.out), _, rfl⟩
  · have hn : (((xs.length : Int) != (ys.length : Int)) = true) := by simp; omega
    go_enter Try.func23, Try.ntmps23
    go_wp2
    go_ret
    exact ⟨ret_bool (ne_len hlen), 0, rfl⟩

set_option maxRecDepth 100000 in
theorem sameHits_any (xs ys : List (Int × Int)) (A B : Option Addr) (c d : Nat) (w : World) (hA : Marks w A xs) (hB : Marks w B ys) (hl : xs.length ≤ maxLen) :
    Calls Try.prog 53 #[.slice A xs.length c, .slice B ys.length d] w fun e w' => e = .returned (.bool (decide (xs = ys))) ∧ ∃ n, w' = w.drewN n := by
  unfold maxLen at hl
  have HA := Lib.hid hA
  have HB := Lib.hid hB
  clear hA hB
  by_cases hlen : xs.length = ys.length
  · have HL := Lib.hid hlen
    have hn : (((xs.length : Int) != (ys.length : Int)) = false) := by rw [hlen]; simp
    have hle : xs.length ≤ ys.length := by omega
    clear hlen
    go_enter Try.func53, Try.ntmps53
    go_wp2
    go_loopw [5] (fun i wr => ∃ k m : Nat, k ≤ xs.length ∧ i = .int .i64 k ∧ wr = w.drewN m ∧ Hid (xs.take k = ys.take k)) (fun i _ => xs.length - (intOf i).toNat)
    case atStart => exact ⟨0, 0, Nat.zero_le _, rfl, rfl, rfl⟩
    case round =>
      obtain ⟨k, m, hk, rfl, rfl, ht⟩ := hrel
      by_cases hlt : k < xs.length
      · obtain ⟨bl, off, rfl, _, hc⟩ := HA.out.open_ (show 0 < xs.length by omega)
        obtain ⟨bl2, off2, rfl, _, hd⟩ := HB.out.open_ (show 0 < ys.length by omega)
        obtain ⟨a, b, hx⟩ := getM_of_lt hlt
        obtain ⟨a2, b2, hy⟩ := getM_of_lt (show k < ys.length by omega)
        have hlt2 : k < ys.length := by omega
        have c1 := (hc k _ hx).1
        have c2 := (hc k _ hx).2
        have c3 := (hd k _ hy).1
        have c4 := (hd k _ hy).2
        have HX := Lib.hid hx
        have HY := Lib.hid hy
        clear hx hy hc hd
        by_cases h1 : a = a2
        · subst h1
          by_cases h2 : b = b2
          · subst h2
            go_wp2
            go_quiet (fail)
            go_wp2
            go_roundw
            case rel => exact ⟨k + 1, _, by omega, by go_num, (by first | rfl | exact World.drewN_drewN _ _ _), eq_next HX.out HY.out rfl ht.out⟩
            case measure => simp [intOf]; omega
          · have t2 : (b == b2) = false := by simpa using h2
            go_wp2
            go_quiet (fail)
            go_wp2
            go_ret
            exact ⟨ret_bool (ne_at HX.out HY.out (by simpa using h2)), _, (by first | rfl | exact World.drewN_drewN _ _ _)⟩
        · have t1 : (a == a2) = false := by simpa using h1
          go_wp2
          go_quiet (fail)
          go_wp2
          go_ret
          exact ⟨ret_bool (ne_at HX.out HY.out (by intro e; injection e with e1 e2; exact h1 e1)), _, (by first | rfl | exact World.drewN_drewN _ _ _)⟩
      · go_wp2
        go_ret
        exact ⟨ret_bool (eq_end HL.out (by omega) ht.out), _, rfl⟩
  · have hn : (((xs.length : Int) != (ys.length : Int)) = true) := by simp; omega
    go_enter Try.func53, Try.ntmps53
    go_wp2
    go_ret
    exact ⟨ret_bool (ne_len hlen), 0, rfl⟩

theorem lawLong_any (ms : List (Int × Int)) (A : Option Addr) (c : Nat) (w : World) :
    Calls Try.prog 15 #[.slice A ms.length c] w fun e w' => e = .returned (.bool (decide (40 < ms.length))) ∧ w = w' := by
  go_enter Try.func15, Try.ntmps15
  go_wp2
  go_ret
  exact ⟨ret_bool (by simp; omega), rfl⟩

theorem hits_lit (w : World) : Clk (w.alloc (.cells #[.int .i64 0, .int .i64 0, .int .i64 5, .int .i64 3, .int .i64 0, .int .i64 10] 63)) (some ⟨w.heap.size, 0, none⟩) 3 [(0, 0), (5, 3), (0, 10)] :=
  ⟨⟨rfl, fun _ => ⟨_, rfl, by simp, cells_new w [.int .i64 0, .int .i64 0, .int .i64 5, .int .i64 3, .int .i64 0, .int .i64 10] 63⟩⟩, Nat.le_refl _, by unfold maxLen; simp⟩
theorem ints_lit (w : World) : Ints (w.alloc (.cells #[.int .i64 0, .int .i64 1] 3)) (some ⟨w.heap.size, 0, none⟩) [0, 1] :=
  ⟨rfl, fun _ => ⟨_, rfl, by simp, cells_new w [.int .i64 0, .int .i64 1] 3⟩⟩
theorem layer_lit : layerF [(0, 0), (5, 3), (0, 10)] = [0, 1] := by decide +kernel
theorem hits_ok : hitsE [(0, 0), (5, 3), (0, 10)] = 0 := by decide +kernel
set_option maxRecDepth 100000 in
theorem sane_any (w : World) :
    Calls Try.prog 16 #[] w fun e w' => e = .returned (.bool true) ∧ Below w.heap.size w w' := by
  go_enter Try.func16, Try.ntmps16
  go_wp2_with (go_at_call 38; refine (coneLayer_any [(0, 0), (5, 3), (0, 10)] _ 3 _ (hits_lit w)).mono ?_; rintro e w1 ⟨A1, c1, ys, E, rfl, hO, hB, hy⟩; obtain rfl : ys = [0, 1] := hy.out.1.trans layer_lit; obtain rfl : E = 0 := hy.out.2.trans hits_ok)
  refine (sameInts_any [0, 1] [0, 1] A1 _ c1 2 _ (hO.ints.alloc_ _) (ints_lit w1) (by simp [maxLen])).mono ?_
  rintro e w2 ⟨rfl, n, rfl⟩
  go_wp2_with fail
  go_ret
  exact ⟨by simp, below_drewN (below_step (Below.trans (by repeat (first | with_reducible exact Below.refl _ _ | with_reducible assumption | refine below_drewN ?_ _ | with_reducible refine Below.drew ?_ | (refine Below.setCell ?_ (by first | (simp; done) | (simp; omega) | omega) _) | (refine Below.alloc ?_ (by first | (simp; done) | (simp; omega) | omega) _))) (hB.mono (by first | (simp; done) | (simp; omega) | omega))) ((Below.refl _ _).alloc (Nat.le_refl _) _)) n⟩
end Go.Proofs.Ytmlkdjcjfkfdiaa
