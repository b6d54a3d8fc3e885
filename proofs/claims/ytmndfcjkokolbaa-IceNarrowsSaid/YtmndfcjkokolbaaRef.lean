/-
  Contracts: firnref04's within, Valid, Metres, loss, Depth, Dim, Loss.
-/
import Derived.Test.YtmndfcjkokolbaaMean
namespace Go.Proofs.Ytmndfcjkokolbaa
open Go.RowKit Go.Shelf

theorem refWithin_any (lo n hi : Int) (w : World) :
    Calls Try.prog 65 #[.int .i64 lo, .int .i64 n, .int .i64 hi] w fun e w' => e = .returned (.bool (decide (lo ≤ n ∧ n ≤ hi))) ∧ w = w' := by
  by_cases h1 : lo ≤ n
  · have t1 : decide (lo ≤ n) = true := decide_eq_true h1
    go_enter Try.func65, Try.ntmps65
    go_wp2
    go_ret
    exact ⟨ret_bool (by simp [h1]), rfl⟩
  · have t1 : decide (lo ≤ n) = false := decide_eq_false h1
    go_enter Try.func65, Try.ntmps65
    go_wp2
    go_ret
    exact ⟨ret_bool (by simp), rfl⟩

theorem lay_bad1 {a b : Int} (h : ¬ (1 ≤ a ∧ a ≤ 30)) : layB (a, b) = false := by simp [layB]; omega
theorem lay_bad2 {a b : Int} (h : ¬ (0 ≤ b ∧ b ≤ 100)) : layB (a, b) = false := by simp [layB]; omega
theorem vi_bad {ms : List (Int × Int)} {k : Nat} {m : Int × Int} (h : ms[k]? = some m) (hm : layB m = false) : false = viB ms := by
  rw [viB, all_not h hm]; simp

set_option maxRecDepth 100000 in
set_option maxHeartbeats 800000 in
theorem refValid_any (ms : List (Int × Int)) (A : Option Addr) (c : Nat) (w : World) (h : Marks w A ms) (hl : ms.length ≤ maxLen) :
    Calls Try.prog 22 #[.slice A ms.length c] w fun e w' => e = .returned (.bool (viB ms)) ∧ ∃ n, w' = w.drewN n := by
  unfold maxLen at hl
  have H := Lib.hid h
  clear h
  by_cases hn : 1 ≤ ms.length ∧ ms.length ≤ 20
  · have n1 : decide ((1 : Int) ≤ (ms.length : Int) ∧ (ms.length : Int) ≤ 20) = true := decide_eq_true (by omega)
    have HN := Lib.hid n1
    clear n1
    go_enter Try.func22, Try.ntmps22
    go_wp2_with (go_at_call 65; refine (refWithin_any _ _ _ _).mono ?_; rintro e w' ⟨rfl, rfl⟩; rw [HN.out])
    go_loopw [3] (fun i wr => ∃ k n : Nat, k ≤ ms.length ∧ i = .int .i64 k ∧ wr = w.drewN n ∧ Hid ((ms.take k).all layB = true)) (fun i _ => ms.length - (intOf i).toNat)
    case atStart => exact ⟨0, 0, Nat.zero_le _, rfl, rfl, rfl⟩
    case round =>
      obtain ⟨k, n, hk, rfl, rfl, hall⟩ := hrel
      by_cases hlt : k < ms.length
      · obtain ⟨bl, off, rfl, hbk, hcells⟩ := H.out.open_ (show 0 < ms.length by omega)
        obtain ⟨a, b, hx⟩ := getM_of_lt hlt
        have f0 := (hcells _ _ hx).1
        have f1 := (hcells _ _ hx).2
        have HX := Lib.hid hx
        clear hx hcells
        by_cases h1 : 1 ≤ a ∧ a ≤ 30
        · have H1 := Lib.hid (decide_eq_true h1)
          have HA := Lib.hid h1
          clear h1
          by_cases h2 : 0 ≤ b ∧ b ≤ 100
          · have H2 := Lib.hid (decide_eq_true h2)
            have HB := Lib.hid h2
            clear h2
            have TA : Hid True := Lib.hid trivial
            go_wp2_with (first
              | (go_at_call 65; clear TA; refine (refWithin_any 1 a 30 _).mono ?_; rintro e w' ⟨rfl, rfl⟩; rw [H1.out])
              | (go_at_call 65; refine (refWithin_any 0 b 100 _).mono ?_; rintro e w' ⟨rfl, rfl⟩; rw [H2.out]))
            go_roundw
            case rel => exact ⟨k + 1, n, by omega, by go_num, rfl, (by rw [all_snoc HX.out, hall.out]; have := HA.out; have := HB.out; simp [layB]; omega : (ms.take (k + 1)).all layB = true)⟩
            case measure => simp [intOf]; omega
          · have H2 := Lib.hid (decide_eq_false h2)
            have HB := Lib.hid h2
            clear h2
            have TA : Hid True := Lib.hid trivial
            go_wp2_with (first
              | (go_at_call 65; clear TA; refine (refWithin_any 1 a 30 _).mono ?_; rintro e w' ⟨rfl, rfl⟩; rw [H1.out])
              | (go_at_call 65; refine (refWithin_any 0 b 100 _).mono ?_; rintro e w' ⟨rfl, rfl⟩; rw [H2.out]))
            go_ret
            exact ⟨ret_bool (vi_bad HX.out (lay_bad2 HB.out)), _, rfl⟩
        · have H1 := Lib.hid (decide_eq_false h1)
          have HA := Lib.hid h1
          clear h1
          go_wp2_with (go_at_call 65; refine (refWithin_any 1 a 30 _).mono ?_; rintro e w' ⟨rfl, rfl⟩; rw [H1.out])
          go_ret
          exact ⟨ret_bool (vi_bad HX.out (lay_bad1 HA.out)), _, rfl⟩
      · go_wp2
        go_ret
        exact ⟨ret_bool (vi_yes hn (by rw [← all_full (p := layB) (show ms.length ≤ k by omega), hall.out])), _, rfl⟩
  · have n1 : decide ((1 : Int) ≤ (ms.length : Int) ∧ (ms.length : Int) ≤ 20) = false := decide_eq_false (by omega)
    have HN := Lib.hid n1
    clear n1
    go_enter Try.func22, Try.ntmps22
    go_wp2_with (go_at_call 65; refine (refWithin_any _ _ _ _).mono ?_; rintro e w' ⟨rfl, rfl⟩; rw [HN.out])
    go_ret
    exact ⟨ret_bool (vi_len hn), 0, rfl⟩

theorem met_next {L : List Int} {xs : List Int} {j : Nat} {d : Int} (h : xs = L ++ List.replicate j d) : xs ++ [d] = L ++ List.replicate (j + 1) d := by
  rw [rep_snoc, ← h]
theorem met_close {ns : List (Int × Int)} {k : Nat} {a d : Int} {j : Nat} {xs : List Int} (hx : ns[k]? = some (a, d)) (hj : (j : Int) = a) (h : xs = mtL (ns.take k) ++ List.replicate j d) : xs = mtL (ns.take (k + 1)) := by
  rw [mt_snoc hx, show (a, d).1.toNat = j by simp; omega]; exact h

set_option maxRecDepth 100000 in
set_option maxHeartbeats 800000 in
theorem metres_any (ms : List (Int × Int)) (A : Option Addr) (c : Nat) (w : World) (h : Marks w A ms) (hv : viB ms = true) :
    Calls Try.prog 58 #[.slice A ms.length c] w fun e w' => ∃ (A' : Option Addr) (c' : Nat) (xs : List Int), e = .returned (.slice A' xs.length c') ∧ Out w' A' c' xs ∧ Below w.heap.size w w' ∧ Hid (xs = mtL ms) := by
  have hn := vi_parts hv
  obtain ⟨bl, off, rfl, hbk, hcells⟩ := h.open_ (by omega)
  have HC := Lib.hid hcells
  have HV := Lib.hid hv
  clear hcells hv h
  go_enter Try.func58, Try.ntmps58
  go_wp2
  go_loopw [3, 4] (fun v i wr => ∃ k : Nat, k ≤ ms.length ∧ i = .int .i64 k ∧ ∃ xs : List Int, wr.ownsRow w.heap.size 3 1 v xs.length (xs.map (Value.int .i64)) ∧ xs.length ≤ 30 * k ∧ Hid (xs = mtL (ms.take k)) ∧ Below w.heap.size w wr) (fun _ i _ => ms.length - (intOf i).toNat)
  case atStart => exact ⟨0, Nat.zero_le _, rfl, [], World.ownsRow_nil _ _ _ _, by simp, rfl, Below.refl _ _⟩
  case round =>
    obtain ⟨k, hk, rfl, xs, hown, hxl, hX, hB⟩ := hrel
    by_cases hlt : k < ms.length
    · obtain ⟨a, b, hx⟩ := getM_of_lt hlt
      have hab := vi_at HV.out hx
      have HX2 := Lib.hid hx
      have HCX := Lib.hid (HC.out _ _ hx)
      clear hx
      have i0 : (0 : Int) ≤ (k : Int) := by omega
      have i1 : (k : Int) < (ms.length : Int) := by omega
      obtain ⟨wo, hwo⟩ : ∃ wo : World, wo = wr := ⟨_, rfl⟩
      subst hwo
      go_wp2
      go_loopw [3, 5] (fun v i w1 => ∃ j : Nat, (j : Int) ≤ a ∧ i = .int .i64 j ∧ ∃ xs : List Int, w1.ownsRow w.heap.size 3 1 v xs.length (xs.map (Value.int .i64)) ∧ xs.length ≤ 30 * k + j ∧ Hid (xs = mtL (ms.take k) ++ List.replicate j b) ∧ Below w.heap.size w w1) (fun _ i _ => a.toNat - (intOf i).toNat)
      case atStart => exact ⟨0, by omega, rfl, xs, hown, by omega, (by simpa using hX), hB⟩
      case round =>
        clear hown hX hB hxl
        obtain ⟨j, hj, rfl, ys, hown, hxl, hX, hB⟩ := hrel
        have f0 := (hB.cell (p := ⟨bl, off + k * 2, none⟩) hbk).trans HCX.out.1
        have f1 := (hB.cell (p := ⟨bl, off + k * 2 + 1, none⟩) hbk).trans HCX.out.2
        by_cases hlt2 : (j : Int) < a
        · have t1 : decide ((j : Int) < a) = true := decide_eq_true hlt2
          go_wp2_with (at_builtin; refine wp_app_int _ rfl (.tmp 21) (.tmp 27) rfl w.heap.size _ ys.length ys _ rfl hown rfl (by omega) hB.size ?_; intro v2 w2 hown2 hB2)
          go_roundw
          case rel => exact ⟨j + 1, by omega, by go_num, ys ++ [b], by rw [List.length_append]; exact hown2, by simp; omega, met_next hX.out, hB.trans hB2⟩
          case measure => simp [intOf]; omega
        · have t1 : decide ((j : Int) < a) = false := decide_eq_false hlt2
          go_wp2
          go_roundw
          case rel => exact ⟨k + 1, by omega, by go_num, ys, hown, by omega, met_close HX2.out (by omega) hX.out, hB⟩
          case measure => simp [intOf]; omega
    · obtain rfl : k = ms.length := by omega
      go_wp2
      go_ret
      obtain ⟨A', c', rfl, hI⟩ := own_ints hown
      exact ⟨A', c', xs, rfl, hI, hB, (by rw [hX.out, List.take_length] : xs = _)⟩
end Go.Proofs.Ytmndfcjkokolbaa
