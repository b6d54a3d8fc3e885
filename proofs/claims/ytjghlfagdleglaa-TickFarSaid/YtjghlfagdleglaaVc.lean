/-
  Contracts: both ValidCounts, SameInts, many.
-/
import Derived.Test.YtjghlfagdleglaaVr
namespace Go.Proofs.Ytjghlfagdleglaa
open Go.RowKit

/-- From the number l on the list never falls, and stays within the greatest count. -/
def upFrom : Int → List Int → Bool
  | _, [] => true
  | l, z :: t => decide (l ≤ z ∧ z ≤ 1099511627776) && upFrom z t
def vcB (zs : List Int) : Bool := upFrom 0 zs && decide (1 ≤ zs.length ∧ zs.length ≤ 60)

/-- What is left at k, after the element l. -/
theorem drop_cons {zs : List Int} {k : Nat} {z : Int} (h : zs[k]? = some z) : zs.drop k = z :: zs.drop (k + 1) := by
  obtain ⟨hk, e⟩ := List.getElem?_eq_some_iff.1 h
  rw [List.drop_eq_getElem_cons hk, e]
theorem vc_len {zs : List Int} (hn : ¬ (1 ≤ zs.length ∧ zs.length ≤ 60)) : false = vcB zs := by
  unfold vcB; rw [decide_eq_false hn]; simp
theorem vc_bad {zs : List Int} {k : Nat} {l z : Int} (hall : upFrom 0 zs = upFrom l (zs.drop k)) (h : zs[k]? = some z) (hz : z < l ∨ 1099511627776 < z) : upFrom 0 zs = false := by
  rw [hall, drop_cons h]; simp [upFrom]; omega
theorem vc_false {zs : List Int} (h : upFrom 0 zs = false) : false = vcB zs := by simp [vcB, h]
theorem vc_next {zs : List Int} {k : Nat} {l z : Int} (hall : upFrom 0 zs = upFrom l (zs.drop k)) (h : zs[k]? = some z) (h0 : l ≤ z) (h1 : z ≤ 1099511627776) : upFrom 0 zs = upFrom z (zs.drop (k + 1)) := by
  rw [hall, drop_cons h]; simp [upFrom, h0, h1]
theorem vc_end {zs : List Int} {k : Nat} {l : Int} (hall : upFrom 0 zs = upFrom l (zs.drop k)) (h : zs.length ≤ k) : upFrom 0 zs = true := by
  rw [hall, List.drop_eq_nil_of_le h]; rfl

theorem validCounts_any (zs : List Int) (A : Option Addr) (c : Nat) (w : World) (h : Ints w A zs) (hl : zs.length ≤ maxLen) :
    Calls Try.prog 20 #[.slice A zs.length c] w fun e w' => e = .returned (.bool (vcB zs)) ∧ w = w' := by
  unfold maxLen at hl
  have H := Lib.hid h
  clear h
  by_cases hn : 1 ≤ zs.length ∧ zs.length ≤ 60
  · have n1 : decide ((zs.length : Int) < 1) = false := by simp; omega
    have n2 : decide (60 < (zs.length : Int)) = false := by simp; omega
    go_enter Try.func20, Try.ntmps20
    go_wp2
    go_loop [3, 16] (fun p i => ∃ (k : Nat) (l : Int), k ≤ zs.length ∧ i = .int .i64 k ∧ p = .int .i64 l ∧ Hid (upFrom 0 zs = upFrom l (zs.drop k))) (fun _ i => zs.length - (intOf i).toNat)
    case atStart => exact ⟨0, 0, Nat.zero_le _, rfl, rfl, rfl⟩
    case round =>
      obtain ⟨k, l, hk, rfl, rfl, hall⟩ := hrel
      by_cases hlt : k < zs.length
      · obtain ⟨ad, z, rfl, hbk, hz, hc⟩ := H.out.get hlt
        go_wp2
        · go_ret
          exact ⟨ret_bool (vc_false (vc_bad hall.out hz.out (by omega))), rfl⟩
        · go_round
          case rel => exact ⟨k + 1, z, by omega, by go_num, rfl, vc_next hall.out hz.out (by omega) (by omega)⟩
          case measure => simp [intOf]; omega
        · go_ret
          exact ⟨ret_bool (vc_false (vc_bad hall.out hz.out (by omega))), rfl⟩
      · go_wp2
        go_ret
        exact ⟨ret_bool (by simp [vcB, vc_end hall.out (show zs.length ≤ k by omega), hn]), rfl⟩
  · by_cases n1 : (zs.length : Int) < 1
    · go_enter Try.func20, Try.ntmps20
      go_wp2
      go_ret
      exact ⟨ret_bool (vc_len hn), rfl⟩
    · have n2 : 60 < (zs.length : Int) := by omega
      have n3 : decide ((zs.length : Int) < 1) = false := by simp; omega
      go_enter Try.func20, Try.ntmps20
      go_wp2
      go_ret
      exact ⟨ret_bool (vc_len hn), rfl⟩

theorem refValidCounts_any (zs : List Int) (A : Option Addr) (c : Nat) (w : World) (h : Ints w A zs) (hl : zs.length ≤ maxLen) :
    Calls Try.prog 21 #[.slice A zs.length c] w fun e w' => e = .returned (.bool (vcB zs)) ∧ w = w' := by
  unfold maxLen at hl
  have H := Lib.hid h
  clear h
  go_enter Try.func21, Try.ntmps21
  go_wp2
  go_loop [3, 8] (fun p i => ∃ (k : Nat) (l : Int), k ≤ zs.length ∧ i = .int .i64 k ∧ p = .int .i64 l ∧ Hid (upFrom 0 zs = upFrom l (zs.drop k))) (fun _ i => zs.length - (intOf i).toNat)
  case atStart => exact ⟨0, 0, Nat.zero_le _, rfl, rfl, rfl⟩
  case round =>
    obtain ⟨k, l, hk, rfl, rfl, hall⟩ := hrel
    by_cases hlt : k < zs.length
    · obtain ⟨ad, z, rfl, hbk, hz, hc⟩ := H.out.get hlt
      go_wp2
      · go_ret
        exact ⟨ret_bool (vc_false (vc_bad hall.out hz.out (by omega))), rfl⟩
      · go_round
        case rel => exact ⟨k + 1, z, by omega, by go_num, rfl, vc_next hall.out hz.out (by omega) (by omega)⟩
        case measure => simp [intOf]; omega
      · go_ret
        exact ⟨ret_bool (vc_false (vc_bad hall.out hz.out (by omega))), rfl⟩
    · have hf := vc_end hall.out (show zs.length ≤ k by omega)
      have HF := Lib.hid hf
      clear hf
      go_wp2
      all_goals
        go_ret
        exact ⟨ret_bool (by rw [vcB, HF.out, Bool.true_and, Bool.eq_iff_iff]; simp; try omega), rfl⟩

theorem ne_len {xs ys : List Int} (h : xs.length ≠ ys.length) : false = decide (xs = ys) := by
  rw [eq_comm, decide_eq_false_iff_not]; rintro rfl; exact h rfl
theorem ne_at {xs ys : List Int} {k : Nat} {x y : Int} (hx : xs[k]? = some x) (hy : ys[k]? = some y) (h : x ≠ y) : false = decide (xs = ys) := by
  rw [eq_comm, decide_eq_false_iff_not]; rintro rfl; rw [hx] at hy; exact h (Option.some.inj hy)
theorem eq_next {xs ys : List Int} {k : Nat} {x y : Int} (hx : xs[k]? = some x) (hy : ys[k]? = some y) (h : x = y) (ht : xs.take k = ys.take k) : xs.take (k + 1) = ys.take (k + 1) := by
  rw [take_snoc hx, take_snoc hy, ht, h]
theorem eq_end {xs ys : List Int} {k : Nat} (hl : xs.length = ys.length) (hk : xs.length ≤ k) (ht : xs.take k = ys.take k) : true = decide (xs = ys) := by
  rw [List.take_of_length_le hk, List.take_of_length_le (by omega)] at ht; simp [ht]

/-- Whether two lists of ints are one list. -/
theorem sameInts_any (xs ys : List Int) (A B : Option Addr) (c d : Nat) (w : World) (hA : Ints w A xs) (hB : Ints w B ys) (hl : xs.length ≤ maxLen) :
    Calls Try.prog 22 #[.slice A xs.length c, .slice B ys.length d] w fun e w' => e = .returned (.bool (decide (xs = ys))) ∧ ∃ n, w' = w.drewN n := by
  unfold maxLen at hl
  have HA := Lib.hid hA
  have HB := Lib.hid hB
  clear hA hB
  by_cases hlen : xs.length = ys.length
  · have HL := Lib.hid hlen
    have hn : (((xs.length : Int) != (ys.length : Int)) = false) := by rw [hlen]; simp
    have hle : xs.length ≤ ys.length := by omega
    clear hlen
    go_enter Try.func22, Try.ntmps22
    go_wp2
    go_loopw [5, 13] (fun _ i wr => ∃ k m : Nat, k ≤ xs.length ∧ i = .int .i64 k ∧ wr = w.drewN m ∧ Hid (xs.take k = ys.take k)) (fun _ i _ => xs.length - (intOf i).toNat)
    case atStart => exact ⟨0, 0, Nat.zero_le _, rfl, rfl, rfl⟩
    case round =>
      obtain ⟨k, m, hk, rfl, rfl, ht⟩ := hrel
      by_cases hlt : k < xs.length
      · obtain ⟨ad, x, rfl, _, hx, hc⟩ := HA.out.get hlt
        obtain ⟨bd, y, rfl, _, hy, hd⟩ := HB.out.get (show k < ys.length by omega)
        have hlt2 : k < ys.length := by omega
        by_cases hxy : x = y
        · have hb : (x != y) = false := by simp [hxy]
          have HX := Lib.hid hxy
          clear hxy
          go_wp2
          go_quiet (fail)
          go_wp2
          go_roundw
          case rel => exact ⟨k + 1, _, by omega, by go_num, rfl, eq_next hx.out hy.out HX.out ht.out⟩
          case measure => simp [intOf]; omega
        · have hb : (x != y) = true := by simp [hxy]
          have HX := Lib.hid hxy
          clear hxy
          go_wp2
          go_quiet (fail)
          go_wp2
          go_ret
          exact ⟨ret_bool (ne_at hx.out hy.out HX.out), _, World.drewN_drewN _ _ _⟩
      · go_wp2
        go_ret
        exact ⟨ret_bool (eq_end HL.out (by omega) ht.out), m, rfl⟩
  · have hn : (((xs.length : Int) != (ys.length : Int)) = true) := by simp; omega
    have HL := Lib.hid hlen
    clear hlen
    go_enter Try.func22, Try.ntmps22
    go_wp2
    go_ret
    exact ⟨ret_bool (ne_len HL.out), 0, rfl⟩
end Go.Proofs.Ytjghlfagdleglaa
