/-
  Contracts: both ValidClock, Long, Equal.
-/
import Derived.Test.YtjghlfagdleglaaMarks
namespace Go.Proofs.Ytjghlfagdleglaa
open Go.RowKit

def okM (m : Int × Int) : Bool := tickB m.1 && tickB m.2
def ascFrom : Option (Int × Int) → List (Int × Int) → Bool
  | _, [] => true
  | none, m :: t => okM m && ascFrom (some m) t
  | some p, m :: t => okM m && decide (p.1 < m.1 ∧ p.2 < m.2) && ascFrom (some m) t
def vkB (ms : List (Int × Int)) : Bool := ascFrom none ms && decide (2 ≤ ms.length ∧ ms.length ≤ 30)
def prevM (ms : List (Int × Int)) : Nat → Option (Int × Int)
  | 0 => none
  | k + 1 => ms[k]?

theorem dropM {ms : List (Int × Int)} {k : Nat} {m : Int × Int} (h : ms[k]? = some m) : ms.drop k = m :: ms.drop (k + 1) := by
  obtain ⟨hk, e⟩ := List.getElem?_eq_some_iff.1 h
  rw [List.drop_eq_getElem_cons hk, e]
theorem getM_of_lt {ms : List (Int × Int)} {k : Nat} (h : k < ms.length) : ∃ a b, ms[k]? = some (a, b) := ⟨_, _, List.getElem?_eq_getElem h⟩

theorem asc_bad {ms : List (Int × Int)} {o : Option (Int × Int)} {k : Nat} {m : Int × Int} (hall : ascFrom none ms = ascFrom o (ms.drop k)) (h : ms[k]? = some m) (hm : okM m = false) : false = vkB ms := by
  rw [vkB, hall, dropM h]; cases o <;> simp [ascFrom, hm]
theorem asc_low {ms : List (Int × Int)} {p : Int × Int} {k : Nat} {m : Int × Int} (hall : ascFrom none ms = ascFrom (some p) (ms.drop k)) (h : ms[k]? = some m) (hm : m.1 ≤ p.1 ∨ m.2 ≤ p.2) : false = vkB ms := by
  rw [vkB, hall, dropM h, ascFrom, decide_eq_false (by omega)]; simp
theorem asc_next {ms : List (Int × Int)} {p : Int × Int} {k : Nat} {m : Int × Int} (hall : ascFrom none ms = ascFrom (some p) (ms.drop k)) (h : ms[k]? = some m) (hm : okM m = true) (h1 : p.1 < m.1) (h2 : p.2 < m.2) :
    ascFrom none ms = ascFrom (prevM ms (k + 1)) (ms.drop (k + 1)) := by
  rw [hall, dropM h, ascFrom, hm, decide_eq_true ⟨h1, h2⟩, prevM, h]; rfl
theorem asc_first {ms : List (Int × Int)} {m : Int × Int} (h : ms[0]? = some m) (hm : okM m = true) :
    ascFrom none ms = ascFrom (prevM ms (0 + 1)) (ms.drop (0 + 1)) := by
  have e := dropM h
  rw [List.drop_zero] at e
  rw [prevM, h]
  conv => lhs; rw [e, ascFrom, hm]
  rfl
theorem asc_first' {ms : List (Int × Int)} {k : Nat} {m : Int × Int} (hk : ¬ 0 < k) (h : ms[k]? = some m) (hm : okM m = true) :
    ascFrom none ms = ascFrom (prevM ms (k + 1)) (ms.drop (k + 1)) := by
  obtain rfl : k = 0 := by omega
  exact asc_first h hm
theorem asc_end {ms : List (Int × Int)} {o : Option (Int × Int)} {k : Nat} (hall : ascFrom none ms = ascFrom o (ms.drop k)) (hk : ms.length ≤ k) : ascFrom none ms = true := by
  rw [hall, List.drop_eq_nil_of_le hk]; cases o <;> rfl
theorem vk_len {ms : List (Int × Int)} (hn : ¬ (2 ≤ ms.length ∧ ms.length ≤ 30)) : false = vkB ms := by
  rw [vkB, decide_eq_false hn]; simp
theorem vk_all {ms : List (Int × Int)} (hn : 2 ≤ ms.length ∧ ms.length ≤ 30) (h : ascFrom none ms = true) : true = vkB ms := by
  rw [vkB, decide_eq_true hn, h]; rfl
theorem okM_bad1 {a b : Int} (h : tickB a = false) : okM (a, b) = false := by simp [okM, h]
theorem okM_bad2 {a b : Int} (h : tickB b = false) : okM (a, b) = false := by simp [okM, h]

set_option maxRecDepth 100000 in
set_option maxHeartbeats 400000 in
theorem validClock_any (ms : List (Int × Int)) (A : Option Addr) (c : Nat) (w : World) (h : Marks w A ms) (hl : ms.length ≤ maxLen) :
    Calls Try.prog 32 #[.slice A ms.length c] w fun e w' => e = .returned (.bool (vkB ms)) ∧ Below w.heap.size w w' := by
  unfold maxLen at hl
  by_cases hn : 2 ≤ ms.length ∧ ms.length ≤ 30
  · have n1 : decide ((ms.length : Int) < 2) = false := by simp; omega
    have n2 : decide (30 < (ms.length : Int)) = false := by simp; omega
    obtain ⟨bl, off, rfl, hbk, hcells⟩ := h.open_ (by omega)
    have HC := Lib.hid hcells
    clear hcells h
    go_enter Try.func32, Try.ntmps32
    go_wp2
    go_loopw [15] (fun i wr => ∃ k : Nat, k ≤ ms.length ∧ i = .int .i64 k ∧ Below w.heap.size w wr ∧ Hid (ascFrom none ms = ascFrom (prevM ms k) (ms.drop k))) (fun i _ => ms.length - (intOf i).toNat)
    case atStart => exact ⟨0, Nat.zero_le _, rfl, Below.refl _ _, rfl⟩
    case round =>
      obtain ⟨k, hk, rfl, hB, hall⟩ := hrel
      by_cases hlt : k < ms.length
      · obtain ⟨a, b, hm⟩ := getM_of_lt hlt
        have hca := (hB.cell (p := ⟨bl, off + k * 2, none⟩) hbk).trans (HC.out k _ hm).1
        have hcb := (hB.cell (p := ⟨bl, off + k * 2 + 1, none⟩) hbk).trans (HC.out k _ hm).2
        have hz := hB.size
        have hbw : bl < wr.heap.size := Nat.lt_of_lt_of_le hbk hB.size
        have HM := Lib.hid hm
        clear hm
        by_cases ha : tickB a = true
        · by_cases hb : tickB b = true
          · have HOK : Hid (okM (a, b) = true) := by show _ = _; simp [okM, ha, hb]
            by_cases hk0 : 0 < k
            · obtain ⟨pa, pb, hp⟩ := getM_of_lt (show k - 1 < ms.length by omega)
              have hpa := (hB.cell (p := ⟨bl, off + (k - 1) * 2, none⟩) hbk).trans (HC.out (k - 1) _ hp).1
              have hpb := (hB.cell (p := ⟨bl, off + (k - 1) * 2 + 1, none⟩) hbk).trans (HC.out (k - 1) _ hp).2
              have hprev : prevM ms k = some (pa, pb) := by
                obtain ⟨j, rfl⟩ : ∃ j, k = j + 1 := ⟨k - 1, by omega⟩
                exact hp
              have hall2 : Hid (ascFrom none ms = ascFrom (some (pa, pb)) (ms.drop k)) := by rw [← hprev]; exact hall
              clear hprev hall hp
              have i0 : (0 : Int) ≤ (k : Int) := by omega
              have i1 : (k : Int) < (ms.length : Int) := by omega
              have i3 : (0 : Int) ≤ (k : Int) - 1 := by omega
              have i4 : (k : Int) - 1 < (ms.length : Int) := by omega
              have i7 : (1 : Int) ≤ (k : Int) := by omega
              have i8 : (k : Int) ≤ (ms.length : Int) := by omega
              have i2 : IntKind.i64.wrap ((k : Int) - 1) = (k : Int) - 1 := IntWalk.i64_in _ (by omega)
              have i5 : ((k : Int) - 1).toNat = k - 1 := by omega
              have t0 : decide ((0 : Int) < (k : Int)) = true := by simp; omega
              by_cases h1 : a ≤ pa
              · have t1 : decide (a ≤ pa) = true := decide_eq_true h1
                go_wp2_with (go_at_call 63; refine (validTick_any _ _).mono ?_; rintro e w' ⟨rfl, rfl⟩)
                go_quiet (fail)
                go_wp2
                go_ret
                exact ⟨ret_bool (asc_low hall2.out HM.out (.inl h1)), (by repeat (first | with_reducible exact Below.refl _ _ | with_reducible assumption | refine below_drewN ?_ _ | with_reducible refine Below.drew ?_ | (refine Below.setCell ?_ (by first | (simp; done) | (simp; omega) | omega) _) | (refine Below.alloc ?_ (by first | (simp; done) | (simp; omega) | omega) _)))⟩
              · have t1 : decide (a ≤ pa) = false := decide_eq_false h1
                by_cases h2 : b ≤ pb
                · have t2 : decide (b ≤ pb) = true := decide_eq_true h2
                  go_wp2_with (go_at_call 63; refine (validTick_any _ _).mono ?_; rintro e w' ⟨rfl, rfl⟩)
                  go_quiet (fail)
                  go_wp2
                  go_ret
                  exact ⟨ret_bool (asc_low hall2.out HM.out (.inr h2)), (by repeat (first | with_reducible exact Below.refl _ _ | with_reducible assumption | refine below_drewN ?_ _ | with_reducible refine Below.drew ?_ | (refine Below.setCell ?_ (by first | (simp; done) | (simp; omega) | omega) _) | (refine Below.alloc ?_ (by first | (simp; done) | (simp; omega) | omega) _)))⟩
                · have t2 : decide (b ≤ pb) = false := decide_eq_false h2
                  go_wp2_with (go_at_call 63; refine (validTick_any _ _).mono ?_; rintro e w' ⟨rfl, rfl⟩)
                  go_quiet (fail)
                  clear i2 i5
                  go_wp2
                  go_roundw
                  case rel => exact ⟨k + 1, by omega, by go_num, (by repeat (first | with_reducible exact Below.refl _ _ | with_reducible assumption | refine below_drewN ?_ _ | with_reducible refine Below.drew ?_ | (refine Below.setCell ?_ (by first | (simp; done) | (simp; omega) | omega) _) | (refine Below.alloc ?_ (by first | (simp; done) | (simp; omega) | omega) _))), asc_next hall2.out HM.out HOK.out (by omega) (by omega)⟩
                  case measure => simp [intOf]; omega
            · have t0 : decide ((0 : Int) < (k : Int)) = false := by simp; omega
              have hnx := Lib.hid (asc_first' hk0 HM.out HOK.out)
              go_wp2_with (go_at_call 63; refine (validTick_any _ _).mono ?_; rintro e w' ⟨rfl, rfl⟩)
              go_quiet (fail)
              go_wp2
              go_roundw
              case rel => exact ⟨k + 1, by omega, by go_num, (by repeat (first | with_reducible exact Below.refl _ _ | with_reducible assumption | refine below_drewN ?_ _ | with_reducible refine Below.drew ?_ | (refine Below.setCell ?_ (by first | (simp; done) | (simp; omega) | omega) _) | (refine Below.alloc ?_ (by first | (simp; done) | (simp; omega) | omega) _))), hnx.out⟩
              case measure => simp [intOf]; omega
          · have hb2 : tickB b = false := by simpa using hb
            go_wp2_with (go_at_call 63; refine (validTick_any _ _).mono ?_; rintro e w' ⟨rfl, rfl⟩)
            go_ret
            exact ⟨ret_bool (asc_bad hall.out HM.out (okM_bad2 hb2)), (by repeat (first | with_reducible exact Below.refl _ _ | with_reducible assumption | refine below_drewN ?_ _ | with_reducible refine Below.drew ?_ | (refine Below.setCell ?_ (by first | (simp; done) | (simp; omega) | omega) _) | (refine Below.alloc ?_ (by first | (simp; done) | (simp; omega) | omega) _)))⟩
        · have ha2 : tickB a = false := by simpa using ha
          go_wp2_with (go_at_call 63; refine (validTick_any _ _).mono ?_; rintro e w' ⟨rfl, rfl⟩)
          go_ret
          exact ⟨ret_bool (asc_bad hall.out HM.out (okM_bad1 ha2)), (by repeat (first | with_reducible exact Below.refl _ _ | with_reducible assumption | refine below_drewN ?_ _ | with_reducible refine Below.drew ?_ | (refine Below.setCell ?_ (by first | (simp; done) | (simp; omega) | omega) _) | (refine Below.alloc ?_ (by first | (simp; done) | (simp; omega) | omega) _)))⟩
      · go_wp2
        go_ret
        exact ⟨ret_bool (vk_all hn (asc_end hall.out (by omega))), hB⟩
  · by_cases n1 : (ms.length : Int) < 2
    · go_enter Try.func32, Try.ntmps32
      go_wp2
      go_ret
      exact ⟨ret_bool (vk_len hn), Below.refl _ _⟩
    · have n2 : 30 < (ms.length : Int) := by omega
      have n3 : decide ((ms.length : Int) < 2) = false := by simp; omega
      go_enter Try.func32, Try.ntmps32
      go_wp2
      go_ret
      exact ⟨ret_bool (vk_len hn), Below.refl _ _⟩
end Go.Proofs.Ytjghlfagdleglaa
