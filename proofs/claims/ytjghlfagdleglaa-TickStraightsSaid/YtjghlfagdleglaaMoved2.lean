/-
  Plain arithmetic of a moved clock (for TickMoves).
-/
import Derived.Test.YtjghlfagdleglaaMoved
import Derived.Test.YtjghlfagdleglaaAt2
namespace Go.Proofs.Ytjghlfagdleglaa
open Go.RowKit

theorem asc_moved (by_ : Int) : ∀ (ms : List (Int × Int)) (o : Option (Int × Int)), ascFrom o ms = true → (∀ m ∈ ms, 0 ≤ m.2 + by_ ∧ m.2 + by_ ≤ 100000) → ascFrom (o.map (moveM by_)) (ms.map (moveM by_)) = true
  | [], o, _, _ => by cases o <;> rfl
  | m :: t, o, h, hb => by
    have hm := hb m (by simp)
    have ht := asc_moved by_ t (some m)
    have hok : okM m = true ∧ ascFrom (some m) t = true := by
      cases o <;> simp [ascFrom] at h
      · exact h
      · exact ⟨h.1.1, h.2⟩
    have htl := ht hok.2 (fun x hx => hb x (List.mem_cons_of_mem _ hx))
    have hk : okM (moveM by_ m) = true := by
      have h1 : tickB m.1 = true ∧ tickB m.2 = true := by simpa [okM] using hok.1
      rw [okM, Bool.and_eq_true]
      exact ⟨h1.1, decide_eq_true hm⟩
    cases o with
    | none => show (okM (moveM by_ m) && ascFrom (some (moveM by_ m)) (t.map (moveM by_))) = true; rw [hk]; exact htl
    | some p =>
      have hl : p.1 < m.1 ∧ p.2 < m.2 := by simp [ascFrom] at h; exact h.1.2
      show (okM (moveM by_ m) && decide ((moveM by_ p).1 < (moveM by_ m).1 ∧ (moveM by_ p).2 < (moveM by_ m).2) && ascFrom (some (moveM by_ m)) (t.map (moveM by_))) = true
      rw [hk, decide_eq_true (show (moveM by_ p).1 < (moveM by_ m).1 ∧ (moveM by_ p).2 < (moveM by_ m).2 by simp only [moveM]; omega)]
      exact htl
theorem okMv_iff {ms : List (Int × Int)} {by_ : Int} (h : okMv ms by_ = true) : -(mA ms 0).2 ≤ by_ ∧ by_ ≤ 100000 - (mA ms (ms.length - 1)).2 := of_decide_eq_true h
theorem vk_moved {ms : List (Int × Int)} {by_ : Int} (hv : vkB ms = true) (ho : okMv ms by_ = true) : vkB (ms.map (moveM by_)) = true := by
  obtain ⟨h2, h30⟩ := vk_parts hv
  have ha : ascFrom none ms = true := by simp [vkB] at hv; exact hv.1
  have hb := okMv_iff ho
  have := asc_moved by_ ms none ha (fun m hm => by
    obtain ⟨k, hk, rfl⟩ := List.getElem_of_mem hm
    have e : mA ms k = ms[k] := mA_of (List.getElem?_eq_getElem hk)
    have := last_ge hv hk
    rw [e] at this
    omega)
  rw [vkB, decide_eq_true (by simpa using ⟨h2, h30⟩)]
  rw [show ascFrom none (ms.map (moveM by_)) = true from this]; rfl
theorem mA_moved {ms : List (Int × Int)} {by_ : Int} {k : Nat} (hk : k < ms.length) : mA (ms.map (moveM by_)) k = moveM by_ (mA ms k) := by
  obtain ⟨a, b, h⟩ := getM_of_lt hk
  rw [mA_of h, mA_of (m := moveM by_ (a, b)) (by rw [List.getElem?_map, h]; rfl)]
theorem mA_moved1 {ms : List (Int × Int)} {by_ : Int} (k : Nat) : (mA (ms.map (moveM by_)) k).1 = (mA ms k).1 := by
  rcases Nat.lt_or_ge k ms.length with h | h
  · rw [mA_moved h]; rfl
  · rw [mA, mA, List.getD_eq_getElem?_getD, List.getD_eq_getElem?_getD, List.getElem?_eq_none (by simpa using h), List.getElem?_eq_none h]
theorem segL_moved (ms : List (Int × Int)) (by_ N D : Int) : segL (ms.map (moveM by_)) N D = segL ms N D := by
  rw [segL, segL, List.length_map]
  congr 1
  funext i
  have := mA_moved1 (ms := ms) (by_ := by_) i
  rw [mA, mA] at this
  rw [this]
theorem seg_lt {ms : List (Int × Int)} (h : 2 ≤ ms.length) (N D : Int) : segL ms N D + 1 < ms.length := by
  have := segI_le (fun i => decide ((ms.getD i (0, 0)).1 * D ≤ N)) (ms.length - 2)
  rw [segL]; omega
theorem atD_moved (ms : List (Int × Int)) (by_ x : Int) : atD (ms.map (moveM by_)) x = atD ms x := by
  rw [atD, atD, segL_moved, mA_moved1, mA_moved1]
theorem atN_moved {ms : List (Int × Int)} (h : 2 ≤ ms.length) (by_ x : Int) : atN (ms.map (moveM by_)) x = atN ms x + by_ * atD ms x := by
  have hs := seg_lt h x 1
  rw [atN, atN, atD, segL_moved, mA_moved (show segL ms x 1 < ms.length by omega), mA_moved hs]
  simp only [moveM, lineN, lineD]
  generalize (mA ms (segL ms x 1)).1 = a
  generalize (mA ms (segL ms x 1)).2 = b
  generalize (mA ms (segL ms x 1 + 1)).1 = p
  generalize (mA ms (segL ms x 1 + 1)).2 = q
  have e : q + by_ - (b + by_) = q - b := by omega
  rw [e]
  simp only [Int.mul_one, Int.one_mul, Int.add_mul]
  rw [Int.add_right_comm]
theorem gcd_shift (n d k : Int) : Int.gcd (n + k * d) d = Int.gcd n d := by
  rw [← gcd_emod (n + k * d) d, Int.add_mul_emod_self_right, gcd_emod]
theorem lowD_shift (n d k : Int) : lowD (n + k * d) d = lowD n d := by rw [lowD, lowD, gcd_shift]
theorem lowN_shift {n d : Int} (k : Int) (hd : 0 < d) : lowN (n + k * d) d = lowN n d + k * lowD n d := by
  rw [lowN, lowN, lowD, gcd_shift]
  have hg := gcd_pos (n := n) hd
  have h1 : (Int.gcd n d : Int) ∣ d := Int.gcd_dvd_right n d
  have h2 : (Int.gcd n d : Int) ∣ k * d := Int.dvd_trans h1 (Int.dvd_mul_left _ _)
  rw [Int.add_ediv_of_dvd_right h2, Int.mul_ediv_assoc _ h1]
theorem atD_pos {ms : List (Int × Int)} (hv : vkB ms = true) (x : Int) : 0 < atD ms x := by
  have hs := seg_lt (vk_parts hv).1 x 1
  have := asc_mono hv (show segL ms x 1 < segL ms x 1 + 1 by omega) hs
  rw [atD, lineD]; omega
theorem spN_moved {ms : List (Int × Int)} {j : Nat} (h : j + 1 < ms.length) (by_ : Int) : spN (ms.map (moveM by_)) j = spN ms j := by
  rw [spN, spN, mA_moved h, mA_moved (by omega)]; simp only [moveM]; omega
theorem spD_moved (ms : List (Int × Int)) (by_ : Int) (j : Nat) : spD (ms.map (moveM by_)) j = spD ms j := by
  rw [spD, spD, mA_moved1, mA_moved1]
theorem okMv_back {ms : List (Int × Int)} {by_ : Int} (hv : vkB ms = true) : okMv (ms.map (moveM by_)) (-by_) = true := by
  obtain ⟨h2, h30⟩ := vk_parts hv
  obtain ⟨a0, b0, h0⟩ := getM_of_lt (show 0 < ms.length by omega)
  obtain ⟨a1, b1, h1⟩ := getM_of_lt (show ms.length - 1 < ms.length by omega)
  have k0 := vk_at hv h0
  have k1 := vk_at hv h1
  rw [okMv, List.length_map, mA_moved (by omega), mA_moved (by omega), mA_of h0, mA_of h1]
  exact decide_eq_true (by simp only [moveM]; omega)
theorem moved_twice {ms : List (Int × Int)} {by_ : Int} (hv : vkB ms = true) (ho : okMv ms by_ = true) : movedF (movedF ms by_) (-by_) = ms ∧ movedE (movedF ms by_) (-by_) = 0 := by
  have e : movedF ms by_ = ms.map (moveM by_) := by simp [movedF, hv, ho]
  have hv' := vk_moved hv ho
  have ho' := okMv_back (by_ := by_) hv
  rw [e]
  refine ⟨?_, by simp [movedE, hv', ho']⟩
  simp only [movedF, hv', ho', Bool.and_self, if_true, List.map_map]
  conv => rhs; rw [← List.map_id ms]
  congr 1
  funext m
  obtain ⟨a, b⟩ := m
  show (a, b + by_ + -by_) = (a, b)
  rw [show b + by_ + -by_ = b by omega]
/-- What TickMoves asks of At and Speed of a moved clock. -/
theorem moved_at {ms : List (Int × Int)} {by_ x : Int} (hv : vkB ms = true) (ho : okMv ms by_ = true) (hx : tickB x = true) :
    atRD (movedF ms by_) x = atRD ms x ∧ atRN (movedF ms by_) x = atRN ms x + by_ * atRD ms x ∧ atE (movedF ms by_) x = 0 ∧ atE ms x = 0
    ∧ spRN (movedF ms by_) x = spRN ms x ∧ spRD (movedF ms by_) x = spRD ms x := by
  have e : movedF ms by_ = ms.map (moveM by_) := by simp [movedF, hv, ho]
  have hv' := vk_moved hv ho
  have h2 := (vk_parts hv).1
  have hs := seg_lt h2 x 1
  have k1 : okAt ms x = true := by simp [okAt, hv, hx]
  have k2 : okAt (ms.map (moveM by_)) x = true := by simp [okAt, hv', hx]
  rw [e]
  refine ⟨?_, ?_, atE_ok k2, atE_ok k1, ?_, ?_⟩
  · rw [atRD, atRD, if_pos k1, if_pos k2, atN_moved h2, atD_moved, lowD_shift]
  · rw [atRN, atRN, atRD, if_pos k1, if_pos k2, if_pos k1, atN_moved h2, atD_moved, lowN_shift _ (atD_pos hv x)]
  · rw [spRN, spRN, if_pos k1, if_pos k2, segL_moved, spN_moved hs, spD_moved]
  · rw [spRD, spRD, if_pos k1, if_pos k2, segL_moved, spN_moved hs, spD_moved]
end Go.Proofs.Ytjghlfagdleglaa
