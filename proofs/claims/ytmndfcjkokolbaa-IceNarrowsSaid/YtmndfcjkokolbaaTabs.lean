/-
  A slice of slices of ints that reads as a list of lists; Wide (firnlaw04).
-/
import Derived.Test.YtmndfcjkokolbaaSane
namespace Go.Proofs.Ytmndfcjkokolbaa
open Go.RowKit Go.Shelf

def Tabs (w : World) (A : Option Addr) (T : List (List Int)) : Prop :=
  0 < T.length → ∃ b o, A = some ⟨b, o, none⟩ ∧ b < w.heap.size ∧ ∀ (k : Nat) (zs : List Int), T[k]? = some zs → ∃ (B : Option Addr) (c : Nat), w.cell? ⟨b, o + k, none⟩ = some (.slice B zs.length c) ∧ Ints w B zs ∧ zs.length ≤ c ∧ c ≤ maxLen
theorem Tabs.below {w w' : World} {A : Option Addr} {T : List (List Int)} (h : Tabs w A T) (hb : Below w.heap.size w w') : Tabs w' A T := by
  intro hn
  obtain ⟨b, o, e, hbk, hc⟩ := h hn
  refine ⟨b, o, e, Nat.lt_of_lt_of_le hbk hb.size, fun k zs hz => ?_⟩
  obtain ⟨B, c, h1, h2, h3, h4⟩ := hc k zs hz
  exact ⟨B, c, (hb.cell (p := ⟨b, o + k, none⟩) hbk).trans h1, h2.below hb, h3, h4⟩
theorem Tabs.nil_ {w : World} {A : Option Addr} : Tabs w A [] := fun h => absurd h (by simp)
theorem Tabs.part {w : World} {b o m : Nat} {T : List (List Int)} {zs : List Int} (h : Tabs w (some ⟨b, o, none⟩) T) (hz : T[m]? = some zs) : Tabs w (some ⟨b, o + m, none⟩) [zs] := by
  intro _
  obtain ⟨b', o', e, hbk, hc⟩ := h (by have := (List.getElem?_eq_some_iff.1 hz).1; omega)
  cases e
  refine ⟨b, o + m, rfl, hbk, fun k ys hy => ?_⟩
  have hk := (List.getElem?_eq_some_iff.1 hy).1
  simp at hk
  subst hk
  simp at hy
  subst hy
  exact hc m _ hz
theorem getT_of_lt {T : List (List Int)} {k : Nat} (h : k < T.length) : ∃ zs, T[k]? = some zs := ⟨_, List.getElem?_eq_getElem h⟩

def wideB (T : List (List Int)) : Bool := T.any (fun zs => decide (60 < zs.length)) || decide (40 < T.length)
set_option maxRecDepth 100000 in
theorem wide_any (T : List (List Int)) (A : Option Addr) (c : Nat) (w : World) (h : Tabs w A T) (hl : T.length ≤ maxLen) :
    Calls Try.prog 53 #[.slice A T.length c] w fun e w' => e = .returned (.bool (wideB T)) ∧ w = w' := by
  unfold maxLen at hl
  have H := Lib.hid h
  clear h
  go_enter Try.func53, Try.ntmps53
  go_wp2
  go_loop [3] (fun i => ∃ k : Nat, k ≤ T.length ∧ i = .int .i64 k ∧ Hid ((T.take k).any (fun zs => decide (60 < zs.length)) = false)) (fun i => T.length - (intOf i).toNat)
  case atStart => exact ⟨0, Nat.zero_le _, rfl, rfl⟩
  case round =>
    obtain ⟨k, hk, rfl, hA⟩ := hrel
    by_cases hlt : k < T.length
    · obtain ⟨b, o, e, hbk, hc⟩ := H.out (by omega)
      subst e
      obtain ⟨zs, hz⟩ := getT_of_lt hlt
      obtain ⟨B, cc, f0, _, hzc, hcm⟩ := hc k zs hz
      unfold maxLen at hcm
      have HZ := Lib.hid hz
      clear hc hz
      by_cases h6 : 60 < (zs.length : Int)
      · have t1 : decide (60 < (zs.length : Int)) = true := decide_eq_true h6
        go_wp2
        go_ret
        refine ⟨ret_bool ?_, rfl⟩
        rw [wideB, List.any_eq_true.2 ⟨zs, List.mem_of_getElem? HZ.out, decide_eq_true (by omega)⟩]; rfl
      · have t1 : decide (60 < (zs.length : Int)) = false := decide_eq_false h6
        go_wp2
        go_round
        case rel => exact ⟨k + 1, by omega, by go_num, by rw [any_snoc HZ.out, hA.out, decide_eq_false (by omega)]; rfl⟩
        case measure => simp [intOf]; omega
    · obtain rfl : k = T.length := by omega
      go_wp2
      go_ret
      refine ⟨ret_bool ?_, rfl⟩
      have := hA.out
      rw [List.take_length] at this
      rw [wideB, this, Bool.false_or]
      first | rfl | (exact decide_eq_decide.2 (by omega)) | simp
end Go.Proofs.Ytmndfcjkokolbaa
