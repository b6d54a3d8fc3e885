/-
  Contract: isLayer (firnref02).
-/
import Derived.Test.YtmlkdjcjfkfdiaaIsLayer
namespace Go.Proofs.Ytmlkdjcjfkfdiaa
open Go.RowKit Go.Shelf

theorem islB_has {ms : List (Int × Int)} {l : List Int} {k : Nat} {a : Int} (h : l[k]? = some a) (hn : hasB ms a = false) : false = islB ms l := by
  rw [islB, listB, all_not h hn]; simp
theorem islB_pre {ms : List (Int × Int)} {l : List Int} {k : Nat} {a : Int} (h : l[k]? = some a) (hn : okPre ms (l.take k) a = false) : false = islB ms l := by
  have hk := (List.getElem?_eq_some_iff.1 h).1
  rw [islB, layK_no hk (by rw [getD_of h]; exact hn)]; simp
theorem islB_len {ms : List (Int × Int)} {l : List Int} (h : ¬ (1 ≤ l.length ∧ l.length ≤ 50)) : false = islB ms l := by
  rw [islB, listB, decide_eq_false h]; rfl
theorem layK_at {ms : List (Int × Int)} {l : List Int} {i k : Nat} (h : layK ms l k = true) (hi : i < k) : okPre ms (l.take i) (l.getD i 0) = true :=
  List.all_eq_true.1 h i (List.mem_range.2 hi)
/-- In a layer so far, whatever is above the last one is above all. -/
theorem lay_lt {ms : List (Int × Int)} {l : List Int} {k j : Nat} {a b y : Int} (h : layK ms l k = true) (hk : 0 < k) (hb : l[k - 1]? = some b) (hlt : b < y) (ha : l[j]? = some a) (hj : j < k) : a < y := by
  by_cases e : j = k - 1
  · subst e; rw [ha] at hb; cases hb; exact hlt
  · have h1 := layK_at h (show k - 1 < k by omega)
    rw [getD_of hb, okPre, List.all_eq_true] at h1
    have h2 := h1 a (mem_take_of ha (by omega))
    simp at h2
    omega
theorem add_zero_ (a : Addr) : a.add 0 = a := by unfold Addr.add; simp
theorem isHit_is (ms : List (Int × Int)) (A : Option Addr) (c : Nat) (a : Int) (x : Bool) (w : World) (hl : ms.length ≤ maxLen) (hx : hasB ms a = x) :
    Calls Try.prog 60 #[.slice A ms.length c, .int .i64 a] w fun e w' => e = .returned (.bool x) ∧ w' = w :=
  (isHit_any ms A c a w hl).mono fun e w' ⟨he, hw⟩ => ⟨by rw [he, hx], hw.symm⟩
theorem refBefore_is (ms : List (Int × Int)) (A : Option Addr) (c : Nat) (a b : Int) (x : Bool) (w : World) (h : Marks w A ms) (hv : vhB ms = true) (ha : hasB ms a = true) (hb : hasB ms b = true) (hx : befI ms a b = x) :
    Calls Try.prog 61 #[.slice A ms.length c, .int .i64 a, .int .i64 b] w fun e w' => e = .returned (.bool x) ∧ ∃ n, w' = w.drewN n :=
  (refBefore_any ms A c a b w h hv ha hb).mono fun e w' ⟨he, hw⟩ => ⟨by rw [he, hx], hw⟩

set_option maxRecDepth 100000 in
set_option maxHeartbeats 2000000 in
theorem refIsLayer_any (ms : List (Int × Int)) (A : Option Addr) (c : Nat) (l : List Int) (A2 : Option Addr) (c2 : Nat) (w : World) (h : Marks w A ms) (hv : vhB ms = true) (hI : Ints w A2 l) (hl : l.length ≤ maxLen) :
    Calls Try.prog 86 #[.slice A ms.length c, .slice A2 l.length c2] w fun e w' => e = .returned (.bool (islB ms l)) ∧ Below w.heap.size w w' := by
  unfold maxLen at hl
  have hml : ms.length ≤ maxLen := by have := (vh_parts hv).2; unfold maxLen; omega
  have H := Lib.hid (And.intro h (And.intro hv (And.intro hI hml)))
  clear h hv hI hml
  go_enter Try.func86, Try.ntmps86
  go_wp2
  go_loopw [5] (fun s wr => ∃ (k : Nat), k ≤ l.length ∧ k ≤ 51 ∧ s = .int .i64 k ∧ Below w.heap.size w wr ∧ Hid ((l.take k).all (hasB ms) = true ∧ layK ms l k = true)) (fun s _ => l.length - (intOf s).toNat)
  case atStart => exact ⟨0, Nat.zero_le _, by omega, rfl, Below.refl _ _, rfl, rfl⟩
  case round =>
    obtain ⟨k, hk, hk51, rfl, hB, hP⟩ := hrel
    by_cases hlt : k < l.length
    · by_cases h50 : k ≤ 50
      · obtain ⟨ad, y, rfl, hbk, hy, hcy⟩ := H.out.2.2.1.get hlt
        have hcy0 := Lib.hid hcy
        have hcy := (hB.cell (p := ad.add k) (by rw [block_of_add]; exact hbk)).trans hcy
        have k0 : (0 : Int) ≤ (k : Int) := by omega
        have k1 : (k : Int) < (l.length : Int) := by omega
        cases hh : hasB ms y with
        | false =>
          have HH := Lib.hid hh
          clear hh
          go_wp2
          go_quiet ((go_at_call 60; exact Calls.quiet_of_same (isHit_is ms A c y false _ H.out.2.2.2 HH.out)))
          go_wp2
          go_ret
          exact ⟨ret_bool (islB_has hy.out HH.out), below_drewN hB _⟩
        | true =>
          have HH := Lib.hid hh
          clear hh
          by_cases hk0 : 0 < k
          · obtain ⟨ad2, b, e2, hbk2, hb, hcb⟩ := H.out.2.2.1.get (show k - 1 < l.length by omega)
            cases e2
            have hcb := (hB.cell (p := ad.add (k - 1)) (by rw [block_of_add]; exact hbk)).trans hcb
            have s0 : IntKind.i64.wrap ((k : Int) - 1) = (k : Int) - 1 := IntWalk.i64_in _ (by omega)
            have s1 : (0 : Int) ≤ (k : Int) - 1 := by omega
            have s2 : ((k : Int) - 1).toNat = k - 1 := by omega
            have s3 : (k : Int) - 1 < (l.length : Int) := by omega
            have s4 : (0 : Int) < (k : Int) := by omega
            by_cases hby : y ≤ b
            · have t1 : decide (y ≤ b) = true := decide_eq_true hby
              have HBY := Lib.hid hby
              clear hby
              go_wp2
              go_quiet ((go_at_call 60; exact Calls.quiet_of_same (isHit_is ms A c y true _ H.out.2.2.2 HH.out)))
              go_wp2
              go_ret
              exact ⟨ret_bool (islB_pre hy.out (okPre_no hb.out (by omega) (by rw [decide_eq_false (by have := HBY.out; omega)]; rfl))), below_drewN hB _⟩
            · have t1 : decide (y ≤ b) = false := decide_eq_false hby
              have HUP : Hid (∀ j a, l[j]? = some a → j < k → a < y) := fun j a ha hj => lay_lt hP.out.2 hk0 hb.out (by omega) ha hj
              clear hby
              go_wp2
              go_quiet ((go_at_call 60; exact Calls.quiet_of_same (isHit_is ms A c y true _ H.out.2.2.2 HH.out)))
              go_wp2
              go_loopw [6] (fun s wr2 => ∃ (j : Nat), j ≤ k ∧ s = .int .i64 j ∧ Below w.heap.size w wr2 ∧ Hid (okPre ms (l.take j) y = true)) (fun s _ => k - (intOf s).toNat)
              case atStart => exact ⟨0, Nat.zero_le _, rfl, below_drewN hB _, rfl⟩
              case round =>
                clear hB
                obtain ⟨j, hj, rfl, hB, hok⟩ := hrel
                by_cases hlt2 : j < k
                · obtain ⟨ad3, a, e3, hbk3, ha, hca⟩ := H.out.2.2.1.get (show j < l.length by omega)
                  cases e3
                  have fa := (hB.cell (p := ad.add j) (by rw [block_of_add]; exact hbk)).trans hca
                  have fy := (hB.cell (p := ad.add k) (by rw [block_of_add]; exact hbk)).trans hcy0.out
                  have HMn : Hid (∀ n, Marks (World.drewN _ n) A ms) := fun n => (H.out.1.below hB).drewN n
                  clear hca
                  have HAa := Lib.hid (listB_at (ms := ms) hP.out.1 (show (l.take k)[j]? = some a by rw [List.getElem?_take_of_lt hlt2]; exact ha.out))
                  have HLT := Lib.hid (HUP.out j a ha.out hlt2)
                  have HS := Lib.hid (okPre_snoc (ms := ms) (b := y) ha.out)
                  have j0 : (0 : Int) ≤ (j : Int) := by omega
                  have j1 : (j : Int) < (l.length : Int) := by omega
                  cases hb1 : befI ms y a with
                  | true =>
                    have HB1 := Lib.hid hb1
                    clear hb1
                    go_wp2
                    go_quiet ((go_at_call 61; with_reducible exact Calls.quiet_of (v := .bool true) (refBefore_is ms A c y a true _ (HMn.out _) H.out.2.1 HH.out HAa.out HB1.out)))
                    go_wp2
                    go_ret
                    exact ⟨ret_bool (islB_pre hy.out (okPre_no ha.out hlt2 (by rw [knowI, HB1.out]; simp))), below_drewN hB _⟩
                  | false =>
                    have HB1 := Lib.hid hb1
                    clear hb1
                    cases hb2 : befI ms a y with
                    | true =>
                      have HB2 := Lib.hid hb2
                      clear hb2
                      go_wp2
                      go_quiet ((first | (go_at_call 61; with_reducible exact Calls.quiet_of (v := .bool false) (refBefore_is ms A c y a false _ (HMn.out _) H.out.2.1 HH.out HAa.out HB1.out)) | (go_at_call 61; with_reducible exact Calls.quiet_of (v := .bool true) (refBefore_is ms A c a y true _ (HMn.out _) H.out.2.1 HAa.out HH.out HB2.out))))
                      go_wp2
                      go_ret
                      exact ⟨ret_bool (islB_pre hy.out (okPre_no ha.out hlt2 (by rw [knowI, HB2.out]; simp))), below_drewN hB _⟩
                    | false =>
                      have HB2 := Lib.hid hb2
                      clear hb2
                      go_wp2
                      go_quiet ((first | (go_at_call 61; with_reducible exact Calls.quiet_of (v := .bool false) (refBefore_is ms A c y a false _ (HMn.out _) H.out.2.1 HH.out HAa.out HB1.out)) | (go_at_call 61; with_reducible exact Calls.quiet_of (v := .bool false) (refBefore_is ms A c a y false _ (HMn.out _) H.out.2.1 HAa.out HH.out HB2.out))))
                      go_wp2
                      go_roundw
                      case rel => exact ⟨j + 1, by omega, by go_num, below_drewN hB _, (by rw [HS.out, hok.out, knowI, HB1.out, HB2.out, decide_eq_true HLT.out]; rfl : okPre ms (l.take (j + 1)) y = true)⟩
                      case measure => simp [intOf]; omega
                · obtain rfl : j = k := by omega
                  go_wp2
                  go_roundw
                  case rel => exact ⟨j + 1, by omega, by omega, by go_num, hB, (⟨by rw [all_snoc hy.out, hP.out.1, HH.out]; rfl, by rw [layK_succ, hP.out.2, getD_of hy.out, hok.out]; rfl⟩ : (l.take (j + 1)).all (hasB ms) = true ∧ layK ms l (j + 1) = true)⟩
                  case measure => simp [intOf]; omega
          · obtain rfl : k = 0 := by omega
            have hcy' := hcy
            simp only [add_zero_] at hcy'
            go_wp2
            go_quiet ((go_at_call 60; exact Calls.quiet_of_same (isHit_is ms A c y true _ H.out.2.2.2 HH.out)))
            go_wp2
            go_loopw [6] (fun s wr2 => s = .int .i64 0 ∧ Below w.heap.size w wr2) (fun _ _ => 0)
            case atStart => exact ⟨rfl, below_drewN hB _⟩
            case round =>
              clear hB
              obtain ⟨rfl, hB⟩ := hrel
              go_wp2
              go_roundw
              case rel => exact ⟨1, by omega, by omega, by go_num, hB, (⟨by rw [all_snoc hy.out, hP.out.1, HH.out]; rfl, by rw [layK_succ, hP.out.2, getD_of hy.out]; rfl⟩ : (l.take 1).all (hasB ms) = true ∧ layK ms l 1 = true)⟩
              case measure => simp [intOf]; omega
      · obtain rfl : k = 51 := by omega
        have hl51 : 51 < (l.length : Int) ∨ 51 = (l.length : Int) ∨ True := .inr (.inr trivial)
        go_wp2
        go_ret
        exact ⟨ret_bool (by rw [← islB_len (ms := ms) (l := l) (by omega)]; simp; omega), hB⟩
    · obtain rfl : k = l.length := by omega
      go_wp2
      all_goals
        go_ret
        exact ⟨ret_bool (by rw [islB, listB, hP.out.2]; have := hP.out.1; rw [List.take_length] at this; rw [this, Bool.and_true, Bool.and_true, Bool.eq_iff_iff]; simp; try omega), hB⟩
end Go.Proofs.Ytmlkdjcjfkfdiaa
