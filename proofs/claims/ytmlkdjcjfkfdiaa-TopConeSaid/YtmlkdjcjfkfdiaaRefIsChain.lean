/-
  Contract: isChain (firnref02).
-/
import Derived.Test.YtmlkdjcjfkfdiaaIsChain
namespace Go.Proofs.Ytmlkdjcjfkfdiaa
open Go.RowKit Go.Shelf

theorem ischB_has {ms : List (Int × Int)} {l : List Int} {k : Nat} {a : Int} (h : l[k]? = some a) (hn : hasB ms a = false) : false = ischB ms l := by
  have : listB ms l = false := by
    cases e : listB ms l with
    | false => rfl
    | true => have := listB_at (listB_parts e).2 h; rw [hn] at this; cases this
  rw [ischB, this]; rfl
theorem ischB_len {ms : List (Int × Int)} {l : List Int} (h : ¬ (1 ≤ l.length ∧ l.length ≤ 50)) : false = ischB ms l := by
  rw [ischB, listB, decide_eq_false h]; rfl
set_option maxRecDepth 100000 in
set_option maxHeartbeats 2000000 in
theorem refIsChain_any (ms : List (Int × Int)) (A : Option Addr) (c : Nat) (l : List Int) (A2 : Option Addr) (c2 : Nat) (w : World) (h : Marks w A ms) (hv : vhB ms = true) (hI : Ints w A2 l) (hl : l.length ≤ maxLen) :
    Calls Try.prog 74 #[.slice A ms.length c, .slice A2 l.length c2] w fun e w' => e = .returned (.bool (ischB ms l)) ∧ Below w.heap.size w w' := by
  unfold maxLen at hl
  have hml : ms.length ≤ maxLen := by have := (vh_parts hv).2; unfold maxLen; omega
  have H := Lib.hid (And.intro h (And.intro hv (And.intro hI hml)))
  clear h hv hI hml
  go_enter Try.func74, Try.ntmps74
  go_wp2
  go_loopw [5] (fun s wr => ∃ (k : Nat), k ≤ l.length ∧ k ≤ 51 ∧ s = .int .i64 k ∧ Below w.heap.size w wr ∧ Hid ((l.take k).all (hasB ms) = true ∧ chK ms l (k - 1) = true)) (fun s _ => l.length - (intOf s).toNat)
  case atStart => exact ⟨0, Nat.zero_le _, by omega, rfl, Below.refl _ _, rfl, rfl⟩
  case round =>
    obtain ⟨k, hk, hk51, rfl, hB, hP⟩ := hrel
    by_cases hlt : k < l.length
    · by_cases h50 : k ≤ 50
      · obtain ⟨ad, y, rfl, hbk, hy, hcy⟩ := H.out.2.2.1.get hlt
        have hcy := (hB.cell (p := ad.add k) (by rw [block_of_add]; exact hbk)).trans hcy
        have k0 : (0 : Int) ≤ (k : Int) := by omega
        have k1 : (k : Int) < (l.length : Int) := by omega
        cases hh : hasB ms y with
        | false =>
          have HH := Lib.hid hh
          clear hh
          go_wp2
          go_quiet ((go_at_call 60; exact Calls.quiet_of_same (isHit_is ms A c y false _ H.out.2.2.2 HH.out)))
          go_wp2
          go_ret
          exact ⟨ret_bool (ischB_has hy.out HH.out), below_drewN hB _⟩
        | true =>
          have HH := Lib.hid hh
          clear hh
          by_cases hk0 : 0 < k
          · obtain ⟨ad2, b, e2, hbk2, hb, hcb⟩ := H.out.2.2.1.get (show k - 1 < l.length by omega)
            cases e2
            have hcb := (hB.cell (p := ad.add (k - 1)) (by rw [block_of_add]; exact hbk2)).trans hcb
            have s0 : IntKind.i64.wrap ((k : Int) - 1) = (k : Int) - 1 := IntWalk.i64_in _ (by omega)
            have s1 : (0 : Int) ≤ (k : Int) - 1 := by omega
            have s2 : ((k : Int) - 1).toNat = k - 1 := by omega
            have s3 : (k : Int) - 1 < (l.length : Int) := by omega
            have s4 : (0 : Int) < (k : Int) := by omega
            have HBb := Lib.hid (listB_at (ms := ms) hP.out.1 (show (l.take k)[k - 1]? = some b by rw [List.getElem?_take_of_lt (by omega)]; exact hb.out))
            have HMn : Hid (∀ n, Marks (World.drewN _ n) A ms) := fun n => (H.out.1.below hB).drewN n
            have HS : Hid (chK ms l k = (chK ms l (k - 1) && befI ms b y)) := by
              have := chK_succ ms l (k - 1)
              rw [show k - 1 + 1 = k by omega, getD_of hb.out, getD_of hy.out] at this
              exact this
            cases hbf : befI ms b y with
            | true =>
              have HF := Lib.hid hbf
              clear hbf
              go_wp2
              go_quiet ((first | (go_at_call 60; exact Calls.quiet_of_same (isHit_is ms A c y true _ H.out.2.2.2 HH.out)) | (go_at_call 61; with_reducible exact Calls.quiet_of (v := .bool true) (refBefore_is ms A c b y true _ (HMn.out _) H.out.2.1 HBb.out HH.out HF.out))))
              go_wp2
              go_roundw
              case rel => exact ⟨k + 1, by omega, by omega, by go_num, below_drewN hB _, (⟨by rw [all_snoc hy.out, hP.out.1, HH.out]; rfl, by rw [Nat.add_sub_cancel, HS.out, hP.out.2, HF.out]; rfl⟩ : (l.take (k + 1)).all (hasB ms) = true ∧ chK ms l (k + 1 - 1) = true)⟩
              case measure => simp [intOf]; omega
            | false =>
              have HF := Lib.hid hbf
              clear hbf
              go_wp2
              go_quiet ((first | (go_at_call 60; exact Calls.quiet_of_same (isHit_is ms A c y true _ H.out.2.2.2 HH.out)) | (go_at_call 61; with_reducible exact Calls.quiet_of (v := .bool false) (refBefore_is ms A c b y false _ (HMn.out _) H.out.2.1 HBb.out HH.out HF.out))))
              go_wp2
              go_ret
              exact ⟨ret_bool (by rw [ischB, chK_no (k := k - 1) (n := l.length - 1) (by omega) (by rw [show k - 1 + 1 = k by omega, getD_of hb.out, getD_of hy.out]; exact HF.out), Bool.and_false]), below_drewN hB _⟩
          · obtain rfl : k = 0 := by omega
            have hcy' := hcy
            simp only [add_zero_] at hcy'
            go_wp2
            go_quiet ((go_at_call 60; exact Calls.quiet_of_same (isHit_is ms A c y true _ H.out.2.2.2 HH.out)))
            go_wp2
            go_roundw
            case rel => exact ⟨1, by omega, by omega, by go_num, below_drewN hB _, (⟨by rw [all_snoc hy.out, hP.out.1, HH.out]; rfl, rfl⟩ : (l.take 1).all (hasB ms) = true ∧ chK ms l (1 - 1) = true)⟩
            case measure => simp [intOf]; omega
      · obtain rfl : k = 51 := by omega
        have hl51 : 51 < (l.length : Int) ∨ 51 = (l.length : Int) ∨ True := .inr (.inr trivial)
        go_wp2
        go_ret
        exact ⟨ret_bool (by rw [← ischB_len (ms := ms) (l := l) (by omega)]; simp; omega), hB⟩
    · obtain rfl : k = l.length := by omega
      go_wp2
      all_goals
        go_ret
        exact ⟨ret_bool (by rw [ischB, listB, hP.out.2]; have := hP.out.1; rw [List.take_length] at this; rw [this, Bool.and_true, Bool.and_true, Bool.eq_iff_iff]; simp; try omega), hB⟩
end Go.Proofs.Ytmlkdjcjfkfdiaa
