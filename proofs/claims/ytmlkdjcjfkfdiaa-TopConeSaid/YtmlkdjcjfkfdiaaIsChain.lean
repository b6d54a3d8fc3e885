/-
  Contracts: isChain, IsChain (cone).
-/
import Derived.Test.YtmlkdjcjfkfdiaaIsLayers
namespace Go.Proofs.Ytmlkdjcjfkfdiaa
open Go.RowKit Go.Shelf

def chK (ms : List (Int × Int)) (l : List Int) (k : Nat) : Bool := (List.range k).all fun i => befI ms (l.getD i 0) (l.getD (i + 1) 0)
theorem chK_succ (ms : List (Int × Int)) (l : List Int) (k : Nat) : chK ms l (k + 1) = (chK ms l k && befI ms (l.getD k 0) (l.getD (k + 1) 0)) := by
  rw [chK, List.range_succ, List.all_append]; simp [chK]
theorem chK_no {ms : List (Int × Int)} {l : List Int} {k n : Nat} (hk : k < n) (h : befI ms (l.getD k 0) (l.getD (k + 1) 0) = false) : chK ms l n = false := by
  rw [chK, List.all_eq_false]; exact ⟨k, List.mem_range.2 hk, by rw [h]; simp⟩
def ischB (ms : List (Int × Int)) (l : List Int) : Bool := listB ms l && chK ms l (l.length - 1)
theorem add_at (b o k : Nat) : (⟨b, o, none⟩ : Addr).add k = ⟨b, o + k, none⟩ := by
  unfold Addr.add
  split <;> simp_all

set_option maxRecDepth 100000 in
set_option maxHeartbeats 1600000 in
theorem isChain_any (ms : List (Int × Int)) (A : Option Addr) (c : Nat) (l : List Int) (A2 : Option Addr) (c2 : Nat) (w : World) (h : Marks w A ms) (hv : vhB ms = true) (hI : Ints w A2 l) (hl : l.length ≤ c2) (hl2 : c2 ≤ maxLen) :
    Calls Try.prog 73 #[.slice A ms.length c, .slice A2 l.length c2] w fun e w' => e = .returned (.bool (ischB ms l)) ∧ Below w.heap.size w w' := by
  unfold maxLen at hl2
  have H := Lib.hid (And.intro h (And.intro hv hI))
  clear h hv hI
  cases hL : listB ms l with
  | false =>
    have HL := Lib.hid hL
    clear hL
    go_enter Try.func73, Try.ntmps73
    go_wp2_with (go_at_call 104; refine (isList_any ms A c l A2 c2 _ H.out.2.2 (Nat.le_trans hl hl2)).mono ?_; rintro e w1 ⟨he, hB1⟩; rw [HL.out] at he; subst he)
    go_ret
    exact ⟨ret_bool (by rw [ischB, HL.out]; rfl), hB1⟩
  | true =>
    obtain ⟨⟨n1, n2⟩, hall⟩ := listB_parts hL
    have HL := Lib.hid hL
    have HA := Lib.hid hall
    clear hL hall
    obtain ⟨bl, off, rfl, _, _⟩ := H.out.2.2.open_ n1
    by_cases hc1 : c2 = 1
    · subst hc1
      have hl1 : l.length = 1 := by omega
      have hcc : chK ms l (l.length - 1) = true := by rw [hl1]; rfl
      have HC := Lib.hid (And.intro hl1 hcc)
      clear hcc hl1
      go_enter Try.func73, Try.ntmps73
      go_wp2_with (go_at_call 104; refine (isList_any ms A c l (some ⟨bl, off, none⟩) 1 _ H.out.2.2 (Nat.le_trans hl hl2)).mono ?_; rintro e w1 ⟨he, hB1⟩; rw [HL.out] at he; subst he)
      go_loopw [14] (fun i wr => i = .int .i64 0 ∧ Below w.heap.size w wr) (fun _ _ => 0)
      case atStart => exact ⟨rfl, hB1⟩
      case round =>
        clear hB1
        obtain ⟨rfl, hB⟩ := hrel
        go_wp2
        go_ret
        exact ⟨ret_bool (by rw [ischB, HL.out, HC.out.2]; rfl), hB⟩
    go_enter Try.func73, Try.ntmps73
    go_wp2_with (go_at_call 104; refine (isList_any ms A c l (some ⟨bl, off, none⟩) c2 _ H.out.2.2 (Nat.le_trans hl hl2)).mono ?_; rintro e w1 ⟨he, hB1⟩; rw [HL.out] at he; subst he)
    go_loopw [14] (fun i wr => ∃ k : Nat, k + 1 ≤ l.length ∧ i = .int .i64 k ∧ Below w.heap.size w wr ∧ Hid (chK ms l k = true)) (fun i _ => l.length - (intOf i).toNat)
    case atStart => exact ⟨0, n1, rfl, hB1, rfl⟩
    case round =>
      clear hB1
      obtain ⟨k, hk, rfl, hB, hlk⟩ := hrel
      by_cases hlt : k + 1 < l.length
      · obtain ⟨ad1, a, e1, hbk1, ha, hca⟩ := H.out.2.2.get (show k < l.length by omega)
        cases e1
        obtain ⟨ad2, b, e2, hbk2, hb, hcb⟩ := H.out.2.2.get hlt
        cases e2
        have fa := (hB.cell (p := (⟨bl, off, none⟩ : Addr).add k) (by rw [block_of_add]; exact hbk1)).trans hca
        have fb := (hB.cell (p := (⟨bl, off, none⟩ : Addr).add (k + 1)) (by rw [block_of_add]; exact hbk1)).trans hcb
        rw [add_at] at fa fb
        have fb2 := fb
        rw [show off + (k + 1) = off + 1 + k by omega] at fb2
        have HD := Lib.hid (And.intro (getD_of ha.out) (getD_of hb.out))
        have HAB := Lib.hid (And.intro (listB_at HA.out ha.out) (listB_at HA.out hb.out))
        have HM := Lib.hid (H.out.1.below hB)
        have HS := Lib.hid (chK_succ ms l k)
        clear hca hcb
        cases hkn : befI ms a b with
        | true =>
          have HK := Lib.hid hkn
          clear hkn
          go_wp2_with (go_at_call 59; refine (before_any ms A c a b _ HM.out H.out.2.1 HAB.out.1 HAB.out.2).mono ?_; rintro e w3 ⟨he, n, rfl⟩; rw [HK.out] at he; subst he)
          go_roundw
          case rel => exact ⟨k + 1, by omega, by go_num, below_drewN hB n, (by rw [HS.out, hlk.out, HD.out.1, HD.out.2, HK.out]; rfl : chK ms l (k + 1) = true)⟩
          case measure => simp [intOf]; omega
        | false =>
          have HK := Lib.hid hkn
          clear hkn
          go_wp2_with (go_at_call 59; refine (before_any ms A c a b _ HM.out H.out.2.1 HAB.out.1 HAB.out.2).mono ?_; rintro e w3 ⟨he, n, rfl⟩; rw [HK.out] at he; subst he)
          go_ret
          exact ⟨ret_bool (by rw [ischB, chK_no (k := k) (by omega) (by rw [HD.out.1, HD.out.2]; exact HK.out)]; simp), below_drewN hB n⟩
      · have hkl : k = l.length - 1 := by omega
        have HKL := Lib.hid hkl
        clear hkl
        go_wp2
        go_ret
        exact ⟨ret_bool (by rw [ischB, HL.out, ← HKL.out, hlk.out]; rfl), hB⟩
end Go.Proofs.Ytmlkdjcjfkfdiaa
