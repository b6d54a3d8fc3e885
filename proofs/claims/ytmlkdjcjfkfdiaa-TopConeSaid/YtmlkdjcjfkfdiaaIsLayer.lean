/-
  Contracts: isList, isLayer (cone); isLayer (firnref02).
-/
import Derived.Test.YtmlkdjcjfkfdiaaJoined
namespace Go.Proofs.Ytmlkdjcjfkfdiaa
open Go.RowKit Go.Shelf

/-- Whether a hit may stand in a layer behind some hits. -/
def okPre (ms : List (Int × Int)) (p : List Int) (b : Int) : Bool := p.all fun a => decide (a < b) && !knowI ms a b
def layK (ms : List (Int × Int)) (l : List Int) (k : Nat) : Bool := (List.range k).all fun i => okPre ms (l.take i) (l.getD i 0)
theorem layK_zero (ms : List (Int × Int)) (l : List Int) : layK ms l 0 = true := rfl
theorem layK_succ (ms : List (Int × Int)) (l : List Int) (k : Nat) : layK ms l (k + 1) = (layK ms l k && okPre ms (l.take k) (l.getD k 0)) := by
  simp [layK, List.range_succ]
theorem layK_no {ms : List (Int × Int)} {l : List Int} {k n : Nat} (hk : k < n) (h : okPre ms (l.take k) (l.getD k 0) = false) : layK ms l n = false := by
  rw [layK, List.all_eq_false]
  exact ⟨k, List.mem_range.2 hk, by rw [h]; exact Bool.false_ne_true⟩
def listB (ms : List (Int × Int)) (l : List Int) : Bool := decide (1 ≤ l.length ∧ l.length ≤ 50) && l.all (hasB ms)
/-- Whether a list is a layer. -/
def islB (ms : List (Int × Int)) (l : List Int) : Bool := listB ms l && layK ms l l.length
theorem okPre_snoc {ms : List (Int × Int)} {l : List Int} {k : Nat} {a b : Int} (h : l[k]? = some a) : okPre ms (l.take (k + 1)) b = (okPre ms (l.take k) b && (decide (a < b) && !knowI ms a b)) := by
  rw [okPre, all_snoc h]; rfl
theorem okPre_no {ms : List (Int × Int)} {l : List Int} {j k : Nat} {a b : Int} (h : l[j]? = some a) (hj : j < k) (hn : (decide (a < b) && !knowI ms a b) = false) : okPre ms (l.take k) b = false := by
  rw [okPre, List.all_eq_false]
  exact ⟨a, mem_take_of h hj, by rw [hn]; simp⟩
theorem listB_parts {ms : List (Int × Int)} {l : List Int} (h : listB ms l = true) : (1 ≤ l.length ∧ l.length ≤ 50) ∧ l.all (hasB ms) = true := by
  simp only [listB, Bool.and_eq_true, decide_eq_true_eq] at h; exact h
theorem listB_at {ms : List (Int × Int)} {l : List Int} (h : l.all (hasB ms) = true) {k : Nat} {a : Int} (ha : l[k]? = some a) : hasB ms a = true := List.all_eq_true.1 h a (List.mem_of_getElem? ha)
theorem knowI_comm (ms : List (Int × Int)) (a b : Int) : knowI ms a b = knowI ms b a := by rw [knowI, knowI, Bool.or_comm]

set_option maxRecDepth 100000 in
theorem keep_list (ms : List (Int × Int)) (A : Option Addr) (c : Nat) (S : List Int) (B0 : Nat) (w : World) (h0 : B0 < w.heap.size) (hc : w.cell? ⟨B0, 0, none⟩ = some (.slice A ms.length c)) :
    KeepAt 121 #[.pointer (some ⟨B0, 0, none⟩)] (fun b => !hasB ms b) S w := by
  intro W b _ hB
  have c0 := (hB.cell (p := ⟨B0, 0, none⟩) h0).trans hc
  show Calls Try.prog _ #[.int .i64 b, .pointer (some ⟨B0, 0, none⟩)] W _
  go_enter Try.func121, Try.ntmps121
  go_wp2_with (go_at_call 58; refine (has_any ms A c b _).mono ?_; rintro e w' ⟨rfl, rfl⟩)
  go_ret
  exact ⟨rfl, Below.refl _ _⟩
theorem any_not_all (p : Int → Bool) (l : List Int) : (!(l.any fun b => !p b)) = l.all p := by
  rw [Bool.eq_iff_iff]; simp

set_option maxRecDepth 100000 in
theorem isList_any (ms : List (Int × Int)) (A : Option Addr) (c : Nat) (l : List Int) (A2 : Option Addr) (c2 : Nat) (w : World) (hI : Ints w A2 l) (hl : l.length ≤ maxLen) :
    Calls Try.prog 104 #[.slice A ms.length c, .slice A2 l.length c2] w fun e w' => e = .returned (.bool (listB ms l)) ∧ Below w.heap.size w w' := by
  unfold maxLen at hl
  by_cases hn : 1 ≤ l.length ∧ l.length ≤ 50
  · have n1 : decide ((l.length : Int) < 1) = false := decide_eq_false (by omega)
    have n2 : decide (50 < (l.length : Int)) = false := decide_eq_false (by omega)
    have eg : ∀ args w, (callFunc 121 args).run Try.prog w = .ok (.enter 121 args) w := enters_of Try.func121 (by kernel_rfl) rfl
    have hBB : Below w.heap.size w (w.alloc (.cells #[.slice A ms.length c] 65)) := (Below.refl _ _).alloc (Nat.le_refl _) _
    have hcon := contains_any _ _ _ eg l A2 c2 _ (keep_list ms A c l w.heap.size (w.alloc (.cells #[.slice A ms.length c] 65)) (by simp) (by simp)) (hI.below hBB) (by omega)
    have HQ := Lib.hid hcon
    have HN := Lib.hid hn
    clear hcon eg hBB hI hn
    go_enter Try.func104, Try.ntmps104
    go_wp2_with (go_at_call 117; refine HQ.out.mono ?_; rintro e w2 ⟨rfl, hB2⟩)
    go_ret
    exact ⟨ret_bool (by rw [any_not_all, listB, decide_eq_true HN.out]; rfl), Below.trans (by repeat (first | with_reducible exact Below.refl _ _ | with_reducible assumption | refine below_drewN ?_ _ | with_reducible refine Below.drew ?_ | (refine Below.setCell ?_ (by first | (simp; done) | (simp; omega) | omega) _) | (refine Below.alloc ?_ (by first | (simp; done) | (simp; omega) | omega) _))) (hB2.mono (by first | (simp; done) | (simp; omega) | omega))⟩
  · have HN := Lib.hid (show false = listB ms l by rw [listB, decide_eq_false hn]; rfl)
    by_cases n1 : (l.length : Int) < 1
    · go_enter Try.func104, Try.ntmps104
      go_wp2
      go_ret
      exact ⟨ret_bool HN.out, (by repeat (first | with_reducible exact Below.refl _ _ | with_reducible assumption | refine below_drewN ?_ _ | with_reducible refine Below.drew ?_ | (refine Below.setCell ?_ (by first | (simp; done) | (simp; omega) | omega) _) | (refine Below.alloc ?_ (by first | (simp; done) | (simp; omega) | omega) _)))⟩
    · have n2 : 50 < (l.length : Int) := by omega
      have n3 : decide ((l.length : Int) < 1) = false := decide_eq_false n1
      go_enter Try.func104, Try.ntmps104
      go_wp2
      go_ret
      exact ⟨ret_bool HN.out, (by repeat (first | with_reducible exact Below.refl _ _ | with_reducible assumption | refine below_drewN ?_ _ | with_reducible refine Below.drew ?_ | (refine Below.setCell ?_ (by first | (simp; done) | (simp; omega) | omega) _) | (refine Below.alloc ?_ (by first | (simp; done) | (simp; omega) | omega) _)))⟩

set_option maxRecDepth 100000 in
set_option maxHeartbeats 1600000 in
theorem isLayer_any (ms : List (Int × Int)) (A : Option Addr) (c : Nat) (l : List Int) (A2 : Option Addr) (c2 : Nat) (w : World) (h : Marks w A ms) (hv : vhB ms = true) (hI : Ints w A2 l) (hl : l.length ≤ c2) (hl2 : c2 ≤ maxLen) :
    Calls Try.prog 85 #[.slice A ms.length c, .slice A2 l.length c2] w fun e w' => e = .returned (.bool (islB ms l)) ∧ Below w.heap.size w w' := by
  unfold maxLen at hl2
  have H := Lib.hid (And.intro h (And.intro hv hI))
  clear h hv hI
  cases hL : listB ms l with
  | false =>
    have HL := Lib.hid hL
    clear hL
    go_enter Try.func85, Try.ntmps85
    go_wp2_with (go_at_call 104; refine (isList_any ms A c l A2 c2 _ H.out.2.2 (Nat.le_trans hl hl2)).mono ?_; rintro e w1 ⟨he, hB1⟩; rw [HL.out] at he; subst he)
    go_ret
    exact ⟨ret_bool (by rw [islB, HL.out]; rfl), hB1⟩
  | true =>
    obtain ⟨⟨n1, n2⟩, hall⟩ := listB_parts hL
    have HL := Lib.hid hL
    have HA := Lib.hid hall
    clear hL hall
    go_enter Try.func85, Try.ntmps85
    go_wp2_with (go_at_call 104; refine (isList_any ms A c l A2 c2 _ H.out.2.2 (Nat.le_trans hl hl2)).mono ?_; rintro e w1 ⟨he, hB1⟩; rw [HL.out] at he; subst he)
    go_loopw [15] (fun i wr => ∃ k : Nat, k ≤ l.length ∧ i = .int .i64 k ∧ Below w.heap.size w wr ∧ Hid (layK ms l k = true)) (fun i _ => l.length - (intOf i).toNat)
    case atStart => exact ⟨0, Nat.zero_le _, rfl, hB1, layK_zero ms l⟩
    case round =>
      clear hB1
      obtain ⟨k, hk, rfl, hB, hlk⟩ := hrel
      by_cases hlt : k < l.length
      · obtain ⟨ad, b, rfl, hbk, hb, hcb⟩ := H.out.2.2.get hlt
        have fb := (hB.cell (p := ad.add k) (by rw [block_of_add]; exact hbk)).trans hcb
        have HD := Lib.hid (getD_of hb.out)
        have HB := Lib.hid (listB_at HA.out hb.out)
        clear hcb
        go_wp2
        go_loopw [24] (fun s wr2 => ∃ j : Nat, j ≤ k ∧ s = .int .i64 j ∧ Below w.heap.size w wr2 ∧ Hid (okPre ms (l.take j) b = true)) (fun s _ => k - (intOf s).toNat)
        case atStart => exact ⟨0, Nat.zero_le _, rfl, hB, rfl⟩
        case round =>
          clear hB
          obtain ⟨j, hj, rfl, hB, hok⟩ := hrel
          by_cases hlt2 : j < k
          · obtain ⟨ad2, a, e2, hbk2, ha, hca⟩ := H.out.2.2.get (show j < l.length by omega)
            cases e2
            have fa := (hB.cell (p := ad.add j) (by rw [block_of_add]; exact hbk)).trans hca
            have HAa := Lib.hid (listB_at HA.out ha.out)
            have HS := Lib.hid (okPre_snoc (ms := ms) (b := b) ha.out)
            have HM := Lib.hid (H.out.1.below hB)
            clear hca
            by_cases hab : a < b
            · have t1 : decide (b ≤ a) = false := decide_eq_false (by omega)
              cases hkn : knowI ms a b with
              | true =>
                have HK := Lib.hid hkn
                clear hkn
                go_wp2_with (go_at_call 111; refine (know_any ms A c a b _ HM.out H.out.2.1 HAa.out HB.out).mono ?_; rintro e w3 ⟨he, n, rfl⟩; rw [HK.out] at he; subst he)
                go_ret
                exact ⟨ret_bool (by rw [islB, layK_no hlt (by rw [HD.out]; exact okPre_no ha.out hlt2 (by rw [HK.out]; simp))]; simp), below_drewN hB n⟩
              | false =>
                have HK := Lib.hid hkn
                clear hkn
                go_wp2_with (go_at_call 111; refine (know_any ms A c a b _ HM.out H.out.2.1 HAa.out HB.out).mono ?_; rintro e w3 ⟨he, n, rfl⟩; rw [HK.out] at he; subst he)
                go_roundw
                case rel => exact ⟨j + 1, by omega, by go_num, below_drewN hB n, (by rw [HS.out, hok.out, HK.out, decide_eq_true hab]; rfl : okPre ms (l.take (j + 1)) b = true)⟩
                case measure => simp [intOf]; omega
            · have t1 : decide (b ≤ a) = true := decide_eq_true (by omega)
              have HN := Lib.hid (decide_eq_false hab)
              clear hab
              go_wp2
              go_ret
              exact ⟨ret_bool (by rw [islB, layK_no hlt (by rw [HD.out]; exact okPre_no ha.out hlt2 (by rw [HN.out]; rfl))]; simp), hB⟩
          · obtain rfl : j = k := by omega
            go_wp2
            go_roundw
            case rel => exact ⟨j + 1, by omega, by go_num, hB, (by rw [layK_succ, hlk.out, HD.out, hok.out]; rfl : layK ms l (j + 1) = true)⟩
            case measure => simp [intOf]; omega
      · obtain rfl : k = l.length := by omega
        go_wp2
        go_ret
        exact ⟨ret_bool (by rw [islB, HL.out, hlk.out]; rfl), hB⟩
end Go.Proofs.Ytmlkdjcjfkfdiaa
