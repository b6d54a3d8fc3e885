/-
  Contracts: cmp.Compare at ints; byTime (cone).
-/
import Derived.Test.YtmlkdjcjfkfdiaaSort
import Derived.Test.YtmlkdjcjfkfdiaaJoined
namespace Go.Proofs.Ytmlkdjcjfkfdiaa
open Go.RowKit Go.Shelf

theorem isNaN_any (x : Int) (w : World) :
    Calls Try.prog 125 #[.int .i64 x] w fun e w' => e = .returned (.bool false) ∧ w = w' := by
  go_enter Try.func125, Try.ntmps125
  go_wp2
  go_ret
  exact ⟨by simp, rfl⟩
theorem compare_any (x y : Int) (w : World) :
    Calls Try.prog 115 #[.int .i64 x, .int .i64 y] w fun e w' => e = .returned (.int .i64 (cmpV x y)) ∧ w = w' := by
  go_enter Try.func115, Try.ntmps115
  go_wp2_with (go_at_call 125; refine (isNaN_any _ _).mono ?_; rintro e w' ⟨rfl, rfl⟩)
  all_goals
    go_ret
    exact ⟨ret_int (by unfold cmpV; (repeat' split) <;> first | rfl | omega), rfl⟩

set_option maxRecDepth 100000 in
theorem cmp_time (ms : List (Int × Int)) (A : Option Addr) (c : Nat) (S : List Int) (base B0 : Nat) (w : World) (h : Marks w A ms) (hv : vhB ms = true) (hS : ∀ b ∈ S, hasB ms b = true) (hA : ∀ ad, A = some ad → ad.block < base) (h0 : B0 < base) (hc : w.cell? ⟨B0, 0, none⟩ = some (.slice A ms.length c)) :
    CmpAt 114 #[.pointer (some ⟨B0, 0, none⟩)] (timeI ms) S base w := by
  intro W x y hx hy hB
  obtain ⟨hn1, hn2⟩ := vh_parts hv
  obtain ⟨i, rfl, hi⟩ := has_nat (hS x hx)
  obtain ⟨j, rfl, hj⟩ := has_nat (hS y hy)
  obtain ⟨bl, off, rfl, hbk, hcells⟩ := h.open_ (by omega)
  have hbb : bl < base := hA _ rfl
  obtain ⟨a, b, e1⟩ := getM_of_lt hi
  obtain ⟨p, q, e2⟩ := getM_of_lt hj
  have c1 := (hB.cell (p := ⟨bl, off + i * 2 + 1, none⟩) hbb).trans (hcells _ _ e1).2
  have c3 := (hB.cell (p := ⟨bl, off + j * 2 + 1, none⟩) hbb).trans (hcells _ _ e2).2
  have cc := (hB.cell (p := ⟨B0, 0, none⟩) h0).trans hc
  have F : Hid (timeI ms (i : Int) = b ∧ timeI ms (j : Int) = q) := ⟨by rw [timeI, hAt_of e1], by rw [timeI, hAt_of e2]⟩
  have hi0 : (0 : Int) ≤ (i : Int) := by omega
  have hi1 : (i : Int) < (ms.length : Int) := by omega
  have hj0 : (0 : Int) ≤ (j : Int) := by omega
  have hj1 : (j : Int) < (ms.length : Int) := by omega
  clear h hv hS hc hcells hx hy e1 e2 hA
  show Calls Try.prog _ #[.int .i64 i, .int .i64 j, .pointer (some ⟨B0, 0, none⟩)] W _
  go_enter Try.func114, Try.ntmps114
  go_wp2
  go_quiet ((go_at_call 115; exact Calls.quiet_of_same ((compare_any b q _).mono fun e w' h => ⟨h.1, h.2.symm⟩)))
  go_wp2
  go_ret
  exact ⟨ret_int (by rw [F.out.1, F.out.2]), _, rfl⟩

set_option maxRecDepth 100000 in
set_option maxHeartbeats 400000 in
theorem all_own (n : Nat) (A : Option Addr) (c : Nat) (w : World) (hn : n ≤ 1000) :
    Calls Try.prog 98 #[.slice A n c] w fun e w' => e = .returned (.slice (some ⟨w.heap.size, 0, none⟩) n n) ∧ w'.ownsRow w.heap.size 3 1 (.slice (some ⟨w.heap.size, 0, none⟩) n n) n ((allL n).map (Value.int .i64)) ∧ Below w.heap.size w w' := by
  obtain ⟨i0, hi0, hz0, hz1, hz2⟩ := info_parts int_info
  have HZ2 := Lib.hid hz2
  clear hz2
  go_enter Try.func98, Try.ntmps98
  go_wp2_with (at_make; refine wpList_make_full _ rfl _ _ 28 rfl w.heap.size 3 i0 (.int .i64 0) 1 Try.underlying28 hi0 hz0 hz1 _ _ _ _ n rfl rfl rfl rfl (by rw [HZ2.out]; omega) (by unfold maxLen; omega) (Nat.le_refl _) ?_; intro w1 hown1 hg1)
  have hB1 : Below w.heap.size w w1 := (Below.refl _ _).grown hg1 (Nat.le_refl _) (by simp)
  rw [made_fill] at hown1
  clear hg1 HZ2 hz0 hz1 hi0
  go_loopw [10] (fun i wr => ∃ k : Nat, k ≤ n ∧ i = .int .i64 k ∧ wr.ownsRow w.heap.size 3 1 (.slice (some ⟨w.heap.size, 0, none⟩) n n) n ((fillL n k).map (Value.int .i64)) ∧ Below w.heap.size w wr) (fun i _ => n - (intOf i).toNat)
  case atStart => exact ⟨0, Nat.zero_le _, rfl, hown1, hB1⟩
  case round =>
    clear hown1 hB1
    obtain ⟨k, hk, rfl, hown, hB⟩ := hrel
    by_cases hlt : k < n
    · have hc := hown.cellAt k (by omega)
      rw [List.getElem?_map, fill_get hlt, Option.map_some] at hc
      have hf := hown.frozenAt k
      go_wp2
      go_roundw
      case rel => exact ⟨k + 1, by omega, by go_num, by rw [← fill_set hlt, List.map_set]; exact (hown.stored k _).1, hB.setCell (Nat.le_refl _) _⟩
      case measure => simp [intOf]; omega
    · obtain rfl : k = n := by omega
      go_wp2
      go_ret
      rw [fill_full] at hown
      exact ⟨rfl, hown, hB⟩

set_option maxRecDepth 100000 in
theorem byTime_any (ms : List (Int × Int)) (A : Option Addr) (c : Nat) (w : World) (h : Marks w A ms) (hv : vhB ms = true) :
    Calls Try.prog 91 #[.slice A ms.length c] w fun e w' => ∃ (A' : Option Addr) (c' : Nat) (ys : List Int), e = .returned (.slice A' ys.length c') ∧ Out w' A' c' ys ∧ Below w.heap.size w w' ∧ Hid (ys.Perm (allL ms.length) ∧ Srt (timeI ms) ys ms.length) := by
  obtain ⟨hn1, hn2⟩ := vh_parts hv
  have H := Lib.hid (And.intro h hv)
  have eg : Hid (∀ args w, (callFunc 114 args).run Try.prog w = .ok (.enter 114 args) w) := enters_of Try.func114 (by kernel_rfl) rfl
  clear h hv
  go_enter Try.func91, Try.ntmps91
  go_wp2_with fail
  refine (all_own ms.length A c _ (by omega)).mono ?_
  rintro e w1 ⟨rfl, hown1, hB1⟩
  have hBx : Below w.heap.size w (w.alloc (.cells #[.slice A ms.length c] 65)) := (Below.refl _ _).alloc (Nat.le_refl _) _
  have hBA : Below (w.heap.size + 1) w1 w1 := Below.refl _ _
  have hsz : (w.alloc (.cells #[.slice A ms.length c] 65)).heap.size = w.heap.size + 1 := by simp
  have hB0 : Below w.heap.size w w1 := hBx.trans (hB1.mono (by first | (simp; done) | (simp; omega) | omega))
  have hcc : w1.cell? ⟨w.heap.size, 0, none⟩ = some (.slice A ms.length c) := (hB1.cell (p := ⟨w.heap.size, 0, none⟩) (by simp)).trans (by simp)
  have hlt : ∀ ad, A = some ad → ad.block < w.heap.size := by
    intro ad hA
    obtain ⟨ad', e', hb', _⟩ := H.out.1.2 (by omega)
    rw [hA] at e'; cases e'; exact hb'
  have hcmp := cmp_time ms A c (allL ms.length) (w.heap.size + 1) w.heap.size w1 (H.out.1.below hB0) H.out.2 (fun b hb => allL_has hb) (fun ad hA => Nat.lt_succ_of_lt (hlt ad hA)) (Nat.lt_succ_self _) hcc
  rw [hsz] at hown1
  have hcon := sortStable_any _ _ _ eg.out (allL ms.length) ms.length _ _ _ w1 w1 hn1 (by omega) (allL_len _) hown1 hBA hcmp
  have HQ := Lib.hid hcon
  have HB0 := Lib.hid hB0
  clear hcon hcmp hown1 hB0 hBA hBx hcc hlt hB1
  go_wp2_with (go_at_call 113; refine HQ.out.mono ?_; rintro e w2 ⟨rfl, ys, hown2, hB2, hP⟩)
  go_ret
  obtain ⟨A', c', e, hO⟩ := own_ints hown2
  have hyl : ys.length = ms.length := hP.out.1.length_eq.trans (allL_len _)
  rw [hyl] at e
  cases e
  refine ⟨some ⟨w.heap.size + 1, 0, none⟩, ms.length, ys, (by rw [hyl]; rfl), hO, HB0.out.trans (hB2.mono (Nat.le_succ _)), hP.out⟩
end Go.Proofs.Ytmlkdjcjfkfdiaa
