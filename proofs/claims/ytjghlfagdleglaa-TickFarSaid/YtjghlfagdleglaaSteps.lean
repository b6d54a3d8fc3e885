/-
  Contracts: both Steps.
-/
import Derived.Test.YtjghlfagdleglaaReadings
import Derived.Deep.RegionHeld3
namespace Go.Proofs.Ytjghlfagdleglaa
open Go.RowKit

def stepsK (zs : List Int) (n : Nat) : List Int := (List.range n).map fun i => zs.getD (i + 1) 0 - zs.getD i 0
def stepsF (zs : List Int) : List Int := if vcB zs then stepsK zs (zs.length - 1) else []
def stepsE (zs : List Int) : Int := if vcB zs then 0 else 10
theorem stepsK_succ {zs : List Int} {k : Nat} {x y : Int} (hx : zs[k]? = some x) (hy : zs[k + 1]? = some y) : stepsK zs (k + 1) = stepsK zs k ++ [y - x] := by
  simp [stepsK, List.range_succ, hx, hy]
theorem stepsK_pred {zs : List Int} {k : Nat} {x y : Int} (h : 1 ≤ k) (hx : zs[k - 1]? = some x) (hy : zs[k]? = some y) : stepsK zs k = stepsK zs (k - 1) ++ [y - x] := by
  obtain ⟨j, rfl⟩ : ∃ j, k = j + 1 := ⟨k - 1, by omega⟩
  exact stepsK_succ hx hy
theorem getElem?_of_lt {zs : List Int} {k : Nat} (h : k < zs.length) : ∃ z, zs[k]? = some z := ⟨_, List.getElem?_eq_getElem h⟩

set_option maxRecDepth 100000 in
set_option maxHeartbeats 400000 in
theorem steps_any (zs : List Int) (A : Option Addr) (c : Nat) (w : World) (h : Ints w A zs) (hcap : zs.length ≤ c) (hl : c ≤ maxLen) :
    Calls Try.prog 25 #[.slice A zs.length c] w fun e w' => ∃ (A' : Option Addr) (c' : Nat) (ys : List Int) (E : Int),
      e = .returned (.tuple #[.slice A' ys.length c', .int .i64 E]) ∧ Out w' A' c' ys ∧ Below w.heap.size w w' ∧ Hid (ys = stepsF zs ∧ E = stepsE zs) := by
  have H := Lib.hid h
  clear h
  have hl1 : zs.length ≤ maxLen := by omega
  have HL := Lib.hid hl1
  clear hl hl1
  by_cases hv : vcB zs = true
  · obtain ⟨hn1, hn60⟩ := vc_parts hv
    have HV := Lib.hid hv
    have hall : Hid (∀ (j : Nat) (u : Int), zs[j]? = some u → 0 ≤ u ∧ u ≤ 1099511627776) := fun j u hj => vc_at HV.out hj
    obtain ⟨i0, hi0, hz0, hz1, hz2⟩ := info_parts int_info
    have HZ2 := Lib.hid hz2
    clear hz2
    obtain ⟨bl, off, rfl, hbk, hcells⟩ := H.out.open_ (show 0 < zs.length by omega)
    have HC := Lib.hid hcells
    clear hcells
    by_cases hc1 : c = 1
    · have hlen : zs.length = 1 := by omega
      obtain ⟨z, hzs⟩ : ∃ z, zs = [z] := by
        match zs, hlen with
        | [z], _ => exact ⟨z, rfl⟩
      subst hzs
      subst hc1
      simp only [List.length_cons, List.length_nil, Nat.zero_add]
      go_enter Try.func25, Try.ntmps25
      go_wp2_with (first
        | (go_at_call 20; refine (validCounts_any [z] _ 1 _ H.out HL.out).mono ?_; rintro e w' ⟨rfl, rfl⟩)
        | (at_make; refine wpList_make_own _ rfl _ _ 22 rfl w.heap.size 3 i0 (.int .i64 0) 1 Try.underlying22 hi0 hz0 hz1 _ _ _ 0 rfl rfl (by omega) (by rw [HZ2.out]; omega) (by unfold maxLen; omega) (Nat.le_refl _) ?_; intro w1 hown1 hg1))
      have hB1 : Below w.heap.size w w1 := (Below.refl _ _).grown hg1 (Nat.le_refl _) (by simp)
      refine wp_loop_rounds 1 ?_; rw [rounds_succ]
      go_wp2
      go_ret2
      exact ⟨_, _, [], _, rfl, Out.nil_, hB1, by simp [stepsF, HV.out, stepsK], by simp [stepsE, HV.out]⟩
    · have hc2 : zs.length - 1 ≤ c - 1 := by omega
      go_enter Try.func25, Try.ntmps25
      go_wp2_with (first
        | (go_at_call 20; refine (validCounts_any _ _ _ _ H.out HL.out).mono ?_; rintro e w' ⟨rfl, rfl⟩)
        | (at_make; refine wpList_make_own _ rfl _ _ 22 rfl w.heap.size 3 i0 (.int .i64 0) 1 Try.underlying22 hi0 hz0 hz1 _ _ _ (zs.length - 1) rfl rfl (by omega) (by rw [HZ2.out]; omega) (by unfold maxLen; omega) (Nat.le_refl _) ?_; intro w1 hown1 hg1))
      have hB1 : Below w.heap.size w w1 := (Below.refl _ _).grown hg1 (Nat.le_refl _) (by simp)
      clear hg1 HZ2 hz0 hz1 hi0
      go_loopw [4, 17] (fun v i wr => ∃ k : Nat, k ≤ zs.length - 1 ∧ i = .int .i64 k ∧ wr.ownsRow w.heap.size 3 1 v k ((stepsK zs k).map (Value.int .i64)) ∧ Below w.heap.size w wr) (fun _ i _ => zs.length - 1 - (intOf i).toNat)
      case atStart => exact ⟨0, Nat.zero_le _, rfl, hown1, hB1⟩
      case round =>
        clear hown1 hB1
        obtain ⟨k, hk, rfl, hown, hB⟩ := hrel
        by_cases hlt : k < zs.length - 1
        · obtain ⟨x, hx⟩ := getElem?_of_lt (show k < zs.length by omega)
          obtain ⟨y, hy⟩ := getElem?_of_lt (show k + 1 < zs.length by omega)
          have hcx := (hB.cell (p := ⟨bl, off + k, none⟩) hbk).trans (HC.out k x hx)
          have hcy : wr.cell? ⟨bl, off + 1 + k, none⟩ = some (.int .i64 y) := by
            rw [show off + 1 + k = off + (k + 1) by omega]
            exact (hB.cell (p := ⟨bl, off + (k + 1), none⟩) hbk).trans (HC.out (k + 1) y hy)
          have hxa := hall.out k x hx
          have hya := hall.out (k + 1) y hy
          have HX := Lib.hid hx
          have HY := Lib.hid hy
          clear hx hy
          go_wp2_with (at_builtin; refine wp_app_int _ rfl (.tmp 22) (.tmp 29) rfl w.heap.size _ k _ _ rfl hown rfl (by omega) hB.size ?_; intro v2 w2 hown2 hB2)
          go_roundw
          case rel => exact ⟨k + 1, by omega, by go_num, by rw [stepsK_succ HX.out HY.out]; exact hown2, hB.trans hB2⟩
          case measure => simp [intOf]; omega
        · obtain rfl : k = zs.length - 1 := by omega
          go_wp2
          go_ret2
          obtain ⟨A', c', rfl, hI⟩ := own_ints hown
          exact ⟨A', c', _, _, rfl, hI, hB, by simp [stepsF, HV.out], by simp [stepsE, HV.out]⟩
  · have hv2 : vcB zs = false := by simpa using hv
    go_enter Try.func25, Try.ntmps25
    go_wp2_with (go_at_call 20; refine (validCounts_any _ _ _ _ H.out HL.out).mono ?_; rintro e w' ⟨rfl, rfl⟩)
    go_ret2
    exact ⟨none, 0, [], _, rfl, Out.nil_, Below.refl _ _, by simp [stepsF, hv2], by simp [stepsE, hv2]⟩

set_option maxRecDepth 100000 in
set_option maxHeartbeats 400000 in
theorem refSteps_any (zs : List Int) (A : Option Addr) (c : Nat) (w : World) (h : Ints w A zs) (hl : zs.length ≤ maxLen) :
    Calls Try.prog 26 #[.slice A zs.length c] w fun e w' => ∃ (A' : Option Addr) (c' : Nat) (ys : List Int) (E : Int),
      e = .returned (.tuple #[.slice A' ys.length c', .int .i64 E]) ∧ Out w' A' c' ys ∧ Below w.heap.size w w' ∧ Hid (ys = stepsF zs ∧ E = stepsE zs) := by
  have H := Lib.hid h
  clear h
  have HL := Lib.hid hl
  clear hl
  by_cases hv : vcB zs = true
  · obtain ⟨hn1, hn60⟩ := vc_parts hv
    have HV := Lib.hid hv
    have hall : Hid (∀ (j : Nat) (u : Int), zs[j]? = some u → 0 ≤ u ∧ u ≤ 1099511627776) := fun j u hj => vc_at HV.out hj
    obtain ⟨bl, off, rfl, hbk, hcells⟩ := H.out.open_ (show 0 < zs.length by omega)
    have HC := Lib.hid hcells
    clear hcells
    go_enter Try.func26, Try.ntmps26
    go_wp2_with (go_at_call 21; refine (refValidCounts_any _ _ _ _ H.out HL.out).mono ?_; rintro e w' ⟨rfl, rfl⟩)
    go_loopw [4, 5] (fun v i wr => ∃ k : Nat, 1 ≤ k ∧ k ≤ zs.length ∧ i = .int .i64 k ∧ wr.ownsRow w.heap.size 3 1 v (k - 1) ((stepsK zs (k - 1)).map (Value.int .i64)) ∧ Below w.heap.size w wr) (fun _ i _ => zs.length - (intOf i).toNat)
    case atStart => exact ⟨1, by omega, by omega, rfl, World.ownsRow_nil _ _ _ _, Below.refl _ _⟩
    case round =>
      obtain ⟨k, hk0, hk, rfl, hown, hB⟩ := hrel
      by_cases hlt : k < zs.length
      · obtain ⟨x, hx⟩ := getElem?_of_lt (show k - 1 < zs.length by omega)
        obtain ⟨y, hy⟩ := getElem?_of_lt (show k < zs.length by omega)
        have hcx := (hB.cell (p := ⟨bl, off + (k - 1), none⟩) hbk).trans (HC.out (k - 1) x hx)
        have hcy := (hB.cell (p := ⟨bl, off + k, none⟩) hbk).trans (HC.out k y hy)
        have hxa := hall.out (k - 1) x hx
        have hya := hall.out k y hy
        have hsucc := Lib.hid (stepsK_pred hk0 hx hy)
        clear hx hy
        have i0 : (0 : Int) ≤ (k : Int) := by omega
        have i1 : (k : Int) < (zs.length : Int) := by omega
        have i3 : (0 : Int) ≤ (k : Int) - 1 := by omega
        have i4 : (k : Int) - 1 < (zs.length : Int) := by omega
        have i7 : (1 : Int) ≤ (k : Int) := by omega
        have i8 : (k : Int) ≤ (zs.length : Int) := by omega
        have i2 : IntKind.i64.wrap ((k : Int) - 1) = (k : Int) - 1 := IntWalk.i64_in _ (by omega)
        have i5 : ((k : Int) - 1).toNat = k - 1 := by omega
        have i6 : IntKind.i64.wrap (y - x) = y - x := IntWalk.i64_in _ (by omega)
        go_wp2
        go_region_held3 (fun w' => w'.cell? ⟨bl, off + (k - 1), none⟩ = some (.int .i64 x) ∧ w'.cell? ⟨bl, off + k, none⟩ = some (.int .i64 y))
          (first | go_keep | exact ⟨(hB2.cell (p := ⟨bl, off + (k - 1), none⟩) hbk).trans hcx, (hB2.cell (p := ⟨bl, off + k, none⟩) hbk).trans hcy⟩)
          ((refine step_app_int _ rfl (.tmp 15) (.tmp 26) rfl w.heap.size _ (k - 1) _ _ rfl hown rfl (by omega) hB.size ?_; intro v2 w2 hown2 hB2))
        clear i2 i5 i6
        go_wp2
        go_roundw
        case rel => exact ⟨k + 1, by omega, by omega, by go_num, by rw [Nat.add_sub_cancel, hsucc.out]; rw [show k - 1 + 1 = k by omega] at hown2; exact hown2, hB.trans hB2⟩
        case measure => simp [intOf]; omega
      · obtain rfl : k = zs.length := by omega
        go_wp2
        go_ret2
        obtain ⟨A', c', rfl, hI⟩ := own_ints hown
        exact ⟨A', c', _, _, rfl, hI, hB, by simp [stepsF, HV.out], by simp [stepsE, HV.out]⟩
  · have hv2 : vcB zs = false := by simpa using hv
    go_enter Try.func26, Try.ntmps26
    go_wp2_with (go_at_call 21; refine (refValidCounts_any _ _ _ _ H.out HL.out).mono ?_; rintro e w' ⟨rfl, rfl⟩)
    go_ret2
    exact ⟨none, 0, [], _, rfl, Out.nil_, Below.refl _ _, by simp [stepsF, hv2], by simp [stepsE, hv2]⟩
end Go.Proofs.Ytjghlfagdleglaa
