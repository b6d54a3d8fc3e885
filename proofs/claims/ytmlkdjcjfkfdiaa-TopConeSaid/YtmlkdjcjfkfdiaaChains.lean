/-
  Contracts: chains, Chains (cone).
-/
import Derived.Test.YtmlkdjcjfkfdiaaFromEach
import Derived.Test.YtmlkdjcjfkfdiaaJoined
namespace Go.Proofs.Ytmlkdjcjfkfdiaa
open Go.RowKit Go.Shelf

def addJ (a b : Int) : Int := a + b
def chainsI (ms : List (Int × Int)) : Int := ((allL ms.length).map (numI ms fun a b => a + b)).foldl addJ 0
def chainsF (ms : List (Int × Int)) : Int := if vhB ms then chainsI ms else 0
theorem small_addJ : Small addJ := small_add
theorem fold_take {l : List Int} {k : Nat} {b : Int} (h : l[k]? = some b) : (l.take (k + 1)).foldl addJ 0 = (l.take k).foldl addJ 0 + b := by
  rw [take_snoc h, List.foldl_append]; rfl

set_option maxRecDepth 100000 in
set_option maxHeartbeats 400000 in
theorem chains_any (ms : List (Int × Int)) (A : Option Addr) (c : Nat) (w : World) (h : Marks w A ms) (hv : vhB ms = true) :
    Calls Try.prog 76 #[.slice A ms.length c] w fun e w' => ∃ z : Int, e = .returned (.int .i64 z) ∧ Below w.heap.size w w' ∧ Hid (z = chainsI ms) := by
  obtain ⟨hn1, hn2⟩ := vh_parts hv
  have HQ := Lib.hid (fromEach_any 105 _ join_add small_add ms A c w h hv)
  clear h hv
  go_enter Try.func76, Try.ntmps76
  go_wp2_with (go_at_call 101; refine HQ.out.mono ?_; rintro e w1 ⟨A1, c1, ys, rfl, hO1, hB1, hy⟩)
  have hyl : ys.length = ms.length := by rw [hy.out, List.length_map, allL_len]
  have HBX := Lib.hid (fun (l : List Int) (hl : ∀ x ∈ l, x ∈ ys) (hl2 : l.length ≤ 14) => (show 0 ≤ l.foldl addJ 0 ∧ l.foldl addJ 0 ≤ 14 * 15 ^ 14 by
    have := fold_small small_addJ (15 ^ 14) (by decide) l 0 (Int.le_refl _) fun x hx => by
      have h2 := hl x hx
      rw [hy.out] at h2
      obtain ⟨b, _, rfl⟩ := List.mem_map.1 h2
      exact numI_small small_add hn2
    have h3 : (l.length : Int) * 15 ^ 14 ≤ 14 * 15 ^ 14 := Int.mul_le_mul_of_nonneg_right (by omega) (by decide)
    exact ⟨this.1, by omega⟩))
  have HO := Lib.hid hO1
  have HL := Lib.hid hyl
  have hyl14 : ys.length ≤ 14 := by omega
  clear hO1 hyl
  go_loopw [3, 9] (fun s i wr => ∃ (k : Nat) (z : Int), k ≤ ys.length ∧ i = .int .i64 k ∧ s = .int .i64 z ∧ wr = w1 ∧ (0 ≤ z ∧ z ≤ 408700964355468750) ∧ Hid (z = (ys.take k).foldl addJ 0)) (fun _ i _ => ys.length - (intOf i).toNat)
  case atStart => exact ⟨0, 0, Nat.zero_le _, rfl, rfl, rfl, by omega, rfl⟩
  case round =>
    obtain ⟨k, z, hk, rfl, rfl, rfl, hzb, hz⟩ := hrel
    by_cases hlt : k < ys.length
    · obtain ⟨ad, b, rfl, hbk, hb, hcb⟩ := HO.out.ints.get hlt
      have e : z + b = (ys.take (k + 1)).foldl addJ 0 := by rw [fold_take hb.out, ← hz.out]
      have hb2 := HBX.out (ys.take (k + 1)) (fun x hx => List.mem_of_mem_take hx) (by rw [List.length_take]; omega)
      rw [← e] at hb2
      have hb3 : 0 ≤ z + b ∧ z + b ≤ 408700964355468750 := by
        have : (14 * 15 ^ 14 : Int) = 408700964355468750 := by decide
        omega
      have HE := Lib.hid e
      clear e hb2
      go_wp2
      go_roundw
      case rel => exact ⟨k + 1, z + b, by omega, by go_num, by go_num, (by first | rfl | trivial), hb3, HE.out⟩
      case measure => simp [intOf]; omega
    · obtain rfl : k = ys.length := by omega
      go_wp2
      go_ret
      exact ⟨z, rfl, hB1, by rw [hz.out, List.take_length, hy.out]; rfl⟩

set_option maxRecDepth 100000 in
theorem toldChains_any (ms : List (Int × Int)) (A : Option Addr) (c : Nat) (w : World) (h : Clk w A c ms) :
    Calls Try.prog 75 #[.slice A ms.length c, .func (Fn.func 76) #[.slice A ms.length c] #[]] w fun e w' => ∃ (z E : Int), e = .returned (.tuple #[.int .i64 z, .int .i64 E]) ∧ Below w.heap.size w w' ∧ Hid (z = chainsF ms ∧ E = hitsE ms) := by
  have H := Lib.hid h
  clear h
  cases hv : vhB ms with
  | true =>
    have HV := Lib.hid hv
    clear hv
    go_enter Try.func75, Try.ntmps75
    go_wp2_with (first
      | (go_at_call 21; refine (valid_any ms A c _ H.out.marks H.out.len).mono ?_; rintro e w1 ⟨he, hB1⟩; rw [HV.out] at he; subst he)
      | (go_at_call 76; refine (chains_any ms A c _ (H.out.marks.below hB1) HV.out).mono ?_; rintro e w2 ⟨z, rfl, hB2, hy⟩))
    go_ret2
    exact ⟨_, _, rfl, below_step hB1 hB2, by rw [hy.out, chainsF, HV.out]; rfl, (hitsE_yes HV.out).symm⟩
  | false =>
    have HV := Lib.hid hv
    clear hv
    go_enter Try.func75, Try.ntmps75
    go_wp2_with (go_at_call 21; refine (valid_any ms A c _ H.out.marks H.out.len).mono ?_; rintro e w1 ⟨he, hB1⟩; rw [HV.out] at he; subst he)
    go_ret2
    exact ⟨_, _, rfl, hB1, by rw [chainsF, HV.out]; rfl, (hitsE_no HV.out).symm⟩
set_option maxRecDepth 100000 in
theorem coneChains_any (ms : List (Int × Int)) (A : Option Addr) (c : Nat) (w : World) (h : Clk w A c ms) :
    Calls Try.prog 30 #[.slice A ms.length c] w fun e w' => ∃ (z E : Int), e = .returned (.tuple #[.int .i64 z, .int .i64 E]) ∧ Below w.heap.size w w' ∧ Hid (z = chainsF ms ∧ E = hitsE ms) := by
  have H := Lib.hid h
  clear h
  go_enter Try.func30, Try.ntmps30
  go_wp2_with (go_at_call 75; refine (toldChains_any ms A c _ H.out).mono ?_; rintro e w2 ⟨z, E, rfl, hB2, hy⟩)
  go_ret2
  exact ⟨z, E, rfl, hB2, hy⟩
end Go.Proofs.Ytmlkdjcjfkfdiaa
