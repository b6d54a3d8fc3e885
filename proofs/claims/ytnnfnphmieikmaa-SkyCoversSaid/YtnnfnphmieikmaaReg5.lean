/-
  Contract: Size of the program.
-/
import Derived.Test.YtnnfnphmieikmaaReg4
namespace Go.Proofs.Ytnnfnphmieikmaa
open Go Go.RowKit Go.Shelf

set_option maxRecDepth 100000 in
set_option maxHeartbeats 400000 in
theorem skySize_any (ms : List (Int × Int)) (A : Option Addr) (c : Nat) (w : World) (h : Marks w A ms) (hl : ms.length ≤ maxLen) :
    Calls Try.prog 46 #[.slice A ms.length c] w fun e w' => e = .returned (.tuple #[.int .i64 (szV ms), .int .i64 (vaE ms)]) ∧ Below w.heap.size w w' := by
  have H := Lib.hid h
  have HL := Lib.hid hl
  clear h hl
  cases hv : vaB ms with
  | false =>
    have e1 : szV ms = 0 := by simp [szV, hv]
    have e2 : vaE ms = 60 := by simp [vaE, hv]
    rw [e1, e2]
    have HV := Lib.hid hv
    clear hv e1 e2
    go_enter Try.func46, Try.ntmps46
    go_wp2_with (go_at_call 43; refine (skyValid_any ms _ _ _ H.out HL.out).mono ?_; rintro e w1 ⟨he, hB1⟩; rw [HV.out] at he; subst he)
    go_ret2
    exact ⟨rfl, hB1⟩
  | true =>
    obtain ⟨v1, v2, v3⟩ := va_parts hv
    have e1 : szV ms = ((sumW ms : Nat) : Int) := by rw [szV, if_pos hv, ← sumW_cells, v3]
    have e2 : vaE ms = 0 := by simp [vaE, hv]
    rw [e1, e2]
    have HV := Lib.hid hv
    have HV2 := Lib.hid v2
    clear hv e1 e2 v2 v3
    go_enter Try.func46, Try.ntmps46
    go_wp2_with (go_at_call 43; refine (skyValid_any ms _ _ _ H.out HL.out).mono ?_; rintro e w1 ⟨he, hB1⟩; rw [HV.out] at he; subst he)
    go_loopw [4, 12] (fun n i wr => ∃ k : Nat, k ≤ ms.length ∧ i = .int .i64 k ∧ n = .int .i64 (sumW (ms.take k) : Nat) ∧ Below w.heap.size w wr) (fun _ i _ => ms.length - (intOf i).toNat)
    case atStart => exact ⟨0, Nat.zero_le _, rfl, rfl, hB1⟩
    case round =>
      obtain ⟨k, hk, rfl, rfl, hB⟩ := hrel
      have hsl : sumW (ms.take k) ≤ 256 * 400 := Nat.le_trans (sumW_le _) (by have := List.length_take_le k ms; omega)
      by_cases hlt : k < ms.length
      · obtain ⟨bl, off, rfl, hbk, hcells⟩ := H.out.open_ (show 0 < ms.length by omega)
        obtain ⟨a, b, hx⟩ := getM_of_lt hlt
        have hcb : cellB (a, b) = true := List.all_eq_true.1 HV2.out _ (List.mem_of_getElem? hx)
        obtain ⟨o, p, he, ho, hp⟩ := cellB_of hcb
        injection he with e1 e2
        subst e1; subst e2
        have f0 := (hB.cell (p := ⟨bl, off + k * 2, none⟩) hbk).trans (hcells _ _ hx).1
        have f1 := (hB.cell (p := ⟨bl, off + k * 2 + 1, none⟩) hbk).trans (hcells _ _ hx).2
        have HS : Hid (sumW (ms.take (k + 1)) = sumW (ms.take k) + wN o) := Lib.hid (by rw [sumW_snoc hx]; simp)
        have hS2 := wN_le o
        have CS := Lib.hid (fun W => size_any o ho (p : Int) W)
        have hz := hB.size
        clear hx hcells hcb
        go_wp2_with (go_at_call 100; refine (CS.out _).mono ?_; rintro e w2 ⟨rfl, hB2⟩; have hW2 : Below w.heap.size w w2 := Below.trans (Below.alloc hB hz _) (hB2.mono (by simp; omega)); clear hB2)
        go_roundw
        case rel => exact ⟨k + 1, by omega, by go_num, by rw [HS.out]; go_num, hW2⟩
        case measure => simp [intOf]; omega
      · obtain rfl : k = ms.length := by omega
        have HT := Lib.hid (List.take_length (l := ms))
        go_wp2
        go_ret2
        exact ⟨by rw [HT.out]; rfl, hB⟩
end Go.Proofs.Ytnnfnphmieikmaa
