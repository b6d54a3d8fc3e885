/-
  Contract: Wide (firnref03).
-/
import Derived.Test.YtcmnjmhedmneiaaDoorRefPlan
namespace Go.Proofs.YtcmnjmhedmneiaaDoor
open Go.RowKit Go.Shelf

/-- The widths while the first k are written. -/
def fourL (n k : Nat) : List Int := List.replicate k 11 ++ List.replicate (n - k) 0
theorem four_zero (n : Nat) : fourL n 0 = List.replicate n 0 := by simp [fourL]
theorem four_full (n : Nat) : fourL n n = wdL (List.replicate n 4) := by simp [fourL, wdL, wdN]
theorem four_len {n k : Nat} (h : k ≤ n) : (fourL n k).length = n := by simp [fourL]; omega
theorem four_get {n k : Nat} (h : k < n) : (fourL n k)[k]? = some 0 := by
  rw [fourL, List.getElem?_append_right (by simp), List.length_replicate, Nat.sub_self, List.getElem?_replicate]
  simp; omega
theorem four_set {n k : Nat} (h : k < n) : (fourL n k).set k 11 = fourL n (k + 1) := by
  rw [fourL, List.set_append_right _ _ (by simp), List.length_replicate, Nat.sub_self, fourL, List.replicate_succ']
  obtain ⟨m, hm⟩ : ∃ m, n - k = m + 1 := ⟨n - k - 1, by omega⟩
  rw [hm, List.replicate_succ, List.set_cons_zero, List.append_assoc, show n - (k + 1) = m by omega]
  rfl
theorem made_four (n : Nat) : (madeCells (Value.int .i64 0).cells (n * 1)).toList = (fourL n 0).map (Value.int .i64) := by
  rw [four_zero, List.map_replicate, List.eq_replicate_iff]; simp [madeCells, Value.cells, Nat.mod_one]
def wideL (s : List Int) : List UInt8 := if vwB s then planG 2 ((difL s).zip (List.replicate s.length 4)) else []
theorem wide_no {s : List Int} (h : vwB s = false) : encE s = 30 ∧ wideL s = [] := by simp [encE, wideL, h]
theorem wide_ok {s : List Int} (h : vwB s = true) : encE s = 0 ∧ wideL s = planG 2 ((difL s).zip (List.replicate s.length 4)) := by simp [encE, wideL, h]
theorem four_can {ds : List Int} {n : Nat} (h : ∀ d ∈ ds, -1023 ≤ d ∧ d ≤ 1023) : ∀ (i : Nat) (d : Int) (k : Nat), ds[i]? = some d → (List.replicate n 4)[i]? = some k → canB (wdN k) d = true := by
  intro i d k h1 h2
  have h3 := List.mem_of_getElem? h2
  obtain rfl := (List.mem_replicate.1 h3).2
  exact can_four (h d (List.mem_of_getElem? h1))
theorem four_lt (n : Nat) : ∀ k ∈ List.replicate n 4, k < 5 := by
  intro k hk
  obtain rfl := (List.mem_replicate.1 hk).2
  omega

set_option maxRecDepth 100000 in
set_option maxHeartbeats 1000000 in
theorem refWide_any (s : List Int) (A : Option Addr) (c : Nat) (w : World) (h : Ints w A s) (hl : s.length ≤ maxLen) :
    Calls Tryd.prog 38 #[.slice A s.length c] w fun e w' => TextRes (encE s) (wideL s) e w w' := by
  have H := Lib.hid h
  clear h
  cases hv : vwB s with
  | false =>
    have HV := Lib.hid hv
    clear hv
    go_enter Tryd.func38, Tryd.ntmps38
    go_wp2_with (go_at_call 25; refine (refValid_any s _ _ _ H.out hl).mono ?_; rintro e w1 ⟨rfl, rfl⟩; rw [HV.out])
    go_ret2
    exact ⟨⟨#[]⟩, 30, rfl, Below.refl _ _, by rw [(wide_no HV.out).2], (wide_no HV.out).1.symm⟩
  | true =>
    have HV := Lib.hid hv
    obtain ⟨hn1, hn2⟩ := (vw_parts hv).1
    have HDL : Hid ((difL s).length = s.length) := Lib.hid (difG_len 0 s)
    obtain ⟨i0, hi0, hz0, hz1, hz2⟩ := info_parts int_info
    have HZ2 := Lib.hid hz2
    clear hv hz2
    go_enter Tryd.func38, Tryd.ntmps38
    go_wp2_with (first
      | (go_at_call 25; refine (refValid_any s _ _ _ H.out hl).mono ?_; rintro e w1 ⟨rfl, rfl⟩; rw [HV.out])
      | (at_make; refine wpList_make_full _ rfl _ _ 22 rfl w.heap.size 3 i0 (.int .i64 0) 1 Tryd.underlying22 hi0 hz0 hz1 _ _ _ _ s.length rfl rfl rfl rfl (by rw [HZ2.out]; omega) (by unfold maxLen; omega) (Nat.le_refl _) ?_; intro w1 hown1 hg1))
    have hB1 : Below w.heap.size w w1 := (Below.refl _ _).grown hg1 (Nat.le_refl _) (by simp)
    rw [made_four] at hown1
    clear hg1 HZ2 hz0 hz1 hi0
    go_loopw [5, 14] (fun _ i wr => ∃ k : Nat, k ≤ s.length ∧ i = .int .i64 k ∧ wr.ownsRow w.heap.size 3 1 (.slice (some ⟨w.heap.size, 0, none⟩) s.length s.length) s.length ((fourL s.length k).map (Value.int .i64)) ∧ Below w.heap.size w wr) (fun _ i _ => s.length - (intOf i).toNat)
    case atStart => exact ⟨0, Nat.zero_le _, rfl, hown1, hB1⟩
    case round =>
      clear hown1 hB1
      obtain ⟨k, hk, rfl, hown, hB⟩ := hrel
      by_cases hlt : k < s.length
      · have hc := hown.cellAt k (by omega)
        rw [List.getElem?_map, four_get hlt, Option.map_some] at hc
        have hf := hown.frozenAt k
        have hcall := refwidth_any 4 (by omega) wr
        rw [show (((4 : Nat) : Int)) = 4 from rfl, show ((wdN 4 : Nat) : Int) = 11 from rfl] at hcall
        go_wp2_with (go_at_call 76; refine hcall.mono ?_; rintro e w3 ⟨rfl, rfl⟩)
        go_roundw
        case rel => exact ⟨k + 1, by omega, by go_num, by rw [← four_set hlt, List.map_set]; exact (hown.stored k _).1, hB.setCell (Nat.le_refl _) _⟩
        case measure => simp [intOf]; omega
      · obtain rfl : k = s.length := by omega
        rw [four_full] at hown
        obtain ⟨A', c', e, hO⟩ := own_ints hown
        have e1 : (wdL (List.replicate s.length 4)).length = s.length := by simp [wdL]
        rw [e1] at e
        cases e
        have HO := Lib.hid hO
        clear hown hO e1
        go_wp2_with (first
          | (go_at_call 59; refine (refDifs_any s _ _ _ (H.out.below hB) HV.out).mono ?_; rintro e w2 ⟨A2, c2, zs, rfl, hO2, hB2, hz⟩; have HZL : Hid (zs.length = s.length) := Lib.hid (by rw [hz.out, HDL.out]); have HDB : Hid (∀ d ∈ zs, -1023 ≤ d ∧ d ≤ 1023) := Lib.hid (by rw [hz.out]; exact dif_all HV.out); have hplan := refplan_any zs (List.replicate s.length 4) _ _ c2 s.length _ hO2.ints (HO.out.ints.below hB2) (by rw [List.length_replicate, HZL.out]) (by rw [HZL.out]; omega) (by rw [HZL.out]; omega) (four_lt _) (four_can HDB.out); have HPN := Lib.hid hplan; clear hplan)
          | (go_at_call 77; have h7 := HPN.out; rw [HZL.out] at h7 ⊢; refine h7.mono ?_; rintro e w3 ⟨q, rfl, hq, hB3, hQ⟩))
        go_ret2
        exact ⟨q, 0, rfl, below_step (below_step hB hB2) hB3, by rw [(wide_ok HV.out).2, ← hz.out]; exact hQ.out, (wide_ok HV.out).1.symm⟩
end Go.Proofs.YtcmnjmhedmneiaaDoor
