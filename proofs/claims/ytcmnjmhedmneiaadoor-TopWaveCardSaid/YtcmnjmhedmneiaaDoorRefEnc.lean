/-
  Contracts: Encode, Length (firnref03).
-/
import Derived.Test.YtcmnjmhedmneiaaDoorRefEncode
import Derived.Test.YtcmnjmhedmneiaaDoorRefDiffs
namespace Go.Proofs.YtcmnjmhedmneiaaDoor
open Go.RowKit Go.Shelf

theorem enc_no {s : List Int} (h : vwB s = false) : encE s = 30 ∧ encT s = [] := by simp [encE, encT, h]
theorem enc_ok {s : List Int} (h : vwB s = true) : encE s = 0 ∧ encT s = encL (difL s) 2 := by simp [encE, encT, h]
theorem dif_all {s : List Int} (h : vwB s = true) : ∀ d ∈ difL s, -1023 ≤ d ∧ d ≤ 1023 := dif_bd 0 s (by omega) (vw_parts h).2
set_option maxRecDepth 100000 in
theorem refEncode_any (s : List Int) (A : Option Addr) (c : Nat) (w : World) (h : Ints w A s) (hl : s.length ≤ maxLen) :
    Calls Tryd.prog 34 #[.slice A s.length c] w fun e w' => TextRes (encE s) (encT s) e w w' := by
  have H := Lib.hid h
  clear h
  cases hv : vwB s with
  | false =>
    have HV := Lib.hid hv
    clear hv
    go_enter Tryd.func34, Tryd.ntmps34
    go_wp2_with (go_at_call 25; refine (refValid_any s _ _ _ H.out hl).mono ?_; rintro e w1 ⟨rfl, rfl⟩; rw [HV.out])
    go_ret2
    exact ⟨⟨#[]⟩, 30, rfl, Below.refl _ _, by rw [(enc_no HV.out).2], (enc_no HV.out).1.symm⟩
  | true =>
    have HV := Lib.hid hv
    have HLD : Hid (1 ≤ (difL s).length ∧ (difL s).length ≤ 40) := Lib.hid (by rw [show (difL s).length = s.length from difG_len 0 s]; exact (vw_parts hv).1)
    clear hv
    go_enter Tryd.func34, Tryd.ntmps34
    go_wp2_with (first
      | (go_at_call 25; refine (refValid_any s _ _ _ H.out hl).mono ?_; rintro e w1 ⟨rfl, rfl⟩; rw [HV.out])
      | (go_at_call 59; refine (refDifs_any s _ _ _ H.out HV.out).mono ?_; rintro e w2 ⟨A2, c2, zs, rfl, hO, hB, hz⟩)
      | (go_at_call 74; refine (refencode_any zs _ _ _ hO.ints (by rw [hz.out]; exact HLD.out.1) (by rw [hz.out]; exact HLD.out.2) (by rw [hz.out]; exact dif_all HV.out)).mono ?_; rintro e w3 ⟨q, rfl, hq, hB3, hQ⟩))
    go_ret2
    exact ⟨q, 0, rfl, below_step hB hB3, by rw [(enc_ok HV.out).2, ← hz.out]; exact hQ.out, (enc_ok HV.out).1.symm⟩
set_option maxRecDepth 100000 in
theorem refLength_any (s : List Int) (A : Option Addr) (c : Nat) (w : World) (h : Ints w A s) (hl : s.length ≤ maxLen) :
    Calls Tryd.prog 36 #[.slice A s.length c] w fun e w' => NumRes (encE s) (encT s).length e w w' := by
  have HE := Lib.hid (refEncode_any s A c w h hl)
  clear h
  go_enter Tryd.func36, Tryd.ntmps36
  go_wp2_with (go_at_call 34; refine HE.out.mono ?_; rintro e w1 ⟨q, E, rfl, hB, hF⟩)
  go_ret2
  exact ⟨_, E, rfl, hB, by rw [hF.out.1, sv_size], hF.out.2⟩

/-! ### the least widths -/
def minK (d : Int) : Option Nat := leastK fun k => canB (wdN k) d
def minW (d : Int) : Int := wdN ((minK d).getD 0)
def bndI (ds : List Int) : Int := (ds.map minW).sum
def bndN (s : List Int) : Int := if vwB s then bndI (difL s) else 0
theorem can_four {d : Int} (h : -1023 ≤ d ∧ d ≤ 1023) : canB (wdN 4) d = true := by
  simp [canB, wdN, halfN]; omega
theorem min_some {d : Int} (h : -1023 ≤ d ∧ d ≤ 1023) : ∃ k, minK d = some k ∧ k < 5 ∧ canB (wdN k) d = true := by
  cases hk : minK d with
  | none =>
    rw [minK, leastK, List.find?_eq_none] at hk
    exact absurd (can_four h) (hk 4 (by simp))
  | some k => exact ⟨k, rfl, least_spec hk⟩
theorem bnd_next {ds : List Int} {k : Nat} {d : Int} (h : ds[k]? = some d) : bndI (ds.take (k + 1)) = bndI (ds.take k) + minW d := by
  rw [take_snoc h, bndI, List.map_append, List.sum_append_int]; simp [bndI]
theorem minW_bd (d : Int) : 1 ≤ minW d ∧ minW d ≤ 11 := by
  have := wd_bd ((minK d).getD 0)
  unfold minW; omega
theorem bnd_no {s : List Int} (h : vwB s = false) : encE s = 30 ∧ bndN s = 0 := by simp [encE, bndN, h]
theorem bnd_ok {s : List Int} (h : vwB s = true) : encE s = 0 ∧ bndN s = bndI (difL s) := by simp [encE, bndN, h]

set_option maxRecDepth 100000 in
set_option maxHeartbeats 1000000 in
theorem refBound_any (s : List Int) (A : Option Addr) (c : Nat) (w : World) (h : Ints w A s) (hl : s.length ≤ maxLen) :
    Calls Tryd.prog 40 #[.slice A s.length c] w fun e w' => NumRes (encE s) (bndN s) e w w' := by
  have H := Lib.hid h
  clear h
  cases hv : vwB s with
  | false =>
    have HV := Lib.hid hv
    clear hv
    go_enter Tryd.func40, Tryd.ntmps40
    go_wp2_with (go_at_call 25; refine (refValid_any s _ _ _ H.out hl).mono ?_; rintro e w1 ⟨rfl, rfl⟩; rw [HV.out])
    go_ret2
    exact ⟨0, 30, rfl, Below.refl _ _, (bnd_no HV.out).2.symm, (bnd_no HV.out).1.symm⟩
  | true =>
    have HV := Lib.hid hv
    have HLD : Hid (1 ≤ (difL s).length ∧ (difL s).length ≤ 40) := Lib.hid (by rw [show (difL s).length = s.length from difG_len 0 s]; exact (vw_parts hv).1)
    have HDA := Lib.hid (dif_all hv)
    clear hv
    go_enter Tryd.func40, Tryd.ntmps40
    go_wp2_with (first
      | (go_at_call 25; refine (refValid_any s _ _ _ H.out hl).mono ?_; rintro e w1 ⟨rfl, rfl⟩; rw [HV.out])
      | (go_at_call 59; refine (refDifs_any s _ _ _ H.out HV.out).mono ?_; rintro e w2 ⟨A2, c2, zs, rfl, hO, hB, hz⟩))
    have hzl : zs.length ≤ 40 := by rw [hz.out]; exact HLD.out.2
    have HO := Lib.hid hO
    clear hO
    go_loop [4, 6, 7, 14] (fun a _ _ i => ∃ k : Nat, k ≤ zs.length ∧ i = .int .i64 k ∧ ∃ x : Int, a = .int .i64 x ∧ (0 ≤ x ∧ x ≤ 11 * k) ∧ Hid (x = bndI (zs.take k))) (fun _ _ _ i => zs.length - (intOf i).toNat)
    case atStart => exact ⟨0, Nat.zero_le _, rfl, 0, rfl, by omega, Lib.hid rfl⟩
    case round =>
      obtain ⟨k, hk, rfl, x, rfl, hx, hX⟩ := hrel
      obtain ⟨hx0, hx1⟩ := hx
      by_cases hlt : k < zs.length
      · obtain ⟨ad, d, rfl, _, hd, hc⟩ := HO.out.ints.get hlt
        have hdb := HDA.out d (by rw [← hz.out]; exact List.mem_of_getElem? hd.out)
        have HDB := Lib.hid hdb
        clear hdb
        go_wp2
        go_loop [7] (fun i => ∃ j : Nat, j ≤ 4 ∧ i = .int .i64 j ∧ Hid (∀ m, m < j → canB (wdN m) d = false)) (fun i => 5 - (intOf i).toNat)
        case atStart => exact ⟨0, by omega, rfl, Lib.hid (fun m hm => absurd hm (by omega))⟩
        case round =>
          obtain ⟨j, hj, rfl, hN⟩ := hrel
          have hwid := fun w => refwidth_any j (by omega) w
          have hcan := fun w => refcan_any j d w
          cases hcn : canB (wdN j) d with
          | false =>
            have HCN := Lib.hid hcn
            have hj4 : j < 4 := by
              rcases Nat.lt_or_ge j 4 with h | h
              · exact h
              · obtain rfl : j = 4 := by omega
                rw [can_four HDB.out] at hcn; cases hcn
            rw [hcn] at hcan
            clear hcn
            go_wp2_with (first
              | (go_at_call 76; refine (hwid _).mono ?_; rintro e w1 ⟨rfl, rfl⟩)
              | (go_at_call 81; refine (hcan _).mono ?_; rintro e w1 ⟨rfl, rfl⟩))
            go_round
            case rel => exact ⟨j + 1, by omega, by go_num, Lib.hid (fun m hm => by
              rcases Nat.lt_succ_iff_lt_or_eq.1 hm with h | h
              · exact hN.out m h
              · rw [h]; exact HCN.out)⟩
            case measure => simp [intOf]; omega
          | true =>
            have HMW : Hid (minW d = wdN j) := Lib.hid (by rw [minW, minK, least_some (by omega) hN.out hcn]; rfl)
            have hwj := wd_bd j
            obtain ⟨hwj0, hwj1⟩ := hwj
            rw [hcn] at hcan
            clear hcn
            go_wp2_with (first
              | (go_at_call 76; refine (hwid _).mono ?_; rintro e w1 ⟨rfl, rfl⟩)
              | (go_at_call 81; refine (hcan _).mono ?_; rintro e w1 ⟨rfl, rfl⟩))
            go_round
            case rel => exact ⟨k + 1, by omega, by go_num, x + wdN j, by go_num, by omega, Lib.hid (by rw [bnd_next hd.out, ← hX.out, HMW.out])⟩
            case measure => simp [intOf]; omega
      · obtain rfl : k = zs.length := by omega
        go_wp2
        go_ret2
        exact ⟨x, 0, rfl, hB, by have h4 := hX.out; rw [List.take_length, hz.out] at h4; rw [(bnd_ok HV.out).2]; exact h4, (bnd_ok HV.out).1.symm⟩
end Go.Proofs.YtcmnjmhedmneiaaDoor
