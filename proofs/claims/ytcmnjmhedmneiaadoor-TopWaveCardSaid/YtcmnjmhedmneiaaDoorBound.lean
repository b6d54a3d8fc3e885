/-
  Contract: Bound (wave).
-/
import Derived.Test.YtcmnjmhedmneiaaDoorRefEnc
namespace Go.Proofs.YtcmnjmhedmneiaaDoor
open Go.RowKit Go.Shelf

set_option maxRecDepth 100000 in
theorem ask_bound (d : Int) (B : Nat) (w : World) (hb : B < w.heap.size) (hc : w.cell? ⟨B, 0, none⟩ = some (.int .i64 d)) (h : -1023 ≤ d ∧ d ≤ 1023) :
    AskAt 79 #[.pointer (some ⟨B, 0, none⟩)] (fun k => canB (wdN k) d) w := by
  intro W k hk hB
  have c0 := (hB.cell (p := ⟨B, 0, none⟩) hb).trans hc
  have hcan := canHave_at k d W (by omega) (by omega)
  show Calls Tryd.prog _ #[.int .i64 (wdN k), .pointer (some ⟨B, 0, none⟩)] W fun e w' => e = .returned (.bool (canB (wdN k) d)) ∧ Below W.heap.size W w'
  generalize canB (wdN k) d = t at hcan ⊢
  generalize wdN k = x at hcan ⊢
  clear hb hc hB hk
  go_enter Tryd.func79, Tryd.ntmps79
  go_wp2_with (go_at_call 80; refine hcan.mono ?_; rintro e w1 ⟨rfl, rfl⟩)
  go_ret
  exact ⟨rfl, Below.refl _ _⟩

set_option maxRecDepth 100000 in
set_option maxHeartbeats 1000000 in
theorem waveBound_any (s : List Int) (A : Option Addr) (c : Nat) (w : World) (h : Ints w A s) (hl : s.length ≤ maxLen) (hW : Wids w) :
    Calls Tryd.prog 39 #[.slice A s.length c] w fun e w' => NumRes (encE s) (bndN s) e w w' := by
  have H := Lib.hid h
  have HW := Lib.hid hW
  clear h hW
  cases hv : vwB s with
  | false =>
    have HV := Lib.hid hv
    clear hv
    go_enter Tryd.func39, Tryd.ntmps39
    go_wp2_with (go_at_call 24; refine (valid_any s _ _ _ H.out hl).mono ?_; rintro e w1 ⟨rfl, rfl⟩; rw [HV.out])
    go_ret2
    exact ⟨0, 30, rfl, Below.refl _ _, (bnd_no HV.out).2.symm, (bnd_no HV.out).1.symm⟩
  | true =>
    have HV := Lib.hid hv
    have HL : Hid ((difL s).length = s.length) := Lib.hid (difG_len 0 s)
    obtain ⟨hn1, hn2⟩ := (vw_parts hv).1
    have HDA := Lib.hid (dif_all hv)
    have eg : ∀ args w, (callFunc 79 args).run Tryd.prog w = .ok (.enter 79 args) w := enters_of Tryd.func79 (by kernel_rfl) rfl
    have HEG := Lib.hid eg
    clear hv eg
    go_enter Tryd.func39, Tryd.ntmps39
    go_wp2_with (first
      | (go_at_call 24; refine (valid_any s _ _ _ H.out hl).mono ?_; rintro e w1 ⟨rfl, rfl⟩; rw [HV.out])
      | (go_at_call 58; refine (differences_any s _ _ _ H.out HV.out).mono ?_; rintro e w2 ⟨g, c', rfl, _, hO, hB⟩))
    obtain ⟨zs, hzs⟩ : ∃ zs, difL s = zs := ⟨_, rfl⟩
    rw [hzs] at hO
    have HZ := Lib.hid hzs
    have HZL : Hid (zs.length = s.length) := Lib.hid (by rw [← hzs]; exact HL.out)
    have hgb : g < w2.heap.size := by
      obtain ⟨ad, _, e, hb, _, _⟩ := Reads.at_ hO.ints (show 0 < zs.length by rw [HZL.out]; omega)
      cases e; exact hb
    have HCZ : Hid (∀ (k : Nat) (z : Int), zs[k]? = some z → w2.cell? ⟨g, k, none⟩ = some (.int .i64 z)) := Lib.hid (fun k z hz => by
      obtain ⟨b, o, e, _, hcc⟩ := hO.ints.open_ (show 0 < zs.length by rw [HZL.out]; omega)
      cases e
      have := hcc k z hz
      rwa [Nat.zero_add] at this)
    clear hzs hO HL
    go_loopw [4, 15] (fun a i wr => ∃ k : Nat, k ≤ s.length ∧ i = .int .i64 k ∧ ∃ x : Int, a = .int .i64 x ∧ (0 ≤ x ∧ x ≤ 11 * k) ∧ Hid (x = bndI (zs.take k)) ∧ Below w2.heap.size w2 wr) (fun _ i _ => s.length - (intOf i).toNat)
    case atStart => exact ⟨0, Nat.zero_le _, rfl, 0, rfl, by omega, Lib.hid rfl, Below.refl _ _⟩
    case round =>
      obtain ⟨k, hk, rfl, x, rfl, hx, hX, hB2⟩ := hrel
      obtain ⟨hx0, hx1⟩ := hx
      by_cases hlt : k < s.length
      · obtain ⟨d, hd⟩ := getElem?_of_lt (show k < zs.length by rw [HZL.out]; exact hlt)
        have f0 := (hB2.cell (p := ⟨g, k, none⟩) hgb).trans (HCZ.out k d hd)
        have hdb := HDA.out d (by rw [HZ.out]; exact List.mem_of_getElem? hd)
        obtain ⟨j, hj, hj5, hjc⟩ := min_some hdb
        have HDB := Lib.hid hdb
        have HJ : Hid (leastK (fun k => canB (wdN k) d) = some j) := Lib.hid hj
        have HMW : Hid (minW d = wdN j) := Lib.hid (by rw [minW, hj]; rfl)
        have HD := Lib.hid hd
        have hsz := hB2.size
        clear hj hjc hd hdb
        go_wp2_with fail
        have hB0 : Below wr.heap.size wr (wr.alloc (.cells #[.int .i64 d] 3)) := (Below.refl _ _).alloc (Nat.le_refl _) _
        have hW1 : Below w2.heap.size w2 (wr.alloc (.cells #[.int .i64 d] 3)) := below_step hB2 hB0
        refine (leastStep_any _ _ (fun k => canB (wdN k) d) HEG.out _ (HW.out.below (below_step hB hW1)) (ask_bound d wr.heap.size _ (by simp) (by go_simp) HDB.out)).mono ?_
        rintro e w3 ⟨rfl, hB3⟩
        have hW3 := below_step hW1 hB3
        have f1 := (HW.out.below (below_step hB hW3)).2 j hj5
        have j0 : (0 : Int) ≤ (j : Int) := by omega
        have j1 : (j : Int) < 5 := by omega
        obtain ⟨hwj0, hwj1⟩ := wd_bd j
        rw [HJ.out, st_some]
        clear hB0 hW1 hB3 hB2 f0 hsz
        go_wp2
        go_roundw
        case rel => exact ⟨k + 1, by omega, by go_num, x + wdN j, by go_num, by omega, Lib.hid (by rw [bnd_next HD.out, ← hX.out, HMW.out]), hW3⟩
        case measure => simp [intOf]; omega
      · obtain rfl : k = s.length := by omega
        go_wp2
        go_ret2
        exact ⟨x, 0, rfl, below_step hB hB2, by have h4 := hX.out; rw [← HZL.out, List.take_length, ← HZ.out] at h4; rw [(bnd_ok HV.out).2]; exact h4, (bnd_ok HV.out).1.symm⟩
end Go.Proofs.YtcmnjmhedmneiaaDoor
