/-
  Contract: Wide (wave).
-/
import Derived.Test.YtcmnjmhedmneiaaDoorRepeat
import Derived.Test.YtcmnjmhedmneiaaDoorPlan
namespace Go.Proofs.YtcmnjmhedmneiaaDoor
open Go.RowKit Go.Shelf

theorem ks_four (n : Nat) : ksL (wdL (List.replicate n 4)) = List.replicate n 4 := by
  rw [ksL, wdL, List.map_map, List.map_replicate]; rfl
theorem kinds_four (n : Nat) : kindsB (wdL (List.replicate n 4)) = true := by
  rw [kindsB, List.all_eq_true]
  intro x hx
  obtain ⟨k, hk, rfl⟩ := List.mem_map.1 hx
  obtain rfl := (List.mem_replicate.1 hk).2
  rfl
theorem cans_four {ds : List Int} {n : Nat} (h : ∀ d ∈ ds, -1023 ≤ d ∧ d ≤ 1023) : cansB ds (List.replicate n 4) = true := by
  rw [cansB, List.all_eq_true]
  intro p hp
  obtain ⟨h1, h2⟩ := List.of_mem_zip (a := p.1) (b := p.2) hp
  obtain h3 := (List.mem_replicate.1 h2).2
  show canB (wdN p.2) p.1 = true
  rw [h3]; exact can_four (h p.1 h1)
theorem four_short : ∀ (ds : List Int) (n : Nat), (planG 4 (ds.zip (List.replicate n 4))).length ≤ 11 * n
  | [], n => by simp [planG]
  | d :: t, 0 => by simp [planG]
  | d :: t, n + 1 => by
    have := four_short t n
    rw [List.replicate_succ, List.zip_cons_cons, planG, List.length_append, List.length_append, word_len]
    simp only [changeL, Nat.sub_self]
    rw [show upsL 4 0 = [] from rfl, show dnsL 4 0 = [] from rfl, show wdN 4 = 11 from rfl]
    simp only [List.append_nil, List.length_nil]
    omega
theorem two_short (ds : List Int) (n : Nat) : (planG 2 (ds.zip (List.replicate n 4))).length ≤ 48 + 11 * n := by
  cases n with
  | zero => simp [planG]
  | succ n =>
    cases ds with
    | nil => simp [planG]
    | cons d t =>
      have h1 := four_short t n
      have h2 := change_len (a := 2) (b := 4) (by omega) (by omega)
      rw [List.replicate_succ, List.zip_cons_cons, planG, List.length_append, List.length_append, word_len]
      show (changeL 2 4).length + 11 + (planG 4 (t.zip (List.replicate n 4))).length ≤ 48 + 11 * (n + 1)
      omega
theorem pl_wide {s : List Int} (h : vwB s = true) : plE s (wdL (List.replicate s.length 4)) = 0 ∧ plT s (wdL (List.replicate s.length 4)) = wideL s := by
  have hn := (vw_parts h).1
  have h1 := two_short (difL s) s.length
  have h2 : planL s (wdL (List.replicate s.length 4)) = wideL s := by rw [planL, ks_four, (wide_ok h).2]
  have h3 := pl_ok (s := s) (ws := wdL (List.replicate s.length 4)) h (by simp [wdL]) (kinds_four _) (by rw [ks_four]; exact cans_four (dif_all h)) (by rw [h2, (wide_ok h).2]; omega)
  exact ⟨h3.1, h3.2.trans h2⟩
set_option maxRecDepth 100000 in
set_option maxHeartbeats 1000000 in
theorem waveWide_any (s : List Int) (A : Option Addr) (c : Nat) (w : World) (h : Ints w A s) (hl : s.length ≤ maxLen) (hW : Wids w) :
    Calls Tryd.prog 37 #[.slice A s.length c] w fun e w' => TextRes (encE s) (wideL s) e w w' := by
  have H := Lib.hid h
  have HW := Lib.hid hW
  clear h hW
  cases hv : vwB s with
  | false =>
    have HV := Lib.hid hv
    clear hv
    go_enter Tryd.func37, Tryd.ntmps37
    go_wp2_with (go_at_call 24; refine (valid_any s _ _ _ H.out hl).mono ?_; rintro e w1 ⟨rfl, rfl⟩; rw [HV.out])
    go_ret2
    exact ⟨⟨#[]⟩, 30, rfl, Below.refl _ _, by rw [(wide_no HV.out).2], (wide_no HV.out).1.symm⟩
  | true =>
    have HV := Lib.hid hv
    obtain ⟨hn1, hn2⟩ := (vw_parts hv).1
    have HPW := Lib.hid (pl_wide hv)
    have f0 := HW.out.2 4 (by omega)
    rw [show (((wdN 4 : Nat)) : Int) = 11 from rfl] at f0
    have hB0 : Below w.heap.size w (w.alloc (.cells #[.int .i64 11] 3)) := (by repeat (first | with_reducible exact Below.refl _ _ | with_reducible assumption | refine below_drewN ?_ _ | with_reducible refine Below.drew ?_ | (refine Below.setCell ?_ (by first | (simp; done) | (simp; omega) | omega) _) | (refine Below.alloc ?_ (by first | (simp; done) | (simp; omega) | omega) _)))
    have HR := Lib.hid (repeat_any s.length w.heap.size (w.alloc (.cells #[.int .i64 11] 3)) hn1 hn2 (by simp) (by go_simp))
    have HWL : Hid ((wdL (List.replicate s.length 4)).length = s.length) := Lib.hid (by simp [wdL])
    clear hv
    go_enter Tryd.func37, Tryd.ntmps37
    go_wp2_with (first
      | (go_at_call 24; refine (valid_any s _ _ _ H.out hl).mono ?_; rintro e w1 ⟨rfl, rfl⟩; rw [HV.out])
      | (go_at_call 75; refine HR.out.mono ?_; rintro e w2 ⟨A2, c2, rfl, hO, hB2⟩; have hW2 := below_step hB0 hB2; have hpl := wavePlan_any s (wdL (List.replicate s.length 4)) A A2 c c2 w2 (H.out.below hW2) hO.ints hl (Nat.le_trans hO.le hO.cap) (HW.out.below hW2); rw [HWL.out] at hpl; have HPN := Lib.hid hpl; clear hpl)
      | (go_at_call 49; refine HPN.out.mono ?_; rintro e w3 ⟨q, E, rfl, hB3, hF⟩))
    go_ret2
    exact ⟨q, E, rfl, below_step hW2 hB3, by rw [← HPW.out.2]; exact hF.out.1, by rw [(wide_ok HV.out).1, ← HPW.out.1]; exact hF.out.2⟩
end Go.Proofs.YtcmnjmhedmneiaaDoor
