/-
  Contract: Plan (firnref03).
-/
import Derived.Test.YtcmnjmhedmneiaaDoorPlanM
namespace Go.Proofs.YtcmnjmhedmneiaaDoor
open Go.RowKit Go.Shelf

def kindB (x : Int) : Bool := (ksF x).isSome
def kOf (x : Int) : Nat := (ksF x).getD 0
def kindsB (ws : List Int) : Bool := ws.all kindB
def ksL (ws : List Int) : List Nat := ws.map kOf
def canP (p : Int × Nat) : Bool := canB (wdN p.2) p.1
def cansB (ds : List Int) (ks : List Nat) : Bool := (ds.zip ks).all canP
def planL (s ws : List Int) : List UInt8 := planG 2 ((difL s).zip (ksL ws))
def plE (s ws : List Int) : Int :=
  if vwB s then (if ws.length = s.length then (if kindsB ws then (if cansB (difL s) (ksL ws) then (if 1000 < (planL s ws).length then 4 else 0) else 5) else 2) else 2) else 30
def plT (s ws : List Int) : List UInt8 := if plE s ws = 0 then planL s ws else []
section
variable {s ws : List Int}
theorem pl_wave (h : vwB s = false) : plE s ws = 30 ∧ plT s ws = [] := by
  have e : plE s ws = 30 := by simp [plE, h]
  exact ⟨e, by rw [plT, e]; rfl⟩
theorem pl_len (h : vwB s = true) (h2 : ws.length ≠ s.length) : plE s ws = 2 ∧ plT s ws = [] := by
  have e : plE s ws = 2 := by simp [plE, h, h2]
  exact ⟨e, by rw [plT, e]; rfl⟩
theorem pl_kind (h : vwB s = true) (h2 : ws.length = s.length) (h3 : kindsB ws = false) : plE s ws = 2 ∧ plT s ws = [] := by
  have e : plE s ws = 2 := by simp [plE, h, h2, h3]
  exact ⟨e, by rw [plT, e]; rfl⟩
theorem pl_can (h : vwB s = true) (h2 : ws.length = s.length) (h3 : kindsB ws = true) (h4 : cansB (difL s) (ksL ws) = false) : plE s ws = 5 ∧ plT s ws = [] := by
  have e : plE s ws = 5 := by simp [plE, h, h2, h3, h4]
  exact ⟨e, by rw [plT, e]; rfl⟩
theorem pl_long (h : vwB s = true) (h2 : ws.length = s.length) (h3 : kindsB ws = true) (h4 : cansB (difL s) (ksL ws) = true) (h5 : 1000 < (planL s ws).length) : plE s ws = 4 ∧ plT s ws = [] := by
  have e : plE s ws = 4 := by simp [plE, h, h2, h3, h4, h5]
  exact ⟨e, by rw [plT, e]; rfl⟩
theorem pl_ok (h : vwB s = true) (h2 : ws.length = s.length) (h3 : kindsB ws = true) (h4 : cansB (difL s) (ksL ws) = true) (h5 : ¬ 1000 < (planL s ws).length) : plE s ws = 0 ∧ plT s ws = planL s ws := by
  have e : plE s ws = 0 := by simp [plE, h, h2, h3, h4, h5]
  exact ⟨e, by rw [plT, e]; rfl⟩
end
theorem kind_of {x : Int} (h : kindB x = true) : kOf x < 5 ∧ (wdN (kOf x) : Int) = x ∧ ksF x = some (kOf x) := by
  cases ho : ksF x with
  | none => rw [kindB, ho] at h; cases h
  | some k => have := ks_some ho; rw [kOf, ho]; exact ⟨this.1, this.2, rfl⟩
theorem wdL_ks {ws : List Int} (h : kindsB ws = true) : wdL (ksL ws) = ws := by
  rw [wdL, ksL, List.map_map]
  rw [kindsB, List.all_eq_true] at h
  conv => rhs; rw [← List.map_id ws]
  apply List.map_congr_left
  intro x hx
  exact (kind_of (h x hx)).2.1
theorem ks_lt {ws : List Int} (h : kindsB ws = true) : ∀ k ∈ ksL ws, k < 5 := by
  rw [kindsB, List.all_eq_true] at h
  intro k hk
  obtain ⟨x, hx, rfl⟩ := List.mem_map.1 hk
  exact (kind_of (h x hx)).1
theorem ksL_at {ws : List Int} {m : Nat} {x : Int} (h : ws[m]? = some x) : (ksL ws)[m]? = some (kOf x) := by rw [ksL, List.getElem?_map, h]; rfl
theorem cans_at {ds : List Int} {ks : List Nat} (h : cansB ds ks = true) : ∀ (i : Nat) (d : Int) (k : Nat), ds[i]? = some d → ks[i]? = some k → canB (wdN k) d = true := by
  intro i d k h1 h2
  rw [cansB, List.all_eq_true] at h
  exact h (d, k) (List.mem_of_getElem? (zip_at h1 h2))

set_option maxRecDepth 100000 in
set_option maxHeartbeats 2000000 in
theorem refPlan_any (s ws : List Int) (A B : Option Addr) (c e0 : Nat) (w : World) (hA : Ints w A s) (hB : Ints w B ws) (hl : s.length ≤ maxLen) (hlw : ws.length ≤ maxLen) :
    Calls Tryd.prog 50 #[.slice A s.length c, .slice B ws.length e0] w fun e w' => TextRes (plE s ws) (plT s ws) e w w' := by
  have HA := Lib.hid hA
  have HB := Lib.hid hB
  unfold maxLen at hlw
  clear hA hB
  cases hv : vwB s with
  | false =>
    have HV := Lib.hid hv
    clear hv
    go_enter Tryd.func50, Tryd.ntmps50
    go_wp2_with (go_at_call 25; refine (refValid_any s _ _ _ HA.out hl).mono ?_; rintro e w1 ⟨rfl, rfl⟩; rw [HV.out])
    go_ret2
    exact ⟨⟨#[]⟩, 30, rfl, Below.refl _ _, by rw [(pl_wave HV.out).2], (pl_wave HV.out).1.symm⟩
  | true =>
    have HV := Lib.hid hv
    by_cases hlen : ws.length = s.length
    · have HLN := Lib.hid hlen
      have u0 : ((ws.length : Int) != (s.length : Int)) = false := by rw [hlen]; simp
      obtain ⟨hn1, hn2⟩ := (vw_parts hv).1
      have hw1 : 1 ≤ ws.length := by omega
      have hw2 : ws.length ≤ 40 := by omega
      obtain ⟨bm, of2, eb, hbm, hc2⟩ := HB.out.open_ (by omega)
      subst eb
      have HC2 := Lib.hid hc2
      have HDL : Hid ((difL s).length = s.length) := Lib.hid (difG_len 0 s)
      clear hv hlen hc2
      go_enter Tryd.func50, Tryd.ntmps50
      go_wp2_with (go_at_call 25; refine (refValid_any s _ _ _ HA.out hl).mono ?_; rintro e w1 ⟨rfl, rfl⟩; rw [HV.out])
      go_loop [7, 8, 9, 24] (fun _ _ _ i => ∃ m : Nat, m ≤ ws.length ∧ i = .int .i64 m ∧ Hid ((ws.take m).all kindB = true)) (fun _ _ _ i => ws.length - (intOf i).toNat)
      case atStart => exact ⟨0, Nat.zero_le _, rfl, Lib.hid rfl⟩
      case round =>
        obtain ⟨m, hm, rfl, hK⟩ := hrel
        by_cases hlt : m < ws.length
        · obtain ⟨x, hx⟩ := getElem?_of_lt hlt
          have f1 := HC2.out m x hx
          cases hkb : kindB x with
          | false =>
            have HKB := Lib.hid hkb
            have HO : Hid (ksF x = none) := Lib.hid (by rw [kindB] at hkb; cases ho : ksF x with | none => rfl | some k => rw [ho] at hkb; cases hkb)
            have HPL := Lib.hid (pl_kind HV.out HLN.out (by rw [kindsB, all_not hx hkb]))
            clear hx hkb
            go_wp2_with (go_at_call 67; refine (refkind_any x _).mono ?_; rintro e w1 ⟨rfl, rfl⟩; rw [HO.out, st_none])
            go_ret2
            exact ⟨⟨#[]⟩, 2, rfl, Below.refl _ _, by rw [HPL.out.2], HPL.out.1.symm⟩
          | true =>
            have HO := Lib.hid (kind_of hkb).2.2
            have HNX := Lib.hid (all_snoc (p := kindB) hx)
            have HKB := Lib.hid hkb
            clear hx hkb
            go_wp2_with (go_at_call 67; refine (refkind_any x _).mono ?_; rintro e w1 ⟨rfl, rfl⟩; rw [HO.out, st_some])
            go_round
            case rel => exact ⟨m + 1, by omega, by go_num, Lib.hid (by rw [HNX.out, hK.out, HKB.out]; rfl)⟩
            case measure => simp [intOf]; omega
        · obtain rfl : m = ws.length := by omega
          have HK : Hid (kindsB ws = true) := Lib.hid (by have h4 := hK.out; rwa [List.take_length] at h4)
          clear hK
          go_wp2_with (go_at_call 59; refine (refDifs_any s _ _ _ HA.out HV.out).mono ?_; rintro e w2 ⟨A2, c2, zs, rfl, hO, hB2, hz⟩)
          have HO := Lib.hid hO
          have HZL : Hid (zs.length = s.length) := Lib.hid (by rw [hz.out, HDL.out])
          have hz1 : 1 ≤ zs.length := by rw [HZL.out]; omega
          have hz2 : zs.length ≤ 40 := by rw [HZL.out]; omega
          have hzw : zs.length ≤ ws.length := by rw [HZL.out, HLN.out]; exact Nat.le_refl _
          obtain ⟨bz, oz, ez, hbz, hcz⟩ := hO.ints.open_ (by omega)
          subst ez
          have HCZ := Lib.hid hcz
          have HCW := Lib.hid (fun (k : Nat) (z : Int) (hk : ws[k]? = some z) => (hB2.cell (p := ⟨bm, of2 + k, none⟩) hbm).trans (HC2.out k z hk))
          clear hO hcz
          go_loop [11, 12, 40] (fun _ _ i => ∃ m : Nat, m ≤ zs.length ∧ i = .int .i64 m ∧ Hid (((zs.zip (ksL ws)).take m).all canP = true)) (fun _ _ i => zs.length - (intOf i).toNat)
          case atStart => exact ⟨0, Nat.zero_le _, rfl, Lib.hid rfl⟩
          case round =>
            obtain ⟨m, hm, rfl, hK⟩ := hrel
            by_cases hlt : m < zs.length
            · obtain ⟨d, hd⟩ := getElem?_of_lt hlt
              obtain ⟨x, hx⟩ := getElem?_of_lt (show m < ws.length by omega)
              have f0 := HCZ.out m d hd
              have f1 := HCW.out m x hx
              have hkx := kind_of (x := x) (by have h4 := HK.out; rw [kindsB, List.all_eq_true] at h4; exact h4 x (List.mem_of_getElem? hx))
              have hzip := zip_at hd (ksL_at hx)
              have hcall := refcan_any (kOf x) d
              rw [hkx.2.1] at hcall
              cases hcn : canB (wdN (kOf x)) d with
              | false =>
                have HPL := Lib.hid (pl_can HV.out HLN.out HK.out (by rw [cansB, ← hz.out, all_not hzip (show canP (d, kOf x) = false from hcn)]))
                rw [hcn] at hcall
                clear hd hx hkx hzip hcn
                go_wp2_with (go_at_call 81; refine (hcall _).mono ?_; rintro e w1 ⟨rfl, rfl⟩)
                go_ret2
                exact ⟨⟨#[]⟩, 5, rfl, hB2, by rw [HPL.out.2], HPL.out.1.symm⟩
              | true =>
                have HNX := Lib.hid (all_snoc (p := canP) hzip)
                have HKB : Hid (canP (d, kOf x) = true) := Lib.hid hcn
                rw [hcn] at hcall
                clear hd hx hkx hzip hcn
                go_wp2_with (go_at_call 81; refine (hcall _).mono ?_; rintro e w1 ⟨rfl, rfl⟩)
                go_round
                case rel => exact ⟨m + 1, by omega, by go_num, Lib.hid (by rw [HNX.out, hK.out, HKB.out]; rfl)⟩
                case measure => simp [intOf]; omega
            · obtain rfl : m = zs.length := by omega
              have HKL : Hid ((ksL ws).length = zs.length) := Lib.hid (by rw [ksL, List.length_map, HLN.out, HZL.out])
              have HC : Hid (cansB zs (ksL ws) = true) := Lib.hid (by have h4 := hK.out; rwa [List.take_of_length_le (by rw [List.length_zip, HKL.out, Nat.min_self]; exact Nat.le_refl _)] at h4)
              have hplan := refplan_any zs (ksL ws) _ _ c2 e0 _ HO.out.ints (by rw [wdL_ks HK.out]; exact HB.out.below hB2) HKL.out (by omega) (by omega) (ks_lt HK.out) (cans_at HC.out)
              rw [show zs.length = ws.length by rw [HZL.out, HLN.out]] at hplan ⊢
              have HPN := Lib.hid hplan
              have HPE : Hid (planG 2 (zs.zip (ksL ws)) = planL s ws) := Lib.hid (by rw [planL, hz.out])
              have HCD : Hid (cansB (difL s) (ksL ws) = true) := Lib.hid (by rw [← hz.out]; exact HC.out)
              clear hplan hK
              by_cases hlong : 1000 < (planL s ws).length
              · have HPL := Lib.hid (pl_long HV.out HLN.out HK.out HCD.out hlong)
                have HLG := Lib.hid hlong
                clear hlong
                go_wp2_with (go_at_call 77; refine HPN.out.mono ?_; rintro e w3 ⟨q, rfl, hq, hB3, hQ⟩; have v1 : decide (1000 < (q.size : Int)) = true := decide_eq_true (by have h5 := HLG.out; rw [hQ.out, HPE.out, sv_size]; omega); have v2 : decide (1000 < q.size) = true := decide_eq_true (by have h5 := HLG.out; rw [hQ.out, HPE.out, sv_size]; omega))
                go_ret2
                exact ⟨⟨#[]⟩, 4, rfl, below_step hB2 hB3, by rw [HPL.out.2], HPL.out.1.symm⟩
              · have HPL := Lib.hid (pl_ok HV.out HLN.out HK.out HCD.out hlong)
                have HLG := Lib.hid hlong
                clear hlong
                go_wp2_with (go_at_call 77; refine HPN.out.mono ?_; rintro e w3 ⟨q, rfl, hq, hB3, hQ⟩; have v1 : decide (1000 < (q.size : Int)) = false := decide_eq_false (by have h5 := HLG.out; rw [hQ.out, HPE.out, sv_size]; omega); have v2 : decide (1000 < q.size) = false := decide_eq_false (by have h5 := HLG.out; rw [hQ.out, HPE.out, sv_size]; omega))
                go_ret2
                exact ⟨q, 0, rfl, below_step hB2 hB3, by rw [HPL.out.2, ← HPE.out]; exact hQ.out, HPL.out.1.symm⟩
    · have u0 : ((ws.length : Int) != (s.length : Int)) = true := by simp; omega
      have HPL := Lib.hid (pl_len hv hlen)
      clear hv hlen
      go_enter Tryd.func50, Tryd.ntmps50
      go_wp2_with (go_at_call 25; refine (refValid_any s _ _ _ HA.out hl).mono ?_; rintro e w1 ⟨rfl, rfl⟩; rw [HV.out])
      go_ret2
      exact ⟨⟨#[]⟩, 2, rfl, Below.refl _ _, by rw [HPL.out.2], HPL.out.1.symm⟩
end Go.Proofs.YtcmnjmhedmneiaaDoor
