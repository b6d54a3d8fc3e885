/-
  Plain words for what is read of a text and planned again; contracts with their values put in.
-/
import Derived.Test.YtcmnjmhedmneiaaDoorBackM
namespace Go.Proofs.YtcmnjmhedmneiaaDoor
open Go.RowKit Go.Shelf

theorem zip_fs : ∀ ps : List (Int × Nat), (ps.map Prod.fst).zip (ps.map Prod.snd) = ps
  | [] => rfl
  | p :: t => by rw [List.map_cons, List.map_cons, List.zip_cons_cons, zip_fs t]
theorem kOf_wd {k : Nat} (h : k < 5) : kOf (wdN k) = k := by rw [kOf, ks_wd h]; rfl
theorem kind_wd {k : Nat} (h : k < 5) : kindB (wdN k) = true := by rw [kindB, ks_wd h]; rfl
theorem ksL_wd {ks : List Nat} (h : ∀ k ∈ ks, k < 5) : ksL (wdL ks) = ks := by
  induction ks with
  | nil => rfl
  | cons k t ih =>
    show kOf (wdN k) :: ksL (wdL t) = k :: t
    rw [kOf_wd (h k (by simp)), ih (fun x hx => h x (by simp [hx]))]
theorem kinds_wd {ks : List Nat} (h : ∀ k ∈ ks, k < 5) : kindsB (wdL ks) = true := by
  rw [kindsB, List.all_eq_true]
  intro x hx
  obtain ⟨k, hk, rfl⟩ := List.mem_map.1 hx
  exact kind_wd (h k hk)
theorem fits_lt {ps : List (Int × Nat)} (h : Fits ps) : ∀ k ∈ ps.map Prod.snd, k < 5 := fun k hk => by
  obtain ⟨p, hp, rfl⟩ := List.mem_map.1 hk
  exact (h p hp).1
theorem wdL_len (ks : List Nat) : (wdL ks).length = ks.length := by simp [wdL]
/-- A plan of what fits is the plan. -/
theorem pl_fits {s : List Int} {ps : List (Int × Nat)} (hv : vwB s = true) (hf : Fits ps) (hd : ps.map Prod.fst = difL s) (hl : (planG 2 ps).length ≤ 1000) :
    plE s (wdL (ps.map Prod.snd)) = 0 ∧ plT s (wdL (ps.map Prod.snd)) = planG 2 ps ∧ (wdL (ps.map Prod.snd)).length = s.length := by
  have hlen : (wdL (ps.map Prod.snd)).length = s.length := by
    rw [wdL_len, List.length_map, ← show (difL s).length = s.length from difG_len 0 s, ← hd, List.length_map]
  have hz : (difL s).zip (ksL (wdL (ps.map Prod.snd))) = ps := by rw [ksL_wd (fits_lt hf), ← hd, zip_fs]
  have hp : planL s (wdL (ps.map Prod.snd)) = planG 2 ps := by rw [planL, hz]
  obtain ⟨a, b⟩ := pl_ok hv hlen (kinds_wd (fits_lt hf)) (by rw [cansB, hz, List.all_eq_true]; exact fun p hp => (hf p hp).2) (by rw [hp]; omega)
  exact ⟨a, by rw [b, hp], hlen⟩
/-- Whatever is planned is a plan of what fits. -/
theorem pl_zero {s ws : List Int} (h : plE s ws = 0) : ∃ ps, vwB s = true ∧ Fits ps ∧ ps.map Prod.fst = difL s ∧ wdL (ps.map Prod.snd) = ws ∧ plT s ws = planG 2 ps ∧ (planG 2 ps).length ≤ 1000 := by
  unfold plE at h
  cases hv : vwB s with
  | false => rw [hv] at h; simp at h
  | true =>
    by_cases hl : ws.length = s.length
    · cases hk : kindsB ws with
      | false => rw [hv, hk] at h; simp [hl] at h
      | true =>
        cases hc : cansB (difL s) (ksL ws) with
        | false => rw [hv, hk, hc] at h; simp [hl] at h
        | true =>
          by_cases hb : 1000 < (planL s ws).length
          · rw [hv, hk, hc] at h; simp [hl, hb] at h
          · have hll : (difL s).length = (ksL ws).length := by rw [show (difL s).length = s.length from difG_len 0 s, ksL, List.length_map, hl]
            refine ⟨(difL s).zip (ksL ws), rfl, ?_, List.map_fst_zip (by omega), ?_, (pl_ok hv hl hk hc hb).2, by show (planL s ws).length ≤ 1000; omega⟩
            · intro p hp
              have := hc
              rw [cansB, List.all_eq_true] at this
              exact ⟨zip_lt (ks_lt hk) p hp, this p hp⟩
            · rw [List.map_snd_zip (by omega), wdL_ks hk]
    · rw [hv] at h; simp [hl] at h
theorem pl_cases (s ws : List Int) : plE s ws = 0 ∨ plE s ws = 2 ∨ plE s ws = 5 ∨ plE s ws = 4 ∨ vwB s = false := by
  unfold plE
  cases hv : vwB s with
  | false => exact .inr (.inr (.inr (.inr rfl)))
  | true =>
    rw [if_pos rfl]
    by_cases hl : ws.length = s.length
    · rw [if_pos hl]
      cases kindsB ws with
      | false => exact .inr (.inl rfl)
      | true =>
        rw [if_pos rfl]
        cases cansB (difL s) (ksL ws) with
        | false => exact .inr (.inr (.inl rfl))
        | true =>
          rw [if_pos rfl]
          by_cases hb : 1000 < (planL s ws).length
          · rw [if_pos hb]; exact .inr (.inr (.inr (.inl rfl)))
          · rw [if_neg hb]; exact .inl rfl
    · rw [if_neg hl]; exact .inr (.inl rfl)
theorem pl_far {s ws : List Int} (h : plE s ws ≠ 0) : plT s ws = [] := by rw [plT, if_neg h]

/-- All that holds of a text that is read. -/
theorem rd_all {t : ByteArray} {x : List (Int × Nat) × Nat} (hv : vbB t = true) (hr : rdT t = some x) (hs : vwB (sumL (dsO x)) = true) :
    Fits x.1 ∧ dsO x = difL (sumL (dsO x)) ∧ (planG 2 x.1).length ≤ t.size ∧ chgN 2 x.1 ≤ x.2 ∧ ((planG 2 x.1).length < t.size ∨ t = ⟨(planG 2 x.1).toArray⟩) ∧ LeT (encT (sumL (dsO x))) (planG 2 x.1) ∧ LeT (encT (sumL (dsO x))) t.data.toList := by
  have hb := (vb_parts hv).2
  obtain ⟨h1, h2, h3⟩ := rd_reads _ 2 t.data.toList (Nat.lt_succ_self _) (by omega) hb x.1 x.2 hr
  have hl : t.data.toList.length = t.size := by simp
  have he : encT (sumL (dsO x)) = encL (x.1.map Prod.fst) 2 := by rw [(enc_ok hs).2, dif_sum]; rfl
  have hle : LeT (encT (sumL (dsO x))) (planG 2 x.1) := by rw [he]; exact enc_least x.1 (fit_bd h1) h1 2
  refine ⟨h1, (dif_sum _).symm, ?_, h2, ?_, hle, ?_⟩
  · rcases h3 with ⟨h3, _⟩ | h3
    · rw [← h3, hl]; exact Nat.le_refl _
    · omega
  · rcases h3 with ⟨h3, _⟩ | h3
    · right
      rw [← h3]
    · left; omega
  · rw [he]; exact text_least hb (show rdL 2 t.data.toList = some (x.1, x.2) from hr) (fit_bd h1)

theorem plan_eq {s ws : List Int} {A B : Option Addr} {c d : Nat} {w : World} (hA : Ints w A s) (hB : Ints w B ws) (hl : s.length ≤ maxLen) (hlw : ws.length ≤ maxLen) (hW : Wids w) {E : Int} (he : plE s ws = E) :
    Calls Tryd.prog 49 #[.slice A s.length c, .slice B ws.length d] w fun e w' => ∃ q : ByteArray, e = .returned (.tuple #[.string q, .int .i64 E]) ∧ Below w.heap.size w w' ∧ Hid (q = ⟨(plT s ws).toArray⟩) := by
  refine (wavePlan_any s ws A B c d w hA hB hl hlw hW).mono ?_
  rintro e w' ⟨q, F, rfl, hB, hF⟩
  obtain rfl := hF.out.2.trans he
  exact ⟨q, rfl, hB, Lib.hid hF.out.1⟩
end Go.Proofs.YtcmnjmhedmneiaaDoor
