/-
  Plain words: no text of differences is better than the best one; nothing of the program.
-/
import Derived.Test.YtcmnjmhedmneiaaDoorReadM
import Derived.Test.YtcmnjmhedmneiaaDoorBound
namespace Go.Proofs.YtcmnjmhedmneiaaDoor
open Go.RowKit

theorem bl_irr : ∀ a : List UInt8, Op.bytesLess a a = false
  | [] => rfl
  | a :: t => by rw [Op.bytesLess, bl_irr t]; simp
theorem bl_trans : ∀ a b c : List UInt8, Op.bytesLess a b = true → Op.bytesLess b c = true → Op.bytesLess a c = true
  | _, [], _, h, _ => by simp [Op.bytesLess] at h
  | _, _ :: _, [], _, h => by simp [Op.bytesLess] at h
  | [], _ :: _, _ :: _, _, _ => rfl
  | a :: x, b :: y, c :: z, h, k => by
    simp only [Op.bytesLess, Bool.or_eq_true, Bool.and_eq_true, decide_eq_true_eq, beq_iff_eq] at h k ⊢
    rcases h with h | ⟨h, h2⟩
    · rcases k with k | ⟨k, _⟩
      · exact .inl (UInt8.lt_trans h k)
      · subst k; exact .inl h
    · subst h
      rcases k with k | ⟨k, k2⟩
      · exact .inl k
      · exact .inr ⟨k, bl_trans x y z h2 k2⟩
theorem bl_tri : ∀ a b : List UInt8, Op.bytesLess a b = true ∨ a = b ∨ Op.bytesLess b a = true
  | [], [] => .inr (.inl rfl)
  | [], _ :: _ => .inl rfl
  | _ :: _, [] => .inr (.inr rfl)
  | a :: x, b :: y => by
    simp only [Op.bytesLess, Bool.or_eq_true, Bool.and_eq_true, decide_eq_true_eq, beq_iff_eq]
    rcases Nat.lt_trichotomy a.toNat b.toNat with h | h | h
    · exact .inl (.inl (UInt8.lt_iff_toNat_lt.2 h))
    · obtain rfl := UInt8.toNat_inj.1 h
      rcases bl_tri x y with k | k | k
      · exact .inl (.inr ⟨rfl, k⟩)
      · exact .inr (.inl (by rw [k]))
      · exact .inr (.inr (.inr ⟨rfl, k⟩))
    · exact .inr (.inr (.inl (UInt8.lt_iff_toNat_lt.2 h)))
theorem bl_app : ∀ p a b : List UInt8, Op.bytesLess (p ++ a) (p ++ b) = Op.bytesLess a b
  | [], _, _ => rfl
  | c :: p, a, b => by
    rw [List.cons_append, List.cons_append, Op.bytesLess, bl_app p a b]
    simp
theorem bt_iff {a b : List UInt8} : betterB a b = true ↔ a.length < b.length ∨ (a.length = b.length ∧ Op.bytesLess a b = true) := by
  simp [betterB]
theorem bt_trans {a b c : List UInt8} (h : betterB a b = true) (k : betterB b c = true) : betterB a c = true := by
  rw [bt_iff] at h k ⊢
  rcases h with h | ⟨h, h2⟩
  · rcases k with k | ⟨k, _⟩ <;> exact .inl (by omega)
  · rcases k with k | ⟨k, k2⟩
    · exact .inl (by omega)
    · exact .inr ⟨by omega, bl_trans a b c h2 k2⟩
theorem bt_irr (a : List UInt8) : betterB a a = false := by simp [betterB, bl_irr]
theorem bt_tri (a b : List UInt8) : betterB a b = true ∨ a = b ∨ betterB b a = true := by
  rw [bt_iff, bt_iff]
  rcases Nat.lt_trichotomy a.length b.length with h | h | h
  · exact .inl (.inl h)
  · rcases bl_tri a b with k | k | k
    · exact .inl (.inr ⟨h, k⟩)
    · exact .inr (.inl k)
    · exact .inr (.inr (.inr ⟨h.symm, k⟩))
  · exact .inr (.inr (.inl h))
theorem bt_app (p a b : List UInt8) : betterB (p ++ a) (p ++ b) = betterB a b := by
  rw [Bool.eq_iff_iff, bt_iff, bt_iff, bl_app]
  simp only [List.length_append]
  constructor
  · rintro (h | ⟨h, k⟩)
    · exact .inl (by omega)
    · exact .inr ⟨by omega, k⟩
  · rintro (h | ⟨h, k⟩)
    · exact .inl (by omega)
    · exact .inr ⟨by omega, k⟩
/-- A text is as good as another one, or better. -/
def LeT (a b : List UInt8) : Prop := betterB b a = false
theorem LeT.refl (a : List UInt8) : LeT a a := bt_irr a
theorem LeT.of {a b : List UInt8} (h : betterB a b = true) : LeT a b := by
  unfold LeT
  cases hb : betterB b a with
  | false => rfl
  | true => have := bt_trans h hb; rw [bt_irr] at this; cases this
theorem LeT.trans {a b c : List UInt8} (h : LeT a b) (k : LeT b c) : LeT a c := by
  unfold LeT at h k ⊢
  cases hc : betterB c a with
  | false => rfl
  | true =>
    rcases bt_tri a b with h1 | h1 | h1
    · have := bt_trans hc h1; rw [k] at this; cases this
    · subst h1; rw [hc] at k; cases k
    · rw [h] at h1; cases h1
theorem LeT.len {a b : List UInt8} (h : LeT a b) : a.length ≤ b.length := by
  unfold LeT at h
  rcases Nat.lt_or_ge b.length a.length with h1 | h1
  · rw [bt_iff.2 (.inl h1)] at h; cases h
  · exact h1
theorem LeT.less {a b : List UInt8} (h : LeT a b) (h2 : b.length = a.length) : Op.bytesLess b a = false := by
  unfold LeT at h
  cases hb : Op.bytesLess b a with
  | false => rfl
  | true => rw [bt_iff.2 (.inr ⟨h2, hb⟩)] at h; cases h
theorem LeT.app {a b : List UInt8} (p : List UInt8) (h : LeT a b) : LeT (p ++ a) (p ++ b) := by unfold LeT at h ⊢; rw [bt_app]; exact h
theorem LeT.short {a b : List UInt8} (h : a.length < b.length) : LeT a b := .of (bt_iff.2 (.inl h))

theorem best_spec (d : Int) (bh : Nat → List UInt8) (a : Nat) : ∀ k, k ≤ 5 →
    (bestK d bh a k = [] ∧ ∀ j, j < k → canB (wdN j) d = false) ∨
    (∃ j, j < k ∧ canB (wdN j) d = true ∧ bestK d bh a k = viaL d bh a j ∧ ∀ i, i < k → canB (wdN i) d = true → LeT (bestK d bh a k) (viaL d bh a i)) := by
  intro k
  induction k with
  | zero => intro _; exact .inl ⟨rfl, fun j hj => absurd hj (by omega)⟩
  | succ k ih =>
    intro hk
    have h := ih (by omega)
    rw [best_succ, bestS]
    cases hc : canB (wdN k) d with
    | false =>
      rw [if_neg (by simp)]
      rcases h with ⟨h1, h2⟩ | ⟨j, h1, h2, h3, h4⟩
      · refine .inl ⟨h1, fun j hj => ?_⟩
        rcases Nat.lt_succ_iff_lt_or_eq.1 hj with h | h
        · exact h2 j h
        · rw [h]; exact hc
      · refine .inr ⟨j, by omega, h2, h3, fun i hi hci => ?_⟩
        rcases Nat.lt_succ_iff_lt_or_eq.1 hi with h | h
        · exact h4 i h hci
        · rw [h, hc] at hci; cases hci
    | true =>
      rw [if_pos rfl]
      by_cases h0 : bestK d bh a k = [] ∨ betterB (viaL d bh a k) (bestK d bh a k) = true
      · rw [if_pos h0]
        refine .inr ⟨k, by omega, hc, rfl, fun i hi hci => ?_⟩
        rcases Nat.lt_succ_iff_lt_or_eq.1 hi with h5 | h5
        · rcases h with ⟨_, h2⟩ | ⟨j, h1, h2, h3, h4⟩
          · rw [h2 i h5] at hci; cases hci
          · rcases h0 with h0 | h0
            · have : viaL d bh a j = [] := by rw [← h3]; exact h0
              have hl := congrArg List.length this
              have := wd_bd j
              simp [viaL, word_len] at hl
              omega
            · exact (LeT.of h0).trans (h4 i h5 hci)
        · rw [h5]; exact LeT.refl _
      · rw [if_neg h0]
        have h01 : bestK d bh a k ≠ [] := fun e => h0 (.inl e)
        have h02 : LeT (bestK d bh a k) (viaL d bh a k) := by
          unfold LeT
          cases hb : betterB (viaL d bh a k) (bestK d bh a k) with
          | false => rfl
          | true => exact absurd (.inr hb) h0
        rcases h with ⟨h1, _⟩ | ⟨j, h1, h2, h3, h4⟩
        · exact absurd h1 h01
        · refine .inr ⟨j, by omega, h2, h3, fun i hi hci => ?_⟩
          rcases Nat.lt_succ_iff_lt_or_eq.1 hi with h | h
          · exact h4 i h hci
          · rw [h]; exact h02
theorem front_spec {d : Int} (bh : Nat → List UInt8) (a : Nat) (hd : -1023 ≤ d ∧ d ≤ 1023) :
    ∃ j, j < 5 ∧ canB (wdN j) d = true ∧ frontL d bh a = viaL d bh a j ∧ ∀ i, i < 5 → canB (wdN i) d = true → LeT (frontL d bh a) (viaL d bh a i) := by
  rcases best_spec d bh a 5 (Nat.le_refl _) with ⟨_, h2⟩ | h
  · have := h2 4 (by omega); rw [can_four hd] at this; cases this
  · exact h
theorem enc_plan : ∀ (ds : List Int), (∀ d ∈ ds, -1023 ≤ d ∧ d ≤ 1023) → ∀ a, a < 5 → ∃ ps : List (Int × Nat), ps.map Prod.fst = ds ∧ Fits ps ∧ encL ds a = planG a ps
  | [], _, _, _ => ⟨[], rfl, fun p hp => by simp at hp, rfl⟩
  | d :: t, h, a, _ => by
    obtain ⟨j, hj, hc, he, _⟩ := front_spec (encL t) a (h d (by simp))
    obtain ⟨ps, h1, h2, h3⟩ := enc_plan t (fun x hx => h x (by simp [hx])) j hj
    refine ⟨(d, j) :: ps, by simp [h1], fun p hp => ?_, ?_⟩
    · rw [List.mem_cons] at hp
      rcases hp with rfl | hp
      · exact ⟨hj, hc⟩
      · exact h2 p hp
    · rw [enc_cons, he, viaL, planG, h3]
theorem enc_least : ∀ (ps : List (Int × Nat)), (∀ p ∈ ps, -1023 ≤ p.1 ∧ p.1 ≤ 1023) → Fits ps → ∀ a, LeT (encL (ps.map Prod.fst) a) (planG a ps)
  | [], _, _, _ => LeT.refl _
  | p :: t, h, hf, a => by
    obtain ⟨j, hj, hc, he, hle⟩ := front_spec (encL (t.map Prod.fst)) a (h p (by simp))
    have hp := hf p (by simp)
    rw [List.map_cons, enc_cons, planG]
    refine (hle p.2 hp.1 hp.2).trans ?_
    rw [viaL]
    exact LeT.app _ (enc_least t (fun x hx => h x (by simp [hx])) (fun x hx => hf x (by simp [hx])) p.2)
/-- No text that is read as some differences is better than the best one. -/
theorem text_least {t : List UInt8} {ps : List (Int × Nat)} {c : Nat} (hb : t.all bitB = true) (h : rdL 2 t = some (ps, c)) (hd : ∀ p ∈ ps, -1023 ≤ p.1 ∧ p.1 ≤ 1023) : LeT (encL (ps.map Prod.fst) 2) t := by
  obtain ⟨h1, _, h3⟩ := rd_reads _ 2 t (Nat.lt_succ_self _) (by omega) hb ps c h
  refine (enc_least ps hd h1 2).trans ?_
  rcases h3 with ⟨h3, _⟩ | h3
  · rw [← h3]; exact LeT.refl _
  · exact LeT.short h3
theorem enc_read {ds : List Int} (h : ∀ d ∈ ds, -1023 ≤ d ∧ d ≤ 1023) : ∃ ps : List (Int × Nat), ps.map Prod.fst = ds ∧ Fits ps ∧ encL ds 2 = planG 2 ps ∧ rdL 2 (encL ds 2) = some (ps, chgN 2 ps) := by
  obtain ⟨ps, h1, h2, h3⟩ := enc_plan ds h 2 (by omega)
  exact ⟨ps, h1, h2, h3, by rw [h3, rd_plan ps 2 (by omega) h2]⟩
theorem plan_bits : ∀ (ps : List (Int × Nat)) (a : Nat), (planG a ps).all bitB = true
  | [], _ => rfl
  | p :: t, a => by
    have h1 : ∀ a i, (upsL a i).all bitB = true := fun a i => by
      rw [List.all_eq_true]; intro b hb
      simp only [upsL, signL, List.mem_flatMap, List.mem_append, List.mem_cons, List.mem_replicate, List.not_mem_nil, or_false] at hb
      obtain ⟨_, _, (rfl | ⟨_, rfl⟩) | rfl⟩ := hb <;> rfl
    have h2 : ∀ a i, (dnsL a i).all bitB = true := fun a i => by
      rw [List.all_eq_true]; intro b hb
      simp only [dnsL, signL, List.mem_flatMap, List.mem_append, List.mem_cons, List.mem_replicate, List.not_mem_nil, or_false] at hb
      obtain ⟨_, _, (rfl | ⟨_, rfl⟩) | rfl⟩ := hb <;> rfl
    rw [planG, List.all_append, List.all_append, changeL, List.all_append, h1, h2, word_bits, plan_bits t p.2]; rfl

/-! ### bounds of lengths -/
theorem least_first {p : Nat → Bool} {k j : Nat} (h : leastK p = some k) (hj : j < 5) (hp : p j = true) : k ≤ j := by
  rcases Nat.lt_or_ge j k with h1 | h1
  · rw [leastK, List.find?_eq_some_iff_append] at h
    obtain ⟨_, us, bs, he, ha⟩ := h
    have hlen : us.length = k := by
      have := congrArg (fun l => l[us.length]?) he
      simp at this
      rw [List.getElem?_range] at this
      · simpa using this
      · have h6 := congrArg List.length he
        simp at h6
        omega
    have hm : j ∈ us := by
      have h7 : (List.range 5)[j]? = some j := List.getElem?_range hj
      rw [he, List.getElem?_append_left (by omega)] at h7
      exact List.mem_of_getElem? h7
    have := ha j hm
    rw [hp] at this
    cases this
  · exact h1
theorem wd_mono : ∀ i, i < 5 → ∀ j, j < 5 → i ≤ j → wdN i ≤ wdN j := by decide
theorem min_le {d : Int} {k : Nat} (hd : -1023 ≤ d ∧ d ≤ 1023) (hk : k < 5) (h : canB (wdN k) d = true) : minW d ≤ wdN k := by
  obtain ⟨j, h1, h2, _⟩ := min_some hd
  have := wd_mono j h2 k hk (least_first h1 hk h)
  rw [minW, h1]
  simpa using this
theorem bnd_plan : ∀ (ps : List (Int × Nat)) (a : Nat), (∀ p ∈ ps, -1023 ≤ p.1 ∧ p.1 ≤ 1023) → Fits ps → bndI (ps.map Prod.fst) ≤ (planG a ps).length
  | [], _, _, _ => by simp [bndI, planG]
  | p :: t, a, h, hf => by
    have h1 := bnd_plan t p.2 (fun x hx => h x (by simp [hx])) (fun x hx => hf x (by simp [hx]))
    have hp := hf p (by simp)
    have h2 := min_le (h p (by simp)) hp.1 hp.2
    simp only [bndI, List.map_cons, List.sum_cons, planG, List.length_append, word_len] at h1 ⊢
    omega
def wideP (ds : List Int) : List (Int × Nat) := ds.zip (List.replicate ds.length 4)
theorem wideP_cons (d : Int) (t : List Int) : wideP (d :: t) = (d, 4) :: wideP t := rfl
theorem wide_fst : ∀ ds : List Int, (wideP ds).map Prod.fst = ds
  | [] => rfl
  | d :: t => by rw [wideP_cons, List.map_cons, wide_fst t]
theorem wide_fits : ∀ ds : List Int, (∀ d ∈ ds, -1023 ≤ d ∧ d ≤ 1023) → Fits (wideP ds)
  | [], _ => fun p hp => by simp [wideP] at hp
  | d :: t, h => fun p hp => by
    rw [wideP_cons, List.mem_cons] at hp
    rcases hp with rfl | hp
    · exact ⟨by show 4 < 5; omega, can_four (h d (by simp))⟩
    · exact wide_fits t (fun x hx => h x (by simp [hx])) p hp
theorem wide_four : ∀ ds : List Int, (planG 4 (wideP ds)).length = 11 * ds.length
  | [] => rfl
  | d :: t => by
    rw [wideP_cons]
    simp only [planG, List.length_append, word_len, chg_self, List.length_cons, List.length_nil, wide_four t, wdN]
    omega
theorem wide_plan (ds : List Int) : (planG 2 (wideP ds)).length ≤ 11 * ds.length + 11 := by
  cases ds with
  | nil => simp [wideP, planG]
  | cons d t =>
    rw [wideP_cons]
    simp only [planG, List.length_append, word_len, List.length_cons, wide_four t, wdN]
    have : (changeL 2 4).length = 11 := by decide +kernel
    omega
theorem enc_wide {ds : List Int} (h : ∀ d ∈ ds, -1023 ≤ d ∧ d ≤ 1023) : LeT (encL ds 2) (planG 2 (wideP ds)) := by
  have := enc_least (wideP ds) (fun p hp => h p.1 (by rw [← wide_fst ds]; exact List.mem_map_of_mem hp)) (wide_fits ds h) 2
  rwa [wide_fst] at this
theorem enc_451 {ds : List Int} (h : ∀ d ∈ ds, -1023 ≤ d ∧ d ≤ 1023) (hl : ds.length ≤ 40) : (encL ds 2).length ≤ 451 := by
  have h1 := (enc_wide h).len
  have h2 := wide_plan ds
  omega
theorem bnd_enc {ds : List Int} (h : ∀ d ∈ ds, -1023 ≤ d ∧ d ≤ 1023) : bndI ds ≤ (encL ds 2).length := by
  obtain ⟨ps, h1, h2, h3⟩ := enc_plan ds h 2 (by omega)
  have := bnd_plan ps 2 (fun p hp => h p.1 (by rw [← h1]; exact List.mem_map_of_mem hp)) h2
  rw [h1] at this
  rw [h3]; exact this
end Go.Proofs.YtcmnjmhedmneiaaDoor
