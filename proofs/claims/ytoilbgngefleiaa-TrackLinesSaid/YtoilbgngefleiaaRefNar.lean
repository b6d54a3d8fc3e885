/-
  Contracts: narrowest, Narrowest (firnref05).
-/
import Derived.Test.YtoilbgngefleiaaRefWits
import Derived.Test.YtoilbgngefleiaaLeastM
namespace Go.Proofs.Ytoilbgngefleiaa
open Go.RowKit Go.Shelf
set_option linter.unusedVariables false
set_option linter.unusedSimpArgs false

/-- What the reference keeps of the witnesses it has seen. -/
def NwI (ms : List (Int × Int)) (L : List (List Int)) (b : Int × Int) (f : Option (List Int)) : Prop :=
  (L = [] ∧ b = (0, 1) ∧ f = none) ∨ ∃ pre l post, L = pre ++ l :: post ∧ f = some l ∧ b = tlV ms l ∧ (∀ x ∈ pre, (tlV ms x).1 * b.2 < b.1 * (tlV ms x).2) ∧ ∀ x ∈ post, ¬ b.1 * (tlV ms x).2 < (tlV ms x).1 * b.2
def slV : Option (List Int) → Nat → Value
  | none, _ => .slice none 0 0
  | some l, g => .slice (some ⟨g, 0, none⟩) l.length l.length
theorem nw_first {ms : List (Int × Int)} (l : List Int) : NwI ms ([] ++ [l]) (tlV ms l) (some l) := .inr ⟨[], l, [], rfl, rfl, rfl, by simp, by simp⟩
theorem lt_trans3 {a b c : Int × Int} (ha : 0 < a.2) (hb : 0 < b.2) (hc : 0 < c.2) (h1 : ¬ b.1 * a.2 < a.1 * b.2) (h2 : b.1 * c.2 < c.1 * b.2) : a.1 * c.2 < c.1 * a.2 := by
  have k1 := Int.mul_le_mul_of_nonneg_right (Int.not_lt.1 h1) (Int.le_of_lt hc)
  have k2 := Int.mul_lt_mul_of_pos_right h2 ha
  refine Int.lt_of_mul_lt_mul_right (a := b.2) ?_ (Int.le_of_lt hb)
  grind
theorem tl_small {ms : List (Int × Int)} (hpt : ∀ q ∈ ms, ptB q = true) {l : List Int} (hw : wiB ms l = true) : (0 ≤ (tlV ms l).1 ∧ (tlV ms l).1 ≤ 800000) ∧ (1 ≤ (tlV ms l).2 ∧ (tlV ms l).2 ≤ 400) := by
  rw [wiB, Bool.and_eq_true] at hw
  obtain ⟨h1, h2⟩ := hw
  by_cases l2 : l.length = 2
  · obtain ⟨x, y, rfl⟩ := len_two l2
    obtain ⟨i, rfl, hi⟩ := inL_mem h1 (show x ∈ [x, y] by simp)
    obtain ⟨j, rfl, hj⟩ := inL_mem h1 (show y ∈ [(i : Int), y] by simp)
    show (0 ≤ (tl2 ms (i : Int).toNat (j : Int).toNat).1 ∧ (tl2 ms (i : Int).toNat (j : Int).toNat).1 ≤ 800000) ∧ (1 ≤ (tl2 ms (i : Int).toNat (j : Int).toNat).2 ∧ (tl2 ms (i : Int).toNat (j : Int).toNat).2 ≤ 400)
    rw [Int.toNat_natCast, Int.toNat_natCast]
    have b1 := pt_parts (hpt _ (ptN_mem hi))
    have b2 := pt_parts (hpt _ (ptN_mem hj))
    unfold tl2
    obtain ⟨s, hs⟩ : ∃ s, absI ((ptN ms i).2 - (ptN ms j).2) = s := ⟨_, rfl⟩
    have hsb : 0 ≤ s ∧ s ≤ 2000 := by rw [← hs]; unfold absI; omega
    rw [hs]
    have k1 := lowD_bd (n := s) (d := 2) (by omega)
    have k2 := lowN_abs (n := s) (d := 2) (M := 2000) (by omega) (by omega) hsb.2
    have k3 : 0 ≤ lowN s 2 := Int.ediv_nonneg hsb.1 (Int.natCast_nonneg _)
    exact ⟨⟨k3, by dsimp only; omega⟩, k1.1, by dsimp only; omega⟩
  · by_cases l3 : l.length = 3
    · obtain ⟨x, y, z, rfl⟩ := len_three l3
      obtain ⟨i, rfl, hi⟩ := inL_mem h1 (show x ∈ [x, y, z] by simp)
      obtain ⟨j, rfl, hj⟩ := inL_mem h1 (show y ∈ [(i : Int), y, z] by simp)
      obtain ⟨k, rfl, hk⟩ := inL_mem h1 (show z ∈ [(i : Int), (j : Int), z] by simp)
      simp only [wiS, Bool.and_eq_true, decide_eq_true_eq, ptK_N] at h2
      show (0 ≤ (tl3 ms (i : Int).toNat (j : Int).toNat (k : Int).toNat).1 ∧ (tl3 ms (i : Int).toNat (j : Int).toNat (k : Int).toNat).1 ≤ 800000) ∧ (1 ≤ (tl3 ms (i : Int).toNat (j : Int).toNat (k : Int).toNat).2 ∧ (tl3 ms (i : Int).toNat (j : Int).toNat (k : Int).toNat).2 ≤ 400)
      rw [Int.toNat_natCast, Int.toNat_natCast, Int.toNat_natCast]
      have hb := th_bd (hpt _ (ptN_mem hi)) (hpt _ (ptN_mem hk)) (show (ptN ms i).1 ≠ (ptN ms k).1 by omega)
      have hr := rs_small hb.1 hb.2.2 hb.2.1 (hpt _ (ptN_mem hj))
      unfold tl3
      obtain ⟨s, hs⟩ : ∃ s, tl3R ms i j k = s := ⟨_, rfl⟩
      have hsb : 0 ≤ s ∧ s ≤ 800000 := by rw [← hs]; unfold tl3R absI; omega
      rw [hs]
      have k1 := lowD_bd (n := s) (d := 2 * thD (ptN ms i) (ptN ms k)) (by omega)
      have k2 := lowN_abs (n := s) (d := 2 * thD (ptN ms i) (ptN ms k)) (M := 800000) (by omega) (by omega) hsb.2
      have k3 : 0 ≤ lowN s (2 * thD (ptN ms i) (ptN ms k)) := Int.ediv_nonneg hsb.1 (Int.natCast_nonneg _)
      exact ⟨⟨k3, k2.2⟩, k1.1, Int.le_trans k1.2 (by omega)⟩
    · rw [wiS_other l2 l3] at h2; cases h2
theorem nw_more {ms : List (Int × Int)} (hpt : ∀ q ∈ ms, ptB q = true) {L : List (List Int)} {b : Int × Int} {f l : List Int} (hall : ∀ x ∈ L ++ [l], wiB ms x = true) (h : NwI ms L b (some f)) (hlt : b.1 * (tlV ms l).2 < (tlV ms l).1 * b.2) : NwI ms (L ++ [l]) (tlV ms l) (some l) := by
  rcases h with ⟨_, _, h⟩ | ⟨pre, l0, post, hL, hf, hb, h1, h2⟩
  · cases h
  · refine .inr ⟨L, l, [], rfl, rfl, rfl, fun x hx => ?_, by simp⟩
    have pos : ∀ x ∈ L ++ [l], 0 < (tlV ms x).2 := fun x hx => by have := (tl_small hpt (hall x hx)).2.1; omega
    have hb2 : 0 < b.2 := by rw [hb]; exact pos l0 (by rw [hL]; simp)
    have hl2 := pos l (by simp)
    have hx2 := pos x (by simp [hx])
    rw [hL] at hx
    rcases List.mem_append.1 hx with hx | hx
    · have h3 := h1 x hx
      exact lt_trans3 (b := b) hx2 hb2 hl2 (by omega) hlt
    · rcases List.mem_cons.1 hx with rfl | hx
      · rw [← hb]; exact hlt
      · exact lt_trans3 (b := b) hx2 hb2 hl2 (h2 x hx) hlt
theorem nw_same {ms : List (Int × Int)} {L : List (List Int)} {b : Int × Int} {f l : List Int} (h : NwI ms L b (some f)) (hlt : ¬ b.1 * (tlV ms l).2 < (tlV ms l).1 * b.2) : NwI ms (L ++ [l]) b (some f) := by
  rcases h with ⟨_, _, h⟩ | ⟨pre, l0, post, hL, hf, hb, h1, h2⟩
  · cases h
  · refine .inr ⟨pre, l0, post ++ [l], by rw [hL]; simp, hf, hb, h1, fun x hx => ?_⟩
    rcases List.mem_append.1 hx with hx | hx
    · exact h2 x hx
    · simp at hx; subst hx; exact hlt
/-- At the end it is the least width. -/
theorem nw_end {ms : List (Int × Int)} (hv : viP ms = true) {b : Int × Int} {f : Option (List Int)} (h : NwI ms (witL ms) b f) : b = nrV ms := by
  obtain ⟨⟨hn1, _⟩, hpt, _⟩ := vi_parts hv
  by_cases h3 : 3 ≤ ms.length
  · obtain ⟨l, hl, el⟩ := nar_strong hv h3
    obtain ⟨l', hl', el'⟩ := wi_witL hl
    rw [el] at el'
    rcases h with ⟨hL, _⟩ | ⟨pre, l0, post, hL, hf, hb, h1, h2⟩
    · rw [hL] at hl'; cases hl'
    · have hw0 : wiB ms l0 = true := witL_wi (by rw [hL]; simp)
      have hle := nar_weak hv hw0
      rw [← hb] at hle
      have hge : ¬ b.1 * (nrV ms).2 < (nrV ms).1 * b.2 := by
        rw [hL] at hl'
        rcases List.mem_append.1 hl' with hx | hx
        · have := h1 l' hx
          rw [el'] at this
          omega
        · rcases List.mem_cons.1 hx with rfl | hx
          · rw [hb, el']; omega
          · have := h2 l' hx
            rw [el'] at this
            exact this
      have heq : b.1 * (nrV ms).2 = (nrV ms).1 * b.2 := by omega
      obtain ⟨p, hp, q, hq, hne, e, _⟩ := nar_best hv
      have hD := (th_on hne).1
      obtain ⟨cc, dd, hd, e2, _⟩ := wit_weak (A := thA p q) (B := thB p q) (D := thD p q) hD hw0
      have en : nrV ms = (lowN (spT ms p q) (2 * thD p q), lowD (spT ms p q) (2 * thD p q)) := e
      rw [hb, e2] at heq ⊢
      rw [en] at heq ⊢
      dsimp only at heq
      have a1 := low_le hd (show 0 < 2 * thD p q by omega) (Int.le_of_eq heq)
      have a2 := low_le (show 0 < 2 * thD p q by omega) hd (Int.le_of_eq heq.symm)
      have := low_eq hd (show 0 < 2 * thD p q by omega) (Int.le_antisymm a1 a2)
      rw [this.1, this.2]
  · obtain ⟨h2, hno⟩ := nar_two hv (by omega)
    rcases h with ⟨_, hb, _⟩ | ⟨pre, l0, post, hL, _⟩
    · rw [hb, h2]
    · have := witL_wi (ms := ms) (l := l0) (by rw [hL]; simp)
      rw [hno l0] at this
      cases this
/-- What lies from B on stays as it is. -/
def KpF (w' : World) (B : Nat) (w : World) : Prop := w.heap.size ≤ w'.heap.size ∧ ∀ g, B ≤ g → g < w.heap.size → w'.heap[g]? = w.heap[g]?
theorem KpF.refl (B : Nat) (w : World) : KpF w B w := ⟨Nat.le_refl _, fun _ _ _ => rfl⟩
theorem KpF.below {B : Nat} {a w w' : World} (h : KpF w B a) (hb : Below w.heap.size w w') : KpF w' B a :=
  ⟨Nat.le_trans h.1 hb.size, fun g h1 h2 => (hb.block g (Nat.lt_of_lt_of_le h2 h.1)).trans (h.2 g h1 h2)⟩
theorem KpF.st2 {B g : Nat} {a w : World} (h : KpF w B a) (hg : g < B) (u v : Value) : KpF ((w.setCell ⟨g, 0, none⟩ u).setCell ⟨g, 1, none⟩ v) B a :=
  ⟨by simpa using h.1, fun k h1 h2 => (heap_setCell_other _ _ _ _ (show k ≠ g by omega)).trans ((heap_setCell_other _ _ _ _ (show k ≠ g by omega)).trans (h.2 k h1 h2))⟩
def FiF (w : World) (B : Nat) (f : Option (List Int)) (g : Nat) : Prop := ∀ l, f = some l → B ≤ g ∧ w.heap[g]? = some (.cells (l.map (Value.int .i64)).toArray 3 (0, 0))
theorem FiF.below {B g : Nat} {f : Option (List Int)} {w w' : World} (h : FiF w B f g) (hb : Below w.heap.size w w') : FiF w' B f g := fun l hl =>
  ⟨(h l hl).1, (hb.block g (Array.getElem?_eq_some_iff.1 (h l hl).2).1).trans (h l hl).2⟩
theorem FiF.st2 {B g k : Nat} {f : Option (List Int)} {w : World} (h : FiF w B f g) (hk : k < B) (u v : Value) : FiF ((w.setCell ⟨k, 0, none⟩ u).setCell ⟨k, 1, none⟩ v) B f g := fun l hl =>
  ⟨(h l hl).1, (heap_setCell_other _ _ _ _ (show g ≠ k by have := (h l hl).1; omega)).trans ((heap_setCell_other _ _ _ _ (show g ≠ k by have := (h l hl).1; omega)).trans (h l hl).2)⟩
theorem LisR.form {w : World} {base : Nat} {v : Value} {T : List (List Int)} (h : LisR w base v T) : ∃ (A : Option Addr) (c : Nat), v = .slice A T.length c ∧ ∀ (k : Nat) (zs : List Int), T[k]? = some zs → ∃ gt g : Nat, A = some ⟨gt, 0, none⟩ ∧ (base ≤ gt ∧ gt < w.heap.size) ∧ (base ≤ g ∧ g < w.heap.size) ∧ w.cell? ⟨gt, k, none⟩ = some (.slice (some ⟨g, 0, none⟩) zs.length zs.length) ∧ w.heap[g]? = some (.cells (zs.map (Value.int .i64)).toArray 3 (0, 0)) := by
  obtain ⟨svs, h1, h2⟩ := h
  have hsl : svs.length = T.length := by have := h1.1; simpa using this
  rcases h1.2 with ⟨hv, h0⟩ | ⟨gt, cap, cur, hv, hb, hh, _⟩
  · refine ⟨none, 0, by rw [hv, h0], fun k zs hz => ?_⟩
    have := (List.getElem?_eq_some_iff.1 hz).1
    omega
  · refine ⟨some ⟨gt, 0, none⟩, cap, hv, fun k zs hz => ?_⟩
    obtain ⟨g, h3, h4, h5⟩ := h2 k zs hz
    have hk := (List.getElem?_eq_some_iff.1 hz).1
    subst hv
    exact ⟨gt, g, rfl, ⟨hb, (Array.getElem?_eq_some_iff.1 hh).1⟩, ⟨h3, (Array.getElem?_eq_some_iff.1 h5).1⟩, by rw [h1.cellAt k (by omega)]; exact h4, h5⟩
theorem witL_len {ms : List (Int × Int)} (hn : ms.length ≤ 12) : (witL ms).length ≤ 2000 := by
  unfold witL
  rw [List.length_append]
  have h1 := cap2 (m := 0) (Nat.le_refl _) hn rfl
  have h2 := cap3 (k := ms.length) hn hn
  omega
theorem wi_len {ms : List (Int × Int)} {l : List Int} (h : wiB ms l = true) : l.length ≤ 3 := by
  by_cases l2 : l.length = 2
  · omega
  · by_cases l3 : l.length = 3
    · omega
    · rw [wiB, wiS_other l2 l3, Bool.and_false] at h; cases h

set_option maxRecDepth 100000 in
set_option maxHeartbeats 8000000 in
theorem refNar_any (ms : List (Int × Int)) (A : Option Addr) (c : Nat) (w : World) (h : Clk w A c ms) (hn2 : ms.length ≤ 12) (hpt : ∀ q ∈ ms, ptB q = true) :
    Calls Try.prog 73 #[.slice A ms.length c] w fun e w' => ∃ (f : Option (List Int)) (g : Nat) (n d : Int), e = .returned (.tuple #[.agg #[.int .i64 n, .int .i64 d], slV f g]) ∧ Below w.heap.size w w' ∧ Hid (NwI ms (witL ms) (n, d) f ∧ ∀ l, f = some l → w'.heap[g]? = some (.cells (l.map (Value.int .i64)).toArray 3 (0, 0))) := by
  have H := Lib.hid h
  have HPT := Lib.hid hpt
  clear h hpt
  obtain ⟨W0, hW0, HW, HG, HK⟩ : ∃ W0, (w.alloc (.cells #[.int .i64 0, .int .i64 0] 34)).alloc (.cells #[.int .i64 0, .int .i64 1] 34) = W0 ∧ Hid (Below w.heap.size w W0) ∧ Hid (Rt W0 w.heap.size (.int .i64 0) (.int .i64 0)) ∧ Hid (Rt W0 (w.heap.size + 1) (.int .i64 0) (.int .i64 1)) :=
    ⟨_, rfl, Lib.hid (((Below.refl _ _).alloc (Nat.le_refl _) _).alloc (by simp) _), Lib.hid ((Rt.new _ _ _).alloc _), Lib.hid (by simpa using Rt.new (w.alloc (.cells #[.int .i64 0, .int .i64 0] 34)) (.int .i64 0) (.int .i64 1))⟩
  have hs0 : w.heap.size + 1 < W0.heap.size := HK.out.lt
  go_enter Try.func73, Try.ntmps73
  go_upto_region 3 with (fail)
  try rw [hW0]
  clear hW0
  obtain ⟨B1, hB1⟩ : ∃ B, W0.heap.size = B := ⟨_, rfl⟩
  have HB1 := Lib.hid hB1
  rw [hB1] at hs0
  clear hB1
  obtain ⟨nT, hnT⟩ : ∃ n, (witL ms).length = n := ⟨_, rfl⟩
  have HNT := Lib.hid hnT
  have hnT2 : nT ≤ 2000 := by rw [← hnT]; exact witL_len hn2
  clear hnT
  go_wp2_with (go_at_call 96; refine (refWits_any ms A c _ (H.out.below HW.out) hn2 HPT.out).mono ?_; rintro e w1 ⟨v, rfl, hT, hBB⟩; obtain ⟨A1, c1, rfl, hfo⟩ := hT.form; rw [HNT.out]; have HFO := Lib.hid hfo; have HG := Lib.hid (HG.out.below hBB); have HK := Lib.hid (HK.out.below hBB); have HW : Hid (Below w.heap.size w _) := Lib.hid (below_step HW.out hBB); clear hT hfo hBB)
  go_loopw [5, 14] (fun s i wr => ∃ (k : Nat) (f : Option (List Int)) (g : Nat) (bn bd : Int), k ≤ nT ∧ i = .int .i64 k ∧ s = slV f g ∧ Hid (NwI ms ((witL ms).take k) (bn, bd) f) ∧ Hid (FiF wr B1 f g) ∧ Hid (Rt wr w.heap.size (.int .i64 0) (.int .i64 0)) ∧ Hid (Rt wr (w.heap.size + 1) (.int .i64 bn) (.int .i64 bd)) ∧ Hid (KpF wr B1 w1) ∧ Hid (Below w.heap.size w wr)) (fun _ i _ => nT - (intOf i).toNat)
  case atStart => exact ⟨0, none, 0, 0, 1, Nat.zero_le _, rfl, rfl, Lib.hid (.inl ⟨rfl, rfl, rfl⟩), Lib.hid (fun l hl => by cases hl), HG, HK, Lib.hid (KpF.refl _ _), HW⟩
  case round =>
    clear HG HK HW
    obtain ⟨k, f, g, bn, bd, hk, rfl, rfl, HN, HFI, HG, HK, HKP, HW⟩ := hrel
    rename World => wi
    by_cases hlt : k < nT
    · obtain ⟨l, hl⟩ : ∃ l, (witL ms)[k]? = some l := ⟨_, List.getElem?_eq_getElem (by rw [HNT.out]; exact hlt)⟩
      obtain ⟨gt, gl, e1, hgt, hgl, hct, hcl⟩ := HFO.out k l hl
      subst e1
      have hct : wi.cell? ⟨gt, k, none⟩ = some (.slice (some ⟨gl, 0, none⟩) l.length l.length) := by
        rw [← hct]; exact World.cell?_of_block (HKP.out.2 gt (by rw [← HB1.out]; exact hgt.1) hgt.2)
      have hcl2 := (HKP.out.2 gl (by rw [← HB1.out]; exact hgl.1) hgl.2).trans hcl
      have HFN : Hid (FiF wi B1 (some l) gl) := Lib.hid (fun l' e => by cases e; exact ⟨by rw [← HB1.out]; exact hgl.1, hcl2⟩)
      have HL := Lib.hid hl
      have hwi := witL_wi (List.mem_of_getElem? hl)
      have hl3 := wi_len hwi
      have htk := take_snoc hl
      have hsm := tl_small HPT.out hwi
      obtain ⟨⟨tn, td⟩, htv⟩ : ∃ z, tlV ms l = z := ⟨_, rfl⟩
      rw [htv] at hsm
      dsimp only at hsm
      have HTV := Lib.hid htv
      have HWI := Lib.hid hwi
      have HTK := Lib.hid htk
      obtain ⟨nl, hnl⟩ : ∃ n, l.length = n := ⟨_, rfl⟩
      have HNL := Lib.hid hnl
      have HTE : Hid (∀ V : World, Below w.heap.size w V → FiF V B1 (some l) gl → Calls Try.prog 79 #[.slice A ms.length c, .slice (some ⟨gl, 0, none⟩) nl nl] V fun e w' => e = .returned (.tuple #[.agg #[.int .i64 tn, .int .i64 td], .bool true]) ∧ Below V.heap.size V w') := Lib.hid (fun V hV hf => by
        have := refTells1_any ms A c l (some ⟨gl, 0, none⟩) l.length V (H.out.below hV) (blk_ints (hf l rfl).2) (by omega) (Nat.le_refl _) (by unfold maxLen; omega) HPT.out
        rw [show twV ms l = (tn, td) by rw [twV, hwi, if_pos rfl]; exact htv, hwi, hnl] at this
        exact this)
      have hbb : (f = none ∧ bn = 0 ∧ bd = 1) ∨ ((0 ≤ bn ∧ bn ≤ 800000) ∧ (1 ≤ bd ∧ bd ≤ 400)) := by
        rcases HN.out with ⟨_, e2, e3⟩ | ⟨pre, l0, post, hL, hf, hb, _⟩
        · injection e2 with e2 e4
          exact .inl ⟨e3, e2, e4⟩
        · have hm0 : l0 ∈ witL ms := List.mem_of_mem_take (by rw [hL]; simp)
          have := tl_small HPT.out (witL_wi hm0)
          rw [← hb] at this
          exact .inr this
      have hbx : (0 ≤ bn ∧ bn ≤ 800000) ∧ (1 ≤ bd ∧ bd ≤ 400) := by rcases hbb with h | h <;> omega
      rw [hnl] at hct
      have x1 := mulBox (X := 800000) (Y := 400) (show -800000 ≤ bn by omega) hbx.1.2 (show -400 ≤ td by omega) hsm.2.2
      have x2 := mulBox (X := 800000) (Y := 400) (show -800000 ≤ tn by omega) hsm.1.2 (show -400 ≤ bd by omega) hbx.2.2
      obtain ⟨lb, hlb⟩ : ∃ b, decide (bn * td < tn * bd) = b := ⟨_, rfl⟩
      have HLB := Lib.hid hlb
      have HLE : Hid (∀ V : World, Calls Try.prog 53 #[.agg #[.int .i64 bn, .int .i64 bd], .agg #[.int .i64 tn, .int .i64 td]] V fun e w' => e = .returned (.bool lb) ∧ Below V.heap.size V w') := Lib.hid (fun V => by
        have := refLess_any bn bd tn td V (by omega) (by omega)
        rw [hlb] at this
        exact this)
      have hw1b : w.heap.size < B1 := by omega
      clear hgt hgl hcl hcl2 hl hwi hl3 htk htv hnl hbb hbx x1 x2 hlb hsm
      cases f with
      | none =>
        rw [show slV none g = .slice none 0 0 from rfl]
        have g0 := HG.out.c0
        have g1 := HG.out.c1
        have k0 := HK.out.c0
        have k1 := HK.out.c1
        go_upto_region 7 with (go_at_call 79; with_reducible refine (HTE.out _ HW.out HFN.out).mono ?_; rintro e v1 ⟨rfl, hB1⟩; have HG := Lib.hid (Rt.below HG.out hB1); have g0 := HG.out.c0; have g1 := HG.out.c1; have HK := Lib.hid (Rt.below HK.out hB1); have k0 := HK.out.c0; have k1 := HK.out.c1; have HKP := Lib.hid (KpF.below HKP.out hB1); have HFN := Lib.hid (FiF.below HFN.out hB1); have HW : Hid (Below w.heap.size w _) := Lib.hid (below_step HW.out hB1); clear hB1)
        have qggr : w.heap.size < v1.heap.size := HG.out.lt
        have qkgr : (w.heap.size + 1) < v1.heap.size := HK.out.lt
        have qHWgr : w.heap.size ≤ v1.heap.size := HW.out.size
        obtain ⟨X1, hX1, HW, HR, HG, HK, HKP, HFN⟩ : ∃ X, (v1.alloc (.cells #[.int .i64 tn, .int .i64 td] 34)) = X ∧ Hid (Below w.heap.size w X) ∧ Hid (Rt X v1.heap.size (.int .i64 tn) (.int .i64 td)) ∧ Hid (Rt X w.heap.size (.int .i64 0) (.int .i64 0)) ∧ Hid (Rt X (w.heap.size + 1) (.int .i64 bn) (.int .i64 bd)) ∧ Hid (KpF X B1 w1) ∧ Hid (FiF X B1 (some l) gl) :=
          ⟨_, rfl, Lib.hid (Below.alloc HW.out HW.out.size _), Lib.hid (Rt.new _ _ _), Lib.hid (HG.out.alloc _), Lib.hid (HK.out.alloc _), Lib.hid (HKP.out.below (Below.alloc (Below.refl _ _) (Nat.le_refl _) _)), Lib.hid (HFN.out.below (Below.alloc (Below.refl _ _) (Nat.le_refl _) _))⟩
        rw [hX1]
        clear hX1
        obtain ⟨gr, hgr⟩ : ∃ g, v1.heap.size = g := ⟨_, rfl⟩
        rw [hgr] at HR qggr qkgr qHWgr
        try rw [hgr]
        clear hgr
        have g0 := HG.out.c0
        have g1 := HG.out.c1
        have k0 := HK.out.c0
        have k1 := HK.out.c1
        have r0 := HR.out.c0
        have r1 := HR.out.c1
        have HNIL := nil_ints X1 none 0 0
        rw [show (none : Option Addr).isNone = true from rfl] at HNIL
        go_upto_region 8 with (fail)
        clear HNIL
        have g0 := HG.out.c0
        have g1 := HG.out.c1
        have k0 := HK.out.c0
        have k1 := HK.out.c1
        have kf0 := HK.out.f 0
        have kf1 := HK.out.f 1
        have r0 := HR.out.c0
        have r1 := HR.out.c1
        go_upto_region 9 with (fail)
        obtain ⟨X4, hX4, HW, HG, HK, HKP, HFN, HR⟩ : ∃ X, ((X1.setCell ⟨(w.heap.size + 1), 0, none⟩ (.int .i64 tn)).setCell ⟨(w.heap.size + 1), 1, none⟩ (.int .i64 td)) = X ∧ Hid (Below w.heap.size w X) ∧ Hid (Rt X w.heap.size (.int .i64 0) (.int .i64 0)) ∧ Hid (Rt X (w.heap.size + 1) (.int .i64 tn) (.int .i64 td)) ∧ Hid (KpF X B1 w1) ∧ Hid (FiF X B1 (some l) gl) ∧ Hid (Rt X gr (.int .i64 tn) (.int .i64 td)) :=
          ⟨_, rfl, Lib.hid (st2_below HW.out (by omega)), Lib.hid (HG.out.other2 (by omega)), Lib.hid (HK.out.set), Lib.hid (HKP.out.st2 hs0 _ _), Lib.hid (HFN.out.st2 hs0 _ _), Lib.hid (HR.out.other2 (by omega))⟩
        rw [hX4]
        clear hX4
        have g0 := HG.out.c0
        have g1 := HG.out.c1
        have k0 := HK.out.c0
        have k1 := HK.out.c1
        have kf0 := HK.out.f 0
        have kf1 := HK.out.f 1
        have r0 := HR.out.c0
        have r1 := HR.out.c1
        go_wp2
        go_roundw
        case rel => exact ⟨k + 1, some l, gl, tn, td, by omega, by go_num, by rw [slV, HNL.out], Lib.hid (by
          rcases HN.out with ⟨e1, _, _⟩ | ⟨_, _, _, _, hf, _⟩
          · rw [HTK.out, e1, ← HTV.out]; exact nw_first l
          · cases hf), HFN, HG, HK, HKP, HW⟩
        case measure => simp [intOf]; omega
      | some l0 =>
        obtain ⟨n0, hn0⟩ : ∃ n, l0.length = n := ⟨_, rfl⟩
        have HN0 := Lib.hid hn0
        have hsl : slV (some l0) g = .slice (some ⟨g, 0, none⟩) n0 n0 := by rw [slV, hn0]
        rw [hsl]
        have HSL := Lib.hid hsl
        clear hn0 hsl
        cases lb with
        | true =>
          have g0 := HG.out.c0
          have g1 := HG.out.c1
          have k0 := HK.out.c0
          have k1 := HK.out.c1
          go_upto_region 7 with (go_at_call 79; with_reducible refine (HTE.out _ HW.out HFN.out).mono ?_; rintro e v1 ⟨rfl, hB1⟩; have HG := Lib.hid (Rt.below HG.out hB1); have g0 := HG.out.c0; have g1 := HG.out.c1; have HK := Lib.hid (Rt.below HK.out hB1); have k0 := HK.out.c0; have k1 := HK.out.c1; have HKP := Lib.hid (KpF.below HKP.out hB1); have HFN := Lib.hid (FiF.below HFN.out hB1); have HFI := Lib.hid (FiF.below HFI.out hB1); have HW : Hid (Below w.heap.size w _) := Lib.hid (below_step HW.out hB1); clear hB1)
          have qggr : w.heap.size < v1.heap.size := HG.out.lt
          have qkgr : (w.heap.size + 1) < v1.heap.size := HK.out.lt
          have qHWgr : w.heap.size ≤ v1.heap.size := HW.out.size
          obtain ⟨X1, hX1, HW, HR, HG, HK, HKP, HFN, HFI⟩ : ∃ X, (v1.alloc (.cells #[.int .i64 tn, .int .i64 td] 34)) = X ∧ Hid (Below w.heap.size w X) ∧ Hid (Rt X v1.heap.size (.int .i64 tn) (.int .i64 td)) ∧ Hid (Rt X w.heap.size (.int .i64 0) (.int .i64 0)) ∧ Hid (Rt X (w.heap.size + 1) (.int .i64 bn) (.int .i64 bd)) ∧ Hid (KpF X B1 w1) ∧ Hid (FiF X B1 (some l) gl) ∧ Hid (FiF X B1 (some l0) g) :=
            ⟨_, rfl, Lib.hid (Below.alloc HW.out HW.out.size _), Lib.hid (Rt.new _ _ _), Lib.hid (HG.out.alloc _), Lib.hid (HK.out.alloc _), Lib.hid (HKP.out.below (Below.alloc (Below.refl _ _) (Nat.le_refl _) _)), Lib.hid (HFN.out.below (Below.alloc (Below.refl _ _) (Nat.le_refl _) _)), Lib.hid (HFI.out.below (Below.alloc (Below.refl _ _) (Nat.le_refl _) _))⟩
          rw [hX1]
          clear hX1
          obtain ⟨gr, hgr⟩ : ∃ g, v1.heap.size = g := ⟨_, rfl⟩
          rw [hgr] at HR qggr qkgr qHWgr
          try rw [hgr]
          clear hgr
          have g0 := HG.out.c0
          have g1 := HG.out.c1
          have k0 := HK.out.c0
          have k1 := HK.out.c1
          have r0 := HR.out.c0
          have r1 := HR.out.c1
          have HNIL := nil_ints X1 (some ⟨g, 0, none⟩) n0 n0
          rw [show (some (⟨g, 0, none⟩ : Addr)).isNone = false from rfl] at HNIL
          go_upto_region 8 with (go_at_call 53; with_reducible refine (HLE.out _).mono ?_; rintro e v4 ⟨rfl, hB4⟩; have HG := Lib.hid (Rt.below HG.out hB4); have g0 := HG.out.c0; have g1 := HG.out.c1; have HK := Lib.hid (Rt.below HK.out hB4); have k0 := HK.out.c0; have k1 := HK.out.c1; have HKP := Lib.hid (KpF.below HKP.out hB4); have HFN := Lib.hid (FiF.below HFN.out hB4); have HFI := Lib.hid (FiF.below HFI.out hB4); have HR := Lib.hid (Rt.below HR.out hB4); have r0 := HR.out.c0; have r1 := HR.out.c1; have HW : Hid (Below w.heap.size w _) := Lib.hid (below_step HW.out hB4); clear hB4)
          clear HNIL
          have g0 := HG.out.c0
          have g1 := HG.out.c1
          have k0 := HK.out.c0
          have k1 := HK.out.c1
          have kf0 := HK.out.f 0
          have kf1 := HK.out.f 1
          have r0 := HR.out.c0
          have r1 := HR.out.c1
          go_upto_region 9 with (fail)
          obtain ⟨X4, hX4, HW, HG, HK, HKP, HFN, HFI, HR⟩ : ∃ X, ((v4.setCell ⟨(w.heap.size + 1), 0, none⟩ (.int .i64 tn)).setCell ⟨(w.heap.size + 1), 1, none⟩ (.int .i64 td)) = X ∧ Hid (Below w.heap.size w X) ∧ Hid (Rt X w.heap.size (.int .i64 0) (.int .i64 0)) ∧ Hid (Rt X (w.heap.size + 1) (.int .i64 tn) (.int .i64 td)) ∧ Hid (KpF X B1 w1) ∧ Hid (FiF X B1 (some l) gl) ∧ Hid (FiF X B1 (some l0) g) ∧ Hid (Rt X gr (.int .i64 tn) (.int .i64 td)) :=
            ⟨_, rfl, Lib.hid (st2_below HW.out (by omega)), Lib.hid (HG.out.other2 (by omega)), Lib.hid (HK.out.set), Lib.hid (HKP.out.st2 hs0 _ _), Lib.hid (HFN.out.st2 hs0 _ _), Lib.hid (HFI.out.st2 hs0 _ _), Lib.hid (HR.out.other2 (by omega))⟩
          rw [hX4]
          clear hX4
          have g0 := HG.out.c0
          have g1 := HG.out.c1
          have k0 := HK.out.c0
          have k1 := HK.out.c1
          have kf0 := HK.out.f 0
          have kf1 := HK.out.f 1
          have r0 := HR.out.c0
          have r1 := HR.out.c1
          go_wp2
          go_roundw
          case rel => exact ⟨k + 1, some l, gl, tn, td, by omega, by go_num, by rw [slV, HNL.out], Lib.hid (by
            rw [HTK.out, ← HTV.out]
            exact nw_more HPT.out (fun x hx => witL_wi (by rw [← HTK.out] at hx; exact List.mem_of_mem_take hx)) HN.out (by rw [HTV.out]; exact of_decide_eq_true HLB.out)), HFN, HG, HK, HKP, HW⟩
          case measure => simp [intOf]; omega
        | false =>
          have g0 := HG.out.c0
          have g1 := HG.out.c1
          have k0 := HK.out.c0
          have k1 := HK.out.c1
          go_upto_region 7 with (go_at_call 79; with_reducible refine (HTE.out _ HW.out HFN.out).mono ?_; rintro e v1 ⟨rfl, hB1⟩; have HG := Lib.hid (Rt.below HG.out hB1); have g0 := HG.out.c0; have g1 := HG.out.c1; have HK := Lib.hid (Rt.below HK.out hB1); have k0 := HK.out.c0; have k1 := HK.out.c1; have HKP := Lib.hid (KpF.below HKP.out hB1); have HFN := Lib.hid (FiF.below HFN.out hB1); have HFI := Lib.hid (FiF.below HFI.out hB1); have HW : Hid (Below w.heap.size w _) := Lib.hid (below_step HW.out hB1); clear hB1)
          have qggr : w.heap.size < v1.heap.size := HG.out.lt
          have qkgr : (w.heap.size + 1) < v1.heap.size := HK.out.lt
          have qHWgr : w.heap.size ≤ v1.heap.size := HW.out.size
          obtain ⟨X1, hX1, HW, HR, HG, HK, HKP, HFN, HFI⟩ : ∃ X, (v1.alloc (.cells #[.int .i64 tn, .int .i64 td] 34)) = X ∧ Hid (Below w.heap.size w X) ∧ Hid (Rt X v1.heap.size (.int .i64 tn) (.int .i64 td)) ∧ Hid (Rt X w.heap.size (.int .i64 0) (.int .i64 0)) ∧ Hid (Rt X (w.heap.size + 1) (.int .i64 bn) (.int .i64 bd)) ∧ Hid (KpF X B1 w1) ∧ Hid (FiF X B1 (some l) gl) ∧ Hid (FiF X B1 (some l0) g) :=
            ⟨_, rfl, Lib.hid (Below.alloc HW.out HW.out.size _), Lib.hid (Rt.new _ _ _), Lib.hid (HG.out.alloc _), Lib.hid (HK.out.alloc _), Lib.hid (HKP.out.below (Below.alloc (Below.refl _ _) (Nat.le_refl _) _)), Lib.hid (HFN.out.below (Below.alloc (Below.refl _ _) (Nat.le_refl _) _)), Lib.hid (HFI.out.below (Below.alloc (Below.refl _ _) (Nat.le_refl _) _))⟩
          rw [hX1]
          clear hX1
          obtain ⟨gr, hgr⟩ : ∃ g, v1.heap.size = g := ⟨_, rfl⟩
          rw [hgr] at HR qggr qkgr qHWgr
          try rw [hgr]
          clear hgr
          have g0 := HG.out.c0
          have g1 := HG.out.c1
          have k0 := HK.out.c0
          have k1 := HK.out.c1
          have r0 := HR.out.c0
          have r1 := HR.out.c1
          have HNIL := nil_ints X1 (some ⟨g, 0, none⟩) n0 n0
          rw [show (some (⟨g, 0, none⟩ : Addr)).isNone = false from rfl] at HNIL
          go_upto_region 9 with (go_at_call 53; with_reducible refine (HLE.out _).mono ?_; rintro e v4 ⟨rfl, hB4⟩; have HG := Lib.hid (Rt.below HG.out hB4); have g0 := HG.out.c0; have g1 := HG.out.c1; have HK := Lib.hid (Rt.below HK.out hB4); have k0 := HK.out.c0; have k1 := HK.out.c1; have HKP := Lib.hid (KpF.below HKP.out hB4); have HFN := Lib.hid (FiF.below HFN.out hB4); have HFI := Lib.hid (FiF.below HFI.out hB4); have HR := Lib.hid (Rt.below HR.out hB4); have r0 := HR.out.c0; have r1 := HR.out.c1; have HW : Hid (Below w.heap.size w _) := Lib.hid (below_step HW.out hB4); clear hB4)
          clear HNIL
          go_wp2
          go_roundw
          case rel => exact ⟨k + 1, some l0, g, bn, bd, by omega, by go_num, HSL.out.symm, Lib.hid (by
            rw [HTK.out]
            exact nw_same HN.out (by rw [HTV.out]; exact of_decide_eq_false HLB.out)), HFI, HG, HK, HKP, HW⟩
          case measure => simp [intOf]; omega
    · obtain rfl : k = nT := by omega
      have HNE : Hid (NwI ms (witL ms) (bn, bd) f) := Lib.hid (by have := HN.out; rwa [← HNT.out, List.take_length] at this)
      have k0 := HK.out.c0
      have k1 := HK.out.c1
      have g0 := HG.out.c0
      have g1 := HG.out.c1
      have gf0 := HG.out.f 0
      have gf1 := HG.out.f 1
      have HFE : Hid (∀ l, f = some l → ((wi.setCell ⟨w.heap.size, 0, none⟩ (.int .i64 bn)).setCell ⟨w.heap.size, 1, none⟩ (.int .i64 bd)).heap[g]? = some (.cells (l.map (Value.int .i64)).toArray 3 (0, 0))) := Lib.hid (fun l hl => (HFI.out.st2 (show w.heap.size < B1 by omega) _ _ l hl).2)
      have hbe : Hid (Below w.heap.size w ((wi.setCell ⟨w.heap.size, 0, none⟩ (.int .i64 bn)).setCell ⟨w.heap.size, 1, none⟩ (.int .i64 bd))) := Lib.hid (st2_below HW.out (Nat.le_refl _))
      go_wp2
      exact bodyPost_ret (v := .tuple #[.agg #[.int .i64 bn, .int .i64 bd], slV f g]) (by simp [results, Try.results73, go_sem, g0, g1]) rfl ⟨f, g, bn, bd, rfl, hbe.out, Lib.hid ⟨HNE.out, HFE.out⟩⟩
end Go.Proofs.Ytoilbgngefleiaa
