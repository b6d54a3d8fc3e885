/-
  Plain facts: valid hits without their first layer: their longest chain is shorter by one hit.
-/
import Derived.Test.YtmlkdjcjfkfdiaaLayerM
namespace Go.Proofs.Ytmlkdjcjfkfdiaa
open Go.RowKit Go.Shelf

theorem all_ne {n : Nat} (h : 1 ≤ n) : allL n ≠ [] := fun e => by
  have h1 := allL_len n
  rw [e, List.length_nil] at h1
  omega
theorem chain_max {ms : List (Int × Int)} (hn : 1 ≤ ms.length) (hn2 : ms.length ≤ 50) {l : List Int} (h : ischB ms l = true) : l.length ≤ (chainL ms).length := by
  rw [mirsky hn hn2]
  exact ch_ary h (ary_layers hn2)
def restI (ms : List (Int × Int)) : List Int := (allL ms.length).filter fun a => !(firstL ms).contains a
def restM (ms : List (Int × Int)) : List (Int × Int) := (restI ms).map (hAt ms)
theorem mem_first {ms : List (Int × Int)} {a : Int} : a ∈ firstL ms ↔ a ∈ allL ms.length ∧ ∀ b ∈ allL ms.length, befI ms b a = false := by
  unfold firstL firstOfL
  rw [List.mem_filter]
  refine and_congr_right fun _ => ?_
  rw [Bool.not_eq_true', List.any_eq_false]
  exact forall_congr' fun b => forall_congr' fun _ => by simp
theorem mem_restI {ms : List (Int × Int)} {a : Int} : a ∈ restI ms ↔ a ∈ allL ms.length ∧ ∃ b ∈ allL ms.length, befI ms b a = true := by
  unfold restI
  rw [List.mem_filter]
  refine and_congr_right fun ha => ?_
  rw [Bool.not_eq_true', ← Bool.not_eq_true, List.contains_iff_mem, mem_first]
  constructor
  · intro h
    apply Classical.byContradiction
    intro hn
    exact h ⟨ha, fun b hb => by
      cases q : befI ms b a with
      | false => rfl
      | true => exact absurd ⟨b, hb, q⟩ hn⟩
  · rintro ⟨b, hb, q⟩ ⟨_, h⟩
    rw [h b hb] at q
    cases q
theorem all_map (ms : List (Int × Int)) : (allL ms.length).map (hAt ms) = ms := by
  refine List.ext_getElem (by rw [List.length_map, allL_len]) fun j h1 h2 => ?_
  rw [List.getElem_map]
  simp only [allL, List.getElem_map, List.getElem_range]
  exact hAt_of (List.getElem?_eq_getElem h2)
theorem restM_sub (ms : List (Int × Int)) : (restM ms).Sublist ms := by
  have := (List.filter_sublist (p := fun a => !(firstL ms).contains a) (l := allL ms.length)).map (hAt ms)
  rw [all_map] at this
  exact this
theorem restM_valid {ms : List (Int × Int)} (hv : vhB ms = true) (h : restM ms ≠ []) : vhB (restM ms) = true := by
  have hs := restM_sub ms
  obtain ⟨h1, h2⟩ := vh_parts hv
  have hl := hs.length_le
  have h3 : 0 < (restM ms).length := List.length_pos_iff.2 h
  have hall : ms.all hitB = true := by simp [vhB] at hv ⊢; exact hv.1.2
  have hall2 : (restM ms).all hitB = true := List.all_eq_true.2 fun x hx => List.all_eq_true.1 hall x (hs.subset hx)
  unfold vhB
  rw [decide_eq_true (show 1 ≤ (restM ms).length ∧ (restM ms).length ≤ 14 by omega), hall2, decide_eq_true (hs.nodup (vh_nodup hv))]; rfl
theorem first_some {ms : List (Int × Int)} (hn : 1 ≤ ms.length) : ∃ a, a ∈ firstL ms := by
  obtain ⟨a, _, ha⟩ := first_ne (ms := ms) (l := allL ms.length) (all_ne hn)
  exact ⟨a, ha⟩
theorem restM_less {ms : List (Int × Int)} (hn : 1 ≤ ms.length) : (restM ms).length < ms.length := by
  obtain ⟨a, ha⟩ := first_some hn
  unfold restM restI
  rw [List.length_map]
  conv => rhs; rw [← allL_len ms.length]
  exact List.length_filter_lt_length_iff_exists.2 ⟨a, (mem_first.1 ha).1, by simp [ha]⟩
theorem rest_at {ms : List (Int × Int)} {k : Nat} (h : k < (restI ms).length) : hAt (restM ms) (k : Int) = hAt ms ((restI ms).getD k 0) := by
  rw [hAt_of (m := hAt ms ((restI ms).getD k 0)) (by rw [restM, List.getElem?_map, List.getElem?_eq_getElem h, List.getD_eq_getElem?_getD, List.getElem?_eq_getElem h]; rfl)]
def upI (ms : List (Int × Int)) (a : Int) : Int := (restI ms).getD a.toNat 0
def downI (ms : List (Int × Int)) (a : Int) : Int := ((restI ms).idxOf a : Nat)
theorem restM_len (ms : List (Int × Int)) : (restM ms).length = (restI ms).length := by rw [restM, List.length_map]
theorem up_mem {ms : List (Int × Int)} {a : Int} (h : a ∈ allL (restM ms).length) : upI ms a ∈ restI ms := by
  have h1 := allL_mem h
  rw [restM_len] at h1
  have h2 : a.toNat < (restI ms).length := by omega
  rw [upI, List.getD_eq_getElem?_getD, List.getElem?_eq_getElem h2]
  exact List.getElem_mem h2
theorem up_bef {ms : List (Int × Int)} {a b : Int} (ha : a ∈ allL (restM ms).length) (hb : b ∈ allL (restM ms).length) : befI (restM ms) a b = befI ms (upI ms a) (upI ms b) := by
  have h1 := allL_mem ha
  have h2 := allL_mem hb
  rw [restM_len] at h1 h2
  obtain ⟨i, rfl⟩ := Int.eq_ofNat_of_zero_le h1.1
  obtain ⟨j, rfl⟩ := Int.eq_ofNat_of_zero_le h2.1
  unfold befI
  rw [rest_at (by omega), rest_at (by omega), upI, upI, Int.toNat_natCast, Int.toNat_natCast]
theorem down_mem {ms : List (Int × Int)} {a : Int} (h : a ∈ restI ms) : downI ms a ∈ allL (restM ms).length ∧ upI ms (downI ms a) = a := by
  have h1 : (restI ms).idxOf a < (restI ms).length := List.idxOf_lt_length_iff.2 h
  refine ⟨?_, ?_⟩
  · rw [restM_len]
    exact List.mem_of_getElem? (allL_get h1)
  · rw [upI, downI, Int.toNat_natCast, List.getD_eq_getElem?_getD, List.getElem?_eq_getElem h1]
    simp
theorem ch_all {ms : List (Int × Int)} {l : List Int} (h : ischB ms l = true) : ∀ a ∈ l, a ∈ allL ms.length := fun a ha => by
  have h1 := (isc_in h).2 a ha
  obtain ⟨k, rfl⟩ := Int.eq_ofNat_of_zero_le h1.1
  exact List.mem_of_getElem? (allL_get (by omega))
theorem ch_one {ms : List (Int × Int)} {l : List Int} (h : ischB ms l = true) : 1 ≤ l.length := by
  unfold ischB at h
  rw [Bool.and_eq_true] at h
  exact (listB_parts h.1).1.1
/-- A chain of the rest, with one more hit ahead of it, is a chain. -/
theorem rest_up {ms : List (Int × Int)} (hv : vhB ms = true) (hr : vhB (restM ms) = true) : (chainL (restM ms)).length + 1 ≤ (chainL ms).length := by
  obtain ⟨n1, n2⟩ := vh_parts hv
  obtain ⟨r1, r2⟩ := vh_parts hr
  have hC := chain_is r1 (by omega)
  have hone := ch_one hC
  have hall := ch_all hC
  have hpw := ch_pw hC
  have hl := (isc_in hC).1
  have hnd := pigeon (ch_nodup hC) (isc_in hC).2
  obtain ⟨C, hCe⟩ : ∃ C, chainL (restM ms) = C := ⟨_, rfl⟩
  rw [hCe] at hone hall hpw hl hnd ⊢
  cases C with
  | nil => simp at hone
  | cons x X =>
    have hup : ∀ a ∈ x :: X, upI ms a ∈ restI ms := fun a ha => up_mem (hall a ha)
    obtain ⟨hx1, y, hy, hyx⟩ := mem_restI.1 (hup x (by simp))
    have hp2 : ((x :: X).map (upI ms)).Pairwise fun a b => befI ms a b = true := by
      rw [List.pairwise_map]
      exact hpw.imp_of_mem fun {a b} ha hb h => by rw [← up_bef (hall a ha) (hall b hb)]; exact h
    have hp3 : (y :: (x :: X).map (upI ms)).Pairwise fun a b => befI ms a b = true := by
      refine List.pairwise_cons.2 ⟨fun b hb => ?_, hp2⟩
      rw [List.map_cons] at hb hp2
      rcases List.mem_cons.1 hb with rfl | hb
      · exact hyx
      · exact befI_trans2 hyx ((List.pairwise_cons.1 hp2).1 b hb)
    have his : ischB ms (y :: (x :: X).map (upI ms)) = true := isch_of (by simp) (by simp at hnd ⊢; omega) (fun a ha => by
      rcases List.mem_cons.1 ha with rfl | ha
      · exact hy
      · obtain ⟨b, hb, rfl⟩ := List.mem_map.1 ha
        exact (mem_restI.1 (hup b hb)).1) hp3
    have := chain_max n1 (by omega) his
    simpa using this
/-- Behind its first hit a chain lies in the rest. -/
theorem rest_tail {ms : List (Int × Int)} (hv : vhB ms = true) {x : Int} {X : List Int} (h : chainL ms = x :: X) : ∀ a ∈ X, a ∈ restI ms := by
  obtain ⟨n1, n2⟩ := vh_parts hv
  have hC := chain_is n1 (ms := ms) (by omega)
  rw [h] at hC
  have hpw := ch_pw hC
  have hall := ch_all hC
  intro a ha
  exact mem_restI.2 ⟨hall a (List.mem_cons_of_mem _ ha), x, hall x (by simp), (List.pairwise_cons.1 hpw).1 a ha⟩
theorem rest_chain {ms : List (Int × Int)} (hv : vhB ms = true) (hr : vhB (restM ms) = true) : (chainL (restM ms)).length + 1 = (chainL ms).length := by
  have hup := rest_up hv hr
  obtain ⟨n1, n2⟩ := vh_parts hv
  obtain ⟨r1, r2⟩ := vh_parts hr
  have hC := chain_is n1 (ms := ms) (by omega)
  have hone := ch_one (chain_is r1 (ms := restM ms) (by omega))
  have hpw := ch_pw hC
  have hnd := pigeon (ch_nodup hC) (isc_in hC).2
  cases e : chainL ms with
  | nil => rw [e] at hup; simp at hup
  | cons x X =>
    have htl := rest_tail hv e
    rw [e] at hpw hup hnd
    have hp2 := (List.pairwise_cons.1 hpw).2
    have his : ischB (restM ms) (X.map (downI ms)) = true := by
      refine isch_of (by simp at hup ⊢; omega) (by simp at hnd ⊢; omega) (fun a ha => ?_) ?_
      · obtain ⟨b, hb, rfl⟩ := List.mem_map.1 ha
        exact (down_mem (htl b hb)).1
      · rw [List.pairwise_map]
        exact hp2.imp_of_mem fun {a b} ha hb h => by
          rw [up_bef (down_mem (htl a ha)).1 (down_mem (htl b hb)).1, (down_mem (htl a ha)).2, (down_mem (htl b hb)).2]
          exact h
    have := chain_max r1 (by omega) his
    simp at this hup ⊢
    omega
theorem rest_none {ms : List (Int × Int)} (hv : vhB ms = true) (hr : restM ms = []) : (chainL ms).length = 1 := by
  obtain ⟨n1, n2⟩ := vh_parts hv
  have hone := ch_one (chain_is n1 (ms := ms) (by omega))
  have hI : restI ms = [] := by
    have := restM_len ms
    rw [hr] at this
    exact List.eq_nil_of_length_eq_zero this.symm
  cases e : chainL ms with
  | nil => rw [e] at hone; simp at hone
  | cons x X =>
    have htl := rest_tail hv e
    cases X with
    | nil => rfl
    | cons y Y =>
      have := htl y (by simp)
      rw [hI] at this
      cases this
theorem layers_first {ms : List (Int × Int)} (hn : 1 ≤ ms.length) : ∃ Ts, layersL ms = firstL ms :: Ts := by
  unfold layersL
  obtain ⟨k, _, h⟩ := lay_step (ms := ms) (m := ms.length) (l := allL ms.length) (all_ne hn) (by rw [allL_len]; exact Nat.le_refl _)
  exact ⟨_, h⟩
end Go.Proofs.Ytmlkdjcjfkfdiaa
