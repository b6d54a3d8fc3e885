/-
  Plain facts: the threads out of the fronts: each hit is put behind its front, in the order of time.
-/
import Derived.Test.YtmlkdjcjfkfdiaaKuhnM5
import Derived.Test.YtmlkdjcjfkfdiaaSortM
namespace Go.Proofs.Ytmlkdjcjfkfdiaa
open Go.RowKit Go.Shelf

structure InvT (ms : List (Int × Int)) (fr done th : List Int) (T : List (List Int)) : Prop where
  tlen : th.length = ms.length
  flat : ∀ x, T.flatten.count x = done.count x
  chain : ∀ L ∈ T, L ≠ [] ∧ L.Pairwise fun a b => befI ms a b = true
  at_ : ∀ x ∈ done, ∃ (t : Nat) (L : List Int), th.getD x.toNat 0 = (t : Int) ∧ T[t]? = some L ∧ x ∈ L
  last : ∀ L ∈ T, ∀ x ∈ L, L.getLast? = some x ∨ ∃ c ∈ done, frI fr c = x
  len : T.length = (done.filter fun a => decide (frI fr a = -1)).length
  rng : ∀ x ∈ done, 0 ≤ x ∧ x < ms.length
theorem invT_start (ms : List (Int × Int)) (fr th : List Int) (h : th.length = ms.length) : InvT ms fr [] th [] :=
  ⟨h, by simp, by simp, by simp, by simp, by simp, by simp⟩
theorem filter_yes {fr done : List Int} {a : Int} (h : frI fr a = -1) : ((done ++ [a]).filter fun a => decide (frI fr a = -1)).length = (done.filter fun a => decide (frI fr a = -1)).length + 1 := by
  rw [List.filter_append, List.length_append]
  simp [h]
theorem filter_not {fr done : List Int} {a : Int} (h : frI fr a ≠ -1) : ((done ++ [a]).filter fun a => decide (frI fr a = -1)).length = (done.filter fun a => decide (frI fr a = -1)).length := by
  rw [List.filter_append, List.length_append]
  simp [h]
theorem getD_set_self {l : List Int} {i : Nat} {x d : Int} (h : i < l.length) : (l.set i x).getD i d = x := by
  rw [List.getD_eq_getElem?_getD, List.getElem?_set, if_pos rfl, if_pos h]; rfl
theorem getD_set_ne {l : List Int} {i j : Nat} {x d : Int} (h : i ≠ j) : (l.set i x).getD j d = l.getD j d := by
  rw [List.getD_eq_getElem?_getD, List.getElem?_set, if_neg h, List.getD_eq_getElem?_getD]
theorem invT_new {ms : List (Int × Int)} {fr done th : List Int} {T : List (List Int)} {a : Int} (h : InvT ms fr done th T) (ha : a ∉ done) (hr : 0 ≤ a ∧ a < ms.length) (hf : frI fr a = -1) :
    InvT ms fr (done ++ [a]) (th.set a.toNat (T.length : Int)) (T ++ [[a]]) := by
  refine ⟨by rw [List.length_set]; exact h.tlen, fun x => ?_, fun L hL => ?_, fun x hx => ?_, fun L hL x hx => ?_, ?_, fun x hx => ?_⟩
  · rw [List.flatten_append, List.count_append, List.count_append, h.flat]; simp
  · rcases List.mem_append.1 hL with hL | hL
    · exact h.chain L hL
    · simp at hL
      subst hL
      exact ⟨by simp, by simp⟩
  · rcases List.mem_append.1 hx with hx | hx
    · obtain ⟨t, L, h1, h2, h3⟩ := h.at_ x hx
      have hne : a.toNat ≠ x.toNat := by
        have := h.rng x hx
        intro e
        have e2 : a = x := by omega
        exact ha (e2 ▸ hx)
      exact ⟨t, L, by rw [getD_set_ne hne]; exact h1, by rw [List.getElem?_append_left (List.getElem?_eq_some_iff.1 h2).1]; exact h2, h3⟩
    · simp at hx
      subst hx
      exact ⟨T.length, [x], getD_set_self (by rw [h.tlen]; omega), by simp, by simp⟩
  · rcases List.mem_append.1 hL with hL | hL
    · rcases h.last L hL x hx with q | ⟨c, hc, q⟩
      · exact .inl q
      · exact .inr ⟨c, List.mem_append_left _ hc, q⟩
    · simp at hL
      subst hL
      simp at hx
      subst hx
      exact .inl rfl
  · rw [filter_yes hf, List.length_append, h.len]; rfl
  · rcases List.mem_append.1 hx with hx | hx
    · exact h.rng x hx
    · simp at hx
      subst hx
      exact hr
theorem flat_set_count : ∀ (T : List (List Int)) (t : Nat) (L : List Int) (a x : Int), T[t]? = some L → (T.set t (L ++ [a])).flatten.count x = T.flatten.count x + [a].count x
  | [], t, L, a, x, h => by simp at h
  | M :: T, 0, L, a, x, h => by
    simp at h
    subst h
    rw [List.set_cons_zero, List.flatten_cons, List.flatten_cons, List.count_append, List.count_append, List.count_append]
    omega
  | M :: T, t + 1, L, a, x, h => by
    have := flat_set_count T t L a x (by simpa using h)
    rw [List.set_cons_succ, List.flatten_cons, List.flatten_cons, List.count_append, List.count_append, this]
    omega
theorem mem_set2 {T : List (List Int)} {t : Nat} {K L : List Int} (h : L ∈ T.set t K) : L = K ∨ L ∈ T := by
  rcases List.mem_or_eq_of_mem_set h with h | h
  · exact .inr h
  · exact .inl h
theorem pw_snoc {ms : List (Int × Int)} {L : List Int} {b a : Int} (hp : L.Pairwise fun a b => befI ms a b = true) (hl : L.getLast? = some b) (hb : befI ms b a = true) : (L ++ [a]).Pairwise fun a b => befI ms a b = true := by
  rw [List.pairwise_append]
  refine ⟨hp, by simp, fun x hx y hy => ?_⟩
  simp at hy
  subst hy
  obtain ⟨i, hi⟩ := List.mem_iff_getElem?.1 hx
  obtain ⟨hi1, hi2⟩ := List.getElem?_eq_some_iff.1 hi
  rw [List.getLast?_eq_getElem?] at hl
  obtain ⟨hj1, hj2⟩ := List.getElem?_eq_some_iff.1 hl
  rcases Nat.lt_or_ge i (L.length - 1) with h1 | h1
  · have := List.pairwise_iff_getElem.1 hp i (L.length - 1) hi1 hj1 h1
    rw [hi2, hj2] at this
    exact befI_trans2 this hb
  · obtain rfl : i = L.length - 1 := by omega
    rw [hi2] at hj2
    subst hj2
    exact hb
theorem invT_on {ms : List (Int × Int)} {fr done th : List Int} {T : List (List Int)} {a : Int} (h : InvT ms fr done th T) (ha : a ∉ done) (hr : 0 ≤ a ∧ a < ms.length) (hf : frI fr a ≠ -1)
    (hd : frI fr a ∈ done) (hb : befI ms (frI fr a) a = true) (hu : ∀ c ∈ done, frI fr c ≠ frI fr a) :
    ∃ (t : Nat) (L : List Int), th.getD (frI fr a).toNat 0 = (t : Int) ∧ T[t]? = some L ∧ InvT ms fr (done ++ [a]) (th.set a.toNat (t : Int)) (T.set t (L ++ [a])) := by
  obtain ⟨t, L, h1, h2, h3⟩ := h.at_ _ hd
  have htl := (List.getElem?_eq_some_iff.1 h2).1
  have hlast : L.getLast? = some (frI fr a) := by
    rcases h.last L (List.mem_of_getElem? h2) _ h3 with q | ⟨c, hc, q⟩
    · exact q
    · exact absurd q (hu c hc)
  refine ⟨t, L, h1, h2, ⟨by rw [List.length_set]; exact h.tlen, fun x => ?_, fun M hM => ?_, fun x hx => ?_, fun M hM x hx => ?_, ?_, fun x hx => ?_⟩⟩
  · rw [flat_set_count T t L a x h2, List.count_append, h.flat]
  · rcases mem_set2 hM with e | hM
    · subst e
      exact ⟨by simp, pw_snoc (h.chain L (List.mem_of_getElem? h2)).2 hlast hb⟩
    · exact h.chain M hM
  · rcases List.mem_append.1 hx with hx | hx
    · obtain ⟨s, M, g1, g2, g3⟩ := h.at_ x hx
      have hne : a.toNat ≠ x.toNat := by
        have := h.rng x hx
        intro e
        have e2 : a = x := by omega
        exact ha (e2 ▸ hx)
      by_cases hst : t = s
      · subst hst
        rw [h2] at g2
        cases g2
        exact ⟨t, L ++ [a], by rw [getD_set_ne hne]; exact g1, by rw [List.getElem?_set, if_pos rfl, if_pos htl], List.mem_append_left _ g3⟩
      · exact ⟨s, M, by rw [getD_set_ne hne]; exact g1, by rw [List.getElem?_set, if_neg hst]; exact g2, g3⟩
    · simp at hx
      subst hx
      exact ⟨t, L ++ [x], getD_set_self (by rw [h.tlen]; omega), by rw [List.getElem?_set, if_pos rfl, if_pos htl], by simp⟩
  · rcases mem_set2 hM with e | hM
    · subst e
      rcases List.mem_append.1 hx with hx | hx
      · rcases h.last L (List.mem_of_getElem? h2) x hx with q | ⟨c, hc, q⟩
        · rw [hlast] at q
          injection q with q
          exact .inr ⟨a, by simp, q⟩
        · exact .inr ⟨c, List.mem_append_left _ hc, q⟩
      · simp at hx
        subst hx
        exact .inl (by simp)
    · rcases h.last M hM x hx with q | ⟨c, hc, q⟩
      · exact .inl q
      · exact .inr ⟨c, List.mem_append_left _ hc, q⟩
  · rw [filter_not hf, List.length_set, h.len]
  · rcases List.mem_append.1 hx with hx | hx
    · exact h.rng x hx
    · simp at hx
      subst hx
      exact hr
theorem front_list {fr : List Int} {n : Nat} (h : fr.length = n) : fr = (allL n).map (frI fr) := by
  subst h
  refine List.ext_getElem (by rw [List.length_map, allL_len]) fun j h1 h2 => ?_
  rw [List.getElem_map]
  simp only [allL, List.getElem_map, List.getElem_range]
  rw [frI, List.getD_eq_getElem?_getD, show (Int.ofNat j).toNat = j by simp, List.getElem?_eq_getElem h1]; rfl
theorem filter_count (f : Int → Int) (y : Int) : ∀ l : List Int, (l.filter fun a => decide (f a = y)).length = (l.map f).count y
  | [] => rfl
  | x :: l => by
    rw [List.filter_cons, List.map_cons, List.count_cons, ← filter_count f y l]
    by_cases h : f x = y
    · simp [h]
    · simp [h]
theorem free_count {fr ys : List Int} {n : Nat} (h : fr.length = n) (hp : ys.Perm (allL n)) : (ys.filter fun a => decide (frI fr a = -1)).length = fr.count (-1) := by
  rw [(hp.filter _).length_eq, filter_count (frI fr) (-1) (allL n), ← front_list h]
theorem all_count {n k : Nat} (h : k < n) : (allL n).count (k : Int) = 1 := by
  induction n with
  | zero => omega
  | succ n ih =>
    rw [allL_succ, List.count_append]
    by_cases e : k = n
    · subst e
      have : (allL k).count (k : Int) = 0 := List.count_eq_zero.2 (fun hm => by have := allL_mem hm; omega)
      rw [this]; simp
    · rw [ih (by omega)]
      have : ([(n : Int)] : List Int).count (k : Int) = 0 := List.count_eq_zero.2 (fun hm => by simp at hm; omega)
      omega
/-- All hits in their threads: as many threads as there are hits without a front. -/
theorem invT_end {ms : List (Int × Int)} {fr ys th : List Int} {T : List (List Int)} (hn : ms.length ≤ 14) (h : InvT ms fr ys th T) (hp : ys.Perm (allL ms.length)) (hl : fr.length = ms.length) :
    thyB ms T = true ∧ T.length = fr.count (-1) := by
  have hc : ∀ x, T.flatten.count x = (allL ms.length).count x := fun x => (h.flat x).trans (hp.count_eq x)
  have hone : onceC ms.length T.flatten = true := onceC_iff.2 fun k hk => by rw [hc, all_count hk]
  have hlen : T.length = fr.count (-1) := h.len.trans (free_count hl hp)
  have hle : fr.count (-1) ≤ fr.length := List.count_le_length
  have hin : ∀ L ∈ T, ∀ a ∈ L, a ∈ allL ms.length := fun L hL a ha => by
    have h1 : a ∈ T.flatten := List.mem_flatten.2 ⟨L, hL, ha⟩
    have h2 := List.count_pos_iff.2 h1
    rw [hc] at h2
    exact List.count_pos_iff.1 h2
  have hfl : T.flatten.length = ms.length := by
    have : T.flatten.Perm (allL ms.length) := List.perm_iff_count.2 hc
    rw [this.length_eq, allL_len]
  have hL : ∀ L ∈ T, ischB ms L = true := fun L hL => by
    obtain ⟨g1, g2⟩ := h.chain L hL
    have hle2 : L.length ≤ T.flatten.length := by
      obtain ⟨i, hi⟩ := List.mem_iff_getElem?.1 hL
      have := flat_take hi
      have h3 : ((T.take (i + 1)).flatten).length ≤ T.flatten.length := by
        conv => rhs; rw [← List.take_append_drop (i + 1) T]
        rw [List.flatten_append, List.length_append]; omega
      rw [this, List.length_append] at h3
      omega
    exact isch_of (List.length_pos_iff.2 g1) (by omega) (hin L hL) g2
  exact ⟨by rw [← thy_yes (by omega) hL]; exact hone, hlen⟩
/-- In the order of time the front of a hit was put in its thread before it. -/
theorem front_done {ms : List (Int × Int)} {ys : List Int} {k : Nat} {a b : Int} (hp : ys.Perm (allL ms.length)) (hs : Srt (timeI ms) ys ms.length) (hk : ys[k]? = some a) (hb : b ∈ allL ms.length) (h : befI ms b a = true) : b ∈ ys.take k := by
  have hyl : ys.length = ms.length := by rw [hp.length_eq, allL_len]
  obtain ⟨j, hj⟩ := List.mem_iff_getElem?.1 (hp.mem_iff.2 hb)
  have hj1 := (List.getElem?_eq_some_iff.1 hj).1
  have ht : timeI ms b < timeI ms a := by
    unfold befI bef at h
    have := of_decide_eq_true h
    unfold timeI
    omega
  rcases Nat.lt_or_ge j k with h1 | h1
  · exact List.mem_iff_getElem?.2 ⟨j, by rw [List.getElem?_take_of_lt h1]; exact hj⟩
  · have e1 : ys.getD k 0 = a := by rw [List.getD_eq_getElem?_getD, hk]; rfl
    have e2 : ys.getD j 0 = b := by rw [List.getD_eq_getElem?_getD, hj]; rfl
    rcases Nat.eq_or_lt_of_le h1 with h2 | h2
    · subst h2
      rw [e1] at e2
      subst e2
      omega
    · have := hs k j h2 (by omega)
      rw [e1, e2] at this
      omega
/-- No other hit has the same front. -/
theorem front_one {fr : List Int} {a c : Int} (ha : 0 ≤ a) (hc : 0 ≤ c) (hn : frI fr a ≠ -1) (hcnt : ∀ y : Int, y ≠ -1 → fr.count y ≤ 1) (hne : c ≠ a) : frI fr c ≠ frI fr a := by
  intro e
  have h2 := frI_get hn
  have h3 := frI_get (fr := fr) (b := c) (by rw [e]; exact hn)
  rw [e] at h3
  have h4 := count_two h2 h3 (by omega)
  have := hcnt _ hn
  omega
/-- What the fronts are when all hits had their turn. -/
structure Fronts (ms : List (Int × Int)) (fr : List Int) : Prop where
  len : fr.length = ms.length
  one : ∀ y : Int, y ≠ -1 → fr.count y ≤ 1
  in_ : ∀ b : Int, 0 ≤ b → frI fr b = -1 ∨ (frI fr b ∈ allL ms.length ∧ befI ms (frI fr b) b = true)
  few : fr.count (-1) ≤ (layerL ms).length
theorem fronts_of {ms : List (Int × Int)} {failed C fr : List Int} (h : InvF ms (allL ms.length) failed C fr) : Fronts ms fr := by
  have h1 := invF_end h
  refine ⟨h.len, fun y hy => by rw [h.cnt y hy]; split <;> omega, fun b hb => ?_, by omega⟩
  by_cases hm : frI fr b = -1
  · exact .inl hm
  · rcases h.edge b hb with q | q
    · exact .inl q
    · refine .inr ⟨?_, q⟩
      have h3 := List.count_pos_iff.2 (List.mem_of_getElem? (frI_get hm))
      rw [h.cnt _ hm] at h3
      split at h3
      · rename_i z
        exact z.1
      · omega
end Go.Proofs.Ytmlkdjcjfkfdiaa
