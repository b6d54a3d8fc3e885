/-
  Contracts: slices.Delete of one element of an own slice of ints; merged (weigh).
-/
import Derived.Test.YtolpbbabmcpdkaaRefMerged
import Derived.Test.YtolpbbabmcpdkaaCutW
import Derived.Test.YtolpbbabmcpdkaaClone
import Derived.Test.YtolpbbabmcpdkaaShelf
import Derived.Sort.OwnSortedInts
import Derived.Laws.OwnMore
import Derived.Deep.RegionLaw
set_option linter.unusedVariables false
set_option linter.unusedSimpArgs false
namespace Go.Proofs.Ytolpbbabmcpdkaa
open Go Go.RowKit Go.Shelf Go.Sort

theorem delete_own (xs : List Int) (g cap k base : Nat) (w : World) (h : w.ownsRow base 3 1 (.slice (some ⟨g, 0, none⟩) xs.length cap) xs.length (xs.map (Value.int .i64))) (hk : k < xs.length) :
    Calls Try.prog 112 #[.slice (some ⟨g, 0, none⟩) xs.length cap, .int .i64 k, .int .i64 ((k : Int) + 1)] w fun e w' => e = .returned (.slice (some ⟨g, 0, none⟩) (xs.length - 1) cap) ∧
      w'.ownsRow base 3 1 (.slice (some ⟨g, 0, none⟩) (xs.length - 1) cap) (xs.length - 1) ((xs.take k ++ xs.drop (k + 1)).map (Value.int .i64)) ∧ Below base w w' := by
  have h0 := h
  rcases h.2 with ⟨hn, _⟩ | ⟨g', cap', cur, hv, hb, hg, hnc, hcm, hcs, htake⟩
  · simp at hn
  · injection hv with e1 e2 e3
    injection e1 with e1
    injection e1 with e1
    subst e1 e3
    have hH : Holds (Value.int .i64) w g 0 xs.toArray := by
      intro j hj
      have hj' : j < xs.length := by simpa using hj
      rw [Nat.zero_add]
      refine ⟨?_, h0.frozenAt j⟩
      rw [h0.cellAt j (by omega), List.getElem?_map, List.getElem?_eq_getElem hj']
      simp [hj']
    have := slices_Delete_int g 0 cap k (k + 1) xs w hH hnc (by unfold maxLen at hcm; omega) (by omega) (by omega)
    refine this.mono fun e w' ⟨he, q, hw⟩ => ?_
    have hl : (xs.take k ++ xs.drop (k + 1) ++ List.replicate (k + 1 - k) 0).length = xs.length := by simp; omega
    have ho := ownsRow_sortedI (w := w) (base := base) (g := g) (cap := cap) (n := q) (os := #[]) (cur := cur) (ss := xs) (ts := xs.take k ++ xs.drop (k + 1) ++ List.replicate (k + 1 - k) 0) hl hb hg hnc hcm hcs
    rw [grow_empty] at ho
    have hgr := grownBy_sortedI (w := w) (g := g) (n := q) (os := #[]) (xs.take k ++ xs.drop (k + 1) ++ List.replicate (k + 1 - k) 0).toArray
    rw [grow_empty] at hgr
    rw [← hw] at ho hgr
    have ho2 := own_take ho (show xs.length - 1 ≤ xs.length by omega)
    have hl2 : (xs.take k ++ xs.drop (k + 1)).length = xs.length - 1 := by simp; omega
    have hts : (xs.take k ++ xs.drop (k + 1) ++ List.replicate (k + 1 - k) 0).take (xs.length - 1) = xs.take k ++ xs.drop (k + 1) := by
      rw [List.take_append_of_le_length (by omega), List.take_of_length_le (by omega)]
    rw [← List.map_take, hts] at ho2
    refine ⟨by rw [he, show xs.length - (k + 1 - k) = xs.length - 1 by omega], ho2, (Below.refl base w).grown hgr ?_ ?_⟩
    · have := (Array.getElem?_eq_some_iff.1 hg).1; omega
    · intro k' hk'; cases hk'; exact hb

theorem mg_eq {xs : List Int} {a b : Nat} (hb : b < xs.length) : mgL xs a b = (stM xs a b).take b ++ (stM xs a b).drop (b + 1) := by
  have hl : (stM xs a b).length = xs.length := by simp [stM]
  unfold mgL oK
  rw [show min xs.length b = b by omega]
  congr 1
  exact List.take_of_length_le (by simp; omega)

set_option maxRecDepth 100000 in
set_option maxHeartbeats 1000000 in
theorem clone_own (zs : List Int) (A : Option Addr) (c : Nat) (w : World) (h : Ints w A zs) (hn : 0 < zs.length) (hl : zs.length ≤ 1000) :
    Calls Try.prog 95 #[.slice A zs.length c] w fun e w' => ∃ v, e = .returned v ∧ w'.ownsRow w.heap.size 3 1 v zs.length (zs.map (Value.int .i64)) ∧ Below w.heap.size w w' := by
  obtain ⟨i0, hi0, hz0, hz1, hz2⟩ := info_parts int_info
  obtain ⟨b, o, rfl, hb, hc⟩ := h.open_ hn
  have HC : Hid (∀ j u, (zs.map (Value.int .i64))[j]? = some u → (w.alloc (.cells #[] 3)).cell? ((⟨b, o, none⟩ : Addr).add j) = some u) := Lib.hid (by
    intro j u hj
    rw [List.getElem?_map] at hj
    cases hz : zs[j]? with
    | none => rw [hz] at hj; cases hj
    | some z =>
      rw [hz] at hj
      cases hj
      rw [add_mk]
      exact (cell_ao hb).trans (hc j z hz))
  clear hc
  have HI := Lib.hid (And.intro hi0 (And.intro hz0 (And.intro hz1 hz2)))
  clear hi0 hz0 hz1 hz2
  have HNIL := nil_ints w (some ⟨b, o, none⟩) zs.length c
  rw [show (some (⟨b, o, none⟩ : Addr)).isNone = false from rfl] at HNIL
  go_enter Try.func95, Try.ntmps95
  go_wp2_with (at_builtin; refine wpList_append_own _ rfl (.tmp 5) (.tmp 6) 22 rfl w.heap.size 3 i0 (.int .i64 0) 1 8 Try.underlying22 HI.out.1 HI.out.2.1 HI.out.2.2.1 HI.out.2.2.2 rfl (by decide) _ 0 _ rfl (own_empty w) ⟨b, o, none⟩ zs.length c (zs.map (Value.int .i64)) rfl (by simp) HC.out (by intro u hu; obtain ⟨z, _, rfl⟩ := List.mem_map.1 hu; rfl) (by unfold maxLen; omega) (by omega) (by simp) ?_; intro v2 w2 hown2 hg2 hat2)
  go_ret
  have hB2 : Below w.heap.size w w2 := ((Below.refl _ w).alloc (Nat.le_refl _) _).grown hg2 (by simp) (by intro k hk; cases hk; exact Nat.le_refl _)
  exact ⟨v2, rfl, by simpa using hown2, hB2⟩

set_option maxRecDepth 100000 in
set_option maxHeartbeats 2000000 in
theorem merged_own (xs : List Int) (A : Option Addr) (c a b : Nat) (w : World) (hA : Ints w A xs) (hl : xs.length ≤ 1000) (hab : a < b) (hb : b < xs.length) (hx : ∀ z ∈ xs, 0 ≤ z ∧ z ≤ 1000) :
    Calls Try.prog 93 #[.slice A xs.length c, .int .i64 a, .int .i64 b] w fun e w' => ∃ A' c', e = .returned (.slice A' (mgL xs a b).length c') ∧ Out w' A' c' (mgL xs a b) ∧ Below w.heap.size w w' := by
  have hn : 0 < xs.length := by omega
  have HCL : Hid (Calls Try.prog 95 #[.slice A xs.length c] w fun e w' => ∃ v, e = .returned v ∧ w'.ownsRow w.heap.size 3 1 v xs.length (xs.map (Value.int .i64)) ∧ Below w.heap.size w w') := Lib.hid (clone_own xs A c w hA hn hl)
  obtain ⟨x, hxa⟩ := getElem?_of_lt (show a < xs.length by omega)
  obtain ⟨y, hyb⟩ := getElem?_of_lt hb
  obtain ⟨x0, x1⟩ := hx x (List.mem_of_getElem? hxa)
  obtain ⟨y0, y1⟩ := hx y (List.mem_of_getElem? hyb)
  have HS : Hid ((xs.map (Value.int .i64)).set a (.int .i64 (x + y)) = (stM xs a b).map (Value.int .i64)) := Lib.hid (by
    unfold stM
    rw [List.map_set, List.getD_eq_getElem?_getD, List.getD_eq_getElem?_getD, hxa, hyb]; rfl)
  have HSL : Hid ((stM xs a b).length = xs.length) := Lib.hid (by simp [stM])
  have HM := Lib.hid (mg_eq (a := a) hb)
  have HML : Hid ((mgL xs a b).length = xs.length - 1) := Lib.hid (by rw [HM.out]; simp [HSL.out]; omega)
  have HDEL : Hid (∀ (W : World) (g c1 : Nat), W.ownsRow w.heap.size 3 1 (.slice (some ⟨g, 0, none⟩) xs.length c1) xs.length ((stM xs a b).map (Value.int .i64)) → Calls Try.prog 112 #[.slice (some ⟨g, 0, none⟩) xs.length c1, .int .i64 b, .int .i64 ((b : Int) + 1)] W fun e w' => e = .returned (.slice (some ⟨g, 0, none⟩) (xs.length - 1) c1) ∧ Out w' (some ⟨g, 0, none⟩) c1 (mgL xs a b) ∧ Below w.heap.size W w') := Lib.hid (by
    intro W g c1 ho
    rw [← HSL.out] at ho
    have := delete_own (stM xs a b) g c1 b w.heap.size W ho (by rw [HSL.out]; exact hb)
    rw [HSL.out] at this
    refine this.mono fun e w' ⟨he, hr, hB⟩ => ⟨he, ?_, hB⟩
    rw [← HM.out] at hr
    obtain ⟨A', c', h1, h2⟩ := own_ints hr
    injection h1 with e1 e2 e3
    subst e1 e3; exact h2)
  have HXA := Lib.hid hxa
  have HYB := Lib.hid hyb
  have s1 : IntKind.i64.wrap (x + y) = x + y := IntWalk.i64_in _ (by omega)
  have s2 : IntKind.i64.wrap ((b : Int) + 1) = (b : Int) + 1 := IntWalk.i64_in _ (by omega)
  clear hx hxa hyb hA
  go_enter Try.func93, Try.ntmps93
  go_wp2_with (go_at_call 95; refine HCL.out.mono ?_; rintro e w1 ⟨v1, rfl, ho1, hB1⟩; obtain ⟨g, c1, rfl, hg1, hg2⟩ := ho1.form hn)
  have c0 := (ho1.cellAt a (by omega)).trans (by rw [List.getElem?_map, HXA.out]; rfl : (xs.map (Value.int .i64))[a]? = some (.int .i64 x))
  have c1' := (ho1.cellAt b (by omega)).trans (by rw [List.getElem?_map, HYB.out]; rfl : (xs.map (Value.int .i64))[b]? = some (.int .i64 y))
  have f0 := ho1.frozenAt a
  have hst := (ho1.stored a (.int .i64 (x + y))).1
  rw [HS.out] at hst
  have HST := Lib.hid hst
  have HB1 := Lib.hid hB1
  have han : a < xs.length := by omega
  clear hst ho1 hB1
  go_region_law (fail)
  all_goals
    have HB2 : Hid (Below w.heap.size w (w1.setCell ⟨g, a, none⟩ (.int .i64 (x + y)))) := Lib.hid (HB1.out.setCell hg1 _)
    go_wp2_with (go_at_call 112; (first | with_reducible refine (HDEL.out _ _ _ HST.out).mono ?_ | with_reducible refine (HDEL.out _ _ _ (World.ownsRow.drew HST.out)).mono ?_ | with_reducible refine (HDEL.out _ _ _ (World.ownsRow.drew (World.ownsRow.drew HST.out))).mono ?_); rintro e w3 ⟨rfl, hO, hB3⟩; have HO := Lib.hid hO; have HB3 := Lib.hid (Below.trans (by first | exact HB2.out | exact Below.drew HB2.out | exact Below.drew (Below.drew HB2.out)) hB3); clear hO hB3)
    go_ret
    exact ⟨_, c1, by rw [HML.out]; rfl, HO.out, HB3.out⟩
end Go.Proofs.Ytolpbbabmcpdkaa
