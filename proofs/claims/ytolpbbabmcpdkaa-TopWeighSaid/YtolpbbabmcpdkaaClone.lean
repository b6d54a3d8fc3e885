/-
  Contracts: slices.Clone, Swapped (weigh).
-/
import Derived.Test.YtolpbbabmcpdkaaJoined
import Derived.Lib.SliceRun
set_option linter.unusedVariables false
set_option linter.unusedSimpArgs false
namespace Go.Proofs.Ytolpbbabmcpdkaa
open Go.RowKit

theorem nil_ints (w : World) (a : Option Addr) (n c : Nat) : (binOp .eql 22 (.slice a n c) (.slice none 0 0)).run Try.prog w = .ok (.bool a.isNone) w :=
  Lib.run_eql_slice_nil w 22 3 a n c 0 0 Try.underlying22
theorem own_empty (w : World) : (w.alloc (.cells #[] 3)).ownsRow w.heap.size 3 1 (.slice (some ⟨w.heap.size, 0, none⟩) 0 0) 0 (([] : List Int).map (Value.int .i64)) :=
  ⟨rfl, .inr ⟨w.heap.size, 0, _, rfl, Nat.le_refl _, heap_alloc_new w _, Nat.le_refl _, Nat.zero_le _, rfl, rfl⟩⟩
set_option maxRecDepth 100000 in
set_option maxHeartbeats 1000000 in
theorem clone_any (zs : List Int) (A : Option Addr) (c : Nat) (w : World) (h : Ints w A zs) (hn : 0 < zs.length) (hl : zs.length ≤ 1000) :
    Calls Try.prog 95 #[.slice A zs.length c] w fun e w' => ∃ A' c', e = .returned (.slice A' zs.length c') ∧ Out w' A' c' zs ∧ Below w.heap.size w w' ∧ (∀ x, A' = some x → w.heap.size ≤ x.block) := by
  obtain ⟨i0, hi0, hz0, hz1, hz2⟩ := info_parts int_info
  obtain ⟨b, o, rfl, hb, hc⟩ := h.open_ hn
  have HC : Hid (∀ j u, (zs.map (Value.int .i64))[j]? = some u → (w.alloc (.cells #[] 3)).cell? ((⟨b, o, none⟩ : Addr).add j) = some u) := Lib.hid (by
    intro j u hj
    rw [List.getElem?_map] at hj
    cases hz : zs[j]? with
    | none => rw [hz] at hj; cases hj
    | some z =>
      rw [hz] at hj
      cases hj
      rw [add_mk]
      exact (cell_ao hb).trans (hc j z hz))
  clear hc
  have HI := Lib.hid (And.intro hi0 (And.intro hz0 (And.intro hz1 hz2)))
  clear hi0 hz0 hz1 hz2
  have HNIL := nil_ints w (some ⟨b, o, none⟩) zs.length c
  rw [show (some (⟨b, o, none⟩ : Addr)).isNone = false from rfl] at HNIL
  go_enter Try.func95, Try.ntmps95
  go_wp2_with (at_builtin; refine wpList_append_own _ rfl (.tmp 5) (.tmp 6) 22 rfl w.heap.size 3 i0 (.int .i64 0) 1 8 Try.underlying22 HI.out.1 HI.out.2.1 HI.out.2.2.1 HI.out.2.2.2 rfl (by decide) _ 0 _ rfl (own_empty w) ⟨b, o, none⟩ zs.length c (zs.map (Value.int .i64)) rfl (by simp) HC.out (by intro u hu; obtain ⟨z, _, rfl⟩ := List.mem_map.1 hu; rfl) (by unfold maxLen; omega) (by omega) (by simp) ?_; intro v2 w2 hown2 hg2 hat2)
  go_ret
  have hB2 : Below w.heap.size w w2 := ((Below.refl _ w).alloc (Nat.le_refl _) _).grown hg2 (by simp) (by intro k hk; cases hk; exact Nat.le_refl _)
  have hown3 : w2.ownsRow w.heap.size 3 1 v2 (0 + zs.length) (zs.map (Value.int .i64)) := by simpa using hown2
  have hbs : ∀ A l c, v2 = .slice A l c → ∀ x, A = some x → w.heap.size ≤ x.block := by
    intro A l c hv x hx
    subst hv hx
    rcases hown3.2 with ⟨h0, _⟩ | ⟨g, cap, cur, h1, h2, _⟩
    · cases h0
    · cases h1; exact h2
  obtain ⟨A', c', rfl, hO⟩ := own_ints hown3
  exact ⟨A', c', rfl, hO, hB2, hbs _ _ _ rfl⟩

set_option maxRecDepth 100000 in
set_option maxHeartbeats 1000000 in
theorem wSwapped_no (ns ss : List Int) (A B : Option Addr) (c d : Nat) (w : World) (hA : Ints w A ns) (hB : Ints w B ss) (hl : ns.length ≤ 1000) (hl2 : ss.length ≤ 1000) (hv : odB ns ss = false) :
    Calls Try.prog 49 #[.agg #[.slice A ns.length c, .slice B ss.length d]] w fun e w' => e = .returned (.tuple #[.agg #[.slice none 0 0, .slice none 0 0], .int .i64 70]) ∧ Below w.heap.size w w' := by
  have HA := Lib.hid hA
  have HB := Lib.hid hB
  have HV := Lib.hid hv
  clear hA hB hv
  obtain ⟨W0, hW0, HW, H0, H1, z0, z1⟩ := two_new w #[.slice A ns.length c, .slice B ss.length d] #[.slice none 0 0, .slice none 0 0] 24 24
  go_enter Try.func49, Try.ntmps49
  go_wp2_with (go_at_call 21; with_reducible refine (valid_any ns ss _ _ _ _ _ (HA.out.below (by repeat (first | with_reducible exact Below.refl _ _ | with_reducible assumption | refine below_drewN ?_ _ | with_reducible refine Below.drew ?_ | (refine Below.setCell ?_ (by first | (simp; done) | (simp; omega) | omega) _) | (refine Below.alloc ?_ (by first | (simp; done) | (simp; omega) | omega) _)))) (HB.out.below (by repeat (first | with_reducible exact Below.refl _ _ | with_reducible assumption | refine below_drewN ?_ _ | with_reducible refine Below.drew ?_ | (refine Below.setCell ?_ (by first | (simp; done) | (simp; omega) | omega) _) | (refine Below.alloc ?_ (by first | (simp; done) | (simp; omega) | omega) _)))) hl hl2).mono ?_; rintro e w1 ⟨rfl, hB1⟩; rw [HV.out]; rw [← hW0] at hB1; have H0 := Lib.hid ((hB1.block _ z0).trans H0.out); have z0 := Nat.lt_of_lt_of_le z0 hB1.size; have b0 : World.cell? _ ⟨_, 0, none⟩ = some (.slice A ns.length c) := blk_cell H0.out 0 rfl; have b1 : World.cell? _ ⟨_, 1, none⟩ = some (.slice B ss.length d) := blk_cell H0.out 1 rfl; have H1 := Lib.hid ((hB1.block _ z1).trans H1.out); have z1 := Nat.lt_of_lt_of_le z1 hB1.size; have c0 : World.cell? _ ⟨_, 0, none⟩ = some (.slice none 0 0) := blk_cell H1.out 0 rfl; have c1 : World.cell? _ ⟨_, 1, none⟩ = some (.slice none 0 0) := blk_cell H1.out 1 rfl; have cf0 := blk_frozen H1.out 0; have cf1 := blk_frozen H1.out 1; have HW : Hid (Below w.heap.size w _) := Lib.hid (below_step (by first | exact HW.out | exact Below.drew HW.out | exact below_drewN HW.out _) hB1); clear hB1)
  exact bodyPost_ret (v := .tuple #[.agg #[.slice none 0 0, .slice none 0 0], .int .i64 70]) (by simp [results, Try.results49, go_sem, c0, c1]) rfl ⟨rfl, (by repeat (first | with_reducible exact HW.out | with_reducible exact Below.refl _ _ | with_reducible refine below_drewN ?_ _ | with_reducible refine Below.drew ?_ | (with_reducible refine Below.setCell ?_ (by first | exact Nat.le_refl _ | exact Nat.le_succ _ | (simp; done) | (simp; omega) | omega) _) | (with_reducible refine Below.alloc ?_ (by first | exact HW.out.size | (simp; done) | (simp; omega) | omega) _)))⟩

theorem set2_out {w : World} {A : Option Addr} {c : Nat} {zs : List Int} (h : Out w A c zs) {g : Nat} {u v : Value} (hne : ∀ x, A = some x → x.block ≠ g) : Out ((w.setCell ⟨g, 0, none⟩ u).setCell ⟨g, 1, none⟩ v) A c zs :=
  ⟨⟨h.ints.1, fun hn => by
    obtain ⟨ad, e, hlt, hc⟩ := h.ints.2 hn
    refine ⟨ad, e, by simpa using hlt, fun j u hu => ?_⟩
    have hb : (ad.add j).block ≠ g := by rw [block_of_add]; exact hne ad e
    exact (cell_set1 _ hb).trans ((cell_set1 _ hb).trans (hc j u hu))⟩, h.le, h.cap⟩
set_option maxRecDepth 100000 in
set_option maxHeartbeats 1000000 in
theorem wSwapped_yes (ns ss : List Int) (A B : Option Addr) (c d : Nat) (w : World) (hA : Ints w A ns) (hB : Ints w B ss) (hv : odB ns ss = true) :
    Calls Try.prog 49 #[.agg #[.slice A ns.length c, .slice B ss.length d]] w fun e w' => ∃ S' s' N' n', e = .returned (.tuple #[.agg #[.slice S' ss.length s', .slice N' ns.length n'], .int .i64 0]) ∧ Out w' S' s' ss ∧ Out w' N' n' ns ∧ Below w.heap.size w w' := by
  have ho := od_of hv
  obtain ⟨hl, hl2⟩ := ho.l3
  have hn1 := ho.pos
  have hn2 : 0 < ss.length := by have := ho.len; omega
  have HA := Lib.hid hA
  have HB := Lib.hid hB
  have HV := Lib.hid hv
  clear hA hB hv
  obtain ⟨W0, hW0, HW, H0, H1, z0, z1⟩ := two_new w #[.slice A ns.length c, .slice B ss.length d] #[.slice none 0 0, .slice none 0 0] 24 24
  go_enter Try.func49, Try.ntmps49
  go_wp2_with (go_at_call 21; with_reducible refine (valid_any ns ss _ _ _ _ _ (HA.out.below (by repeat (first | with_reducible exact Below.refl _ _ | with_reducible assumption | refine below_drewN ?_ _ | with_reducible refine Below.drew ?_ | (refine Below.setCell ?_ (by first | (simp; done) | (simp; omega) | omega) _) | (refine Below.alloc ?_ (by first | (simp; done) | (simp; omega) | omega) _)))) (HB.out.below (by repeat (first | with_reducible exact Below.refl _ _ | with_reducible assumption | refine below_drewN ?_ _ | with_reducible refine Below.drew ?_ | (refine Below.setCell ?_ (by first | (simp; done) | (simp; omega) | omega) _) | (refine Below.alloc ?_ (by first | (simp; done) | (simp; omega) | omega) _)))) hl hl2).mono ?_; rintro e w1 ⟨rfl, hB1⟩; rw [HV.out]; rw [← hW0] at hB1; have H0 := Lib.hid ((hB1.block _ z0).trans H0.out); have z0 := Nat.lt_of_lt_of_le z0 hB1.size; have b0 : World.cell? _ ⟨_, 0, none⟩ = some (.slice A ns.length c) := blk_cell H0.out 0 rfl; have b1 : World.cell? _ ⟨_, 1, none⟩ = some (.slice B ss.length d) := blk_cell H0.out 1 rfl; have H1 := Lib.hid ((hB1.block _ z1).trans H1.out); have z1 := Nat.lt_of_lt_of_le z1 hB1.size; have c0 : World.cell? _ ⟨_, 0, none⟩ = some (.slice none 0 0) := blk_cell H1.out 0 rfl; have c1 : World.cell? _ ⟨_, 1, none⟩ = some (.slice none 0 0) := blk_cell H1.out 1 rfl; have cf0 := blk_frozen H1.out 0; have cf1 := blk_frozen H1.out 1; have HW : Hid (Below w.heap.size w _) := Lib.hid (below_step (by first | exact HW.out | exact Below.drew HW.out | exact below_drewN HW.out _) hB1); clear hB1)
  have z01 : w.heap.size ≠ w.heap.size + 1 := by omega
  go_region_held3 (fun W => W.cell? ⟨w.heap.size, 0, none⟩ = some (.slice A ns.length c) ∧ W.cell? ⟨w.heap.size, 1, none⟩ = some (.slice B ss.length d))
    ((first | with_reducible exact ⟨b0, b1⟩ | (refine ⟨?_, ?_⟩ <;> (repeat (first | with_reducible refine (cell_set1 _ z01).trans ?_ | with_reducible refine (cell_drew1 _ _).trans ?_)) <;> first | with_reducible exact b0 | with_reducible exact b1)))
    ((first
    | (go_at_call 95; with_reducible refine (clone_any ss B d _ (HB.out.below (by first | exact HW.out | exact Below.drew HW.out | exact below_drewN HW.out _)) hn2 hl2).mono ?_; rintro e w2 ⟨S', s', rfl, hS, hB2, hSb⟩; (try have HN := Lib.hid (HN.out.below (by first | exact hB2 | exact hB2))); have HS := Lib.hid hS; have HSb : Hid (∀ x, S' = some x → x.block ≠ w.heap.size + 1) := Lib.hid (fun x hx => by have := hSb x hx; have := z1; simp at *; omega); have H0 := Lib.hid ((hB2.block _ z0).trans H0.out); have z0 := Nat.lt_of_lt_of_le z0 hB2.size; have b0 : World.cell? _ ⟨_, 0, none⟩ = some (.slice A ns.length c) := blk_cell H0.out 0 rfl; have b1 : World.cell? _ ⟨_, 1, none⟩ = some (.slice B ss.length d) := blk_cell H0.out 1 rfl; have H1 := Lib.hid ((hB2.block _ z1).trans H1.out); have z1 := Nat.lt_of_lt_of_le z1 hB2.size; have c0 : World.cell? _ ⟨_, 0, none⟩ = some (.slice none 0 0) := blk_cell H1.out 0 rfl; have c1 : World.cell? _ ⟨_, 1, none⟩ = some (.slice none 0 0) := blk_cell H1.out 1 rfl; have cf0 := blk_frozen H1.out 0; have cf1 := blk_frozen H1.out 1; have HW : Hid (Below w.heap.size w _) := Lib.hid (below_step (by first | exact HW.out | exact Below.drew HW.out | exact below_drewN HW.out _) hB2); clear hS hB2 hSb)
    | (go_at_call 95; with_reducible refine (clone_any ns A c _ (HA.out.below (by first | exact HW.out | exact Below.drew HW.out | exact below_drewN HW.out _)) hn1 hl).mono ?_; rintro e w3 ⟨N', n', rfl, hN, hB3, hNb⟩; (try have HS := Lib.hid (HS.out.below (by first | exact hB3 | exact hB3))); have HN := Lib.hid hN; have HNb : Hid (∀ x, N' = some x → x.block ≠ w.heap.size + 1) := Lib.hid (fun x hx => by have := hNb x hx; have := z1; simp at *; omega); have H0 := Lib.hid ((hB3.block _ z0).trans H0.out); have z0 := Nat.lt_of_lt_of_le z0 hB3.size; have b0 : World.cell? _ ⟨_, 0, none⟩ = some (.slice A ns.length c) := blk_cell H0.out 0 rfl; have b1 : World.cell? _ ⟨_, 1, none⟩ = some (.slice B ss.length d) := blk_cell H0.out 1 rfl; have H1 := Lib.hid ((hB3.block _ z1).trans H1.out); have z1 := Nat.lt_of_lt_of_le z1 hB3.size; have c0 : World.cell? _ ⟨_, 0, none⟩ = some (.slice none 0 0) := blk_cell H1.out 0 rfl; have c1 : World.cell? _ ⟨_, 1, none⟩ = some (.slice none 0 0) := blk_cell H1.out 1 rfl; have cf0 := blk_frozen H1.out 0; have cf1 := blk_frozen H1.out 1; have HW : Hid (Below w.heap.size w _) := Lib.hid (below_step (by first | exact HW.out | exact Below.drew HW.out | exact below_drewN HW.out _) hB3); clear hN hB3 hNb)))
  all_goals
    go_wp2
    exact bodyPost_ret (v := .tuple #[.agg #[.slice S' ss.length s', .slice N' ns.length n'], .int .i64 0]) (by simp [results, Try.results49, go_sem, c0, c1]) rfl ⟨S', s', N', n', rfl, set2_out HS.out HSb.out, set2_out HN.out HNb.out, (by repeat (first | with_reducible exact HW.out | with_reducible exact Below.refl _ _ | with_reducible refine below_drewN ?_ _ | with_reducible refine Below.drew ?_ | (with_reducible refine Below.setCell ?_ (by first | exact Nat.le_refl _ | exact Nat.le_succ _ | (simp; done) | (simp; omega) | omega) _) | (with_reducible refine Below.alloc ?_ (by first | exact HW.out.size | (simp; done) | (simp; omega) | omega) _)))⟩
end Go.Proofs.Ytolpbbabmcpdkaa
