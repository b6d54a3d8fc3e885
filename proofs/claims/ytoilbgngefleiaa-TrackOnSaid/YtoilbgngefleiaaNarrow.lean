/-
  Contracts: narrowest, Narrowest (track).
-/
import Derived.Test.YtoilbgngefleiaaAmid
import Derived.Test.YtoilbgngefleiaaJoined
namespace Go.Proofs.Ytoilbgngefleiaa
open Go Go.RowKit Go.Shelf

def LnP (x : Ln) : Prop := LnB x.1 x.2.1 x.2.2
def widT (ms : List (Int × Int)) (x : Ln) : Int × Int := (lowN (widI ms x.1 x.2.1 x.2.2) x.2.2, lowD (widI ms x.1 x.2.1 x.2.2) x.2.2)
theorem width_told {ms : List (Int × Int)} {A : Option Addr} {c : Nat} {w : World} (h : Clk w A c ms) (hv : viP ms = true) : ToldAt 68 (widT ms) LnP A ms.length c w := fun W x hW hx => by
  obtain ⟨⟨hn1, hn2⟩, hpt, _⟩ := vi_parts hv
  exact width_any ms A c x.1 x.2.1 x.2.2 W (h.marks.below hW) (by omega) hx (List.all_eq_true.2 hpt)
theorem wid_cross {ms : List (Int × Int)} (hv : viP ms = true) : CrossOk (widT ms) LnP := fun x y hx hy => by
  obtain ⟨⟨hn1, hn2⟩, hpt, _⟩ := vi_parts hv
  have h1 := mostA_bd (ms.map (rsI x.1 x.2.1 x.2.2)) (rs_all hx (List.all_eq_true.2 hpt))
  rw [List.length_map] at h1
  have h2 : 0 ≤ widI ms x.1 x.2.1 x.2.2 ∧ widI ms x.1 x.2.1 x.2.2 ≤ 14400000000 := by unfold widI; omega
  have h3 := lowN_abs (n := widI ms x.1 x.2.1 x.2.2) (d := x.2.2) (M := 14400000000) (by have := hx.2.2; omega) (by omega) h2.2
  have h4 := lowD_bd (n := widI ms y.1 y.2.1 y.2.2) (d := y.2.2) (by have := hy.2.2; omega)
  have h5 := mulBox (X := 14400000000) (Y := 100000) h3.1 h3.2 (show -100000 ≤ lowD (widI ms y.1 y.2.1 y.2.2) y.2.2 by omega) (by have := hy.2.2; omega)
  unfold widT
  simp only
  omega
theorem pairs_some {ms : List (Int × Int)} (hv : viP ms = true) : 0 < (pairsL ms ms.length).length := by
  obtain ⟨⟨hn1, _⟩, _, q, hq, hne⟩ := vi_parts hv
  obtain ⟨k, hk⟩ := List.mem_iff_getElem?.1 hq
  have hkl := (List.getElem?_eq_some_iff.1 hk).1
  have hh : ms[0]? = some (ms.headD (0, 0)) := by
    cases ms with
    | nil => simp at hn1
    | cons a t => rfl
  have hk0 : 0 < k := by
    rcases Nat.eq_zero_or_pos k with h | h
    · subst h
      rw [hh] at hk
      cases hk
      exact absurd rfl hne
    · exact h
  have hm : (ms.headD (0, 0), q) ∈ pairsL ms ms.length := by
    refine List.mem_flatMap.2 ⟨k, List.mem_range.2 hkl, ?_⟩
    rw [List.getD_eq_getElem?_getD, hk, Option.getD_some]
    refine List.mem_map.2 ⟨ms.headD (0, 0), List.mem_filter.2 ⟨List.mem_iff_getElem?.2 ⟨0, by rw [List.getElem?_take_of_lt hk0]; exact hh⟩, decide_eq_true (fun e => hne e.symm)⟩, rfl⟩
  exact List.length_pos_of_mem hm
def narL (ms : List (Int × Int)) : Ln := bestL (widT ms) (amL ms) ms
theorem nar_ln {ms : List (Int × Int)} (hv : viP ms = true) : LnP (narL ms) := by
  obtain ⟨⟨hn1, hn2⟩, hpt, _⟩ := vi_parts hv
  have hm := minF_mem (cmpT (widT ms)) (ls := (pairsL ms ms.length).map (amL ms)) (by rw [List.length_map]; exact pairs_some hv)
  obtain ⟨x, hx, e⟩ := List.mem_map.1 hm
  have hx2 := pairs_mem hx
  rw [narL, bestL, ← e]
  exact am_ln (by omega) hpt (hpt _ hx2.1) (hpt _ hx2.2.1) hx2.2.2
set_option maxHeartbeats 1000000 in
theorem amid_call (a : Option Addr) (len cap : Nat) (w : World) :
    Calls Try.prog 95 #[.slice a len cap] w fun e w' => e = .returned (.func (.func 113) #[] #[.pointer (some ⟨w.heap.size, 0, none⟩)]) ∧ w' = w.alloc (.cells #[.slice a len cap] 22) := by
  go_enter Try.func95, Try.ntmps95
  go_wp2
  go_ret
  exact ⟨rfl, rfl⟩
set_option maxRecDepth 100000 in
set_option maxHeartbeats 1000000 in
theorem narrowest_any (ms : List (Int × Int)) (A : Option Addr) (c : Nat) (w : World) (h : Clk w A c ms) (hv : viP ms = true) :
    Calls Try.prog 72 #[.slice A ms.length c] w fun e w' => e = .returned (lnV (narL ms)) ∧ Below w.heap.size w w' := by
  obtain ⟨⟨hn1, hn2⟩, hpt, _⟩ := vi_parts hv
  obtain ⟨⟨rx, ry, rz⟩, hr⟩ : ∃ z, narL ms = z := ⟨_, rfl⟩
  have HE : Hid (lnV (narL ms) = .agg #[.int .i64 rx, .int .i64 ry, .int .i64 rz]) := Lib.hid (by rw [hr]; rfl)
  obtain ⟨W1, hW1⟩ : ∃ W1, (w.alloc (.cells #[.int .i64 0, .int .i64 0, .int .i64 0] 24)).alloc (.cells #[.slice A ms.length c] 22) = W1 := ⟨_, rfl⟩
  have hB1 : Below w.heap.size w W1 := by rw [← hW1]; exact ((Below.refl _ _).alloc (Nat.le_refl _) _).alloc (by simp) _
  have hz : W1.heap.size = w.heap.size + 2 := by rw [← hW1]; simp
  have g0 : W1.heap[w.heap.size]? = some (.cells #[.int .i64 0, .int .i64 0, .int .i64 0] 24 (0, 0)) := by rw [← hW1]; exact (Below.heap_alloc _ _ _ (by simp)).trans (heap_alloc_new _ _)
  have g1 : W1.cell? ⟨w.heap.size + 1, 0, none⟩ = some (.slice A ms.length c) := by subst hW1; go_simp
  have HB := Lib.hid (best_any 113 #[.pointer (some ⟨w.heap.size + 1, 0, none⟩)] (amL ms) 68 (widT ms) LnP ms A c W1 (h.below hB1) hv (pairs_some hv) (amid_any ms A c W1 (w.heap.size + 1) (h.below hB1) hv (by omega) g1) (enters_of Try.func113 (by kernel_rfl) rfl)
    (width_told (h.below hB1) hv) (enters_of Try.func68 (by kernel_rfl) rfl) (wid_cross hv) (fun x hx => am_ln (by omega) hpt (hpt _ (pairs_mem hx).1) (hpt _ (pairs_mem hx).2.1) (pairs_mem hx).2.2))
  have HB1 := Lib.hid hB1
  have HG0 := Lib.hid g0
  clear h hv hpt hB1 g0 g1
  go_enter Try.func72, Try.ntmps72
  go_wp2_with (first
    | (go_at_call 95; refine (amid_call _ _ _ _).mono ?_; rintro e w' ⟨rfl, rfl⟩)
    | (go_at_call 94; refine HB.out.mono ?_; rintro e w2 ⟨he, hB2⟩; rw [← narL, HE.out] at he; subst he; have hg2 := (hB2.block _ (by omega)).trans HG0.out)
    | (refine wpList_store_row rfl 24 (.tmp 2) (.tmp 6) rfl w.heap.size #[.int .i64 rx, .int .i64 ry, .int .i64 rz] rfl rfl 24 _ hg2 (by kernel_rfl) (by kernel_rfl) (by kernel_rfl) ?_; refine row_world3 w.heap.size w _ _ (w.heap.size + 1) _ _ _ hg2 (below_step HB1.out hB2) (Nat.le_refl _) (by omega) (fun X hX1 hX3 hX2 => ?_))
    | fail)
  have r0 : X.cell? ⟨w.heap.size, 0, none⟩ = some (.int .i64 rx) := by rw [cell_of_row X _ 0 _ _ (0, 0) hX1]; rfl
  have r1 : X.cell? ⟨w.heap.size, 1, none⟩ = some (.int .i64 ry) := by rw [cell_of_row X _ 1 _ _ (0, 0) hX1]; rfl
  have r2 : X.cell? ⟨w.heap.size, 2, none⟩ = some (.int .i64 rz) := by rw [cell_of_row X _ 2 _ _ (0, 0) hX1]; rfl
  exact bodyPost_ret (v := lnV (narL ms)) (by rw [HE.out]; simp [results, Try.results72, go_sem, r0, r1, r2]) rfl ⟨rfl, hX2⟩
end Go.Proofs.Ytoilbgngefleiaa
