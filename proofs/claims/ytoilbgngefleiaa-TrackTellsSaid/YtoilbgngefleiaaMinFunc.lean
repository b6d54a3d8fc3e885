/-
  Contract: slices.MinFunc of lines, for any way to compare them.
-/
import Derived.Test.YtoilbgngefleiaaThrough
import Derived.Test.YtoilbgngefleiaaGrow
import Derived.Deep.WholeRow
import Derived.Deep.CutRange
namespace Go.Proofs.Ytoilbgngefleiaa
open Go Go.RowKit Go.Shelf

abbrev Ln := Int × Int × Int
def mk3 (x : Ln) : List Value := [.int .i64 x.1, .int .i64 x.2.1, .int .i64 x.2.2]
def lnV (x : Ln) : Value := .agg #[.int .i64 x.1, .int .i64 x.2.1, .int .i64 x.2.2]
def LinesR (w : World) (A : Option Addr) (ls : List Ln) : Prop := Reads w w.heap.size 3 A ls.length (ls.flatMap mk3)
theorem flat3_get : ∀ (ls : List Ln) (k : Nat) (m : Ln), ls[k]? = some m → (ls.flatMap mk3)[3 * k]? = some (.int .i64 m.1) ∧ (ls.flatMap mk3)[3 * k + 1]? = some (.int .i64 m.2.1) ∧ (ls.flatMap mk3)[3 * k + 2]? = some (.int .i64 m.2.2)
  | [], k, m, h => by simp at h
  | a :: t, 0, m, h => by simp at h; subst h; simp [mk3]
  | a :: t, k + 1, m, h => by
    have := flat3_get t k m (by simpa using h)
    rw [show 3 * (k + 1) = 3 * k + 3 by omega]
    simpa [mk3] using this
theorem LinesR.below {w w' : World} {A : Option Addr} {ls : List Ln} (h : LinesR w A ls) (hb : Below w.heap.size w w') : LinesR w' A ls := (Reads.below h hb).more hb.size
theorem LinesR.open_ {w : World} {A : Option Addr} {ls : List Ln} (h : LinesR w A ls) (hn : 0 < ls.length) :
    ∃ b o, A = some ⟨b, o, none⟩ ∧ b < w.heap.size ∧ ∀ (k : Nat) (m : Ln), ls[k]? = some m → w.cell? ⟨b, o + k * 3, none⟩ = some (.int .i64 m.1) ∧ w.cell? ⟨b, o + k * 3 + 1, none⟩ = some (.int .i64 m.2.1) ∧ w.cell? ⟨b, o + k * 3 + 2, none⟩ = some (.int .i64 m.2.2) := by
  obtain ⟨ad, e, hb, hall⟩ := h.2 hn
  obtain ⟨m0, hm0⟩ : ∃ m, ls[0]? = some m := ⟨_, List.getElem?_eq_getElem hn⟩
  have hc := hall 0 _ (flat3_get ls 0 m0 hm0).1
  obtain ⟨b, o, s⟩ := ad
  have hs : s = none := by simpa [Addr.add] using World.cell?_spot hc
  subst hs
  refine ⟨b, o, e, hb, fun k m hm => ?_⟩
  have h2 := flat3_get ls k m hm
  rw [Nat.mul_comm k 3, Nat.add_assoc, Nat.add_assoc, ← add_mk, ← add_mk, ← add_mk]
  exact ⟨hall _ _ h2.1, hall _ _ h2.2.1, hall _ _ h2.2.2⟩
def minF (f : Ln → Ln → Int) (ls : List Ln) : Ln := (ls.drop 1).foldl (fun m x => if f x m < 0 then x else m) (ls.getD 0 (0, 0, 0))
theorem takeL_one {ls : List Ln} {z : Ln} (h : ls[0]? = some z) : ls.take 1 = [z] := by
  cases ls with
  | nil => simp at h
  | cons a t => simp at h; subst h; rfl
theorem minF_one (f : Ln → Ln → Int) {ls : List Ln} {z : Ln} (h : ls[0]? = some z) : minF f (ls.take 1) = z := by rw [takeL_one h]; rfl
theorem minF_next (f : Ln → Ln → Int) {ls : List Ln} {k : Nat} {z : Ln} (hk : 1 ≤ k) (h : ls[k]? = some z) : minF f (ls.take (k + 1)) = if f z (minF f (ls.take k)) < 0 then z else minF f (ls.take k) := by
  have hl := (List.getElem?_eq_some_iff.1 h).1
  have h1 : (ls.take k).length = k := by rw [List.length_take]; omega
  rw [take_snoc h, minF, minF, List.drop_append_of_le_length (by omega), List.foldl_append, List.getD_eq_getElem?_getD, List.getElem?_append_left (by omega), ← List.getD_eq_getElem?_getD]; rfl
theorem minF_fold (f : Ln → Ln → Int) : ∀ (ls : List Ln) (m : Ln), ls.foldl (fun m x => if f x m < 0 then x else m) m = m ∨ ls.foldl (fun m x => if f x m < 0 then x else m) m ∈ ls
  | [], m => .inl rfl
  | x :: t, m => by
    rw [List.foldl_cons]
    rcases minF_fold f t (if f x m < 0 then x else m) with h | h
    · rw [h]
      split
      · exact .inr (by simp)
      · exact .inl rfl
    · exact .inr (List.mem_cons_of_mem _ h)
theorem minF_mem (f : Ln → Ln → Int) {ls : List Ln} (h : 0 < ls.length) : minF f ls ∈ ls := by
  rcases minF_fold f (ls.drop 1) (ls.getD 0 (0, 0, 0)) with q | q
  · rw [minF, q, List.getD_eq_getElem?_getD, List.getElem?_eq_getElem h]
    exact List.getElem_mem h
  · exact List.mem_of_mem_drop q
/-- A function value that compares lines. -/
def LCmp (g : Nat) (lb : Array Value) (f : Ln → Ln → Int) (ls : List Ln) (w : World) : Prop :=
  ∀ (W : World) (x y : Ln), Below w.heap.size w W → x ∈ ls → y ∈ ls → Calls Try.prog g (#[lnV x, lnV y] ++ lb) W fun e w' => e = .returned (.int .i64 (f x y)) ∧ Below W.heap.size W w'
theorem line_size : (Try.prog.info? 24).map (·.size) = some 3 := by kernel_rfl
theorem row_world3 {G : World → Prop} (n₀ : Nat) (w w' : World) (g g2 : Nat) (cells old : Array Value) (t : TypeId) (hg : w'.heap[g]? = some (.cells old t (0, 0))) (hW : Below n₀ w w') (hge : n₀ ≤ g) (hne : g2 ≠ g) (h : ∀ X : World, X.heap[g]? = some (.cells cells t (0, 0)) → X.heap[g2]? = w'.heap[g2]? → Below n₀ w X → G X) : G (w'.setRow g cells) :=
  h _ (setRow_heap w' g old cells t (0, 0) hg) (setRow_other w' g g2 cells hne) (hW.trans ⟨rfl, rfl, rfl, by simp [World.setRow], fun k hk => setRow_other w' g k cells (by omega)⟩)

set_option maxRecDepth 100000 in
set_option maxHeartbeats 1000000 in
theorem minFunc_any (g : Nat) (lb : Array Value) (f : Ln → Ln → Int) (eg : ∀ args w, (callFunc g args).run Try.prog w = .ok (.enter g args) w) (ls : List Ln) (A : Option Addr) (c : Nat) (w : World) (h : LinesR w A ls) (hl : ls.length ≤ 1000) (hne : 0 < ls.length) (hK : LCmp g lb f ls w) :
    Calls Try.prog 111 #[.slice A ls.length c, .func (.func g) #[] lb] w fun e w' => e = .returned (lnV (minF f ls)) ∧ Below w.heap.size w w' := by
  obtain ⟨b, o, rfl, hb, hall⟩ := h.open_ hne
  obtain ⟨⟨x0, y0, z0⟩, hz0⟩ : ∃ z, ls[0]? = some z := ⟨_, List.getElem?_eq_getElem hne⟩
  obtain ⟨c0, c1, c2⟩ := hall 0 _ hz0
  rw [Nat.zero_mul, Nat.add_zero] at c0 c1 c2
  simp only at c0 c1 c2
  have HALL := Lib.hid hall
  have HK := Lib.hid hK
  have H1 := Lib.hid (minF_one f hz0)
  have t0 : decide ((ls.length : Int) < 1) = false := decide_eq_false (by omega)
  have HZ0 := Lib.hid hz0
  clear h hall hz0 hK
  go_enter Try.func111, Try.ntmps111
  have hx0 : (x0, y0, z0) ∈ ls := List.mem_of_getElem? HZ0.out
  go_wp2
  go_loopw [6] (fun i wr => ∃ (k : Nat) (x y z : Int), 1 ≤ k ∧ k ≤ ls.length ∧ i = .int .i64 k ∧ Hid (wr.heap[w.heap.size + 1]? = some (.cells #[.int .i64 x, .int .i64 y, .int .i64 z] 24 (0, 0))) ∧ Hid (wr.heap[w.heap.size]? = some (.cells #[.int .i64 0, .int .i64 0, .int .i64 0] 24 (0, 0))) ∧ Hid (Below w.heap.size w wr) ∧ Hid ((x, y, z) = minF f (ls.take k) ∧ (x, y, z) ∈ ls)) (fun i _ => ls.length - (intOf i).toNat)
  case atStart => exact ⟨1, x0, y0, z0, Nat.le_refl _, hne, rfl, Lib.hid (by simpa using heap_alloc_new (w.alloc (.cells #[.int .i64 0, .int .i64 0, .int .i64 0] 24)) (.cells #[.int .i64 x0, .int .i64 y0, .int .i64 z0] 24)), Lib.hid ((Below.heap_alloc (w.alloc (.cells #[.int .i64 0, .int .i64 0, .int .i64 0] 24)) _ _ (by simp)).trans (heap_alloc_new w _)), Lib.hid (by repeat (first | with_reducible exact Below.refl _ _ | with_reducible assumption | refine below_drewN ?_ _ | with_reducible refine Below.drew ?_ | (refine Below.setCell ?_ (by first | (simp; done) | (simp; omega) | omega) _) | (refine Below.alloc ?_ (by first | (simp; done) | (simp; omega) | omega) _))), Lib.hid ⟨H1.out.symm, hx0⟩⟩
  case round =>
    clear c0 c1 c2 hx0
    obtain ⟨k, x, y, z, hk1, hk, rfl, HX, HZ, HB, HM⟩ := hrel
    rename World => wr
    have hsz := HB.out.size
    have hgx : w.heap.size + 1 < wr.heap.size := (Array.getElem?_eq_some_iff.1 HX.out).1
    have x0 : wr.cell? ⟨w.heap.size + 1, 0, none⟩ = some (.int .i64 x) := by rw [cell_of_row wr _ 0 _ _ (0, 0) HX.out]; rfl
    have x1 : wr.cell? ⟨w.heap.size + 1, 1, none⟩ = some (.int .i64 y) := by rw [cell_of_row wr _ 1 _ _ (0, 0) HX.out]; rfl
    have x2 : wr.cell? ⟨w.heap.size + 1, 2, none⟩ = some (.int .i64 z) := by rw [cell_of_row wr _ 2 _ _ (0, 0) HX.out]; rfl
    by_cases hlt : k < ls.length
    · obtain ⟨⟨p, q, r⟩, hp⟩ : ∃ m, ls[k]? = some m := ⟨_, List.getElem?_eq_getElem hlt⟩
      obtain ⟨d0, d1, d2⟩ := HALL.out k _ hp
      simp only at d0 d1 d2
      have d0 := (HB.out.cell (p := ⟨b, o + k * 3, none⟩) hb).trans d0
      have d1 := (HB.out.cell (p := ⟨b, o + k * 3 + 1, none⟩) hb).trans d1
      have d2 := (HB.out.cell (p := ⟨b, o + k * 3 + 2, none⟩) hb).trans d2
      have HN := Lib.hid (minF_next f hk1 hp)
      have hpm : (p, q, r) ∈ ls := List.mem_of_getElem? hp
      have HPM := Lib.hid hpm
      have HC : Hid (∀ G : Gw wr, Calls Try.prog g (#[.agg #[.int .i64 p, .int .i64 q, .int .i64 r], .agg #[.int .i64 x, .int .i64 y, .int .i64 z]] ++ lb) G.v fun e w' => e = .returned (.int .i64 (f (p, q, r) (x, y, z))) ∧ Below G.v.heap.size G.v w') := Lib.hid fun G => HK.out G.v (p, q, r) (x, y, z) (below_step HB.out G.h) HPM.out HM.out.2
      clear hp hpm
      obtain ⟨v, hv⟩ : ∃ v, f (p, q, r) (x, y, z) = v := ⟨_, rfl⟩
      rw [hv] at HC
      have HV := Lib.hid hv
      clear hv
      have hlo : o + k * 3 = o + k * 3 := rfl
      have y0 : ∀ G : Gw wr, G.v.cell? ⟨b, o + k * 3, none⟩ = some (.int .i64 p) := fun G => (G.cell (Nat.lt_of_lt_of_le hb hsz)).trans d0
      have y1 : ∀ G : Gw wr, G.v.cell? ⟨b, o + k * 3 + 1, none⟩ = some (.int .i64 q) := fun G => (G.cell (Nat.lt_of_lt_of_le hb hsz)).trans d1
      have y2 : ∀ G : Gw wr, G.v.cell? ⟨b, o + k * 3 + 2, none⟩ = some (.int .i64 r) := fun G => (G.cell (Nat.lt_of_lt_of_le hb hsz)).trans d2
      have y3 : ∀ G : Gw wr, G.v.cell? ⟨w.heap.size + 1, 0, none⟩ = some (.int .i64 x) := fun G => (G.cell hgx).trans x0
      have y4 : ∀ G : Gw wr, G.v.cell? ⟨w.heap.size + 1, 1, none⟩ = some (.int .i64 y) := fun G => (G.cell hgx).trans x1
      have y5 : ∀ G : Gw wr, G.v.cell? ⟨w.heap.size + 1, 2, none⟩ = some (.int .i64 z) := fun G => (G.cell hgx).trans x2
      clear hlo
      cases hvz : decide (v < 0) with
      | false =>
        have HNN : Hid ((x, y, z) = minF f (ls.take (k + 1))) := Lib.hid (by rw [HN.out, ← HM.out.1, HV.out, if_neg (of_decide_eq_false hvz)])
        go_wp2
        refine wp_region_grow (by kernel_rfl) (by kernel_rfl) ?_
        repeat (go_big_quiet_step ((first
          | (go_at_fn g; with_reducible exact Calls.grow_of (HC.out _))
          | fail)))
        refine wpQuiet_nil ?_
        rintro _ ⟨gq, rfl⟩
        have hX : Hid (Below wr.heap.size wr gq.v) := Lib.hid gq.h
        generalize gq.v = V1 at hX ⊢
        clear y0 y1 y2 y3 y4 y5 x0 x1 x2 d0 d1 d2
        go_wp2
        go_roundw
        case rel => exact ⟨k + 1, x, y, z, by omega, by omega, by go_num, Lib.hid ((hX.out.block _ hgx).trans HX.out), Lib.hid ((hX.out.block _ (by omega)).trans HZ.out), Lib.hid (below_step HB.out hX.out), Lib.hid ⟨HNN.out, HM.out.2⟩⟩
        case measure => simp [intOf]; omega
      | true =>
        have HNN : Hid ((p, q, r) = minF f (ls.take (k + 1))) := Lib.hid (by rw [HN.out, ← HM.out.1, HV.out, if_pos (of_decide_eq_true hvz)])
        go_wp2
        refine wp_region_grow (by kernel_rfl) (by kernel_rfl) ?_
        repeat (go_big_quiet_step ((first
          | (go_at_fn g; with_reducible exact Calls.grow_of (HC.out _))
          | fail)))
        refine wpQuiet_nil ?_
        rintro _ ⟨gq, rfl⟩
        have hX : Hid (Below wr.heap.size wr gq.v) := Lib.hid gq.h
        generalize gq.v = V1 at hX ⊢
        clear y0 y1 y2 y3 y4 y5 x0 x1 x2
        have d0 := (hX.out.cell (p := ⟨b, o + k * 3, none⟩) (Nat.lt_of_lt_of_le hb hsz)).trans d0
        have d1 := (hX.out.cell (p := ⟨b, o + k * 3 + 1, none⟩) (Nat.lt_of_lt_of_le hb hsz)).trans d1
        have d2 := (hX.out.cell (p := ⟨b, o + k * 3 + 2, none⟩) (Nat.lt_of_lt_of_le hb hsz)).trans d2
        have HZ1 := Lib.hid ((hX.out.block _ (by omega)).trans HZ.out)
        have HV1 := Lib.hid ((hX.out.block _ hgx).trans HX.out)
        go_wp2_with (refine wpList_store_row rfl 24 (.tmp 5) (.tmp 31) rfl (w.heap.size + 1) #[.int .i64 p, .int .i64 q, .int .i64 r] rfl rfl 24 _ HV1.out (by kernel_rfl) (by kernel_rfl) (by kernel_rfl) ?_; refine row_world3 w.heap.size w _ _ w.heap.size _ _ _ HV1.out (below_step HB.out hX.out) (by omega) (by omega) (fun X hX1 hX3 hX2 => ?_))
        go_roundw
        case rel => exact ⟨k + 1, p, q, r, by omega, by omega, by go_num, Lib.hid hX1, Lib.hid (hX3.trans HZ1.out), Lib.hid hX2, Lib.hid ⟨HNN.out, HPM.out⟩⟩
        case measure => simp [intOf]; omega
    · obtain rfl : k = ls.length := by omega
      have HE : Hid (lnV (minF f ls) = .agg #[.int .i64 x, .int .i64 y, .int .i64 z]) := Lib.hid (by have := HM.out.1; rw [List.take_length] at this; rw [← this]; rfl)
      have hgz : w.heap.size < wr.heap.size := (Array.getElem?_eq_some_iff.1 HZ.out).1
      go_wp2_with (refine wpList_store_row rfl 24 (.tmp 4) (.tmp 32) rfl w.heap.size #[.int .i64 x, .int .i64 y, .int .i64 z] rfl rfl 24 _ HZ.out (by kernel_rfl) (by kernel_rfl) (by kernel_rfl) ?_; refine row_world3 w.heap.size w _ _ (w.heap.size + 1) _ _ _ HZ.out HB.out (Nat.le_refl _) (by omega) (fun X hX1 hX3 hX2 => ?_))
      have r0 : X.cell? ⟨w.heap.size, 0, none⟩ = some (.int .i64 x) := by rw [cell_of_row X _ 0 _ _ (0, 0) hX1]; rfl
      have r1 : X.cell? ⟨w.heap.size, 1, none⟩ = some (.int .i64 y) := by rw [cell_of_row X _ 1 _ _ (0, 0) hX1]; rfl
      have r2 : X.cell? ⟨w.heap.size, 2, none⟩ = some (.int .i64 z) := by rw [cell_of_row X _ 2 _ _ (0, 0) hX1]; rfl
      exact bodyPost_ret (v := lnV (minF f ls)) (by rw [HE.out]; simp [results, Try.results111, go_sem, r0, r1, r2]) rfl ⟨rfl, hX2⟩
end Go.Proofs.Ytoilbgngefleiaa
