/-
  Contract: best (track), for any way to make a line of two points and to tell a ratio of it.
-/
import Derived.RangeFuncNested
import Derived.RangeFuncBound
import Derived.RangeFuncCalls
import Derived.Shelf.RegionOpen
import Derived.WalkKit
import Derived.Maps.AppendAt
import Derived.Test.YtoilbgngefleiaaRoundQuiet
import Derived.Test.YtoilbgngefleiaaPairsIt
import Derived.Test.YtoilbgngefleiaaAny8
import Derived.Test.YtoilbgngefleiaaMinFunc
import Derived.Test.YtoilbgngefleiaaBestC
namespace Go.Proofs.Ytoilbgngefleiaa
open Go Go.RowKit Go.Shelf
attribute [local go_sem] Oper.semAt_some

/-- A function value that makes a line of two points. -/
def MadeAt (g : Nat) (lb : Array Value) (M : (Int × Int) × (Int × Int) → Ln) (w : World) : Prop :=
  ∀ (W : World) (x : (Int × Int) × (Int × Int)), Below w.heap.size w W → ptB x.1 = true → ptB x.2 = true → x.1.1 ≠ x.2.1 → Calls Try.prog g (encP x ++ lb) W fun e w' => e = .returned (lnV (M x)) ∧ Below W.heap.size W w'
theorem keepP_own {β : Type} {n₀ gb B : Nat} {w4 : World} (h4 : n₀ ≤ w4.heap.size) (hB : n₀ ≤ B) : OwnFrom B (fun (_ : β) W => KeepP n₀ gb w4 W) := fun _ W W' row hs hg hr =>
  ⟨Nat.le_trans hs.size hg.size, fun k h1 h2 => (hg.block k (Nat.lt_of_lt_of_le h1 (Nat.le_trans h4 hs.size)) (fun e => by have := (hr _ e.symm).1; omega)).trans (hs.blk k h1 h2),
    fun k cs hk hc => by
      have h1 := hs.box k cs hk hc
      refine (hg.block k (Array.getElem?_eq_some_iff.1 h1).1 (fun e => ?_)).trans h1
      obtain ⟨_, o, ho, hoc⟩ := hr k e.symm
      rw [h1] at ho
      cases ho
      cases hoc⟩
theorem keepP_put {n₀ gb : Nat} (W : World) (l : Nat) (o o' : Obj) (hl : n₀ ≤ l) (h : W.heap[l]? = some o) (hc : o.isCells = false) : KeepP n₀ gb W (W.putObj l o') :=
  keepP_own (β := Unit) (n₀ := n₀) (gb := gb) (B := n₀) (w4 := W) (Nat.le_trans hl (Nat.le_of_lt (Array.getElem?_eq_some_iff.1 h).1)) (Nat.le_refl _) () W _ (some l) (KeepP.refl _ _ _) (grownBy_putObj' W l o') (fun r e => by cases e; exact ⟨hl, o, h, hc⟩)
/-- What a round's two boxes hold. -/
def Two2 (n₁ : Nat) (x : (Int × Int) × (Int × Int)) (B8 B9 : Nat) (W : World) : Prop :=
  n₁ ≤ B8 ∧ n₁ ≤ B9 ∧ W.heap[B8]? = some (.cells #[.int .i64 x.1.1, .int .i64 x.1.2] 54 (0, 0)) ∧ W.heap[B9]? = some (.cells #[.int .i64 x.2.1, .int .i64 x.2.2] 54 (0, 0))
theorem two2_own {n₁ B : Nat} {x : (Int × Int) × (Int × Int)} (G : Nat → Nat → Prop) : OwnFrom B (fun (_ : Unit) W => ∃ B8 B9, Two2 n₁ x B8 B9 W ∧ G B8 B9) := fun _ W W' row hs hg hr => by
  obtain ⟨B8, B9, ⟨h1, h2, h3, h4⟩, hG⟩ := hs
  have key : ∀ (k : Nat) (cs : Array Value), W.heap[k]? = some (Obj.cells cs 54 (0, 0)) → W'.heap[k]? = some (Obj.cells cs 54 (0, 0)) := fun k cs hk => by
    refine (hg.block k (Array.getElem?_eq_some_iff.1 hk).1 (fun e => ?_)).trans hk
    obtain ⟨_, o, ho, hoc⟩ := hr k e.symm
    rw [hk] at ho
    cases ho
    cases hoc
  exact ⟨B8, B9, ⟨h1, h2, key _ _ h3, key _ _ h4⟩, hG⟩
theorem line_info : (Try.prog.info? 24).map (fun i => (i.zero, i.size, i.bytes)) = some (some (.agg #[.int .i64 0, .int .i64 0, .int .i64 0]), 3, 24) := by kernel_rfl
def elN {N : Nat} (hn : 0 < N) (k : Nat) : Fin N := ⟨k % N, Nat.mod_lt _ hn⟩
def encN (L : List ((Int × Int) × (Int × Int))) (j : Fin L.length) : Array Value := encP L[j.val]
theorem named_N {L : List ((Int × Int) × (Int × Int))} (hn : 0 < L.length) : Named (encN L) (elN hn) L := by
  intro m x hx
  obtain ⟨h1, h2⟩ := List.getElem?_eq_some_iff.1 hx
  have e : m % L.length = m := Nat.mod_eq_of_lt h1
  unfold encN elN
  simp only [e, h2]
/-- The lines of the pairs that have come. -/
def linesOf (L : List ((Int × Int) × (Int × Int))) (M : (Int × Int) × (Int × Int) → Ln) (pre : List (Fin L.length)) : List Ln := pre.map fun j => M L[j.val]
theorem linesOf_next {L : List ((Int × Int) × (Int × Int))} {M : (Int × Int) × (Int × Int) → Ln} {pre : List (Fin L.length)} {x : Fin L.length} {y : (Int × Int) × (Int × Int)} {z : Ln} (h : L[x.val] = y) (hM : M y = z) : (linesOf L M (pre ++ [x])).flatMap mk3 = (linesOf L M pre).flatMap mk3 ++ [.int .i64 z.1, .int .i64 z.2.1, .int .i64 z.2.2] := by
  rw [linesOf, List.map_append, List.flatMap_append]
  simp [linesOf, mk3, h, hM]
theorem keepsOthers_of_below {A B : World} (h : Below A.heap.size A B) : KeepsOthers A B := ⟨h.size, fun k _ hk _ => (h.block k (Array.getElem?_eq_some_iff.1 hk).1).trans hk⟩
theorem own_base2 {w : World} {base base' : Nat} {e : TypeId} {size : Nat} {v : Value} {n : Nat} {xs : List Value} (h : w.ownsRow base e size v n xs) (hb : base' ≤ base) : w.ownsRow base' e size v n xs :=
  ⟨h.1, h.2.imp id fun ⟨g, cap, cur, hv, hg, r⟩ => ⟨g, cap, cur, hv, Nat.le_trans hb hg, r⟩⟩
theorem keepP_app {n₁ gb n : Nat} {w5 w2 : World} {v : Value} {xs : List Value} {tmp : Obj} (u : Value) (hr : w5.ownsRow n₁ 24 3 v n xs) (hg : (w5.alloc tmp).grownBy w2 v.ownBlock) (hz : n₁ ≤ w5.heap.size) (hb : gb < n₁) : KeepP n₁ gb w5 (w2.setCell ⟨gb, 0, none⟩ u) := by
  have hs := hg.size
  simp only [World.size_alloc] at hs
  have key : ∀ k, k < w5.heap.size → v.ownBlock ≠ some k → k ≠ gb → (w2.setCell ⟨gb, 0, none⟩ u).heap[k]? = w5.heap[k]? := fun k hk hv hne => ((heap_setCell_other w2 ⟨gb, 0, none⟩ k u hne).trans (hg.block k (by simp; omega) (fun e => hv e.symm))).trans (Below.heap_alloc w5 tmp k hk)
  refine ⟨by rw [World.size_setCell]; omega, fun k h1 h2 => key k (by omega) (fun e => ?_) h2, fun k cs hk hc => (key k (Array.getElem?_eq_some_iff.1 hc).1 (fun e => ?_) (by omega)).trans hc⟩
  · have := (hr.lt _ e).1
    omega
  · rcases hr.2 with ⟨rfl, _⟩ | ⟨g, cap, cur, rfl, _, hh, _⟩
    · simp [Value.ownBlock] at e
    · simp [Value.ownBlock] at e
      subst e
      rw [hc] at hh
      injection hh with hh
      injection hh with _ h2
      exact absurd h2 (by decide)
def bestL (T : Ln → Int × Int) (M : (Int × Int) × (Int × Int) → Ln) (ms : List (Int × Int)) : Ln := minF (cmpT T) ((pairsL ms ms.length).map M)
theorem linesOf_all {L : List ((Int × Int) × (Int × Int))} (M : (Int × Int) × (Int × Int) → Ln) (hn : 0 < L.length) : linesOf L M (comeK (elN hn) L.length) = L.map M := by
  refine List.ext_getElem (by rw [linesOf, List.length_map, comeK_length, List.length_map]) fun j h1 h2 => ?_
  have hj : j < L.length := by simpa using h2
  have e : j % L.length = j := Nat.mod_eq_of_lt hj
  simp only [linesOf, comeK, List.getElem_map, List.getElem_range, elN, e]
theorem flat3_len (ls : List Ln) : (ls.flatMap mk3).length = ls.length * 3 := by
  induction ls with
  | nil => rfl
  | cons a t ih => rw [List.flatMap_cons, List.length_append, ih]; simp [mk3]; omega

set_option maxRecDepth 100000 in
set_option maxHeartbeats 4000000 in
theorem best_any (gm : Nat) (lm : Array Value) (M : (Int × Int) × (Int × Int) → Ln) (gt : Nat) (T : Ln → Int × Int) (P : Ln → Prop) (ms : List (Int × Int)) (A : Option Addr) (c : Nat) (w : World) (h : Clk w A c ms) (hv : viP ms = true) (hp : 0 < (pairsL ms ms.length).length) (hM : MadeAt gm lm M w) (hem : ∀ args w, (callFunc gm args).run Try.prog w = .ok (.enter gm args) w)
    (hT : ToldAt gt T P A ms.length c w) (het : ∀ args w, (callFunc gt args).run Try.prog w = .ok (.enter gt args) w) (hC : CrossOk T P) (hPM : ∀ x ∈ pairsL ms ms.length, P (M x)) :
    Calls Try.prog 94 #[.slice A ms.length c, .func (.func gm) #[] lm, .func (.func gt) #[] #[]] w fun e w' => e = .returned (lnV (bestL T M ms)) ∧ Below w.heap.size w w' := by
  obtain ⟨⟨hn1, hn2⟩, hpt, _⟩ := vi_parts hv
  have H := Lib.hid (And.intro h (And.intro hv (And.intro hM hpt)))
  obtain ⟨b, o, rfl, hb, hall⟩ := h.marks.open_ (by omega)
  have HALL := Lib.hid hall
  have hcap := h.le
  have hcm := h.cap
  have HEM := Lib.hid hem
  have HT := Lib.hid (And.intro hT (And.intro het (And.intro hC hPM)))
  clear h hv hM hpt hall hem hT het hC hPM
  obtain ⟨W0, hW0⟩ : ∃ W0, (((((w.alloc (.cells #[.slice (some ⟨b, o, none⟩) ms.length c] 22)).alloc (.cells #[.func (.func gm) #[] lm] 84)).alloc (.cells #[.func (.func gt) #[] #[]] 80)).alloc (.cells #[.int .i64 0, .int .i64 0, .int .i64 0] 24)).alloc (.cells #[.slice none 0 0] 124)).alloc (.cells #[.slice (some ⟨b, o, none⟩) ms.length c] 22) = W0 := ⟨_, rfl⟩
  refine (callsIn_wide (n := 4)).1 ?_
  refine callsIn_of_wp_marks Try.func94 rfl trivial ?_ rfl
  simp only [Try.ntmps94, List.size_toArray, List.length_cons, List.length_nil, Nat.reduceAdd, Nat.reduceSub, Array.replicate_succ, Array.replicate_zero, List.push_toArray, List.append_toArray, List.nil_append, List.cons_append]
  refine wpIn_wide.2 ?_
  go_wp2_with (first
    | (go_at_call 80; refine (pairs_call _ _ _ _).mono ?_; rintro e w' ⟨rfl, rfl⟩)
    | fail)
  have hsz : W0.heap.size = w.heap.size + 6 := by rw [← hW0]; simp
  have hB0 : Below w.heap.size w W0 := by
    rw [← hW0]
    exact ((((((Below.refl _ w).alloc (Nat.le_refl _) _).alloc (by simp) _).alloc (by simp; omega) _).alloc (by simp; omega) _).alloc (by simp; omega) _).alloc (by simp; omega) _
  have g3 : W0.cell? ⟨w.heap.size, 0, none⟩ = some (.slice (some ⟨b, o, none⟩) ms.length c) := by subst hW0; go_simp
  have g4 : W0.cell? ⟨w.heap.size + 1, 0, none⟩ = some (.func (.func gm) #[] lm) := by subst hW0; go_simp
  have g5 : W0.cell? ⟨w.heap.size + 1 + 1, 0, none⟩ = some (.func (.func gt) #[] #[]) := by subst hW0; go_simp
  have g6 : W0.heap[w.heap.size + 1 + 1 + 1]? = some (.cells #[.int .i64 0, .int .i64 0, .int .i64 0] 24 (0, 0)) := by
    rw [← hW0]
    refine (Below.heap_alloc _ _ _ (by first | (simp; done) | (simp; omega))).trans ((Below.heap_alloc _ _ _ (by first | (simp; done) | (simp; omega))).trans ?_)
    simpa using heap_alloc_new (((w.alloc (.cells #[.slice (some ⟨b, o, none⟩) ms.length c] 22)).alloc (.cells #[.func (.func gm) #[] lm] 84)).alloc (.cells #[.func (.func gt) #[] #[]] 80)) (.cells #[.int .i64 0, .int .i64 0, .int .i64 0] 24)
  have g7 : Boxed W0 (w.heap.size + 1 + 1 + 1 + 1) 124 (.slice none 0 0) := by
    show W0.heap[_]? = _
    rw [← hW0]
    refine (Below.heap_alloc _ _ _ (by simp)).trans ?_
    simpa using heap_alloc_new ((((w.alloc (.cells #[.slice (some ⟨b, o, none⟩) ms.length c] 22)).alloc (.cells #[.func (.func gm) #[] lm] 84)).alloc (.cells #[.func (.func gt) #[] #[]] 80)).alloc (.cells #[.int .i64 0, .int .i64 0, .int .i64 0] 24)) (.cells #[.slice none 0 0] 124)
  have g12 : W0.cell? ⟨w.heap.size + 1 + 1 + 1 + 1 + 1, 0, none⟩ = some (.slice (some ⟨b, o, none⟩) ms.length c) := by subst hW0; go_simp
  clear hW0
  obtain ⟨q, hq⟩ : ∃ q, w.heap.size = q := ⟨_, rfl⟩
  have HQ := Lib.hid hq
  rw [hq] at hsz hB0 g3 g4 g5 g6 g7 g12 hb ⊢
  clear hq
  have e12 : q + 1 + 1 + 1 + 1 + 1 < W0.heap.size := by omega
  refine (wpIn_wide (n := 4)).1 ?_
  refine wpIn_rangeFunc_ownH rfl (by omega) (gf := 107) (lb := #[.pointer (some ⟨q + 1 + 1 + 1 + 1 + 1, 0, none⟩)]) rfl trivial (enters_of Try.func107 (by kernel_rfl) rfl)
    (pairs_stops (encN (pairsL ms ms.length)) (elN hp) Fence.wide 3 trivial rfl (by omega) (q + 1 + 1 + 1 + 1 + 1) W0.heap.size (q + 1 + 1 + 1 + 1) (some ⟨b, o, none⟩) c ms (by omega) hcap hcm (named_N hp) W0 (Nat.le_refl _) ?hBs ?hA)
    KeepP.trans (fun W l o o' hl h1 h2 _ => keepP_put W l o o' hl h1 h2) (Below.refl _ _) (fun _ => rfl)
    (fun pre W => (KeepP W0.heap.size (q + 1 + 1 + 1 + 1) W0 W ∧ ∃ v, Boxed W (q + 1 + 1 + 1 + 1) 124 v ∧ W.ownsRow W0.heap.size 24 3 v pre.length ((linesOf (pairsL ms ms.length) M pre).flatMap mk3) ∧ True) ∧ Below q w W)
    (fun _ _ _ => False)
    (OwnFrom.and (OwnFrom.and (keepP_own (Nat.le_refl _) (Nat.le_refl _)) (Own.from (holdsRow_own _ _ _ _ _ _ _ _) _)) (ownFrom_below (by rw [HQ.out]; exact Nat.le_refl _) (by omega)))
    (fun _ _ _ _ _ hs _ _ => hs)
    ⟨⟨KeepP.refl _ _ _, _, g7, World.ownsRow_nil _ _ _ _, trivial⟩, hB0⟩
    (fun x a' W => ∃ B8 B9, Two2 W0.heap.size (pairsL ms ms.length)[x.val] B8 B9 W ∧ a' = { tmps := #[.slice (some ⟨b, o, none⟩) ms.length c, .func (.func gm) #[] lm, .func (.func gt) #[] #[], .pointer (some ⟨q, 0, none⟩), .pointer (some ⟨q + 1, 0, none⟩), .pointer (some ⟨q + 1 + 1, 0, none⟩), .pointer (some ⟨q + 1 + 1 + 1, 0, none⟩), .pointer (some ⟨q + 1 + 1 + 1 + 1, 0, none⟩), .pointer (some ⟨B8, 0, none⟩), .pointer (some ⟨B9, 0, none⟩), .slice (some ⟨b, o, none⟩) ms.length c, .func (.func 107) #[] #[.pointer (some ⟨q + 1 + 1 + 1 + 1 + 1, 0, none⟩)], .agg #[.int .i64 (pairsL ms ms.length)[x.val].1.1, .int .i64 (pairsL ms ms.length)[x.val].1.2], .agg #[.int .i64 (pairsL ms ms.length)[x.val].2.1, .int .i64 (pairsL ms ms.length)[x.val].2.2], undef, undef, undef, undef, undef, undef, undef, undef, undef, undef], defers := [] })
    (fun x a' => two2_own _) ?assign ?body ?done ?stop
  case hBs => exact fun W W' hB hK => ((hK.old ⟨q + 1 + 1 + 1 + 1 + 1, 0, none⟩ e12 (by show q + 1 + 1 + 1 + 1 + 1 ≠ _; omega)).trans (hB.cell (p := ⟨q + 1 + 1 + 1 + 1 + 1, 0, none⟩) e12)).trans g12
  case hA =>
    refine fun _ => ⟨b, o, rfl, fun W W' hB hK k m hm => ?_⟩
    have hbz : b < W0.heap.size := by omega
    have hkey : ∀ j, W'.cell? ⟨b, j, none⟩ = w.cell? ⟨b, j, none⟩ := fun j => ((hK.old ⟨b, j, none⟩ hbz (by show b ≠ _; omega)).trans (hB.cell (p := ⟨b, j, none⟩) hbz)).trans (hB0.cell (p := ⟨b, j, none⟩) hb)
    rw [hkey, hkey]
    exact HALL.out k m hm
  case assign =>
    rintro l pre x W K ⟨⟨hK, v, hv, hr, _⟩, hB⟩ hKK
    simp only [encN, encP]
    have hz : W0.heap.size ≤ W.heap.size := hK.size
    have hBW : Below W.heap.size W ((W.alloc (.cells #[.int .i64 (pairsL ms ms.length)[x.val].1.1, .int .i64 (pairsL ms ms.length)[x.val].1.2] 54)).alloc (.cells #[.int .i64 (pairsL ms ms.length)[x.val].2.1, .int .i64 (pairsL ms ms.length)[x.val].2.2] 54)) := ((Below.refl _ _).alloc (Nat.le_refl _) _).alloc (by simp) _
    have HH := Lib.hid (And.intro hK (And.intro hv (And.intro hr (And.intro hB hBW))))
    clear hK hv hr hB hBW
    gi_wp2
    refine hKK _ _ (((KeepsOthers.alloc _ _).trans (KeepsOthers.alloc _ _)).from _) (KeepP.of_below HH.out.2.2.2.2 hz) ⟨⟨HH.out.1.trans (KeepP.of_below HH.out.2.2.2.2 hz), v, (HH.out.2.1.alloc _).alloc _, (HH.out.2.2.1.alloc _).alloc _, trivial⟩, HH.out.2.2.2.1.trans (HH.out.2.2.2.2.mono (by omega))⟩ ⟨W.heap.size, W.heap.size + 1, ⟨hz, by omega, (Below.heap_alloc _ _ _ (by simp)).trans (heap_alloc_new _ _), by simpa using heap_alloc_new (W.alloc (.cells #[.int .i64 (pairsL ms ms.length)[x.val].1.1, .int .i64 (pairsL ms ms.length)[x.val].1.2] 54)) (.cells #[.int .i64 (pairsL ms ms.length)[x.val].2.1, .int .i64 (pairsL ms ms.length)[x.val].2.2] 54)⟩, rfl⟩
  case body =>
    rintro l pre x a' W hl hr ⟨⟨hK, v, hv, hrow, _⟩, hBw⟩ ⟨B8, B9, ⟨h8, h9, G8, G9⟩, rfl⟩ hpl
    have hxm := pairs_mem (ms := ms) (x := (pairsL ms ms.length)[x.val]) (List.getElem_mem _)
    obtain ⟨⟨⟨p0, p1⟩, ⟨q0, q1⟩⟩, hx⟩ : ∃ z, (pairsL ms ms.length)[x.val] = z := ⟨_, rfl⟩
    rw [hx] at hxm G8 G9
    simp only at G8 G9
    have hqW : q ≤ W.heap.size := by have := hK.size; omega
    have HM : Hid (∀ W1, Below W.heap.size W W1 → Calls Try.prog gm (#[.agg #[.int .i64 p0, .int .i64 p1], .agg #[.int .i64 q0, .int .i64 q1]] ++ lm) W1 fun e w' => e = .returned (lnV (M ((p0, p1), (q0, q1)))) ∧ Below W1.heap.size W1 w') := Lib.hid fun W1 hW1 => H.out.2.2.1 W1 ((p0, p1), (q0, q1)) (by rw [HQ.out]; exact hBw.trans (hW1.mono hqW)) (H.out.2.2.2 _ hxm.1) (H.out.2.2.2 _ hxm.2.1) hxm.2.2
    obtain ⟨⟨lx, ly, lz⟩, hML⟩ : ∃ z, M ((p0, p1), (q0, q1)) = z := ⟨_, rfl⟩
    rw [hML] at HM
    simp only [lnV] at HM
    have HML := Lib.hid hML
    clear hML
    obtain ⟨i0, hi0, hz0, hz1, hz2⟩ := info_parts line_info
    have HIN := Lib.hid (And.intro hi0 (And.intro hz0 (And.intro hz1 hz2)))
    clear hi0 hz0 hz1 hz2
    have hpl2 : pre.length ≤ 1000 := by have := pairsL_len ms ms.length; have : ms.length * ms.length ≤ 12 * 12 := Nat.mul_le_mul hn2 hn2; omega
    have c7 := hv.cell
    have c4 := (hK.old ⟨q + 1, 0, none⟩ (by show q + 1 < _; omega) (by show q + 1 ≠ _; omega)).trans g4
    have d0 : W.cell? ⟨B8, 0, none⟩ = some (.int .i64 p0) := by rw [cell_of_row W _ 0 _ _ (0, 0) G8]; rfl
    have d1 : W.cell? ⟨B8, 1, none⟩ = some (.int .i64 p1) := by rw [cell_of_row W _ 1 _ _ (0, 0) G8]; rfl
    have d2 : W.cell? ⟨B9, 0, none⟩ = some (.int .i64 q0) := by rw [cell_of_row W _ 0 _ _ (0, 0) G9]; rfl
    have d3 : W.cell? ⟨B9, 1, none⟩ = some (.int .i64 q1) := by rw [cell_of_row W _ 1 _ _ (0, 0) G9]; rfl
    have eg := HEM.out
    have hmx : Try.prog.follows .mixedOrders = true := by kernel_rfl
    have HX := Lib.hid hx
    have HK := Lib.hid hK
    have HV := Lib.hid hv
    have HR := Lib.hid hrow
    have HBW := Lib.hid hBw
    clear hx hxm hK hv hrow hBw G8 G9
    gi_wp2
    obtain ⟨Fin, hFin⟩ : ∃ Fin : World → Prop, Fin = fun w2 => KeepsFrom W0.heap.size W w2 ∧ KeepP W0.heap.size (q + 1 + 1 + 1 + 1) W w2 ∧ ((KeepP W0.heap.size (q + 1 + 1 + 1 + 1) W0 w2 ∧ ∃ v, Boxed w2 (q + 1 + 1 + 1 + 1) 124 v ∧ w2.ownsRow W0.heap.size 24 3 v (pre ++ [x]).length ((linesOf (pairsL ms ms.length) M (pre ++ [x])).flatMap mk3) ∧ True) ∧ Below q w w2) := ⟨_, rfl⟩
    refine wpIn_region_any hmx ?_
    refine any8 (fun l0 l1 l2 l3 l4 l5 l6 l7 a2 w2 => ((l4 = true → l1 = true ∧ l2 = true ∧ l3 = true) ∧ (l5 = true → l4 = true) ∧ (l6 = true → l5 = true ∧ l0 = true) ∧ (l7 = true → l6 = true)) ∧ ∃ u14 u15 u16 u17 u18 u19 u20 : Value, a2 = ⟨#[.slice (some ⟨b, o, none⟩) ms.length c, .func (.func gm) #[] lm, .func (.func gt) #[] #[], .pointer (some ⟨q, 0, none⟩), .pointer (some ⟨q + 1, 0, none⟩), .pointer (some ⟨q + 1 + 1, 0, none⟩), .pointer (some ⟨q + 1 + 1 + 1, 0, none⟩), .pointer (some ⟨q + 1 + 1 + 1 + 1, 0, none⟩), .pointer (some ⟨B8, 0, none⟩), .pointer (some ⟨B9, 0, none⟩), .slice (some ⟨b, o, none⟩) ms.length c, .func (.func 107) #[] #[.pointer (some ⟨q + 1 + 1 + 1 + 1 + 1, 0, none⟩)], .agg #[.int .i64 (pairsL ms ms.length)[x.val].1.1, .int .i64 (pairsL ms ms.length)[x.val].1.2], .agg #[.int .i64 (pairsL ms ms.length)[x.val].2.1, .int .i64 (pairsL ms ms.length)[x.val].2.2], u14, u15, u16, u17, u18, u19, u20, undef, undef, undef], []⟩ ∧
      (l0 = true → u14 = v) ∧ (l1 = true → u15 = .func (.func gm) #[] lm) ∧ (l2 = true → u16 = .agg #[.int .i64 p0, .int .i64 p1]) ∧ (l3 = true → u17 = .agg #[.int .i64 q0, .int .i64 q1]) ∧ (l4 = true → u18 = .agg #[.int .i64 lx, .int .i64 ly, .int .i64 lz]) ∧
      (l4 = false → w2 = W.drew) ∧ (l4 = true → l5 = false → Below W.heap.size W w2) ∧ (l5 = true → l6 = false → ∃ w5, Below W.heap.size W w5 ∧ w2 = w5.alloc (.cells #[.int .i64 lx, .int .i64 ly, .int .i64 lz] 24) ∧ u19 = .slice (some ⟨w5.heap.size, 0, none⟩) 1 1) ∧
      (l6 = true → l7 = false → ∃ w5 g6 cap6, Below W.heap.size W w5 ∧ u20 = .slice (some ⟨g6, 0, none⟩) (pre.length + 1) cap6 ∧ w2.ownsRow W0.heap.size 24 3 (.slice (some ⟨g6, 0, none⟩) (pre.length + 1) cap6) (pre.length + 1) ((linesOf (pairsL ms ms.length) M pre).flatMap mk3 ++ [.int .i64 lx, .int .i64 ly, .int .i64 lz]) ∧ (w5.alloc (.cells #[.int .i64 lx, .int .i64 ly, .int .i64 lz] 24)).grownBy w2 v.ownBlock) ∧
      (l7 = true → Fin w2)) (by decide +kernel) (by decide +kernel) (by kernel_rfl) (fun _ _ _ _ _ _ _ _ _ _ h => h.1) ?s0 ?s1 ?s2 ?s3 ?s4 ?s5 ?s6 ?s7 ?fin 8 false false false false false false false false _ _ rfl ⟨by simp, _, _, _, _, _, _, _, rfl, by simp, by simp, by simp, by simp, by simp, fun _ => rfl, by simp, by simp, by simp, by simp⟩
    case s0 =>
      rintro l1 l2 l3 l4 l5 l6 l7 a2 w2 ⟨⟨d1, d2, d3, d4⟩, u14, u15, u16, u17, u18, u19, u20, rfl, k0, k1, k2, k3, k4, k5, k6, k7, k8, k9⟩
      obtain rfl : l6 = false := by
        cases l6 with
        | false => rfl
        | true => have := d3 rfl; simp at this
      have hBW : Below W.heap.size W w2 := by
        cases l4 with
        | false => rw [k5 rfl]; exact below_drewN (Below.refl _ _) 1
        | true =>
          cases l5 with
          | false => exact k6 rfl rfl
          | true =>
            obtain ⟨w5, h1, h2, _⟩ := k7 rfl rfl
            rw [h2]
            exact h1.alloc h1.size _
      have c7w := (hBW.cell (p := ⟨q + 1 + 1 + 1 + 1, 0, none⟩) HV.out.lt).trans c7
      refine wpOpIn_step rfl (fun K hK => ?_)
      go_simp
      exact hK _ _ ⟨⟨(by first | exact d1 | simp), (by first | exact d2 | simp), (by first | exact (fun h => by cases h) | simp), (by first | exact d4 | simp)⟩, _, _, _, _, _, _, _, rfl, fun _ => rfl, (by first | exact k1 | exact fun _ => rfl | (intro h; cases h) | simp), (by first | exact k2 | exact fun _ => rfl | (intro h; cases h) | simp), (by first | exact k3 | exact fun _ => rfl | (intro h; cases h) | simp), (by first | exact k4 | exact fun _ => rfl | (intro h; cases h) | simp), (by first | exact k5 | exact fun _ => rfl | (intro h; cases h) | simp), (by first | exact k6 | exact fun _ => rfl | (intro h; cases h) | simp), (by first | exact k7 | exact fun _ => rfl | (intro h; cases h) | simp), (by first | exact k8 | exact fun _ => rfl | (intro h; cases h) | simp), (by first | exact k9 | exact fun _ => rfl | (intro h; cases h) | simp)⟩
    case s1 =>
      rintro l0 l2 l3 l4 l5 l6 l7 a2 w2 ⟨⟨d1, d2, d3, d4⟩, u14, u15, u16, u17, u18, u19, u20, rfl, k0, k1, k2, k3, k4, k5, k6, k7, k8, k9⟩
      have h4 : l4 = false := by
        cases l4 with
        | false => rfl
        | true => have := d1 rfl; simp at this
      subst h4
      obtain rfl := k5 rfl
      refine wpOpIn_step rfl (fun K hK => ?_)
      go_simp
      exact hK _ _ ⟨⟨(by first | exact (fun h => by cases h) | simp), (by first | exact d2 | simp), (by first | exact d3 | simp), (by first | exact d4 | simp)⟩, _, _, _, _, _, _, _, rfl, (by first | exact k0 | exact fun _ => rfl | (intro h; cases h) | simp), fun _ => rfl, (by first | exact k2 | exact fun _ => rfl | (intro h; cases h) | simp), (by first | exact k3 | exact fun _ => rfl | (intro h; cases h) | simp), (by first | exact k4 | exact fun _ => rfl | (intro h; cases h) | simp), fun _ => rfl, (by first | exact k6 | exact fun _ => rfl | (intro h; cases h) | simp), (by first | exact k7 | exact fun _ => rfl | (intro h; cases h) | simp), (by first | exact k8 | exact fun _ => rfl | (intro h; cases h) | simp), (by first | exact k9 | exact fun _ => rfl | (intro h; cases h) | simp)⟩
    case s2 =>
      rintro l0 l1 l3 l4 l5 l6 l7 a2 w2 ⟨⟨d1, d2, d3, d4⟩, u14, u15, u16, u17, u18, u19, u20, rfl, k0, k1, k2, k3, k4, k5, k6, k7, k8, k9⟩
      have h4 : l4 = false := by
        cases l4 with
        | false => rfl
        | true => have := d1 rfl; simp at this
      subst h4
      obtain rfl := k5 rfl
      refine wpOpIn_step rfl (fun K hK => ?_)
      go_simp
      exact hK _ _ ⟨⟨(by first | exact (fun h => by cases h) | simp), (by first | exact d2 | simp), (by first | exact d3 | simp), (by first | exact d4 | simp)⟩, _, _, _, _, _, _, _, rfl, (by first | exact k0 | exact fun _ => rfl | (intro h; cases h) | simp), (by first | exact k1 | exact fun _ => rfl | (intro h; cases h) | simp), fun _ => rfl, (by first | exact k3 | exact fun _ => rfl | (intro h; cases h) | simp), (by first | exact k4 | exact fun _ => rfl | (intro h; cases h) | simp), fun _ => rfl, (by first | exact k6 | exact fun _ => rfl | (intro h; cases h) | simp), (by first | exact k7 | exact fun _ => rfl | (intro h; cases h) | simp), (by first | exact k8 | exact fun _ => rfl | (intro h; cases h) | simp), (by first | exact k9 | exact fun _ => rfl | (intro h; cases h) | simp)⟩
    case s3 =>
      rintro l0 l1 l2 l4 l5 l6 l7 a2 w2 ⟨⟨d1, d2, d3, d4⟩, u14, u15, u16, u17, u18, u19, u20, rfl, k0, k1, k2, k3, k4, k5, k6, k7, k8, k9⟩
      have h4 : l4 = false := by
        cases l4 with
        | false => rfl
        | true => have := d1 rfl; simp at this
      subst h4
      obtain rfl := k5 rfl
      refine wpOpIn_step rfl (fun K hK => ?_)
      go_simp
      exact hK _ _ ⟨⟨(by first | exact (fun h => by cases h) | simp), (by first | exact d2 | simp), (by first | exact d3 | simp), (by first | exact d4 | simp)⟩, _, _, _, _, _, _, _, rfl, (by first | exact k0 | exact fun _ => rfl | (intro h; cases h) | simp), (by first | exact k1 | exact fun _ => rfl | (intro h; cases h) | simp), (by first | exact k2 | exact fun _ => rfl | (intro h; cases h) | simp), fun _ => rfl, (by first | exact k4 | exact fun _ => rfl | (intro h; cases h) | simp), fun _ => rfl, (by first | exact k6 | exact fun _ => rfl | (intro h; cases h) | simp), (by first | exact k7 | exact fun _ => rfl | (intro h; cases h) | simp), (by first | exact k8 | exact fun _ => rfl | (intro h; cases h) | simp), (by first | exact k9 | exact fun _ => rfl | (intro h; cases h) | simp)⟩
    case s4 =>
      rintro l0 l5 l6 l7 a2 w2 ⟨⟨d1, d2, d3, d4⟩, u14, u15, u16, u17, u18, u19, u20, rfl, k0, k1, k2, k3, k4, k5, k6, k7, k8, k9⟩
      obtain rfl : l5 = false := by
        cases l5 with
        | false => rfl
        | true => have := d2 rfl; simp at this
      obtain rfl : l6 = false := by
        cases l6 with
        | false => rfl
        | true => have := d3 rfl; simp at this
      obtain rfl : l7 = false := by
        cases l7 with
        | false => rfl
        | true => have := d4 rfl; simp at this
      obtain rfl := k1 rfl
      obtain rfl := k2 rfl
      obtain rfl := k3 rfl
      obtain rfl := k5 rfl
      refine wpOpIn_step rfl (fun K hK => ?_)
      go_simp
      gi_wp2_with (refine ⟨trivial, ?_⟩; gi_at_fn gm; refine (CallsIn.inRound l (callsIn_wide.2 (HM.out _ (below_drewN (Below.refl _ _) 1)))).mono ?_; rintro e w5 ⟨rfl, hB5⟩)
      exact ⟨⟨(by first | exact fun _ => ⟨rfl, rfl, rfl⟩ | simp), (by first | exact fun _ => rfl | simp), (by first | exact d3 | simp), (by first | exact d4 | simp)⟩, _, _, _, _, _, _, _, rfl, (by first | exact k0 | exact fun _ => rfl | (intro h; cases h) | simp), fun _ => rfl, fun _ => rfl, fun _ => rfl, fun _ => rfl, (fun h => by cases h), fun _ _ => below_step (below_drewN (Below.refl _ _) 1) hB5, (fun h => by cases h), (fun h => by cases h), (fun h => by cases h)⟩
    case s5 =>
      rintro l0 l1 l2 l3 l6 l7 a2 w2 ⟨⟨d1, d2, d3, d4⟩, u14, u15, u16, u17, u18, u19, u20, rfl, k0, k1, k2, k3, k4, k5, k6, k7, k8, k9⟩
      obtain rfl : l6 = false := by
        cases l6 with
        | false => rfl
        | true => have := d3 rfl; simp at this
      obtain rfl : l7 = false := by
        cases l7 with
        | false => rfl
        | true => have := d4 rfl; simp at this
      obtain rfl := k4 rfl
      have h5 := k6 rfl rfl
      refine wpOpIn_step rfl (fun K hK => ?_)
      go_simp
      exact hK _ _ ⟨⟨(by first | exact d1 | simp), (by first | exact fun _ => rfl | simp), (by first | exact (fun h => by cases h) | simp), (by first | exact (fun h => by cases h) | simp)⟩, _, _, _, _, _, _, _, rfl, (by first | exact k0 | exact fun _ => rfl | (intro h; cases h) | simp), (by first | exact k1 | exact fun _ => rfl | (intro h; cases h) | simp), (by first | exact k2 | exact fun _ => rfl | (intro h; cases h) | simp), (by first | exact k3 | exact fun _ => rfl | (intro h; cases h) | simp), fun _ => rfl, (fun h => by cases h), (fun _ h => by cases h), fun _ _ => ⟨w2, h5, rfl, rfl⟩, (fun h => by cases h), (fun h => by cases h)⟩
    case s6 =>
      rintro l1 l2 l3 l4 l7 a2 w2 ⟨⟨d1, d2, d3, d4⟩, u14, u15, u16, u17, u18, u19, u20, rfl, k0, k1, k2, k3, k4, k5, k6, k7, k8, k9⟩
      obtain rfl : l7 = false := by
        cases l7 with
        | false => rfl
        | true => have := d4 rfl; simp at this
      obtain rfl : l4 = true := d2 rfl
      obtain rfl := k0 rfl
      obtain ⟨w5, h5, rfl, rfl⟩ := k7 rfl rfl
      refine wpOpIn_step rfl (fun K hK => ?_)
      refine stepIn_append rfl (.tmp 14) (.tmp 19) 124 rfl W0.heap.size 24 i0 (.agg #[.int .i64 0, .int .i64 0, .int .i64 0]) 3 24 Try.underlying124 HIN.out.1 HIN.out.2.1 HIN.out.2.2.1 HIN.out.2.2.2 rfl (by decide) u14 pre.length _ rfl ((own_below HR.out h5).alloc _) ⟨w5.heap.size, 0, none⟩ 1 1 [.int .i64 lx, .int .i64 ly, .int .i64 lz] rfl rfl (cells_new w5 [.int .i64 lx, .int .i64 ly, .int .i64 lz] 24) (by intro u hu; simp at hu; rcases hu with rfl | rfl | rfl <;> rfl) (by unfold maxLen; omega) (by omega) (by have := HK.out.size; have := h5.size; simp; omega) ?_
      intro v6 w6 hown6 hg6
      obtain ⟨g6, cap6, rfl⟩ := ownsRow_succ hown6
      exact hK _ _ ⟨⟨(by first | exact d1 | simp), (by first | exact d2 | simp), (by first | exact fun _ => ⟨rfl, rfl⟩ | simp), (by first | exact (fun h => by cases h) | simp)⟩, _, _, _, _, _, _, _, rfl, fun _ => rfl, (by first | exact k1 | exact fun _ => rfl | (intro h; cases h) | simp), (by first | exact k2 | exact fun _ => rfl | (intro h; cases h) | simp), (by first | exact k3 | exact fun _ => rfl | (intro h; cases h) | simp), (by first | exact k4 | exact fun _ => rfl | (intro h; cases h) | simp), (fun h => by cases h), (fun _ h => by cases h), (fun _ h => by cases h), fun _ _ => ⟨w5, g6, cap6, h5, rfl, hown6, hg6⟩, (fun h => by cases h)⟩
    case s7 =>
      rintro l0 l1 l2 l3 l4 l5 a2 w2 ⟨⟨d1, d2, d3, d4⟩, u14, u15, u16, u17, u18, u19, u20, rfl, k0, k1, k2, k3, k4, k5, k6, k7, k8, k9⟩
      obtain ⟨e5, e0⟩ := d3 rfl
      subst e5 e0
      obtain rfl := d2 rfl
      obtain ⟨w5, g6, cap6, h5, rfl, hown6, hg6⟩ := k8 rfl rfl
      have hv5 : Boxed w5 (q + 1 + 1 + 1 + 1) 124 v := (h5.block _ HV.out.lt).trans HV.out
      have hr5 := own_below HR.out h5
      have hz5 : W0.heap.size ≤ w5.heap.size := Nat.le_trans HK.out.size h5.size
      obtain ⟨a1, a2, _, a4, a5⟩ := hv5.appended (n₀ := q) (by decide) (own_base2 hr5 (by omega)) (by omega) (by omega) (own_base2 hown6 (by omega)) hg6
      have a3 := hown6.kept (grownBy_setCell' w2 (q + 1 + 1 + 1 + 1) (.slice (some ⟨g6, 0, none⟩) (pre.length + 1) cap6)) (.inr (a1.not_row (by decide) hown6).symm)
      have a6 := keepP_app (gb := q + 1 + 1 + 1 + 1) (.slice (some ⟨g6, 0, none⟩) (pre.length + 1) cap6) hr5 hg6 hz5 (by omega)
      have hfin : Fin (w2.setCell ⟨q + 1 + 1 + 1 + 1, 0, none⟩ (.slice (some ⟨g6, 0, none⟩) (pre.length + 1) cap6)) := by
        rw [hFin]
        have b1 : KeepP W0.heap.size (q + 1 + 1 + 1 + 1) W (w2.setCell ⟨q + 1 + 1 + 1 + 1, 0, none⟩ (.slice (some ⟨g6, 0, none⟩) (pre.length + 1) cap6)) := (KeepP.of_below h5 HK.out.size).trans a6
        refine ⟨((keepsOthers_of_below h5).trans a4).from _, b1, ⟨HK.out.trans b1, _, a2, ?_, trivial⟩, HBW.out.trans ((h5.mono hqW).trans a5)⟩
        rw [linesOf_next (z := (lx, ly, lz)) HX.out HML.out, List.length_append]
        exact a3
      have c7w := a1.cell
      have f7w := a1.frozen
      refine wpOpIn_step rfl (fun K hK => ?_)
      go_simp
      exact hK _ _ ⟨⟨(by first | exact d1 | simp), (by first | exact d2 | simp), (by first | exact d3 | simp), (by first | exact fun _ => rfl | simp)⟩, _, _, _, _, _, _, _, rfl, (by first | exact k0 | exact fun _ => rfl | (intro h; cases h) | simp), (by first | exact k1 | exact fun _ => rfl | (intro h; cases h) | simp), (by first | exact k2 | exact fun _ => rfl | (intro h; cases h) | simp), (by first | exact k3 | exact fun _ => rfl | (intro h; cases h) | simp), (by first | exact k4 | exact fun _ => rfl | (intro h; cases h) | simp), (fun h => by cases h), (fun _ h => by cases h), (fun _ h => by cases h), (fun _ h => by cases h), fun _ => hfin⟩
    case fin =>
      rintro a2 w2 ⟨_, u14, u15, u16, u17, u18, u19, u20, rfl, k0, k1, k2, k3, k4, k5, k6, k7, k8, k9⟩
      have hF := k9 rfl
      rw [hFin] at hF
      exact hF
  case done =>
    rintro D pre W hD hS ⟨⟨hK, v, hv, hr, _⟩, hBw⟩ hKD
    have hN1 : pre.length = (pairsL ms ms.length).length := by rw [hS, comeK_length]
    have hLA : linesOf (pairsL ms ms.length) M pre = (pairsL ms ms.length).map M := by rw [hS]; exact linesOf_all M hp
    rw [hLA, hN1] at hr
    have hN2 : (pairsL ms ms.length).length ≤ 1000 := by have := pairsL_len ms ms.length; have : ms.length * ms.length ≤ 12 * 12 := Nat.mul_le_mul hn2 hn2; omega
    obtain ⟨g, cap, rfl, hgb, hgl⟩ := hr.form hp
    obtain ⟨ls, hls⟩ : ∃ ls, (pairsL ms ms.length).map M = ls := ⟨_, rfl⟩
    have hll : (pairsL ms ms.length).length = ls.length := by rw [← hls, List.length_map]
    rw [hls, hll] at hr
    rw [hll] at hv hN2 hp
    have HR : Hid (LinesR W (some ⟨g, 0, none⟩) ls) := Lib.hid (Reads.of_own hr)
    have hqW : q ≤ W.heap.size := by have := hK.size; omega
    have hz0 : W0.heap.size ≤ W.heap.size := hK.size
    have HPL : Hid (∀ x ∈ ls, P x) := Lib.hid fun x hx => by
      rw [← hls] at hx
      obtain ⟨y, hy, rfl⟩ := List.mem_map.1 hx
      exact HT.out.2.2.2 y hy
    have HBW := Lib.hid hBw
    have c5 := (hK.old ⟨q + 1 + 1, 0, none⟩ (by show q + 1 + 1 < _; omega) (by show q + 1 + 1 ≠ _; omega)).trans g5
    have c3 := (hK.old ⟨q, 0, none⟩ (by show q < _; omega) (by show q ≠ _; omega)).trans g3
    have c6 := (hK.blk (q + 1 + 1 + 1) (by omega) (by omega)).trans g6
    have HLC : Hid (LCmp 112 #[.pointer (some ⟨q + 1 + 1, 0, none⟩), .pointer (some ⟨q, 0, none⟩)] (cmpT T) ls W) := Lib.hid fun W1 x y hW1 hx hy =>
      bestLit_any gt T P (some ⟨b, o, none⟩) ms.length c W1 (q + 1 + 1) q HT.out.2.1 (fun W2 x2 h2 h3 => HT.out.1 W2 x2 (by rw [HQ.out]; exact HBW.out.trans ((hW1.mono hqW).trans (h2.mono (Nat.le_trans hqW hW1.size)))) h3) HT.out.2.2.1 (by have := hW1.size; omega) (by have := hW1.size; omega) ((hW1.cell (p := ⟨q + 1 + 1, 0, none⟩) (by show q + 1 + 1 < _; omega)).trans c5) ((hW1.cell (p := ⟨q, 0, none⟩) (by show q < _; omega)).trans c3) x y (HPL.out x hx) (HPL.out y hy)
    have HEN : Hid (∀ args w, (callFunc 112 args).run Try.prog w = .ok (.enter 112 args) w) := Lib.hid (enters_of Try.func112 (by kernel_rfl) rfl)
    have c7 := hv.cell
    obtain ⟨⟨rx, ry, rz⟩, hbr⟩ : ∃ z, minF (cmpT T) ls = z := ⟨_, rfl⟩
    have HMF : Hid (Calls Try.prog 111 #[.slice (some ⟨g, 0, none⟩) ls.length cap, .func (.func 112) #[] #[.pointer (some ⟨q + 1 + 1, 0, none⟩), .pointer (some ⟨q, 0, none⟩)]] W fun e w' => e = .returned (.agg #[.int .i64 rx, .int .i64 ry, .int .i64 rz]) ∧ Below W.heap.size W w') := Lib.hid (by
      have q1 := minFunc_any 112 #[.pointer (some ⟨q + 1 + 1, 0, none⟩), .pointer (some ⟨q, 0, none⟩)] (cmpT T) HEN.out ls (some ⟨g, 0, none⟩) cap W HR.out hN2 hp HLC.out
      rw [hbr] at q1
      exact q1)
    have HBR : Hid (lnV (bestL T M ms) = .agg #[.int .i64 rx, .int .i64 ry, .int .i64 rz]) := Lib.hid (by rw [bestL, hls, hbr]; rfl)
    have hDl := (Array.getElem?_eq_some_iff.1 hKD).1
    have HC6 := Lib.hid c6
    have HKD := Lib.hid hKD
    clear hS hN1 hLA hr hls hll HLC HR c5 c3 c6 hbr hKD hv hK hBw
    go_wp2_with (first
      | (go_at_call 111; refine HMF.out.mono ?_; rintro e w7 ⟨rfl, hB7⟩; have hc7 := (hB7.block _ (by omega)).trans HC6.out; have hd7 := (hB7.block _ hDl).trans HKD.out)
      | (refine wpList_store_row rfl 24 (.tmp 6) (.tmp 23) rfl (q + 1 + 1 + 1) #[.int .i64 rx, .int .i64 ry, .int .i64 rz] rfl rfl 24 _ hc7 (by kernel_rfl) (by kernel_rfl) (by kernel_rfl) ?_; refine row_world3 q w _ _ D _ _ _ hc7 (HBW.out.trans (hB7.mono hqW)) (by omega) (by omega) (fun X hX1 hX3 hX2 => ?_))
      | fail)
    refine ⟨by simp, .inl ⟨_, _, rfl, run_takeDeferred (hX3.trans hd7), ?_⟩⟩
    have hne : q + 1 + 1 + 1 ≠ D := by omega
    have r0 : (X.putObj D (.deferred none)).cell? ⟨q + 1 + 1 + 1, 0, none⟩ = some (.int .i64 rx) := (World.cell?_of_block (World.putObj_heap_other hne)).trans (by rw [cell_of_row X _ 0 _ _ (0, 0) hX1]; rfl)
    have r1 : (X.putObj D (.deferred none)).cell? ⟨q + 1 + 1 + 1, 1, none⟩ = some (.int .i64 ry) := (World.cell?_of_block (World.putObj_heap_other hne)).trans (by rw [cell_of_row X _ 1 _ _ (0, 0) hX1]; rfl)
    have r2 : (X.putObj D (.deferred none)).cell? ⟨q + 1 + 1 + 1, 2, none⟩ = some (.int .i64 rz) := (World.cell?_of_block (World.putObj_heap_other hne)).trans (by rw [cell_of_row X _ 2 _ _ (0, 0) hX1]; rfl)
    refine ⟨.agg #[.int .i64 rx, .int .i64 ry, .int .i64 rz], (by simp [results, Try.f94, go_sem, r0, r1, r2]), ?_⟩
    refine ⟨by rw [HBR.out], ?_⟩
    have hfin := hX2.trans ((Below.refl q X).grown (grownBy_putObj' X D (.deferred none)) (by have := hX2.size; have := HQ.out; omega) (fun k e => by cases e; omega))
    rw [HQ.out]
    exact hfin
  case stop =>
    rintro D c pre W _ _ h _
    exact h.elim
end Go.Proofs.Ytoilbgngefleiaa
