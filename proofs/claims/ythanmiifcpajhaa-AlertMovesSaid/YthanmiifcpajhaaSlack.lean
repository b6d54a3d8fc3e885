/-
  Contracts: Slack, Overfull.
-/
import Derived.RangeFuncNested
import Derived.RangeFuncBound
import Derived.RangeFuncCalls
import Derived.Shelf.RegionOpen
import Derived.WalkKit
import Derived.Deep.CutRange
import Derived.Test.YthanmiifcpajhaaDemand
set_option linter.unusedVariables false
set_option linter.unusedSimpArgs false
namespace Go.Proofs.Ythanmiifcpajhaa
open Go Go.RowKit Go.Shelf
attribute [local go_sem] Oper.semAt_some

def stS (ts : List (Int × Int × Int)) (x : StE) : Int := slI ts (x.1.val : Int) ((x.1.val : Int) + 1 + (x.2.val : Int)) 1
def mnS (ts : List (Int × Int × Int)) (xs : List StE) : Int := xs.foldl (fun m x => if m ≤ stS ts x then m else stS ts x) 100
theorem mnS_snoc (ts : List (Int × Int × Int)) (xs : List StE) (x : StE) : mnS ts (xs ++ [x]) = if mnS ts xs ≤ stS ts x then mnS ts xs else stS ts x := by
  rw [mnS, List.foldl_append]; rfl

theorem keepsOthers_of_below {A B : World} (h : Below A.heap.size A B) : KeepsOthers A B := ⟨h.size, fun k _ hk _ => (h.block k (Array.getElem?_eq_some_iff.1 hk).1).trans hk⟩
set_option maxRecDepth 100000 in
set_option maxHeartbeats 2000000 in
theorem slackX_any (ts : List (Int × Int × Int)) (A : Option Addr) (cap : Nat) (w : World) (h : Marks w A ts) (hv : vaB ts = true) :
    Calls Try.prog 38 #[.slice A ts.length cap] w fun e w' => e = .returned (.tuple #[.int .i64 (mnS ts allS), .int .i64 0]) ∧ Below w.heap.size w w' := by
  have H := Lib.hid h
  have HV := Lib.hid hv
  have hl := va_len hv
  obtain ⟨hl1, hl2⟩ := hl
  clear h hv
  refine (callsIn_wide (n := 3)).1 ?_
  refine callsIn_of_wp_marks Try.func38 rfl trivial ?_ rfl
  simp only [Try.ntmps38, List.size_toArray, List.length_cons, List.length_nil, Nat.reduceAdd, Nat.reduceSub, Array.replicate_succ, Array.replicate_zero, List.push_toArray, List.append_toArray, List.nil_append, List.cons_append]
  refine wpIn_wide.2 ?_
  go_wp2_with (first
    | (go_at_call 19; refine (valid_any ts _ _ _ (H.out.below (by repeat (first | with_reducible exact Below.refl _ _ | with_reducible assumption | refine below_drewN ?_ _ | with_reducible refine Below.drew ?_ | (refine Below.setCell ?_ (by first | (simp; done) | (simp; omega) | omega) _) | (refine Below.alloc ?_ (by first | (simp; done) | (simp; omega) | omega) _)))) (by unfold maxLen; omega)).mono ?_; rintro e w1 ⟨he, hB1⟩; rw [HV.out] at he; subst he; have c0 := (hB1.cell (p := ⟨w.heap.size, 0, none⟩) (by simp)).trans (show World.cell? _ _ = some (Value.slice A ts.length cap) by simp); have hz1 := hB1.size; simp at hz1; have hW1 : Below w.heap.size w w1 := Below.trans (by repeat (first | with_reducible exact Below.refl _ _ | with_reducible assumption | refine below_drewN ?_ _ | with_reducible refine Below.drew ?_ | (refine Below.setCell ?_ (by first | (simp; done) | (simp; omega) | omega) _) | (refine Below.alloc ?_ (by first | (simp; done) | (simp; omega) | omega) _))) (hB1.mono (by simp)); clear hB1)
    | fail)
  obtain ⟨lb, hlb⟩ : ∃ lb, lb = w1.heap.size := ⟨_, rfl⟩
  obtain ⟨w4, hw4⟩ : ∃ w4, w4 = w1.alloc (.cells #[.int .i64 100] 3) := ⟨_, rfl⟩
  rw [← hlb, ← hw4]
  have hB14 : Below w1.heap.size w1 w4 := by rw [hw4]; exact (Below.refl _ _).alloc (Nat.le_refl _) _
  have cT : w4.cell? ⟨w.heap.size, 0, none⟩ = some (.slice A ts.length cap) := (hB14.cell (p := ⟨w.heap.size, 0, none⟩) (show w.heap.size < w1.heap.size by omega)).trans c0
  have cL : w4.cell? ⟨lb, 0, none⟩ = some (.int .i64 100) := by rw [hw4, hlb]; simp
  have fL : w4.frozen? ⟨lb, 0, none⟩ = false := by rw [hw4, hlb]; exact blk_frozen (heap_alloc_new w1 _) 0
  have hz4 : w4.heap.size = lb + 1 := by rw [hw4, hlb]; simp
  have hW4 : Below w.heap.size w w4 := below_step hW1 hB14
  have hlw : w.heap.size < lb := by omega
  clear hw4 hlb hB14 c0 hz1 hW1
  refine (wpIn_wide (n := 3)).1 ?_
  refine wpIn_rangeFunc_ownG rfl (by omega) (gf := 75) (lb := #[]) rfl trivial (enters_of Try.func75 (by kernel_rfl) rfl)
    (stretches_stops Fence.wide 2 trivial rfl (by omega) (fun _ _ => True) (fun _ _ => trivial) (fun _ => trivial) w4)
    (fun _ _ => trivial) (fun _ _ _ _ _ _ _ _ => trivial) (Below.refl _ _) (fun _ => rfl)
    (fun pre W => (W.cell? ⟨lb, 0, none⟩ = some (.int .i64 (mnS ts pre)) ∧ W.frozen? ⟨lb, 0, none⟩ = false ∧ W.cell? ⟨w.heap.size, 0, none⟩ = some (.slice A ts.length cap)) ∧ Below w.heap.size w W)
    (fun _ _ _ => False)
    (OwnFrom.and (Own.from (fun s A B row hs hg hr => ⟨cell_kept hs.1 hg hr, (frozen_kept hs.1 hg hr).trans hs.2.1, cell_kept hs.2.2 hg hr⟩) _) (ownFrom_below (Nat.le_refl _) (by omega)))
    (fun _ _ _ _ _ hs _ _ => hs)
    ⟨⟨cL, fL, cT⟩, hW4⟩
    (fun x => { tmps := #[.slice A ts.length cap, .pointer (some ⟨w.heap.size, 0, none⟩), .int .i64 0, .int .i64 0, .pointer (some ⟨lb, 0, none⟩), .int .i64 (x.1.val : Int), .int .i64 ((x.1.val : Int) + 1 + (x.2.val : Int)), .slice A ts.length cap, .bool true, .bool false, .int .i64 (x.1.val : Int), .int .i64 ((x.1.val : Int) + 1 + (x.2.val : Int)), undef, undef, undef, undef, undef, undef, undef], defers := [] }) ?assign ?body ?done ?stop
  case assign =>
    intro l x W K hK
    simp only [encS]
    gi_wp2
    exact hK
  case body =>
    rintro l pre ⟨⟨a, ha⟩, ⟨d, hd⟩⟩ W ⟨⟨cL, fL, cT⟩, hBw⟩ hpl
    have HM := Lib.hid (mnS_snoc ts pre (⟨a, ha⟩, ⟨d, hd⟩))
    obtain ⟨m, hm⟩ : ∃ m, mnS ts pre = m := ⟨_, rfl⟩
    obtain ⟨v, hvv⟩ : ∃ v, slI ts (a : Int) ((a : Int) + 1 + (d : Int)) 1 = v := ⟨_, rfl⟩
    have hM2 : mnS ts (pre ++ [(⟨a, ha⟩, ⟨d, hd⟩)]) = if m ≤ v then m else v := by
      rw [HM.out, hm, show stS ts (⟨a, ha⟩, ⟨d, hd⟩) = v from hvv]
    rw [hm] at cL
    have HM2 := Lib.hid hM2
    have HS := Lib.hid (slack_any ts A cap (a : Int) ((a : Int) + 1 + (d : Int)) 1 W.drew ((H.out.below hBw).drewN 1) HV.out (by omega) (by omega) (.inl rfl))
    rw [hvv] at HS
    have hmx : Try.prog.follows .mixedOrders = true := by kernel_rfl
    clear hM2 hm hvv
    dsimp only
    by_cases hvm : v < m
    · have HR : Hid (mnS ts (pre ++ [(⟨a, ha⟩, ⟨d, hd⟩)]) = v) := Lib.hid (by rw [HM2.out]; split <;> omega)
      clear HM HM2
      gi_wp2
      gi_region_with_o ((refine ⟨trivial, ?_⟩; gi_at_call 76; refine (CallsIn.inRound l (callsIn_wide.2 HS.out)).mono ?_; rintro e w5 ⟨rfl, hB5⟩; have cL5 := (hB5.cell (p := ⟨lb, 0, none⟩) (World.block_lt_of_cell? _ _ cL)).trans cL; have fL5 := (hB5.frozen (p := ⟨lb, 0, none⟩) (World.block_lt_of_cell? _ _ cL)).trans fL; have cT5 := (hB5.cell (p := ⟨w.heap.size, 0, none⟩) (World.block_lt_of_cell? _ _ cT)).trans cT))
      all_goals
        gi_wp2
        have hB6 : Below W.heap.size W w5 := Below.trans (Below.drew (Below.refl _ _)) hB5
        refine ⟨((keepsOthers_of_below hB6).trans (KeepsOthers.setCell _ _ _)).from _, trivial, ⟨⟨?_, ?_, ?_⟩, (below_step hBw hB6).setCell (by show w.heap.size ≤ lb; omega) _⟩⟩
        · rw [HR.out]
          exact World.cell?_setCell_same' _ _ _ (by rw [cL5]; rfl)
        · rw [World.frozen?_setCell]; exact fL5
        · exact (World.cell?_setCell_far _ _ _ _ (by show lb ≠ w.heap.size; omega)).trans cT5
    · have HR : Hid (mnS ts (pre ++ [(⟨a, ha⟩, ⟨d, hd⟩)]) = m) := Lib.hid (by rw [HM2.out]; split <;> omega)
      clear HM HM2
      gi_wp2
      gi_region_with_o ((refine ⟨trivial, ?_⟩; gi_at_call 76; refine (CallsIn.inRound l (callsIn_wide.2 HS.out)).mono ?_; rintro e w5 ⟨rfl, hB5⟩; have cL5 := (hB5.cell (p := ⟨lb, 0, none⟩) (World.block_lt_of_cell? _ _ cL)).trans cL; have fL5 := (hB5.frozen (p := ⟨lb, 0, none⟩) (World.block_lt_of_cell? _ _ cL)).trans fL; have cT5 := (hB5.cell (p := ⟨w.heap.size, 0, none⟩) (World.block_lt_of_cell? _ _ cT)).trans cT))
      all_goals
        gi_wp2
        have hB6 : Below W.heap.size W w5 := Below.trans (Below.drew (Below.refl _ _)) hB5
        refine ⟨((keepsOthers_of_below hB6).trans (KeepsOthers.setCell _ _ _)).from _, trivial, ⟨⟨?_, ?_, ?_⟩, (below_step hBw hB6).setCell (by show w.heap.size ≤ lb; omega) _⟩⟩
        · rw [HR.out]
          exact World.cell?_setCell_same' _ _ _ (by rw [cL5]; rfl)
        · rw [World.frozen?_setCell]; exact fL5
        · exact (World.cell?_setCell_far _ _ _ _ (by show lb ≠ w.heap.size; omega)).trans cT5
  case done =>
    rintro D xs W hD rfl ⟨⟨cL, fL, cT⟩, hBw⟩ hKD
    obtain ⟨m, hm⟩ : ∃ m, mnS ts allS = m := ⟨_, rfl⟩
    rw [hm] at cL
    have HM := Lib.hid hm
    have hB7 := Lib.hid (hBw.trans (belowK_b (w := w) (Nat.le_refl _) W D _ (.deferred none) (by omega) hKD rfl rfl))
    clear hm
    go_wp2
    refine ⟨by simp, .inl ⟨_, _, rfl, run_takeDeferred hKD, ?_⟩⟩
    refine ⟨.tuple #[.int .i64 m, .int .i64 0], (by simp [results, Try.f38, go_sem]), by rw [HM.out], hB7.out⟩
  case stop =>
    rintro D c pre W _ _ h _
    exact h.elim
end Go.Proofs.Ythanmiifcpajhaa
