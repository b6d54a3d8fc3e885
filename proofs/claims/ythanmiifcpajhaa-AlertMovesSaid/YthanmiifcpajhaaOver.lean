/-
  Contract: Overfull (valid tasks).
-/
import Derived.Test.YthanmiifcpajhaaSlack
set_option linter.unusedVariables false
set_option linter.unusedSimpArgs false
namespace Go.Proofs.Ythanmiifcpajhaa
open Go Go.RowKit Go.Shelf
attribute [local go_sem] Oper.semAt_some

def fsS (ts : List (Int × Int × Int)) : Option StE := allS.find? fun x => decide (stS ts x < 0)
def ovA (ts : List (Int × Int × Int)) : Int := match fsS ts with | some x => (x.1.val : Int) | none => 0
def ovB (ts : List (Int × Int × Int)) : Int := match fsS ts with | some x => (x.1.val : Int) + 1 + (x.2.val : Int) | none => 0
def ovE (ts : List (Int × Int × Int)) : Int := match fsS ts with | some _ => 0 | none => 5
theorem fs_none {ts : List (Int × Int × Int)} (h : ∀ x ∈ allS, 0 ≤ stS ts x) : ovA ts = 0 ∧ ovB ts = 0 ∧ ovE ts = 5 := by
  have : fsS ts = none := by
    rw [fsS, List.find?_eq_none]
    intro x hx
    have := h x hx
    simp; omega
  rw [ovA, ovB, ovE, this]; exact ⟨rfl, rfl, rfl⟩
theorem fs_some {ts : List (Int × Int × Int)} {pre : List StE} {x : StE} (hp : pre ++ [x] <+: allS) (h : ∀ y ∈ pre, 0 ≤ stS ts y) (hx : stS ts x < 0) : fsS ts = some x ∧ ovA ts = (x.1.val : Int) ∧ ovB ts = (x.1.val : Int) + 1 + (x.2.val : Int) ∧ ovE ts = 0 := by
  have e : fsS ts = some x := by
    obtain ⟨r, hr⟩ := hp
    rw [fsS, ← hr, List.append_assoc, List.find?_append, List.find?_eq_none.2 (by intro y hy; have := h y hy; simp; omega)]
    simp [hx]
  rw [ovA, ovB, ovE, e]; exact ⟨rfl, rfl, rfl, rfl⟩

theorem over_fin {w W : World} {D : Nat} {a b c : Nat} {x y z : Value} (hK : W.heap[D]? = some (.deferred (some []))) (hB : Below w.heap.size w W) (hD : w.heap.size ≤ D)
    (h1 : W.cell? ⟨a, 0, none⟩ = some x) (h2 : W.cell? ⟨b, 0, none⟩ = some y) (h3 : W.cell? ⟨c, 0, none⟩ = some z) :
    (W.putObj D (.deferred none)).cell? ⟨a, 0, none⟩ = some x ∧ (W.putObj D (.deferred none)).cell? ⟨b, 0, none⟩ = some y ∧ (W.putObj D (.deferred none)).cell? ⟨c, 0, none⟩ = some z ∧ Below w.heap.size w (W.putObj D (.deferred none)) :=
  ⟨cell_kept h1 (grownBy_putObj' _ D (.deferred none)) (fun r e => by cases e; exact ⟨_, hK, rfl⟩), cell_kept h2 (grownBy_putObj' _ D (.deferred none)) (fun r e => by cases e; exact ⟨_, hK, rfl⟩), cell_kept h3 (grownBy_putObj' _ D (.deferred none)) (fun r e => by cases e; exact ⟨_, hK, rfl⟩), hB.trans (belowK_b (w := w) (Nat.le_refl _) W D _ (.deferred none) hD hK rfl rfl)⟩
set_option maxRecDepth 100000 in
set_option maxHeartbeats 2000000 in
theorem over_any (ts : List (Int × Int × Int)) (A : Option Addr) (cap : Nat) (w : World) (h : Marks w A ts) (hv : vaB ts = true) :
    Calls Try.prog 40 #[.slice A ts.length cap] w fun e w' => e = .returned (.tuple #[.int .i64 (ovA ts), .int .i64 (ovB ts), .int .i64 (ovE ts)]) ∧ Below w.heap.size w w' := by
  have H := Lib.hid h
  have HV := Lib.hid hv
  have hl := va_len hv
  obtain ⟨hl1, hl2⟩ := hl
  clear h hv
  refine (callsIn_wide (n := 3)).1 ?_
  refine callsIn_of_wp_marks Try.func40 rfl trivial ?_ rfl
  simp only [Try.ntmps40, List.size_toArray, List.length_cons, List.length_nil, Nat.reduceAdd, Nat.reduceSub, Array.replicate_succ, Array.replicate_zero, List.push_toArray, List.append_toArray, List.nil_append, List.cons_append]
  refine wpIn_wide.2 ?_
  have hB0 : Below w.heap.size w ((((w.alloc (.cells #[.slice A ts.length cap] 22)).alloc (.cells #[.int .i64 0] 3)).alloc (.cells #[.int .i64 0] 3)).alloc (.cells #[.int .i64 0] 26)) := (by repeat (first | with_reducible exact Below.refl _ _ | with_reducible assumption | refine below_drewN ?_ _ | with_reducible refine Below.drew ?_ | (refine Below.setCell ?_ (by first | (simp; done) | (simp; omega) | omega) _) | (refine Below.alloc ?_ (by first | (simp; done) | (simp; omega) | omega) _)))
  obtain ⟨w0, hw0⟩ : ∃ w0, w0 = ((((w.alloc (.cells #[.slice A ts.length cap] 22)).alloc (.cells #[.int .i64 0] 3)).alloc (.cells #[.int .i64 0] 3)).alloc (.cells #[.int .i64 0] 26)) := ⟨_, rfl⟩
  have b0 : w0.heap[w.heap.size]? = some (.cells #[.slice A ts.length cap] 22 (0, 0)) := by rw [hw0]; exact (Below.heap_alloc _ _ _ (by simp; omega)).trans ((Below.heap_alloc _ _ _ (by simp; omega)).trans ((Below.heap_alloc _ _ _ (by simp)).trans (heap_alloc_new w _)))
  have b1 : w0.heap[w.heap.size + 1]? = some (.cells #[.int .i64 0] 3 (0, 0)) := by rw [hw0]; exact (Below.heap_alloc _ _ _ (by simp)).trans ((Below.heap_alloc _ _ _ (by simp)).trans (by have := heap_alloc_new (w.alloc (.cells #[.slice A ts.length cap] 22)) (.cells #[.int .i64 0] 3); simpa using this))
  have b2 : w0.heap[w.heap.size + 1 + 1]? = some (.cells #[.int .i64 0] 3 (0, 0)) := by rw [hw0]; exact (Below.heap_alloc _ _ _ (by simp)).trans (by have := heap_alloc_new ((w.alloc (.cells #[.slice A ts.length cap] 22)).alloc (.cells #[.int .i64 0] 3)) (.cells #[.int .i64 0] 3); simpa using this)
  have b3 : w0.heap[w.heap.size + 1 + 1 + 1]? = some (.cells #[.int .i64 0] 26 (0, 0)) := by rw [hw0]; have := heap_alloc_new (((w.alloc (.cells #[.slice A ts.length cap] 22)).alloc (.cells #[.int .i64 0] 3)).alloc (.cells #[.int .i64 0] 3)) (.cells #[.int .i64 0] 26); simpa using this
  have hs0 : w0.heap.size = w.heap.size + 1 + 1 + 1 + 1 := by rw [hw0]; simp
  rw [← hw0] at hB0
  have CV : Hid (Calls Try.prog 19 #[.slice A ts.length cap] w0 fun e w1 => e = .returned (.bool true) ∧ Below w0.heap.size w0 w1) := Lib.hid ((valid_any ts A cap w0 (H.out.below hB0) (by unfold maxLen; omega)).mono fun _ _ h => ⟨by rw [h.1, HV.out], h.2⟩)
  rw [hw0] at CV
  have BB := Lib.hid (And.intro b0 (And.intro b1 (And.intro b2 b3)))
  have HS0 := Lib.hid hs0
  have HB0 := Lib.hid hB0
  have HW0 := Lib.hid hw0
  clear b0 b1 b2 b3 hs0 hB0 hw0
  go_wp2_with (first
    | (go_at_call 19; refine CV.out.mono ?_; rintro e w4 ⟨rfl, hB1⟩)
    | fail)
  rw [← HW0.out] at hB1
  have cT := (hB1.cell (p := ⟨w.heap.size, 0, none⟩) (by rw [HS0.out]; show w.heap.size < _; omega)).trans (blk_cell BB.out.1 0 rfl)
  have q1 := (hB1.block (w.heap.size + 1) (by rw [HS0.out]; omega)).trans BB.out.2.1
  have q2 := (hB1.block (w.heap.size + 1 + 1) (by rw [HS0.out]; omega)).trans BB.out.2.2.1
  have q3 := (hB1.block (w.heap.size + 1 + 1 + 1) (by rw [HS0.out]; omega)).trans BB.out.2.2.2
  have hz4 : w.heap.size + 1 + 1 + 1 < w4.heap.size := by have := hB1.size; rw [HS0.out] at this; omega
  have hW4 := below_step HB0.out hB1
  clear hB1 CV BB HS0 HB0 HW0 w0
  refine (wpIn_wide (n := 3)).1 ?_
  refine wpIn_rangeFunc_ownG rfl (by omega) (gf := 75) (lb := #[]) rfl trivial (enters_of Try.func75 (by kernel_rfl) rfl)
    (stretches_stops Fence.wide 2 trivial rfl (by omega) (fun _ _ => True) (fun _ _ => trivial) (fun _ => trivial) w4)
    (fun _ _ => trivial) (fun _ _ _ _ _ _ _ _ => trivial) (Below.refl _ _) (fun _ => rfl)
    (fun pre W => ((W.cell? ⟨w.heap.size, 0, none⟩ = some (.slice A ts.length cap)) ∧ (W.cell? ⟨w.heap.size + 1, 0, none⟩ = some (.int .i64 0) ∧ W.frozen? ⟨w.heap.size + 1, 0, none⟩ = false) ∧ (W.cell? ⟨w.heap.size + 1 + 1, 0, none⟩ = some (.int .i64 0) ∧ W.frozen? ⟨w.heap.size + 1 + 1, 0, none⟩ = false) ∧ (W.cell? ⟨w.heap.size + 1 + 1 + 1, 0, none⟩ = some (.int .i64 0) ∧ W.frozen? ⟨w.heap.size + 1 + 1 + 1, 0, none⟩ = false) ∧ ∀ y ∈ pre, 0 ≤ stS ts y) ∧ Below w.heap.size w W)
    (fun c pre W => (c = Code.ret ∧ ∃ pre' x, pre = pre' ++ [x] ∧ (∀ y ∈ pre', 0 ≤ stS ts y) ∧ stS ts x < 0 ∧ W.cell? ⟨w.heap.size + 1, 0, none⟩ = some (.int .i64 (x.1.val : Int)) ∧ W.cell? ⟨w.heap.size + 1 + 1, 0, none⟩ = some (.int .i64 ((x.1.val : Int) + 1 + (x.2.val : Int))) ∧ W.cell? ⟨w.heap.size + 1 + 1 + 1, 0, none⟩ = some (.int .i64 0)) ∧ Below w.heap.size w W)
    (OwnFrom.and (Own.from (fun s A B row hs hg hr => ⟨cell_kept hs.1 hg hr, ⟨cell_kept hs.2.1.1 hg hr, (frozen_kept hs.2.1.1 hg hr).trans hs.2.1.2⟩, ⟨cell_kept hs.2.2.1.1 hg hr, (frozen_kept hs.2.2.1.1 hg hr).trans hs.2.2.1.2⟩, ⟨cell_kept hs.2.2.2.1.1 hg hr, (frozen_kept hs.2.2.2.1.1 hg hr).trans hs.2.2.2.1.2⟩, hs.2.2.2.2⟩) _) (ownFrom_below (Nat.le_refl _) (by omega)))
    (fun c => OwnFrom.and (Own.from (fun s A B row hs hg hr => by
      obtain ⟨rfl, pre', x, e, h1, h2, k1, k2, k3⟩ := hs
      exact ⟨rfl, pre', x, e, h1, h2, cell_kept k1 hg hr, cell_kept k2 hg hr, cell_kept k3 hg hr⟩) _) (ownFrom_below (Nat.le_refl _) (by omega)))
    ⟨⟨cT, ⟨blk_cell q1 0 rfl, blk_frozen q1 0⟩, ⟨blk_cell q2 0 rfl, blk_frozen q2 0⟩, ⟨blk_cell q3 0 rfl, blk_frozen q3 0⟩, fun y hy => by cases hy⟩, hW4⟩
    (fun x => { tmps := #[.slice A ts.length cap, .pointer (some ⟨w.heap.size, 0, none⟩), .pointer (some ⟨w.heap.size + 1, 0, none⟩), .pointer (some ⟨w.heap.size + 1 + 1, 0, none⟩), .pointer (some ⟨w.heap.size + 1 + 1 + 1, 0, none⟩), .int .i64 (x.1.val : Int), .int .i64 ((x.1.val : Int) + 1 + (x.2.val : Int)), .slice A ts.length cap, .bool true, .bool false, .int .i64 (x.1.val : Int), .int .i64 ((x.1.val : Int) + 1 + (x.2.val : Int)), undef, undef, undef, undef, undef, undef, undef], defers := [] }) ?assign ?body ?done ?stop
  case assign =>
    intro l x W K hK
    simp only [encS]
    gi_wp2
    exact hK
  case body =>
    rintro l pre ⟨⟨a, ha⟩, ⟨d, hd⟩⟩ W ⟨⟨cT, ⟨cA, fA⟩, ⟨cB, fB⟩, ⟨cE, fE⟩, hall⟩, hBw⟩ hpl
    obtain ⟨v, hvv⟩ : ∃ v, slI ts (a : Int) ((a : Int) + 1 + (d : Int)) 1 = v := ⟨_, rfl⟩
    have HST : Hid (stS ts (⟨a, ha⟩, ⟨d, hd⟩) = v) := Lib.hid hvv
    have HS := Lib.hid (slack_any ts A cap (a : Int) ((a : Int) + 1 + (d : Int)) 1 W (H.out.below hBw) HV.out (by omega) (by omega) (.inl rfl))
    rw [hvv] at HS
    have HALL := Lib.hid hall
    clear hvv hall
    dsimp only
    by_cases hneg : v < 0
    · have t1 : decide (v < 0) = true := decide_eq_true hneg
      gi_wp2_with (refine ⟨trivial, ?_⟩; gi_at_call 76; refine (CallsIn.inRound l (callsIn_wide.2 HS.out)).mono ?_; rintro e w5 ⟨rfl, hB5⟩; have hs := World.block_lt_of_cell? _ _ cE; have cA5 := (hB5.cell (p := ⟨w.heap.size + 1, 0, none⟩) (by show w.heap.size + 1 < _; have : w.heap.size + 1 + 1 + 1 < W.heap.size := hs; omega)).trans cA; have fA5 := (hB5.frozen (p := ⟨w.heap.size + 1, 0, none⟩) (by show w.heap.size + 1 < _; have : w.heap.size + 1 + 1 + 1 < W.heap.size := hs; omega)).trans fA; have cB5 := (hB5.cell (p := ⟨w.heap.size + 1 + 1, 0, none⟩) (by show w.heap.size + 1 + 1 < _; have : w.heap.size + 1 + 1 + 1 < W.heap.size := hs; omega)).trans cB; have fB5 := (hB5.frozen (p := ⟨w.heap.size + 1 + 1, 0, none⟩) (by show w.heap.size + 1 + 1 < _; have : w.heap.size + 1 + 1 + 1 < W.heap.size := hs; omega)).trans fB; have cE5 := (hB5.cell (p := ⟨w.heap.size + 1 + 1 + 1, 0, none⟩) hs).trans cE; have fE5 := (hB5.frozen (p := ⟨w.heap.size + 1 + 1 + 1, 0, none⟩) hs).trans fE)
      have hs5 : w.heap.size + 1 + 1 + 1 < w5.heap.size := Nat.lt_of_lt_of_le (World.block_lt_of_cell? _ _ cE) hB5.size
      refine ⟨((keepsOthers_of_below hB5).trans (((KeepsOthers.setCell _ _ _).trans (KeepsOthers.setCell _ _ _)).trans (KeepsOthers.setCell _ _ _))).from _, ⟨rfl, pre, (⟨a, ha⟩, ⟨d, hd⟩), rfl, HALL.out, by rw [HST.out]; exact hneg, ?_, ?_, ?_⟩, (((below_step hBw hB5).setCell (by show w.heap.size ≤ w.heap.size + 1; omega) _).setCell (by show w.heap.size ≤ w.heap.size + 1 + 1; omega) _).setCell (by show w.heap.size ≤ w.heap.size + 1 + 1 + 1; omega) _⟩
      · refine (World.cell?_setCell_far _ _ _ _ (by show w.heap.size + 1 + 1 + 1 ≠ w.heap.size + 1; omega)).trans ((World.cell?_setCell_far _ _ _ _ (by show w.heap.size + 1 + 1 ≠ w.heap.size + 1; omega)).trans (World.cell?_setCell_same' _ _ _ (by rw [cA5]; rfl)))
      · refine (World.cell?_setCell_far _ _ _ _ (by show w.heap.size + 1 + 1 + 1 ≠ w.heap.size + 1 + 1; omega)).trans (World.cell?_setCell_same' _ _ _ (by rw [World.cell?_setCell_far _ _ _ _ (by show w.heap.size + 1 ≠ w.heap.size + 1 + 1; omega), cB5]; rfl))
      · exact World.cell?_setCell_same' _ _ _ (by rw [World.cell?_setCell_far _ _ _ _ (by show w.heap.size + 1 + 1 ≠ w.heap.size + 1 + 1 + 1; omega), World.cell?_setCell_far _ _ _ _ (by show w.heap.size + 1 ≠ w.heap.size + 1 + 1 + 1; omega), cE5]; rfl)
    · have t1 : decide (v < 0) = false := decide_eq_false hneg
      gi_wp2_with (refine ⟨trivial, ?_⟩; gi_at_call 76; refine (CallsIn.inRound l (callsIn_wide.2 HS.out)).mono ?_; rintro e w5 ⟨rfl, hB5⟩)
      have hs := World.block_lt_of_cell? _ _ cE
      have hs' : w.heap.size + 1 + 1 + 1 < W.heap.size := hs
      refine ⟨(keepsOthers_of_below hB5).from _, trivial, ⟨(hB5.cell (p := ⟨w.heap.size, 0, none⟩) (by show w.heap.size < _; omega)).trans cT, ⟨(hB5.cell (p := ⟨w.heap.size + 1, 0, none⟩) (by show w.heap.size + 1 < _; omega)).trans cA, (hB5.frozen (p := ⟨w.heap.size + 1, 0, none⟩) (by show w.heap.size + 1 < _; omega)).trans fA⟩, ⟨(hB5.cell (p := ⟨w.heap.size + 1 + 1, 0, none⟩) (by show w.heap.size + 1 + 1 < _; omega)).trans cB, (hB5.frozen (p := ⟨w.heap.size + 1 + 1, 0, none⟩) (by show w.heap.size + 1 + 1 < _; omega)).trans fB⟩, ⟨(hB5.cell (p := ⟨w.heap.size + 1 + 1 + 1, 0, none⟩) hs).trans cE, (hB5.frozen (p := ⟨w.heap.size + 1 + 1 + 1, 0, none⟩) hs).trans fE⟩, ?_⟩, below_step hBw hB5⟩
      intro y hy
      rcases List.mem_append.1 hy with hy | hy
      · exact HALL.out y hy
      · obtain rfl := List.mem_singleton.1 hy
        rw [HST.out]; omega
  case done =>
    rintro D xs W hD rfl ⟨⟨cT, ⟨cA, fA⟩, ⟨cB, fB⟩, ⟨cE, fE⟩, hall⟩, hBw⟩ hKD
    have HF := Lib.hid (fs_none hall)
    obtain ⟨W3, hW3⟩ : ∃ W3, ((W.setCell ⟨w.heap.size + 1, 0, none⟩ (.int .i64 0)).setCell ⟨w.heap.size + 1 + 1, 0, none⟩ (.int .i64 0)).setCell ⟨w.heap.size + 1 + 1 + 1, 0, none⟩ (.int .i64 5) = W3 := ⟨_, rfl⟩
    have k1 : W3.cell? ⟨w.heap.size + 1, 0, none⟩ = some (.int .i64 0) := by
      rw [← hW3]
      exact (World.cell?_setCell_far _ _ _ _ (by show w.heap.size + 1 + 1 + 1 ≠ w.heap.size + 1; omega)).trans ((World.cell?_setCell_far _ _ _ _ (by show w.heap.size + 1 + 1 ≠ w.heap.size + 1; omega)).trans (World.cell?_setCell_same' _ _ _ (by rw [cA]; rfl)))
    have k2 : W3.cell? ⟨w.heap.size + 1 + 1, 0, none⟩ = some (.int .i64 0) := by
      rw [← hW3]
      exact (World.cell?_setCell_far _ _ _ _ (by show w.heap.size + 1 + 1 + 1 ≠ w.heap.size + 1 + 1; omega)).trans (World.cell?_setCell_same' _ _ _ (by rw [World.cell?_setCell_far _ _ _ _ (by show w.heap.size + 1 ≠ w.heap.size + 1 + 1; omega), cB]; rfl))
    have k3 : W3.cell? ⟨w.heap.size + 1 + 1 + 1, 0, none⟩ = some (.int .i64 5) := by
      rw [← hW3]
      exact World.cell?_setCell_same' _ _ _ (by rw [World.cell?_setCell_far _ _ _ _ (by show w.heap.size + 1 + 1 ≠ w.heap.size + 1 + 1 + 1; omega), World.cell?_setCell_far _ _ _ _ (by show w.heap.size + 1 ≠ w.heap.size + 1 + 1 + 1; omega), cE]; rfl)
    have hK3 : W3.heap[D]? = some (.deferred (some [])) := by
      rw [← hW3]
      exact (((KeepsOthers.setCell W _ _).trans (KeepsOthers.setCell _ _ _)).trans (KeepsOthers.setCell _ _ _)).same D _ hKD rfl
    have hB3 : Below w.heap.size w W3 := by
      rw [← hW3]
      exact ((hBw.setCell (by show w.heap.size ≤ w.heap.size + 1; omega) _).setCell (by show w.heap.size ≤ w.heap.size + 1 + 1; omega) _).setCell (by show w.heap.size ≤ w.heap.size + 1 + 1 + 1; omega) _
    have HW3 := Lib.hid hW3
    have FIN := Lib.hid (over_fin hK3 hB3 (by omega) k1 k2 k3)
    have HK3 := Lib.hid hK3
    clear hall hW3 k1 k2 k3 hK3 hB3
    go_wp2
    rw [HW3.out]
    refine ⟨by simp, .inl ⟨_, _, rfl, run_takeDeferred HK3.out, ?_⟩⟩
    obtain ⟨r1, r2, r3, r4⟩ := FIN.out
    refine ⟨.tuple #[.int .i64 0, .int .i64 0, .int .i64 5], (by simp [results, Try.f40, go_sem, r1, r2, r3]), by rw [HF.out.1, HF.out.2.1, HF.out.2.2], r4⟩
  case stop =>
    rintro D c pre W hD hSp ⟨⟨rfl, pre', x, rfl, h1, h2, k1, k2, k3⟩, hBw⟩ hKD
    have HF := Lib.hid (fs_some hSp h1 h2)
    have FIN := Lib.hid (over_fin hKD hBw (by omega) k1 k2 k3)
    gi_wp2
    refine ⟨by simp, .inl ⟨_, _, rfl, run_takeDeferred hKD, ?_⟩⟩
    obtain ⟨r1, r2, r3, r4⟩ := FIN.out
    refine ⟨.tuple #[.int .i64 (x.1.val : Int), .int .i64 ((x.1.val : Int) + 1 + (x.2.val : Int)), .int .i64 0], (by simp [results, Try.f40, go_sem, r1, r2, r3]), by rw [HF.out.2.1, HF.out.2.2.1, HF.out.2.2.2], r4⟩
end Go.Proofs.Ythanmiifcpajhaa
