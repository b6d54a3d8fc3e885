/-
  Contracts: undone, Right, DoesAll, Free; the reference's Right, DoesAll, Free.
-/
import Derived.Test.YthanmiifcpajhaaRefMin
set_option linter.unusedVariables false
set_option linter.unusedSimpArgs false
namespace Go.Proofs.Ythanmiifcpajhaa
open Go Go.RowKit

/-- The tasks of the first k that have fewer minutes than their work. -/
def udB (ts : List (Int × Int × Int)) (p : Nat → Int) (i : Nat) : Bool := decide (cn p i 100 < wkI ts i)
def udK (ts : List (Int × Int × Int)) (p : Nat → Int) (k : Nat) : List Int := ((List.range k).filter (udB ts p)).map fun (i : Nat) => (i : Int)
def udL (ts : List (Int × Int × Int)) (p : Nat → Int) : List Int := udK ts p ts.length
theorem udK_yes {ts : List (Int × Int × Int)} {p : Nat → Int} {k : Nat} (h : udB ts p k = true) : udK ts p (k + 1) = udK ts p k ++ [(k : Int)] := by
  rw [udK, List.range_succ, List.filter_append]; simp [h, udK]
theorem udK_no {ts : List (Int × Int × Int)} {p : Nat → Int} {k : Nat} (h : udB ts p k = false) : udK ts p (k + 1) = udK ts p k := by
  rw [udK, List.range_succ, List.filter_append]; simp [h, udK]
theorem udK_len (ts : List (Int × Int × Int)) (p : Nat → Int) (k : Nat) : (udK ts p k).length ≤ k := by
  rw [udK, List.length_map]; exact Nat.le_trans (List.length_filter_le _ _) (by simp)
theorem ud_nil {ts : List (Int × Int × Int)} {p : Nat → Int} : (udL ts p).length = 0 ↔ ∀ i, i < ts.length → wkI ts i ≤ cn p i 100 := by
  rw [udL, udK, List.length_map, List.length_eq_zero_iff, List.filter_eq_nil_iff]
  constructor
  · intro h i hi
    have := h i (List.mem_range.2 hi)
    simp [udB] at this; exact this
  · intro h i hi
    have := h i (List.mem_range.1 hi)
    simp [udB]; exact this
theorem da_eq {ts : List (Int × Int × Int)} {p : Nat → Int} : daB ts p = (riB ts p && decide ((udL ts p).length = 0)) := by
  rw [Bool.eq_iff_iff]
  simp only [daB, Bool.and_eq_true, List.all_eq_true, decide_eq_true_eq, ud_nil]
  constructor
  · rintro ⟨h1, h2⟩
    refine ⟨h2, fun i hi => ?_⟩
    have := h1 i (List.mem_range.2 hi)
    simp [eqB] at this; omega
  · rintro ⟨h1, h2⟩
    refine ⟨fun i hi => ?_, h1⟩
    have hi := List.mem_range.1 hi
    have h3 := h2 i hi
    simp only [riB, Bool.and_eq_true, List.all_eq_true] at h1
    have := h1.2 i (List.mem_range.2 hi)
    simp [leB] at this
    simp [eqB]; omega

set_option maxRecDepth 100000 in
set_option maxHeartbeats 2000000 in
theorem undone_any (ts : List (Int × Int × Int)) (A : Option Addr) (cap : Nat) (p : Nat → Int) (w : World) (h : Marks w A ts) (hv : vaB ts = true) (hp : ∀ m, m < 100 → -1 ≤ p m ∧ p m < ts.length) :
    Calls Try.prog 62 #[.agg (vC p 100), .slice A ts.length cap] w fun e w' => ∃ B c, e = .returned (.slice B (udL ts p).length c) ∧ Out w' B c (udL ts p) ∧ Below w.heap.size w w' := by
  have H := Lib.hid h
  have hl := va_len hv
  obtain ⟨hl1, hl2⟩ := hl
  have HP := Lib.hid hp
  obtain ⟨bl, off, rfl, hbk, hcells⟩ := H.out.open_ (show 0 < ts.length by omega)
  have HC := Lib.hid hcells
  clear h hv hp hcells
  go_enter Try.func62, Try.ntmps62
  go_wp2_with (first
    | (refine wpList_load_row rfl 58 (.tmp 2) rfl w.heap.size rfl 58 (vC p 100) (0, 0) _ (Arr.new w 58 p 100) Try.underlying58 (by rfl) (by rw [vC_size]; exact plan_size) ?_)
    | (go_at_call 82; refine (spent_any p _ (fun m hm => ⟨(HP.out m hm).1, Int.lt_of_lt_of_le (HP.out m hm).2 (by omega)⟩)).mono ?_; rintro e w2 ⟨rfl, hB2⟩; have hB2 : Below w.heap.size w w2 := Below.trans (by repeat (first | with_reducible exact Below.refl _ _ | with_reducible assumption | refine below_drewN ?_ _ | with_reducible refine Below.drew ?_ | (refine Below.setCell ?_ (by first | (simp; done) | (simp; omega) | omega) _) | (refine Below.alloc ?_ (by first | (simp; done) | (simp; omega) | omega) _))) (hB2.mono (by simp)))
    | (refine wpList_store_row rfl 78 (.tmp 6) (.tmp 10) rfl w2.heap.size (vC (fun i => cn p i 100) 12) rfl rfl 78 _ (heap_alloc_new w2 _) (by rw [vC_size]; exact counts_size) (by simp [vC_size]) (vC_one _ _) ?_; rw [World.setRow_alloc_new])
    | fail)
  have hA1 := Lib.hid (Arr.new w2 78 (fun i => cn p i 100) 12)
  have hB3 : Below w.heap.size w (w2.alloc (.cells (vC (fun i => cn p i 100) 12) 78)) := Below.alloc hB2 hB2.size _
  go_loopw [5, 13] (fun l i wr => ∃ k : Nat, k ≤ ts.length ∧ i = .int .i64 k ∧ wr.ownsRow (w2.heap.size + 1) 3 1 l (udK ts p k).length ((udK ts p k).map (Value.int .i64)) ∧ w2.heap.size + 1 ≤ wr.heap.size ∧ Hid (Arr wr w2.heap.size 78 (fun i => cn p i 100) 12) ∧ Below w.heap.size w wr) (fun _ i _ => ts.length - (intOf i).toNat)
  case atStart => exact ⟨0, Nat.zero_le _, rfl, ⟨rfl, .inl ⟨rfl, rfl⟩⟩, by simp, hA1, hB3⟩
  case round =>
    clear hA1 hB3
    obtain ⟨k, hk, rfl, hown, hsz, hA1, hB3⟩ := hrel
    by_cases hlt : k < ts.length
    · obtain ⟨a, b, d, hx⟩ := getT_of_lt hlt
      have f0 := (hB3.cell (p := ⟨bl, off + k * 3, none⟩) hbk).trans (HC.out _ _ hx).1
      have f1 := (hB3.cell (p := ⟨bl, off + k * 3 + 1, none⟩) hbk).trans (HC.out _ _ hx).2.1
      have f2 := (hB3.cell (p := ⟨bl, off + k * 3 + 2, none⟩) hbk).trans (HC.out _ _ hx).2.2
      have hnew := (alloc_cell3 wr (.int .i64 a) (.int .i64 b) (.int .i64 d) 53).2.2
      have hA2 := Lib.hid (hA1.out.alloc (.cells #[.int .i64 a, .int .i64 b, .int .i64 d] 53))
      have hB4 := Lib.hid (Below.alloc hB3 hB3.size (.cells #[.int .i64 a, .int .i64 b, .int .i64 d] 53))
      have hS4 : w2.heap.size + 1 ≤ (wr.alloc (.cells #[.int .i64 a, .int .i64 b, .int .i64 d] 53)).heap.size := by simp; omega
      have hO4 := Lib.hid (hown.alloc (.cells #[.int .i64 a, .int .i64 b, .int .i64 d] 53))
      have c1 := hA2.out.cell (show k < 12 by omega)
      obtain ⟨u, hu⟩ : ∃ u, cn p k 100 = u := ⟨_, rfl⟩
      rw [hu] at c1
      have HL : Hid (udB ts p k = decide (u < d)) := Lib.hid (by rw [udB, hu, (getT_parts hx).2.2])
      have hlen := udK_len ts p k
      obtain ⟨vs, hvs⟩ : ∃ vs, udK ts p k = vs := ⟨_, rfl⟩
      rw [hvs] at hO4 hlen
      have HVS := Lib.hid hvs
      clear hx hu hown hvs
      by_cases hud : u < d
      · have t1 : decide (u < d) = true := decide_eq_true hud
        have HL1 : Hid (udK ts p (k + 1) = vs ++ [(k : Int)]) := Lib.hid (by rw [udK_yes (by rw [HL.out]; exact t1), HVS.out])
        clear hud
        go_wp2
        generalize wr.alloc (.cells #[.int .i64 a, .int .i64 b, .int .i64 d] 53) = W at *
        go_quiet (fail)
        obtain ⟨W2, hW2, hA3, hB5, hS5, hO5⟩ : ∃ W2, W.drewN nq = W2 ∧ Hid (Arr W2 w2.heap.size 78 (fun i => cn p i 100) 12) ∧ Hid (Below w.heap.size w W2) ∧ w2.heap.size + 1 ≤ W2.heap.size ∧ Hid (W2.ownsRow (w2.heap.size + 1) 3 1 u5 vs.length (vs.map (Value.int .i64))) := ⟨_, rfl, Lib.hid hA2.out, Lib.hid (below_drewN hB4.out _), hS4, Lib.hid hO4.out⟩
        rw [hW2]
        clear hW2 hA2 hB4 hS4 hO4 c1 hnew f0 f1 f2
        go_wp2_with (at_builtin; refine wp_app_int _ rfl (.tmp 24) (.tmp 26) rfl (w2.heap.size + 1) _ vs.length vs _ rfl hO5.out rfl (by omega) hS5 ?_; intro v' w5 hown5 hB6)
        go_roundw
        case rel =>
          refine ⟨k + 1, by omega, by go_num, ?_, Nat.le_trans hS5 hB6.size, Lib.hid ((hB6.block _ (by omega)).trans hA3.out), Below.trans hB5.out (hB6.mono (Nat.le_trans hB2.size (by omega)))⟩
          rw [HL1.out]; simpa using hown5
        case measure => simp [intOf]; omega
      · have t1 : decide (u < d) = false := decide_eq_false hud
        have HL1 : Hid (udK ts p (k + 1) = vs) := Lib.hid (by rw [udK_no (by rw [HL.out]; exact t1), HVS.out])
        clear hud
        go_wp2
        generalize wr.alloc (.cells #[.int .i64 a, .int .i64 b, .int .i64 d] 53) = W at *
        go_quiet (fail)
        go_wp2
        go_roundw
        case rel =>
          refine ⟨k + 1, by omega, by go_num, ?_, hS4, Lib.hid hA2.out, below_drewN hB4.out _⟩
          rw [HL1.out]; exact hO4.out
        case measure => simp [intOf]; omega
    · obtain rfl : k = ts.length := by omega
      obtain ⟨B, c, rfl, ho⟩ := own_ints hown
      have HO := Lib.hid ho
      clear hown ho
      go_wp2
      go_ret
      exact ⟨B, c, rfl, HO.out, hB3⟩
end Go.Proofs.Ythanmiifcpajhaa
