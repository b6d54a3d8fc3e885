/-
  Contracts: right, undone.
-/
import Derived.Test.YthanmiifcpajhaaSpent
set_option linter.unusedVariables false
set_option linter.unusedSimpArgs false
namespace Go.Proofs.Ythanmiifcpajhaa
open Go Go.RowKit

/-- In its minutes each task is open; none has more than its work. -/
def opsB (ts : List (Int × Int × Int)) (p : Nat → Int) (m : Nat) : Bool := decide (p m < 0) || opB ts (p m).toNat m
def leB (ts : List (Int × Int × Int)) (p : Nat → Int) (i : Nat) : Bool := decide (cn p i 100 ≤ wkI ts i)
def riB (ts : List (Int × Int × Int)) (p : Nat → Int) : Bool := (List.range 100).all (opsB ts p) && (List.range ts.length).all (leB ts p)
theorem range_snoc (f : Nat → Bool) (k : Nat) : (List.range (k + 1)).all f = ((List.range k).all f && f k) := by rw [List.range_succ]; simp
theorem range_no {f : Nat → Bool} {k n : Nat} (h : k < n) (hf : f k = false) : (List.range n).all f = false := by
  rw [List.all_eq_false]; exact ⟨k, List.mem_range.2 h, by simp [hf]⟩
theorem ri_no1 {ts : List (Int × Int × Int)} {p : Nat → Int} {k : Nat} (h : k < 100) (hf : opsB ts p k = false) : false = riB ts p := by rw [riB, range_no h hf]; rfl
theorem ri_no2 {ts : List (Int × Int × Int)} {p : Nat → Int} {k : Nat} (h : k < ts.length) (hf : leB ts p k = false) : false = riB ts p := by rw [riB, range_no h hf]; simp
theorem ri_iff {ts : List (Int × Int × Int)} {p : Nat → Int} (hp : ∀ m, m < 100 → -1 ≤ p m ∧ p m < ts.length) : riB ts p = true ↔ Rt ts p := by
  rw [riB, Bool.and_eq_true, List.all_eq_true, List.all_eq_true]
  constructor
  · rintro ⟨h1, h2⟩
    refine ⟨hp, fun m hm h0 => ?_, fun i hi => by simpa [leB] using h2 i (List.mem_range.2 hi)⟩
    have := h1 m (List.mem_range.2 hm)
    rw [opsB, decide_eq_false (by omega)] at this
    simpa using this
  · rintro ⟨h0, h1, h2⟩
    refine ⟨fun m hm => ?_, fun i hi => by simpa [leB] using h2 i (List.mem_range.1 hi)⟩
    have hm := List.mem_range.1 hm
    by_cases hn : p m < 0
    · simp [opsB, hn]
    · rw [opsB, h1 m hm (by omega)]; simp

set_option maxRecDepth 100000 in
set_option maxHeartbeats 2000000 in
theorem right_any (ts : List (Int × Int × Int)) (A : Option Addr) (cap : Nat) (p : Nat → Int) (w : World) (h : Marks w A ts) (hv : vaB ts = true) (hp : ∀ m, m < 100 → -1 ≤ p m ∧ p m < ts.length) :
    Calls Try.prog 57 #[.agg (vC p 100), .slice A ts.length cap] w fun e w' => e = .returned (.bool (riB ts p)) ∧ Below w.heap.size w w' := by
  have H := Lib.hid h
  have hl := va_len hv
  obtain ⟨hl1, hl2⟩ := hl
  have HP := Lib.hid hp
  obtain ⟨bl, off, rfl, hbk, hcells⟩ := H.out.open_ (show 0 < ts.length by omega)
  have HC := Lib.hid hcells
  have HR : ∀ b : Bool, b = riB ts p → Ending.returned (.bool b) = .returned (.bool (riB ts p)) := fun _ h => ret_bool h
  have HR := Lib.hid HR
  clear h hv hp hcells
  go_enter Try.func57, Try.ntmps57
  go_wp2_with (first
    | (refine wpList_load_row rfl 58 (.tmp 2) rfl w.heap.size rfl 58 (vC p 100) (0, 0) _ (Arr.new w 58 p 100) Try.underlying58 (by rfl) (by rw [vC_size]; exact plan_size) ?_)
    | fail)
  go_loopw [11] (fun i wr => ∃ k : Nat, k ≤ 100 ∧ i = .int .i64 k ∧ Hid ((List.range k).all (opsB ts p) = true) ∧ Hid (Arr wr w.heap.size 58 p 100) ∧ Below w.heap.size w wr) (fun i _ => 100 - (intOf i).toNat)
  case atStart => exact ⟨0, Nat.zero_le _, rfl, rfl, Lib.hid (Arr.new _ _ _ _), (by repeat (first | with_reducible exact Below.refl _ _ | with_reducible assumption | refine below_drewN ?_ _ | with_reducible refine Below.drew ?_ | (refine Below.setCell ?_ (by first | (simp; done) | (simp; omega) | omega) _) | (refine Below.alloc ?_ (by first | (simp; done) | (simp; omega) | omega) _)))⟩
  case round =>
    obtain ⟨k, hk, rfl, hall, hA0, hB⟩ := hrel
    by_cases hlt : k < 100
    · have hbd := HP.out k hlt
      obtain ⟨v, hv⟩ : ∃ v, p k = v := ⟨_, rfl⟩
      have hix := index_plan hlt hv
      rw [hv] at hbd
      have HV := Lib.hid hv
      clear hv
      by_cases hneg : v = -1
      · subst hneg
        have HO : Hid (opsB ts p k = true) := Lib.hid (by rw [opsB, HV.out]; rfl)
        clear hbd
        go_wp2
        go_roundw
        case rel => exact ⟨k + 1, by omega, by go_num, (by rw [range_snoc, hall.out, HO.out]; rfl : (List.range (k + 1)).all (opsB ts p) = true), hA0, hB⟩
        case measure => simp [intOf]; omega
      · obtain ⟨j, rfl⟩ : ∃ j : Nat, v = j := ⟨v.toNat, by omega⟩
        have hj : j < ts.length := by omega
        obtain ⟨a, b, d, hx⟩ := getT_of_lt hj
        have f0 := (hB.cell (p := ⟨bl, off + j * 3, none⟩) hbk).trans (HC.out _ _ hx).1
        have f1 := (hB.cell (p := ⟨bl, off + j * 3 + 1, none⟩) hbk).trans (HC.out _ _ hx).2.1
        have f2 := (hB.cell (p := ⟨bl, off + j * 3 + 2, none⟩) hbk).trans (HC.out _ _ hx).2.2
        have HOE : Hid (opsB ts p k = opT (a, b, d) k) := Lib.hid (by rw [opT_eq hx, opsB, HV.out, Int.toNat_natCast, decide_eq_false (by omega)]; rfl)
        clear hbd hneg hx
        cases ho : opT (a, b, d) k with
        | true =>
          have HQ := Lib.hid ho
          clear ho
          go_wp2_with (go_at_call 81; refine (open_any a b d k _).mono ?_; rintro e w3 ⟨he, hB3⟩; rw [HQ.out] at he; subst he; have hA0 := Lib.hid (hA0.out.below hB3); have hB := below_step hB hB3; clear hB3)
          go_roundw
          case rel => exact ⟨k + 1, by omega, by go_num, (by rw [range_snoc, hall.out, HOE.out, HQ.out]; rfl : (List.range (k + 1)).all (opsB ts p) = true), hA0, hB⟩
          case measure => simp [intOf]; omega
        | false =>
          have HQ := Lib.hid ho
          clear ho
          go_wp2_with (go_at_call 81; refine (open_any a b d k _).mono ?_; rintro e w3 ⟨he, hB3⟩; rw [HQ.out] at he; subst he; have hB := below_step hB hB3; clear hB3)
          go_ret
          exact ⟨HR.out _ (ri_no1 hlt (by rw [HOE.out, HQ.out])), hB⟩
    · obtain rfl : k = 100 := by omega
      have HALL := Lib.hid hall.out
      clear hall
      go_wp2_with (first
        | (refine wpList_load_row rfl 58 (.tmp 2) rfl w.heap.size rfl 58 (vC p 100) (0, 0) _ hA0.out Try.underlying58 (by rfl) (by rw [vC_size]; exact plan_size) ?_)
        | (go_at_call 82; refine (spent_any p _ (fun m hm => ⟨(HP.out m hm).1, Int.lt_of_lt_of_le (HP.out m hm).2 (by omega)⟩)).mono ?_; rintro e w2 ⟨rfl, hB2⟩; have hB2 := below_step hB hB2)
        | (refine wpList_store_row rfl 78 (.tmp 7) (.tmp 28) rfl w2.heap.size (vC (fun i => cn p i 100) 12) rfl rfl 78 _ (heap_alloc_new w2 _) (by rw [vC_size]; exact counts_size) (by simp [vC_size]) (vC_one _ _) ?_; rw [World.setRow_alloc_new])
        | fail)
      have hA1 := Lib.hid (Arr.new w2 78 (fun i => cn p i 100) 12)
      have hB3 : Below w.heap.size w (w2.alloc (.cells (vC (fun i => cn p i 100) 12) 78)) := Below.alloc hB2 hB2.size _
      go_loopw [31] (fun i wr => ∃ k : Nat, k ≤ ts.length ∧ i = .int .i64 k ∧ Hid ((List.range k).all (leB ts p) = true) ∧ Hid (Arr wr w2.heap.size 78 (fun i => cn p i 100) 12) ∧ Below w.heap.size w wr) (fun i _ => ts.length - (intOf i).toNat)
      case atStart => exact ⟨0, Nat.zero_le _, rfl, rfl, hA1, hB3⟩
      case round =>
        clear hA1 hB3
        obtain ⟨k, hk, rfl, hall, hA1, hB3⟩ := hrel
        by_cases hlt : k < ts.length
        · obtain ⟨a, b, d, hx⟩ := getT_of_lt hlt
          have f0 := (hB3.cell (p := ⟨bl, off + k * 3, none⟩) hbk).trans (HC.out _ _ hx).1
          have f1 := (hB3.cell (p := ⟨bl, off + k * 3 + 1, none⟩) hbk).trans (HC.out _ _ hx).2.1
          have f2 := (hB3.cell (p := ⟨bl, off + k * 3 + 2, none⟩) hbk).trans (HC.out _ _ hx).2.2
          have hnew := (alloc_cell3 wr (.int .i64 a) (.int .i64 b) (.int .i64 d) 53).2.2
          have hA2 := Lib.hid (hA1.out.alloc (.cells #[.int .i64 a, .int .i64 b, .int .i64 d] 53))
          have hB4 := Lib.hid (Below.alloc hB3 hB3.size (.cells #[.int .i64 a, .int .i64 b, .int .i64 d] 53))
          have c1 := hA2.out.cell (show k < 12 by omega)
          obtain ⟨u, hu⟩ : ∃ u, cn p k 100 = u := ⟨_, rfl⟩
          rw [hu] at c1
          have HL : Hid (leB ts p k = decide (u ≤ d)) := Lib.hid (by rw [leB, hu, (getT_parts hx).2.2])
          clear hx hu
          by_cases hud : d < u
          · have t1 : decide (d < u) = true := decide_eq_true hud
            go_wp2
            generalize wr.alloc (.cells #[.int .i64 a, .int .i64 b, .int .i64 d] 53) = W at *
            go_quiet (fail)
            go_wp2
            go_ret
            exact ⟨HR.out _ (ri_no2 hlt (by rw [HL.out]; exact decide_eq_false (by omega))), below_drewN hB4.out _⟩
          · have t1 : decide (d < u) = false := decide_eq_false hud
            have HL1 : Hid (leB ts p k = true) := Lib.hid (by rw [HL.out]; exact decide_eq_true (by omega))
            clear hud
            go_wp2
            generalize wr.alloc (.cells #[.int .i64 a, .int .i64 b, .int .i64 d] 53) = W at *
            go_quiet (fail)
            go_wp2
            go_roundw
            case rel => exact ⟨k + 1, by omega, by go_num, (by rw [range_snoc, hall.out, HL1.out]; rfl : (List.range (k + 1)).all (leB ts p) = true), Lib.hid hA2.out, below_drewN hB4.out _⟩
            case measure => simp [intOf]; omega
        · obtain rfl : k = ts.length := by omega
          go_wp2
          go_ret
          exact ⟨HR.out _ (by rw [riB, HALL.out, hall.out]; rfl), hB3⟩
end Go.Proofs.Ythanmiifcpajhaa
