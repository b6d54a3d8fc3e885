/-
  Contract: regionOf.
-/
import Derived.Test.YtnnfnphmieikmaaReg2
import Derived.Laws.CopyOwn
namespace Go.Proofs.Ytnnfnphmieikmaa
open Go Go.RowKit Go.Shelf

theorem regC_one (P : Nat → Bool) : (regC P).all (·.oneCell') = true := by
  rw [regC, List.all_toArray, List.all_map, List.all_eq_true]; intro n _; rfl
theorem zero48 : (#[.int .u64 0, .int .u64 0, .int .u64 0, .int .u64 0, .int .u64 0, .int .u64 0, .int .u64 0, .int .u64 0, .int .u64 0, .int .u64 0, .int .u64 0, .int .u64 0, .int .u64 0, .int .u64 0, .int .u64 0, .int .u64 0, .int .u64 0, .int .u64 0, .int .u64 0, .int .u64 0, .int .u64 0, .int .u64 0, .int .u64 0, .int .u64 0, .int .u64 0, .int .u64 0, .int .u64 0, .int .u64 0, .int .u64 0, .int .u64 0, .int .u64 0, .int .u64 0, .int .u64 0, .int .u64 0, .int .u64 0, .int .u64 0, .int .u64 0, .int .u64 0, .int .u64 0, .int .u64 0, .int .u64 0, .int .u64 0, .int .u64 0, .int .u64 0, .int .u64 0, .int .u64 0, .int .u64 0, .int .u64 0] : Array Value) = regC (fun _ => false) :=
  regC_ext rfl fun n hn => by
    rw [word_none]
    have : ∀ n, n < 48 → (#[.int .u64 0, .int .u64 0, .int .u64 0, .int .u64 0, .int .u64 0, .int .u64 0, .int .u64 0, .int .u64 0, .int .u64 0, .int .u64 0, .int .u64 0, .int .u64 0, .int .u64 0, .int .u64 0, .int .u64 0, .int .u64 0, .int .u64 0, .int .u64 0, .int .u64 0, .int .u64 0, .int .u64 0, .int .u64 0, .int .u64 0, .int .u64 0, .int .u64 0, .int .u64 0, .int .u64 0, .int .u64 0, .int .u64 0, .int .u64 0, .int .u64 0, .int .u64 0, .int .u64 0, .int .u64 0, .int .u64 0, .int .u64 0, .int .u64 0, .int .u64 0, .int .u64 0, .int .u64 0, .int .u64 0, .int .u64 0, .int .u64 0, .int .u64 0, .int .u64 0, .int .u64 0, .int .u64 0, .int .u64 0] : Array Value)[n]? = some (.int .u64 ((0 : Nat) : Int)) := by
      intro n hn
      rcases n with _ | (_ | (_ | (_ | (_ | (_ | (_ | (_ | (_ | (_ | (_ | (_ | (_ | (_ | (_ | (_ | (_ | (_ | (_ | (_ | (_ | (_ | (_ | (_ | (_ | (_ | (_ | (_ | (_ | (_ | (_ | (_ | (_ | (_ | (_ | (_ | (_ | (_ | (_ | (_ | (_ | (_ | (_ | (_ | (_ | (_ | (_ | (_ | n)))))))))))))))))))))))))))))))))))))))))))))))
      all_goals first | rfl | omega
    exact this n hn
set_option maxRecDepth 100000 in
set_option maxHeartbeats 800000 in
theorem regionOf_any (ms : List (Int × Int)) (A : Option Addr) (c : Nat) (w : World) (h : Marks w A ms) (hl : ms.length ≤ 5000) (hv : ms.all cellB = true) :
    Calls Try.prog 92 #[.slice A ms.length c] w fun e w' => e = .returned (.agg (regC (inL ms))) ∧ Below w.heap.size w w' := by
  have H := Lib.hid h
  have HV := Lib.hid hv
  clear h hv
  go_enter Try.func92, Try.ntmps92
  go_wp2
  rw [zero48]
  have HB0 : Below w.heap.size w ((w.alloc (.cells (regC fun _ => false) 91)).alloc (.cells (regC fun _ => false) 91)) := Below.alloc (Below.alloc (Below.refl _ _) (Nat.le_refl _) _) (by simp) _
  have hR0 : Reg ((w.alloc (.cells (regC fun _ => false) 91)).alloc (.cells (regC fun _ => false) 91)) w.heap.size (fun _ => false) := heap_alloc2_old w _ _
  have hR1 : Reg ((w.alloc (.cells (regC fun _ => false) 91)).alloc (.cells (regC fun _ => false) 91)) (w.heap.size + 1) (fun _ => false) := heap_alloc2_new w _ _
  have HR0 := Lib.hid hR0
  have HR1 := Lib.hid hR1
  clear hR0 hR1
  go_loopw [8] (fun i wr => ∃ k : Nat, k ≤ ms.length ∧ i = .int .i64 k ∧ Hid (Reg wr w.heap.size (fun _ => false)) ∧ Hid (Reg wr (w.heap.size + 1) (inL (ms.take k))) ∧ Below w.heap.size w wr) (fun i _ => ms.length - (intOf i).toNat)
  case atStart => exact ⟨0, Nat.zero_le _, rfl, HR0, Lib.hid (HR1.out.congr fun q _ => by simp [inL]), HB0⟩
  case round =>
    clear HR0 HR1 HB0
    obtain ⟨k, hk, rfl, hR0, hR1, hB⟩ := hrel
    by_cases hlt : k < ms.length
    · obtain ⟨bl, off, rfl, hbk, hcells⟩ := H.out.open_ (show 0 < ms.length by omega)
      obtain ⟨a, b, hx⟩ := getM_of_lt hlt
      have hcb : cellB (a, b) = true := List.all_eq_true.1 HV.out _ (List.mem_of_getElem? hx)
      obtain ⟨o, p, he, ho, hp⟩ := cellB_of hcb
      injection he with e1 e2
      subst e1; subst e2
      have f0 := (hB.cell (p := ⟨bl, off + k * 2, none⟩) hbk).trans (hcells _ _ hx).1
      have f1 := (hB.cell (p := ⟨bl, off + k * 2 + 1, none⟩) hbk).trans (hcells _ _ hx).2
      have hbw : bl < wr.heap.size := Nat.lt_of_lt_of_le hbk hB.size
      have HX := Lib.hid (inL_snoc hx)
      clear hx hcells hcb
      go_wp2_with (go_at_call 111; refine (add_any _ _ o p ho hp _ (hR1.out.below (Below.alloc (Below.refl _ _) (Nat.le_refl _) _))).mono ?_; rintro e w2 ⟨rfl, hR2, hO2⟩; have HR2 := Lib.hid hR2; have HR02 : Hid (Reg w2 w.heap.size (fun _ => false)) := Lib.hid ((hO2.block w.heap.size (Nat.lt_of_lt_of_le hR0.out.lt (by simp)) (by simp)).trans (hR0.out.below (Below.alloc (Below.refl _ _) (Nat.le_refl _) _))); have hW2 : Below w.heap.size w w2 := Below.trans (Below.alloc hB hB.size _) (hO2.below (Nat.le_succ _) (Nat.le_trans hB.size (by simp))); clear hR2 hO2)
      go_roundw
      case rel => exact ⟨k + 1, by omega, by go_num, HR02, Lib.hid (HR2.out.congr fun q _ => by rw [HX.out]), hW2⟩
      case measure => simp [intOf]; omega
    · obtain rfl : k = ms.length := by omega
      have hR1' : Reg wr (w.heap.size + 1) (inL ms) := by have := hR1.out; rwa [List.take_length] at this
      have HR1 := Lib.hid hR1'
      clear hR1' hR1
      go_wp2_with (first
        | (refine wpList_load_row rfl 91 (.tmp 3) rfl (w.heap.size + 1) rfl 91 (regC (inL ms)) (0, 0) _ HR1.out Try.underlying91 (by rfl) (by rw [regC_size]; kernel_rfl) ?_)
        | (refine wpList_store_row rfl 91 (.tmp 2) (.tmp 15) rfl w.heap.size (regC (inL ms)) rfl rfl 91 (regC fun _ => false) hR0.out (by rw [regC_size]; kernel_rfl) (by rw [regC_size, regC_size]) (regC_one _) ?_)
        | fail)
      exact bodyPost_ret (results_cell_row rfl _ _ w.heap.size 91 (regC (inL ms)) (0, 0) _ rfl (setRow_heap _ _ _ _ _ _ hR0.out) Try.underlying91 (by rfl) (by rw [regC_size]; kernel_rfl)) rfl ⟨rfl, below_setRow hB (Nat.le_refl _) _⟩
end Go.Proofs.Ytnnfnphmieikmaa
