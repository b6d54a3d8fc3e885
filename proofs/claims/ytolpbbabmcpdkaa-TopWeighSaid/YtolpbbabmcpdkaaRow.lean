/-
  Contract: row (weigh).
-/
import Derived.Test.YtolpbbabmcpdkaaSort2
set_option linter.unusedVariables false
set_option linter.unusedSimpArgs false
namespace Go.Proofs.Ytolpbbabmcpdkaa
open Go.RowKit Go.Shelf

def allL (n : Nat) : List Int := (List.range n).map Int.ofNat
theorem allL_len (n : Nat) : (allL n).length = n := by simp [allL]
theorem allL_succ (n : Nat) : allL (n + 1) = allL n ++ [(n : Int)] := by simp [allL, List.range_succ]
def fillL (n k : Nat) : List Int := allL k ++ List.replicate (n - k) 0
theorem fill_zero (n : Nat) : fillL n 0 = List.replicate n 0 := by simp [fillL, allL]
theorem fill_full (n : Nat) : fillL n n = allL n := by simp [fillL]
theorem fill_get {n k : Nat} (h : k < n) : (fillL n k)[k]? = some 0 := by
  rw [fillL, List.getElem?_append_right (by rw [allL_len]; exact Nat.le_refl _), allL_len, Nat.sub_self, List.getElem?_replicate]
  simp; omega
theorem fill_set {n k : Nat} (h : k < n) : (fillL n k).set k (k : Int) = fillL n (k + 1) := by
  rw [fillL, List.set_append_right _ _ (by rw [allL_len]; exact Nat.le_refl _), allL_len, Nat.sub_self, fillL, allL_succ]
  obtain ⟨m, hm⟩ : ∃ m, n - k = m + 1 := ⟨n - k - 1, by omega⟩
  rw [hm, List.replicate_succ, List.set_cons_zero, List.append_assoc, show n - (k + 1) = m by omega]
  rfl

theorem made_fill (n : Nat) : (madeCells (Value.int .i64 0).cells (n * 1)).toList = (fillL n 0).map (Value.int .i64) := by
  rw [fill_zero, List.map_replicate, List.eq_replicate_iff]; simp [madeCells, Value.cells, Nat.mod_one]
theorem allL_bd {n : Nat} : ∀ x ∈ allL n, 0 ≤ x ∧ x < n := by
  intro x hx
  obtain ⟨i, hi, rfl⟩ := List.mem_map.1 hx
  have := List.mem_range.1 hi
  show (0 : Int) ≤ (i : Int) ∧ (i : Int) < n
  omega
theorem toNat_of (l : List Nat) : (l.map Int.ofNat).map Int.toNat = l := by
  rw [List.map_map]
  exact (List.map_congr_left (fun a _ => Int.toNat_natCast a)).trans (List.map_id l)
/-- What was sorted is the row. -/
theorem sorted_row {ns ss : List Int} (ho : Od ns ss) {ys : List Int} (hp : ys.Perm (allL ns.length)) (hs : Srt (rkI ns ss) ys ns.length) : ys = rowL ns ss := by
  have hb : ∀ x ∈ ys, 0 ≤ x := fun x hx => (allL_bd x (hp.mem_iff.1 hx)).1
  have e : ys = (ys.map Int.toNat).map Int.ofNat := by
    rw [List.map_map]
    exact ((List.map_congr_left (fun a ha => show Int.ofNat a.toNat = a from Int.toNat_of_nonneg (hb a ha))).trans (List.map_id ys)).symm
  have hp2 : (ys.map Int.toNat).Perm (List.range ns.length) := by
    have := hp.map Int.toNat
    rwa [allL, toNat_of] at this
  have hl : ys.length = ns.length := by have := hp.length_eq; rwa [allL_len] at this
  have := row_of ho.nn ho.sn hp2 (by
    rw [List.pairwise_iff_getElem]
    intro i j hi hj hij
    simp only [List.length_map] at hi hj
    have := hs i j hij (by omega)
    unfold rkI at this
    rw [List.getD_eq_getElem?_getD, List.getD_eq_getElem?_getD, List.getElem?_eq_getElem hi, List.getElem?_eq_getElem hj] at this
    simp only [List.getElem_map]
    have h2 : (rankN ns ss ys[i].toNat : Int) ≤ rankN ns ss ys[j].toNat := this
    omega)
  rw [e, this]; rfl

set_option maxRecDepth 100000 in
set_option maxHeartbeats 2000000 in
theorem row_own (ns ss : List Int) (A B : Option Addr) (c d : Nat) (ho : Od ns ss) (w : World) (hA : Ints w A ns) (hB : Ints w B ss) :
    Calls Try.prog 73 #[.agg #[.slice A ns.length c, .slice B ss.length d, .int .i64 ns.sum, .int .i64 ss.sum]] w fun e w' => ∃ gb : Nat, e = .returned (.slice (some ⟨gb, 0, none⟩) ns.length ns.length) ∧ w'.ownsRow w.heap.size 3 1 (.slice (some ⟨gb, 0, none⟩) ns.length ns.length) ns.length ((rowL ns ss).map (Value.int .i64)) ∧ Below w.heap.size w w' := by
  obtain ⟨i0, hi0, hz0, hz1, hz2⟩ := info_parts int_info
  have HZ2 := Lib.hid hz2
  clear hz2
  obtain ⟨W0, hW0, HW, H0, z0⟩ := one_new w #[.slice A ns.length c, .slice B ss.length d, .int .i64 ns.sum, .int .i64 ss.sum] 67
  have HA := Lib.hid hA
  have HB := Lib.hid hB
  have hn1 := ho.pos
  have hn2 := ho.le
  clear hA hB
  go_enter Try.func73, Try.ntmps73
  go_wp2_with (first
    | (go_at_call 77; with_reducible refine (count_any ns ss A B c d _ _ _).mono ?_; rintro e w1 ⟨rfl, hB1⟩; rw [← hW0] at hB1; have H0 := Lib.hid ((hB1.block _ z0).trans H0.out); have z0 := Nat.lt_of_lt_of_le z0 hB1.size; have HW : Hid (Below w.heap.size w _) := Lib.hid (below_step (by first | exact HW.out | exact Below.drew HW.out | exact below_drewN HW.out _) hB1); clear hB1)
    | (at_make; refine wpList_make_full _ rfl _ _ 22 rfl w.heap.size 3 i0 (.int .i64 0) 1 Try.underlying22 hi0 hz0 hz1 _ _ _ _ ns.length rfl rfl rfl rfl (by rw [HZ2.out]; omega) (by unfold maxLen; omega) HW.out.size ?_; intro w2 hown2 hg2))
  have hB2 : Below w.heap.size w w2 := Below.grown HW.out hg2 HW.out.size (by simp)
  have hB12 : Below w1.heap.size w1 w2 := (Below.refl _ _).grown hg2 (Nat.le_refl _) (by simp)
  have HH2 := Lib.hid ((hB12.block _ z0).trans H0.out)
  have zz2 : w.heap.size < w2.heap.size := Nat.lt_of_lt_of_le z0 hB12.size
  rw [made_fill] at hown2
  have hge : w.heap.size ≤ w1.heap.size := by omega
  have hne : w.heap.size ≠ w1.heap.size := by omega
  clear hg2 hB12
  go_loopw [10] (fun i wr => ∃ k : Nat, k ≤ ns.length ∧ i = .int .i64 k ∧ wr.ownsRow w.heap.size 3 1 (.slice (some ⟨w1.heap.size, 0, none⟩) ns.length ns.length) ns.length ((fillL ns.length k).map (Value.int .i64)) ∧ Below w.heap.size w wr ∧ Hid (wr.heap[w.heap.size]? = some (.cells #[.slice A ns.length c, .slice B ss.length d, .int .i64 ns.sum, .int .i64 ss.sum] 67 (0, 0)))) (fun i _ => ns.length - (intOf i).toNat)
  case atStart => exact ⟨0, Nat.zero_le _, rfl, hown2, hB2, HH2.out⟩
  case round =>
    clear hown2 hB2 HH2
    obtain ⟨k, hk, rfl, hown, hB, H0⟩ := hrel
    by_cases hlt : k < ns.length
    · have hc := hown.cellAt k (by omega)
      rw [List.getElem?_map, fill_get hlt, Option.map_some] at hc
      have hf := hown.frozenAt k
      go_wp2
      go_roundw
      case rel => exact ⟨k + 1, by omega, by go_num, by rw [← fill_set hlt, List.map_set]; exact (hown.stored k _).1, hB.setCell hge _, Lib.hid ((Below.heap_setCell _ _ _ _ hne).trans H0.out)⟩
      case measure => simp [intOf]; omega
    · obtain rfl : k = ns.length := by omega
      rw [fill_full] at hown
      have HS := Lib.hid (sortFunc_any ns ss A B c d ho (allL ns.length) ns.length w1.heap.size ns.length w wr hn1 hn2 (allL_len _) allL_bd hown hB HA.out HB.out)
      have b0 : World.cell? _ ⟨_, 0, none⟩ = some (.slice A ns.length c) := blk_cell H0.out 0 rfl
      have b1 : World.cell? _ ⟨_, 1, none⟩ = some (.slice B ss.length d) := blk_cell H0.out 1 rfl
      have b2 : World.cell? _ ⟨_, 2, none⟩ = some (.int .i64 ns.sum) := blk_cell H0.out 2 rfl
      have b3 : World.cell? _ ⟨_, 3, none⟩ = some (.int .i64 ss.sum) := blk_cell H0.out 3 rfl
      clear hown hB
      go_wp2_with (go_at_call 102; refine HS.out.mono ?_; rintro e w3 ⟨rfl, ys, hown3, hB3, hP⟩)
      go_ret
      have hy := sorted_row ho hP.out.1 hP.out.2
      subst hy
      exact ⟨w1.heap.size, rfl, hown3, hB3⟩
end Go.Proofs.Ytolpbbabmcpdkaa
