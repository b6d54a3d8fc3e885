/-
  Contracts: done, planned in one word, Right, DoesAll, Done, Free.
-/
import Derived.Test.YthanmiifcpajhaaUndone
set_option linter.unusedVariables false
set_option linter.unusedSimpArgs false
namespace Go.Proofs.Ythanmiifcpajhaa
open Go Go.RowKit

/-- Behind which of the first k minutes a task is done, -1 if none. -/
def dnK (p : Nat → Int) (wk : Int) (i : Nat) : Nat → Int
  | 0 => -1
  | k + 1 => if p k = (i : Int) ∧ cn p i (k + 1) = wk then (k : Int) + 1 else dnK p wk i k
theorem dn_else {p : Nat → Int} {wk : Int} {i k : Nat} (h : ¬ (p k = (i : Int) ∧ cn p i (k + 1) = wk)) : dnK p wk i (k + 1) = dnK p wk i k := if_neg h
theorem dn_yes {p : Nat → Int} {wk : Int} {i k : Nat} (h : p k = (i : Int)) (h2 : cn p i (k + 1) = wk) : dnK p wk i (k + 1) = (k : Int) + 1 := if_pos ⟨h, h2⟩
def dnF (ts : List (Int × Int × Int)) (p : Nat → Int) (k i : Nat) : Int := dnK p (wkI ts i) i k
theorem dnF_out {ts : List (Int × Int × Int)} {p : Nat → Int} {k : Nat} (h : p k = -1) (i : Nat) : dnF ts p (k + 1) i = dnF ts p k i := dn_else (by rw [h]; rintro ⟨h, _⟩; omega)
theorem dnF_no {ts : List (Int × Int × Int)} {p : Nat → Int} {k j : Nat} (h : p k = (j : Int)) (h2 : cn p j k + 1 ≠ wkI ts j) (i : Nat) : dnF ts p (k + 1) i = dnF ts p k i := by
  refine dn_else ?_
  rw [h]
  rintro ⟨e, h3⟩
  obtain rfl : j = i := by omega
  rw [cn_in h, if_pos rfl] at h3
  exact h2 h3
theorem dnF_in {ts : List (Int × Int × Int)} {p : Nat → Int} {k j : Nat} (h : p k = (j : Int)) (h2 : cn p j k + 1 = wkI ts j) (i : Nat) : dnF ts p (k + 1) i = if i = j then (k : Int) + 1 else dnF ts p k i := by
  by_cases e : i = j
  · subst e; rw [if_pos rfl]; exact dn_yes h (by rw [cn_in h, if_pos rfl]; exact h2)
  · rw [if_neg e]; exact dn_else (by rw [h]; rintro ⟨h, _⟩; omega)

def fillM (k i : Nat) : Int := if i < k then -1 else 0
theorem fillM_snoc (k i : Nat) : fillM (k + 1) i = if i = k then -1 else fillM k i := by
  unfold fillM
  by_cases e : i = k
  · subst e; rw [if_pos (by omega), if_pos rfl]
  · rw [if_neg e]
    by_cases h : i < k
    · rw [if_pos h, if_pos (by omega)]
    · rw [if_neg h, if_neg (by omega)]

set_option maxRecDepth 100000 in
set_option maxHeartbeats 2000000 in
theorem done_any (ts : List (Int × Int × Int)) (A : Option Addr) (cap : Nat) (p : Nat → Int) (w : World) (h : Marks w A ts) (hv : vaB ts = true) (hp : ∀ m, m < 100 → -1 ≤ p m ∧ p m < ts.length) :
    Calls Try.prog 64 #[.agg (vC p 100), .slice A ts.length cap] w fun e w' => ∃ B c, e = .returned (.slice B (vL (dnF ts p 100) ts.length).length c) ∧ Out w' B c (vL (dnF ts p 100) ts.length) ∧ Below w.heap.size w w' := by
  obtain ⟨i0, hi0, hz0, hz1, hz2⟩ := info_parts int_info
  have HZ2 := Lib.hid hz2
  have H := Lib.hid h
  have hl := va_len hv
  obtain ⟨hl1, hl2⟩ := hl
  have HP := Lib.hid hp
  have HV := Lib.hid hv
  obtain ⟨bl, off, rfl, hbk, hcells⟩ := H.out.open_ (show 0 < ts.length by omega)
  have HC := Lib.hid hcells
  clear h hv hp hcells hz2
  go_enter Try.func64, Try.ntmps64
  go_wp2_with (at_make; refine wpList_make_full _ rfl _ _ 23 rfl (w.heap.size + 1) 3 i0 (.int .i64 0) 1 Try.underlying23 hi0 hz0 hz1 _ _ _ _ ts.length rfl rfl rfl rfl (by rw [HZ2.out]; omega) (by unfold maxLen; omega) (by simp) ?_; intro w1 hown1 hg1)
  have hB1 : Below w.heap.size w w1 := Below.grown (Below.alloc (Below.refl _ _) (Nat.le_refl _) _) hg1 (by simp) (by simp)
  have hA0 : Hid (Arr w1 w.heap.size 58 p 100) := Lib.hid ((hg1.block w.heap.size (by simp) (by simp)).trans (Arr.new w 58 p 100))
  rw [made_ints] at hown1
  simp only [World.size_alloc] at hown1
  have HO : Hid (OwnV w1 (w.heap.size + 1) (w.heap.size + 1) (fun _ => 0) ts.length) := Lib.hid hown1
  have hz1' : w.heap.size + 1 < w1.heap.size := (hown1.lt (w.heap.size + 1) (by simp [Value.ownBlock])).2
  clear hown1 hg1
  go_loopw [15] (fun i wr => ∃ k : Nat, k ≤ ts.length ∧ i = .int .i64 k ∧ Hid (OwnV wr (w.heap.size + 1) (w.heap.size + 1) (fillM k) ts.length) ∧ Hid (Arr wr w.heap.size 58 p 100) ∧ w.heap.size + 1 < wr.heap.size ∧ Below w.heap.size w wr) (fun i _ => ts.length - (intOf i).toNat)
  case atStart => exact ⟨0, Nat.zero_le _, rfl, Lib.hid (HO.out.congr (fun i _ => by simp [fillM])), hA0, hz1', hB1⟩
  case round =>
    clear HO hA0 hz1' hB1
    obtain ⟨k, hk, rfl, hO, hA0, hz, hB⟩ := hrel
    by_cases hlt : k < ts.length
    · have c1 := hO.out.cell hlt
      have fr1 := hO.out.frozen k
      go_wp2
      go_roundw
      case rel => exact ⟨k + 1, by omega, by go_num, Lib.hid (hO.out.put (fun i => by rw [fillM_snoc])), Lib.hid (hA0.out.other (by simp)), (by simpa [World.setCell] using hz), Below.setCell hB (by simp) _⟩
      case measure => simp [intOf]; omega
    · obtain rfl : k = ts.length := by omega
      rename World => wo
      have hO2 := Lib.hid (hO.out.congr (q := dnF ts p 0) (fun i hi => by rw [fillM, if_pos hi]; rfl))
      clear hO
      go_wp2_with (first
        | (refine wpList_load_row rfl 58 (.tmp 2) rfl w.heap.size rfl 58 (vC p 100) (0, 0) _ (hA0.out.alloc _) Try.underlying58 (by rfl) (by rw [vC_size]; exact plan_size) ?_)
        | fail)
      rw [zero12]
      have hC0 := Lib.hid (Arr.new wo 78 (fun _ => 0) 12)
      have hO3 : Hid (OwnV (wo.alloc (.cells (vC (fun _ => 0) 12) 78)) (w.heap.size + 1) (w.heap.size + 1) (dnF ts p 0) ts.length) := Lib.hid (hO2.out.alloc _)
      have hB3 : Below w.heap.size w (wo.alloc (.cells (vC (fun _ => 0) 12) 78)) := Below.alloc hB hB.size _
      go_loopw [23] (fun i wr => ∃ k : Nat, k ≤ 100 ∧ i = .int .i64 k ∧ Hid (OwnV wr (w.heap.size + 1) (w.heap.size + 1) (dnF ts p k) ts.length) ∧ Hid (Arr wr wo.heap.size 78 (fun i => cn p i k) 12) ∧ Below w.heap.size w wr) (fun i _ => 100 - (intOf i).toNat)
      case atStart => exact ⟨0, Nat.zero_le _, rfl, hO3, hC0, hB3⟩
      case round =>
        clear hO3 hC0 hB3
        obtain ⟨k, hk, rfl, hO, hA, hB2⟩ := hrel
        by_cases hlt : k < 100
        · have hbd := HP.out k hlt
          obtain ⟨v, hv⟩ : ∃ v, p k = v := ⟨_, rfl⟩
          have hix := index_plan hlt hv
          rw [hv] at hbd
          have HV := Lib.hid hv
          clear hv
          by_cases hneg : v = -1
          · subst hneg
            clear hbd
            go_wp2
            go_roundw
            case rel => exact ⟨k + 1, by omega, by go_num, Lib.hid (hO.out.congr (fun i _ => by rw [dnF_out HV.out])), Lib.hid (hA.out.congr (fun i _ => by rw [cn_out HV.out])), hB2⟩
            case measure => simp [intOf]; omega
          · obtain ⟨j, rfl⟩ : ∃ j : Nat, v = j := ⟨v.toNat, by omega⟩
            have hj : j < ts.length := by omega
            have hj12 : j < 12 := by omega
            have hcn := cn_nn p j k
            have c2 := hA.out.cell hj12
            have fr2 := blk_frozen hA.out j
            obtain ⟨u, hu⟩ : ∃ u, cn p j k = u := ⟨_, rfl⟩
            rw [hu] at hcn c2
            obtain ⟨u1, u2⟩ := hcn
            have HU := Lib.hid hu
            obtain ⟨x, y, d, hx⟩ := getT_of_lt hj
            have f2 := (hB2.cell (p := ⟨bl, off + j * 3 + 2, none⟩) hbk).trans (HC.out _ _ hx).2.2
            have HD := Lib.hid (getT_parts hx).2.2
            have c1 := hO.out.cell hj
            have fr1 := hO.out.frozen j
            have e1 : w.heap.size + 1 ≠ wo.heap.size := by omega
            have t0 : ((j : Int) == -1) = false := by simp
            have hA4 : Hid (Arr (wr.setCell ⟨wo.heap.size, j, none⟩ (.int .i64 (u + 1))) wo.heap.size 78 (fun i => cn p i (k + 1)) 12) := Lib.hid (hA.out.put hj12 (fun i => by rw [cn_in HV.out, HU.out]))
            have hO4 : Hid (OwnV (wr.setCell ⟨wo.heap.size, j, none⟩ (.int .i64 (u + 1))) (w.heap.size + 1) (w.heap.size + 1) (dnF ts p k) ts.length) := Lib.hid (ownsRow_setCell_other hO.out (by simp [Value.ownBlock]; omega) _)
            have hB4 : Hid (Below w.heap.size w (wr.setCell ⟨wo.heap.size, j, none⟩ (.int .i64 (u + 1)))) := Lib.hid (Below.setCell hB2 (by show w.heap.size ≤ wo.heap.size; omega) _)
            have c4 : (wr.setCell ⟨wo.heap.size, j, none⟩ (.int .i64 (u + 1))).cell? ⟨wo.heap.size, j, none⟩ = some (.int .i64 (u + 1)) := World.cell?_setCell_same' _ _ _ (by rw [c2]; rfl)
            have f4 : (wr.setCell ⟨wo.heap.size, j, none⟩ (.int .i64 (u + 1))).cell? ⟨bl, off + j * 3 + 2, none⟩ = some (.int .i64 d) := (World.cell?_setCell_far _ _ _ _ (by show wo.heap.size ≠ bl; have := hB.size; omega)).trans f2
            have c5 := hO4.out.cell hj
            have fr5 := hO4.out.frozen j
            clear hbd hneg hu hx c1 fr1
            by_cases hud : u + 1 = d
            · have t1 : (u + 1 == d) = true := by simpa using hud
              have HN : Hid (cn p j k + 1 = wkI ts j) := Lib.hid (by rw [HU.out, HD.out, hud])
              clear hud
              go_wp2
              generalize wr.setCell ⟨wo.heap.size, j, none⟩ (.int .i64 (u + 1)) = W at *
              clear c2 fr2 f2
              go_quiet (fail)
              go_wp2
              go_roundw
              case rel => exact ⟨k + 1, by omega, by go_num, Lib.hid (OwnV.put (w := W.drewN nq) hO4.out (fun i => by rw [dnF_in HV.out HN.out])), Lib.hid (Arr.other (w := W.drewN nq) hA4.out (by show wo.heap.size ≠ w.heap.size + 1; omega)), Below.setCell (below_drewN hB4.out _) (by simp) _⟩
              case measure => simp [intOf]; omega
            · have t1 : (u + 1 == d) = false := by simpa using hud
              have HN : Hid (cn p j k + 1 ≠ wkI ts j) := Lib.hid (by rw [HU.out, HD.out]; exact hud)
              clear hud
              go_wp2
              generalize wr.setCell ⟨wo.heap.size, j, none⟩ (.int .i64 (u + 1)) = W at *
              clear c2 fr2 f2
              go_quiet (fail)
              go_wp2
              go_roundw
              case rel => exact ⟨k + 1, by omega, by go_num, Lib.hid (OwnV.congr (w := W.drewN nq) hO4.out (fun i _ => by rw [dnF_no HV.out HN.out])), Lib.hid hA4.out, below_drewN hB4.out _⟩
              case measure => simp [intOf]; omega
        · obtain rfl : k = 100 := by omega
          have HO := Lib.hid (hO.out.out (by unfold maxLen; omega))
          have HL := Lib.hid (vL_len (dnF ts p 100) ts.length)
          clear hO
          go_wp2
          go_ret
          exact ⟨some ⟨w.heap.size + 1, 0, none⟩, ts.length, by rw [HL.out]; rfl, HO.out, hB2⟩
end Go.Proofs.Ythanmiifcpajhaa
