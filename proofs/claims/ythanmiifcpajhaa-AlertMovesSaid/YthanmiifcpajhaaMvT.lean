/-
  Contracts: Moved and Turned.
-/
import Derived.Test.YthanmiifcpajhaaKept
import Derived.Laws.OwnMore
import Derived.IntWalk
set_option linter.unusedVariables false
set_option linter.unusedSimpArgs false
namespace Go.Proofs.Ythanmiifcpajhaa
open Go Go.RowKit

abbrev Ts := List (Int × Int × Int)
def mvT (z : Int) (x : Int × Int × Int) : Int × Int × Int := (wrap64 (x.1 + z), wrap64 (x.2.1 + z), x.2.2)
def tnT (x : Int × Int × Int) : Int × Int × Int := (100 - x.2.1, 100 - x.1, x.2.2)
def mixL (f : Int × Int × Int → Int × Int × Int) (ts : Ts) (k : Nat) : Ts := (ts.take k).map f ++ ts.drop k
theorem mix_zero (f : Int × Int × Int → Int × Int × Int) (ts : Ts) : mixL f ts 0 = ts := by simp [mixL]
theorem mix_all (f : Int × Int × Int → Int × Int × Int) (ts : Ts) : mixL f ts ts.length = ts.map f := by simp [mixL]
theorem mix_at {f : Int × Int × Int → Int × Int × Int} {ts : Ts} {k : Nat} {x : Int × Int × Int} (h : ts[k]? = some x) : (mixL f ts k)[k]? = some x := by
  have hl := (List.getElem?_eq_some_iff.1 h).1
  rw [mixL, List.getElem?_append_right (by simp; omega), List.getElem?_drop]
  simp; rw [show k + (k - min k ts.length) = k by omega]; exact h
theorem mix_set {f : Int × Int × Int → Int × Int × Int} {ts : Ts} {k : Nat} {x : Int × Int × Int} (h : ts[k]? = some x) : (mixL f ts k).set k (f x) = mixL f ts (k + 1) := by
  have hl := (List.getElem?_eq_some_iff.1 h).1
  apply List.ext_getElem?
  intro j
  have hk : ((ts.take k).map f).length = k := by simp; omega
  rw [List.getElem?_set]
  by_cases hj : k = j
  · subst hj
    rw [if_pos rfl, if_pos (by simp [mixL]; omega), mixL, List.getElem?_append_left (by simp; omega), List.getElem?_map, List.getElem?_take, if_pos (by omega), h]; rfl
  · rw [if_neg hj, mixL, mixL]
    rcases Nat.lt_or_ge j k with hlt | hge
    · rw [List.getElem?_append_left (by simp; omega), List.getElem?_append_left (by simp; omega), List.getElem?_map, List.getElem?_map, List.getElem?_take, List.getElem?_take, if_pos hlt, if_pos (by omega)]
    · rw [List.getElem?_append_right (by simp; omega), List.getElem?_append_right (by simp; omega), List.getElem?_drop, List.getElem?_drop]
      congr 1; simp; omega
theorem flat_set0 : ∀ (ms : Ts) (k : Nat) (a b c z : Int), ms[k]? = some (a, b, c) → (ms.flatMap mk3).set (k * 3) (.int .i64 z) = (ms.set k (z, b, c)).flatMap mk3
  | [], k, _, _, _, _, h => by simp at h
  | m :: t, 0, a, b, c, z, h => by simp at h; subst h; simp [mk3]
  | m :: t, k + 1, a, b, c, z, h => by
    have := flat_set0 t k a b c z (by simpa using h)
    rw [show (k + 1) * 3 = k * 3 + 3 by omega]
    simpa [mk3] using this
theorem flat_set1 : ∀ (ms : Ts) (k : Nat) (a b c z : Int), ms[k]? = some (a, b, c) → (ms.flatMap mk3).set (k * 3 + 1) (.int .i64 z) = (ms.set k (a, z, c)).flatMap mk3
  | [], k, _, _, _, _, h => by simp at h
  | m :: t, 0, a, b, c, z, h => by simp at h; subst h; simp [mk3]
  | m :: t, k + 1, a, b, c, z, h => by
    have := flat_set1 t k a b c z (by simpa using h)
    rw [show (k + 1) * 3 + 1 = k * 3 + 1 + 3 by omega]
    simpa [mk3] using this
theorem flat_two {f : Int × Int × Int → Int × Int × Int} {ts : Ts} {k : Nat} {a b c p q : Int} (h : ts[k]? = some (a, b, c)) (hf : f (a, b, c) = (p, q, c)) :
    (((mixL f ts k).flatMap mk3).set (k * 3) (.int .i64 p)).set (k * 3 + 1) (.int .i64 q) = (mixL f ts (k + 1)).flatMap mk3 := by
  have hm := mix_at (f := f) h
  have hl := (List.getElem?_eq_some_iff.1 hm).1
  rw [flat_set0 _ k a b c p hm, flat_set1 _ k p b c q (by rw [List.getElem?_set, if_pos rfl, if_pos hl]), List.set_set, ← hf, mix_set h]

theorem own_clk {w : World} {base n c : Nat} {A : Option Addr} {xs : Ts} (h : w.ownsRow base 53 3 (.slice A n c) n (xs.flatMap mk3)) : Clk w A c xs := by
  obtain ⟨A', c', h1, h2⟩ := own_tasks h
  injection h1 with e1 e2 e3
  subst e1 e3; exact h2
theorem cell_set1 (w : World) {g i : Nat} {u : Value} {p : Addr} (h : p.block ≠ g) : (w.setCell ⟨g, i, none⟩ u).cell? p = w.cell? p := World.cell?_setCell_other _ _ p u (by rintro rfl; exact h rfl)
def mvE (ts : Ts) (z : Int) : Int := if vaB ts = true then (if vaB (ts.map (mvT z)) = true then 0 else 2) else 80
def mvV (ts : Ts) (z : Int) : Ts := if vaB ts = true then (if vaB (ts.map (mvT z)) = true then ts.map (mvT z) else []) else []
theorem mv_t {ts : Ts} {z : Int} (h : vaB ts = false) : mvE ts z = 80 ∧ mvV ts z = [] := by simp [mvE, mvV, h]
theorem mv_a {ts : Ts} {z : Int} (h : vaB ts = true) (h2 : vaB (ts.map (mvT z)) = false) : mvE ts z = 2 ∧ mvV ts z = [] := by simp [mvE, mvV, h, h2]
theorem mv_o {ts : Ts} {z : Int} (h : vaB ts = true) (h2 : vaB (ts.map (mvT z)) = true) : mvE ts z = 0 ∧ mvV ts z = ts.map (mvT z) := by simp [mvE, mvV, h, h2]
def tnV (ts : Ts) : Ts := if vaB ts = true then ts.map tnT else []
theorem tn_t {ts : Ts} (h : vaB ts = false) : taE ts = 80 ∧ tnV ts = [] := by simp [taE, tnV, h]
theorem tn_o {ts : Ts} (h : vaB ts = true) : taE ts = 0 ∧ tnV ts = ts.map tnT := by simp [taE, tnV, h]

set_option maxRecDepth 100000 in
set_option maxHeartbeats 2000000 in
theorem movedX_any (ts : Ts) (A : Option Addr) (cap : Nat) (z : Int) (w : World) (h : Marks w A ts) (hl : ts.length ≤ maxLen) :
    Calls Try.prog 48 #[.slice A ts.length cap, .int .i64 z] w fun e w' => ∃ B c, e = .returned (.tuple #[.slice B (mvV ts z).length c, .int .i64 (mvE ts z)]) ∧ Clk w' B c (mvV ts z) ∧ Below w.heap.size w w' := by
  have H := Lib.hid h
  have HVA : Hid (Calls Try.prog 19 #[.slice A ts.length cap] w fun e w' => e = .returned (.bool (vaB ts)) ∧ Below w.heap.size w w') := Lib.hid (valid_any ts A cap w h hl)
  clear h hl
  cases hv : vaB ts with
  | false =>
    have HE := Lib.hid (mv_t (z := z) hv)
    rw [hv] at HVA
    clear hv
    go_enter Try.func48, Try.ntmps48
    go_wp2_with (first
      | (go_at_call 19; refine HVA.out.mono ?_; rintro e w1 ⟨rfl, hB1⟩)
      | fail)
    go_ret2
    exact ⟨none, 0, by rw [HE.out.1, HE.out.2]; rfl, by rw [HE.out.2]; exact Clk.nil_, hB1⟩
  | true =>
    have hl := va_len hv
    obtain ⟨hl1, hl2⟩ := hl
    rw [hv] at HVA
    have HV := Lib.hid hv
    have hn : 0 < ts.length := by omega
    have HCL : Hid (∀ W, Below w.heap.size w W → Calls Try.prog 80 #[.slice A ts.length cap] W fun e w' => ∃ v, e = .returned v ∧ w'.ownsRow W.heap.size 53 3 v ts.length (ts.flatMap mk3) ∧ Below W.heap.size W w') := Lib.hid fun W hW => clone_pos ts A cap W (H.out.below hW) hn (by omega)
    clear hv
    have TA : Hid True := Lib.hid trivial
    go_enter Try.func48, Try.ntmps48
    go_wp2_with (first
      | (go_at_call 19; clear TA; refine HVA.out.mono ?_; rintro e w1 ⟨rfl, hB1⟩)
      | (go_at_call 80; refine (HCL.out _ hB1).mono ?_; rintro e w2 ⟨v2, rfl, ho2, hB2⟩; have hB2 := below_step hB1 hB2; have ho2 := own_le ho2 hB1.size; obtain ⟨g, c2, rfl, hg1, hg2⟩ := ho2.form hn)
      | fail)
    clear hB1
    go_loopw [15] (fun i wr => ∃ k : Nat, k ≤ ts.length ∧ i = .int .i64 k ∧ wr.ownsRow w.heap.size 53 3 (.slice (some ⟨g, 0, none⟩) ts.length c2) ts.length ((mixL (mvT z) ts k).flatMap mk3) ∧ Below w.heap.size w wr) (fun i _ => ts.length - (intOf i).toNat)
    case atStart => exact ⟨0, Nat.zero_le _, rfl, by rw [mix_zero]; exact ho2, hB2⟩
    case round =>
      clear hB2 ho2 hg2
      obtain ⟨k, hk, rfl, hown, hB⟩ := hrel
      rename World => wr
      by_cases hlt : k < ts.length
      · obtain ⟨a, b, d, hx⟩ := getT_of_lt hlt
        have hf := flat_get _ _ _ (mix_at (f := mvT z) hx)
        rw [Nat.mul_comm 3 k] at hf
        have c0 := (hown.cellAt (k * 3) (by omega)).trans hf.1
        have hs1 := hown.stored (k * 3) (.int .i64 (wrap64 (a + z)))
        have c1 : (wr.setCell ⟨g, k * 3, none⟩ (.int .i64 (wrap64 (a + z)))).cell? ⟨g, k * 3 + 1, none⟩ = some (.int .i64 b) := (hs1.1.cellAt (k * 3 + 1) (by omega)).trans (by rw [List.getElem?_set, if_neg (by omega)]; exact hf.2.1)
        have f0 := hown.frozenAt (k * 3)
        have f1 := hs1.1.frozenAt (k * 3 + 1)
        have HN := Lib.hid (flat_two (f := mvT z) (p := wrap64 (a + z)) (q := wrap64 (b + z)) hx rfl)
        have HS := Lib.hid hs1.1
        have HBB := Lib.hid hB
        clear hf hs1 hx hown hB
        go_wp2
        go_roundw
        case rel => exact ⟨k + 1, by omega, by go_num, by rw [← HN.out]; exact (HS.out.stored _ _).1, (HBB.out.setCell hg1 _).setCell hg1 _⟩
        case measure => simp [intOf]; omega
      · obtain rfl : k = ts.length := by omega
        rw [mix_all] at hown
        have hm : (ts.map (mvT z)).length = ts.length := by simp
        have HM := Lib.hid hm
        have hmk : Clk wr (some ⟨g, 0, none⟩) c2 (ts.map (mvT z)) := by
          exact own_clk hown
        have HK := Lib.hid hmk
        have HV2 : Hid (Calls Try.prog 19 #[.slice (some ⟨g, 0, none⟩) ts.length c2] wr fun e w' => e = .returned (.bool (vaB (ts.map (mvT z)))) ∧ Below wr.heap.size wr w') := Lib.hid (by
          have := valid_any (ts.map (mvT z)) (some ⟨g, 0, none⟩) c2 wr hmk.marks (by rw [hm]; unfold maxLen; omega)
          rw [hm] at this; exact this)
        clear hown hm hmk
        cases hv2 : vaB (ts.map (mvT z)) with
        | false =>
          have HE := Lib.hid (mv_a HV.out hv2)
          rw [hv2] at HV2
          clear hv2
          go_wp2_with (first
            | (go_at_call 19; refine HV2.out.mono ?_; rintro e w3 ⟨rfl, hB3⟩)
            | fail)
          go_ret2
          exact ⟨none, 0, by rw [HE.out.1, HE.out.2]; rfl, by rw [HE.out.2]; exact Clk.nil_, below_step hB hB3⟩
        | true =>
          have HE := Lib.hid (mv_o HV.out hv2)
          rw [hv2] at HV2
          clear hv2
          go_wp2_with (first
            | (go_at_call 19; refine HV2.out.mono ?_; rintro e w3 ⟨rfl, hB3⟩)
            | fail)
          go_ret2
          exact ⟨_, c2, by rw [HE.out.1, HE.out.2, HM.out]; rfl, by rw [HE.out.2]; exact HK.out.below hB3, below_step hB hB3⟩

set_option maxRecDepth 100000 in
set_option maxHeartbeats 2000000 in
theorem turnedX_any (ts : Ts) (A : Option Addr) (cap : Nat) (w : World) (h : Marks w A ts) (hl : ts.length ≤ maxLen) :
    Calls Try.prog 51 #[.slice A ts.length cap] w fun e w' => ∃ B c, e = .returned (.tuple #[.slice B (tnV ts).length c, .int .i64 (taE ts)]) ∧ Clk w' B c (tnV ts) ∧ Below w.heap.size w w' := by
  have H := Lib.hid h
  have HVA : Hid (Calls Try.prog 19 #[.slice A ts.length cap] w fun e w' => e = .returned (.bool (vaB ts)) ∧ Below w.heap.size w w') := Lib.hid (valid_any ts A cap w h hl)
  clear h hl
  cases hv : vaB ts with
  | false =>
    have HE := Lib.hid (tn_t hv)
    rw [hv] at HVA
    clear hv
    go_enter Try.func51, Try.ntmps51
    go_wp2_with (first
      | (go_at_call 19; refine HVA.out.mono ?_; rintro e w1 ⟨rfl, hB1⟩)
      | fail)
    go_ret2
    exact ⟨none, 0, by rw [HE.out.1, HE.out.2]; rfl, by rw [HE.out.2]; exact Clk.nil_, hB1⟩
  | true =>
    have hl := va_len hv
    obtain ⟨hl1, hl2⟩ := hl
    rw [hv] at HVA
    have HV := Lib.hid hv
    have HE := Lib.hid (tn_o hv)
    have hn : 0 < ts.length := by omega
    have HCL : Hid (∀ W, Below w.heap.size w W → Calls Try.prog 80 #[.slice A ts.length cap] W fun e w' => ∃ v, e = .returned v ∧ w'.ownsRow W.heap.size 53 3 v ts.length (ts.flatMap mk3) ∧ Below W.heap.size W w') := Lib.hid fun W hW => clone_pos ts A cap W (H.out.below hW) hn (by omega)
    obtain ⟨bl, off, rfl, hbk, hcells⟩ := H.out.open_ hn
    have HC := Lib.hid hcells
    clear hv hcells
    go_enter Try.func51, Try.ntmps51
    go_wp2_with (first
      | (go_at_call 19; refine HVA.out.mono ?_; rintro e w1 ⟨rfl, hB1⟩)
      | (go_at_call 80; refine (HCL.out _ hB1).mono ?_; rintro e w2 ⟨v2, rfl, ho2, hB2⟩; have hB2 := below_step hB1 hB2; have ho2 := own_le ho2 hB1.size; obtain ⟨g, c2, rfl, hg1, hg2⟩ := ho2.form hn)
      | fail)
    clear hB1
    go_loopw [14] (fun i wr => ∃ k : Nat, k ≤ ts.length ∧ i = .int .i64 k ∧ wr.ownsRow w.heap.size 53 3 (.slice (some ⟨g, 0, none⟩) ts.length c2) ts.length ((mixL tnT ts k).flatMap mk3) ∧ Below w.heap.size w wr) (fun i _ => ts.length - (intOf i).toNat)
    case atStart => exact ⟨0, Nat.zero_le _, rfl, by rw [mix_zero]; exact ho2, hB2⟩
    case round =>
      clear hB2 ho2 hg2
      obtain ⟨k, hk, rfl, hown, hB⟩ := hrel
      rename World => wr
      by_cases hlt : k < ts.length
      · obtain ⟨a, b, d, hx⟩ := getT_of_lt hlt
        have r0 := (hB.cell (p := ⟨bl, off + k * 3, none⟩) hbk).trans (HC.out _ _ hx).1
        have r1 := (hB.cell (p := ⟨bl, off + k * 3 + 1, none⟩) hbk).trans (HC.out _ _ hx).2.1
        have r2 := (hB.cell (p := ⟨bl, off + k * 3 + 2, none⟩) hbk).trans (HC.out _ _ hx).2.2
        have hv := va_at HV.out hlt
        obtain ⟨e0, e1, e2⟩ := getT_parts hx
        rw [e0, e1, e2] at hv
        obtain ⟨v0, v1, v2, v3, v4⟩ := hv
        have hg3 : g < wr.heap.size := (hown.lt g rfl).2
        have HOW := Lib.hid hown
        have HN := Lib.hid (flat_two (f := tnT) (p := 100 - b) (q := 100 - a) hx rfl)
        have HBB := Lib.hid hB
        have hz := hB.size
        obtain ⟨W1, hW1, b0, b1, b2, hs1, HB1, HO1⟩ : ∃ W1, wr.alloc (.cells #[.int .i64 a, .int .i64 b, .int .i64 d] 53) = W1 ∧ W1.cell? ⟨wr.heap.size, 0, none⟩ = some (.int .i64 a) ∧ W1.cell? ⟨wr.heap.size, 1, none⟩ = some (.int .i64 b) ∧ W1.cell? ⟨wr.heap.size, 2, none⟩ = some (.int .i64 d) ∧ wr.heap.size < W1.heap.size ∧ Hid (Below w.heap.size w W1) ∧ Hid (W1.ownsRow w.heap.size 53 3 (.slice (some ⟨g, 0, none⟩) ts.length c2) ts.length ((mixL tnT ts k).flatMap mk3)) :=
          ⟨_, rfl, (alloc_cell3 _ _ _ _ _).1, (alloc_cell3 _ _ _ _ _).2.1, (alloc_cell3 _ _ _ _ _).2.2, by simp, Lib.hid (Below.alloc hB hB.size _), Lib.hid (hown.alloc _)⟩
        have gs1 := HO1.out.stored (k * 3) (.int .i64 (100 - b))
        have hf := flat_get _ _ _ (mix_at (f := tnT) hx)
        rw [Nat.mul_comm 3 k] at hf
        have c0 := (HO1.out.cellAt (k * 3) (by omega)).trans hf.1
        have c1 : (W1.setCell ⟨g, k * 3, none⟩ (.int .i64 (100 - b))).cell? ⟨g, k * 3 + 1, none⟩ = some (.int .i64 b) := (gs1.1.cellAt (k * 3 + 1) (by omega)).trans (by rw [List.getElem?_set, if_neg (by omega)]; exact hf.2.1)
        have f0 := HO1.out.frozenAt (k * 3)
        have f1 := gs1.1.frozenAt (k * 3 + 1)
        have hne : (⟨g, k * 3, none⟩ : Addr).block ≠ wr.heap.size := by show g ≠ wr.heap.size; omega
        have q0 : (W1.setCell ⟨g, k * 3, none⟩ (.int .i64 (100 - b))).cell? ⟨wr.heap.size, 0, none⟩ = some (.int .i64 a) := (cell_set1 _ (fun h => hne h.symm)).trans b0
        have HS := Lib.hid gs1.1
        clear hx hown hB gs1 hf
        go_wp2
        go_roundw
        case rel => exact ⟨k + 1, by omega, by go_num, by rw [← HN.out]; exact (HS.out.stored _ _).1, (HB1.out.setCell hg1 _).setCell hg1 _⟩
        case measure => simp [intOf]; omega
      · obtain rfl : k = ts.length := by omega
        rw [mix_all] at hown
        have HM : Hid ((ts.map tnT).length = ts.length) := Lib.hid (by simp)
        have hmk : Clk wr (some ⟨g, 0, none⟩) c2 (ts.map tnT) := by
          exact own_clk hown
        have HK := Lib.hid hmk
        clear hown hmk
        go_wp2
        go_ret2
        exact ⟨_, c2, by rw [HE.out.1, HE.out.2, HM.out]; rfl, by rw [HE.out.2]; exact HK.out, hB⟩
end Go.Proofs.Ythanmiifcpajhaa
