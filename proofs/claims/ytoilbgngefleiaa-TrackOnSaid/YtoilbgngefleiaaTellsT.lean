/-
  Contracts: tells (track) of two and of three indexes.
-/
import Derived.Test.YtoilbgngefleiaaBestM
import Derived.Test.YtoilbgngefleiaaBoxes
import Derived.Deep.RegionHeld3
import Derived.Deep.CutRange
namespace Go.Proofs.Ytoilbgngefleiaa
open Go.RowKit Go.Shelf
set_option linter.unusedVariables false
set_option linter.unusedSimpArgs false

def ptN (ms : List (Int × Int)) (i : Nat) : Int × Int := ms.getD i (0, 0)
def tl2 (ms : List (Int × Int)) (i j : Nat) : Int × Int := (lowN (absI ((ptN ms i).2 - (ptN ms j).2)) 2, lowD (absI ((ptN ms i).2 - (ptN ms j).2)) 2)
def tl3R (ms : List (Int × Int)) (i j k : Nat) : Int := absI (rsI (thA (ptN ms i) (ptN ms k)) (thB (ptN ms i) (ptN ms k)) (thD (ptN ms i) (ptN ms k)) (ptN ms j))
def tl3 (ms : List (Int × Int)) (i j k : Nat) : Int × Int := (lowN (tl3R ms i j k) (2 * thD (ptN ms i) (ptN ms k)), lowD (tl3R ms i j k) (2 * thD (ptN ms i) (ptN ms k)))
theorem cell_st2 {w : World} {g b o : Nat} {u v x : Value} (h : w.cell? ⟨b, o, none⟩ = some x) (hne : b ≠ g) : ((w.setCell ⟨g, 0, none⟩ u).setCell ⟨g, 1, none⟩ v).cell? ⟨b, o, none⟩ = some x := by
  rw [World.cell?_setCell_other _ _ _ _ (by intro e; exact hne (congrArg Addr.block e).symm), World.cell?_setCell_other _ _ _ _ (by intro e; exact hne (congrArg Addr.block e).symm)]; exact h
theorem cell_st3 {w : World} {g b o : Nat} {u v y x : Value} (h : w.cell? ⟨b, o, none⟩ = some x) (hne : b ≠ g) : (((w.setCell ⟨g, 0, none⟩ u).setCell ⟨g, 1, none⟩ v).setCell ⟨g, 2, none⟩ y).cell? ⟨b, o, none⟩ = some x := by
  rw [World.cell?_setCell_other _ _ _ _ (by intro e; exact hne (congrArg Addr.block e).symm)]; exact cell_st2 h hne
theorem ptN_get {ms : List (Int × Int)} {i : Nat} {q : Int × Int} (h : ms[i]? = some q) : ptN ms i = q := by unfold ptN; rw [List.getD_eq_getElem?_getD, h]; rfl

set_option maxRecDepth 100000 in
set_option maxHeartbeats 4000000 in
theorem tells2_any (ms : List (Int × Int)) (A : Option Addr) (c i j : Nat) (B : Option Addr) (cb : Nat) (w : World) (h : Clk w A c ms) (hv : ∀ q ∈ ms, ptB q = true) (hB : Ints w B [(i : Int), (j : Int)]) (hi : i < ms.length) (hj : j < ms.length) :
    Calls Try.prog 75 #[.slice A ms.length c, .slice B 2 cb] w fun e w' => e = .returned (.agg #[.int .i64 (tl2 ms i j).1, .int .i64 (tl2 ms i j).2]) ∧ Below w.heap.size w w' := by
  obtain ⟨bl, off, rfl, hbl, hcells⟩ := h.marks.open_ (show 0 < ms.length by omega)
  obtain ⟨bq, oq, rfl, hbq, hlc⟩ := hB.open_ (by simp)
  obtain ⟨xi, yi, hpi⟩ := getM_of_lt hi
  have li := hlc 0 (i : Int) rfl
  have pi := hcells i _ hpi
  have ei := ptN_get hpi
  have bi := pt_parts (hv _ (List.mem_of_getElem? hpi))
  obtain ⟨xj, yj, hpj⟩ := getM_of_lt hj
  have lj := hlc 1 (j : Int) rfl
  have pj := hcells j _ hpj
  have ej := ptN_get hpj
  have bj := pt_parts (hv _ (List.mem_of_getElem? hpj))
  dsimp only at pi bi pj bj
  obtain ⟨W0, hW0, HW, HG⟩ : ∃ W0, w.alloc (.cells #[.int .i64 0, .int .i64 0] 34) = W0 ∧ Hid (Below w.heap.size w W0) ∧ Hid (Rt W0 w.heap.size (.int .i64 0) (.int .i64 0)) :=
    ⟨_, rfl, Lib.hid ((Below.refl _ _).alloc (Nat.le_refl _) _), Lib.hid (Rt.new _ _ _)⟩
  have d0 := (HW.out.cell (p := ⟨bq, oq + 0, none⟩) hbq).trans li
  have d1 := (HW.out.cell (p := ⟨bq, oq + 1, none⟩) hbq).trans lj
  have d2 := (HW.out.cell (p := ⟨bl, off + i * 2 + 1, none⟩) hbl).trans pi.2
  have d3 := (HW.out.cell (p := ⟨bl, off + j * 2 + 1, none⟩) hbl).trans pj.2
  simp only [Nat.add_zero] at d0
  have n1 : bq ≠ w.heap.size := by omega
  have n2 : bl ≠ w.heap.size := by omega
  have q1 : bq < W0.heap.size := Nat.lt_of_lt_of_le hbq HW.out.size
  have q2 : bl < W0.heap.size := Nat.lt_of_lt_of_le hbl HW.out.size
  obtain ⟨s, hs⟩ : ∃ s, absI (yi - yj) = s := ⟨_, rfl⟩
  have hsb : 0 ≤ s ∧ s ≤ 2000 := by rw [← hs]; unfold absI; omega
  obtain ⟨rn, hrn⟩ : ∃ z, lowN s 2 = z := ⟨_, rfl⟩
  obtain ⟨rd, hrd⟩ : ∃ z, lowD s 2 = z := ⟨_, rfl⟩
  have HSZ : Hid (∀ V : World, Calls Try.prog 90 #[.int .i64 (yi - yj)] V fun e w' => e = .returned (.int .i64 s) ∧ V = w') := Lib.hid fun V => by
    have := size_any (yi - yj) V (by omega) (by omega)
    rw [hs] at this
    exact this
  have HLO : Hid (∀ V : World, Calls Try.prog 59 #[.int .i64 s, .int .i64 2] V fun e w' => e = .returned (.agg #[.int .i64 rn, .int .i64 rd]) ∧ Below V.heap.size V w') := Lib.hid fun V => by
    have := lowest_any s 2 V (by omega) (by omega) (by omega) (by omega)
    rw [hrn, hrd] at this
    exact this
  have HE : Hid ((tl2 ms i j).1 = rn ∧ (tl2 ms i j).2 = rd) := Lib.hid (by unfold tl2; rw [ei, ej]; dsimp only; rw [hs, hrn, hrd]; exact ⟨rfl, rfl⟩)
  rw [HE.out.1, HE.out.2]
  have w1 : IntKind.i64.wrap (yi - yj) = yi - yj := IntWalk.i64_in _ (by omega)
  have g0 := HG.out.c0
  have g1 := HG.out.c1
  have gf0 := HG.out.f 0
  have gf1 := HG.out.f 1
  clear hs hrn hrd li lj pi pj hcells hlc hpi hpj ei ej bi bj hB h hv
  go_enter Try.func75, Try.ntmps75
  go_upto_region 1 with (fail)
  try rw [hW0]
  clear hW0
  go_wp2
  go_region_held3 (fun w' => w'.cell? ⟨bq, oq, none⟩ = some (.int .i64 i) ∧ w'.cell? ⟨bq, oq + 1, none⟩ = some (.int .i64 j) ∧ w'.cell? ⟨bl, off + i * 2 + 1, none⟩ = some (.int .i64 yi) ∧ w'.cell? ⟨bl, off + j * 2 + 1, none⟩ = some (.int .i64 yj))
    ((first
      | with_reducible exact ⟨d0, d1, d2, d3⟩
      | exact ⟨d0, d1, d2, d3⟩
      | exact ⟨cell_st2 d0 n1, cell_st2 d1 n1, cell_st2 d2 n2, cell_st2 d3 n2⟩
      | exact trivial))
    ((first
      | (go_at_call 90; refine (HSZ.out _).mono ?_; rintro e w' ⟨rfl, rfl⟩)
      | (go_at_call 59; refine (HLO.out _).mono ?_; rintro e w1 ⟨rfl, hB1⟩; have hB1 : Below W0.heap.size W0 w1 := ((Below.refl W0.heap.size W0).drew.trans hB1); have d0 := (hB1.cell (p := ⟨bq, oq, none⟩) q1).trans d0; have d1 := (hB1.cell (p := ⟨bq, oq + 1, none⟩) q1).trans d1; have d2 := (hB1.cell (p := ⟨bl, off + i * 2 + 1, none⟩) q2).trans d2; have d3 := (hB1.cell (p := ⟨bl, off + j * 2 + 1, none⟩) q2).trans d3; have HG := Lib.hid (HG.out.below hB1); have g0 := HG.out.c0; have g1 := HG.out.c1; have gf0 := HG.out.f 0; have gf1 := HG.out.f 1; have HW : Hid (Below w.heap.size w _) := Lib.hid (below_step HW.out hB1))))
  all_goals
    go_wp2
    exact bodyPost_ret (v := .agg #[.int .i64 rn, .int .i64 rd]) (by simp [results, Try.results75, go_sem, g0, g1]) rfl ⟨rfl, by
      repeat (first | with_reducible exact HW.out | exact Below.drew HW.out | refine Below.setCell ?_ (Nat.le_refl w.heap.size) _)⟩

set_option maxRecDepth 100000 in
set_option maxHeartbeats 8000000 in
theorem tells3_any (ms : List (Int × Int)) (A : Option Addr) (c i j k : Nat) (B : Option Addr) (cb : Nat) (w : World) (h : Clk w A c ms) (hv : ∀ q ∈ ms, ptB q = true) (hB : Ints w B [(i : Int), (j : Int), (k : Int)]) (hi : i < ms.length) (hj : j < ms.length) (hk : k < ms.length) (hne : (ptN ms i).1 ≠ (ptN ms k).1) :
    Calls Try.prog 75 #[.slice A ms.length c, .slice B 3 cb] w fun e w' => e = .returned (.agg #[.int .i64 (tl3 ms i j k).1, .int .i64 (tl3 ms i j k).2]) ∧ Below w.heap.size w w' := by
  obtain ⟨bl, off, rfl, hbl, hcells⟩ := h.marks.open_ (show 0 < ms.length by omega)
  obtain ⟨bq, oq, rfl, hbq, hlc⟩ := hB.open_ (by simp)
  obtain ⟨xi, yi, hpi⟩ := getM_of_lt hi
  have li := hlc 0 (i : Int) rfl
  have pi := hcells i _ hpi
  have ei := ptN_get hpi
  have bi := pt_parts (hv _ (List.mem_of_getElem? hpi))
  obtain ⟨xj, yj, hpj⟩ := getM_of_lt hj
  have lj := hlc 1 (j : Int) rfl
  have pj := hcells j _ hpj
  have ej := ptN_get hpj
  have bj := pt_parts (hv _ (List.mem_of_getElem? hpj))
  obtain ⟨xk, yk, hpk⟩ := getM_of_lt hk
  have lk := hlc 2 (k : Int) rfl
  have pk := hcells k _ hpk
  have ek := ptN_get hpk
  have bk := pt_parts (hv _ (List.mem_of_getElem? hpk))
  dsimp only at pi bi pj bj pk bk
  rw [ei, ek] at hne
  obtain ⟨a1, ha1⟩ : ∃ z, thA (xi, yi) (xk, yk) = z := ⟨_, rfl⟩
  obtain ⟨b1, hb1⟩ : ∃ z, thB (xi, yi) (xk, yk) = z := ⟨_, rfl⟩
  obtain ⟨d1, hd1⟩ : ∃ z, thD (xi, yi) (xk, yk) = z := ⟨_, rfl⟩
  have hpti := hv _ (List.mem_of_getElem? hpi)
  have hptk := hv _ (List.mem_of_getElem? hpk)
  have hptj := hv _ (List.mem_of_getElem? hpj)
  have hthb := th_bd hpti hptk (show (xi, yi).1 ≠ (xk, yk).1 from hne)
  have hln := th_ln hpti hptk (show (xi, yi).1 ≠ (xk, yk).1 from hne)
  rw [ha1, hb1, hd1] at hthb hln
  have HTH : Hid (∀ V : World, Calls Try.prog 81 #[.agg #[.int .i64 xi, .int .i64 yi], .agg #[.int .i64 xk, .int .i64 yk]] V fun e w' => e = .returned (.agg #[.int .i64 a1, .int .i64 b1, .int .i64 d1]) ∧ Below V.heap.size V w') := Lib.hid (fun V => by
    have := through_any xi yi xk yk V hpti hptk hne
    rw [ha1, hb1, hd1] at this
    exact this)
  obtain ⟨r, hr⟩ : ∃ z, rsI a1 b1 d1 (xj, yj) = z := ⟨_, rfl⟩
  have hrb := rs_small hthb.1 hthb.2.2 hthb.2.1 hptj
  rw [hr] at hrb
  have HRS : Hid (∀ V : World, Calls Try.prog 89 #[.agg #[.int .i64 xj, .int .i64 yj], .agg #[.int .i64 a1, .int .i64 b1, .int .i64 d1]] V fun e w' => e = .returned (.int .i64 r) ∧ Below V.heap.size V w') := Lib.hid (fun V => by
    have := rest_any xj yj a1 b1 d1 V hln hptj
    rw [hr] at this
    exact this)
  obtain ⟨s, hs⟩ : ∃ s, absI r = s := ⟨_, rfl⟩
  have hsb : 0 ≤ s ∧ s ≤ 800000 := by rw [← hs]; unfold absI; omega
  obtain ⟨rn, hrn⟩ : ∃ z, lowN s (2 * d1) = z := ⟨_, rfl⟩
  obtain ⟨rd, hrd⟩ : ∃ z, lowD s (2 * d1) = z := ⟨_, rfl⟩
  have HSZ : Hid (∀ V : World, Calls Try.prog 90 #[.int .i64 r] V fun e w' => e = .returned (.int .i64 s) ∧ V = w') := Lib.hid fun V => by
    have := size_any r V (by omega) (by omega)
    rw [hs] at this
    exact this
  have HLO : Hid (∀ V : World, Calls Try.prog 59 #[.int .i64 s, .int .i64 (2 * d1)] V fun e w' => e = .returned (.agg #[.int .i64 rn, .int .i64 rd]) ∧ Below V.heap.size V w') := Lib.hid fun V => by
    have := lowest_any s (2 * d1) V (by omega) (by omega) (by omega) (by omega)
    rw [hrn, hrd] at this
    exact this
  have HE : Hid ((tl3 ms i j k).1 = rn ∧ (tl3 ms i j k).2 = rd) := Lib.hid (by unfold tl3 tl3R; rw [ei, ej, ek]; dsimp only; rw [ha1, hb1, hd1, hr, hs, hrn, hrd]; exact ⟨rfl, rfl⟩)
  rw [HE.out.1, HE.out.2]
  have w2d : IntKind.i64.wrap (2 * d1) = 2 * d1 := IntWalk.i64_in _ (by omega)
  have hd1b := hthb.2.1
  obtain ⟨W0, hW0, HW, HG⟩ : ∃ W0, w.alloc (.cells #[.int .i64 0, .int .i64 0] 34) = W0 ∧ Hid (Below w.heap.size w W0) ∧ Hid (Rt W0 w.heap.size (.int .i64 0) (.int .i64 0)) :=
    ⟨_, rfl, Lib.hid ((Below.refl _ _).alloc (Nat.le_refl _) _), Lib.hid (Rt.new _ _ _)⟩
  have n1 : bq ≠ w.heap.size := by omega
  have n2 : bl ≠ w.heap.size := by omega
  have q1 : bq < W0.heap.size := Nat.lt_of_lt_of_le hbq HW.out.size
  have q2 : bl < W0.heap.size := Nat.lt_of_lt_of_le hbl HW.out.size
  have q3 : w.heap.size < W0.heap.size := HG.out.lt
  have d0 := (HW.out.cell (p := ⟨bq, oq + 0, none⟩) hbq).trans li
  have m0 := (HW.out.cell (p := ⟨bq, oq + 1, none⟩) hbq).trans lj
  have d2 := (HW.out.cell (p := ⟨bq, oq + 2, none⟩) hbq).trans lk
  have a0 := (HW.out.cell (p := ⟨bl, off + i * 2, none⟩) hbl).trans pi.1
  have a2 := (HW.out.cell (p := ⟨bl, off + i * 2 + 1, none⟩) hbl).trans pi.2
  have m1 := (HW.out.cell (p := ⟨bl, off + j * 2, none⟩) hbl).trans pj.1
  have m2 := (HW.out.cell (p := ⟨bl, off + j * 2 + 1, none⟩) hbl).trans pj.2
  have b0 := (HW.out.cell (p := ⟨bl, off + k * 2, none⟩) hbl).trans pk.1
  have b2 := (HW.out.cell (p := ⟨bl, off + k * 2 + 1, none⟩) hbl).trans pk.2
  simp only [Nat.add_zero] at d0
  clear hs hrn hrd li lj lk pi pj pk hcells hlc hpi hpj hpk ei ej ek bi bj bk hB h hv ha1 hb1 hd1 hr hne hpti hptj hptk hthb hln
  go_enter Try.func75, Try.ntmps75
  go_upto_region 1 with (fail)
  try rw [hW0]
  clear hW0
  go_wp2
  have k1 : bq ≠ W0.heap.size := by omega
  have k2 : bl ≠ W0.heap.size := by omega
  have k3 : w.heap.size ≠ W0.heap.size := by omega
  go_region_held3 (fun w' => w'.cell? ⟨bq, oq, none⟩ = some (.int .i64 i) ∧ w'.cell? ⟨bq, oq + 2, none⟩ = some (.int .i64 k) ∧ w'.cell? ⟨bl, off + i * 2, none⟩ = some (.int .i64 xi) ∧ w'.cell? ⟨bl, off + i * 2 + 1, none⟩ = some (.int .i64 yi) ∧ w'.cell? ⟨bl, off + k * 2, none⟩ = some (.int .i64 xk) ∧ w'.cell? ⟨bl, off + k * 2 + 1, none⟩ = some (.int .i64 yk))
    ((first
      | with_reducible exact ⟨d0, d2, a0, a2, b0, b2⟩
      | exact ⟨d0, d2, a0, a2, b0, b2⟩
      | exact ⟨(World.cell?_alloc_lt _ _ _ q1).trans d0, (World.cell?_alloc_lt _ _ _ q1).trans d2, (World.cell?_alloc_lt _ _ _ q2).trans a0, (World.cell?_alloc_lt _ _ _ q2).trans a2, (World.cell?_alloc_lt _ _ _ q2).trans b0, (World.cell?_alloc_lt _ _ _ q2).trans b2⟩
      | exact ⟨cell_st3 d0 k1, cell_st3 d2 k1, cell_st3 a0 k2, cell_st3 a2 k2, cell_st3 b0 k2, cell_st3 b2 k2⟩
      | exact trivial))
    ((first
      | (go_at_call 81; refine (HTH.out _).mono ?_; rintro e w1 ⟨rfl, hB0⟩; have hB1 : Below W0.heap.size W0 w1 := ((Below.refl W0.heap.size W0).drew.trans hB0); have d0 := (hB1.cell (p := ⟨bq, oq, none⟩) q1).trans d0; have d2 := (hB1.cell (p := ⟨bq, oq + 2, none⟩) q1).trans d2; have a0 := (hB1.cell (p := ⟨bl, off + i * 2, none⟩) q2).trans a0; have a2 := (hB1.cell (p := ⟨bl, off + i * 2 + 1, none⟩) q2).trans a2; have b0 := (hB1.cell (p := ⟨bl, off + k * 2, none⟩) q2).trans b0; have b2 := (hB1.cell (p := ⟨bl, off + k * 2 + 1, none⟩) q2).trans b2; have HG := Lib.hid (HG.out.below hB1); have HW : Hid (Below w.heap.size w _) := Lib.hid (below_step HW.out hB1); have m0 := (hB1.cell (p := ⟨bq, oq + 1, none⟩) q1).trans m0; have m1 := (hB1.cell (p := ⟨bl, off + j * 2, none⟩) q2).trans m1; have m2 := (hB1.cell (p := ⟨bl, off + j * 2 + 1, none⟩) q2).trans m2; have q1 := Nat.lt_of_lt_of_le q1 hB1.size; have q2 := Nat.lt_of_lt_of_le q2 hB1.size; have q3 := Nat.lt_of_lt_of_le q3 hB1.size)
      | (go_at_call 81; refine (HTH.out _).mono ?_; rintro e w1 ⟨rfl, hB0⟩; have hz : Lt w1 W0.heap.size (.int .i64 0) (.int .i64 0) (.int .i64 0) := (hB0.block W0.heap.size (by simp)).trans (heap_alloc_new W0 _); have hB1 : Below W0.heap.size W0 w1 := (((Below.refl W0.heap.size W0).alloc (Nat.le_refl _) _).drew.trans (hB0.mono (by simp))); have z0 := hz.c0; have z1 := hz.c1; have z2 := hz.c2; have zf0 := hz.f 0; have zf1 := hz.f 1; have zf2 := hz.f 2; have d0 := (hB1.cell (p := ⟨bq, oq, none⟩) q1).trans d0; have d2 := (hB1.cell (p := ⟨bq, oq + 2, none⟩) q1).trans d2; have a0 := (hB1.cell (p := ⟨bl, off + i * 2, none⟩) q2).trans a0; have a2 := (hB1.cell (p := ⟨bl, off + i * 2 + 1, none⟩) q2).trans a2; have b0 := (hB1.cell (p := ⟨bl, off + k * 2, none⟩) q2).trans b0; have b2 := (hB1.cell (p := ⟨bl, off + k * 2 + 1, none⟩) q2).trans b2; have HG := Lib.hid (HG.out.below hB1); have HW : Hid (Below w.heap.size w _) := Lib.hid (below_step HW.out hB1); have m0 := (hB1.cell (p := ⟨bq, oq + 1, none⟩) q1).trans m0; have m1 := (hB1.cell (p := ⟨bl, off + j * 2, none⟩) q2).trans m1; have m2 := (hB1.cell (p := ⟨bl, off + j * 2 + 1, none⟩) q2).trans m2; have q1 := Nat.lt_of_lt_of_le q1 hB1.size; have q2 := Nat.lt_of_lt_of_le q2 hB1.size; have q3 := Nat.lt_of_lt_of_le q3 hB1.size)))
  all_goals first
    | (obtain ⟨W1, hW1, HW, HG, HL⟩ : ∃ W1, w1.alloc (.cells #[.int .i64 a1, .int .i64 b1, .int .i64 d1] 24) = W1 ∧ Hid (Below w.heap.size w W1) ∧ Hid (Rt W1 w.heap.size (.int .i64 0) (.int .i64 0)) ∧ Hid (Lt W1 w1.heap.size (.int .i64 a1) (.int .i64 b1) (.int .i64 d1)) :=
        ⟨_, rfl, Lib.hid (HW.out.alloc HW.out.size _), Lib.hid (HG.out.alloc _), Lib.hid (Lt.new _ _ _ _)⟩
       rw [hW1]
       have m0 : W1.cell? ⟨bq, oq + 1, none⟩ = some (.int .i64 j) := by rw [← hW1]; exact (World.cell?_alloc_lt _ _ _ q1).trans m0
       have m1 : W1.cell? ⟨bl, off + j * 2, none⟩ = some (.int .i64 xj) := by rw [← hW1]; exact (World.cell?_alloc_lt _ _ _ q2).trans m1
       have m2 : W1.cell? ⟨bl, off + j * 2 + 1, none⟩ = some (.int .i64 yj) := by rw [← hW1]; exact (World.cell?_alloc_lt _ _ _ q2).trans m2
       have hsz1 : w1.heap.size ≤ W1.heap.size := by rw [← hW1]; simp
       clear hW1
       obtain ⟨gl, hgl⟩ : ∃ g, w1.heap.size = g := ⟨_, rfl⟩
       rw [hgl] at HL ⊢
       have n3 : gl ≠ w.heap.size := by omega)
    | (obtain ⟨W1, hW1, HW, HG, HL⟩ : ∃ W1, ((w1.setCell ⟨W0.heap.size, 0, none⟩ (.int .i64 a1)).setCell ⟨W0.heap.size, 1, none⟩ (.int .i64 b1)).setCell ⟨W0.heap.size, 2, none⟩ (.int .i64 d1) = W1 ∧ Hid (Below w.heap.size w W1) ∧ Hid (Rt W1 w.heap.size (.int .i64 0) (.int .i64 0)) ∧ Hid (Lt W1 W0.heap.size (.int .i64 a1) (.int .i64 b1) (.int .i64 d1)) :=
        ⟨_, rfl, Lib.hid (st3_below HW.out (by omega)), Lib.hid (HG.out.other3 k3), Lib.hid (Lt.set hz)⟩
       rw [hW1]
       have m0 : W1.cell? ⟨bq, oq + 1, none⟩ = some (.int .i64 j) := by rw [← hW1]; exact cell_st3 m0 k1
       have m1 : W1.cell? ⟨bl, off + j * 2, none⟩ = some (.int .i64 xj) := by rw [← hW1]; exact cell_st3 m1 k2
       have m2 : W1.cell? ⟨bl, off + j * 2 + 1, none⟩ = some (.int .i64 yj) := by rw [← hW1]; exact cell_st3 m2 k2
       have hsz1 : w1.heap.size ≤ W1.heap.size := by rw [← hW1]; simp
       clear hW1 z0 z1 z2 zf0 zf1 zf2 hz
       obtain ⟨gl, hgl⟩ : ∃ g, W0.heap.size = g := ⟨_, rfl⟩
       rw [hgl] at HL ⊢
       have n3 : gl ≠ w.heap.size := by omega)
  all_goals
    clear hgl d0 d2 a0 a2 b0 b2
    have q1 : bq < W1.heap.size := by omega
    have q2 : bl < W1.heap.size := by omega
    have q4 : gl < W1.heap.size := HL.out.lt
    have x0 := HL.out.c0
    have x1 := HL.out.c1
    have x2 := HL.out.c2
    have g0 := HG.out.c0
    have g1 := HG.out.c1
    have gf0 := HG.out.f 0
    have gf1 := HG.out.f 1
    clear hsz1 hB0 hB1
    go_wp2
    go_region_held3 (fun w' => w'.cell? ⟨bq, oq + 1, none⟩ = some (.int .i64 j) ∧ w'.cell? ⟨bl, off + j * 2, none⟩ = some (.int .i64 xj) ∧ w'.cell? ⟨bl, off + j * 2 + 1, none⟩ = some (.int .i64 yj) ∧ w'.cell? ⟨gl, 0, none⟩ = some (.int .i64 a1) ∧ w'.cell? ⟨gl, 1, none⟩ = some (.int .i64 b1) ∧ w'.cell? ⟨gl, 2, none⟩ = some (.int .i64 d1))
      ((first
      | with_reducible exact ⟨m0, m1, m2, x0, x1, x2⟩
      | exact ⟨m0, m1, m2, x0, x1, x2⟩
      | exact ⟨cell_st2 m0 n1, cell_st2 m1 n2, cell_st2 m2 n2, cell_st2 x0 n3, cell_st2 x1 n3, cell_st2 x2 n3⟩
      | exact trivial))
      ((first
      | (go_at_call 89; refine (HRS.out _).mono ?_; rintro e w2 ⟨rfl, hBw2⟩; have hBw2 : Below W1.heap.size W1 w2 := (by first | exact hBw2 | exact ((Below.refl W1.heap.size W1).drew.trans hBw2)); have m0 := (hBw2.cell (p := ⟨bq, oq + 1, none⟩) q1).trans m0; have m1 := (hBw2.cell (p := ⟨bl, off + j * 2, none⟩) q2).trans m1; have m2 := (hBw2.cell (p := ⟨bl, off + j * 2 + 1, none⟩) q2).trans m2; have x0 := (hBw2.cell (p := ⟨gl, 0, none⟩) q4).trans x0; have x1 := (hBw2.cell (p := ⟨gl, 1, none⟩) q4).trans x1; have x2 := (hBw2.cell (p := ⟨gl, 2, none⟩) q4).trans x2; have HG := Lib.hid (HG.out.below hBw2); have g0 := HG.out.c0; have g1 := HG.out.c1; have gf0 := HG.out.f 0; have gf1 := HG.out.f 1; have HW : Hid (Below w.heap.size w _) := Lib.hid (below_step HW.out hBw2); have q1 := Nat.lt_of_lt_of_le q1 hBw2.size; have q2 := Nat.lt_of_lt_of_le q2 hBw2.size; have q4 := Nat.lt_of_lt_of_le q4 hBw2.size)
      | (go_at_call 90; refine (HSZ.out _).mono ?_; rintro e w' ⟨rfl, rfl⟩)
      | (go_at_call 59; refine (HLO.out _).mono ?_; rintro e w3 ⟨rfl, hBw3⟩; have hBw3 : Below w2.heap.size w2 w3 := (by first | exact hBw3 | exact ((Below.refl w2.heap.size w2).drew.trans hBw3)); have m0 := (hBw3.cell (p := ⟨bq, oq + 1, none⟩) q1).trans m0; have m1 := (hBw3.cell (p := ⟨bl, off + j * 2, none⟩) q2).trans m1; have m2 := (hBw3.cell (p := ⟨bl, off + j * 2 + 1, none⟩) q2).trans m2; have x0 := (hBw3.cell (p := ⟨gl, 0, none⟩) q4).trans x0; have x1 := (hBw3.cell (p := ⟨gl, 1, none⟩) q4).trans x1; have x2 := (hBw3.cell (p := ⟨gl, 2, none⟩) q4).trans x2; have HG := Lib.hid (HG.out.below hBw3); have g0 := HG.out.c0; have g1 := HG.out.c1; have gf0 := HG.out.f 0; have gf1 := HG.out.f 1; have HW : Hid (Below w.heap.size w _) := Lib.hid (below_step HW.out hBw3); have q1 := Nat.lt_of_lt_of_le q1 hBw3.size; have q2 := Nat.lt_of_lt_of_le q2 hBw3.size; have q4 := Nat.lt_of_lt_of_le q4 hBw3.size)))
  all_goals
    go_wp2
    exact bodyPost_ret (v := .agg #[.int .i64 rn, .int .i64 rd]) (by simp [results, Try.results75, go_sem, g0, g1]) rfl ⟨rfl, by
      repeat (first | with_reducible exact HW.out | exact Below.drew HW.out | refine Below.setCell ?_ (Nat.le_refl w.heap.size) _)⟩
end Go.Proofs.Ytoilbgngefleiaa
