/-
  Contracts: tells, Tells (firnref05).
-/
import Derived.Test.YtoilbgngefleiaaWit
import Derived.Test.YtoilbgngefleiaaRefThr
import Derived.Test.YtoilbgngefleiaaRefV
import Derived.Test.YtoilbgngefleiaaTells2
import Derived.Deep.RegionHeld3
namespace Go.Proofs.Ytoilbgngefleiaa
open Go.RowKit Go.Shelf
set_option linter.unusedVariables false
set_option linter.unusedSimpArgs false

theorem wi_dup {ms : List (Int × Int)} {l : List Int} {i j : Nat} {z : Int} (hij : i < j) (hi : l[i]? = some z) (hj : l[j]? = some z) : wiS ms l = false := by
  have hjl := (List.getElem?_eq_some_iff.1 hj).1
  match l with
  | [] => rfl
  | [_] => rfl
  | [a, b] =>
    simp only [List.length_cons, List.length_nil] at hjl
    obtain rfl : i = 0 := by omega
    obtain rfl : j = 1 := by omega
    simp at hi hj
    subst hi hj
    simp [wiS]
  | [a, b, d] =>
    simp only [List.length_cons, List.length_nil] at hjl
    rcases (show (i = 0 ∧ j = 1) ∨ (i = 0 ∧ j = 2) ∨ (i = 1 ∧ j = 2) by omega) with ⟨rfl, rfl⟩ | ⟨rfl, rfl⟩ | ⟨rfl, rfl⟩
    · simp at hi hj; subst hi hj; simp [wiS]
    · simp at hi hj; subst hi hj; simp only [wiS]; rw [← Bool.decide_and, decide_eq_false_iff_not]; omega
    · simp at hi hj; subst hi hj; simp [wiS]
  | _ :: _ :: _ :: _ :: _ => rfl
def twV (ms : List (Int × Int)) (l : List Int) : Int × Int := if wiB ms l then tlV ms l else (0, 0)
theorem tw_ret {ms : List (Int × Int)} {l : List Int} {a b : Int} {e : Bool} (h1 : twV ms l = (a, b)) (h2 : wiB ms l = e) : Ending.returned (.tuple #[.agg #[.int .i64 a, .int .i64 b], .bool e]) = .returned (.tuple #[.agg #[.int .i64 (twV ms l).1, .int .i64 (twV ms l).2], .bool (wiB ms l)]) := by rw [h1, h2]
theorem tw_no {ms : List (Int × Int)} {l : List Int} (h : wiB ms l = false) : Ending.returned (.tuple #[.agg #[.int .i64 0, .int .i64 0], .bool false]) = .returned (.tuple #[.agg #[.int .i64 (twV ms l).1, .int .i64 (twV ms l).2], .bool (wiB ms l)]) := tw_ret (by rw [twV, h]; rfl) h
theorem tw_yes {ms : List (Int × Int)} {l : List Int} {a b : Int} (h : wiB ms l = true) (h1 : (tlV ms l).1 = a) (h2 : (tlV ms l).2 = b) : Ending.returned (.tuple #[.agg #[.int .i64 a, .int .i64 b], .bool true]) = .returned (.tuple #[.agg #[.int .i64 (twV ms l).1, .int .i64 (twV ms l).2], .bool (wiB ms l)]) := by
  refine tw_ret ?_ h
  rw [twV, h, if_pos rfl, ← h1, ← h2]

set_option maxRecDepth 100000 in
set_option maxHeartbeats 16000000 in
theorem refTells1_any (ms : List (Int × Int)) (A : Option Addr) (c : Nat) (l : List Int) (B : Option Addr) (cb : Nat) (w : World) (h : Clk w A c ms) (hB : Ints w B l) (hl : l.length ≤ 1000) (hcb : l.length ≤ cb) (hcb2 : cb ≤ maxLen) (hpt : ∀ q ∈ ms, ptB q = true) :
    Calls Try.prog 79 #[.slice A ms.length c, .slice B l.length cb] w fun e w' => e = .returned (.tuple #[.agg #[.int .i64 (twV ms l).1, .int .i64 (twV ms l).2], .bool (wiB ms l)]) ∧ Below w.heap.size w w' := by
  unfold maxLen at hcb2
  have H := Lib.hid h
  have HB := Lib.hid hB
  have HPT := Lib.hid hpt
  clear h hB hpt
  obtain ⟨W0, hW0, HW, HG⟩ : ∃ W0, W0 = w.alloc (.cells #[.int .i64 0, .int .i64 0] 34) ∧ Hid (Below w.heap.size w W0) ∧ Hid (Rt W0 w.heap.size (.int .i64 0) (.int .i64 0)) :=
    ⟨_, rfl, Lib.hid ((Below.refl _ _).alloc (Nat.le_refl _) _), Lib.hid (Rt.new _ _ _)⟩
  go_enter Try.func79, Try.ntmps79
  go_upto_region 1 with (fail)
  rw [← hW0]
  clear hW0
  have g0 := HG.out.c0
  have g1 := HG.out.c1
  have gf0 := HG.out.f 0
  have gf1 := HG.out.f 1
  have HB0 := Lib.hid (HB.out.below HW.out)
  go_wp2
  go_loopw [13] (fun i wr => ∃ k : Nat, k ≤ l.length ∧ i = .int .i64 k ∧ W0 = wr ∧ Hid (∀ j z, j < k → l[j]? = some z → 0 ≤ z ∧ z < (ms.length : Int)) ∧ Hid (∀ i j z, i < j → j < k → l[i]? = some z → l[j]? ≠ some z)) (fun i _ => l.length - (intOf i).toNat)
  case atStart => exact ⟨0, Nat.zero_le _, rfl, rfl, Lib.hid (fun j z hj => absurd hj (by omega)), Lib.hid (fun i j z _ hj => absurd hj (by omega))⟩
  case round =>
    obtain ⟨k, hk, rfl, rfl, hin, hnd⟩ := hrel
    by_cases hlt : k < l.length
    · obtain ⟨ad, z, rfl, hbk, hz, hc⟩ := HB0.out.get hlt
      obtain ⟨bq, oq, e1, hbq, hlc⟩ := HB0.out.open_ (show 0 < l.length by omega)
      obtain rfl := Option.some.inj e1
      have HLC := Lib.hid hlc
      clear hlc e1
      rw [add_mk] at hc
      by_cases h0 : z < 0
      · have t0 : decide (z < 0) = true := decide_eq_true h0
        have HN : Hid (wiB ms l = false) := Lib.hid (by rw [wiB, inL_bad (List.mem_of_getElem? hz.out) (by omega)]; rfl)
        clear h0
        go_wp2
        exact bodyPost_ret (v := .tuple #[.agg #[.int .i64 0, .int .i64 0], .bool false]) (by simp [results, Try.results79, go_sem, g0, g1]) rfl ⟨tw_no HN.out, by
          repeat (first | with_reducible exact HW.out | exact Below.drew HW.out | exact below_drewN HW.out _ | refine Below.drew ?_ | refine Below.setCell ?_ (Nat.le_refl w.heap.size) _)⟩
      · have t0 : decide (z < 0) = false := decide_eq_false h0
        by_cases h1 : (ms.length : Int) ≤ z
        · have t1 : decide ((ms.length : Int) ≤ z) = true := decide_eq_true h1
          have HN : Hid (wiB ms l = false) := Lib.hid (by rw [wiB, inL_bad (List.mem_of_getElem? hz.out) (by omega)]; rfl)
          clear h0 h1
          go_wp2
          exact bodyPost_ret (v := .tuple #[.agg #[.int .i64 0, .int .i64 0], .bool false]) (by simp [results, Try.results79, go_sem, g0, g1]) rfl ⟨tw_no HN.out, by
            repeat (first | with_reducible exact HW.out | exact Below.drew HW.out | exact below_drewN HW.out _ | refine Below.drew ?_ | refine Below.setCell ?_ (Nat.le_refl w.heap.size) _)⟩
        · have t1 : decide ((ms.length : Int) ≤ z) = false := decide_eq_false h1
          have HZB : Hid (0 ≤ z ∧ z < (ms.length : Int)) := Lib.hid (by omega)
          have hkc : k ≤ cb := by omega
          clear h0 h1
          go_wp2
          go_loopw [31] (fun i wr => ∃ m : Nat, m ≤ k ∧ i = .int .i64 m ∧ W0 = wr ∧ Hid (∀ i, i < m → l[i]? ≠ some z)) (fun i _ => k - (intOf i).toNat)
          case atStart => exact ⟨0, Nat.zero_le _, rfl, (by first | trivial | rfl), Lib.hid (fun i hi => absurd hi (by omega))⟩
          case round =>
            obtain ⟨m, hm, rfl, rfl, hdd⟩ := hrel
            by_cases hlt2 : m < k
            · have hml : m < l.length := by omega
              obtain ⟨y, hy⟩ : ∃ y, l[m]? = some y := ⟨_, List.getElem?_eq_getElem hml⟩
              have c2 := HLC.out m y hy
              have HY := Lib.hid hy
              clear hy
              by_cases hzy : z = y
              · have t2 : (z == y) = true := by simpa using hzy
                have HN : Hid (wiB ms l = false) := Lib.hid (by rw [wiB, wi_dup hlt2 (hzy ▸ HY.out) hz.out, Bool.and_false])
                clear hzy
                go_wp2
                exact bodyPost_ret (v := .tuple #[.agg #[.int .i64 0, .int .i64 0], .bool false]) (by simp [results, Try.results79, go_sem, g0, g1]) rfl ⟨tw_no HN.out, by
                  repeat (first | with_reducible exact HW.out | exact Below.drew HW.out | exact below_drewN HW.out _ | refine Below.drew ?_ | refine Below.setCell ?_ (Nat.le_refl w.heap.size) _)⟩
              · have t2 : (z == y) = false := by simpa using hzy
                have HNE := Lib.hid hzy
                clear hzy
                go_wp2
                go_roundw
                case rel => exact ⟨m + 1, by omega, by go_num, (by first | trivial | rfl), Lib.hid (fun i hi => by
                  rcases Nat.lt_or_eq_of_le (Nat.le_of_lt_succ hi) with h | h
                  · exact hdd.out i h
                  · subst h
                    rw [HY.out]
                    exact fun e => HNE.out (Option.some.inj e).symm)⟩
                case measure => simp [intOf]; omega
            · obtain rfl : m = k := by omega
              go_wp2
              go_roundw
              case rel => exact ⟨m + 1, by omega, by go_num, (by first | trivial | rfl), Lib.hid (fun j y hj hy => by
                rcases Nat.lt_or_eq_of_le (Nat.le_of_lt_succ hj) with h | h
                · exact hin.out j y h hy
                · subst h
                  rw [hz.out] at hy
                  cases hy
                  exact HZB.out), Lib.hid (fun i j y hij hj hy => by
                rcases Nat.lt_or_eq_of_le (Nat.le_of_lt_succ hj) with h | h
                · exact hnd.out i j y hij h hy
                · subst h
                  rw [hz.out]
                  intro e
                  cases e
                  exact hdd.out i hij hy)⟩
              case measure => simp [intOf]; omega
    · obtain rfl : k = l.length := by omega
      have HIN : Hid (inL ms l = true) := Lib.hid (by
        unfold inL
        rw [List.all_eq_true]
        intro z hz
        obtain ⟨j, hj⟩ := List.mem_iff_getElem?.1 hz
        have := hin.out j z (List.getElem?_eq_some_iff.1 hj).1 hj
        simpa using this)
      clear hin hlt hk
      by_cases h2 : l.length = 2
      · obtain ⟨a, b, rfl⟩ := len_two h2
        obtain ⟨i, rfl, hi⟩ := inL_mem HIN.out (show a ∈ [a, b] by simp)
        obtain ⟨j, rfl, hj⟩ := inL_mem HIN.out (show b ∈ [(i : Int), b] by simp)
        obtain ⟨bl, off, rfl, hbl, hcells⟩ := H.out.marks.open_ (show 0 < ms.length by omega)
        obtain ⟨bq, oq, rfl, hbq, hlc⟩ := HB.out.open_ (by simp)
        have hij : (i : Int) ≠ j := fun e => hnd.out 0 1 (i : Int) (by omega) (by simp) rfl (by rw [e]; rfl)
        have l0 := (HW.out.cell (p := ⟨bq, oq + 0, none⟩) hbq).trans (hlc 0 (i : Int) rfl)
        have l1 := (HW.out.cell (p := ⟨bq, oq + 1, none⟩) hbq).trans (hlc 1 (j : Int) rfl)
        obtain ⟨xi, yi, hpi⟩ := getM_of_lt hi
        obtain ⟨xj, yj, hpj⟩ := getM_of_lt hj
        have p0 := (HW.out.cell (p := ⟨bl, off + i * 2, none⟩) hbl).trans (hcells i _ hpi).1
        have p2 := (HW.out.cell (p := ⟨bl, off + i * 2 + 1, none⟩) hbl).trans (hcells i _ hpi).2
        have p1 := (HW.out.cell (p := ⟨bl, off + j * 2, none⟩) hbl).trans (hcells j _ hpj).1
        have p3 := (HW.out.cell (p := ⟨bl, off + j * 2 + 1, none⟩) hbl).trans (hcells j _ hpj).2
        dsimp only at p0 p1 p2 p3
        have n1 : bq ≠ w.heap.size := by omega
        have n2 : bl ≠ w.heap.size := by omega
        have q1 : bq < W0.heap.size := Nat.lt_of_lt_of_le hbq HW.out.size
        have q2 : bl < W0.heap.size := Nat.lt_of_lt_of_le hbl HW.out.size
        have HE : Hid (wiB ms [(i : Int), (j : Int)] = decide (xi = xj)) := Lib.hid (by rw [wiB, HIN.out, wiS, ptK_nat hpi, ptK_nat hpj, decide_eq_true hij]; rfl)
        simp only [Nat.add_zero] at l0
        have hbi := pt_parts (HPT.out _ (List.mem_of_getElem? hpi))
        have hbj := pt_parts (HPT.out _ (List.mem_of_getElem? hpj))
        dsimp only at hbi hbj
        obtain ⟨s, hs⟩ : ∃ s, absI (yi - yj) = s := ⟨_, rfl⟩
        have hsb : 0 ≤ s ∧ s ≤ 2000 := by rw [← hs]; unfold absI; omega
        obtain ⟨rn, hrn⟩ : ∃ z, lowN s 2 = z := ⟨_, rfl⟩
        obtain ⟨rd, hrd⟩ : ∃ z, lowD s 2 = z := ⟨_, rfl⟩
        have HSZ : Hid (∀ V : World, Calls Try.prog 93 #[.int .i64 (yi - yj)] V fun e w' => e = .returned (.int .i64 s) ∧ V = w') := Lib.hid fun V => by
          have := refsize_any (yi - yj) V (by omega) (by omega)
          rw [hs] at this
          exact this
        have HLO : Hid (∀ V : World, Calls Try.prog 55 #[.int .i64 s, .int .i64 2] V fun e w' => e = .returned (.agg #[.int .i64 rn, .int .i64 rd]) ∧ Below V.heap.size V w') := Lib.hid fun V => by
          have := refRatio_any s 2 V (by omega) (by omega) (by omega) (by omega)
          rw [hrn, hrd] at this
          exact this
        have HE2 : Hid ((tlV ms [(i : Int), (j : Int)]).1 = rn ∧ (tlV ms [(i : Int), (j : Int)]).2 = rd) := Lib.hid (by
          show (tl2 ms (i : Int).toNat (j : Int).toNat).1 = rn ∧ (tl2 ms (i : Int).toNat (j : Int).toNat).2 = rd
          rw [Int.toNat_natCast, Int.toNat_natCast]
          unfold tl2; rw [ptN_get hpi, ptN_get hpj]; dsimp only; rw [hs, hrn, hrd]; exact ⟨rfl, rfl⟩)
        have w1' : IntKind.i64.wrap (yi - yj) = yi - yj := IntWalk.i64_in _ (by omega)
        clear hlc hcells hpi hpj h2 hij hnd HB0 hbi hbj hs hrn hrd
        by_cases hx : xi = xj
        · have t2 : (xi == xj) = true := by simpa using hx
          have HF : Hid (wiB ms [(i : Int), (j : Int)] = true) := Lib.hid (by rw [HE.out]; simp [hx])
          clear hx
          go_wp2
          go_quiet (fail)
          obtain ⟨W1, hW1, HW, HG, l0, l1, p2, p3, hz1⟩ : ∃ W1, W0.drewN nq = W1 ∧ Hid (Below w.heap.size w W1) ∧ Hid (Rt W1 w.heap.size (.int .i64 0) (.int .i64 0)) ∧ W1.cell? ⟨bq, oq, none⟩ = some (.int .i64 i) ∧ W1.cell? ⟨bq, oq + 1, none⟩ = some (.int .i64 j) ∧ W1.cell? ⟨bl, off + i * 2 + 1, none⟩ = some (.int .i64 yi) ∧ W1.cell? ⟨bl, off + j * 2 + 1, none⟩ = some (.int .i64 yj) ∧ W1.heap.size = W0.heap.size :=
            ⟨_, rfl, Lib.hid (below_drewN HW.out _), HG, l0, l1, p2, p3, rfl⟩
          rw [hW1]
          clear hW1
          have q1 : bq < W1.heap.size := by omega
          have q2 : bl < W1.heap.size := by omega
          have g0 := HG.out.c0
          have g1 := HG.out.c1
          have gf0 := HG.out.f 0
          have gf1 := HG.out.f 1
          clear hz1 p0 p1
          go_wp2
          go_region_held3 (fun w' => w'.cell? ⟨bq, oq, none⟩ = some (.int .i64 i) ∧ w'.cell? ⟨bq, oq + 1, none⟩ = some (.int .i64 j) ∧ w'.cell? ⟨bl, off + i * 2 + 1, none⟩ = some (.int .i64 yi) ∧ w'.cell? ⟨bl, off + j * 2 + 1, none⟩ = some (.int .i64 yj))
            ((first
              | with_reducible exact ⟨l0, l1, p2, p3⟩
              | exact ⟨l0, l1, p2, p3⟩
              | exact ⟨cell_st2 l0 n1, cell_st2 l1 n1, cell_st2 p2 n2, cell_st2 p3 n2⟩
              | exact trivial))
            ((first
              | (go_at_call 93; refine (HSZ.out _).mono ?_; rintro e w' ⟨rfl, rfl⟩)
              | (go_at_call 55; refine (HLO.out _).mono ?_; rintro e w1 ⟨rfl, hB1⟩; have hB1 : Below W1.heap.size W1 w1 := ((Below.refl W1.heap.size W1).drew.trans hB1); have l0 := (hB1.cell (p := ⟨bq, oq, none⟩) q1).trans l0; have l1 := (hB1.cell (p := ⟨bq, oq + 1, none⟩) q1).trans l1; have p2 := (hB1.cell (p := ⟨bl, off + i * 2 + 1, none⟩) q2).trans p2; have p3 := (hB1.cell (p := ⟨bl, off + j * 2 + 1, none⟩) q2).trans p3; have HG := Lib.hid (HG.out.below hB1); have g0 := HG.out.c0; have g1 := HG.out.c1; have gf0 := HG.out.f 0; have gf1 := HG.out.f 1; have HW : Hid (Below w.heap.size w _) := Lib.hid (below_step HW.out hB1))))
          all_goals
            go_wp2
            exact bodyPost_ret (v := .tuple #[.agg #[.int .i64 rn, .int .i64 rd], .bool true]) (by simp [results, Try.results79, go_sem, g0, g1]) rfl ⟨tw_yes HF.out HE2.out.1 HE2.out.2, by
              repeat (first | with_reducible exact HW.out | exact Below.drew HW.out | exact below_drewN HW.out _ | refine Below.drew ?_ | refine Below.setCell ?_ (Nat.le_refl w.heap.size) _)⟩
        · have t2 : (xi == xj) = false := by simpa using hx
          have HN : Hid (wiB ms [(i : Int), (j : Int)] = false) := Lib.hid (by rw [HE.out]; simp [hx])
          clear hx
          go_wp2
          go_quiet (fail)
          go_wp2
          go_quiet (fail)
          go_wp2
          exact bodyPost_ret (v := .tuple #[.agg #[.int .i64 0, .int .i64 0], .bool false]) (by simp [results, Try.results79, go_sem, g0, g1]) rfl ⟨tw_no HN.out, by
            repeat (first | with_reducible exact HW.out | exact Below.drew HW.out | exact below_drewN HW.out _ | refine Below.drew ?_ | refine Below.setCell ?_ (Nat.le_refl w.heap.size) _)⟩
      · have t2 : ((l.length : Int) == 2) = false := by simp; omega
        by_cases h3 : l.length = 3
        · obtain ⟨a, b, d, rfl⟩ := len_three h3
          obtain ⟨i, rfl, hi⟩ := inL_mem HIN.out (show a ∈ [a, b, d] by simp)
          obtain ⟨j, rfl, hj⟩ := inL_mem HIN.out (show b ∈ [(i : Int), b, d] by simp)
          obtain ⟨k, rfl, hk⟩ := inL_mem HIN.out (show d ∈ [(i : Int), (j : Int), d] by simp)
          obtain ⟨bl, off, rfl, hbl, hcells⟩ := H.out.marks.open_ (show 0 < ms.length by omega)
          obtain ⟨bq, oq, rfl, hbq, hlc⟩ := HB.out.open_ (by simp)
          have li := hlc 0 (i : Int) rfl
          have lj := hlc 1 (j : Int) rfl
          have lk := hlc 2 (k : Int) rfl
          obtain ⟨xi, yi, hpi⟩ := getM_of_lt hi
          obtain ⟨xj, yj, hpj⟩ := getM_of_lt hj
          obtain ⟨xk, yk, hpk⟩ := getM_of_lt hk
          have pi := hcells i _ hpi
          have pj := hcells j _ hpj
          have pk := hcells k _ hpk
          have ei := ptN_get hpi
          have ej := ptN_get hpj
          have ek := ptN_get hpk
          dsimp only at pi pj pk
          have HE : Hid (wiB ms [(i : Int), (j : Int), (k : Int)] = (decide (xi < xj) && decide (xj < xk))) := Lib.hid (by rw [wiB, HIN.out, wiS, ptK_nat hpi, ptK_nat hpj, ptK_nat hpk]; rfl)
          have n1 : bq ≠ w.heap.size := by omega
          have n2 : bl ≠ w.heap.size := by omega
          have q1 : bq < W0.heap.size := Nat.lt_of_lt_of_le hbq HW.out.size
          have q2 : bl < W0.heap.size := Nat.lt_of_lt_of_le hbl HW.out.size
          have q3 : w.heap.size < W0.heap.size := HG.out.lt
          have d0 := (HW.out.cell (p := ⟨bq, oq + 0, none⟩) hbq).trans li
          have m0 := (HW.out.cell (p := ⟨bq, oq + 1, none⟩) hbq).trans lj
          have d2 := (HW.out.cell (p := ⟨bq, oq + 2, none⟩) hbq).trans lk
          have a0 := (HW.out.cell (p := ⟨bl, off + i * 2, none⟩) hbl).trans pi.1
          have a2 := (HW.out.cell (p := ⟨bl, off + i * 2 + 1, none⟩) hbl).trans pi.2
          have m1 := (HW.out.cell (p := ⟨bl, off + j * 2, none⟩) hbl).trans pj.1
          have m2 := (HW.out.cell (p := ⟨bl, off + j * 2 + 1, none⟩) hbl).trans pj.2
          have b0 := (HW.out.cell (p := ⟨bl, off + k * 2, none⟩) hbl).trans pk.1
          have b2 := (HW.out.cell (p := ⟨bl, off + k * 2 + 1, none⟩) hbl).trans pk.2
          simp only [Nat.add_zero] at d0
          clear h2 h3 t2 hnd HB0
          by_cases hx : xi < xj
          · have t0 : decide (xi < xj) = true := decide_eq_true hx
            by_cases hx2 : xj < xk
            · have t1 : decide (xj < xk) = true := decide_eq_true hx2
              have HF : Hid (wiB ms [(i : Int), (j : Int), (k : Int)] = true) := Lib.hid (by rw [HE.out, t0, t1]; rfl)
              have hne : xi ≠ xk := by omega
              have hv := HPT.out
              obtain ⟨a1, ha1⟩ : ∃ z, thA (xi, yi) (xk, yk) = z := ⟨_, rfl⟩
              obtain ⟨b1, hb1⟩ : ∃ z, thB (xi, yi) (xk, yk) = z := ⟨_, rfl⟩
              obtain ⟨d1, hd1⟩ : ∃ z, thD (xi, yi) (xk, yk) = z := ⟨_, rfl⟩
              have hpti := hv _ (List.mem_of_getElem? hpi)
              have hptk := hv _ (List.mem_of_getElem? hpk)
              have hptj := hv _ (List.mem_of_getElem? hpj)
              have hthb := th_bd hpti hptk (show (xi, yi).1 ≠ (xk, yk).1 from hne)
              have hln := th_ln hpti hptk (show (xi, yi).1 ≠ (xk, yk).1 from hne)
              rw [ha1, hb1, hd1] at hthb hln
              have HTH : Hid (∀ V : World, Calls Try.prog 71 #[.agg #[.int .i64 xi, .int .i64 yi], .agg #[.int .i64 xk, .int .i64 yk]] V fun e w' => e = .returned (.agg #[.int .i64 a1, .int .i64 b1, .int .i64 d1]) ∧ Below V.heap.size V w') := Lib.hid (fun V => by
                have := refThrough_any xi yi xk yk V hpti hptk hne
                rw [ha1, hb1, hd1] at this
                exact this)
              obtain ⟨r, hr⟩ : ∃ z, rsI a1 b1 d1 (xj, yj) = z := ⟨_, rfl⟩
              have hrb := rs_small hthb.1 hthb.2.2 hthb.2.1 hptj
              rw [hr] at hrb
              have HRS : Hid (∀ V : World, Calls Try.prog 61 #[.agg #[.int .i64 xj, .int .i64 yj], .agg #[.int .i64 a1, .int .i64 b1, .int .i64 d1]] V fun e w' => e = .returned (.int .i64 r) ∧ Below V.heap.size V w') := Lib.hid (fun V => by
                have := refRest_any xj yj a1 b1 d1 V hln hptj
                rw [hr] at this
                exact this)
              obtain ⟨s, hs⟩ : ∃ s, absI r = s := ⟨_, rfl⟩
              have hsb : 0 ≤ s ∧ s ≤ 800000 := by rw [← hs]; unfold absI; omega
              obtain ⟨rn, hrn⟩ : ∃ z, lowN s (2 * d1) = z := ⟨_, rfl⟩
              obtain ⟨rd, hrd⟩ : ∃ z, lowD s (2 * d1) = z := ⟨_, rfl⟩
              have HSZ : Hid (∀ V : World, Calls Try.prog 93 #[.int .i64 r] V fun e w' => e = .returned (.int .i64 s) ∧ V = w') := Lib.hid fun V => by
                have := refsize_any r V (by omega) (by omega)
                rw [hs] at this
                exact this
              have HLO : Hid (∀ V : World, Calls Try.prog 55 #[.int .i64 s, .int .i64 (2 * d1)] V fun e w' => e = .returned (.agg #[.int .i64 rn, .int .i64 rd]) ∧ Below V.heap.size V w') := Lib.hid fun V => by
                have := refRatio_any s (2 * d1) V (by omega) (by omega) (by omega) (by omega)
                rw [hrn, hrd] at this
                exact this
              have HE3 : Hid ((tl3 ms i j k).1 = rn ∧ (tl3 ms i j k).2 = rd) := Lib.hid (by unfold tl3 tl3R; rw [ei, ej, ek]; dsimp only; rw [ha1, hb1, hd1, hr, hs, hrn, hrd]; exact ⟨rfl, rfl⟩)
              have w2d : IntKind.i64.wrap (2 * d1) = 2 * d1 := IntWalk.i64_in _ (by omega)
              have hd1b := hthb.2.1
              have HT3 : Hid ((tlV ms [(i : Int), (j : Int), (k : Int)]).1 = rn ∧ (tlV ms [(i : Int), (j : Int), (k : Int)]).2 = rd) := Lib.hid (by
                show (tl3 ms (i : Int).toNat (j : Int).toNat (k : Int).toNat).1 = rn ∧ (tl3 ms (i : Int).toNat (j : Int).toNat (k : Int).toNat).2 = rd
                rw [Int.toNat_natCast, Int.toNat_natCast, Int.toNat_natCast]
                exact HE3.out)
              clear hs hrn hrd li lj lk pi pj pk hcells hlc hpi hpj hpk ei ej ek ha1 hb1 hd1 hr hne hpti hptj hptk hthb hln hx hx2 hv
              go_wp2
              go_quiet (fail)
              rename Nat => n01
              go_wp2
              go_quiet (fail)
              obtain ⟨W2, hW2, HW, HG, d0, m0, d2, a0, m1, b0, a2, m2, b2, hz1⟩ : ∃ W2, (W0.drewN n01).drewN nq = W2 ∧ Hid (Below w.heap.size w W2) ∧ Hid (Rt W2 w.heap.size (.int .i64 0) (.int .i64 0)) ∧ W2.cell? ⟨bq, oq, none⟩ = some (.int .i64 i) ∧ W2.cell? ⟨bq, oq + 1, none⟩ = some (.int .i64 j) ∧ W2.cell? ⟨bq, oq + 2, none⟩ = some (.int .i64 k) ∧ W2.cell? ⟨bl, off + i * 2, none⟩ = some (.int .i64 xi) ∧ W2.cell? ⟨bl, off + j * 2, none⟩ = some (.int .i64 xj) ∧ W2.cell? ⟨bl, off + k * 2, none⟩ = some (.int .i64 xk) ∧ W2.cell? ⟨bl, off + i * 2 + 1, none⟩ = some (.int .i64 yi) ∧ W2.cell? ⟨bl, off + j * 2 + 1, none⟩ = some (.int .i64 yj) ∧ W2.cell? ⟨bl, off + k * 2 + 1, none⟩ = some (.int .i64 yk) ∧ W2.heap.size = W0.heap.size :=
                ⟨_, rfl, Lib.hid (below_drewN (below_drewN HW.out _) _), HG, d0, m0, d2, a0, m1, b0, a2, m2, b2, rfl⟩
              rw [hW2]
              clear hW2
              have q1 : bq < W2.heap.size := by omega
              have q2 : bl < W2.heap.size := by omega
              have q3 : w.heap.size < W2.heap.size := by omega
              clear hz1
              go_wp2
              have k1 : bq ≠ W2.heap.size := by omega
              have k2 : bl ≠ W2.heap.size := by omega
              have k3 : w.heap.size ≠ W2.heap.size := by omega
              go_region_held3 (fun w' => w'.cell? ⟨bq, oq, none⟩ = some (.int .i64 i) ∧ w'.cell? ⟨bq, oq + 2, none⟩ = some (.int .i64 k) ∧ w'.cell? ⟨bl, off + i * 2, none⟩ = some (.int .i64 xi) ∧ w'.cell? ⟨bl, off + i * 2 + 1, none⟩ = some (.int .i64 yi) ∧ w'.cell? ⟨bl, off + k * 2, none⟩ = some (.int .i64 xk) ∧ w'.cell? ⟨bl, off + k * 2 + 1, none⟩ = some (.int .i64 yk))
                ((first
                  | with_reducible exact ⟨d0, d2, a0, a2, b0, b2⟩
                  | exact ⟨d0, d2, a0, a2, b0, b2⟩
                  | exact ⟨(World.cell?_alloc_lt _ _ _ q1).trans d0, (World.cell?_alloc_lt _ _ _ q1).trans d2, (World.cell?_alloc_lt _ _ _ q2).trans a0, (World.cell?_alloc_lt _ _ _ q2).trans a2, (World.cell?_alloc_lt _ _ _ q2).trans b0, (World.cell?_alloc_lt _ _ _ q2).trans b2⟩
                  | exact ⟨cell_st3 d0 k1, cell_st3 d2 k1, cell_st3 a0 k2, cell_st3 a2 k2, cell_st3 b0 k2, cell_st3 b2 k2⟩
                  | exact trivial))
                ((first
                  | (go_at_call 71; refine (HTH.out _).mono ?_; rintro e w1 ⟨rfl, hB0⟩; have hB1 : Below W2.heap.size W2 w1 := ((Below.refl W2.heap.size W2).drew.trans hB0); have d0 := (hB1.cell (p := ⟨bq, oq, none⟩) q1).trans d0; have d2 := (hB1.cell (p := ⟨bq, oq + 2, none⟩) q1).trans d2; have a0 := (hB1.cell (p := ⟨bl, off + i * 2, none⟩) q2).trans a0; have a2 := (hB1.cell (p := ⟨bl, off + i * 2 + 1, none⟩) q2).trans a2; have b0 := (hB1.cell (p := ⟨bl, off + k * 2, none⟩) q2).trans b0; have b2 := (hB1.cell (p := ⟨bl, off + k * 2 + 1, none⟩) q2).trans b2; have HG := Lib.hid (HG.out.below hB1); have HW : Hid (Below w.heap.size w _) := Lib.hid (below_step HW.out hB1); have m0 := (hB1.cell (p := ⟨bq, oq + 1, none⟩) q1).trans m0; have m1 := (hB1.cell (p := ⟨bl, off + j * 2, none⟩) q2).trans m1; have m2 := (hB1.cell (p := ⟨bl, off + j * 2 + 1, none⟩) q2).trans m2; have q1 := Nat.lt_of_lt_of_le q1 hB1.size; have q2 := Nat.lt_of_lt_of_le q2 hB1.size; have q3 := Nat.lt_of_lt_of_le q3 hB1.size)
                  | (go_at_call 71; refine (HTH.out _).mono ?_; rintro e w1 ⟨rfl, hB0⟩; have hz : Lt w1 W2.heap.size (.int .i64 0) (.int .i64 0) (.int .i64 0) := (hB0.block W2.heap.size (by simp)).trans (heap_alloc_new W2 _); have hB1 : Below W2.heap.size W2 w1 := (((Below.refl W2.heap.size W2).alloc (Nat.le_refl _) _).drew.trans (hB0.mono (by simp))); have z0 := hz.c0; have z1 := hz.c1; have z2 := hz.c2; have zf0 := hz.f 0; have zf1 := hz.f 1; have zf2 := hz.f 2; have d0 := (hB1.cell (p := ⟨bq, oq, none⟩) q1).trans d0; have d2 := (hB1.cell (p := ⟨bq, oq + 2, none⟩) q1).trans d2; have a0 := (hB1.cell (p := ⟨bl, off + i * 2, none⟩) q2).trans a0; have a2 := (hB1.cell (p := ⟨bl, off + i * 2 + 1, none⟩) q2).trans a2; have b0 := (hB1.cell (p := ⟨bl, off + k * 2, none⟩) q2).trans b0; have b2 := (hB1.cell (p := ⟨bl, off + k * 2 + 1, none⟩) q2).trans b2; have HG := Lib.hid (HG.out.below hB1); have HW : Hid (Below w.heap.size w _) := Lib.hid (below_step HW.out hB1); have m0 := (hB1.cell (p := ⟨bq, oq + 1, none⟩) q1).trans m0; have m1 := (hB1.cell (p := ⟨bl, off + j * 2, none⟩) q2).trans m1; have m2 := (hB1.cell (p := ⟨bl, off + j * 2 + 1, none⟩) q2).trans m2; have q1 := Nat.lt_of_lt_of_le q1 hB1.size; have q2 := Nat.lt_of_lt_of_le q2 hB1.size; have q3 := Nat.lt_of_lt_of_le q3 hB1.size)))
              all_goals first
                | (obtain ⟨W1, hW1, HW, HG, HL⟩ : ∃ W1, w1.alloc (.cells #[.int .i64 a1, .int .i64 b1, .int .i64 d1] 24) = W1 ∧ Hid (Below w.heap.size w W1) ∧ Hid (Rt W1 w.heap.size (.int .i64 0) (.int .i64 0)) ∧ Hid (Lt W1 w1.heap.size (.int .i64 a1) (.int .i64 b1) (.int .i64 d1)) :=
                    ⟨_, rfl, Lib.hid (HW.out.alloc HW.out.size _), Lib.hid (HG.out.alloc _), Lib.hid (Lt.new _ _ _ _)⟩
                   rw [hW1]
                   have m0 : W1.cell? ⟨bq, oq + 1, none⟩ = some (.int .i64 j) := by rw [← hW1]; exact (World.cell?_alloc_lt _ _ _ q1).trans m0
                   have m1 : W1.cell? ⟨bl, off + j * 2, none⟩ = some (.int .i64 xj) := by rw [← hW1]; exact (World.cell?_alloc_lt _ _ _ q2).trans m1
                   have m2 : W1.cell? ⟨bl, off + j * 2 + 1, none⟩ = some (.int .i64 yj) := by rw [← hW1]; exact (World.cell?_alloc_lt _ _ _ q2).trans m2
                   have hsz1 : w1.heap.size ≤ W1.heap.size := by rw [← hW1]; simp
                   clear hW1
                   obtain ⟨gl, hgl⟩ : ∃ g, w1.heap.size = g := ⟨_, rfl⟩
                   rw [hgl] at HL ⊢
                   have n3 : gl ≠ w.heap.size := by omega)
                | (obtain ⟨W1, hW1, HW, HG, HL⟩ : ∃ W1, ((w1.setCell ⟨W2.heap.size, 0, none⟩ (.int .i64 a1)).setCell ⟨W2.heap.size, 1, none⟩ (.int .i64 b1)).setCell ⟨W2.heap.size, 2, none⟩ (.int .i64 d1) = W1 ∧ Hid (Below w.heap.size w W1) ∧ Hid (Rt W1 w.heap.size (.int .i64 0) (.int .i64 0)) ∧ Hid (Lt W1 W2.heap.size (.int .i64 a1) (.int .i64 b1) (.int .i64 d1)) :=
                    ⟨_, rfl, Lib.hid (st3_below HW.out (by omega)), Lib.hid (HG.out.other3 k3), Lib.hid (Lt.set hz)⟩
                   rw [hW1]
                   have m0 : W1.cell? ⟨bq, oq + 1, none⟩ = some (.int .i64 j) := by rw [← hW1]; exact cell_st3 m0 k1
                   have m1 : W1.cell? ⟨bl, off + j * 2, none⟩ = some (.int .i64 xj) := by rw [← hW1]; exact cell_st3 m1 k2
                   have m2 : W1.cell? ⟨bl, off + j * 2 + 1, none⟩ = some (.int .i64 yj) := by rw [← hW1]; exact cell_st3 m2 k2
                   have hsz1 : w1.heap.size ≤ W1.heap.size := by rw [← hW1]; simp
                   clear hW1 z0 z1 z2 zf0 zf1 zf2 hz
                   obtain ⟨gl, hgl⟩ : ∃ g, W2.heap.size = g := ⟨_, rfl⟩
                   rw [hgl] at HL ⊢
                   have n3 : gl ≠ w.heap.size := by omega)
              all_goals
                clear hgl d0 d2 a0 a2 b0 b2
                have q1 : bq < W1.heap.size := by omega
                have q2 : bl < W1.heap.size := by omega
                have q4 : gl < W1.heap.size := HL.out.lt
                have x0 := HL.out.c0
                have x1 := HL.out.c1
                have x2 := HL.out.c2
                have g0 := HG.out.c0
                have g1 := HG.out.c1
                have gf0 := HG.out.f 0
                have gf1 := HG.out.f 1
                clear hsz1 hB0 hB1
                go_wp2
                go_region_held3 (fun w' => w'.cell? ⟨bq, oq + 1, none⟩ = some (.int .i64 j) ∧ w'.cell? ⟨bl, off + j * 2, none⟩ = some (.int .i64 xj) ∧ w'.cell? ⟨bl, off + j * 2 + 1, none⟩ = some (.int .i64 yj) ∧ w'.cell? ⟨gl, 0, none⟩ = some (.int .i64 a1) ∧ w'.cell? ⟨gl, 1, none⟩ = some (.int .i64 b1) ∧ w'.cell? ⟨gl, 2, none⟩ = some (.int .i64 d1))
                  ((first
                  | with_reducible exact ⟨m0, m1, m2, x0, x1, x2⟩
                  | exact ⟨m0, m1, m2, x0, x1, x2⟩
                  | exact ⟨cell_st2 m0 n1, cell_st2 m1 n2, cell_st2 m2 n2, cell_st2 x0 n3, cell_st2 x1 n3, cell_st2 x2 n3⟩
                  | exact trivial))
                  ((first
                  | (go_at_call 61; refine (HRS.out _).mono ?_; rintro e w2 ⟨rfl, hBw2⟩; have hBw2 : Below W1.heap.size W1 w2 := (by first | exact hBw2 | exact ((Below.refl W1.heap.size W1).drew.trans hBw2)); have m0 := (hBw2.cell (p := ⟨bq, oq + 1, none⟩) q1).trans m0; have m1 := (hBw2.cell (p := ⟨bl, off + j * 2, none⟩) q2).trans m1; have m2 := (hBw2.cell (p := ⟨bl, off + j * 2 + 1, none⟩) q2).trans m2; have x0 := (hBw2.cell (p := ⟨gl, 0, none⟩) q4).trans x0; have x1 := (hBw2.cell (p := ⟨gl, 1, none⟩) q4).trans x1; have x2 := (hBw2.cell (p := ⟨gl, 2, none⟩) q4).trans x2; have HG := Lib.hid (HG.out.below hBw2); have g0 := HG.out.c0; have g1 := HG.out.c1; have gf0 := HG.out.f 0; have gf1 := HG.out.f 1; have HW : Hid (Below w.heap.size w _) := Lib.hid (below_step HW.out hBw2); have q1 := Nat.lt_of_lt_of_le q1 hBw2.size; have q2 := Nat.lt_of_lt_of_le q2 hBw2.size; have q4 := Nat.lt_of_lt_of_le q4 hBw2.size)
                  | (go_at_call 93; refine (HSZ.out _).mono ?_; rintro e w' ⟨rfl, rfl⟩)
                  | (go_at_call 55; refine (HLO.out _).mono ?_; rintro e w3 ⟨rfl, hBw3⟩; have hBw3 : Below w2.heap.size w2 w3 := (by first | exact hBw3 | exact ((Below.refl w2.heap.size w2).drew.trans hBw3)); have m0 := (hBw3.cell (p := ⟨bq, oq + 1, none⟩) q1).trans m0; have m1 := (hBw3.cell (p := ⟨bl, off + j * 2, none⟩) q2).trans m1; have m2 := (hBw3.cell (p := ⟨bl, off + j * 2 + 1, none⟩) q2).trans m2; have x0 := (hBw3.cell (p := ⟨gl, 0, none⟩) q4).trans x0; have x1 := (hBw3.cell (p := ⟨gl, 1, none⟩) q4).trans x1; have x2 := (hBw3.cell (p := ⟨gl, 2, none⟩) q4).trans x2; have HG := Lib.hid (HG.out.below hBw3); have g0 := HG.out.c0; have g1 := HG.out.c1; have gf0 := HG.out.f 0; have gf1 := HG.out.f 1; have HW : Hid (Below w.heap.size w _) := Lib.hid (below_step HW.out hBw3); have q1 := Nat.lt_of_lt_of_le q1 hBw3.size; have q2 := Nat.lt_of_lt_of_le q2 hBw3.size; have q4 := Nat.lt_of_lt_of_le q4 hBw3.size)))
              all_goals
                go_wp2
                exact bodyPost_ret (v := .tuple #[.agg #[.int .i64 rn, .int .i64 rd], .bool true]) (by simp [results, Try.results79, go_sem, g0, g1]) rfl ⟨tw_yes HF.out HT3.out.1 HT3.out.2, by
                  repeat (first | with_reducible exact HW.out | exact Below.drew HW.out | exact below_drewN HW.out _ | refine Below.drew ?_ | refine Below.setCell ?_ (Nat.le_refl w.heap.size) _)⟩
            · have t1 : decide (xj < xk) = false := decide_eq_false hx2
              have HN : Hid (wiB ms [(i : Int), (j : Int), (k : Int)] = false) := Lib.hid (by rw [HE.out, t0, t1]; rfl)
              clear hx hx2 hcells hlc hpi hpj hpk ei ej ek li lj lk pi pj pk
              go_wp2
              go_quiet (fail)
              go_wp2
              go_quiet (fail)
              go_wp2
              exact bodyPost_ret (v := .tuple #[.agg #[.int .i64 0, .int .i64 0], .bool false]) (by simp [results, Try.results79, go_sem, g0, g1]) rfl ⟨tw_no HN.out, by
                repeat (first | with_reducible exact HW.out | exact Below.drew HW.out | exact below_drewN HW.out _ | refine Below.drew ?_ | refine Below.setCell ?_ (Nat.le_refl w.heap.size) _)⟩
          · have t0 : decide (xi < xj) = false := decide_eq_false hx
            have HN : Hid (wiB ms [(i : Int), (j : Int), (k : Int)] = false) := Lib.hid (by rw [HE.out, t0]; rfl)
            clear hx hcells hlc hpi hpj hpk ei ej ek li lj lk pi pj pk
            go_wp2
            go_quiet (fail)
            go_wp2
            go_quiet (fail)
            go_wp2
            exact bodyPost_ret (v := .tuple #[.agg #[.int .i64 0, .int .i64 0], .bool false]) (by simp [results, Try.results79, go_sem, g0, g1]) rfl ⟨tw_no HN.out, by
              repeat (first | with_reducible exact HW.out | exact Below.drew HW.out | exact below_drewN HW.out _ | refine Below.drew ?_ | refine Below.setCell ?_ (Nat.le_refl w.heap.size) _)⟩
        · have t3 : ((l.length : Int) == 3) = false := by simp; omega
          have HN : Hid (wiB ms l = false) := Lib.hid (by rw [wiB, wiS_other h2 h3, Bool.and_false])
          clear h2 h3
          go_wp2
          go_quiet (fail)
          go_wp2
          go_quiet (fail)
          go_wp2
          exact bodyPost_ret (v := .tuple #[.agg #[.int .i64 0, .int .i64 0], .bool false]) (by simp [results, Try.results79, go_sem, g0, g1]) rfl ⟨tw_no HN.out, by
            repeat (first | with_reducible exact HW.out | exact Below.drew HW.out | exact below_drewN HW.out _ | refine Below.drew ?_ | refine Below.setCell ?_ (Nat.le_refl w.heap.size) _)⟩
end Go.Proofs.Ytoilbgngefleiaa
