/-
  Contracts: sums, chosen, leaning (track), slices.Clone, slices.Reverse at ints.
-/
import Derived.Test.YtoilbgngefleiaaBestM
import Derived.Test.YtoilbgngefleiaaBoxes
import Derived.RegionTactic
import Derived.Lib.SliceRun
namespace Go.Proofs.Ytoilbgngefleiaa
open Go.RowKit Go.Shelf

theorem int_take {ws : List Int} {k : Nat} {z : Int} (h : ws[k]? = some z) : (ws.take (k + 1)).sum = (ws.take k).sum + z := by rw [take_snoc h]; simp
def turK (ms : List (Int × Int)) (ws : List Int) (k : Nat) : Int := sm (fun i => ws.getD i 0 * (ms.getD i (0, 0)).1) (List.range k)
theorem tur_next {ms : List (Int × Int)} {ws : List Int} {k : Nat} {z x y : Int} (h : ws[k]? = some z) (h2 : ms[k]? = some (x, y)) : turK ms ws (k + 1) = turK ms ws k + z * x := by
  unfold turK
  rw [List.range_succ, sm_append, sm_cons, sm_nil, List.getD_eq_getElem?_getD, h, List.getD_eq_getElem?_getD, h2]; simp
theorem turK_all (ms : List (Int × Int)) (ws : List Int) : turK ms ws ws.length = turL ms ws := rfl

set_option maxRecDepth 100000 in
set_option maxHeartbeats 1000000 in
theorem sums_any (ms : List (Int × Int)) (ws : List Int) (A B : Option Addr) (c d : Nat) (w : World) (hA : Marks w A ms) (hB : Ints w B ws) (hl : ws.length ≤ ms.length) (hl2 : ms.length ≤ 12) (hx : ∀ q ∈ ms, -100 ≤ q.1 ∧ q.1 ≤ 100) (hw : ∀ z ∈ ws, -10000 ≤ z ∧ z ≤ 10000) :
    Calls Try.prog 76 #[.slice A ms.length c, .slice B ws.length d] w fun e w' => e = .returned (.tuple #[.int .i64 ws.sum, .int .i64 (turL ms ws)]) ∧ w = w' := by
  have HA := Lib.hid hA
  have HB := Lib.hid hB
  have HX := Lib.hid hx
  have HW := Lib.hid hw
  clear hA hB hx hw
  go_enter Try.func76, Try.ntmps76
  go_wp2
  go_loopw [4, 5, 10] (fun s t i wr => ∃ (k : Nat) (x y : Int), k ≤ ws.length ∧ i = .int .i64 k ∧ s = .int .i64 x ∧ t = .int .i64 y ∧ (-10000 * (k : Int) ≤ x ∧ x ≤ 10000 * k) ∧ (-1000000 * (k : Int) ≤ y ∧ y ≤ 1000000 * k) ∧ Hid (x = (ws.take k).sum ∧ y = turK ms ws k) ∧ wr = w) (fun _ _ i _ => ws.length - (intOf i).toNat)
  case atStart => exact ⟨0, 0, 0, Nat.zero_le _, rfl, rfl, rfl, by omega, by omega, Lib.hid ⟨rfl, rfl⟩, rfl⟩
  case round =>
    obtain ⟨k, x, y, hk, rfl, rfl, rfl, hx, hy, hs, rfl⟩ := hrel
    by_cases hlt : k < ws.length
    · obtain ⟨ad, z, rfl, hbk, hz, hc⟩ := HB.out.get hlt
      obtain ⟨bl, off, rfl, hbl, hcells⟩ := HA.out.open_ (show 0 < ms.length by omega)
      obtain ⟨px, py, hxy⟩ := getM_of_lt (show k < ms.length by omega)
      have c0 := (hcells k _ hxy).1
      have hkm : k < ms.length := by omega
      have pb := HX.out _ (List.mem_of_getElem? hxy)
      have zb := HW.out _ (List.mem_of_getElem? hz.out)
      have mb := mulBox (X := 10000) (Y := 100) zb.1 zb.2 pb.1 pb.2
      obtain ⟨m, hm⟩ : ∃ m, z * px = m := ⟨_, rfl⟩
      have HN := Lib.hid (And.intro (int_take hz.out) (tur_next hz.out hxy))
      dsimp only at mb
      rw [hm] at mb
      have HM := Lib.hid hm
      have w1 : IntKind.i64.wrap (z * px) = m := by rw [hm]; exact IntWalk.i64_in _ (by omega)
      clear hcells pb hm hxy
      go_wp2
      go_roundw
      case rel => exact ⟨k + 1, x + z, y + m, by omega, by go_num, rfl, rfl, by omega, by omega, Lib.hid ⟨by rw [HN.out.1, hs.out.1], by rw [HN.out.2, hs.out.2, HM.out]⟩, (by first | trivial | rfl)⟩
      case measure => simp [intOf]; omega
    · obtain rfl : k = ws.length := by omega
      have HE : Hid (ws.sum = x ∧ turL ms ws = y) := Lib.hid ⟨by rw [hs.out.1, List.take_length], hs.out.2.symm⟩
      go_wp2
      go_ret2
      exact ⟨(by rw [HE.out.1, HE.out.2]; rfl), rfl⟩

def chL (ms : List (Int × Int)) (fs : List Int) : List (Int × Int) := fs.map (ptK ms)
set_option maxRecDepth 100000 in
set_option maxHeartbeats 1000000 in
theorem chosen_any (ms : List (Int × Int)) (fs : List Int) (A B : Option Addr) (c d : Nat) (w : World) (hA : Marks w A ms) (hB : Ints w B fs) (hl : ms.length ≤ 12) (hl2 : fs.length ≤ 12) (hf : ∀ z ∈ fs, ∃ j : Nat, z = j ∧ j < ms.length) :
    Calls Try.prog 106 #[.slice A ms.length c, .slice B fs.length d] w fun e w' => ∃ (A' : Option Addr) (c' : Nat), e = .returned (.slice A' (chL ms fs).length c') ∧ Clk w' A' c' (chL ms fs) ∧ Below w.heap.size w w' := by
  have HA := Lib.hid hA
  have HB := Lib.hid hB
  have HF := Lib.hid hf
  clear hA hB hf
  obtain ⟨i0, hi0, hz0, hz1, hz2⟩ := info_parts pt_info
  have HZ2 := Lib.hid hz2
  clear hz2
  go_enter Try.func106, Try.ntmps106
  go_wp2_with (at_make; refine wpList_make_own _ rfl _ _ 22 rfl w.heap.size 54 i0 (.agg #[.int .i64 0, .int .i64 0]) 2 Try.underlying22 hi0 hz0 hz1 _ _ _ fs.length rfl rfl rfl (by rw [HZ2.out]; omega) (by unfold maxLen; omega) (Nat.le_refl _) ?_; intro w2 hown2 hg2)
  have hB2 : Below w.heap.size w w2 := (Below.refl _ _).grown hg2 (Nat.le_refl _) (by simp)
  clear hg2 HZ2 hz0 hz1 hi0
  go_loopw [5, 13] (fun v i wr => ∃ k : Nat, k ≤ fs.length ∧ i = .int .i64 k ∧ wr.ownsRow w.heap.size 54 2 v k ((chL ms (fs.take k)).flatMap mk2) ∧ Below w.heap.size w wr) (fun _ i _ => fs.length - (intOf i).toNat)
  case atStart => exact ⟨0, Nat.zero_le _, rfl, hown2, hB2⟩
  case round =>
    clear hown2 hB2
    obtain ⟨k, hk, rfl, hown, hB⟩ := hrel
    by_cases hlt : k < fs.length
    · obtain ⟨ad, z, rfl, hbk, hz, hc⟩ := HB.out.get hlt
      have hc := (hB.cell (p := ad.add k) (by rw [block_of_add]; exact hbk)).trans hc
      obtain ⟨j, hj, hjm⟩ := HF.out _ (List.mem_of_getElem? hz.out)
      subst hj
      obtain ⟨bl, off, rfl, hbl, hcells⟩ := HA.out.open_ (show 0 < ms.length by omega)
      obtain ⟨px, py, hxy⟩ := getM_of_lt hjm
      have c0 := (hB.cell (p := ⟨bl, off + j * 2, none⟩) hbl).trans (by simpa using (hcells j _ hxy).1)
      have c1 := (hB.cell (p := ⟨bl, off + j * 2 + 1, none⟩) hbl).trans (by simpa using (hcells j _ hxy).2)
      have HN : Hid (chL ms (fs.take (k + 1)) = chL ms (fs.take k) ++ [(px, py)]) := Lib.hid (by
        rw [take_snoc hz.out, chL, List.map_append, List.map_cons, List.map_nil]
        congr 2
        unfold ptK
        rw [Int.toNat_natCast, List.getD_eq_getElem?_getD, hxy]; rfl)
      have hge := hB.size
      clear hcells hxy
      go_wp2_with (at_builtin; refine wp_app_pt _ rfl (.tmp 17) (.tmp 22) rfl w.heap.size _ k _ px py rfl hown rfl (by omega) hge ?_; intro v2 w4 hown4 hB4)
      go_roundw
      case rel => exact ⟨k + 1, by omega, by go_num, by rw [HN.out]; exact hown4, hB.trans hB4⟩
      case measure => simp [intOf]; omega
    · obtain rfl : k = fs.length := by omega
      rw [List.take_length] at hown
      have hlen : (chL ms fs).length = fs.length := by simp [chL]
      rw [← hlen] at hown
      obtain ⟨A', c', rfl, hO⟩ := own_points hown
      have HO := Lib.hid hO
      clear hown hO hlen
      go_wp2
      go_ret
      exact ⟨A', c', rfl, HO.out, hB⟩

theorem getD_set (ys : List Int) (k j : Nat) (v : Int) (h : k < ys.length) : (ys.set k v).getD j 0 = if j = k then v else ys.getD j 0 := by
  rw [List.getD_eq_getElem?_getD, List.getElem?_set]
  by_cases e : k = j
  · subst e; rw [if_pos rfl, if_pos h, if_pos rfl]; rfl
  · rw [if_neg e, if_neg (fun e2 => e e2.symm), List.getD_eq_getElem?_getD]
theorem get_of_getD {ys : List Int} {k : Nat} (h : k < ys.length) : ys[k]? = some (ys.getD k 0) := by
  rw [List.getD_eq_getElem?_getD, List.getElem?_eq_getElem h]; rfl
theorem made_zero (n : Nat) : (madeCells (Value.int .i64 0).cells (n * 1)).toList = (List.replicate n (0 : Int)).map (Value.int .i64) := by
  rw [List.map_replicate, List.eq_replicate_iff]; simp [madeCells, Value.cells, Nat.mod_one]
theorem repl_getD (n j : Nat) : (List.replicate n (0 : Int)).getD j 0 = 0 := by
  rw [List.getD_eq_getElem?_getD, List.getElem?_replicate]; split <;> rfl
theorem ext_getD {xs ys : List Int} {n : Nat} (h1 : xs.length = n) (h2 : ys.length = n) (h : ∀ j, j < n → xs.getD j 0 = ys.getD j 0) : xs = ys := by
  apply List.ext_getElem?
  intro j
  by_cases hj : j < n
  · rw [get_of_getD (by omega), get_of_getD (by omega), h j hj]
  · rw [List.getElem?_eq_none (by omega), List.getElem?_eq_none (by omega)]
theorem map_getD (f : Nat → Int) {n j : Nat} (h : j < n) : ((List.range n).map f).getD j 0 = f j := by
  rw [List.getD_eq_getElem?_getD, List.getElem?_map, List.getElem?_range h]; rfl
def rightL (n : Nat) (s : Int) : List Int := (List.range n).map (lnA n s)
def leftL (n : Nat) (s : Int) : List Int := (List.range n).map fun j => lnA n s (n - 1 - j)
theorem right_len (n : Nat) (s : Int) : (rightL n s).length = n := by simp [rightL]
theorem left_len (n : Nat) (s : Int) : (leftL n s).length = n := by simp [leftL]

set_option maxRecDepth 100000 in
set_option maxHeartbeats 2000000 in
theorem leaning_any (n : Nat) (s : Int) (w : World) (hn : 1 ≤ n) (hn2 : n ≤ 12) (h0 : -(n : Int) ≤ s) (h1 : s ≤ n) :
    Calls Try.prog 103 #[.int .i64 n, .int .i64 s] w fun e w' => ∃ c' : Nat, e = .returned (.slice (some ⟨w.heap.size, 0, none⟩) n c') ∧ w'.ownsRow w.heap.size 3 1 (.slice (some ⟨w.heap.size, 0, none⟩) n c') n ((rightL n s).map (Value.int .i64)) ∧ Below w.heap.size w w' := by
  obtain ⟨i0, hi0, hz0, hz1, hz2⟩ := info_parts int_info
  have HZ2 := Lib.hid hz2
  clear hz2
  obtain ⟨p, hp⟩ : ∃ p : Nat, ((n : Int) - s).tdiv 2 = p := ⟨(((n : Int) - s).tdiv 2).toNat, by rw [Int.toNat_of_nonneg]; exact Int.tdiv_nonneg (by omega) (by omega)⟩
  obtain ⟨q, hq⟩ : ∃ q : Nat, ((n : Int) + s).tdiv 2 = q := ⟨(((n : Int) + s).tdiv 2).toNat, by rw [Int.toNat_of_nonneg]; exact Int.tdiv_nonneg (by omega) (by omega)⟩
  have hp2 : ((n : Int) - s) / 2 = p := by rw [← hp, Int.tdiv_eq_ediv_of_nonneg (by omega)]
  have hq2 : ((n : Int) + s) / 2 = q := by rw [← hq, Int.tdiv_eq_ediv_of_nonneg (by omega)]
  have hpq : p + q ≤ n := by omega
  have HE : Hid (∀ j, lnA n s j = if j < p then -1 else if n - 1 < j + q then (if j < n then 1 else lnA n s j) else (if j < n then 0 else lnA n s j)) := Lib.hid fun j => by
    by_cases hj : j < n
    · unfold lnA
      rw [hp2, hq2]
      (repeat' split) <;> omega
    · have : ¬ j < p := by omega
      rw [if_neg this, if_pos (by omega), if_neg hj]
  have w1 : IntKind.i64.wrap ((n : Int) - s) = (n : Int) - s := IntWalk.i64_in _ (by omega)
  have w2 : IntKind.i64.wrap ((n : Int) + s) = (n : Int) + s := IntWalk.i64_in _ (by omega)
  have w3 : IntKind.i64.wrap ((n : Int) - 1) = ((n - 1 : Nat) : Int) := by rw [IntWalk.i64_in _ (by omega)]; omega
  clear hp2 hq2
  go_enter Try.func103, Try.ntmps103
  go_wp2_with (at_make; refine wpList_make_full _ rfl _ _ 37 rfl w.heap.size 3 i0 (.int .i64 0) 1 Try.underlying37 hi0 hz0 hz1 _ _ _ _ n rfl rfl rfl rfl (by rw [HZ2.out]; omega) (by unfold maxLen; omega) (Nat.le_refl _) ?_; intro w2' hown2 hg2)
  have hB2 : Below w.heap.size w w2' := (Below.refl _ _).grown hg2 (Nat.le_refl _) (by simp)
  rw [made_zero] at hown2
  clear hg2 HZ2 hz0 hz1 hi0
  go_loopw [14] (fun i wr => ∃ (k : Nat) (ys : List Int), k ≤ p ∧ i = .int .i64 k ∧ wr.ownsRow w.heap.size 3 1 (.slice (some ⟨w.heap.size, 0, none⟩) n n) n (ys.map (Value.int .i64)) ∧ Hid (ys.length = n ∧ ∀ j, ys.getD j 0 = if j < k then -1 else 0) ∧ Below w.heap.size w wr) (fun i _ => p - (intOf i).toNat)
  case atStart => exact ⟨0, _, Nat.zero_le _, rfl, hown2, Lib.hid ⟨List.length_replicate, fun j => by rw [repl_getD]; simp⟩, hB2⟩
  case round =>
    clear hown2 hB2
    obtain ⟨k, ys, hk, rfl, hown, hy, hB⟩ := hrel
    by_cases hlt : k < p
    · have hkn : k < n := by omega
      have hc := hown.cellAt k (by omega)
      rw [List.getElem?_map, get_of_getD (by rw [hy.out.1]; omega), Option.map_some] at hc
      have hf := hown.frozenAt k
      go_wp2
      go_roundw
      case rel => exact ⟨k + 1, ys.set k (-1), by omega, by go_num, by rw [List.map_set]; exact (hown.stored k _).1, Lib.hid ⟨by rw [List.length_set]; exact hy.out.1, fun j => by
        rw [getD_set _ _ _ _ (by rw [hy.out.1]; exact hkn), hy.out.2 j]
        (repeat' split) <;> omega⟩, hB.setCell (Nat.le_refl _) _⟩
      case measure => simp [intOf]; omega
    · obtain rfl : k = p := by omega
      go_wp2
      rename World => wo
      go_loopw [25] (fun i wr => ∃ (m : Nat) (zs : List Int), m ≤ q ∧ i = .int .i64 m ∧ wr.ownsRow w.heap.size 3 1 (.slice (some ⟨w.heap.size, 0, none⟩) n n) n (zs.map (Value.int .i64)) ∧ Hid (zs.length = n ∧ ∀ j, zs.getD j 0 = if j < k then -1 else if n - 1 < j + m then (if j < n then 1 else 0) else 0) ∧ Below w.heap.size w wr) (fun i _ => q - (intOf i).toNat)
      case atStart => exact ⟨0, ys, Nat.zero_le _, rfl, hown, Lib.hid ⟨hy.out.1, fun j => by rw [hy.out.2 j]; (repeat' split) <;> omega⟩, hB⟩
      case round =>
        clear hown hy hB
        obtain ⟨m, zs, hm, rfl, hown, hy, hB⟩ := hrel
        by_cases hlt2 : m < q
        · obtain ⟨t, ht⟩ : ∃ t : Nat, t = n - 1 - m := ⟨_, rfl⟩
          have htn : t < n := by omega
          have hc := hown.cellAt t (by omega)
          rw [List.getElem?_map, get_of_getD (by rw [hy.out.1]; omega), Option.map_some] at hc
          have hf := hown.frozenAt t
          have w4 : IntKind.i64.wrap (((n - 1 : Nat) : Int) - (m : Int)) = (t : Int) := by rw [IntWalk.i64_in _ (by omega)]; omega
          have HT := Lib.hid ht
          clear ht
          go_wp2
          go_roundw
          case rel => exact ⟨m + 1, zs.set t 1, by omega, by go_num, by rw [List.map_set]; exact (hown.stored t _).1, Lib.hid ⟨by rw [List.length_set]; exact hy.out.1, fun j => by
            have := HT.out
            rw [getD_set _ _ _ _ (by rw [hy.out.1]; exact htn), hy.out.2 j]
            (repeat' split) <;> omega⟩, hB.setCell (Nat.le_refl _) _⟩
          case measure => simp [intOf]; omega
        · obtain rfl : m = q := by omega
          have HL : Hid (zs = rightL n s) := Lib.hid (ext_getD hy.out.1 (right_len n s) fun j hj => by
            rw [hy.out.2 j, rightL, map_getD _ hj, HE.out j]
            (repeat' split) <;> first | rfl | omega)
          go_wp2
          go_ret
          exact ⟨n, rfl, by rw [← HL.out]; exact hown, hB⟩

theorem nil_ints (w : World) (a : Option Addr) (n c : Nat) : (binOp .eql 37 (.slice a n c) (.slice none 0 0)).run Try.prog w = .ok (.bool a.isNone) w :=
  Lib.run_eql_slice_nil w 37 3 a n c 0 0 Try.underlying37
theorem own_empty (w : World) : (w.alloc (.cells #[] 3)).ownsRow w.heap.size 3 1 (.slice (some ⟨w.heap.size, 0, none⟩) 0 0) 0 (([] : List Int).map (Value.int .i64)) :=
  ⟨rfl, .inr ⟨w.heap.size, 0, _, rfl, Nat.le_refl _, heap_alloc_new w _, Nat.le_refl _, Nat.zero_le _, rfl, rfl⟩⟩
theorem own_form {w : World} {base n : Nat} {v : Value} {xs : List Int} (h : w.ownsRow base 3 1 v n (xs.map (Value.int .i64))) (hn : 0 < n) : ∃ g c, v = .slice (some ⟨g, 0, none⟩) n c ∧ base ≤ g ∧ g < w.heap.size := by
  obtain ⟨g, cap, hv, hb, hlt⟩ := h.form hn
  exact ⟨g, cap, hv, hb, hlt⟩
set_option maxRecDepth 100000 in
set_option maxHeartbeats 1000000 in
theorem clone_own (zs : List Int) (A : Option Addr) (c : Nat) (w : World) (h : Ints w A zs) (hn : 0 < zs.length) (hl : zs.length ≤ 1000) :
    Calls Try.prog 104 #[.slice A zs.length c] w fun e w' => ∃ g c', e = .returned (.slice (some ⟨g, 0, none⟩) zs.length c') ∧ w'.ownsRow w.heap.size 3 1 (.slice (some ⟨g, 0, none⟩) zs.length c') zs.length (zs.map (Value.int .i64)) ∧ Below w.heap.size w w' := by
  obtain ⟨i0, hi0, hz0, hz1, hz2⟩ := info_parts int_info
  obtain ⟨b, o, rfl, hb, hc⟩ := h.open_ hn
  have HC : Hid (∀ j u, (zs.map (Value.int .i64))[j]? = some u → (w.alloc (.cells #[] 3)).cell? ((⟨b, o, none⟩ : Addr).add j) = some u) := Lib.hid (by
    intro j u hj
    rw [List.getElem?_map] at hj
    cases hz : zs[j]? with
    | none => rw [hz] at hj; cases hj
    | some z =>
      rw [hz] at hj
      cases hj
      rw [add_mk, World.cell?_alloc_lt _ _ _ hb]
      exact hc j z hz)
  clear hc
  have HI := Lib.hid (And.intro hi0 (And.intro hz0 (And.intro hz1 hz2)))
  clear hi0 hz0 hz1 hz2
  have HNIL := nil_ints w (some ⟨b, o, none⟩) zs.length c
  rw [show (some (⟨b, o, none⟩ : Addr)).isNone = false from rfl] at HNIL
  go_enter Try.func104, Try.ntmps104
  go_wp2_with (at_builtin; refine wpList_append_own _ rfl (.tmp 5) (.tmp 6) 37 rfl w.heap.size 3 i0 (.int .i64 0) 1 8 Try.underlying37 HI.out.1 HI.out.2.1 HI.out.2.2.1 HI.out.2.2.2 rfl (by decide) _ 0 _ rfl (own_empty w) ⟨b, o, none⟩ zs.length c (zs.map (Value.int .i64)) rfl (by simp) HC.out (by intro u hu; obtain ⟨z, _, rfl⟩ := List.mem_map.1 hu; rfl) (by unfold maxLen; omega) (by omega) (by simp) ?_; intro v2 w2 hown2 hg2 hat2)
  go_ret
  have hB2 : Below w.heap.size w w2 := ((Below.refl _ w).alloc (Nat.le_refl _) _).grown hg2 (by simp) (by intro k hk; cases hk; exact Nat.le_refl _)
  have hown3 : w2.ownsRow w.heap.size 3 1 v2 zs.length (zs.map (Value.int .i64)) := by simpa using hown2
  obtain ⟨g, c', rfl, _, _⟩ := own_form hown3 hn
  exact ⟨g, c', rfl, hown3, hB2⟩

set_option maxRecDepth 100000 in
set_option maxHeartbeats 2000000 in
theorem reverse_own (xs : List Int) (n gb cap base : Nat) (w : World) (hn1 : 1 ≤ n) (hn : n ≤ 12) (hl : xs.length = n) (_ : base ≤ w.heap.size)
    (hown : w.ownsRow base 3 1 (.slice (some ⟨gb, 0, none⟩) n cap) n (xs.map (Value.int .i64))) :
    Calls Try.prog 105 #[.slice (some ⟨gb, 0, none⟩) n cap] w fun e w' => e = .returned (.tuple #[]) ∧ ∃ ys : List Int, w'.ownsRow base 3 1 (.slice (some ⟨gb, 0, none⟩) n cap) n (ys.map (Value.int .i64)) ∧ Below base w w' ∧ Hid (ys.length = n ∧ ∀ p, p < n → ys.getD p 0 = xs.getD (n - 1 - p) 0) := by
  have HO := Lib.hid hown
  have hge : base ≤ gb := (hown.lt gb rfl).1
  have HX := Lib.hid hl
  have w1 : IntKind.i64.wrap ((n : Int) - 1) = ((n - 1 : Nat) : Int) := by rw [IntWalk.i64_in _ (by omega)]; omega
  clear hown hl
  go_enter Try.func105, Try.ntmps105
  go_wp2
  go_loopw [2, 3] (fun i j wr => ∃ (k m : Nat) (ys : List Int), k ≤ n ∧ i = .int .i64 k ∧ j = .int .i64 ((m : Int) - 1) ∧ Hid (m + k = n) ∧ m ≤ n ∧ wr.ownsRow base 3 1 (.slice (some ⟨gb, 0, none⟩) n cap) n (ys.map (Value.int .i64)) ∧ Hid (ys.length = n ∧ ∀ p, p < n → ys.getD p 0 = if p < k ∨ n - 1 - p < k then xs.getD (n - 1 - p) 0 else xs.getD p 0) ∧ Below base w wr) (fun i _ _ => n - (intOf i).toNat)
  case atStart => exact ⟨0, n, xs, Nat.zero_le _, rfl, by simp <;> omega, Lib.hid (by omega), Nat.le_refl _, HO.out, Lib.hid ⟨HX.out, fun p hp => by rw [if_neg (by omega)]⟩, Below.refl _ _⟩
  case round =>
    obtain ⟨k, m, ys, hk, rfl, rfl, hm, hmn, hown, hy, hB⟩ := hrel
    have hmk := hm.out
    by_cases hlt : (k : Int) < (m : Int) - 1
    · have t1 : decide ((k : Int) < (m : Int) - 1) = true := decide_eq_true hlt
      obtain ⟨q, hq⟩ : ∃ q : Nat, m = q + 1 := ⟨m - 1, by omega⟩
      subst hq
      have e1 : ((q + 1 : Nat) : Int) - 1 = (q : Int) := by omega
      rw [e1] at t1 hlt ⊢
      have hqn : q < n := by omega
      have hkn : k < n := by omega
      have c1 := hown.cellAt q (by omega)
      have c0 := hown.cellAt k (by omega)
      rw [List.getElem?_map, get_of_getD (by rw [hy.out.1]; omega), Option.map_some] at c1 c0
      have hf1 := hown.frozenAt q
      have hf0 := hown.frozenAt k
      obtain ⟨a, ha⟩ : ∃ a, ys.getD k 0 = a := ⟨_, rfl⟩
      obtain ⟨b, hb⟩ : ∃ b, ys.getD q 0 = b := ⟨_, rfl⟩
      rw [ha] at c0
      rw [hb] at c1
      have HAB := Lib.hid (And.intro ha hb)
      have w2 : IntKind.i64.wrap ((q : Int) - 1) = (q : Int) - 1 := IntWalk.i64_in _ (by omega)
      clear ha hb hmk
      go_wp2
      go_region
      go_wp2
      go_roundw
      case rel => exact ⟨k + 1, q, (ys.set k b).set q a, by omega, by go_num, rfl, Lib.hid (by have := hm.out; omega), by omega, by rw [List.map_set, List.map_set]; exact (World.ownsRow.stored (World.ownsRow.stored hown k _).1 q _).1, Lib.hid ⟨by rw [List.length_set, List.length_set]; exact hy.out.1, fun p hp => by
        have hk2 := hm.out
        have hyl := hy.out.1
        rw [getD_set _ _ _ _ (by rw [List.length_set, hyl]; exact hqn), getD_set _ _ _ _ (by rw [hyl]; exact hkn), ← HAB.out.1, ← HAB.out.2, hy.out.2 p hp, hy.out.2 k hkn, hy.out.2 q hqn, if_neg (by omega : ¬ (k < k ∨ n - 1 - k < k)), if_neg (by omega : ¬ (q < k ∨ n - 1 - q < k))]
        by_cases p1 : p = q
        · subst p1; rw [if_pos rfl, if_pos (by omega), show n - 1 - p = k by omega]
        · rw [if_neg p1]
          by_cases p2 : p = k
          · subst p2; rw [if_pos rfl, if_pos (by omega), show n - 1 - p = q by omega]
          · rw [if_neg p2]
            by_cases p3 : p < k ∨ n - 1 - p < k
            · rw [if_pos p3, if_pos (by omega)]
            · rw [if_neg p3, if_neg (by omega)]⟩, (by first | exact Below.setCell (p := ⟨gb, q, none⟩) (Below.setCell (p := ⟨gb, k, none⟩) hB hge _) hge _ | exact Below.setCell (p := ⟨gb, q, none⟩) (Below.setCell (p := ⟨gb, k, none⟩) (below_drewN hB _) hge _) hge _)⟩
      case measure => simp [intOf]; omega
    · have t1 : decide ((k : Int) < (m : Int) - 1) = false := decide_eq_false hlt
      have HL := Lib.hid hlt
      clear hlt
      go_wp2
      go_end0
      refine ⟨rfl, ys, hown, hB, Lib.hid ⟨hy.out.1, fun p hp => ?_⟩⟩
      · show ys.getD p 0 = xs.getD (n - 1 - p) 0
        have hk2 := hm.out
        rw [hy.out.2 p hp]
        have := HL.out
        split
        · rfl
        · rw [show n - 1 - p = p by omega]
end Go.Proofs.Ytoilbgngefleiaa
