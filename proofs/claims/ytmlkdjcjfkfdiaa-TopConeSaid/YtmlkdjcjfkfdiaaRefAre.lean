/-
  Contracts: once, are, AreLayers (firnref02).
-/
import Derived.Test.YtmlkdjcjfkfdiaaAre
namespace Go.Proofs.Ytmlkdjcjfkfdiaa
open Go.RowKit Go.Shelf

def cntL (n : Nat) (F : List Int) : List Int := (allL n).map fun a => (F.count a : Int)
theorem cnt_get {n k : Nat} {F : List Int} (h : k < n) : (cntL n F)[k]? = some (F.count (k : Int) : Int) := by rw [cntL, List.getElem?_map, allL_get h]; rfl
theorem cnt_len (n : Nat) (F : List Int) : (cntL n F).length = n := by rw [cntL, List.length_map, allL_len]
theorem cnt_set {n j : Nat} {F : List Int} (h : j < n) : (cntL n F).set j ((F.count (j : Int) : Int) + 1) = cntL n (F ++ [(j : Int)]) := by
  apply List.ext_getElem?
  intro i
  by_cases hi : i < n
  · rw [cnt_get hi, List.getElem?_set, List.count_append]
    by_cases e : j = i
    · subst e
      rw [if_pos rfl, if_pos (by rw [cnt_len]; exact h)]
      simp
    · have h2 : ((j : Int) == (i : Int)) = false := by rw [beq_eq_false_iff_ne]; omega
      rw [if_neg e, cnt_get hi, List.count_cons, h2]
      simp
  · rw [List.getElem?_eq_none (by rw [List.length_set, cnt_len]; omega), List.getElem?_eq_none (by rw [cnt_len]; omega)]
theorem made_cnt (n : Nat) : (madeCells (Value.int .i64 0).cells (n * 1)).toList = (cntL n []).map (Value.int .i64) := by
  rw [made_fill, fill_zero]
  congr 1
  apply List.ext_getElem?
  intro i
  by_cases hi : i < n
  · rw [cnt_get hi, List.getElem?_replicate, if_pos hi]
    rfl
  · rw [List.getElem?_eq_none (by simp; omega), List.getElem?_eq_none (by rw [cnt_len]; omega)]
theorem once_no {n k : Nat} {F : List Int} (hk : k < n) (h : F.count (k : Int) ≠ 1) : false = onceC n F := by
  rw [eq_comm, Bool.eq_false_iff]
  exact fun e => h (onceC_iff.1 e k hk)

set_option maxRecDepth 100000 in
set_option maxHeartbeats 2000000 in
theorem refOnce_any (ms : List (Int × Int)) (A : Option Addr) (c : Nat) (T : List (List Int)) (A2 : Option Addr) (c2 : Nat) (w : World) (hn : ms.length ≤ 1000) (hI : Tabs w A2 T) (hT : T.length ≤ 50) (ha : ∀ z ∈ T, islB ms z = true) :
    Calls Try.prog 109 #[.slice A ms.length c, .slice A2 T.length c2] w fun e w' => e = .returned (.bool (onceC ms.length T.flatten)) ∧ Below w.heap.size w w' := by
  obtain ⟨i0, hi0, hz0, hz1, hz2⟩ := info_parts int_info
  have HZ2 := Lib.hid hz2
  have H := Lib.hid (And.intro hI ha)
  obtain ⟨n, hnn⟩ : ∃ n, n = ms.length := ⟨_, rfl⟩
  have HN := Lib.hid hnn
  rw [← hnn] at hn ⊢
  clear hz2 hI ha hnn
  go_enter Try.func109, Try.ntmps109
  go_wp2_with (at_make; refine wpList_make_full _ rfl _ _ 28 rfl w.heap.size 3 i0 (.int .i64 0) 1 Try.underlying28 hi0 hz0 hz1 _ _ _ _ n rfl rfl rfl rfl (by rw [HZ2.out]; omega) (by unfold maxLen; omega) (Nat.le_refl _) ?_; intro w1 hown1 hg1)
  have hB1 : Below w.heap.size w w1 := (Below.refl _ _).grown hg1 (Nat.le_refl _) (by simp)
  rw [made_cnt] at hown1
  have HO1 := Lib.hid hown1
  have HB1 := Lib.hid hB1
  clear hg1 HZ2 hz0 hz1 hi0 hown1 hB1
  go_loopw [6] (fun i wr => ∃ k : Nat, k ≤ T.length ∧ i = .int .i64 k ∧ Hid (wr.ownsRow w.heap.size 3 1 (.slice (some ⟨w.heap.size, 0, none⟩) n n) n ((cntL n (T.take k).flatten).map (Value.int .i64))) ∧ Hid (Below w.heap.size w wr)) (fun i _ => T.length - (intOf i).toNat)
  case atStart => exact ⟨0, Nat.zero_le _, rfl, HO1, HB1⟩
  case round =>
    clear HO1 HB1
    obtain ⟨k, hk, rfl, HO, HB⟩ := hrel
    rename World => wr
    by_cases hlt : k < T.length
    · obtain ⟨b, o, e, hbk, hc⟩ := H.out.1 (by omega)
      subst e
      obtain ⟨l, hz⟩ := getT_of_lt hlt
      obtain ⟨X, cx, f1, hX⟩ := hc k l hz
      have HZ := Lib.hid hz
      have HX := Lib.hid hX
      have HF1 := Lib.hid f1
      obtain ⟨hll0, hin0⟩ := isl_in (H.out.2 l (List.mem_of_getElem? hz))
      have hll : l.length ≤ 50 := hll0
      have HIN := Lib.hid hin0
      have HFL := Lib.hid (show ((T.take k).flatten).length ≤ 2500 by have := len_flat (ms := ms) (T.take k) (fun z hz => H.out.2 z (List.mem_of_mem_take hz)); rw [List.length_take] at this; omega)
      clear hc f1 hX hz hin0 hll0
      go_wp2
      go_loopw [7] (fun i wr2 => ∃ k2 : Nat, k2 ≤ l.length ∧ i = .int .i64 k2 ∧ Hid (wr2.ownsRow w.heap.size 3 1 (.slice (some ⟨w.heap.size, 0, none⟩) n n) n ((cntL n ((T.take k).flatten ++ l.take k2)).map (Value.int .i64))) ∧ Hid (Below w.heap.size w wr2)) (fun i _ => l.length - (intOf i).toNat)
      case atStart => exact ⟨0, Nat.zero_le _, rfl, by rw [List.take_zero, List.append_nil]; exact HO, HB⟩
      case round =>
        clear HO HB
        obtain ⟨k2, hk2, rfl, HO, HB⟩ := hrel
        rename World => wr2
        have f0 := (HB.out.cell (p := ⟨b, o + k, none⟩) hbk).trans HF1.out
        by_cases hlt2 : k2 < l.length
        · obtain ⟨ad, x, rfl, hbk2, hx, g1⟩ := (HX.out.below HB.out).ints.get hlt2
          obtain ⟨hx0, hx1⟩ := HIN.out x (List.mem_of_getElem? hx.out)
          obtain ⟨j, rfl⟩ := Int.eq_ofNat_of_zero_le hx0
          have hj : j < n := by have := HN.out; omega
          have hc := HO.out.cellAt j (by omega)
          rw [List.getElem?_map, cnt_get hj, Option.map_some] at hc
          have HST := Lib.hid (cnt_set (F := (T.take k).flatten ++ l.take k2) hj)
          have hcnt : ((T.take k).flatten ++ l.take k2).count (j : Int) ≤ 2550 := by
            refine Nat.le_trans List.count_le_length ?_
            have := HFL.out
            rw [List.length_append, List.length_take]
            omega
          obtain ⟨m, hm⟩ : ∃ m, m = ((T.take k).flatten ++ l.take k2).count (j : Int) := ⟨_, rfl⟩
          rw [← hm] at hc hcnt HST
          have hf := HO.out.frozenAt j
          have HS2 := Lib.hid (HO.out.stored j (Value.int .i64 ((m : Int) + 1))).1
          have HBS := Lib.hid (HB.out.setCell (p := ⟨w.heap.size, j, none⟩) (Nat.le_refl _) (Value.int .i64 ((m : Int) + 1)))
          clear hm hx0 hx1
          go_wp2
          go_roundw
          case rel =>
            refine ⟨k2 + 1, by omega, by go_num, ?_, HBS⟩
            have := HS2.out
            rw [← List.map_set, HST.out, List.append_assoc, ← take_snoc hx.out] at this
            exact this
          case measure => simp [intOf]; omega
        · obtain rfl : k2 = l.length := by omega
          have HO2 : Hid (wr2.ownsRow w.heap.size 3 1 (.slice (some ⟨w.heap.size, 0, none⟩) n n) n ((cntL n (T.take (k + 1)).flatten).map (Value.int .i64))) := by
            rw [flat_take HZ.out]
            have := HO.out
            rw [List.take_length] at this
            exact this
          go_wp2
          go_roundw
          case rel => exact ⟨k + 1, by omega, by go_num, HO2, HB⟩
          case measure => simp [intOf]; omega
    · obtain rfl : k = T.length := by omega
      rw [List.take_length] at HO
      go_wp2
      go_loop [8] (fun i => ∃ q : Nat, q ≤ n ∧ i = .int .i64 q ∧ Hid (∀ j : Nat, j < q → T.flatten.count (j : Int) = 1)) (fun i => n - (intOf i).toNat)
      case atStart => exact ⟨0, Nat.zero_le _, rfl, Lib.hid (fun j hj => absurd hj (Nat.not_lt_zero j))⟩
      case round =>
        obtain ⟨q, hq, rfl, hall⟩ := hrel
        by_cases hlt3 : q < n
        · have hc := HO.out.cellAt q (by omega)
          rw [List.getElem?_map, cnt_get hlt3, Option.map_some] at hc
          obtain ⟨m, hm⟩ : ∃ m, m = T.flatten.count (q : Int) := ⟨_, rfl⟩
          rw [← hm] at hc
          have HM := Lib.hid hm
          clear hm
          by_cases h1 : m = 1
          · subst h1
            have HA : Hid (∀ j : Nat, j < q + 1 → T.flatten.count (j : Int) = 1) := Lib.hid fun j hj => by
              rcases Nat.lt_or_ge j q with h2 | h2
              · exact hall.out j h2
              · obtain rfl : j = q := by omega
                exact HM.out.symm
            go_wp2
            go_round
            case rel => exact ⟨q + 1, by omega, by go_num, HA⟩
            case measure => simp [intOf]; omega
          · have t1 : ((m : Int) != 1) = true := by simp; omega
            have HR := Lib.hid (once_no (F := T.flatten) hlt3 (by rw [← HM.out]; exact h1))
            clear h1
            go_wp2
            go_ret
            exact ⟨ret_bool HR.out, HB.out⟩
        · obtain rfl : q = n := by omega
          have HR : Hid (true = onceC q T.flatten) := Lib.hid (onceC_iff.2 hall.out).symm
          clear hall
          go_wp2
          go_ret
          exact ⟨ret_bool HR.out, HB.out⟩

set_option maxRecDepth 100000 in
set_option maxHeartbeats 2000000 in
theorem refAre_any (ms : List (Int × Int)) (A : Option Addr) (c : Nat) (T : List (List Int)) (A2 : Option Addr) (c2 : Nat) (w : World) (h : Marks w A ms) (hv : vhB ms = true) (hI : Tabs w A2 T) (hl : T.length ≤ maxLen) :
    Calls Try.prog 81 #[.slice A ms.length c, .slice A2 T.length c2, .bool true] w fun e w' => e = .returned (.bool (aryB ms T)) ∧ Below w.heap.size w w' := by
  unfold maxLen at hl
  have hn2 := (vh_parts hv).2
  have H := Lib.hid (And.intro h (And.intro hv hI))
  clear h hv hI
  by_cases h50 : 50 < T.length
  · have t50 : decide (50 < (T.length : Int)) = true := decide_eq_true (by omega)
    have HR := Lib.hid (ary_many (ms := ms) h50)
    go_enter Try.func81, Try.ntmps81
    go_wp2
    go_ret
    exact ⟨ret_bool HR.out, Below.refl _ _⟩
  · have t50 : decide (50 < (T.length : Int)) = false := decide_eq_false (by omega)
    have hT50 : T.length ≤ 50 := by omega
    clear h50
    go_enter Try.func81, Try.ntmps81
    go_wp2
    go_loopw [7] (fun i wr => ∃ k : Nat, k ≤ T.length ∧ i = .int .i64 k ∧ Hid (∀ z ∈ T.take k, islB ms z = true) ∧ Hid (Below w.heap.size w wr)) (fun i _ => T.length - (intOf i).toNat)
    case atStart => exact ⟨0, Nat.zero_le _, rfl, Lib.hid (by intro z hz; simp at hz), Lib.hid (Below.refl _ _)⟩
    case round =>
      obtain ⟨k, hk, rfl, hall, HB⟩ := hrel
      rename World => wr
      by_cases hlt : k < T.length
      · obtain ⟨b, o, e, hbk, hc⟩ := H.out.2.2 (by omega)
        subst e
        obtain ⟨l, hz⟩ := getT_of_lt hlt
        obtain ⟨X, cx, f1, hX⟩ := hc k l hz
        have HZ := Lib.hid hz
        have f0 := (HB.out.cell (p := ⟨b, o + k, none⟩) hbk).trans f1
        have HF := Lib.hid (refIsLayer_any ms A c l X cx wr (H.out.1.below HB.out) H.out.2.1 (hX.below HB.out).ints (Nat.le_trans hX.le hX.cap))
        clear hc f1 hX hz
        cases hb : islB ms l with
        | false =>
          have HR := Lib.hid (ary_bad HZ.out hb)
          have HBB := Lib.hid hb
          clear hb
          go_wp2_with (go_at_call 86; refine HF.out.mono ?_; rintro e w2 ⟨he, hB2⟩; rw [HBB.out] at he; subst he)
          go_ret
          exact ⟨ret_bool HR.out, below_step HB.out hB2⟩
        | true =>
          have HBB := Lib.hid hb
          clear hb
          go_wp2_with (go_at_call 86; refine HF.out.mono ?_; rintro e w2 ⟨he, hB2⟩; rw [HBB.out] at he; subst he)
          go_roundw
          case rel => exact ⟨k + 1, by omega, by go_num, all_take HZ.out hall.out HBB.out, below_step HB.out hB2⟩
          case measure => simp [intOf]; omega
      · obtain rfl : k = T.length := by omega
        rw [List.take_length] at hall
        have HR := Lib.hid (ary_yes hT50 hall.out)
        have HF := Lib.hid (refOnce_any ms A c T A2 c2 wr (by omega) (H.out.2.2.below HB.out) hT50 hall.out)
        go_wp2_with (go_at_call 109; refine HF.out.mono ?_; rintro e w2 ⟨rfl, hB2⟩)
        go_ret
        exact ⟨ret_bool HR.out, below_step HB.out hB2⟩

set_option maxRecDepth 100000 in
theorem refConeAreLayers_any (ms : List (Int × Int)) (A : Option Addr) (c : Nat) (l : List (List Int)) (A2 : Option Addr) (c2 : Nat) (w : World) (h : Clk w A c ms) (hI : Tabs w A2 l) (hl : l.length ≤ maxLen) :
    Calls Try.prog 36 #[.slice A ms.length c, .slice A2 l.length c2] w fun e w' => ∃ (x : Bool) (E : Int), e = .returned (.tuple #[.bool x, .int .i64 E]) ∧ Below w.heap.size w w' ∧ Hid (x = aryF ms l ∧ E = hitsE ms) := by
  have H := Lib.hid (And.intro h hI)
  clear h hI
  cases hv : vhB ms with
  | true =>
    have HV := Lib.hid hv
    clear hv
    go_enter Try.func36, Try.ntmps36
    go_wp2_with (first
      | (go_at_call 22; refine (refValid_any ms A c _ H.out.1.marks H.out.1.len).mono ?_; rintro e w1 ⟨he, n1, rfl⟩; rw [HV.out] at he; subst he)
      | (go_at_call 81; refine (refAre_any ms A c l A2 c2 _ (H.out.1.marks.below (below_drewN (Below.refl _ _) _)) HV.out (H.out.2.below (below_drewN (Below.refl _ _) _)) hl).mono ?_; rintro e w2 ⟨rfl, hB2⟩))
    go_ret2
    exact ⟨_, _, rfl, below_step (below_drewN (Below.refl _ _) _) hB2, (aryF_yes HV.out).symm, (hitsE_yes HV.out).symm⟩
  | false =>
    have HV := Lib.hid hv
    clear hv
    go_enter Try.func36, Try.ntmps36
    go_wp2_with (go_at_call 22; refine (refValid_any ms A c _ H.out.1.marks H.out.1.len).mono ?_; rintro e w1 ⟨he, n1, rfl⟩; rw [HV.out] at he; subst he)
    go_ret2
    exact ⟨_, _, rfl, below_drewN (Below.refl _ _) _, (aryF_no HV.out).symm, (hitsE_no HV.out).symm⟩
end Go.Proofs.Ytmlkdjcjfkfdiaa
