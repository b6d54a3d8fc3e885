/-
  Contract: slices.Repeat of one number.
-/
import Derived.Test.YtcmnjmhedmneiaaDoorRefWide
import Derived.Laws.CopyOwn
import Derived.Deep.RegionLaw
namespace Go.Proofs.YtcmnjmhedmneiaaDoor
open Go.RowKit Go.Shelf

theorem mul_any (x y : Nat) (hx : x < 18446744073709551616) (hy : y < 18446744073709551616) (w : World) :
    Calls Tryd.prog 99 #[.int .u64 x, .int .u64 y] w fun e w' => e = .returned (.tuple #[.int .u64 ((x * y / 18446744073709551616 : Nat) : Int), .int .u64 ((x * y % 18446744073709551616 : Nat) : Int)]) ∧ w' = w :=
  Any.bits_Mul { lays105 with } x y hx hy w
theorem mul_one_any (n : Nat) (hn : n ≤ 100) (w : World) :
    Calls Tryd.prog 99 #[.int .u64 1, .int .u64 n] w fun e w' => e = .returned (.tuple #[.int .u64 0, .int .u64 n]) ∧ w = w' := by
  refine (mul_any 1 n (by omega) (by omega) w).mono ?_
  rintro e w' ⟨rfl, rfl⟩
  rw [Nat.one_mul, Nat.div_eq_of_lt (by omega), Nat.mod_eq_of_lt (by omega)]
  exact ⟨rfl, rfl⟩
theorem int_size : (Tryd.prog.info? 3).map (·.size) = some 1 := by kernel_rfl
/-- Behind a copy of the first j behind the first k. -/
theorem four_splice {n k j : Nat} (h : k + j ≤ n) : splice ((fourL n k).map (Value.int .i64)) k ((List.replicate j (11 : Int)).map (Value.int .i64)) = (fourL n (k + j)).map (Value.int .i64) := by
  have e1 : (fourL n k).take k = List.replicate k 11 := by rw [fourL, List.take_append_of_le_length (by simp)]; simp
  have e2 : (fourL n k).drop (k + j) = List.replicate (n - (k + j)) 0 := by
    rw [fourL, List.drop_append, List.length_replicate, List.drop_of_length_le (by simp), List.nil_append, List.drop_replicate]
    congr 1; omega
  unfold splice
  rw [List.length_map, List.length_replicate, ← List.map_take, ← List.map_drop, e1, e2, ← List.map_append, ← List.map_append, fourL, ← List.append_assoc, List.replicate_append_replicate]
theorem full_row {w : World} {base g n : Nat} {e : TypeId} {xs : List Value} (h : w.ownsRow base e 1 (.slice (some ⟨g, 0, none⟩) n n) n xs) : w.heap[g]? = some (.cells xs.toArray e (0, 0)) := by
  rcases h.2 with ⟨h0, _⟩ | ⟨g', cap, cur, hv, _, hh, _, _, hs, ht⟩
  · cases h0
  · cases hv
    rw [Nat.mul_one] at hs ht
    rw [List.take_of_length_le (by rw [Array.length_toList, hs]; exact Nat.le_refl _)] at ht
    rw [hh, ← ht]
theorem row_full {w : World} {base g n : Nat} {e : TypeId} {xs : List Value} (hh : w.heap[g]? = some (.cells xs.toArray e (0, 0))) (hb : base ≤ g) (hl : xs.length = n) (hm : n ≤ maxLen) : w.ownsRow base e 1 (.slice (some ⟨g, 0, none⟩) n n) n xs :=
  ⟨by rw [hl, Nat.mul_one], .inr ⟨g, n, xs.toArray, rfl, hb, hh, Nat.le_refl _, hm, by simp [hl], by rw [Nat.mul_one]; exact List.take_of_length_le (by simp [hl])⟩⟩
theorem four_cell {w : World} {g n k j : Nat} (h : w.heap[g]? = some (.cells ((fourL n k).map (Value.int .i64)).toArray 3 (0, 0))) (hj : j < k) : w.cell? ⟨g, j, none⟩ = some (.int .i64 11) := by
  rw [cell_of_row _ g j _ _ (0, 0) h]
  have e : (fourL n k)[j]? = some 11 := by
    rw [fourL, List.getElem?_append_left (by simpa using hj), List.getElem?_replicate, if_pos hj]
  simp [e]
theorem eleven_one (j : Nat) : ∀ v ∈ (List.replicate j (11 : Int)).map (Value.int .i64), v.oneCell' = true := by
  intro v hv
  obtain ⟨x, _, rfl⟩ := List.mem_map.1 hv
  rfl
theorem eleven_at {j i : Nat} {v : Value} (h : ((List.replicate j (11 : Int)).map (Value.int .i64))[i]? = some v) : i < j ∧ v = .int .i64 11 := by
  rw [List.getElem?_map, List.getElem?_replicate] at h
  split at h
  · simp at h; exact ⟨by assumption, h.symm⟩
  · simp at h
section
variable {ops : Array Oper} {rest : List Oper} {o : Oper} {a : Act} {Q : Exit → Act → World → Prop} {K : Act → World → Prop} {E : Prop}
theorem goInt_eq (j : Nat) : goInt ((List.replicate j (11 : Int)).map (Value.int .i64)).length = .int .i64 j := by
  rw [List.length_map, List.length_replicate]; rfl
theorem wp_copy11 (w w0 : World) (hgd : o.guard = none) (d s : Operand) (ho : o.op = .call { callee := .builtin .copy, args := #[d, s], argTypes := #[22, 22] })
    (g n k j B : Nat) (ad : Addr) (dLen dCap sLen sCap : Nat) (hd : a.eval d = .slice (some ⟨g, k, none⟩) dLen dCap) (hs : a.eval s = .slice (some ad) sLen sCap)
    (hr : Hid (w.heap[g]? = some (.cells ((fourL n k).map (Value.int .i64)).toArray 3 (0, 0)))) (hj : j = Nat.min sLen dLen) (hkj : k + j ≤ n)
    (hsrc : ∀ i, i < j → w.cell? (ad.add i) = some (.int .i64 11)) (hb : Below B w0 w) (hB : B ≤ g)
    (h : ∀ w', Hid (w'.heap[g]? = some (.cells ((fourL n (k + j)).map (Value.int .i64)).toArray 3 (0, 0))) → Below B w0 w' → wpList Tryd.prog ops Q rest (a.put o.dst (.int .i64 j)) w') :
    wpList Tryd.prog ops Q (o :: rest) a w := by
  refine wpList_copy_splice hgd d s 22 22 ho 3 Tryd.underlying22 int_size _ _ _ _ _ _ hd hs g k ((fourL n k).map (Value.int .i64)) 3 hr.out ((List.replicate j (11 : Int)).map (Value.int .i64)) ?_ ?_ ?_ (eleven_one j) B w0 hb hB ?_
  · rw [List.length_map, List.length_replicate]; exact hj
  · intro _
    refine ⟨rfl, ad, rfl, fun i v hi => ?_⟩
    obtain ⟨h3, rfl⟩ := eleven_at hi
    exact hsrc i h3
  · rw [List.length_map, List.length_map, four_len (by omega), List.length_replicate]; exact hkj
  · intro w' hG hB'
    rw [goInt_eq]
    refine h w' ?_ hB'
    have h4 := hG.out
    rw [four_splice hkj] at h4
    exact h4
theorem step_copy11 (w w0 : World) (hgd : o.guard = none) (d s : Operand) (ho : o.op = .call { callee := .builtin .copy, args := #[d, s], argTypes := #[22, 22] })
    (g n k j B : Nat) (ad : Addr) (dLen dCap sLen sCap : Nat) (hd : a.eval d = .slice (some ⟨g, k, none⟩) dLen dCap) (hs : a.eval s = .slice (some ad) sLen sCap)
    (hr : Hid (w.heap[g]? = some (.cells ((fourL n k).map (Value.int .i64)).toArray 3 (0, 0)))) (hj : j = Nat.min sLen dLen) (hkj : k + j ≤ n)
    (hsrc : ∀ i, i < j → w.cell? (ad.add i) = some (.int .i64 11)) (hb : Below B w0 w) (hB : B ≤ g)
    (h : ∀ w', Hid (w'.heap[g]? = some (.cells ((fourL n (k + j)).map (Value.int .i64)).toArray 3 (0, 0))) → Below B w0 w' → K (a.put o.dst (.int .i64 j)) w') :
    if Region.wanted o (yielded ops a.tmps) = true then Oper.wp Tryd.prog o a w K Q else E := by
  refine step_copy_splice hgd d s 22 22 ho 3 Tryd.underlying22 int_size _ _ _ _ _ _ hd hs g k ((fourL n k).map (Value.int .i64)) 3 hr.out ((List.replicate j (11 : Int)).map (Value.int .i64)) ?_ ?_ ?_ (eleven_one j) B w0 hb hB ?_
  · rw [List.length_map, List.length_replicate]; exact hj
  · intro _
    refine ⟨rfl, ad, rfl, fun i v hi => ?_⟩
    obtain ⟨h3, rfl⟩ := eleven_at hi
    exact hsrc i h3
  · rw [List.length_map, List.length_map, four_len (by omega), List.length_replicate]; exact hkj
  · intro w' hG hB'
    rw [goInt_eq]
    refine h w' ?_ hB'
    have h4 := hG.out
    rw [four_splice hkj] at h4
    exact h4
end
set_option maxRecDepth 100000 in
set_option maxHeartbeats 500000 in
theorem repeat_any (n b : Nat) (w : World) (h1 : 1 ≤ n) (h2 : n ≤ 40) (hb : b < w.heap.size) (hc : w.cell? ⟨b, 0, none⟩ = some (.int .i64 11)) :
    Calls Tryd.prog 75 #[.slice (some ⟨b, 0, none⟩) 1 1, .int .i64 n] w fun e w' => ∃ (A' : Option Addr) (c' : Nat), e = .returned (.slice A' n c') ∧ Out w' A' c' (wdL (List.replicate n 4)) ∧ Below w.heap.size w w' := by
  obtain ⟨i0, hi0, hz0, hz1, hz2⟩ := info_parts int_info
  have HZ2 := Lib.hid hz2
  have u1 : decide ((9223372036854775807 : Int) < (n : Int)) = false := decide_eq_false (by omega)
  have HM := Lib.hid (mul_one_any n (by omega))
  have HC := Lib.hid hc
  clear hz2 hc
  go_enter Tryd.func75, Tryd.ntmps75
  go_wp2_with (first
    | (go_at_call 99; refine (HM.out _).mono ?_; rintro e w' ⟨rfl, rfl⟩)
    | (at_make; refine wpList_make_full _ rfl _ _ 22 rfl w.heap.size 3 i0 (.int .i64 0) 1 Tryd.underlying22 hi0 hz0 hz1 _ _ _ _ n rfl rfl rfl rfl (by rw [HZ2.out]; omega) (by unfold maxLen; omega) (Nat.le_refl _) ?_; intro w1 hown1 hg1; have hB1 : Below w.heap.size w w1 := (Below.refl _ _).grown hg1 (Nat.le_refl _) (by simp); rw [made_four] at hown1; have HR1 := Lib.hid (full_row hown1); clear hown1 hg1)
    | (refine wp_copy11 (o := ⟨some 33, _, _, _, _, _⟩) w1 w rfl (.tmp 31) (.tmp 32) rfl w.heap.size n 0 1 w.heap.size ⟨b, 0, none⟩ n n 1 1 rfl rfl HR1 (Nat.min_eq_left h1).symm (by omega) (fun i hi => by obtain rfl : i = 0 := (by omega); exact (hB1.cell (p := ⟨b, 0, none⟩) hb).trans HC.out) hB1 (Nat.le_refl _) ?_; intro w2 HG2 hB2))
  rw [Nat.zero_add] at HG2
  have HR2 := Lib.hid HG2.out
  clear HG2 HR1 hB1
  obtain ⟨g, hg⟩ : ∃ g, g = w.heap.size := ⟨_, rfl⟩
  have HGG := Lib.hid hg
  rw [← hg] at HR2 ⊢
  clear hg
  go_loopw [8] (fun i wr => ∃ k : Nat, 1 ≤ k ∧ k ≤ n ∧ i = .int .i64 k ∧ Hid (wr.heap[g]? = some (.cells ((fourL n k).map (Value.int .i64)).toArray 3 (0, 0))) ∧ Below w.heap.size w wr) (fun i _ => n - (intOf i).toNat)
  case atStart => exact ⟨1, Nat.le_refl _, h1, by first | rfl | simp [goInt], HR2, hB2⟩
  case round =>
    clear HR2 hB2
    obtain ⟨k, hk1, hk, rfl, hR, hB⟩ := hrel
    by_cases hlt : k < n
    · obtain ⟨j, hj⟩ : ∃ j, j = Nat.min k (n - k) := ⟨_, rfl⟩
      have hj1 : j ≤ k := by rw [hj]; exact Nat.min_le_left _ _
      have hj2 : j ≤ n - k := by rw [hj]; exact Nat.min_le_right _ _
      have hj3 : 1 ≤ j := by rw [hj]; exact Nat.le_min.2 ⟨hk1, by omega⟩
      have HJ := Lib.hid hj
      clear hj
      go_wp2
      go_region_law (refine step_copy11 (o := ⟨some 45, _, _, _, _, _⟩) _ w rfl (.tmp 41) (.tmp 44) rfl g n k j w.heap.size ⟨g, 0, none⟩ (n - k) (n - k) k n (by go_simp; try omega) (by go_simp; try omega) (by first | exact hR | exact Lib.hid hR.out) HJ.out (by omega) (fun i hi => by rw [add_mk, Nat.zero_add]; exact four_cell hR.out (by omega)) (by first | exact hB | exact hB.drew) (by rw [HGG.out]; exact Nat.le_refl _) ?_; intro w4 HG4 hB4)
      have hw4 := HG4
      have e9 : IntKind.i64.wrap ((k : Int) + (j : Int)) = (k : Int) + (j : Int) := IntWalk.i64_in _ (by omega)
      go_wp2
      exact ⟨⟨k + j, by omega, by omega, by omega, hw4⟩, by simp [intOf]; omega⟩
    · obtain rfl : k = n := by omega
      go_wp2
      go_ret
      rw [four_full] at hR
      have hlen : ((wdL (List.replicate k 4)).map (Value.int .i64)).length = k := by simp [wdL]
      have hown := row_full (base := w.heap.size) hR.out (by rw [HGG.out]; exact Nat.le_refl _) hlen (by unfold maxLen; omega)
      obtain ⟨A', c', e, hO⟩ := own_ints hown
      have e2 : (wdL (List.replicate k 4)).length = k := by simp [wdL]
      rw [e2] at e
      exact ⟨A', c', by rw [← e]; rfl, hO, hB⟩
end Go.Proofs.YtcmnjmhedmneiaaDoor
