/-
  Contract: on.
-/
import Derived.Test.YtnnfnphmieikmaaRefRing2
import Derived.Test.YtnnfnphmieikmaaOnM
namespace Go.Proofs.Ytnnfnphmieikmaa
open Go Go.RowKit Go.Shelf

theorem own_below {w w3 : World} {base : Nat} {e : TypeId} {size n : Nat} {v : Value} {xs : List Value} (h : w.ownsRow base e size v n xs) (hB : Below w.heap.size w w3) : w3.ownsRow base e size v n xs :=
  h.kept (World.grownBy.mk hB.os hB.tape hB.output hB.size (fun i hi _ => hB.block i hi) : World.grownBy _ w3 none) (by cases hh : Value.ownBlock v with | none => exact .inl rfl | some g => exact .inr (by simp))
theorem made_ints (n : Nat) : (madeCells (Value.int .i64 0).cells (n * 1)).toList = (List.replicate n (0 : Int)).map (Value.int .i64) := by
  rw [List.map_replicate, List.eq_replicate_iff]
  refine ⟨by simp [madeCells], fun b hb => ?_⟩
  simp only [madeCells, Value.cells] at hb
  simp at hb
  obtain ⟨i, _, rfl⟩ := hb
  simp [Nat.mod_one]
theorem getD_row {xs : List Int} {j : Nat} (h : j < xs.length) : (xs.map (Value.int .i64))[j]? = some (.int .i64 (xs.getD j 0)) := by
  rw [List.getElem?_map, List.getElem?_eq_getElem h, List.getD_eq_getElem?_getD, List.getElem?_eq_getElem h]; rfl
theorem own_drewN {w : World} {base : Nat} {e : TypeId} {size n : Nat} {v : Value} {xs : List Value} (h : w.ownsRow base e size v n xs) (m : Nat) : (w.drewN m).ownsRow base e size v n xs := h

theorem cell_set_same {w : World} {p : Addr} {u v : Value} (h : w.cell? p = some u) : (w.setCell p v).cell? p = some v := by
  first | exact World.cell?_setCell_same _ _ _ h | simp [h]
theorem cell_set1 (w : World) {g i : Nat} {u : Value} {p : Addr} (h : p.block ≠ g) : (w.setCell ⟨g, i, none⟩ u).cell? p = w.cell? p := World.cell?_setCell_other _ _ p u (by rintro rfl; exact h rfl)
set_option maxRecDepth 100000 in
set_option maxHeartbeats 400000 in
theorem on_any (k r : Nat) (hk : k < 5) (h1 : 1 ≤ r) (h2 : r ≤ 4 * 2 ^ k - 1) (w : World) :
    Calls Try.prog 86 #[.int .i64 (k : Int), .int .i64 (r : Int)] w fun e w' => ∃ A c, e = .returned (.slice A (onL k r).length c) ∧ Out w' A c (onL k r) ∧ Below w.heap.size w w' := by
  have h16 := pow_le16 hk
  have hL := lenN_le (r := r) hk
  have hr63 : r ≤ 63 := by omega
  have cL : ∀ W, Calls Try.prog 84 #[.int .i64 (k : Int), .int .i64 (r : Int)] W fun e w' => e = .returned (.int .i64 (lenN k r : Nat)) ∧ W = w' := fun W => (length_any k hk _ (by omega) (by omega) W).mono fun _ _ h => ⟨by rw [h.1, len_nat hk (by omega)], h.2⟩
  have CL := Lib.hid cL
  have cS : ∀ W, Calls Try.prog 81 #[.int .i64 (k : Int)] W fun e w' => e = .returned (.int .i64 ((2 ^ k : Nat) : Int)) ∧ W = w' := fun W => (side_any k hk W).mono fun _ _ h => ⟨by rw [h.1, sd_nat], h.2⟩
  have CS := Lib.hid cS
  obtain ⟨i0, hi0, hz0, hz1, hz2⟩ := info_parts int_info
  have HZ2 := Lib.hid hz2
  have HLN := Lib.hid (onL_len k r)
  have HS0 : Hid (InvO k r (DoneO k 0 0) (List.replicate (lenN k r) 0)) := Lib.hid (invO_start k r fun p _ _ => done_start k p)
  have HEND : Hid (∀ xs, InvO k r (DoneO k 12 0) xs → xs = onL k r) := Lib.hid (fun xs h => invO_end hk h1 h2 h fun p hp _ => done_all hk hp)
  have HFACE : Hid (∀ (f : Nat) (xs : List Int), InvO k r (DoneO k f (2 ^ k)) xs → InvO k r (DoneO k (f + 1) 0) xs) := Lib.hid (fun f xs h => invO_keep h fun p hp _ hd => done_face hk hp hd)
  have HNONE : Hid (∀ (f x : Nat) (xs : List Int), (ringI k f x 0 - (r : Int) < 0 ∨ 2 ^ k ≤ ringI k f x 0 - (r : Int)) → InvO k r (DoneO k f x) xs → InvO k r (DoneO k f (x + 1)) xs) := Lib.hid (fun f x xs hy h => invO_keep h (done_none hk hy))
  have HONE : Hid (∀ (f x y : Nat) (xs : List Int), f < 12 → x < 2 ^ k → y < 2 ^ k → ringI k f x 0 - (r : Int) = (y : Nat) → InvO k r (DoneO k f x) xs →
      ∃ Q : Nat, Q < lenN k r ∧ placeI k f x y = (Q : Int) + 1 ∧ InvO k r (DoneO k f (x + 1)) (xs.set Q ((nB k f k x y : Nat) : Int))) := Lib.hid (by
    intro f x y xs hf hx hy he h
    obtain ⟨a1, a2, a3, a4⟩ := done_one hk hf hx hy he
    have F := fact_of hk a1
    have p1 := F.p1
    have p2 := F.p2
    rw [a2] at p2
    exact ⟨PT k (f * 2 ^ (2 * k) + bI k x y) - 1, by omega, by rw [a3]; omega, invO_step hk h a1 a2 a4⟩)
  have HSD : Hid (∀ z : Int, sdI k ≤ z ↔ (2 : Int) ^ k ≤ z) := Lib.hid (fun z => Iff.rfl)
  obtain ⟨S, hS, hSN⟩ : ∃ S : Nat, 2 ^ k = S ∧ sdI k = S := ⟨_, rfl, sd_nat k⟩
  have HSN := Lib.hid hSN
  have HS2 : Hid ((2 : Int) ^ k = S) := Lib.hid hSN
  rw [hS] at CS HFACE HONE h16
  obtain ⟨L, eL⟩ : ∃ L, lenN k r = L := ⟨_, rfl⟩
  rw [eL] at hL CL HLN HONE HS0
  have HLL := Lib.hid eL
  clear eL
  clear hz2 cL cS hS hSN h2
  go_enter Try.func86, Try.ntmps86
  go_wp2_with (first
    | (go_at_call 84; refine (CL.out _).mono ?_; rintro e w1 ⟨rfl, rfl⟩)
    | (at_make; refine wpList_make_full _ rfl _ _ 35 rfl w.heap.size 3 i0 (.int .i64 0) 1 Try.underlying35 hi0 hz0 hz1 _ _ _ _ L rfl rfl rfl rfl (by rw [HZ2.out]; omega) (by unfold maxLen; omega) (Nat.le_refl _) ?_; intro w1 hown1 hg1))
  have hB1 : Below w.heap.size w w1 := (Below.refl _ _).grown hg1 (Nat.le_refl _) (by simp)
  rw [made_ints] at hown1
  clear hg1 HZ2 hz0 hz1 hi0
  go_loopw [13] (fun i wr => ∃ (f : Nat) (xs : List Int), f ≤ 12 ∧ i = .int .i64 f ∧ wr.ownsRow w.heap.size 3 1 (.slice (some ⟨w.heap.size, 0, none⟩) L L) L (xs.map (Value.int .i64)) ∧ Below w.heap.size w wr ∧ Hid (InvO k r (DoneO k f 0) xs)) (fun i _ => 12 - (intOf i).toNat)
  case atStart => exact ⟨0, _, by omega, rfl, hown1, hB1, HS0⟩
  case round =>
    clear hown1 hB1 HS0
    obtain ⟨f, xs, hf, rfl, hown, hB, hI⟩ := hrel
    by_cases hlt : f < 12
    · obtain ⟨wo, rfl⟩ : ∃ wo : World, wo = wr := ⟨_, rfl⟩
      have HO := Lib.hid hown
      have HI := Lib.hid hI
      clear hown hI
      go_wp2_with (go_at_call 81; refine (CS.out _).mono ?_; rintro e w2 ⟨rfl, rfl⟩)
      go_loopw [18] (fun i wr => ∃ (x : Nat) (xs : List Int), x ≤ S ∧ i = .int .i64 x ∧ wr.ownsRow w.heap.size 3 1 (.slice (some ⟨w.heap.size, 0, none⟩) L L) L (xs.map (Value.int .i64)) ∧ Below w.heap.size w wr ∧ Hid (InvO k r (DoneO k f x) xs)) (fun i _ => S - (intOf i).toNat)
      case atStart => exact ⟨0, xs, by omega, rfl, HO.out, hB, HI.out⟩
      case round =>
        clear HO HI hB
        clear xs
        obtain ⟨x, xs, hx, rfl, hown, hB, hI⟩ := hrel
        by_cases hxs : x < S
        · obtain ⟨hlen, hlen2⟩ : L ≤ xs.length ∧ xs.length ≤ L := by have := hI.out.1; have := HLL.out; omega
          have hgl : w.heap.size < wr.heap.size := by
            rcases hown.2 with ⟨h0, _⟩ | ⟨g, cap, cur, h0, _, hh, _⟩
            · simp at h0
            · simp at h0; obtain ⟨rfl, _⟩ := h0; exact (Array.getElem?_eq_some_iff.1 hh).1
          have HO := Lib.hid hown
          have HI := Lib.hid hI
          have cR := fun W => ring_any k hk f x 0 (by omega) (by omega) (by omega) (by omega) (by omega) (by omega) W
          obtain ⟨R0, hR0⟩ : ∃ R0, R0 = ringI k f x 0 := ⟨_, rfl⟩
          have hRb : -100 ≤ R0 ∧ R0 ≤ 100 := by
            rw [hR0, ring_sd, HSN.out]
            have : ((2 + (f : Int) / 4) * S) ≤ 4 * 16 := Int.mul_le_mul (by omega) (by omega) (by omega) (by omega)
            have : 0 ≤ ((2 + (f : Int) / 4) * S) := Int.mul_nonneg (by omega) (by omega)
            omega
          obtain ⟨rb0, rb1⟩ := hRb
          rw [← hR0] at cR
          have CR := Lib.hid cR
          have HR0 := Lib.hid hR0
          clear hown hI hR0 cR
          obtain ⟨Y0, eY⟩ : ∃ Y0, R0 - (r : Int) = Y0 := ⟨_, rfl⟩
          have HY := Lib.hid (show ringI k f x 0 - (r : Int) = Y0 by rw [← HR0.out]; exact eY)
          have yb0 : -200 ≤ Y0 := by omega
          have yb1 : Y0 ≤ 200 := by omega
          by_cases hy0 : Y0 < 0
          · have t1 : decide (0 ≤ Y0) = false := decide_eq_false (by omega)
            have HN := Lib.hid (HNONE.out f x xs (.inl (by rw [HY.out]; exact hy0)) HI.out)
            have hy2 : ¬ 0 ≤ Y0 := by omega
            clear hy0
            go_wp2_with (go_at_call 116; refine (CR.out _).mono ?_; rintro e w3 ⟨rfl, hB3⟩; have b0 := (hB3.block wr.heap.size (by simp)).trans (heap_alloc_new wr _); have z3 := hB3.size; simp at z3; have HB3 : Hid (Below wr.heap.size wr w3) := Lib.hid (Below.trans (Below.alloc (Below.refl _ _) (Nat.le_refl _) _) (hB3.mono (by simp))); clear hB3; have c0 := cell_of_row w3 _ 0 _ _ _ b0; have c1 := cell_of_row w3 _ 1 _ _ _ b0; have c2 := cell_of_row w3 _ 2 _ _ _ b0; have k2 := blk_frozen b0 2; simp at c0 c1 c2; clear b0)
            go_quiet ((go_at_call 81; exact Calls.quiet_of_same ((CS.out _).mono fun _ _ h => ⟨h.1, h.2.symm⟩)))
            go_wp2
            go_roundw
            case rel => exact ⟨x + 1, xs, by omega, by go_num, own_drewN (own_below HO.out (Below.setCell HB3.out (Nat.le_refl _) _)) _, below_drewN (Below.trans hB ((Below.setCell HB3.out (Nat.le_refl _) _).mono hB.size)) _, HN⟩
            case measure => simp [intOf]; omega
          · by_cases hy1 : Y0 < S
            · obtain ⟨y, rfl⟩ : ∃ y : Nat, Y0 = y := ⟨Y0.toNat, by omega⟩
              have hyS : y < S := by omega
              have t2 : decide (y < S) = true := decide_eq_true hyS
              have t3 : decide ((y : Int) < (S : Int)) = true := decide_eq_true hy1
              have t4 : decide ((0 : Int) ≤ (y : Int)) = true := decide_eq_true (by omega)
              obtain ⟨Q, hQ, hP, hN⟩ := HONE.out f x y xs hlt hxs hyS HY.out HI.out
              have cP := fun W => place_any k hk f x y (by omega) (by omega) (by omega) (by rw [HSN.out]; omega) (by omega) (by rw [HSN.out]; omega) W
              rw [hP] at cP
              have CP := Lib.hid cP
              have CN := Lib.hid (fun W => nested_any k f x y hk hlt (by omega) (by omega) W)
              have HN := Lib.hid hN
              have HC0 := Lib.hid ((HO.out.cellAt Q (by omega)).trans (getD_row (by omega)))
              have HF0 := Lib.hid (HO.out.frozenAt Q)
              have s1 : IntKind.i64.wrap ((Q : Int) + 1 - 1) = Q := by rw [IntWalk.i64_in _ (by omega)]; omega
              have s4 : IntKind.i64.wrap (Q : Int) = Q := IntWalk.i64_in _ (by omega)
              have s2 : (0 : Int) ≤ (Q : Int) := by omega
              have s3 : (Q : Int) < (L : Int) := by omega
              clear cP hN hP hy0 hy1
              go_wp2_with (go_at_call 116; refine (CR.out _).mono ?_; rintro e w3 ⟨rfl, hB3⟩; have b0 := (hB3.block wr.heap.size (by simp)).trans (heap_alloc_new wr _); have z3 := hB3.size; simp at z3; have HB3 : Hid (Below wr.heap.size wr w3) := Lib.hid (Below.trans (Below.alloc (Below.refl _ _) (Nat.le_refl _) _) (hB3.mono (by simp))); clear hB3; have c0 := cell_of_row w3 _ 0 _ _ _ b0; have c1 := cell_of_row w3 _ 1 _ _ _ b0; have c2 := cell_of_row w3 _ 2 _ _ _ b0; have k2 := blk_frozen b0 2; simp at c0 c1 c2; clear b0)
              go_quiet ((go_at_call 81; exact Calls.quiet_of_same ((CS.out _).mono fun _ _ h => ⟨h.1, h.2.symm⟩)))
              go_wp2
              have hW3 := HB3.out
              have g1 : wr.heap.size < w3.heap.size := by omega
              have zz : wr.heap.size < ((w3.setCell ⟨wr.heap.size, 2, none⟩ (.int .i64 (y : Int))).drewN nq).heap.size := by simpa using g1
              have HBW : Hid (Below wr.heap.size wr ((w3.setCell ⟨wr.heap.size, 2, none⟩ (.int .i64 (y : Int))).drewN nq)) := Lib.hid (below_drewN (Below.setCell hW3 (Nat.le_refl _) _) _)
              have c0 : ((w3.setCell ⟨wr.heap.size, 2, none⟩ (.int .i64 (y : Int))).drewN nq).cell? ⟨wr.heap.size, 0, none⟩ = some (.int .i64 (f : Int)) := (World.cell?_setCell_other _ _ _ _ (by simp)).trans c0
              have c1 : ((w3.setCell ⟨wr.heap.size, 2, none⟩ (.int .i64 (y : Int))).drewN nq).cell? ⟨wr.heap.size, 1, none⟩ = some (.int .i64 (x : Int)) := (World.cell?_setCell_other _ _ _ _ (by simp)).trans c1
              have c2 : ((w3.setCell ⟨wr.heap.size, 2, none⟩ (.int .i64 (y : Int))).drewN nq).cell? ⟨wr.heap.size, 2, none⟩ = some (.int .i64 (y : Int)) := by rw [World.cell?_drewN]; exact cell_set_same c2
              have n1 : wr.heap.size ≠ w.heap.size := by omega
              clear hW3
              go_region_held3 (fun W => W.cell? ⟨wr.heap.size, 0, none⟩ = some (.int .i64 (f : Int)) ∧ W.cell? ⟨wr.heap.size, 1, none⟩ = some (.int .i64 (x : Int)) ∧ W.cell? ⟨wr.heap.size, 2, none⟩ = some (.int .i64 (y : Int)))
                ((first | with_reducible exact ⟨c0, c1, c2⟩ | exact ⟨(cell_set1 _ n1).trans c0, (cell_set1 _ n1).trans c1, (cell_set1 _ n1).trans c2⟩ | exact ⟨c0, c1, c2⟩))
                ((first
                  | (go_at_call 117; refine (CP.out _).mono ?_; rintro e w4 ⟨rfl, hB3⟩; have c0 := (hB3.cell (p := ⟨wr.heap.size, 0, none⟩) zz).trans c0; have c1 := (hB3.cell (p := ⟨wr.heap.size, 1, none⟩) zz).trans c1; have c2 := (hB3.cell (p := ⟨wr.heap.size, 2, none⟩) zz).trans c2; have HBW : Hid (Below wr.heap.size wr _) := Lib.hid (Below.trans (by first | exact HBW.out | exact Below.drew HBW.out | exact below_drewN HBW.out _) (hB3.mono (Nat.le_of_lt zz))); have zz := Nat.lt_of_lt_of_le zz hB3.size; have g0 := (HBW.out.cell (p := ⟨w.heap.size, Q, none⟩) hgl).trans HC0.out; have j0 := (HBW.out.frozen (p := ⟨w.heap.size, Q, none⟩) hgl).trans HF0.out; clear hB3)
                  | (go_at_call 82; refine (CN.out _).mono ?_; rintro e w4 ⟨rfl, hB3⟩; have c0 := (hB3.cell (p := ⟨wr.heap.size, 0, none⟩) zz).trans c0; have c1 := (hB3.cell (p := ⟨wr.heap.size, 1, none⟩) zz).trans c1; have c2 := (hB3.cell (p := ⟨wr.heap.size, 2, none⟩) zz).trans c2; have HBW : Hid (Below wr.heap.size wr _) := Lib.hid (Below.trans (by first | exact HBW.out | exact Below.drew HBW.out | exact below_drewN HBW.out _) (hB3.mono (Nat.le_of_lt zz))); have zz := Nat.lt_of_lt_of_le zz hB3.size; have g0 := (HBW.out.cell (p := ⟨w.heap.size, Q, none⟩) hgl).trans HC0.out; have j0 := (HBW.out.frozen (p := ⟨w.heap.size, Q, none⟩) hgl).trans HF0.out; clear hB3)))
              go_wp2
              go_roundw
              case rel => exact ⟨x + 1, xs.set Q ((nB k f k x y : Nat) : Int), by omega, by go_num, by rw [List.map_set]; exact (World.ownsRow.stored (own_below HO.out HBW.out) Q _).1, Below.setCell (Below.trans hB (HBW.out.mono hB.size)) (Nat.le_refl _) _, HN⟩
              case measure => simp [intOf]; omega
            · have t1 : decide (0 ≤ Y0) = true := decide_eq_true (by omega)
              have t2 : decide (Y0 < S) = false := decide_eq_false hy1
              have HN := Lib.hid (HNONE.out f x xs (.inr (by rw [HY.out, HS2.out]; omega)) HI.out)
              go_wp2_with (go_at_call 116; refine (CR.out _).mono ?_; rintro e w3 ⟨rfl, hB3⟩; have b0 := (hB3.block wr.heap.size (by simp)).trans (heap_alloc_new wr _); have z3 := hB3.size; simp at z3; have HB3 : Hid (Below wr.heap.size wr w3) := Lib.hid (Below.trans (Below.alloc (Below.refl _ _) (Nat.le_refl _) _) (hB3.mono (by simp))); clear hB3; have c0 := cell_of_row w3 _ 0 _ _ _ b0; have c1 := cell_of_row w3 _ 1 _ _ _ b0; have c2 := cell_of_row w3 _ 2 _ _ _ b0; have k2 := blk_frozen b0 2; simp at c0 c1 c2; clear b0)
              go_quiet ((go_at_call 81; exact Calls.quiet_of_same ((CS.out _).mono fun _ _ h => ⟨h.1, h.2.symm⟩)))
              go_wp2
              go_roundw
              case rel => exact ⟨x + 1, xs, by omega, by go_num, own_drewN (own_below HO.out (Below.setCell HB3.out (Nat.le_refl _) _)) _, below_drewN (Below.trans hB ((Below.setCell HB3.out (Nat.le_refl _) _).mono hB.size)) _, HN⟩
              case measure => simp [intOf]; omega
        · obtain rfl : x = S := by omega
          go_wp2
          go_roundw
          case rel => exact ⟨f + 1, xs, by omega, by go_num, hown, hB, HFACE.out _ _ hI.out⟩
          case measure => simp [intOf]; omega
    · obtain rfl : f = 12 := by omega
      have hxs := HEND.out _ hI.out
      subst hxs
      have hOut : Out wr (some ⟨w.heap.size, 0, none⟩) L (onL k r) := by
        obtain ⟨A', c', hv, hO⟩ := own_ints hown
        injection hv with hA hl hc
        subst hA; subst hc
        exact hO
      have HOUT := Lib.hid hOut
      clear hOut hown
      go_wp2
      go_ret
      exact ⟨_, _, by rw [HLN.out]; rfl, HOUT.out, hB⟩
end Go.Proofs.Ytnnfnphmieikmaa
