/-
  Contracts of the reference: full, Count, Cells.
-/
import Derived.Test.YtnnfnphmieikmaaArea
import Derived.Test.YtnnfnphmieikmaaSizeM
import Derived.Deep.LoopGhost
namespace Go.Proofs.Ytnnfnphmieikmaa
open Go Go.RowKit Go.Shelf

theorem blk_cell {w : World} {g : Nat} {cs : Array Value} {t : TypeId} (h : w.heap[g]? = some (.cells cs t (0, 0))) (i : Nat) {u : Value} (hu : cs[i]? = some u) : w.cell? ⟨g, i, none⟩ = some u := (cell_of_row w g i cs t (0, 0) h).trans hu
set_option maxRecDepth 100000 in
theorem full_any (g c : Nat) (P : Nat → Bool) (o p : Nat) (ho : o < 5) (hp : p < pxN o) (w : World) (h : Area w g P) :
    Calls Try.prog 104 #[.slice (some ⟨g, 0, none⟩) 3072 c, .agg #[.int .i64 (o : Int), .int .i64 (p : Int)]] w fun e w' => e = .returned (.bool (fullB P o p)) ∧ Below w.heap.size w w' := by
  have hw1 := wN_pos o
  have hw2 := wN_le o
  have hend := cell_end ho hp
  have hp2 : p ≤ 3072 := by have := (pxN_le ho).1; omega
  have CW := Lib.hid (fun W => width_any o ho (p : Int) W)
  have HF : Hid (∀ k, fullTo P o p (k + 1) = (fullTo P o p k && P (p * wN o + k))) := Lib.hid (fullTo_snoc P o p)
  have HNO : Hid (∀ k, k < wN o → P (p * wN o + k) = false → fullB P o p = false) := Lib.hid (fun k hk h => full_not hk h)
  have HALL : Hid (fullTo P o p (wN o) = fullB P o p) := Lib.hid rfl
  generalize wN o = S at *
  obtain ⟨B, hBB⟩ : ∃ B, B = p * S := ⟨_, rfl⟩
  have eB : (p : Int) * (S : Int) = (B : Int) := by rw [hBB]; simp
  rw [← hBB] at hend HF HNO
  have HA := Lib.hid h
  clear hBB h
  go_enter Try.func104, Try.ntmps104
  go_wp2_with (go_at_call 113; refine (CW.out _).mono ?_; rintro e w1 ⟨rfl, hB1⟩; have b1 := (hB1.block w.heap.size (by simp)).trans (heap_alloc_new w _); have c1 := blk_cell b1 1 rfl; have hW1 : Below w.heap.size w w1 := (Below.trans (by repeat (first | with_reducible exact Below.refl _ _ | with_reducible assumption | refine below_drewN ?_ _ | with_reducible refine Below.drew ?_ | (refine Below.setCell ?_ (by first | (simp; done) | (simp; omega) | omega) _) | (refine Below.alloc ?_ (by first | (simp; done) | (simp; omega) | omega) _))) (hB1.mono (by first | (simp; done) | (simp; omega) | omega))); have HA1 := Lib.hid (HA.out.below hW1); clear b1 hB1)
  go_loop [6] (fun i => ∃ k : Nat, k ≤ S ∧ i = .int .i64 k ∧ Hid (fullTo P o p k = true)) (fun i => S - (intOf i).toNat)
  case atStart => exact ⟨0, Nat.zero_le _, rfl, rfl⟩
  case round =>
    obtain ⟨k, hk, rfl, hall⟩ := hrel
    by_cases hlt : k < S
    · have hc := HA1.out.2 (B + k) (by omega)
      cases hP : P (B + k) with
      | true =>
        rw [hP] at hc
        have HP := Lib.hid hP
        clear hP
        go_wp2
        go_round
        case rel => exact ⟨k + 1, by omega, by go_num, Lib.hid (by rw [HF.out, hall.out, HP.out]; rfl)⟩
        case measure => simp [intOf]; omega
      | false =>
        rw [hP] at hc
        have HP := Lib.hid hP
        clear hP
        go_wp2
        go_ret
        exact ⟨ret_bool (HNO.out k hlt HP.out).symm, hW1⟩
    · obtain rfl : k = S := by omega
      go_wp2
      go_ret
      exact ⟨ret_bool (by rw [← HALL.out, hall.out]), hW1⟩

set_option maxRecDepth 100000 in
theorem count_any (g c : Nat) (P : Nat → Bool) (w : World) (h : Area w g P) :
    Calls Try.prog 101 #[.slice (some ⟨g, 0, none⟩) 3072 c] w fun e w' => e = .returned (.int .i64 (cntP P 3072 : Nat)) ∧ w = w' := by
  have HA := Lib.hid h
  have HC := Lib.hid (cnt_snoc P)
  have HL := Lib.hid (cnt_le P)
  clear h
  go_enter Try.func101, Try.ntmps101
  go_wp2
  go_loop [3, 4] (fun n i => ∃ k : Nat, k ≤ 3072 ∧ i = .int .i64 k ∧ n = .int .i64 (cntP P k : Nat)) (fun _ i => 3072 - (intOf i).toNat)
  case atStart => exact ⟨0, Nat.zero_le _, rfl, rfl⟩
  case round =>
    obtain ⟨k, hk, rfl, rfl⟩ := hrel
    by_cases hlt : k < 3072
    · have hc := HA.out.2 k hlt
      have hl := HL.out k
      have HS := Lib.hid (HC.out k)
      cases hP : P k with
      | true =>
        rw [hP] at hc HS
        clear hP
        go_wp2
        go_round
        case rel => exact ⟨k + 1, by omega, by go_num, by rw [HS.out]; go_num⟩
        case measure => simp [intOf]; omega
      | false =>
        rw [hP] at hc HS
        clear hP
        go_wp2
        go_round
        case rel => exact ⟨k + 1, by omega, by go_num, by rw [HS.out]; go_num⟩
        case measure => simp [intOf]; omega
    · obtain rfl : k = 3072 := by omega
      go_wp2
      go_ret
      exact ⟨rfl, rfl⟩


section
variable {ops : Array Oper} {rest : List Oper} {o : Oper} {a : Act} {Q : Exit → Act → World → Prop}
/-- Append of one cell to a slice of the call's own, which tells of the other blocks, too. -/
theorem wp_app_cell (w : World) (hgd : o.guard = none) (s x : Operand)
    (ho : o.op = .call { callee := .builtin .append, args := #[s, x], argTypes := #[41, 41] })
    (base : Nat) (v : Value) (n : Nat) (xs : List (Int × Int)) (y z : Int) (hs : a.eval s = v) (hown : w.ownsRow base 43 2 v n (xs.flatMap mk2)) (B : Nat)
    (hx : a.eval x = .slice (some ⟨B, 0, none⟩) 1 1) (hB : B = w.heap.size) (hn : n ≤ 1000000) (hbase : base ≤ w.heap.size)
    (h : ∀ v' w', w'.ownsRow base 43 2 v' (n + 1) ((xs ++ [(y, z)]).flatMap mk2) → Below base w w' → (∀ g, g < w.heap.size → v.ownBlock ≠ some g → w'.heap[g]? = w.heap[g]?) → w.heap.size ≤ w'.heap.size → wpList Try.prog ops Q rest (a.put o.dst v') w') :
    wpList Try.prog ops Q (o :: rest) a (w.alloc (.cells #[.int .i64 y, .int .i64 z] 43)) := by
  subst hB
  obtain ⟨i0, hi0, hz0, hz1, hz2⟩ := info_parts lay_info
  refine wpList_append_own _ hgd s x 41 ho base 43 i0 (.agg #[.int .i64 0, .int .i64 0]) 2 16 Try.underlying41 hi0 hz0 hz1 hz2 rfl (by decide) v n _ hs (hown.alloc _) ⟨w.heap.size, 0, none⟩ 1 1 [.int .i64 y, .int .i64 z] hx rfl
    (cells_new w [.int .i64 y, .int .i64 z] 43) (by intro u hu; simp at hu; rcases hu with rfl | rfl <;> rfl) (by unfold maxLen; omega) (by omega) (by simp; omega) ?_
  intro v' w' ho' hg _
  refine h v' w' (by rw [List.flatMap_append]; exact ho') (((Below.refl base w).alloc hbase _).grown hg (by simp; omega) fun k hk => (hown.lt k hk).1) (fun g hg1 hg2 => (hg.block g (by simp; omega) (fun e => hg2 e.symm)).trans (Below.heap_alloc w _ g hg1)) (by have := hg.size; simp at this; omega)
end
theorem own_far {w : World} {base n : Nat} {e : TypeId} {size : Nat} {v : Value} {xs : List Value} {g : Nat} (h : w.ownsRow base e size v n xs) (hg : w.heap.size ≤ g) : v.ownBlock ≠ some g := by
  rcases h.2 with ⟨rfl, _⟩ | ⟨g', cap, cur, rfl, _, hh, _⟩
  · simp [Value.ownBlock]
  · intro he
    have : g' = g := by simpa [Value.ownBlock] using he
    have := (Array.getElem?_eq_some_iff.1 hh).1
    omega
theorem own_cell_len {w : World} {base n : Nat} {v : Value} {xs : List (Int × Int)} (h : w.ownsRow base 43 2 v n (xs.flatMap mk2)) : xs.length = n := by
  have := h.1; rw [flat_len] at this; omega
theorem from_len (P : Nat → Bool) : ∀ f q, (cellsF P f q).length ≤ f
  | 0, _ => by simp [cellsF]
  | f + 1, q => by
    rw [cellsF]
    split
    · simp
    · split
      · have := from_len P f (q + wN (ordAt P q)); simp; omega
      · have := from_len P f (q + 1); omega
theorem cellsP_len (P : Nat → Bool) : (cellsP P).length ≤ 3072 := from_len P _ _
set_option maxRecDepth 100000 in
set_option maxHeartbeats 1000000 in
theorem refCells_any (g c : Nat) (P : Nat → Bool) (w : World) (h : Area w g P) :
    Calls Try.prog 99 #[.slice (some ⟨g, 0, none⟩) 3072 c] w fun e w' => ∃ A c', e = .returned (.slice A (cellsP P).length c') ∧ Clk w' A c' (cellsP P) ∧ Below w.heap.size w w' := by
  have HA := Lib.hid h
  have HLEN := Lib.hid (cellsP_len P)
  clear h
  go_enter Try.func99, Try.ntmps99
  go_wp2
  go_loopw [3, 4] (fun v i wr => ∃ (q : Nat) (l : List (Int × Int)), q ≤ 3072 ∧ i = .int .i64 q ∧ wr.ownsRow w.heap.size 43 2 v l.length (l.flatMap mk2) ∧ Below w.heap.size w wr ∧ Hid (l ++ cellsFrom P q = cellsP P)) (fun _ i _ => 3072 - (intOf i).toNat)
  case atStart => exact ⟨0, [], Nat.zero_le _, rfl, ⟨rfl, .inl ⟨rfl, rfl⟩⟩, Below.refl _ _, Lib.hid rfl⟩
  case round =>
    obtain ⟨q, l, hq, rfl, hown, hB, hI⟩ := hrel
    obtain ⟨wo, rfl⟩ : ∃ wo : World, wo = wr := ⟨_, rfl⟩
    by_cases hlt : q < 3072
    · have hc := (HA.out.below hB).2 q hlt
      have tq : decide ((q : Int) < 3072) = true := decide_eq_true (by omega)
      have HO := Lib.hid hown
      clear hown
      cases hP : P q with
      | false =>
        rw [hP] at hc
        have HI := Lib.hid (show l ++ cellsFrom P (q + 1) = cellsP P by rw [← from_no hlt hP]; exact hI.out)
        clear hP hI
        go_wp2
        go_roundw
        case rel => exact ⟨q + 1, l, by omega, by go_num, HO.out, hB, HI⟩
        case measure => simp [intOf]; omega
      | true =>
        rw [hP] at hc
        have HI := Lib.hid (show (l ++ [(((ordAt P q : Nat) : Int), ((q / wN (ordAt P q) : Nat) : Int))]) ++ cellsFrom P (q + wN (ordAt P q)) = cellsP P by rw [List.append_assoc, List.singleton_append, ← from_yes hlt hP]; exact hI.out)
        have HEND := Lib.hid (ord_end hlt hP)
        have HFOUR := Lib.hid ((okAt_four P q).trans hP)
        have HLE := Lib.hid (show l.length ≤ 3072 by have := congrArg List.length hI.out; simp at this; have := HLEN.out; omega)
        clear hP hI
        go_wp2
        have hbl := heap_alloc_new wo (.cells #[.int .i64 0, .int .i64 0] 43)
        go_loopg [] 5 (fun k wr => ∃ (o : Nat) (z : Int), o + k = 5 ∧ o < 5 ∧ Hid (wr.heap[wo.heap.size]? = some (.cells #[.int .i64 (o : Int), .int .i64 z] 43 (0, 0))) ∧ Below wo.heap.size wo wr ∧ Hid (∀ o', o' < o → okAt P q o' = false))
        case atStart => exact ⟨0, 0, rfl, by omega, Lib.hid hbl, Below.alloc (Below.refl _ _) (Nat.le_refl _) _, Lib.hid (fun o' ho' => by omega)⟩
        case round =>
          obtain ⟨o, z, hok, ho, hblk, hB2, hNO⟩ := hrel
          have zz : wo.heap.size < wr.heap.size := by have := hB2.size; have h2 := (Array.getElem?_eq_some_iff.1 hblk.out).1; omega
          have c0 := blk_cell hblk.out 0 (u := .int .i64 (o : Int)) rfl
          have c1 := blk_cell hblk.out 1 (u := .int .i64 z) rfl
          have k1 := blk_frozen hblk.out 1
          have HBK := hblk
          have hS1 := wN_pos o
          have hS2 := wN_le o
          have CW := Lib.hid (fun (p : Int) W => width_any o ho p W)
          have hD : q / wN o < pxN o := by have e := px_w ho; exact Nat.div_lt_of_lt_mul (by rw [Nat.mul_comm, e]; exact hlt)
          have HOK : Hid (okAt P q o = (decide (q % wN o = 0) && fullB P o (q / wN o))) := Lib.hid rfl
          have HEQ : Hid (okAt P q o = true → ordAt P q = o) := Lib.hid (fun h => ord_eq ho hNO.out h)
          obtain ⟨S, hS⟩ : ∃ S, S = wN o := ⟨_, rfl⟩
          have HS := Lib.hid hS
          rw [← hS] at CW hS1 hS2 hD HOK
          obtain ⟨D, hDD⟩ : ∃ D, D = q / S := ⟨_, rfl⟩
          have HDD := Lib.hid hDD
          have eD : (q : Int) / (S : Int) = (D : Int) := by rw [hDD]; simp
          rw [← hDD] at hD HOK
          obtain ⟨M, hMM⟩ : ∃ M, M = q % S := ⟨_, rfl⟩
          have eM : (q : Int) % (S : Int) = (M : Int) := by rw [hMM]; simp
          rw [← hMM] at HOK
          have hDb : D ≤ 3072 := by have := Nat.div_le_self q S; omega
          have TA : Hid True := Lib.hid trivial
          have TB : Hid True := Lib.hid trivial
          clear hblk hS hDD hMM
          by_cases hM : M = 0
          · have t1 : (M == 0) = true := by simpa using hM
            have t2 : ((M : Int) == 0) = true := by simp; omega
            cases hF : fullB P o D with
            | true =>
              have HFU := Lib.hid hF
              have HORD : Hid (ordAt P q = o) := Lib.hid (HEQ.out (by rw [HOK.out, hF, hM]; rfl))
              clear hF hM
              go_wp2_with (first | (go_at_call 113; clear TA; refine (CW.out _ _).mono ?_; rintro e w3 ⟨rfl, hB3⟩; have b := (hB3.block wo.heap.size zz).trans HBK.out; have c0 := blk_cell b 0 rfl; have c1 := blk_cell b 1 rfl; have k1 := blk_frozen b 1; have HB3 : Hid (Below wo.heap.size wo w3) := Lib.hid (Below.trans hB2 (hB3.mono (Nat.le_of_lt zz))); have zz3 : wo.heap.size < w3.heap.size := Nat.lt_of_lt_of_le zz hB3.size; have HBK3 : Hid ((w3.setCell ⟨wo.heap.size, 1, none⟩ (.int .i64 (D : Int))).heap[wo.heap.size]? = some (.cells #[.int .i64 (o : Int), .int .i64 (D : Int)] 43 (0, 0))) := Lib.hid (heap_setCell_same w3 wo.heap.size 1 _ _ (.int .i64 (D : Int)) b); clear b hB3) | (go_at_call 113; clear TB; refine (CW.out _ _).mono ?_; rintro e w4 ⟨rfl, hB4⟩; have zz4' : wo.heap.size < (w3.setCell ⟨wo.heap.size, 1, none⟩ (.int .i64 (D : Int))).heap.size := (by simpa using zz3); have b := (hB4.block wo.heap.size zz4').trans HBK3.out; have c0 := blk_cell b 0 rfl; have c1 := blk_cell b 1 rfl; have k0 := blk_frozen b 0; have HB4 : Hid (Below wo.heap.size wo w4) := Lib.hid (Below.trans (Below.setCell HB3.out (Nat.le_refl _) _) (hB4.mono (Nat.le_of_lt zz4'))); have zz4 : wo.heap.size < w4.heap.size := Nat.lt_of_lt_of_le zz4' hB4.size; have HBK4 := Lib.hid b; clear b hB4) | (go_at_call 104; refine (full_any g c P o D ho hD _ (HA.out.below (Below.trans hB (HB4.out.mono hB.size)))).mono ?_; rintro e w5 ⟨he, hB5⟩; rw [HFU.out] at he; subst he; have b := (hB5.block wo.heap.size zz4).trans HBK4.out; have c0 := blk_cell b 0 rfl; have c1 := blk_cell b 1 rfl; have k0 := blk_frozen b 0; have HB5 : Hid (Below wo.heap.size wo w5) := Lib.hid (Below.trans HB4.out (hB5.mono (Nat.le_of_lt zz4))); have zz5 : wo.heap.size < w5.heap.size := Nat.lt_of_lt_of_le zz4 hB5.size; have HBK5 := Lib.hid b; clear b hB5) | (at_builtin; refine wp_app_cell w5 rfl (.tmp 41) (.tmp 43) rfl w.heap.size _ l.length l (o : Int) (D : Int) rfl (own_below HO.out HB5.out) w5.heap.size rfl rfl (Nat.le_trans HLE.out (by omega)) (Nat.le_of_lt (Nat.lt_of_le_of_lt hB.size zz5)) ?_; intro v2 w6 hown2 hB6 hfar hz6; have HO6 := Lib.hid hown2; have b := (hfar wo.heap.size zz5 (own_far HO.out (Nat.le_refl _))).trans HBK5.out; have c0 := blk_cell b 0 rfl; have c1 := blk_cell b 1 rfl; have HW6 : Hid (Below w.heap.size w w6) := Lib.hid (Below.trans (Below.trans hB (HB5.out.mono hB.size)) hB6); clear b hown2 hB6 hfar) | (go_at_call 113; refine (CW.out _ _).mono ?_; rintro e w7 ⟨rfl, hB7⟩; have HW7 : Hid (Below w.heap.size w w7) := Lib.hid (Below.trans HW6.out (hB7.mono HW6.out.size)); have HO7 := Lib.hid (own_below HO6.out hB7); clear hB7))
              go_roundw
              case rel => exact ⟨q + S, l ++ [((o : Int), (D : Int))], by have := HEND.out; rw [HORD.out, ← HS.out] at this; exact this, by go_num, by rw [List.length_append]; exact HO7.out, HW7.out, Lib.hid (by have := HI.out; rw [HORD.out, ← HS.out, ← HDD.out] at this; exact this)⟩
              case measure => simp [intOf]; omega
            | false =>
              have HFU := Lib.hid hF
              have HOKF : Hid (okAt P q o = false) := Lib.hid (by rw [HOK.out, hF]; simp)
              clear hF hM
              go_wp2_with (first | (go_at_call 113; clear TA; refine (CW.out _ _).mono ?_; rintro e w3 ⟨rfl, hB3⟩; have b := (hB3.block wo.heap.size zz).trans HBK.out; have c0 := blk_cell b 0 rfl; have c1 := blk_cell b 1 rfl; have k1 := blk_frozen b 1; have HB3 : Hid (Below wo.heap.size wo w3) := Lib.hid (Below.trans hB2 (hB3.mono (Nat.le_of_lt zz))); have zz3 : wo.heap.size < w3.heap.size := Nat.lt_of_lt_of_le zz hB3.size; have HBK3 : Hid ((w3.setCell ⟨wo.heap.size, 1, none⟩ (.int .i64 (D : Int))).heap[wo.heap.size]? = some (.cells #[.int .i64 (o : Int), .int .i64 (D : Int)] 43 (0, 0))) := Lib.hid (heap_setCell_same w3 wo.heap.size 1 _ _ (.int .i64 (D : Int)) b); clear b hB3) | (go_at_call 113; clear TB; refine (CW.out _ _).mono ?_; rintro e w4 ⟨rfl, hB4⟩; have zz4' : wo.heap.size < (w3.setCell ⟨wo.heap.size, 1, none⟩ (.int .i64 (D : Int))).heap.size := (by simpa using zz3); have b := (hB4.block wo.heap.size zz4').trans HBK3.out; have c0 := blk_cell b 0 rfl; have c1 := blk_cell b 1 rfl; have k0 := blk_frozen b 0; have HB4 : Hid (Below wo.heap.size wo w4) := Lib.hid (Below.trans (Below.setCell HB3.out (Nat.le_refl _) _) (hB4.mono (Nat.le_of_lt zz4'))); have zz4 : wo.heap.size < w4.heap.size := Nat.lt_of_lt_of_le zz4' hB4.size; have HBK4 := Lib.hid b; clear b hB4) | (go_at_call 104; refine (full_any g c P o D ho hD _ (HA.out.below (Below.trans hB (HB4.out.mono hB.size)))).mono ?_; rintro e w5 ⟨he, hB5⟩; rw [HFU.out] at he; subst he; have b := (hB5.block wo.heap.size zz4).trans HBK4.out; have c0 := blk_cell b 0 rfl; have c1 := blk_cell b 1 rfl; have k0 := blk_frozen b 0; have HB5 : Hid (Below wo.heap.size wo w5) := Lib.hid (Below.trans HB4.out (hB5.mono (Nat.le_of_lt zz4))); have zz5 : wo.heap.size < w5.heap.size := Nat.lt_of_lt_of_le zz4 hB5.size; have HBK5 := Lib.hid b; clear b hB5))
              have ho4 : o ≠ 4 := by rintro rfl; have h1 := HFOUR.out; rw [HOKF.out] at h1; cases h1
              go_roundg (4 - o)
              case measure => omega
              case rel => exact ⟨o + 1, (D : Int), by omega, by omega, Lib.hid (heap_setCell_same w5 wo.heap.size 0 _ _ (.int .i64 ((o : Int) + 1)) HBK5.out), Below.setCell HB5.out (Nat.le_refl _) _, Lib.hid (fun o' ho' => by
                  rcases Nat.lt_or_ge o' o with h | h
                  · exact hNO.out o' h
                  · obtain rfl : o' = o := by omega
                    exact HOKF.out)⟩
          · have t1 : (M == 0) = false := by simpa using hM
            have t2 : ((M : Int) == 0) = false := by simp; omega
            have HOKF : Hid (okAt P q o = false) := Lib.hid (by rw [HOK.out]; simp [hM])
            clear hM
            go_wp2_with (first | (go_at_call 113; clear TA; refine (CW.out _ _).mono ?_; rintro e w3 ⟨rfl, hB3⟩; have b := (hB3.block wo.heap.size zz).trans HBK.out; have c0 := blk_cell b 0 rfl; have c1 := blk_cell b 1 rfl; have k1 := blk_frozen b 1; have HB3 : Hid (Below wo.heap.size wo w3) := Lib.hid (Below.trans hB2 (hB3.mono (Nat.le_of_lt zz))); have zz3 : wo.heap.size < w3.heap.size := Nat.lt_of_lt_of_le zz hB3.size; have HBK3 : Hid ((w3.setCell ⟨wo.heap.size, 1, none⟩ (.int .i64 (D : Int))).heap[wo.heap.size]? = some (.cells #[.int .i64 (o : Int), .int .i64 (D : Int)] 43 (0, 0))) := Lib.hid (heap_setCell_same w3 wo.heap.size 1 _ _ (.int .i64 (D : Int)) b); clear b hB3) | (go_at_call 113; clear TB; refine (CW.out _ _).mono ?_; rintro e w4 ⟨rfl, hB4⟩; have zz4' : wo.heap.size < (w3.setCell ⟨wo.heap.size, 1, none⟩ (.int .i64 (D : Int))).heap.size := (by simpa using zz3); have b := (hB4.block wo.heap.size zz4').trans HBK3.out; have c0 := blk_cell b 0 rfl; have c1 := blk_cell b 1 rfl; have k0 := blk_frozen b 0; have HB4 : Hid (Below wo.heap.size wo w4) := Lib.hid (Below.trans (Below.setCell HB3.out (Nat.le_refl _) _) (hB4.mono (Nat.le_of_lt zz4'))); have zz4 : wo.heap.size < w4.heap.size := Nat.lt_of_lt_of_le zz4' hB4.size; have HBK4 := Lib.hid b; clear b hB4))
            have ho4 : o ≠ 4 := by rintro rfl; have h1 := HFOUR.out; rw [HOKF.out] at h1; cases h1
            go_roundg (4 - o)
            case measure => omega
            case rel => exact ⟨o + 1, (D : Int), by omega, by omega, Lib.hid (heap_setCell_same w4 wo.heap.size 0 _ _ (.int .i64 ((o : Int) + 1)) HBK4.out), Below.setCell HB4.out (Nat.le_refl _) _, Lib.hid (fun o' ho' => by
                rcases Nat.lt_or_ge o' o with h | h
                · exact hNO.out o' h
                · obtain rfl : o' = o := by omega
                  exact HOKF.out)⟩
    · obtain rfl : q = 3072 := by omega
      have hl : l = cellsP P := by have := hI.out; rwa [from_end (Nat.le_refl _), List.append_nil] at this
      subst hl
      obtain ⟨A', c', rfl, hC⟩ := own_layers hown
      have HC := Lib.hid hC
      clear hown hC
      go_wp2
      go_ret
      exact ⟨A', c', rfl, HC.out, hB⟩
end Go.Proofs.Ytnnfnphmieikmaa
