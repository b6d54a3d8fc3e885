/-
  Contracts: largest, cells, set.
-/
import Derived.Test.YtnnfnphmieikmaaReg
namespace Go.Proofs.Ytnnfnphmieikmaa
open Go Go.RowKit Go.Shelf

def lgO (P : Nat → Bool) (q : Nat) : Int := if P q then ((ordAt P q : Nat) : Int) else 0
def lgD (P : Nat → Bool) (q : Nat) : Int := if P q then ((q / wN (ordAt P q) : Nat) : Int) else 0
set_option maxRecDepth 100000 in
set_option maxHeartbeats 800000 in
theorem largest_any (g : Nat) (P : Nat → Bool) (q : Nat) (hq : q < 3072) (w : World) (h : Reg w g P) :
    Calls Try.prog 120 #[.pointer (some ⟨g, 0, none⟩), .int .i64 (q : Int)] w fun e w' => e = .returned (.tuple #[.agg #[.int .i64 (lgO P q), .int .i64 (lgD P q)], .bool (P q)]) ∧ Below w.heap.size w w' := by
  have HR := Lib.hid h
  have HFOUR := Lib.hid (okAt_four P q)
  have HYES : Hid (∀ o, o < 5 → (∀ o', o' < o → okAt P q o' = false) → okAt P q o = true → P q = true ∧ lgO P q = (o : Int) ∧ lgD P q = ((q / wN o : Nat) : Int)) := Lib.hid (fun o ho hn hk => by
    have e := ord_eq ho hn hk
    have hp := okAt_has hk
    exact ⟨hp, by rw [lgO, if_pos hp, e], by rw [lgD, if_pos hp, e]⟩)
  have HNONE : Hid (P q = false → lgO P q = 0 ∧ lgD P q = 0) := Lib.hid (fun hp => by rw [lgO, lgD, hp]; exact ⟨rfl, rfl⟩)
  clear h
  go_enter Try.func120, Try.ntmps120
  go_wp2
  go_loopw [8] (fun i wr => ∃ o : Nat, o ≤ 5 ∧ i = .int .i64 o ∧ Below w.heap.size w wr ∧ Hid (∀ o', o' < o → okAt P q o' = false) ∧ Hid (wr.heap[w.heap.size]? = some (.cells #[.int .i64 0, .int .i64 0] 43 (0, 0)))) (fun i _ => 5 - (intOf i).toNat)
  case atStart => exact ⟨0, Nat.zero_le _, rfl, Below.alloc (Below.refl _ _) (Nat.le_refl _) _, Lib.hid (fun o' ho' => by omega), Lib.hid (heap_alloc_new w _)⟩
  case round =>
    obtain ⟨o, ho5, rfl, hB, hNO, hbk⟩ := hrel
    by_cases ho : o < 5
    · have to : decide ((o : Int) < 5) = true := decide_eq_true (by omega)
      have zz := (Array.getElem?_eq_some_iff.1 hbk.out).1
      have hS1 := wN_pos o
      have hD : q / wN o < pxN o := by have e := px_w ho; exact Nat.div_lt_of_lt_mul (by rw [Nat.mul_comm, e]; exact hq)
      have cU : ∀ W, Calls Try.prog 88 #[.agg #[.int .i64 4, .int .i64 (q : Int)], .int .i64 (o : Int)] W fun e w' => e = .returned (.agg #[.int .i64 (o : Int), .int .i64 ((q / wN o : Nat) : Int)]) ∧ Below W.heap.size W w' := fun W => by
        have := up_any o (4 - o) q (by omega) W
        rw [show ((o + (4 - o) : Nat) : Int) = 4 by omega] at this
        exact this
      have hDl : q / wN o ≤ 3072 := by have := Nat.div_le_self q (wN o); omega
      have cF := fun W => first_any o (q / wN o) ho hDl W
      have cH := fun W (hW : Reg W g P) => has_any g P o (q / wN o) ho hD W hW
      have HOK : Hid (okAt P q o = (decide (q % wN o = 0) && fullB P o (q / wN o))) := Lib.hid rfl
      have HY := Lib.hid (HYES.out o ho hNO.out)
      have HM : Hid (q / wN o * wN o = q ↔ q % wN o = 0) := Lib.hid (by
        have h1 := Nat.div_add_mod q (wN o)
        rw [Nat.mul_comm] at h1; omega)
      have hFb : q / wN o * wN o ≤ 3072 := by have := Nat.div_mul_le_self q (wN o); omega
      obtain ⟨M, hMe⟩ : ∃ M, M = q % wN o := ⟨_, rfl⟩
      rw [← hMe] at HOK HM
      clear hMe
      generalize q / wN o = D at *
      generalize hF : D * wN o = F at *
      have CU := Lib.hid cU
      have CF := Lib.hid cF
      have CH := Lib.hid cH
      clear cU cF cH hF hS1
      have HBK := hbk
      clear hbk
      by_cases hFq : F = q
      · have t1 : (F == q) = true := by simpa using hFq
        have t2 : ((F : Int) == (q : Int)) = true := by simp; omega
        have hM0 := HM.out.1 hFq
        cases hf : fullB P o D with
        | true =>
          have hk := HY.out (by rw [HOK.out, hf, hM0]; rfl)
          have HK := Lib.hid hk
          have HFU := Lib.hid hf
          clear hk hf hFq hM0
          go_wp2_with (first
            | (go_at_call 88; refine (CU.out _).mono ?_; rintro e w1 ⟨rfl, hB1⟩; have HW1 : Hid (Below w.heap.size w w1) := Lib.hid (Below.trans hB (hB1.mono hB.size)); have HBK1 : Hid (w1.heap[w.heap.size]? = _) := Lib.hid ((hB1.block w.heap.size zz).trans HBK.out); have zz1 : w.heap.size < w1.heap.size := Nat.lt_of_lt_of_le zz hB1.size; clear hB1)
            | (go_at_call 121; refine (CF.out _).mono ?_; rintro e w2 ⟨rfl, hB2⟩; have zz2' : w.heap.size < (w1.alloc (.cells #[.int .i64 (o : Int), .int .i64 (D : Int)] 43)).heap.size := (by simp; omega); have HW2 : Hid (Below w.heap.size w w2) := Lib.hid (Below.trans (Below.alloc HW1.out (Nat.le_of_lt zz1) _) (hB2.mono (Nat.le_of_lt zz2'))); have HBK2 : Hid (w2.heap[w.heap.size]? = _) := Lib.hid ((hB2.block w.heap.size zz2').trans ((heap_alloc_old w1 _ zz1).trans HBK1.out)); have b3 := (hB2.block w1.heap.size (by simp)).trans (heap_alloc_new w1 _); have c0 := blk_cell b3 0 rfl; have c1 := blk_cell b3 1 rfl; have HB3 := Lib.hid b3; have zz2 : w.heap.size < w2.heap.size := Nat.lt_of_lt_of_le zz2' hB2.size; have zg := (Array.getElem?_eq_some_iff.1 b3).1; clear b3 hB2)
            | (go_at_call 103; refine (CH.out _ (HR.out.below HW2.out)).mono ?_; rintro e w4 ⟨he, hB4⟩; rw [HFU.out] at he; subst he; have HW4 : Hid (Below w.heap.size w w4) := Lib.hid (Below.trans HW2.out (hB4.mono HW2.out.size)); have b3 := (hB4.block w1.heap.size zg).trans HB3.out; have c0 := blk_cell b3 0 rfl; have c1 := blk_cell b3 1 rfl; have b4 := (hB4.block w.heap.size zz2).trans HBK2.out; have d0 := blk_cell b4 0 rfl; have d1 := blk_cell b4 1 rfl; have k0 := blk_frozen b4 0; have k1 := blk_frozen b4 1; clear b3 b4 hB4)
            | fail)
          exact bodyPost_ret (v := .tuple #[.agg #[.int .i64 (o : Int), .int .i64 (D : Int)], .bool true]) (by simp [results, Try.results120, go_sem, d0, d1]) rfl ⟨by rw [HK.out.1, HK.out.2.1, HK.out.2.2], Below.setCell (Below.setCell HW4.out (Nat.le_refl _) _) (Nat.le_refl _) _⟩
        | false =>
          have HOKF : Hid (okAt P q o = false) := Lib.hid (by rw [HOK.out, hf]; simp)
          have HFU := Lib.hid hf
          clear hf hFq hM0
          go_wp2_with (first
            | (go_at_call 88; refine (CU.out _).mono ?_; rintro e w1 ⟨rfl, hB1⟩; have HW1 : Hid (Below w.heap.size w w1) := Lib.hid (Below.trans hB (hB1.mono hB.size)); have HBK1 : Hid (w1.heap[w.heap.size]? = _) := Lib.hid ((hB1.block w.heap.size zz).trans HBK.out); have zz1 : w.heap.size < w1.heap.size := Nat.lt_of_lt_of_le zz hB1.size; clear hB1)
            | (go_at_call 121; refine (CF.out _).mono ?_; rintro e w2 ⟨rfl, hB2⟩; have zz2' : w.heap.size < (w1.alloc (.cells #[.int .i64 (o : Int), .int .i64 (D : Int)] 43)).heap.size := (by simp; omega); have HW2 : Hid (Below w.heap.size w w2) := Lib.hid (Below.trans (Below.alloc HW1.out (Nat.le_of_lt zz1) _) (hB2.mono (Nat.le_of_lt zz2'))); have HBK2 : Hid (w2.heap[w.heap.size]? = _) := Lib.hid ((hB2.block w.heap.size zz2').trans ((heap_alloc_old w1 _ zz1).trans HBK1.out)); have b3 := (hB2.block w1.heap.size (by simp)).trans (heap_alloc_new w1 _); have c0 := blk_cell b3 0 rfl; have c1 := blk_cell b3 1 rfl; have zz2 : w.heap.size < w2.heap.size := Nat.lt_of_lt_of_le zz2' hB2.size; clear b3 hB2)
            | (go_at_call 103; refine (CH.out _ (HR.out.below HW2.out)).mono ?_; rintro e w4 ⟨he, hB4⟩; rw [HFU.out] at he; subst he; have HW4 : Hid (Below w.heap.size w w4) := Lib.hid (Below.trans HW2.out (hB4.mono HW2.out.size)); have HBK4 : Hid (w4.heap[w.heap.size]? = _) := Lib.hid ((hB4.block w.heap.size zz2).trans HBK2.out); clear hB4)
            | fail)
          go_roundw
          case rel => exact ⟨o + 1, by omega, by go_num, HW4.out, Lib.hid (fun o' ho' => by
              rcases Nat.lt_or_ge o' o with h | h
              · exact hNO.out o' h
              · obtain rfl : o' = o := by omega
                exact HOKF.out), HBK4⟩
          case measure => simp [intOf]; omega
      · have t1 : (F == q) = false := by simpa using hFq
        have t2 : ((F : Int) == (q : Int)) = false := by simp; omega
        have HOKF : Hid (okAt P q o = false) := Lib.hid (by rw [HOK.out, decide_eq_false (fun h => hFq (HM.out.2 h))]; rfl)
        clear hFq
        go_wp2_with (first
          | (go_at_call 88; refine (CU.out _).mono ?_; rintro e w1 ⟨rfl, hB1⟩; have HW1 : Hid (Below w.heap.size w w1) := Lib.hid (Below.trans hB (hB1.mono hB.size)); have HBK1 : Hid (w1.heap[w.heap.size]? = _) := Lib.hid ((hB1.block w.heap.size zz).trans HBK.out); have zz1 : w.heap.size < w1.heap.size := Nat.lt_of_lt_of_le zz hB1.size; clear hB1)
          | (go_at_call 121; refine (CF.out _).mono ?_; rintro e w2 ⟨rfl, hB2⟩; have zz2' : w.heap.size < (w1.alloc (.cells #[.int .i64 (o : Int), .int .i64 (D : Int)] 43)).heap.size := (by simp; omega); have HW2 : Hid (Below w.heap.size w w2) := Lib.hid (Below.trans (Below.alloc HW1.out (Nat.le_of_lt zz1) _) (hB2.mono (Nat.le_of_lt zz2'))); have HBK2 : Hid (w2.heap[w.heap.size]? = _) := Lib.hid ((hB2.block w.heap.size zz2').trans ((heap_alloc_old w1 _ zz1).trans HBK1.out)); clear hB2)
          | fail)
        go_roundw
        case rel => exact ⟨o + 1, by omega, by go_num, HW2.out, Lib.hid (fun o' ho' => by
            rcases Nat.lt_or_ge o' o with h | h
            · exact hNO.out o' h
            · obtain rfl : o' = o := by omega
              exact HOKF.out), HBK2⟩
        case measure => simp [intOf]; omega
    · obtain rfl : o = 5 := by omega
      have hp : P q = false := by rw [← HFOUR.out]; exact hNO.out 4 (by omega)
      have HP := Lib.hid hp
      have HZ := Lib.hid (HNONE.out hp)
      have d0 := blk_cell hbk.out 0 (u := .int .i64 0) rfl
      have d1 := blk_cell hbk.out 1 (u := .int .i64 0) rfl
      have k0 := blk_frozen hbk.out 0
      have k1 := blk_frozen hbk.out 1
      clear hp hbk
      go_wp2
      exact bodyPost_ret (v := .tuple #[.agg #[.int .i64 0, .int .i64 0], .bool false]) (by simp [results, Try.results120, go_sem, d0, d1]) rfl ⟨by rw [HP.out, HZ.out.1, HZ.out.2], Below.setCell (Below.setCell hB (Nat.le_refl _) _) (Nat.le_refl _) _⟩

set_option maxRecDepth 100000 in
set_option maxHeartbeats 800000 in
theorem cells_any (g : Nat) (P : Nat → Bool) (w : World) (h : Reg w g P) :
    Calls Try.prog 98 #[.pointer (some ⟨g, 0, none⟩)] w fun e w' => ∃ A c', e = .returned (.slice A (cellsP P).length c') ∧ Clk w' A c' (cellsP P) ∧ Below w.heap.size w w' := by
  have HR := Lib.hid h
  have HLEN := Lib.hid (cellsP_len P)
  have CX : Hid (∀ W, Calls Try.prog 66 #[.int .i64 4] W fun e w' => e = .returned (.int .i64 3072) ∧ W = w') := Lib.hid (fun W => (pixels_any 4 (by omega) W).mono fun _ _ h => ⟨by rw [h.1]; rfl, h.2⟩)
  clear h
  go_enter Try.func98, Try.ntmps98
  go_wp2
  go_loopw [3, 4] (fun v i wr => ∃ (q : Nat) (l : List (Int × Int)), q ≤ 3072 ∧ i = .int .i64 q ∧ wr.ownsRow w.heap.size 43 2 v l.length (l.flatMap mk2) ∧ Below w.heap.size w wr ∧ Hid (l ++ cellsFrom P q = cellsP P)) (fun _ i _ => 3072 - (intOf i).toNat)
  case atStart => exact ⟨0, [], Nat.zero_le _, rfl, ⟨rfl, .inl ⟨rfl, rfl⟩⟩, Below.refl _ _, Lib.hid rfl⟩
  case round =>
    obtain ⟨q, l, hq, rfl, hown, hB, hI⟩ := hrel
    by_cases hlt : q < 3072
    · have HO := Lib.hid hown
      have CL := Lib.hid (fun W (hW : Reg W g P) => largest_any g P q hlt W hW)
      have tq : decide ((q : Int) < 3072) = true := decide_eq_true (by omega)
      clear hown
      cases hP : P q with
      | false =>
        have HI := Lib.hid (show l ++ cellsFrom P (q + 1) = cellsP P by rw [← from_no hlt hP]; exact hI.out)
        rw [hP] at CL
        clear hP hI
        go_wp2_with (first
          | (go_at_call 66; refine (CX.out _).mono ?_; rintro e w1 ⟨rfl, rfl⟩)
          | (go_at_call 120; refine (CL.out _ (HR.out.below hB)).mono ?_; rintro e w2 ⟨rfl, hB2⟩; have HO2 := Lib.hid (own_below HO.out hB2); have hW2 := below_step hB hB2; have hz2 := hW2.size; clear hB2))
        go_roundw
        case rel => exact ⟨q + 1, l, by omega, by go_num, own_below HO2.out (Below.alloc (Below.refl _ _) (Nat.le_refl _) _), Below.alloc hW2 hz2 _, HI⟩
        case measure => simp [intOf]; omega
      | true =>
        have HI := Lib.hid (show (l ++ [(((ordAt P q : Nat) : Int), ((q / wN (ordAt P q) : Nat) : Int))]) ++ cellsFrom P (q + wN (ordAt P q)) = cellsP P by rw [List.append_assoc, List.singleton_append, ← from_yes hlt hP]; exact hI.out)
        have HEND := Lib.hid (ord_end hlt hP)
        have HLE := Lib.hid (show l.length ≤ 3072 by have := congrArg List.length hI.out; simp at this; have := HLEN.out; omega)
        have e1 : lgO P q = ((ordAt P q : Nat) : Int) := if_pos hP
        have e2 : lgD P q = ((q / wN (ordAt P q) : Nat) : Int) := if_pos hP
        rw [hP, e1, e2] at CL
        have ho := ord_le P q
        have hS1 := wN_pos (ordAt P q)
        have hS2 := wN_le (ordAt P q)
        have hDl : q / wN (ordAt P q) ≤ 3072 := by have := Nat.div_le_self q (wN (ordAt P q)); omega
        generalize ordAt P q = o at *
        have CS := Lib.hid (fun (p : Int) W => size_any o ho p W)
        generalize hSS : wN o = S at *
        generalize q / S = D at *
        clear hP hI e1 e2
        go_wp2_with (first
          | (go_at_call 66; refine (CX.out _).mono ?_; rintro e w1 ⟨rfl, rfl⟩)
          | (go_at_call 120; refine (CL.out _ (HR.out.below hB)).mono ?_; rintro e w2 ⟨rfl, hB2⟩; have HO2 := Lib.hid (own_below (own_below HO.out hB2) (Below.alloc (Below.refl _ _) (Nat.le_refl _) (.cells #[.int .i64 (o : Int), .int .i64 (D : Int)] 43))); have hW2 := below_step hB hB2; have hz2 := hW2.size; have HF : Hid (∀ g, w2.heap.size ≤ g → Value.ownBlock _ ≠ some g) := Lib.hid (fun g hg => own_far (own_below HO.out hB2) hg); clear hB2)
          | (at_builtin; refine wp_app_cell (w2.alloc (.cells #[.int .i64 (o : Int), .int .i64 (D : Int)] 43)) rfl (.tmp 20) (.tmp 22) rfl w.heap.size _ l.length l (o : Int) (D : Int) rfl HO2.out (w2.heap.size + 1) rfl (by simp) (Nat.le_trans HLE.out (by omega)) (by simp; omega) ?_; intro v2 w6 hown2 hB6 hfar hz6; have HO6 := Lib.hid hown2; have b := (hfar w2.heap.size (by simp) (HF.out _ (Nat.le_refl _))).trans (heap_alloc_new w2 _); have c0 := blk_cell b 0 rfl; have c1 := blk_cell b 1 rfl; have HW6 : Hid (Below w.heap.size w w6) := Lib.hid (Below.trans (Below.alloc hW2 hz2 _) hB6); clear b hown2 hB6 hfar)
          | (go_at_call 100; refine (CS.out _ _).mono ?_; rintro e w7 ⟨rfl, hB7⟩; have HW7 : Hid (Below w.heap.size w w7) := Lib.hid (Below.trans HW6.out (hB7.mono HW6.out.size)); have HO7 := Lib.hid (own_below HO6.out hB7); clear hB7)
          | fail)
        go_roundw
        case rel => exact ⟨q + S, l ++ [((o : Int), (D : Int))], HEND.out, by go_num, by rw [List.length_append]; exact HO7.out, HW7.out, HI⟩
        case measure => simp [intOf]; omega
    · obtain rfl : q = 3072 := by omega
      have hl : l = cellsP P := by have := hI.out; rwa [from_end (Nat.le_refl _), List.append_nil] at this
      subst hl
      obtain ⟨A', c', rfl, hC⟩ := own_layers hown
      have HC := Lib.hid hC
      clear hown hC
      go_wp2_with (go_at_call 66; refine (CX.out _).mono ?_; rintro e w1 ⟨rfl, rfl⟩)
      go_ret
      exact ⟨A', c', rfl, HC.out, hB⟩
theorem regSet_any (g : Nat) (P : Nat → Bool) (w : World) (h : Reg w g P) :
    Calls Try.prog 93 #[.pointer (some ⟨g, 0, none⟩)] w fun e w' => ∃ A c', e = .returned (.tuple #[.slice A (stL P).length c', .int .i64 (stE P)]) ∧ Clk w' A c' (stL P) ∧ Below w.heap.size w w' := by
  have hlen := cellsP_len P
  have CC := Lib.hid (cells_any g P w h)
  clear h
  by_cases hl : (cellsP P).length ≤ 400
  · have e1 : stL P = cellsP P := if_pos hl
    have e2 : stE P = 0 := if_pos hl
    rw [e1, e2]
    clear e1 e2
    go_enter Try.func93, Try.ntmps93
    go_wp2_with (go_at_call 98; refine (CC.out).mono ?_; rintro e w1 ⟨A1, c1, rfl, hC1, hB1⟩)
    go_ret2
    exact ⟨A1, c1, rfl, hC1, hB1⟩
  · have e1 : stL P = [] := if_neg hl
    have e2 : stE P = 4 := if_neg hl
    rw [e1, e2]
    clear e1 e2
    go_enter Try.func93, Try.ntmps93
    go_wp2_with (go_at_call 98; refine (CC.out).mono ?_; rintro e w1 ⟨A1, c1, rfl, hC1, hB1⟩)
    go_ret2
    exact ⟨none, 0, rfl, Clk.nil_, hB1⟩
end Go.Proofs.Ytnnfnphmieikmaa
