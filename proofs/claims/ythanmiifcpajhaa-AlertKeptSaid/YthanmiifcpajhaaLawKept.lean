/-
  The walk of AlertKept: it returns true, whatever it is given.
-/
import Derived.Test.YthanmiifcpajhaaSane
import Derived.Test.YthanmiifcpajhaaEitherM
import Derived.Test.YthanmiifcpajhaaKeptL
import Derived.IntWalk
set_option linter.unusedVariables false
set_option linter.unusedSimpArgs false
namespace Go.Proofs.Ythanmiifcpajhaa
open Go Go.RowKit Go.Shelf

theorem cell_dN (w : World) (n : Nat) (p : Addr) : (w.drewN n).cell? p = w.cell? p := by first | simp; done | rfl
set_option maxRecDepth 100000 in
set_option maxHeartbeats 8000000 in
theorem keptL_core (ts T F : List (Int × Int × Int)) (L : List Int) (A : Option Addr) (cap nf xn : Nat) (o : Int) (w : World) (is : Bool) (hH : Marks w A ts) (hts : 1 ≤ ts.length ∧ ts.length ≤ 12)
    (ho : 0 ≤ o ∧ o ≤ 255) (hx0 : o % (ts.length : Int) = (xn : Int)) (hxn : xn < ts.length) (hLn : L.length ≤ ts.length)
    (hix : ∀ i, i < L.length → ∃ j : Nat, j < ts.length ∧ L[i]? = some (j : Int)) (hup : ∀ (i j : Nat) (a b : Int), i < j → L[i]? = some a → L[j]? = some b → a < b)
    (his : L.any (fun i => i == (xn : Int)) = is) (hT : L.map (tkG ts) = T) (hF : (frL L xn L.length).map (tkG ts) = F) (hnf : F.length + 1 = nf)
    (h1 : ∀ W, Calls Try.prog 15 #[.slice A ts.length cap] W fun e w' => e = .returned (.bool false) ∧ W = w')
    (h2 : ∀ W, Below w.heap.size w W → Calls Try.prog 20 #[.slice A ts.length cap] W fun e w' => e = .returned (.bool true) ∧ Below W.heap.size W w')
    (h3 : ∀ W, Below w.heap.size w W → Calls Try.prog 53 #[.slice A ts.length cap] W fun e w' => ∃ D d, e = .returned (.tuple #[.slice D L.length d, .int .i64 0]) ∧ Out w' D d L ∧ Below W.heap.size W w')
    (h4 : ∀ W D d, Clk W D d T → 0 < T.length → Calls Try.prog 30 #[.slice D T.length d] W fun e w' => e = .returned (.tuple #[.bool true, .int .i64 0]) ∧ Below W.heap.size W w')
    (h5 : ∀ W D d, Clk W D d (F ++ [ts.getD xn tkZ]) → Calls Try.prog 30 #[.slice D nf d] W fun e w' => e = .returned (.tuple #[.bool is, .int .i64 0]) ∧ Below W.heap.size W w') :
    Calls Try.prog 13 #[.slice A ts.length cap, .int .u8 o] w fun e w' => e = .returned (.bool true) ∧ Below w.heap.size w w' := by
  have H1 := Lib.hid h1
  have H2 := Lib.hid h2
  have H3 := Lib.hid h3
  have H4 := Lib.hid h4
  have H5 := Lib.hid h5
  have HIX := Lib.hid hix
  have HUP := Lib.hid hup
  have HIS := Lib.hid his
  have HT := Lib.hid hT
  have HF := Lib.hid hF
  have HNF := Lib.hid hnf
  obtain ⟨ht1, ht2⟩ := hts
  obtain ⟨o1, o2⟩ := ho
  obtain ⟨bl, off, rfl, hbk, hcells⟩ := hH.open_ (show 0 < ts.length by omega)
  have HC := Lib.hid hcells
  obtain ⟨zx, zy, zd, hz⟩ := getT_of_lt hxn
  have HZ := Lib.hid hz
  have HZG := Lib.hid (getT_of hz)
  have HXN := Lib.hid hxn
  have hFl : F.length ≤ 12 := by
    have h := fr_len L (xn : Int) L.length
    rw [← hF, List.length_map]; omega
  have hTl : T.length = L.length := by rw [← hT, List.length_map]
  have HTL := Lib.hid hTl
  have HFL := Lib.hid hFl
  have hW0 : Below w.heap.size w w := Below.refl _ _
  have TA : Hid True := Lib.hid trivial
  have ea : o.tmod (ts.length : Int) = (xn : Int) := by rw [Int.tmod_eq_emod_of_nonneg o1]; exact hx0
  have w0 : IntKind.i64.wrap o = o := IntWalk.i64_in _ (by omega)
  have v0 : IntKind.i64.wrap (xn : Int) = (xn : Int) := IntWalk.i64_in _ (by omega)
  have z0 : ((ts.length : Int) == 0) = false := beq_eq_false_iff_ne.2 (by omega)
  clear h1 h2 h3 h4 h5 hix hup his hT hF hnf hH hcells hz hx0 hFl hTl hxn
  go_enter Try.func13, Try.ntmps13
  go_wp2_with (first
    | (go_at_call 15; refine (H1.out _).mono ?_; rintro e w' ⟨rfl, rfl⟩)
    | (go_at_call 20; refine (H2.out _ hW0).mono ?_; rintro e w1 ⟨rfl, hB1⟩; have hW1 := below_step hW0 hB1; clear hB1)
    | (go_at_call 53; refine (H3.out _ hW1).mono ?_; rintro e w2 ⟨D1, d1, rfl, hOO1, hB2⟩; have hW2 := below_step hW1 hB2; have O1 := Lib.hid hOO1; clear hOO1; clear hB2)
    | fail)
  clear ea w0 v0 z0
  go_loopw [8, 9, 10, 11] (fun a b c i wr => ∃ k : Nat, k ≤ L.length ∧ i = .int .i64 k ∧ c = .bool ((L.take k).any (fun i => i == (xn : Int))) ∧ Hid (wr.ownsRow w2.heap.size 53 3 a k (((L.take k).map (tkG ts)).flatMap mk3)) ∧ Hid (wr.ownsRow w2.heap.size 53 3 b (frL L xn k).length (((frL L xn k).map (tkG ts)).flatMap mk3)) ∧ Hid (Sep a b) ∧ Below w2.heap.size w2 wr) (fun _ _ _ i _ => L.length - (intOf i).toNat)
  case atStart => exact ⟨0, Nat.zero_le _, rfl, rfl, Lib.hid ⟨rfl, .inl ⟨rfl, rfl⟩⟩, Lib.hid ⟨rfl, .inl ⟨rfl, rfl⟩⟩, Lib.hid (fun g h => by cases h), Below.refl _ _⟩
  case round =>
    obtain ⟨k, hk, rfl, rfl, hK, hS, hsp, hB⟩ := hrel
    rename World => wr
    by_cases hlt : k < L.length
    · obtain ⟨j, hj, hLj⟩ := HIX.out k hlt
      obtain ⟨x, y, d, hx⟩ := getT_of_lt hj
      obtain ⟨bu, ou, rfl, hbu, hcu⟩ := O1.out.ints.open_ (by omega)
      have hbl : bl < w2.heap.size := Nat.lt_of_lt_of_le hbk hW2.size
      have c0 := (hB.cell (p := ⟨bu, ou + k, none⟩) hbu).trans (hcu k j hLj)
      have f0 := ((hB.cell (p := ⟨bl, off + j * 3, none⟩) hbl).trans (hW2.cell (p := ⟨bl, off + j * 3, none⟩) hbk)).trans (HC.out _ _ hx).1
      have f1 := ((hB.cell (p := ⟨bl, off + j * 3 + 1, none⟩) hbl).trans (hW2.cell (p := ⟨bl, off + j * 3 + 1, none⟩) hbk)).trans (HC.out _ _ hx).2.1
      have f2 := ((hB.cell (p := ⟨bl, off + j * 3 + 2, none⟩) hbl).trans (hW2.cell (p := ⟨bl, off + j * 3 + 2, none⟩) hbk)).trans (HC.out _ _ hx).2.2
      have hg : tkG ts (j : Int) = (x, y, d) := by rw [tkG, Int.toNat_natCast, getT_of hx]
      have HSN : Hid ((L.take (k + 1)).map (tkG ts) = (L.take k).map (tkG ts) ++ [(x, y, d)]) := Lib.hid (by rw [take_snoc hLj, List.map_append, List.map_singleton, hg])
      have HAN : Hid ((L.take (k + 1)).any (fun i => i == (xn : Int)) = ((L.take k).any (fun i => i == (xn : Int)) || ((j : Int) == (xn : Int)))) := Lib.hid (any_snoc hLj)
      have HFY : Hid ((j : Int) < (xn : Int) → frL L xn (k + 1) = frL L xn k ++ [(j : Int)]) := Lib.hid (fun h => fr_yes hLj h)
      have HFN : Hid (¬ (j : Int) < (xn : Int) → frL L xn (k + 1) = frL L xn k) := Lib.hid (fun h => fr_no hLj h)
      have HG := Lib.hid hg
      have hfm : (frL L xn k).length ≤ 1000 := by have := fr_len L xn k; omega
      obtain ⟨b, hb⟩ : ∃ b, (L.take k).any (fun i => i == (xn : Int)) = b := ⟨_, rfl⟩
      obtain ⟨e, he⟩ : ∃ e, ((j : Int) == (xn : Int)) = e := ⟨_, rfl⟩
      rw [hb] at HAN ⊢
      rw [he] at HAN
      have u1 : decide ((j : Int) < 0) = false := by simp
      have u2 : decide ((ts.length : Int) ≤ (j : Int)) = false := decide_eq_false (by omega)
      have u2n : decide (ts.length ≤ j) = false := decide_eq_false (by omega)
      have hen : (j == xn) = e := by rw [← he, Bool.eq_iff_iff, beq_iff_eq, beq_iff_eq]; omega
      have hprev : k = 0 ∨ ∃ m j' : Nat, k = m + 1 ∧ wr.cell? ⟨bu, ou + m, none⟩ = some (.int .i64 (j' : Int)) ∧ j' < j ∧ j' < 12 := by
        cases k with
        | zero => exact .inl rfl
        | succ m =>
          obtain ⟨j', hj', hLj'⟩ := HIX.out m (by omega)
          have := HUP.out m (m + 1) _ _ (by omega) hLj' hLj
          exact .inr ⟨m, j', rfl, (hB.cell (p := ⟨bu, ou + m, none⟩) hbu).trans (hcu m j' hLj'), by omega, by omega⟩
      have hsz := hB.size
      clear hLj hx hcu hg hb
      by_cases hjx : (j : Int) < (xn : Int)
      · have u5 : decide ((j : Int) < (xn : Int)) = true := decide_eq_true hjx
        have u5n : decide (j < xn) = true := decide_eq_true (by omega)
        rcases hprev with hk0 | ⟨m, j', hkm, c1, hjj, hj12⟩
        · have u3 : decide ((0 : Int) < (k : Int)) = false := decide_eq_false (by omega)
          have u3n : decide (0 < k) = false := decide_eq_false (by omega)
          have hk12 : k < 12 := by omega
          clear hk0
          cases b
          all_goals
            go_wp2
            go_quiet (fail)
            have hKW : Hid ((wr.drewN nq).ownsRow w2.heap.size 53 3 u8 k (((L.take k).map (tkG ts)).flatMap mk3)) := Lib.hid (own_below hK.out (below_drewN (Below.refl _ _) nq))
            have hSW : Hid ((wr.drewN nq).ownsRow w2.heap.size 53 3 u9 (frL L xn k).length (((frL L xn k).map (tkG ts)).flatMap mk3)) := Lib.hid (own_below hS.out (below_drewN (Below.refl _ _) nq))
            have hBW : Below w2.heap.size w2 (wr.drewN nq) := below_drewN hB _
            have hsz := hBW.size
            have c0 := (cell_dN wr nq _).trans c0
            have f0 := (cell_dN wr nq _).trans f0
            have f1 := (cell_dN wr nq _).trans f1
            have f2 := (cell_dN wr nq _).trans f2
            generalize wr.drewN nq = W at hKW hSW hBW hsz c0 f0 f1 f2 ⊢
            clear hK hS
            go_wp2_with (first
              | (at_builtin; refine wp_app_task2 _ rfl (.tmp 72) (.tmp 80) rfl w2.heap.size _ k ((L.take k).map (tkG ts)) x y d rfl hKW.out rfl (by omega) hsz _ _ _ hSW.out hsp.out ?_; intro v5 w5 hK5 hB5 hS5 hsp5; have hsz5 := Nat.le_trans hsz hB5.size; have c0 := (hB5.cell (p := ⟨bu, ou + k, none⟩) hbu).trans c0; have f0 := (hB5.cell (p := ⟨bl, off + j * 3, none⟩) hbl).trans f0; have f1 := (hB5.cell (p := ⟨bl, off + j * 3 + 1, none⟩) hbl).trans f1; have f2 := (hB5.cell (p := ⟨bl, off + j * 3 + 2, none⟩) hbl).trans f2)
              | (at_builtin; refine wp_app_task2 _ rfl (.tmp 88) (.tmp 96) rfl w2.heap.size _ (frL L xn k).length ((frL L xn k).map (tkG ts)) x y d rfl hS5 rfl hfm hsz5 _ _ _ hK5 (Sep.symm hsp5) ?_; intro v6 w6 hS6 hB6 hK6 hsp6; have c0 := (hB6.cell (p := ⟨bu, ou + k, none⟩) hbu).trans c0; have f0 := (hB6.cell (p := ⟨bl, off + j * 3, none⟩) hbl).trans f0; have f1 := (hB6.cell (p := ⟨bl, off + j * 3 + 1, none⟩) hbl).trans f1; have f2 := (hB6.cell (p := ⟨bl, off + j * 3 + 2, none⟩) hbl).trans f2)
              | fail)
            go_roundw
            case rel => exact ⟨k + 1, by omega, by go_num, by rw [HAN.out]; rfl, Lib.hid (by rw [HSN.out]; exact hK6), Lib.hid (by rw [HFY.out hjx, List.map_append, List.map_singleton, HG.out, List.length_append]; exact hS6), Lib.hid (Sep.symm hsp6), Below.trans hBW (Below.trans hB5 hB6)⟩
            case measure => simp [intOf]; omega
        · have u3 : decide ((0 : Int) < (k : Int)) = true := decide_eq_true (by omega)
          have u3n : decide (0 < k) = true := decide_eq_true (by omega)
          have u4 : decide ((j : Int) ≤ (j' : Int)) = false := decide_eq_false (by omega)
          have u4n : decide (j ≤ j') = false := decide_eq_false (by omega)
          have wk : IntKind.i64.wrap ((k : Int) - 1) = (m : Int) := by rw [IntWalk.i64_in _ (by omega)]; omega
          have hm12 : m < 12 := by omega
          have hmL : m < L.length := by omega
          clear hkm hjj
          cases b
          all_goals
            go_wp2
            go_quiet (fail)
            have hKW : Hid ((wr.drewN nq).ownsRow w2.heap.size 53 3 u8 k (((L.take k).map (tkG ts)).flatMap mk3)) := Lib.hid (own_below hK.out (below_drewN (Below.refl _ _) nq))
            have hSW : Hid ((wr.drewN nq).ownsRow w2.heap.size 53 3 u9 (frL L xn k).length (((frL L xn k).map (tkG ts)).flatMap mk3)) := Lib.hid (own_below hS.out (below_drewN (Below.refl _ _) nq))
            have hBW : Below w2.heap.size w2 (wr.drewN nq) := below_drewN hB _
            have hsz := hBW.size
            have c0 := (cell_dN wr nq _).trans c0
            have f0 := (cell_dN wr nq _).trans f0
            have f1 := (cell_dN wr nq _).trans f1
            have f2 := (cell_dN wr nq _).trans f2
            generalize wr.drewN nq = W at hKW hSW hBW hsz c0 f0 f1 f2 ⊢
            clear hK hS
            go_wp2_with (first
              | (at_builtin; refine wp_app_task2 _ rfl (.tmp 72) (.tmp 80) rfl w2.heap.size _ k ((L.take k).map (tkG ts)) x y d rfl hKW.out rfl (by omega) hsz _ _ _ hSW.out hsp.out ?_; intro v5 w5 hK5 hB5 hS5 hsp5; have hsz5 := Nat.le_trans hsz hB5.size; have c0 := (hB5.cell (p := ⟨bu, ou + k, none⟩) hbu).trans c0; have f0 := (hB5.cell (p := ⟨bl, off + j * 3, none⟩) hbl).trans f0; have f1 := (hB5.cell (p := ⟨bl, off + j * 3 + 1, none⟩) hbl).trans f1; have f2 := (hB5.cell (p := ⟨bl, off + j * 3 + 2, none⟩) hbl).trans f2)
              | (at_builtin; refine wp_app_task2 _ rfl (.tmp 88) (.tmp 96) rfl w2.heap.size _ (frL L xn k).length ((frL L xn k).map (tkG ts)) x y d rfl hS5 rfl hfm hsz5 _ _ _ hK5 (Sep.symm hsp5) ?_; intro v6 w6 hS6 hB6 hK6 hsp6; have c0 := (hB6.cell (p := ⟨bu, ou + k, none⟩) hbu).trans c0; have f0 := (hB6.cell (p := ⟨bl, off + j * 3, none⟩) hbl).trans f0; have f1 := (hB6.cell (p := ⟨bl, off + j * 3 + 1, none⟩) hbl).trans f1; have f2 := (hB6.cell (p := ⟨bl, off + j * 3 + 2, none⟩) hbl).trans f2)
              | fail)
            go_roundw
            case rel => exact ⟨k + 1, by omega, by go_num, by rw [HAN.out]; rfl, Lib.hid (by rw [HSN.out]; exact hK6), Lib.hid (by rw [HFY.out hjx, List.map_append, List.map_singleton, HG.out, List.length_append]; exact hS6), Lib.hid (Sep.symm hsp6), Below.trans hBW (Below.trans hB5 hB6)⟩
            case measure => simp [intOf]; omega
      · have u5 : decide ((j : Int) < (xn : Int)) = false := decide_eq_false hjx
        have u5n : decide (j < xn) = false := decide_eq_false (by omega)
        rcases hprev with hk0 | ⟨m, j', hkm, c1, hjj, hj12⟩
        · have u3 : decide ((0 : Int) < (k : Int)) = false := decide_eq_false (by omega)
          have u3n : decide (0 < k) = false := decide_eq_false (by omega)
          have hk12 : k < 12 := by omega
          clear hk0
          cases b
          all_goals
            go_wp2
            go_quiet (fail)
            have hKW : Hid ((wr.drewN nq).ownsRow w2.heap.size 53 3 u8 k (((L.take k).map (tkG ts)).flatMap mk3)) := Lib.hid (own_below hK.out (below_drewN (Below.refl _ _) nq))
            have hSW : Hid ((wr.drewN nq).ownsRow w2.heap.size 53 3 u9 (frL L xn k).length (((frL L xn k).map (tkG ts)).flatMap mk3)) := Lib.hid (own_below hS.out (below_drewN (Below.refl _ _) nq))
            have hBW : Below w2.heap.size w2 (wr.drewN nq) := below_drewN hB _
            have hsz := hBW.size
            have c0 := (cell_dN wr nq _).trans c0
            have f0 := (cell_dN wr nq _).trans f0
            have f1 := (cell_dN wr nq _).trans f1
            have f2 := (cell_dN wr nq _).trans f2
            generalize wr.drewN nq = W at hKW hSW hBW hsz c0 f0 f1 f2 ⊢
            clear hK hS
            go_wp2_with (first
              | (at_builtin; refine wp_app_task2 _ rfl (.tmp 72) (.tmp 80) rfl w2.heap.size _ k ((L.take k).map (tkG ts)) x y d rfl hKW.out rfl (by omega) hsz _ _ _ hSW.out hsp.out ?_; intro v5 w5 hK5 hB5 hS5 hsp5; have hsz5 := Nat.le_trans hsz hB5.size; have c0 := (hB5.cell (p := ⟨bu, ou + k, none⟩) hbu).trans c0; have f0 := (hB5.cell (p := ⟨bl, off + j * 3, none⟩) hbl).trans f0; have f1 := (hB5.cell (p := ⟨bl, off + j * 3 + 1, none⟩) hbl).trans f1; have f2 := (hB5.cell (p := ⟨bl, off + j * 3 + 2, none⟩) hbl).trans f2)
              | fail)
            go_roundw
            case rel => exact ⟨k + 1, by omega, by go_num, by rw [HAN.out]; rfl, Lib.hid (by rw [HSN.out]; exact hK5), Lib.hid (by rw [HFN.out hjx]; exact hS5), Lib.hid hsp5, Below.trans hBW hB5⟩
            case measure => simp [intOf]; omega
        · have u3 : decide ((0 : Int) < (k : Int)) = true := decide_eq_true (by omega)
          have u3n : decide (0 < k) = true := decide_eq_true (by omega)
          have u4 : decide ((j : Int) ≤ (j' : Int)) = false := decide_eq_false (by omega)
          have u4n : decide (j ≤ j') = false := decide_eq_false (by omega)
          have wk : IntKind.i64.wrap ((k : Int) - 1) = (m : Int) := by rw [IntWalk.i64_in _ (by omega)]; omega
          have hm12 : m < 12 := by omega
          have hmL : m < L.length := by omega
          clear hkm hjj
          cases b
          all_goals
            go_wp2
            go_quiet (fail)
            have hKW : Hid ((wr.drewN nq).ownsRow w2.heap.size 53 3 u8 k (((L.take k).map (tkG ts)).flatMap mk3)) := Lib.hid (own_below hK.out (below_drewN (Below.refl _ _) nq))
            have hSW : Hid ((wr.drewN nq).ownsRow w2.heap.size 53 3 u9 (frL L xn k).length (((frL L xn k).map (tkG ts)).flatMap mk3)) := Lib.hid (own_below hS.out (below_drewN (Below.refl _ _) nq))
            have hBW : Below w2.heap.size w2 (wr.drewN nq) := below_drewN hB _
            have hsz := hBW.size
            have c0 := (cell_dN wr nq _).trans c0
            have f0 := (cell_dN wr nq _).trans f0
            have f1 := (cell_dN wr nq _).trans f1
            have f2 := (cell_dN wr nq _).trans f2
            generalize wr.drewN nq = W at hKW hSW hBW hsz c0 f0 f1 f2 ⊢
            clear hK hS
            go_wp2_with (first
              | (at_builtin; refine wp_app_task2 _ rfl (.tmp 72) (.tmp 80) rfl w2.heap.size _ k ((L.take k).map (tkG ts)) x y d rfl hKW.out rfl (by omega) hsz _ _ _ hSW.out hsp.out ?_; intro v5 w5 hK5 hB5 hS5 hsp5; have hsz5 := Nat.le_trans hsz hB5.size; have c0 := (hB5.cell (p := ⟨bu, ou + k, none⟩) hbu).trans c0; have f0 := (hB5.cell (p := ⟨bl, off + j * 3, none⟩) hbl).trans f0; have f1 := (hB5.cell (p := ⟨bl, off + j * 3 + 1, none⟩) hbl).trans f1; have f2 := (hB5.cell (p := ⟨bl, off + j * 3 + 2, none⟩) hbl).trans f2)
              | fail)
            go_roundw
            case rel => exact ⟨k + 1, by omega, by go_num, by rw [HAN.out]; rfl, Lib.hid (by rw [HSN.out]; exact hK5), Lib.hid (by rw [HFN.out hjx]; exact hS5), Lib.hid hsp5, Below.trans hBW hB5⟩
            case measure => simp [intOf]; omega
    · obtain rfl : k = L.length := by omega
      have hK1 := hK.out
      have hS1 := hS.out
      have hsz := hB.size
      rw [List.take_length, HT.out] at hK1
      rw [HF.out] at hS1
      rw [List.take_length, HIS.out]
      obtain ⟨A9, c9, rfl, hC9⟩ := own_tasks hK1
      have HC9 := Lib.hid hC9
      have hHB : Below w.heap.size w wr := below_step hW2 hB
      have e0 := (hHB.cell (p := ⟨bl, off + xn * 3, none⟩) hbk).trans (HC.out _ _ HZ.out).1
      have e1 := (hHB.cell (p := ⟨bl, off + xn * 3 + 1, none⟩) hbk).trans (HC.out _ _ HZ.out).2.1
      have e2 := (hHB.cell (p := ⟨bl, off + xn * 3 + 2, none⟩) hbk).trans (HC.out _ _ HZ.out).2.2
      have hxl := HXN.out
      have hfl := HFL.out
      have hSF : Hid (wr.ownsRow w2.heap.size 53 3 u9 F.length (F.flatMap mk3)) := Lib.hid (by have hl := hS1.1; rw [flat_len] at hl; have : F.length = (frL L (xn : Int) L.length).length := (by omega); rw [this]; exact hS1)
      clear hK hS hK1 hS1 hC9
      by_cases hz : T.length = 0
      · have z2 : decide ((0 : Int) < (T.length : Int)) = false := decide_eq_false (by omega)
        have z2n : decide (0 < T.length) = false := decide_eq_false (by omega)
        clear hz
        go_wp2_with (first
          | (at_builtin; refine wp_app_task _ rfl (.tmp 122) (.tmp 127) rfl w2.heap.size _ F.length F zx zy zd rfl hSF.out rfl (by omega) hsz ?_; intro v7 w7 hown7 hB7; obtain ⟨A7, c7, rfl, hC7⟩ := own_tasks hown7; have hC7 := Lib.hid hC7; clear hown7; rw [show (F ++ [(zx, zy, zd)]).length = nf from (List.length_append ..).trans HNF.out])
          | (go_at_call 30; refine (H5.out _ _ _ (by rw [HZG.out]; exact hC7.out)).mono ?_; rintro e w8 ⟨rfl, hB8⟩)
          | (go_at_call 16; refine (sane_any _).mono ?_; rintro e w9 ⟨rfl, hB9⟩)
          | fail)
        go_ret
        exact ⟨rfl, Below.trans hHB (Below.trans (Below.mono hB7 hW2.size) (Below.mono (below_step hB8 hB9) (Nat.le_trans hHB.size (Nat.le_trans (by simp) hB7.size))))⟩
      · have z2 : decide ((0 : Int) < (T.length : Int)) = true := decide_eq_true (by omega)
        have z2n : decide (0 < T.length) = true := decide_eq_true (by omega)
        have HP9 : Hid (0 < T.length) := Lib.hid (by omega)
        have hbw : bl < wr.heap.size := Nat.lt_of_lt_of_le hbk hHB.size
        clear hz
        go_wp2_with (first
          | (go_at_call 30; clear TA; refine (H4.out _ _ _ HC9.out HP9.out).mono ?_; rintro e w6 ⟨rfl, hB6⟩; have e0 := (hB6.cell (p := ⟨bl, off + xn * 3, none⟩) hbw).trans e0; have e1 := (hB6.cell (p := ⟨bl, off + xn * 3 + 1, none⟩) hbw).trans e1; have e2 := (hB6.cell (p := ⟨bl, off + xn * 3 + 2, none⟩) hbw).trans e2; have hSF := Lib.hid (own_below hSF.out hB6); have hsz := Nat.le_trans hsz hB6.size; have hHB := below_step hHB hB6)
          | (at_builtin; refine wp_app_task _ rfl (.tmp 122) (.tmp 127) rfl w2.heap.size _ F.length F zx zy zd rfl hSF.out rfl (by omega) hsz ?_; intro v7 w7 hown7 hB7; obtain ⟨A7, c7, rfl, hC7⟩ := own_tasks hown7; have hC7 := Lib.hid hC7; clear hown7; rw [show (F ++ [(zx, zy, zd)]).length = nf from (List.length_append ..).trans HNF.out])
          | (go_at_call 30; refine (H5.out _ _ _ (by rw [HZG.out]; exact hC7.out)).mono ?_; rintro e w8 ⟨rfl, hB8⟩)
          | (go_at_call 16; refine (sane_any _).mono ?_; rintro e w9 ⟨rfl, hB9⟩)
          | fail)
        go_ret
        exact ⟨rfl, Below.trans hHB (Below.trans (Below.mono hB7 hW2.size) (Below.mono (below_step hB8 hB9) (Nat.le_trans hHB.size (Nat.le_trans (by simp) hB7.size))))⟩

set_option maxRecDepth 100000 in
set_option maxHeartbeats 4000000 in
theorem alertKept_walk (ts : List (Int × Int × Int)) (A : Option Addr) (cap : Nat) (o : Int) (w : World) (hA : Marks w A ts) (hc : ts.length ≤ cap) (hc0 : cap ≤ maxLen) (ho : (Lit.int .u8 o).wf = true) :
    Calls Try.prog 13 #[.slice A ts.length cap, .int .u8 o] w fun e w' => e = .returned (.bool true) ∧ Below w.heap.size w w' := by
  have hl : ts.length ≤ maxLen := Nat.le_trans hc hc0
  have h := hA
  have ho2 : 0 ≤ o ∧ o ≤ 255 := by
    have h2 : (decide (0 ≤ o) && decide (o ≤ 255)) = true := ho
    simpa using h2
  have short : ∀ b : Bool, decide (40 < ts.length) = b → ∀ W, Calls Try.prog 15 #[.slice A ts.length cap] W fun e w' => e = .returned (.bool b) ∧ W = w' := fun b hb W => (long_any ts A cap W).mono fun _ _ h => ⟨by rw [h.1, hb], h.2⟩
  have val : ∀ b : Bool, vaB ts = b → ∀ W, Below w.heap.size w W → Calls Try.prog 20 #[.slice A ts.length cap] W fun e w' => e = .returned (.bool b) ∧ Below W.heap.size W w' := fun b hb W hW => (refValid_any ts A cap W (h.below hW) hl).mono fun _ _ ⟨h, n, hn⟩ => ⟨by rw [h, hb], by rw [hn]; exact below_drewN (Below.refl _ _) _⟩
  have hW0 : Below w.heap.size w w := Below.refl _ _
  cases hm : decide (40 < ts.length) with
  | true =>
    have H1 := Lib.hid (short true hm)
    clear hm short val h hA
    go_enter Try.func13, Try.ntmps13
    go_wp2_with (first
      | (go_at_call 15; refine (H1.out _).mono ?_; rintro e w' ⟨rfl, rfl⟩)
      | (go_at_call 16; refine (sane_any _).mono ?_; rintro e w1 ⟨rfl, hB1⟩; have hW1 := below_step hW0 hB1; clear hB1)
      | fail)
    go_ret
    exact ⟨rfl, hW1⟩
  | false =>
    have H1 := Lib.hid (short false hm)
    cases hv : vaB ts with
    | false =>
      have H2 := Lib.hid (val false hv)
      clear hm short val h hA hv
      go_enter Try.func13, Try.ntmps13
      go_wp2_with (first
        | (go_at_call 15; refine (H1.out _).mono ?_; rintro e w' ⟨rfl, rfl⟩)
        | (go_at_call 20; refine (H2.out _ hW0).mono ?_; rintro e w1 ⟨rfl, hB1⟩; have hW1 := below_step hW0 hB1; clear hB1)
        | (go_at_call 16; refine (sane_any _).mono ?_; rintro e w2 ⟨rfl, hB2⟩; have hW2 := below_step hW1 hB2; clear hB2)
        | fail)
      go_ret
      exact ⟨rfl, hW2⟩
    | true =>
      have hvl := va_len hv
      have hkl := kp_len ts ts.length
      obtain ⟨xn, hxn⟩ : ∃ xn : Nat, o % (ts.length : Int) = xn := ⟨(o % (ts.length : Int)).toNat, by have := Int.emod_nonneg o (show (ts.length : Int) ≠ 0 by omega); omega⟩
      have hxl : xn < ts.length := by have := Int.emod_lt_of_pos o (show 0 < (ts.length : Int) by omega); omega
      obtain ⟨d, hd⟩ : ∃ d, ts.length = xn + 1 + d := ⟨ts.length - xn - 1, by omega⟩
      have hfr : frL (kpS ts ts.length).1 xn (kpS ts ts.length).1.length = (kpS ts xn).1 := by
        rw [frL, List.take_length]
        have := kp_front ts xn (1 + d)
        rwa [← Nat.add_assoc, ← hd] at this
      have hisb := kp_is ts xn d
      rw [← hd] at hisb
      refine keptL_core ts (kpS ts ts.length).2 (kpS ts xn).2 (kpS ts ts.length).1 A cap _ xn o w _ h hvl ho2 hxn hxl hkl.1 (fun i hi => ?_) (fun i j a b hij ha hb => kp_step ts hij ha hb) hisb (kp_map ts _).symm (by rw [hfr, kp_map]) rfl (short false hm) (val true hv) ?_ ?_ ?_
      · obtain ⟨j, h1, h2, _⟩ := kp_idx ts _ (Nat.le_refl _) i hi
        exact ⟨j, h1, h2⟩
      · exact fun W hW => kept_any ts A cap W (h.below hW) hv
      · exact fun W D d hC hp => by
          have hvT := kp_va2 hv (Nat.le_refl _) hp
          have tb := ta_yes hvT
          exact (canX_any _ D d W hC.marks hC.len).mono fun _ _ h => ⟨by rw [h.1, tb.1, tb.2.2.1, kp_can _ hp], h.2⟩
      · exact fun W D d hC => by
          have hvT := kp_va hv hxl
          have tb := ta_yes hvT
          have := canX_any _ D d W hC.marks hC.len
          rw [List.length_append] at this
          exact this.mono fun _ _ h => ⟨by rw [h.1, tb.1, tb.2.2.1], h.2⟩
end Go.Proofs.Ythanmiifcpajhaa
