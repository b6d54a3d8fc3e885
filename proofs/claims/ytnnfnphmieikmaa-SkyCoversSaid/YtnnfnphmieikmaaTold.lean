/-
  Contracts: validCell, validRing; told at each of its types.
-/
import Derived.Test.YtnnfnphmieikmaaPlace
import Derived.Shelf.Abstract
namespace Go.Proofs.Ytnnfnphmieikmaa
open Go Go.RowKit Go.Shelf

theorem okP_k {k : Nat} (hk : k < 5) (p : Int) : okP k p = decide (0 ≤ p ∧ p < pxI k) := by
  have : okO (k : Int) = true := by simp [okO]; omega
  simp [okP, this]
set_option maxRecDepth 100000 in
theorem validCell_any (n p : Int) (w : World) :
    Calls Try.prog 102 #[.agg #[.int .i64 n, .int .i64 p]] w fun e w' => e = .returned (.bool (okP n p)) ∧ Below w.heap.size w w' := by
  cases hO : okO n with
  | false =>
    have HO := Lib.hid hO
    have cV : ∀ W, Calls Try.prog 65 #[.int .i64 n] W fun e w' => e = .returned (.bool false) ∧ w' = W := fun W => (validOrder_any n W).mono fun _ _ h => ⟨by rw [h.1, HO.out], h.2.symm⟩
    have CV := Lib.hid cV
    clear cV hO
    go_enter Try.func102, Try.ntmps102
    go_wp2
    go_quiet ((go_at_call 65; exact Calls.quiet_of_same (CV.out _)))
    go_wp2
    go_ret
    exact ⟨ret_bool (by simp [okP, HO.out]), (by repeat (first | with_reducible exact Below.refl _ _ | with_reducible assumption | refine below_drewN ?_ _ | with_reducible refine Below.drew ?_ | (refine Below.setCell ?_ (by first | (simp; done) | (simp; omega) | omega) _) | (refine Below.alloc ?_ (by first | (simp; done) | (simp; omega) | omega) _)))⟩
  | true =>
    obtain ⟨k, rfl, hk⟩ := okO_of hO
    have b2 := px_bd hk
    have HO := Lib.hid hO
    have cV : ∀ W, Calls Try.prog 65 #[.int .i64 (k : Int)] W fun e w' => e = .returned (.bool true) ∧ w' = W := fun W => (validOrder_any k W).mono fun _ _ h => ⟨by rw [h.1, HO.out], h.2.symm⟩
    have CV := Lib.hid cV
    have cP : ∀ W, Calls Try.prog 66 #[.int .i64 (k : Int)] W fun e w' => e = .returned (.int .i64 (pxI k)) ∧ w' = W := fun W => (pixels_any k hk W).mono fun _ _ h => ⟨h.1, h.2.symm⟩
    have CP := Lib.hid cP
    clear cV hO cP
    by_cases h0 : 0 ≤ p
    · have t0 : decide (0 ≤ p) = true := decide_eq_true h0
      go_enter Try.func102, Try.ntmps102
      go_wp2
      go_quiet ((first | (go_at_call 65; exact Calls.quiet_of_same (CV.out _)) | (go_at_call 66; exact Calls.quiet_of_same (CP.out _))))
      go_wp2
      all_goals
        go_ret
        exact ⟨ret_bool (by rw [okP_k hk, Bool.eq_iff_iff]; simp; try omega), (by repeat (first | with_reducible exact Below.refl _ _ | with_reducible assumption | refine below_drewN ?_ _ | with_reducible refine Below.drew ?_ | (refine Below.setCell ?_ (by first | (simp; done) | (simp; omega) | omega) _) | (refine Below.alloc ?_ (by first | (simp; done) | (simp; omega) | omega) _)))⟩
    · have t0 : decide (0 ≤ p) = false := decide_eq_false h0
      go_enter Try.func102, Try.ntmps102
      go_wp2
      go_quiet ((first | (go_at_call 65; exact Calls.quiet_of_same (CV.out _)) | (go_at_call 66; exact Calls.quiet_of_same (CP.out _))))
      go_wp2
      all_goals
        go_ret
        exact ⟨ret_bool (by rw [okP_k hk, Bool.eq_iff_iff]; simp; try omega), (by repeat (first | with_reducible exact Below.refl _ _ | with_reducible assumption | refine below_drewN ?_ _ | with_reducible refine Below.drew ?_ | (refine Below.setCell ?_ (by first | (simp; done) | (simp; omega) | omega) _) | (refine Below.alloc ?_ (by first | (simp; done) | (simp; omega) | omega) _)))⟩
def okR (n r : Int) : Bool := okO n && decide (1 ≤ r ∧ r ≤ 4 * sdI n.toNat - 1)
theorem okR_k {k : Nat} (hk : k < 5) (r : Int) : okR k r = decide (1 ≤ r ∧ r ≤ 4 * sdI k - 1) := by
  have : okO (k : Int) = true := by simp [okO]; omega
  simp [okR, this]
theorem validRing_any (n r : Int) (w : World) :
    Calls Try.prog 83 #[.int .i64 n, .int .i64 r] w fun e w' => e = .returned (.bool (okR n r)) ∧ w = w' := by
  cases hO : okO n with
  | false =>
    have HO := Lib.hid hO
    clear hO
    go_enter Try.func83, Try.ntmps83
    go_wp2_with (go_at_call 65; refine (validOrder_any n _).mono ?_; rintro e w1 ⟨he, rfl⟩; rw [HO.out] at he; subst he)
    go_ret
    exact ⟨ret_bool (by simp [okR, HO.out]), rfl⟩
  | true =>
    obtain ⟨k, rfl, hk⟩ := okO_of hO
    have b2 := sd_bd hk
    have HO := Lib.hid hO
    clear hO
    go_enter Try.func83, Try.ntmps83
    go_wp2_with (first | (go_at_call 65; refine (validOrder_any k _).mono ?_; rintro e w1 ⟨he, rfl⟩; rw [HO.out] at he; subst he) | (go_at_call 114; refine (rings_any k hk _).mono ?_; rintro e w1 ⟨rfl, rfl⟩))
    all_goals
      go_ret
      exact ⟨ret_bool (by rw [okR_k hk, Bool.eq_iff_iff]; simp; try omega), rfl⟩

theorem blk_frozen {w : World} {g : Nat} {cs : Array Value} {t : TypeId} (h : w.heap[g]? = some (.cells cs t (0, 0))) (i : Nat) : w.frozen? ⟨g, i, none⟩ = false := by simp [World.frozen?, h]
/-- What is asked of a function value that is told a cell. -/
def TellAt (g : Nat) (lb : Array Value) (n p : Int) (v : Value) (w : World) : Prop :=
  ∀ W : World, Below w.heap.size w W → Calls Try.prog g (#[.agg #[.int .i64 n, .int .i64 p]] ++ lb) W fun e w' => e = .returned v ∧ Below W.heap.size W w'

set_option maxRecDepth 100000 in
theorem toldInt_no (n p : Int) (hp : okP n p = false) (g : Value) (w : World) :
    Calls Try.prog 74 #[.int .i64 n, .int .i64 p, g] w fun e w' => e = .returned (.tuple #[.int .i64 0, .int .i64 2]) ∧ Below w.heap.size w w' := by
  have HP := Lib.hid hp
  clear hp
  go_enter Try.func74, Try.ntmps74
  go_wp2_with (go_at_call 102; refine (validCell_any n p _).mono ?_; rintro e w1 ⟨he, hB1⟩; rw [HP.out] at he; subst he; have hW1 : Below w.heap.size w w1 := (Below.trans (by repeat (first | with_reducible exact Below.refl _ _ | with_reducible assumption | refine below_drewN ?_ _ | with_reducible refine Below.drew ?_ | (refine Below.setCell ?_ (by first | (simp; done) | (simp; omega) | omega) _) | (refine Below.alloc ?_ (by first | (simp; done) | (simp; omega) | omega) _))) (hB1.mono (by first | (simp; done) | (simp; omega) | omega))); have c0 := (hB1.cell (p := ⟨w.heap.size, 0, none⟩) (by simp)).trans (cell_of_row _ _ 0 _ _ _ (heap_alloc_new w _)); have c1 := (hB1.cell (p := ⟨w.heap.size, 1, none⟩) (by simp)).trans (cell_of_row _ _ 1 _ _ _ (heap_alloc_new w _)); simp at c0 c1; have HB1 := Lib.hid hB1; clear hB1)
  go_ret2
  exact ⟨rfl, hW1⟩
set_option maxRecDepth 100000 in
theorem toldInt_yes (n p : Int) (hp : okP n p = true) (g : Nat) (lb : Array Value) (eg : ∀ args w, (callFunc g args).run Try.prog w = .ok (.enter g args) w) (v : Int) (w : World) (hT : TellAt g lb n p (.int .i64 v) w) :
    Calls Try.prog 74 #[.int .i64 n, .int .i64 p, .func (.func g) #[] lb] w fun e w' => e = .returned (.tuple #[.int .i64 v, .int .i64 0]) ∧ Below w.heap.size w w' := by
  have HP := Lib.hid hp
  have HT := Lib.hid hT
  clear hp hT
  go_enter Try.func74, Try.ntmps74
  go_wp2_with (first | (go_at_call 102; refine (validCell_any n p _).mono ?_; rintro e w1 ⟨he, hB1⟩; rw [HP.out] at he; subst he; have hW1 : Below w.heap.size w w1 := (Below.trans (by repeat (first | with_reducible exact Below.refl _ _ | with_reducible assumption | refine below_drewN ?_ _ | with_reducible refine Below.drew ?_ | (refine Below.setCell ?_ (by first | (simp; done) | (simp; omega) | omega) _) | (refine Below.alloc ?_ (by first | (simp; done) | (simp; omega) | omega) _))) (hB1.mono (by first | (simp; done) | (simp; omega) | omega))); have c0 := (hB1.cell (p := ⟨w.heap.size, 0, none⟩) (by simp)).trans (cell_of_row _ _ 0 _ _ _ (heap_alloc_new w _)); have c1 := (hB1.cell (p := ⟨w.heap.size, 1, none⟩) (by simp)).trans (cell_of_row _ _ 1 _ _ _ (heap_alloc_new w _)); simp at c0 c1; have HB1 := Lib.hid hB1; clear hB1) | (go_at_fn g; refine (HT.out _ hW1).mono ?_; rintro e w2 ⟨rfl, hB2⟩; have hW2 : Below w.heap.size w w2 := below_step hW1 hB2; have HB2 := Lib.hid hB2; clear hB2))
  go_ret2
  exact ⟨rfl, hW2⟩

set_option maxRecDepth 100000 in
theorem toldSpot_no (n p : Int) (hp : okP n p = false) (g : Value) (w : World) :
    Calls Try.prog 69 #[.int .i64 n, .int .i64 p, g] w fun e w' => e = .returned (.tuple #[.agg #[.int .i64 0, .int .i64 0, .int .i64 0], .int .i64 2]) ∧ Below w.heap.size w w' := by
  have HP := Lib.hid hp
  clear hp
  go_enter Try.func69, Try.ntmps69
  go_wp2_with (go_at_call 102; refine (validCell_any n p _).mono ?_; rintro e w1 ⟨he, hB1⟩; rw [HP.out] at he; subst he; have hW1 : Below w.heap.size w w1 := (Below.trans (by repeat (first | with_reducible exact Below.refl _ _ | with_reducible assumption | refine below_drewN ?_ _ | with_reducible refine Below.drew ?_ | (refine Below.setCell ?_ (by first | (simp; done) | (simp; omega) | omega) _) | (refine Below.alloc ?_ (by first | (simp; done) | (simp; omega) | omega) _))) (hB1.mono (by first | (simp; done) | (simp; omega) | omega))); have b0 := (hB1.block w.heap.size (by simp; omega)).trans (heap_alloc2_old w _ _); have b1 := (hB1.block (w.heap.size + 1) (by simp)).trans (heap_alloc2_new w _ _); have c0 := cell_of_row w1 _ 0 _ _ _ b0; have k0 := blk_frozen b0 0; have c1 := cell_of_row w1 _ 1 _ _ _ b0; have k1 := blk_frozen b0 1; have c2 := cell_of_row w1 _ 2 _ _ _ b0; have k2 := blk_frozen b0 2; have d0 := cell_of_row w1 _ 0 _ _ _ b1; have d1 := cell_of_row w1 _ 1 _ _ _ b1; simp at c0 k0 c1 k1 c2 k2 d0 d1; have B0 := Lib.hid b0; have z1 := hB1.size; simp at z1; have g0 : w.heap.size < w1.heap.size := (by omega); clear b0 b1 hB1 z1)
  exact bodyPost_ret (v := .tuple #[.agg #[.int .i64 0, .int .i64 0, .int .i64 0], .int .i64 2]) (by simp [results, Try.results69, go_sem, c0, c1, c2, g0]) rfl ⟨rfl, (by repeat (first | with_reducible exact Below.refl _ _ | with_reducible assumption | refine below_drewN ?_ _ | with_reducible refine Below.drew ?_ | (refine Below.setCell ?_ (by first | (simp; done) | (simp; omega) | omega) _) | (refine Below.alloc ?_ (by first | (simp; done) | (simp; omega) | omega) _)))⟩
set_option maxRecDepth 100000 in
theorem toldSpot_yes (n p : Int) (hp : okP n p = true) (g : Nat) (lb : Array Value) (eg : ∀ args w, (callFunc g args).run Try.prog w = .ok (.enter g args) w) (a b c : Int) (w : World) (hT : TellAt g lb n p (.agg #[.int .i64 a, .int .i64 b, .int .i64 c]) w) :
    Calls Try.prog 69 #[.int .i64 n, .int .i64 p, .func (.func g) #[] lb] w fun e w' => e = .returned (.tuple #[.agg #[.int .i64 a, .int .i64 b, .int .i64 c], .int .i64 0]) ∧ Below w.heap.size w w' := by
  have HP := Lib.hid hp
  have HT := Lib.hid hT
  clear hp hT
  go_enter Try.func69, Try.ntmps69
  go_wp2_with (first | (go_at_call 102; refine (validCell_any n p _).mono ?_; rintro e w1 ⟨he, hB1⟩; rw [HP.out] at he; subst he; have hW1 : Below w.heap.size w w1 := (Below.trans (by repeat (first | with_reducible exact Below.refl _ _ | with_reducible assumption | refine below_drewN ?_ _ | with_reducible refine Below.drew ?_ | (refine Below.setCell ?_ (by first | (simp; done) | (simp; omega) | omega) _) | (refine Below.alloc ?_ (by first | (simp; done) | (simp; omega) | omega) _))) (hB1.mono (by first | (simp; done) | (simp; omega) | omega))); have b0 := (hB1.block w.heap.size (by simp; omega)).trans (heap_alloc2_old w _ _); have b1 := (hB1.block (w.heap.size + 1) (by simp)).trans (heap_alloc2_new w _ _); have c0 := cell_of_row w1 _ 0 _ _ _ b0; have k0 := blk_frozen b0 0; have c1 := cell_of_row w1 _ 1 _ _ _ b0; have k1 := blk_frozen b0 1; have c2 := cell_of_row w1 _ 2 _ _ _ b0; have k2 := blk_frozen b0 2; have d0 := cell_of_row w1 _ 0 _ _ _ b1; have d1 := cell_of_row w1 _ 1 _ _ _ b1; simp at c0 k0 c1 k1 c2 k2 d0 d1; have B0 := Lib.hid b0; have z1 := hB1.size; simp at z1; have g0 : w.heap.size < w1.heap.size := (by omega); clear b0 b1 hB1 z1) | (go_at_fn g; refine (HT.out _ hW1).mono ?_; rintro e w2 ⟨rfl, hB2⟩; have hW2 : Below w.heap.size w w2 := below_step hW1 hB2; have b0 := (hB2.block w.heap.size g0).trans B0.out; have c0 := cell_of_row w2 _ 0 _ _ _ b0; have k0 := blk_frozen b0 0; have c1 := cell_of_row w2 _ 1 _ _ _ b0; have k1 := blk_frozen b0 1; have c2 := cell_of_row w2 _ 2 _ _ _ b0; have k2 := blk_frozen b0 2; simp at c0 k0 c1 k1 c2 k2; clear b0 hB2))
  exact bodyPost_ret (v := .tuple #[.agg #[.int .i64 a, .int .i64 b, .int .i64 c], .int .i64 0]) (by simp [results, Try.results69, go_sem, c0, c1, c2]) rfl ⟨rfl, (by repeat (first | with_reducible exact Below.refl _ _ | with_reducible assumption | refine below_drewN ?_ _ | with_reducible refine Below.drew ?_ | (refine Below.setCell ?_ (by first | (simp; done) | (simp; omega) | omega) _) | (refine Below.alloc ?_ (by first | (simp; done) | (simp; omega) | omega) _)))⟩

set_option maxRecDepth 100000 in
theorem toldBerth_no (n p : Int) (hp : okP n p = false) (g : Value) (w : World) :
    Calls Try.prog 78 #[.int .i64 n, .int .i64 p, g] w fun e w' => e = .returned (.tuple #[.agg #[.int .i64 0, .int .i64 0], .int .i64 2]) ∧ Below w.heap.size w w' := by
  have HP := Lib.hid hp
  clear hp
  go_enter Try.func78, Try.ntmps78
  go_wp2_with (go_at_call 102; refine (validCell_any n p _).mono ?_; rintro e w1 ⟨he, hB1⟩; rw [HP.out] at he; subst he; have hW1 : Below w.heap.size w w1 := (Below.trans (by repeat (first | with_reducible exact Below.refl _ _ | with_reducible assumption | refine below_drewN ?_ _ | with_reducible refine Below.drew ?_ | (refine Below.setCell ?_ (by first | (simp; done) | (simp; omega) | omega) _) | (refine Below.alloc ?_ (by first | (simp; done) | (simp; omega) | omega) _))) (hB1.mono (by first | (simp; done) | (simp; omega) | omega))); have b0 := (hB1.block w.heap.size (by simp; omega)).trans (heap_alloc2_old w _ _); have b1 := (hB1.block (w.heap.size + 1) (by simp)).trans (heap_alloc2_new w _ _); have c0 := cell_of_row w1 _ 0 _ _ _ b0; have k0 := blk_frozen b0 0; have c1 := cell_of_row w1 _ 1 _ _ _ b0; have k1 := blk_frozen b0 1; have d0 := cell_of_row w1 _ 0 _ _ _ b1; have d1 := cell_of_row w1 _ 1 _ _ _ b1; simp at c0 k0 c1 k1 d0 d1; have B0 := Lib.hid b0; have z1 := hB1.size; simp at z1; have g0 : w.heap.size < w1.heap.size := (by omega); clear b0 b1 hB1 z1)
  exact bodyPost_ret (v := .tuple #[.agg #[.int .i64 0, .int .i64 0], .int .i64 2]) (by simp [results, Try.results78, go_sem, c0, c1, g0]) rfl ⟨rfl, (by repeat (first | with_reducible exact Below.refl _ _ | with_reducible assumption | refine below_drewN ?_ _ | with_reducible refine Below.drew ?_ | (refine Below.setCell ?_ (by first | (simp; done) | (simp; omega) | omega) _) | (refine Below.alloc ?_ (by first | (simp; done) | (simp; omega) | omega) _)))⟩
set_option maxRecDepth 100000 in
theorem toldBerth_yes (n p : Int) (hp : okP n p = true) (g : Nat) (lb : Array Value) (eg : ∀ args w, (callFunc g args).run Try.prog w = .ok (.enter g args) w) (a b : Int) (w : World) (hT : TellAt g lb n p (.agg #[.int .i64 a, .int .i64 b]) w) :
    Calls Try.prog 78 #[.int .i64 n, .int .i64 p, .func (.func g) #[] lb] w fun e w' => e = .returned (.tuple #[.agg #[.int .i64 a, .int .i64 b], .int .i64 0]) ∧ Below w.heap.size w w' := by
  have HP := Lib.hid hp
  have HT := Lib.hid hT
  clear hp hT
  go_enter Try.func78, Try.ntmps78
  go_wp2_with (first | (go_at_call 102; refine (validCell_any n p _).mono ?_; rintro e w1 ⟨he, hB1⟩; rw [HP.out] at he; subst he; have hW1 : Below w.heap.size w w1 := (Below.trans (by repeat (first | with_reducible exact Below.refl _ _ | with_reducible assumption | refine below_drewN ?_ _ | with_reducible refine Below.drew ?_ | (refine Below.setCell ?_ (by first | (simp; done) | (simp; omega) | omega) _) | (refine Below.alloc ?_ (by first | (simp; done) | (simp; omega) | omega) _))) (hB1.mono (by first | (simp; done) | (simp; omega) | omega))); have b0 := (hB1.block w.heap.size (by simp; omega)).trans (heap_alloc2_old w _ _); have b1 := (hB1.block (w.heap.size + 1) (by simp)).trans (heap_alloc2_new w _ _); have c0 := cell_of_row w1 _ 0 _ _ _ b0; have k0 := blk_frozen b0 0; have c1 := cell_of_row w1 _ 1 _ _ _ b0; have k1 := blk_frozen b0 1; have d0 := cell_of_row w1 _ 0 _ _ _ b1; have d1 := cell_of_row w1 _ 1 _ _ _ b1; simp at c0 k0 c1 k1 d0 d1; have B0 := Lib.hid b0; have z1 := hB1.size; simp at z1; have g0 : w.heap.size < w1.heap.size := (by omega); clear b0 b1 hB1 z1) | (go_at_fn g; refine (HT.out _ hW1).mono ?_; rintro e w2 ⟨rfl, hB2⟩; have hW2 : Below w.heap.size w w2 := below_step hW1 hB2; have b0 := (hB2.block w.heap.size g0).trans B0.out; have c0 := cell_of_row w2 _ 0 _ _ _ b0; have k0 := blk_frozen b0 0; have c1 := cell_of_row w2 _ 1 _ _ _ b0; have k1 := blk_frozen b0 1; simp at c0 k0 c1 k1; clear b0 hB2))
  exact bodyPost_ret (v := .tuple #[.agg #[.int .i64 a, .int .i64 b], .int .i64 0]) (by simp [results, Try.results78, go_sem, c0, c1]) rfl ⟨rfl, (by repeat (first | with_reducible exact Below.refl _ _ | with_reducible assumption | refine below_drewN ?_ _ | with_reducible refine Below.drew ?_ | (refine Below.setCell ?_ (by first | (simp; done) | (simp; omega) | omega) _) | (refine Below.alloc ?_ (by first | (simp; done) | (simp; omega) | omega) _)))⟩
end Go.Proofs.Ytnnfnphmieikmaa
