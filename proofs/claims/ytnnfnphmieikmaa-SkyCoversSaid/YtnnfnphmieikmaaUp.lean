/-
  Contracts: up, Up, Children; those of the reference.
-/
import Derived.Test.YtnnfnphmieikmaaNested
namespace Go.Proofs.Ytnnfnphmieikmaa
open Go Go.RowKit Go.Shelf

/-- The cell of order t that has the pixel p of order t + d. -/
def upN (d p : Nat) : Nat := p / 2 ^ (2 * d)
set_option maxRecDepth 100000 in
theorem up_any (t d p : Nat) (hk : t + d < 5) (w : World) :
    Calls Try.prog 88 #[.agg #[.int .i64 ((t + d : Nat) : Int), .int .i64 (p : Int)], .int .i64 (t : Int)] w fun e w' => e = .returned (.agg #[.int .i64 (t : Int), .int .i64 (upN d p : Nat)]) ∧ Below w.heap.size w w' := by
  obtain ⟨K, hK⟩ : ∃ K : Int, K = ((t + d : Nat) : Int) := ⟨_, rfl⟩
  rw [← hK]
  have hd : K - t = d := by omega
  have k0 : 0 ≤ K := by omega
  have k1 : K ≤ 4 := by omega
  have hsh : (p : Int) / 2 ^ (2 * d) = ((upN d p : Nat) : Int) := by simp [upN]
  have HSH := Lib.hid hsh
  clear hsh hK
  go_enter Try.func88, Try.ntmps88
  go_wp2
  exact bodyPost_ret (v := .agg #[.int .i64 (t : Int), .int .i64 (upN d p : Nat)]) (by simp [results, Try.results88, go_sem, HSH.out]) rfl ⟨rfl, (by repeat (first | with_reducible exact Below.refl _ _ | with_reducible assumption | refine below_drewN ?_ _ | with_reducible refine Below.drew ?_ | (refine Below.setCell ?_ (by first | (simp; done) | (simp; omega) | omega) _) | (refine Below.alloc ?_ (by first | (simp; done) | (simp; omega) | omega) _)))⟩

def upOk (n p t : Int) : Bool := okP n p && decide (0 ≤ t ∧ t ≤ n)
def upV (n p t : Int) : Int := if upOk n p t then ((upN (n - t).toNat p.toNat : Nat) : Int) else 0
def upE (n p t : Int) : Int := if upOk n p t then 0 else 2
theorem okP_of {n p : Int} (h : okP n p = true) : ∃ k q : Nat, n = k ∧ p = q ∧ k < 5 ∧ q < pxN k := by
  simp only [okP, Bool.and_eq_true, decide_eq_true_eq] at h
  obtain ⟨k, rfl, hk⟩ := okO_of h.1
  have := px_eq hk
  rw [Int.toNat_natCast] at h
  exact ⟨k, p.toNat, rfl, by omega, hk, by omega⟩
theorem pxN_le {k : Nat} (hk : k < 5) : pxN k ≤ 3072 ∧ 12 ≤ pxN k := by
  obtain rfl | rfl | rfl | rfl | rfl := five hk <;> decide
theorem okP_nat {k q : Nat} (hk : k < 5) (hq : q < pxN k) : okP (k : Int) (q : Int) = true := by
  rw [okP_k hk]; have := px_eq hk; simp; omega
theorem field_cell1 (a b : Int) (w : World) : (Instr.field 43 (.agg #[.int .i64 a, .int .i64 b]) 1).run Try.prog w = .ok (.int .i64 b) w := by kernel_rfl
set_option maxRecDepth 100000 in
theorem upLit_any (t d p : Nat) (hk : t + d < 5) (g : Nat) (w : World) (hc : w.cell? ⟨g, 0, none⟩ = some (.int .i64 (t : Int))) :
    Calls Try.prog 87 #[.agg #[.int .i64 ((t + d : Nat) : Int), .int .i64 (p : Int)], .pointer (some ⟨g, 0, none⟩)] w fun e w' => e = .returned (.int .i64 (upN d p : Nat)) ∧ Below w.heap.size w w' := by
  have cU := fun W => up_any t d p hk W
  have CU := Lib.hid cU
  clear cU
  obtain ⟨K, hK⟩ : ∃ K : Int, K = ((t + d : Nat) : Int) := ⟨_, rfl⟩
  rw [← hK] at CU ⊢
  clear hK
  have hfd := field_cell1 t (upN d p : Nat)
  have hg : g < w.heap.size := World.block_lt_of_cell? w _ hc
  go_enter Try.func87, Try.ntmps87
  go_wp2_with (go_at_call 88; refine (CU.out _).mono ?_; rintro e w1 ⟨rfl, hB1⟩)
  go_ret
  exact ⟨rfl, Below.trans (by repeat (first | with_reducible exact Below.refl _ _ | with_reducible assumption | refine below_drewN ?_ _ | with_reducible refine Below.drew ?_ | (refine Below.setCell ?_ (by first | (simp; done) | (simp; omega) | omega) _) | (refine Below.alloc ?_ (by first | (simp; done) | (simp; omega) | omega) _))) (hB1.mono (by simp))⟩
set_option maxRecDepth 100000 in
theorem skyUp_any (n p t : Int) (w : World) :
    Calls Try.prog 36 #[.int .i64 n, .int .i64 p, .int .i64 t] w fun e w' => e = .returned (.tuple #[.int .i64 (upV n p t), .int .i64 (upE n p t)]) ∧ Below w.heap.size w w' := by
  by_cases h0 : t < 0
  · have e1 : upOk n p t = false := by simp [upOk]; omega
    have E1 := Lib.hid e1
    clear e1
    go_enter Try.func36, Try.ntmps36
    go_wp2
    go_ret2
    exact ⟨by simp [upV, upE, E1.out], (by repeat (first | with_reducible exact Below.refl _ _ | with_reducible assumption | refine below_drewN ?_ _ | with_reducible refine Below.drew ?_ | (refine Below.setCell ?_ (by first | (simp; done) | (simp; omega) | omega) _) | (refine Below.alloc ?_ (by first | (simp; done) | (simp; omega) | omega) _)))⟩
  · by_cases h1 : n < t
    · have e1 : upOk n p t = false := by simp [upOk]; omega
      have E1 := Lib.hid e1
      clear e1
      go_enter Try.func36, Try.ntmps36
      go_wp2
      go_ret2
      exact ⟨by simp [upV, upE, E1.out], (by repeat (first | with_reducible exact Below.refl _ _ | with_reducible assumption | refine below_drewN ?_ _ | with_reducible refine Below.drew ?_ | (refine Below.setCell ?_ (by first | (simp; done) | (simp; omega) | omega) _) | (refine Below.alloc ?_ (by first | (simp; done) | (simp; omega) | omega) _)))⟩
    · cases hp : okP n p with
      | false =>
        have e1 : upOk n p t = false := by simp [upOk, hp]
        have E1 := Lib.hid e1
        have HP := Lib.hid hp
        clear e1 hp
        go_enter Try.func36, Try.ntmps36
        go_wp2_with (go_at_call 74; refine (toldInt_no n p HP.out _ _).mono ?_; rintro e w1 ⟨rfl, hB1⟩)
        go_ret2
        exact ⟨by simp [upV, upE, E1.out], Below.trans (by repeat (first | with_reducible exact Below.refl _ _ | with_reducible assumption | refine below_drewN ?_ _ | with_reducible refine Below.drew ?_ | (refine Below.setCell ?_ (by first | (simp; done) | (simp; omega) | omega) _) | (refine Below.alloc ?_ (by first | (simp; done) | (simp; omega) | omega) _))) (hB1.mono (by simp))⟩
      | true =>
        have e1 : upOk n p t = true := by simp [upOk, hp]; omega
        obtain ⟨k, q, rfl, rfl, hk, hq⟩ := okP_of hp
        obtain ⟨a, d, rfl, rfl⟩ : ∃ a d : Nat, t = a ∧ k = a + d := ⟨t.toNat, k - t.toNat, by omega, by omega⟩
        have hl := (pxN_le hk).1
        have hv : upV ((a + d : Nat) : Int) q a = (upN d q : Nat) := by
          rw [upV, if_pos e1]; congr 2; omega
        have he : upE ((a + d : Nat) : Int) q a = 0 := by rw [upE, if_pos e1]
        have eg : ∀ args w, (callFunc 87 args).run Try.prog w = .ok (.enter 87 args) w := enters_of Try.func87 (by kernel_rfl) rfl
        have cT : Calls Try.prog 74 #[.int .i64 ((a + d : Nat) : Int), .int .i64 (q : Int), .func (.func 87) #[] #[.pointer (some ⟨w.heap.size, 0, none⟩)]] (w.alloc (.cells #[.int .i64 (a : Int)] 3)) fun e w' => e = .returned (.tuple #[.int .i64 (upN d q : Nat), .int .i64 0]) ∧ Below (w.alloc (.cells #[.int .i64 (a : Int)] 3)).heap.size (w.alloc (.cells #[.int .i64 (a : Int)] 3)) w' :=
          toldInt_yes _ _ hp _ _ eg _ _ (fun W hW => upLit_any a d q hk w.heap.size W ((hW.cell (p := ⟨w.heap.size, 0, none⟩) (by simp)).trans (cell_of_row _ _ 0 _ _ _ (heap_alloc_new w _))))
        have CT := Lib.hid cT
        have HV := Lib.hid hv
        have HE := Lib.hid he
        obtain ⟨K, hK⟩ : ∃ K : Int, K = ((a + d : Nat) : Int) := ⟨_, rfl⟩
        rw [← hK] at CT HV HE h1 ⊢
        clear cT hv he eg e1 hp hK hk
        go_enter Try.func36, Try.ntmps36
        go_wp2_with (go_at_call 74; refine (CT.out).mono ?_; rintro e w1 ⟨rfl, hB1⟩)
        go_ret2
        exact ⟨by rw [HV.out, HE.out]; rfl, Below.trans (by repeat (first | with_reducible exact Below.refl _ _ | with_reducible assumption | refine below_drewN ?_ _ | with_reducible refine Below.drew ?_ | (refine Below.setCell ?_ (by first | (simp; done) | (simp; omega) | omega) _) | (refine Below.alloc ?_ (by first | (simp; done) | (simp; omega) | omega) _))) (hB1.mono (by simp))⟩
set_option maxRecDepth 100000 in
theorem refUp_any (n p t : Int) (w : World) :
    Calls Try.prog 37 #[.int .i64 n, .int .i64 p, .int .i64 t] w fun e w' => e = .returned (.tuple #[.int .i64 (upV n p t), .int .i64 (upE n p t)]) ∧ Below w.heap.size w w' := by
  cases hp : okP n p with
  | false =>
    have e1 : upOk n p t = false := by simp [upOk, hp]
    have E1 := Lib.hid e1
    have HP := Lib.hid hp
    clear e1 hp
    go_enter Try.func37, Try.ntmps37
    go_wp2_with (go_at_call 71; refine (isPixel_any n p _).mono ?_; rintro e w1 ⟨he, rfl⟩; rw [HP.out] at he; subst he)
    go_ret2
    exact ⟨by simp [upV, upE, E1.out], (by repeat (first | with_reducible exact Below.refl _ _ | with_reducible assumption | refine below_drewN ?_ _ | with_reducible refine Below.drew ?_ | (refine Below.setCell ?_ (by first | (simp; done) | (simp; omega) | omega) _) | (refine Below.alloc ?_ (by first | (simp; done) | (simp; omega) | omega) _)))⟩
  | true =>
    by_cases hw : 0 ≤ t ∧ t ≤ n
    · have e1 : upOk n p t = true := by simp [upOk, hp]; omega
      obtain ⟨k, q, rfl, rfl, hk, hq⟩ := okP_of hp
      obtain ⟨a, d, rfl, rfl⟩ : ∃ a d : Nat, t = a ∧ k = a + d := ⟨t.toNat, k - t.toNat, by omega, by omega⟩
      have hl := (pxN_le hk).1
      have hv : upV ((a + d : Nat) : Int) q a = (upN d q : Nat) := by
        rw [upV, if_pos e1]; congr 2; omega
      have he : upE ((a + d : Nat) : Int) q a = 0 := by rw [upE, if_pos e1]
      have hsh : (q : Int) / 2 ^ (2 * d) = ((upN d q : Nat) : Int) := by simp [upN]
      have HP := Lib.hid hp
      obtain ⟨K, hK⟩ : ∃ K : Int, K = ((a + d : Nat) : Int) := ⟨_, rfl⟩
      have hd : K - a = d := by omega
      have k0 : 0 ≤ K := by omega
      have k1 : K ≤ 4 := by omega
      have HSH := Lib.hid hsh
      have HV := Lib.hid hv
      have HE := Lib.hid he
      have HW : Hid (decide (0 ≤ (a : Int) ∧ (a : Int) ≤ K) = true) := Lib.hid (decide_eq_true (by omega))
      rw [← hK] at HV HE HP ⊢
      clear hv he e1 hp hK hk hsh hw
      go_enter Try.func37, Try.ntmps37
      go_wp2_with (first | (go_at_call 71; refine (isPixel_any K q _).mono ?_; rintro e w1 ⟨he, rfl⟩; rw [HP.out] at he; subst he) | (go_at_call 80; refine (within_any 0 a K _).mono ?_; rintro e w1 ⟨he, rfl⟩; rw [HW.out] at he; subst he))
      go_ret2
      exact ⟨by rw [HV.out, HE.out, ← HSH.out]; rfl, (by repeat (first | with_reducible exact Below.refl _ _ | with_reducible assumption | refine below_drewN ?_ _ | with_reducible refine Below.drew ?_ | (refine Below.setCell ?_ (by first | (simp; done) | (simp; omega) | omega) _) | (refine Below.alloc ?_ (by first | (simp; done) | (simp; omega) | omega) _)))⟩
    · have e1 : upOk n p t = false := by simp [upOk]; omega
      have E1 := Lib.hid e1
      have HP := Lib.hid hp
      have HW : Hid (decide (0 ≤ t ∧ t ≤ n) = false) := Lib.hid (decide_eq_false hw)
      clear e1 hp hw
      go_enter Try.func37, Try.ntmps37
      go_wp2_with (first | (go_at_call 71; refine (isPixel_any n p _).mono ?_; rintro e w1 ⟨he, rfl⟩; rw [HP.out] at he; subst he) | (go_at_call 80; refine (within_any 0 t n _).mono ?_; rintro e w1 ⟨he, rfl⟩; rw [HW.out] at he; subst he))
      go_ret2
      exact ⟨by simp [upV, upE, E1.out], (by repeat (first | with_reducible exact Below.refl _ _ | with_reducible assumption | refine below_drewN ?_ _ | with_reducible refine Below.drew ?_ | (refine Below.setCell ?_ (by first | (simp; done) | (simp; omega) | omega) _) | (refine Below.alloc ?_ (by first | (simp; done) | (simp; omega) | omega) _)))⟩
end Go.Proofs.Ytnnfnphmieikmaa
