/-
  Contracts: half, Area (weigh).
-/
import Derived.Test.YtolpbbabmcpdkaaCurve
import Derived.Test.YtolpbbabmcpdkaaJoined
set_option linter.unusedVariables false
set_option linter.unusedSimpArgs false
namespace Go.Proofs.Ytolpbbabmcpdkaa
open Go.RowKit Go.Shelf

theorem ar_step {ns ss : List Int} {k : Nat} (hk : k ≤ ns.length) : arK ns ss k = arK ns ss (k - 1) + ((cvP ns ss k).1 - (cvP ns ss (k - 1)).1) * ((cvP ns ss (k - 1)).2 + (cvP ns ss k).2) := by
  cases k with
  | zero => simp [cv_zero]
  | succ m =>
    obtain ⟨⟨n, s⟩, hp⟩ := getElem?_of_lt (zs := prR ns ss) (k := m) (by rw [prR_len]; omega)
    exact area_take hp
theorem cv_step {ns ss : List Int} (h : ∀ p ∈ prR ns ss, (0 ≤ p.1 ∧ p.1 ≤ 1000) ∧ 0 ≤ p.2 ∧ p.2 ≤ 1000) {k : Nat} (hk : k ≤ ns.length) : 0 ≤ (cvP ns ss k).1 - (cvP ns ss (k - 1)).1 ∧ (cvP ns ss k).1 - (cvP ns ss (k - 1)).1 ≤ 1000 := by
  cases k with
  | zero => simp
  | succ m =>
    obtain ⟨⟨n, s⟩, hp⟩ := getElem?_of_lt (zs := prR ns ss) (k := m) (by rw [prR_len]; omega)
    have b := h _ (List.mem_of_getElem? hp)
    rw [Nat.add_sub_cancel, cv_succ hp]
    dsimp only at *
    omega
theorem cell_blk {w w' : World} {p : Addr} (h : w'.heap[p.block]? = w.heap[p.block]?) : w'.cell? p = w.cell? p := by
  unfold World.cell?; rw [h]
theorem marks_blk {w w' : World} {b o : Nat} {ms : List (Int × Int)} (h : Marks w (some ⟨b, o, none⟩) ms) (hb : w'.heap[b]? = w.heap[b]?) (hs : w.heap.size ≤ w'.heap.size) : Marks w' (some ⟨b, o, none⟩) ms :=
  ⟨h.1, fun hn => by
    obtain ⟨ad, e, hlt, hc⟩ := h.2 hn
    refine ⟨ad, e, Nat.lt_of_lt_of_le hlt hs, fun j u hu => ?_⟩
    cases e
    exact (cell_blk (by rw [block_of_add]; exact hb)).trans (hc j u hu)⟩
/-- Two cells stored anew, and a box made. -/
theorem set2_old (w : World) {g j : Nat} {u v : Value} {x : Obj} (hj : j < w.heap.size) (hne : j ≠ g) : (((w.setCell ⟨g, 0, none⟩ u).setCell ⟨g, 1, none⟩ v).alloc x).heap[j]? = w.heap[j]? :=
  (Below.heap_alloc _ _ _ (by simpa using hj)).trans ((heap_setCell_other _ _ _ _ hne).trans (heap_setCell_other _ _ _ _ hne))
theorem set2_new (w : World) {g : Nat} {a b u v : Value} {x : Obj} {t : TypeId} (h : w.heap[g]? = some (.cells #[a, b] t (0, 0))) : (((w.setCell ⟨g, 0, none⟩ u).setCell ⟨g, 1, none⟩ v).alloc x).heap[g]? = some (.cells #[u, v] t (0, 0)) :=
  (Below.heap_alloc _ _ _ (by simpa using (Array.getElem?_eq_some_iff.1 h).1)).trans (heap_setCell_same _ _ 1 _ _ _ (heap_setCell_same _ _ 0 _ _ _ h))
/-- The area, as halves of a product of weights. -/
def arN (ns ss : List Int) : Int := lowN (dSum (prL ns ss)) (2 * ns.sum * ss.sum)
def arD (ns ss : List Int) : Int := lowD (dSum (prL ns ss)) (2 * ns.sum * ss.sum)
def odE (ns ss : List Int) : Int := if odB ns ss then 0 else 70

set_option maxRecDepth 100000 in
set_option maxHeartbeats 1000000 in
theorem half_any (ns ss : List Int) (A B : Option Addr) (c d : Nat) (ho : Od ns ss) (x : Int) (hx0 : -4611686018427387904 ≤ x) (hx1 : x ≤ 4611686018427387904) (w : World) :
    Calls Try.prog 90 #[.agg #[.slice A ns.length c, .slice B ss.length d, .int .i64 ns.sum, .int .i64 ss.sum], .int .i64 x] w fun e w' => e = .returned (.agg #[.int .i64 (lowN x (2 * ns.sum * ss.sum)), .int .i64 (lowD x (2 * ns.sum * ss.sum))]) ∧ Below w.heap.size w w' := by
  obtain ⟨W0, hW0, HW, H0, H1, z0, z1⟩ := two_new w #[.slice A ns.length c, .slice B ss.length d, .int .i64 ns.sum, .int .i64 ss.sum] #[.int .i64 0, .int .i64 0] 67 28
  have hn0 := ho.np
  have hn1 := ho.nm
  have hs0 := ho.sp
  have hs1 := ho.sm
  obtain ⟨m0, m1⟩ := mul_bd (a := 2 * ns.sum) (b := ss.sum) (A := 20000) (B := 10000) (by omega) (by omega) (by omega) (by omega)
  have m2 : 0 < 2 * ns.sum * ss.sum := Int.mul_pos (by omega) hs0
  go_enter Try.func90, Try.ntmps90
  go_wp2_with (go_at_call 66; with_reducible refine (ratio_any x (2 * ns.sum * ss.sum) _ hx0 hx1 m2 (by omega)).mono ?_; rintro e w1 ⟨rfl, hB1⟩; rw [← hW0] at hB1; have H0 := Lib.hid ((hB1.block _ z0).trans H0.out); have z0 := Nat.lt_of_lt_of_le z0 hB1.size; have b0 : World.cell? _ ⟨_, 0, none⟩ = some (.slice A ns.length c) := blk_cell H0.out 0 rfl; have b1 : World.cell? _ ⟨_, 1, none⟩ = some (.slice B ss.length d) := blk_cell H0.out 1 rfl; have b2 : World.cell? _ ⟨_, 2, none⟩ = some (.int .i64 ns.sum) := blk_cell H0.out 2 rfl; have b3 : World.cell? _ ⟨_, 3, none⟩ = some (.int .i64 ss.sum) := blk_cell H0.out 3 rfl; have H1 := Lib.hid ((hB1.block _ z1).trans H1.out); have z1 := Nat.lt_of_lt_of_le z1 hB1.size; have c0 : World.cell? _ ⟨_, 0, none⟩ = some (.int .i64 0) := blk_cell H1.out 0 rfl; have c1 : World.cell? _ ⟨_, 1, none⟩ = some (.int .i64 0) := blk_cell H1.out 1 rfl; have cf0 := blk_frozen H1.out 0; have cf1 := blk_frozen H1.out 1; have HW : Hid (Below w.heap.size w _) := Lib.hid (below_step (by first | exact HW.out | exact Below.drew HW.out | exact below_drewN HW.out _) hB1); clear hB1)
  exact bodyPost_ret (v := .agg #[.int .i64 (lowN x (2 * ns.sum * ss.sum)), .int .i64 (lowD x (2 * ns.sum * ss.sum))]) (by simp [results, Try.results90, go_sem, c0, c1]) rfl ⟨rfl, (by repeat (first | with_reducible exact HW.out | with_reducible exact Below.refl _ _ | with_reducible refine below_drewN ?_ _ | with_reducible refine Below.drew ?_ | (with_reducible refine Below.setCell ?_ (by first | exact Nat.le_refl _ | exact Nat.le_succ _ | (simp; done) | (simp; omega) | omega) _) | (with_reducible refine Below.alloc ?_ (by first | exact HW.out.size | (simp; done) | (simp; omega) | omega) _)))⟩

set_option maxRecDepth 100000 in
set_option maxHeartbeats 1000000 in
theorem area_no (ns ss : List Int) (A B : Option Addr) (c d : Nat) (w : World) (hA : Ints w A ns) (hB : Ints w B ss) (hl : ns.length ≤ 1000) (hl2 : ss.length ≤ 1000) (hv : odB ns ss = false) :
    Calls Try.prog 40 #[.agg #[.slice A ns.length c, .slice B ss.length d]] w fun e w' => e = .returned (.tuple #[.agg #[.int .i64 0, .int .i64 0], .int .i64 70]) ∧ Below w.heap.size w w' := by
  have HA := Lib.hid hA
  have HB := Lib.hid hB
  have HV := Lib.hid hv
  clear hA hB hv
  obtain ⟨W0, hW0, HW, H0, H1, z0, z1⟩ := two_new w #[.slice A ns.length c, .slice B ss.length d] #[.int .i64 0, .int .i64 0] 24 28
  go_enter Try.func40, Try.ntmps40
  go_wp2_with (go_at_call 72; with_reducible refine (summed_no ns ss _ _ _ _ _ (HA.out.below (by repeat (first | with_reducible exact Below.refl _ _ | with_reducible assumption | refine below_drewN ?_ _ | with_reducible refine Below.drew ?_ | (refine Below.setCell ?_ (by first | (simp; done) | (simp; omega) | omega) _) | (refine Below.alloc ?_ (by first | (simp; done) | (simp; omega) | omega) _)))) (HB.out.below (by repeat (first | with_reducible exact Below.refl _ _ | with_reducible assumption | refine below_drewN ?_ _ | with_reducible refine Below.drew ?_ | (refine Below.setCell ?_ (by first | (simp; done) | (simp; omega) | omega) _) | (refine Below.alloc ?_ (by first | (simp; done) | (simp; omega) | omega) _)))) hl hl2 HV.out).mono ?_; rintro e w1 ⟨rfl, hB1⟩; rw [← hW0] at hB1; have H0 := Lib.hid ((hB1.block _ z0).trans H0.out); have z0 := Nat.lt_of_lt_of_le z0 hB1.size; have b0 : World.cell? _ ⟨_, 0, none⟩ = some (.slice A ns.length c) := blk_cell H0.out 0 rfl; have b1 : World.cell? _ ⟨_, 1, none⟩ = some (.slice B ss.length d) := blk_cell H0.out 1 rfl; have H1 := Lib.hid ((hB1.block _ z1).trans H1.out); have z1 := Nat.lt_of_lt_of_le z1 hB1.size; have c0 : World.cell? _ ⟨_, 0, none⟩ = some (.int .i64 0) := blk_cell H1.out 0 rfl; have c1 : World.cell? _ ⟨_, 1, none⟩ = some (.int .i64 0) := blk_cell H1.out 1 rfl; have cf0 := blk_frozen H1.out 0; have cf1 := blk_frozen H1.out 1; have HW : Hid (Below w.heap.size w _) := Lib.hid (below_step (by first | exact HW.out | exact Below.drew HW.out | exact below_drewN HW.out _) hB1); clear hB1)
  exact bodyPost_ret (v := .tuple #[.agg #[.int .i64 0, .int .i64 0], .int .i64 70]) (by simp [results, Try.results40, go_sem, cell_ao, z1, c0, c1]) rfl ⟨rfl, (by repeat (first | with_reducible exact HW.out | with_reducible exact Below.refl _ _ | with_reducible refine below_drewN ?_ _ | with_reducible refine Below.drew ?_ | (with_reducible refine Below.setCell ?_ (by first | exact Nat.le_refl _ | exact Nat.le_succ _ | (simp; done) | (simp; omega) | omega) _) | (with_reducible refine Below.alloc ?_ (by first | exact HW.out.size | (simp; done) | (simp; omega) | omega) _)))⟩

set_option maxRecDepth 100000 in
set_option maxHeartbeats 2000000 in
theorem area_yes (ns ss : List Int) (A B : Option Addr) (c d : Nat) (w : World) (hA : Ints w A ns) (hB : Ints w B ss) (hv : odB ns ss = true) :
    Calls Try.prog 40 #[.agg #[.slice A ns.length c, .slice B ss.length d]] w fun e w' => e = .returned (.tuple #[.agg #[.int .i64 (arN ns ss), .int .i64 (arD ns ss)], .int .i64 0]) ∧ Below w.heap.size w w' := by
  have ho := od_of hv
  have HA := Lib.hid hA
  have HB := Lib.hid hB
  have HV := Lib.hid hv
  have hn2 := ho.le
  have HAR := Lib.hid (arK_all ho.nn ho.sn)
  have HB9 := Lib.hid (ar_bd hn2 ho.pr ns.length (Nat.le_refl _))
  clear hA hB hv
  obtain ⟨W0, hW0, HW, H0, H1, z0, z1⟩ := two_new w #[.slice A ns.length c, .slice B ss.length d] #[.int .i64 0, .int .i64 0] 24 28
  go_enter Try.func40, Try.ntmps40
  go_wp2_with (first
    | (go_at_call 72; with_reducible refine (summed_yes ns ss _ _ _ _ _ (HA.out.below (by repeat (first | with_reducible exact Below.refl _ _ | with_reducible assumption | refine below_drewN ?_ _ | with_reducible refine Below.drew ?_ | (refine Below.setCell ?_ (by first | (simp; done) | (simp; omega) | omega) _) | (refine Below.alloc ?_ (by first | (simp; done) | (simp; omega) | omega) _)))) (HB.out.below (by repeat (first | with_reducible exact Below.refl _ _ | with_reducible assumption | refine below_drewN ?_ _ | with_reducible refine Below.drew ?_ | (refine Below.setCell ?_ (by first | (simp; done) | (simp; omega) | omega) _) | (refine Below.alloc ?_ (by first | (simp; done) | (simp; omega) | omega) _)))) HV.out).mono ?_; rintro e w1 ⟨rfl, hB1⟩; rw [← hW0] at hB1; have H0 := Lib.hid ((hB1.block _ z0).trans H0.out); have z0 := Nat.lt_of_lt_of_le z0 hB1.size; have b0 : World.cell? _ ⟨_, 0, none⟩ = some (.slice A ns.length c) := blk_cell H0.out 0 rfl; have b1 : World.cell? _ ⟨_, 1, none⟩ = some (.slice B ss.length d) := blk_cell H0.out 1 rfl; have H1 := Lib.hid ((hB1.block _ z1).trans H1.out); have z1 := Nat.lt_of_lt_of_le z1 hB1.size; have c0 : World.cell? _ ⟨_, 0, none⟩ = some (.int .i64 0) := blk_cell H1.out 0 rfl; have c1 : World.cell? _ ⟨_, 1, none⟩ = some (.int .i64 0) := blk_cell H1.out 1 rfl; have cf0 := blk_frozen H1.out 0; have cf1 := blk_frozen H1.out 1; have HW : Hid (Below w.heap.size w _) := Lib.hid (below_step (by first | exact HW.out | exact Below.drew HW.out | exact below_drewN HW.out _) hB1); clear hB1)
    | (go_at_call 89; refine (curve_own ns ss A B c d ho _ (HA.out.below (by repeat (first | with_reducible exact HW.out | with_reducible exact Below.refl _ _ | with_reducible refine below_drewN ?_ _ | with_reducible refine Below.drew ?_ | (with_reducible refine Below.setCell ?_ (by first | exact Nat.le_refl _ | exact Nat.le_succ _ | (simp; done) | (simp; omega) | omega) _) | (with_reducible refine Below.alloc ?_ (by first | exact HW.out.size | (simp; done) | (simp; omega) | omega) _)))) (HB.out.below (by repeat (first | with_reducible exact HW.out | with_reducible exact Below.refl _ _ | with_reducible refine below_drewN ?_ _ | with_reducible refine Below.drew ?_ | (with_reducible refine Below.setCell ?_ (by first | exact Nat.le_refl _ | exact Nat.le_succ _ | (simp; done) | (simp; omega) | omega) _) | (with_reducible refine Below.alloc ?_ (by first | exact HW.out.size | (simp; done) | (simp; omega) | omega) _))))).mono ?_; rintro e w2 ⟨A', c', rfl, hC, hB2, hbs⟩))
  obtain ⟨W1, hW1, HW1, K2, K3, y2, y3⟩ := two_new w1 #[.slice A ns.length c, .slice B ss.length d, .int .i64 ns.sum, .int .i64 ss.sum] #[.int .i64 0, .int .i64 0] 67 88
  rw [← hW1] at hB2 hbs
  have HSZ : Hid (W1.heap.size = w1.heap.size + 2) := Lib.hid (by rw [hW1]; simp)
  have HBS := Lib.hid hbs
  have HC := Lib.hid hC
  have HWW : Hid (Below w.heap.size w w2) := Lib.hid (below_step (below_step HW.out HW1.out) hB2)
  have G1 : Hid (w2.heap[w.heap.size + 1]? = some (.cells #[.int .i64 0, .int .i64 0] 28 (0, 0))) := Lib.hid ((hB2.block _ (Nat.lt_of_lt_of_le z1 HW1.out.size)).trans ((HW1.out.block _ z1).trans H1.out))
  have G2 := Lib.hid ((hB2.block _ y2).trans K2.out)
  have G3 := Lib.hid ((hB2.block _ y3).trans K3.out)
  have hge : w.heap.size + 1 < w1.heap.size := z1
  clear hbs hC hB2 hW1 HW1 K2 K3 y2 y3 H0 H1 HW c0 c1 cf0 cf1 hW0
  go_loopw [6, 22] (fun v i wr => ∃ k : Nat, k ≤ ns.length + 1 ∧ v = .int .i64 (arK ns ss (k - 1)) ∧ i = .int .i64 k ∧ Below w.heap.size w wr ∧ Hid (Marks wr A' (cvL ns ss (ns.length + 1))) ∧ Hid (wr.heap[w.heap.size + 1]? = some (.cells #[.int .i64 0, .int .i64 0] 28 (0, 0))) ∧ Hid (wr.heap[w1.heap.size]? = some (.cells #[.slice A ns.length c, .slice B ss.length d, .int .i64 ns.sum, .int .i64 ss.sum] 67 (0, 0))) ∧ Hid (wr.heap[w1.heap.size + 1]? = some (.cells #[.int .i64 (cvP ns ss (k - 1)).1, .int .i64 (cvP ns ss (k - 1)).2] 88 (0, 0)))) (fun _ i _ => ns.length + 1 - (intOf i).toNat)
  case atStart => exact ⟨0, Nat.zero_le _, rfl, rfl, HWW.out, HC.out.marks, G1.out, G2.out, G3.out⟩
  case round =>
    clear HWW HC G1 G2 G3
    obtain ⟨k, hk, rfl, rfl, hW, HM, G1, G2, G3⟩ := hrel
    have HW := Lib.hid hW
    clear hW
    have z1 := (Array.getElem?_eq_some_iff.1 G1.out).1
    have z2 := (Array.getElem?_eq_some_iff.1 G2.out).1
    have z3 := (Array.getElem?_eq_some_iff.1 G3.out).1
    by_cases hlt : k < ns.length + 1
    · have hI : (k : Int) < (ns.length : Int) + 1 := by omega
      obtain ⟨bb, oo, rfl, hbb, hcell⟩ := HM.out.open_ (by rw [cvL_len]; omega)
      have hbk : w1.heap.size + 2 ≤ bb := by have := HBS.out _ rfl; rw [HSZ.out] at this; exact this
      obtain ⟨c1, c2⟩ := hcell k _ (cvL_get hlt)
      have HS := Lib.hid (ar_step (ns := ns) (ss := ss) (show k ≤ ns.length by omega))
      have hst := cv_step ho.pr (show k ≤ ns.length by omega)
      have hb1 := cv_bd ho.pr k (by omega)
      have hb2 := cv_bd ho.pr (k - 1) (by omega)
      have hb3 := ar_bd hn2 ho.pr (k - 1) (by omega)
      have e0 : World.cell? _ ⟨_, 0, none⟩ = some (.int .i64 (cvP ns ss (k - 1)).1) := blk_cell G3.out 0 rfl
      have e1 : World.cell? _ ⟨_, 1, none⟩ = some (.int .i64 (cvP ns ss (k - 1)).2) := blk_cell G3.out 1 rfl
      have HD1 : Hid (k + 1 - 1 = k) := rfl
      obtain ⟨x, hx⟩ : ∃ x, (cvP ns ss k).1 = x := ⟨_, rfl⟩
      obtain ⟨y, hy⟩ : ∃ y, (cvP ns ss k).2 = y := ⟨_, rfl⟩
      have HX1 := Lib.hid hx
      have HX2 := Lib.hid hy
      rw [hx] at c1 HS hst hb1
      rw [hy] at c2 HS hb1
      clear hx hy
      generalize (cvP ns ss (k - 1)).1 = a at *
      generalize (cvP ns ss (k - 1)).2 = b at *
      generalize hD : arK ns ss (k - 1) = D at *
      have f0 := blk_frozen G3.out 0
      have f1 := blk_frozen G3.out 1
      obtain ⟨m0, m1⟩ := mul_bd (a := x - a) (b := b + y) (A := 1000) (B := 20000) hst.1 hst.2 (by omega) (by omega)
      have x0 : 0 ≤ x := hb1.1.1
      have x1 : x ≤ 10000 := by omega
      have y0 : 0 ≤ y := hb1.2.1
      have y1 : y ≤ 10000 := by omega
      have a0 : 0 ≤ a := hb2.1.1
      have a1 : a ≤ 10000 := by omega
      have u0 : 0 ≤ b := hb2.2.1
      have u1 : b ≤ 10000 := by omega
      have v0 : 0 ≤ D := hb3.1
      have v1 : D ≤ 400000000 := by omega
      clear hb1 hb2 hb3 hcell hst hD
      go_wp2
      go_roundw
      case rel => exact ⟨k + 1, by omega, by rw [HD1.out, HS.out], by go_num, (by repeat (first | with_reducible exact HW.out | with_reducible exact Below.refl _ _ | with_reducible refine below_drewN ?_ _ | with_reducible refine Below.drew ?_ | (with_reducible refine Below.setCell ?_ (by first | exact Nat.le_refl _ | exact Nat.le_succ _ | (simp; done) | (simp; omega) | omega) _) | (with_reducible refine Below.alloc ?_ (by first | exact HW.out.size | (simp; done) | (simp; omega) | omega) _))), marks_blk HM.out (set2_old _ hbb (by omega)) (by simp <;> omega), (set2_old _ z1 (by omega)).trans G1.out, (set2_old _ z2 (by omega)).trans G2.out, by rw [HD1.out, HX1.out, HX2.out]; exact set2_new _ G3.out⟩
      case measure => simp [intOf]; omega
    · obtain rfl : k = ns.length + 1 := by omega
      rw [Nat.add_sub_cancel] at G3
      rw [Nat.add_sub_cancel]
      obtain ⟨D, hD⟩ : ∃ D, arK ns ss ns.length = D := ⟨_, rfl⟩
      rw [hD] at HAR HB9
      rw [hD]
      have v0 : 0 ≤ D := HB9.out.1
      have v1 : D ≤ 400000000 := by have := HB9.out.2; omega
      have b0 : World.cell? _ ⟨_, 0, none⟩ = some (.slice A ns.length c) := blk_cell G2.out 0 rfl
      have b1 : World.cell? _ ⟨_, 1, none⟩ = some (.slice B ss.length d) := blk_cell G2.out 1 rfl
      have b2 : World.cell? _ ⟨_, 2, none⟩ = some (.int .i64 ns.sum) := blk_cell G2.out 2 rfl
      have b3 : World.cell? _ ⟨_, 3, none⟩ = some (.int .i64 ss.sum) := blk_cell G2.out 3 rfl
      go_wp2_with (go_at_call 90; with_reducible refine (half_any ns ss A B c d ho D (by omega) (by omega) _).mono ?_; rintro e w4 ⟨rfl, hB4⟩; have G1 := Lib.hid ((hB4.block _ z1).trans G1.out); have z1 := Nat.lt_of_lt_of_le z1 hB4.size; have c0 : World.cell? _ ⟨_, 0, none⟩ = some (.int .i64 0) := blk_cell G1.out 0 rfl; have c1 : World.cell? _ ⟨_, 1, none⟩ = some (.int .i64 0) := blk_cell G1.out 1 rfl; have cf0 := blk_frozen G1.out 0; have cf1 := blk_frozen G1.out 1; have HW : Hid (Below w.heap.size w _) := Lib.hid (below_step (by first | exact HW.out | exact Below.drew HW.out | exact below_drewN HW.out _) hB4); clear hB4)
      exact bodyPost_ret (v := .tuple #[.agg #[.int .i64 (arN ns ss), .int .i64 (arD ns ss)], .int .i64 0]) (by unfold arN arD; rw [← HAR.out]; simp [results, Try.results40, go_sem, c0, c1]) rfl ⟨rfl, (by repeat (first | with_reducible exact HW.out | with_reducible exact Below.refl _ _ | with_reducible refine below_drewN ?_ _ | with_reducible refine Below.drew ?_ | (with_reducible refine Below.setCell ?_ (by first | exact Nat.le_refl _ | exact Nat.le_succ _ | (simp; done) | (simp; omega) | omega) _) | (with_reducible refine Below.alloc ?_ (by first | exact HW.out.size | (simp; done) | (simp; omega) | omega) _)))⟩
end Go.Proofs.Ytolpbbabmcpdkaa
