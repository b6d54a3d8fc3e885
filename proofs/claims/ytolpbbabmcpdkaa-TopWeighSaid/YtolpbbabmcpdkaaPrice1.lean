/-
  Contracts: unit, gain, total, dearest (weigh).
-/
import Derived.Test.YtolpbbabmcpdkaaCurve
import Derived.Test.YtolpbbabmcpdkaaJoined
set_option linter.unusedVariables false
set_option linter.unusedSimpArgs false
namespace Go.Proofs.Ytolpbbabmcpdkaa
open Go.RowKit Go.Shelf

/-- A ratio is a price. -/
def okP (p q : Int) : Bool := (decide (1 ≤ q) && decide (q ≤ 10000000)) && (decide (0 ≤ p) && decide (p ≤ 1000000000))
theorem okP_of {p q : Int} (h : okP p q = true) : 1 ≤ q ∧ q ≤ 10000000 ∧ 0 ≤ p ∧ p ≤ 1000000000 := by
  unfold okP at h
  simp only [Bool.and_eq_true, decide_eq_true_eq] at h
  omega
/-- The gain of an outcome, in units. -/
def gnV (ns ss : List Int) (p q : Int) (a : Nat) : Int := ss.getD a 0 * q * ns.sum - ns.getD a 0 * p * ss.sum
def tgV (ns ss : List Int) (p q : Int) (cs : List Int) : Int := (cs.map fun a => gnV ns ss p q a.toNat).sum
def unV (ns ss : List Int) (q : Int) : Int := ss.sum * q * ns.sum
/-- The dearest cut. -/
def deL (ns ss : List Int) (p q : Int) : List Int := ofM ns.length (fun a => decide (0 < gnV ns ss p q a))
theorem ofM_succ (k : Nat) (f : Nat → Bool) : ofM (k + 1) f = ofM k f ++ (if f k then [(k : Int)] else []) := by
  unfold ofM
  rw [List.range_succ, List.filter_append]
  cases h : f k <;> simp [h]
theorem ofM_len (k : Nat) (f : Nat → Bool) : (ofM k f).length ≤ k := by
  have := List.length_filter_le f (List.range k)
  simpa [ofM] using this
theorem tg_snoc {ns ss : List Int} {p q : Int} {cs : List Int} {k : Nat} {a : Int} (h : cs[k]? = some a) : tgV ns ss p q (cs.take (k + 1)) = tgV ns ss p q (cs.take k) + gnV ns ss p q a.toNat := by
  rw [take_snoc h]; simp [tgV]
theorem gn_bd {ns ss : List Int} (ho : Od ns ss) {p q : Int} (h : 1 ≤ q ∧ q ≤ 10000000 ∧ 0 ≤ p ∧ p ≤ 1000000000) (a : Nat) : -10000000000000000 ≤ gnV ns ss p q a ∧ gnV ns ss p q a ≤ 10000000000000000 := by
  have b1 := getD_bd (C := 1000) (by omega) ho.nb a
  have b2 := getD_bd (C := 1000) (by omega) ho.sb a
  have h0 := ho.np; have h1 := ho.nm; have h2 := ho.sp; have h3 := ho.sm
  unfold gnV
  obtain ⟨m0, m1⟩ := mul_bd (a := ss.getD a 0) (b := q) (A := 1000) (B := 10000000) b2.1 b2.2 (by omega) (by omega)
  obtain ⟨m2, m3⟩ := mul_bd (a := ss.getD a 0 * q) (b := ns.sum) (A := 10000000000) (B := 10000) m0 (by omega) (by omega) (by omega)
  obtain ⟨m4, m5⟩ := mul_bd (a := ns.getD a 0) (b := p) (A := 1000) (B := 1000000000) b1.1 b1.2 (by omega) (by omega)
  obtain ⟨m6, m7⟩ := mul_bd (a := ns.getD a 0 * p) (b := ss.sum) (A := 1000000000000) (B := 10000) m4 (by omega) (by omega) (by omega)
  omega
theorem tg_bd {ns ss : List Int} (ho : Od ns ss) {p q : Int} (h : 1 ≤ q ∧ q ≤ 10000000 ∧ 0 ≤ p ∧ p ≤ 1000000000) (cs : List Int) : -10000000000000000 * (cs.length : Int) ≤ tgV ns ss p q cs ∧ tgV ns ss p q cs ≤ 10000000000000000 * cs.length := by
  induction cs with
  | nil => simp [tgV]
  | cons a t ih =>
    have e : tgV ns ss p q (a :: t) = gnV ns ss p q a.toNat + tgV ns ss p q t := by simp [tgV]
    have := gn_bd ho h a.toNat
    rw [e]; simp only [List.length_cons]; push_cast; omega
theorem un_bd {ns ss : List Int} (ho : Od ns ss) {p q : Int} (h : 1 ≤ q ∧ q ≤ 10000000 ∧ 0 ≤ p ∧ p ≤ 1000000000) : 0 < unV ns ss q ∧ unV ns ss q ≤ 1000000000000000 ∧ 0 ≤ ss.sum * q ∧ ss.sum * q ≤ 100000000000 := by
  have h0 := ho.np; have h1 := ho.nm; have h2 := ho.sp; have h3 := ho.sm
  obtain ⟨m0, m1⟩ := mul_bd (a := ss.sum) (b := q) (A := 10000) (B := 10000000) (by omega) h3 (by omega) (by omega)
  obtain ⟨m2, m3⟩ := mul_bd (a := ss.sum * q) (b := ns.sum) (A := 100000000000) (B := 10000) m0 (by omega) (by omega) (by omega)
  have : 0 < ss.sum * q := Int.mul_pos h2 (by omega)
  exact ⟨Int.mul_pos this h0, by unfold unV; omega, m0, by omega⟩

set_option maxRecDepth 100000 in
set_option maxHeartbeats 2000000 in
theorem unit_any (ns ss : List Int) (A B : Option Addr) (c d : Nat) (p q : Int) (ho : Od ns ss) (hp : 1 ≤ q ∧ q ≤ 10000000 ∧ 0 ≤ p ∧ p ≤ 1000000000) (w : World)  :
    Calls Try.prog 85 #[.agg #[.slice A ns.length c, .slice B ss.length d, .int .i64 ns.sum, .int .i64 ss.sum, .int .i64 p, .int .i64 q]] w fun e w' => e = .returned (.int .i64 (unV ns ss q)) ∧ Below w.heap.size w w' := by
  obtain ⟨u0, u1, u2, u3⟩ := un_bd ho hp
  unfold unV at *
  have h0 := ho.np
  have h1 := ho.nm
  go_enter Try.func85, Try.ntmps85
  go_wp2
  go_ret
  exact ⟨rfl, (by repeat (first | with_reducible exact Below.refl _ _ | with_reducible assumption | refine below_drewN ?_ _ | with_reducible refine Below.drew ?_ | (refine Below.setCell ?_ (by first | (simp; done) | (simp; omega) | omega) _) | (refine Below.alloc ?_ (by first | (simp; done) | (simp; omega) | omega) _)))⟩

set_option maxRecDepth 100000 in
set_option maxHeartbeats 2000000 in
theorem gain_any (ns ss : List Int) (A B : Option Addr) (c d : Nat) (p q : Int) (ho : Od ns ss) (hp : 1 ≤ q ∧ q ≤ 10000000 ∧ 0 ≤ p ∧ p ≤ 1000000000) (w : World) (a : Nat) (ha : a < ns.length) (hA : Ints w A ns) (hB : Ints w B ss) :
    Calls Try.prog 110 #[.agg #[.slice A ns.length c, .slice B ss.length d, .int .i64 ns.sum, .int .i64 ss.sum, .int .i64 p, .int .i64 q], .int .i64 a] w fun e w' => e = .returned (.int .i64 (gnV ns ss p q a)) ∧ Below w.heap.size w w' := by
  obtain ⟨W0, hW0, HW, H0, z0⟩ := one_new w #[.slice A ns.length c, .slice B ss.length d, .int .i64 ns.sum, .int .i64 ss.sum, .int .i64 p, .int .i64 q] 81
  obtain ⟨ad, bd, x, y, rfl, rfl, c1, c2, e1, e2, x0, x1, y0, y1⟩ := ho.at_ (hA.below HW.out) (hB.below HW.out) ha
  have HR : Hid (gnV ns ss p q a = y * q * ns.sum - x * p * ss.sum) := Lib.hid (by unfold gnV; rw [e1.out, e2.out])
  have h0 := ho.np
  have h1 := ho.nm
  have h2 := ho.sp
  have h3 := ho.sm
  obtain ⟨m0, m1⟩ := mul_bd (a := y) (b := q) (A := 1000) (B := 10000000) y0 y1 (by omega) (by omega)
  obtain ⟨m2, m3⟩ := mul_bd (a := y * q) (b := ns.sum) (A := 10000000000) (B := 10000) m0 (by omega) (by omega) (by omega)
  obtain ⟨m4, m5⟩ := mul_bd (a := x) (b := p) (A := 1000) (B := 1000000000) x0 x1 (by omega) (by omega)
  obtain ⟨m6, m7⟩ := mul_bd (a := x * p) (b := ss.sum) (A := 1000000000000) (B := 10000) m4 (by omega) (by omega) (by omega)
  have hl := ho.len
  have ha2 : a < ss.length := by omega
  have b0 : W0.cell? ⟨w.heap.size, 0, none⟩ = some (.slice (some ad) ns.length c) := blk_cell H0.out 0 rfl
  have b1 : W0.cell? ⟨w.heap.size, 1, none⟩ = some (.slice (some bd) ss.length d) := blk_cell H0.out 1 rfl
  have b2 : W0.cell? ⟨w.heap.size, 2, none⟩ = some (.int .i64 ns.sum) := blk_cell H0.out 2 rfl
  have b3 : W0.cell? ⟨w.heap.size, 3, none⟩ = some (.int .i64 ss.sum) := blk_cell H0.out 3 rfl
  have b4 : W0.cell? ⟨w.heap.size, 4, none⟩ = some (.int .i64 p) := blk_cell H0.out 4 rfl
  have b5 : W0.cell? ⟨w.heap.size, 5, none⟩ = some (.int .i64 q) := blk_cell H0.out 5 rfl
  clear hl hA hB
  go_enter Try.func110, Try.ntmps110
  go_wp2
  rw [← hW0]
  clear hW0
  go_quiet (fail)
  go_wp2
  go_ret
  exact ⟨ret_int HR.out.symm, (by repeat (first | with_reducible exact HW.out | with_reducible exact Below.refl _ _ | with_reducible refine below_drewN ?_ _ | with_reducible refine Below.drew ?_ | (with_reducible refine Below.setCell ?_ (by first | exact Nat.le_refl _ | exact Nat.le_succ _ | (simp; done) | (simp; omega) | omega) _) | (with_reducible refine Below.alloc ?_ (by first | exact HW.out.size | (simp; done) | (simp; omega) | omega) _)))⟩

set_option maxRecDepth 100000 in
set_option maxHeartbeats 2000000 in
theorem total_price (ns ss : List Int) (A B : Option Addr) (c d : Nat) (p q : Int) (ho : Od ns ss) (hp : 1 ≤ q ∧ q ≤ 10000000 ∧ 0 ≤ p ∧ p ≤ 1000000000) (w : World) (cs : List Int) (C : Option Addr) (e1 : Nat) (hA : Ints w A ns) (hB : Ints w B ss) (hC : Ints w C cs) (hl3 : cs.length ≤ 100) (hm : ∀ a ∈ cs, 0 ≤ a ∧ a < ns.length) :
    Calls Try.prog 84 #[.agg #[.slice A ns.length c, .slice B ss.length d, .int .i64 ns.sum, .int .i64 ss.sum, .int .i64 p, .int .i64 q], .slice C cs.length e1] w fun e w' => e = .returned (.int .i64 (tgV ns ss p q cs)) ∧ Below w.heap.size w w' := by
  obtain ⟨W0, hW0, HW, H0, z0⟩ := one_new w #[.slice A ns.length c, .slice B ss.length d, .int .i64 ns.sum, .int .i64 ss.sum, .int .i64 p, .int .i64 q] 81
  have HA := Lib.hid hA
  have HB := Lib.hid hB
  have HC := Lib.hid hC
  have HM := Lib.hid hm
  clear hA hB hC hm
  go_enter Try.func84, Try.ntmps84
  go_wp2
  rw [← hW0]
  clear hW0
  go_loopw [5, 10] (fun v i wr => ∃ k : Nat, k ≤ cs.length ∧ v = .int .i64 (tgV ns ss p q (cs.take k)) ∧ i = .int .i64 k ∧ Below W0.heap.size W0 wr) (fun _ i _ => cs.length - (intOf i).toNat)
  case atStart => exact ⟨0, Nat.zero_le _, rfl, rfl, Below.refl _ _⟩
  case round =>
    obtain ⟨k, hk, rfl, rfl, hBr⟩ := hrel
    have HBR := Lib.hid hBr
    have HWR : Hid (Below w.heap.size w wr) := Lib.hid (below_step HW.out hBr)
    have G0 := Lib.hid ((hBr.block _ z0).trans H0.out)
    clear hBr
    by_cases hlt : k < cs.length
    · obtain ⟨ed, x, rfl, hbk, hx, hc⟩ := (HC.out.below HWR.out).get hlt
      have hxb := HM.out x (List.mem_of_getElem? hx.out)
      obtain ⟨a, rfl⟩ := Int.eq_ofNat_of_zero_le hxb.1
      have ha : a < ns.length := by omega
      have hsb := tg_bd ho hp (cs.take k)
      have htl : (cs.take k).length ≤ 100 := by rw [List.length_take]; omega
      have hgb := gn_bd ho hp a
      have HT := Lib.hid (tg_snoc (ns := ns) (ss := ss) (p := p) (q := q) hx.out)
      have hta : Hid ((a : Int).toNat = a) := Lib.hid (Int.toNat_natCast a)
      rw [hta.out] at HT
      generalize hS : tgV ns ss p q (cs.take k) = s at *
      generalize hG : gnV ns ss p q a = g at *
      have HG := Lib.hid hG
      have s0 : -1000000000000000000 ≤ s := by omega
      have s1 : s ≤ 1000000000000000000 := by omega
      have b0 : World.cell? _ ⟨_, 0, none⟩ = some (.slice A ns.length c) := blk_cell G0.out 0 rfl
      have b1 : World.cell? _ ⟨_, 1, none⟩ = some (.slice B ss.length d) := blk_cell G0.out 1 rfl
      have b2 : World.cell? _ ⟨_, 2, none⟩ = some (.int .i64 ns.sum) := blk_cell G0.out 2 rfl
      have b3 : World.cell? _ ⟨_, 3, none⟩ = some (.int .i64 ss.sum) := blk_cell G0.out 3 rfl
      have b4 : World.cell? _ ⟨_, 4, none⟩ = some (.int .i64 p) := blk_cell G0.out 4 rfl
      have b5 : World.cell? _ ⟨_, 5, none⟩ = some (.int .i64 q) := blk_cell G0.out 5 rfl
      clear hsb htl hS hG hxb
      go_wp2_with (go_at_call 110; refine (gain_any ns ss A B c d p q ho hp _ a ha (HA.out.below HWR.out) (HB.out.below HWR.out)).mono ?_; rintro e w2 ⟨rfl, hB2⟩; rw [HG.out]; have HB2 := Lib.hid (below_step HBR.out hB2); clear hB2)
      go_roundw
      case rel => exact ⟨k + 1, by omega, by rw [HT.out], by go_num, HB2.out⟩
      case measure => simp [intOf]; omega
    · obtain rfl : k = cs.length := by omega
      rw [List.take_length]
      go_wp2
      go_ret
      exact ⟨rfl, HWR.out⟩

set_option maxRecDepth 100000 in
set_option maxHeartbeats 2000000 in
theorem dearest_own (ns ss : List Int) (A B : Option Addr) (c d : Nat) (p q : Int) (ho : Od ns ss) (hp : 1 ≤ q ∧ q ≤ 10000000 ∧ 0 ≤ p ∧ p ≤ 1000000000) (w : World) (hA : Ints w A ns) (hB : Ints w B ss) :
    Calls Try.prog 87 #[.agg #[.slice A ns.length c, .slice B ss.length d, .int .i64 ns.sum, .int .i64 ss.sum, .int .i64 p, .int .i64 q]] w fun e w' => ∃ A' c', e = .returned (.slice A' (deL ns ss p q).length c') ∧ Out w' A' c' (deL ns ss p q) ∧ Below w.heap.size w w' := by
  obtain ⟨W0, hW0, HW, H0, z0⟩ := one_new w #[.slice A ns.length c, .slice B ss.length d, .int .i64 ns.sum, .int .i64 ss.sum, .int .i64 p, .int .i64 q] 81
  have HA := Lib.hid hA
  have HB := Lib.hid hB
  have hn2 := ho.le
  clear hA hB
  go_enter Try.func87, Try.ntmps87
  go_wp2_with (go_at_call 77; refine (count_any ns ss A B c d _ _ _).mono ?_; rintro e w1 ⟨rfl, hB1⟩; rw [← hW0] at hB1; have G0 := Lib.hid ((hB1.block _ z0).trans H0.out); have z1 := Nat.lt_of_lt_of_le z0 hB1.size; have HW1 := Lib.hid (below_step HW.out hB1); clear hB1)
  go_loopw [3, 8] (fun v i wr => ∃ k : Nat, k ≤ ns.length ∧ i = .int .i64 k ∧ wr.ownsRow (w.heap.size + 1) 3 1 v (ofM k fun a => decide (0 < gnV ns ss p q a)).length ((ofM k fun a => decide (0 < gnV ns ss p q a)).map (Value.int .i64)) ∧ Below w.heap.size w wr ∧ Hid (wr.heap[w.heap.size]? = some (.cells #[.slice A ns.length c, .slice B ss.length d, .int .i64 ns.sum, .int .i64 ss.sum, .int .i64 p, .int .i64 q] 81 (0, 0)))) (fun _ i _ => ns.length - (intOf i).toNat)
  case atStart => exact ⟨0, Nat.zero_le _, rfl, ⟨rfl, .inl ⟨rfl, rfl⟩⟩, HW1.out, G0.out⟩
  case round =>
    clear HW1 G0 z1 H0 z0 HW
    obtain ⟨k, hk, rfl, hown, hW, G0⟩ := hrel
    have HO := Lib.hid hown
    have HW := Lib.hid hW
    have z0 := (Array.getElem?_eq_some_iff.1 G0.out).1
    by_cases hlt : k < ns.length
    · have hgb := gn_bd ho hp k
      have HT := Lib.hid (ofM_succ k (fun a => decide (0 < gnV ns ss p q a)))
      have hle := ofM_len k (fun a => decide (0 < gnV ns ss p q a))
      generalize hL : (ofM k fun a => decide (0 < gnV ns ss p q a)) = L at *
      generalize hG : gnV ns ss p q k = g at *
      have HG := Lib.hid hG
      have b0 : World.cell? _ ⟨_, 0, none⟩ = some (.slice A ns.length c) := blk_cell G0.out 0 rfl
      have b1 : World.cell? _ ⟨_, 1, none⟩ = some (.slice B ss.length d) := blk_cell G0.out 1 rfl
      have b2 : World.cell? _ ⟨_, 2, none⟩ = some (.int .i64 ns.sum) := blk_cell G0.out 2 rfl
      have b3 : World.cell? _ ⟨_, 3, none⟩ = some (.int .i64 ss.sum) := blk_cell G0.out 3 rfl
      have b4 : World.cell? _ ⟨_, 4, none⟩ = some (.int .i64 p) := blk_cell G0.out 4 rfl
      have b5 : World.cell? _ ⟨_, 5, none⟩ = some (.int .i64 q) := blk_cell G0.out 5 rfl
      clear hown hW hL hG
      by_cases hg : 0 < g
      · have t1 : decide (0 < g) = true := decide_eq_true hg
        have HL : Hid ((ofM (k + 1) fun a => decide (0 < gnV ns ss p q a)) = L ++ [(k : Int)]) := Lib.hid (by rw [HT.out, t1]; rfl)
        go_wp2_with (first
          | (go_at_call 110; refine (gain_any ns ss A B c d p q ho hp _ k hlt (HA.out.below HW.out) (HB.out.below HW.out)).mono ?_; rintro e w2 ⟨rfl, hB2⟩; rw [HG.out]; have HO2 := Lib.hid (own_below HO.out hB2); have HW2 := Lib.hid (below_step HW.out hB2); have G2 := Lib.hid ((hB2.block _ z0).trans G0.out); have hz2 : w.heap.size + 1 ≤ w2.heap.size := Nat.lt_of_lt_of_le z0 hB2.size; clear hB2)
          | (at_builtin; refine wp_app_int _ rfl (.tmp 15) (.tmp 17) rfl (w.heap.size + 1) _ L.length L k rfl HO2.out rfl (by omega) hz2 ?_; intro v2 w3 hown3 hB3))
        go_roundw
        case rel => exact ⟨k + 1, by omega, by go_num, by rw [HL.out]; simpa using hown3, HW2.out.trans (hB3.mono (by omega)), (hB3.block _ (by omega)).trans G2.out⟩
        case measure => simp [intOf]; omega
      · have t1 : decide (0 < g) = false := decide_eq_false hg
        have HL : Hid ((ofM (k + 1) fun a => decide (0 < gnV ns ss p q a)) = L) := Lib.hid (by rw [HT.out, t1]; simp)
        go_wp2_with (go_at_call 110; refine (gain_any ns ss A B c d p q ho hp _ k hlt (HA.out.below HW.out) (HB.out.below HW.out)).mono ?_; rintro e w2 ⟨rfl, hB2⟩; rw [HG.out]; have HO2 := Lib.hid (own_below HO.out hB2); have HW2 := Lib.hid (below_step HW.out hB2); have G2 := Lib.hid ((hB2.block _ z0).trans G0.out); clear hB2)
        go_roundw
        case rel => exact ⟨k + 1, by omega, by go_num, by rw [HL.out]; exact HO2.out, HW2.out, G2.out⟩
        case measure => simp [intOf]; omega
    · obtain rfl : k = ns.length := by omega
      have he : (ofM ns.length fun a => decide (0 < gnV ns ss p q a)) = deL ns ss p q := rfl
      rw [he] at hown
      obtain ⟨A', c', rfl, hO⟩ := own_ints hown
      go_wp2
      go_ret
      exact ⟨A', c', rfl, hO, HW.out⟩
end Go.Proofs.Ytolpbbabmcpdkaa
