/-
  Contracts: Plain, both.
-/
import Derived.Test.YtmndfcjkokolbaaTurned
import Derived.Test.YtmndfcjkokolbaaTurnM
import Derived.Test.YtmndfcjkokolbaaRefLightW
namespace Go.Proofs.Ytmndfcjkokolbaa
open Go.RowKit Go.Shelf

section
variable {ops : Array Oper} {rest : List Oper} {o : Oper} {a : Act} {Q : Exit → Act → World → Prop}
/-- wp_app_lay, where the new element's block is spelled another way. -/
theorem wp_app_layB (w : World) (hgd : o.guard = none) (s x : Operand)
    (ho : o.op = .call { callee := .builtin .append, args := #[s, x], argTypes := #[22, 22] })
    (base : Nat) (v : Value) (n : Nat) (xs : List (Int × Int)) (y z : Int) (hs : a.eval s = v) (hown : w.ownsRow base 65 2 v n (xs.flatMap mk2)) (B : Nat)
    (hx : a.eval x = .slice (some ⟨B, 0, none⟩) 1 1) (hB : B = w.heap.size) (hn : n ≤ 1000000) (hbase : base ≤ w.heap.size)
    (h : ∀ v' w', w'.ownsRow base 65 2 v' (n + 1) ((xs ++ [(y, z)]).flatMap mk2) → Below base w w' → wpList Try.prog ops Q rest (a.put o.dst v') w') :
    wpList Try.prog ops Q (o :: rest) a (w.alloc (.cells #[.int .i64 y, .int .i64 z] 65)) := by
  subst hB
  exact wp_app_lay w hgd s x ho base v n xs y z hs hown hx hn hbase h
end

def plainE (ms : List (Int × Int)) : Int := if viB ms then 0 else 40
def plainL (ms : List (Int × Int)) : List (Int × Int) := if viB ms then plainF ms else []
theorem plainE_ok {ms : List (Int × Int)} (h : viB ms = true) : plainE ms = 0 ∧ plainL ms = plainF ms := by rw [plainE, plainL, if_pos h, if_pos h]; exact ⟨rfl, rfl⟩
theorem plainE_no {ms : List (Int × Int)} (h : viB ms = false) : plainE ms = 40 ∧ plainL ms = [] := by rw [plainE, plainL, h]; exact ⟨rfl, rfl⟩
/-- The plain ice so far. -/
def PlK (ms : List (Int × Int)) (k : Nat) (acc : List (Int × Int)) : Prop := acc = plainF (ms.take k)
theorem plk_new {ms : List (Int × Int)} {k : Nat} {acc t : List (Int × Int)} {p : Int × Int} {a b : Int} (hx : ms[k]? = some (a, b)) (h : PlK ms k acc) (e : acc = t ++ [p]) (hne : p.2 ≠ b) : PlK ms (k + 1) (acc ++ [(a, b)]) := by
  unfold PlK at *
  rw [plain_snoc hx, ← h, e, addP_new hne]
theorem plk_first {ms : List (Int × Int)} {a b : Int} (hx : ms[0]? = some (a, b)) {acc : List (Int × Int)} (h : PlK ms 0 acc) : PlK ms 1 (acc ++ [(a, b)]) := by
  unfold PlK at *
  have e : acc = [] := by rw [h]; rfl
  rw [plain_snoc hx, ← h, e]; rfl
theorem plk_same {ms : List (Int × Int)} {k : Nat} {acc t : List (Int × Int)} {p : Int × Int} {a b : Int} (hx : ms[k]? = some (a, b)) (h : PlK ms k acc) (e : acc = t ++ [p]) (hne : p.2 = b) : PlK ms (k + 1) (t ++ [(p.1 + a, p.2)]) := by
  unfold PlK at *
  rw [plain_snoc hx, ← h, e, addP_same hne]
theorem plk_last {ms : List (Int × Int)} {k : Nat} {acc : List (Int × Int)} {a b : Int} (hv : viB ms = true) (hx : ms[k]? = some (a, b)) (h : PlK ms (k + 1) acc) : ∃ (t : List (Int × Int)) (x y : Int), acc = t ++ [(x, y)] ∧ y = b ∧ 1 ≤ x ∧ x ≤ 600 ∧ t.length ≤ k := by
  unfold PlK at h
  have hk := (List.getElem?_eq_some_iff.1 hx).1
  obtain ⟨t, p, e, hp⟩ := plain_last (vi_all hv) hx
  have hI := plainI_take (vi_all hv) (k + 1) (by omega)
  have h1 := hI.lays p (by rw [e]; simp)
  have h2 : (mtL (plainF (ms.take (k + 1)))).length ≤ 600 := by
    rw [hI.mt]
    have h3 := (mt_ok hv).2.2
    have h4 : mtL ms = mtL (ms.take (k + 1)) ++ mtL (ms.drop (k + 1)) := by rw [← mt_app, List.take_append_drop]
    rw [h4, List.length_append] at h3
    omega
  rw [e, mt_app, List.length_append] at h2
  have h5 := hI.len
  rw [e, List.length_append, List.length_take] at h5
  refine ⟨t, p.1, p.2, by rw [h, e], hp, h1.1, ?_, by simp at h5; omega⟩
  simp [mtL] at h2
  omega
theorem flat_snoc (t : List (Int × Int)) (x y z : Int) : ((t ++ [(x, y)]).flatMap mk2).set (t.length * 2) (.int .i64 z) = (t ++ [(z, y)]).flatMap mk2 := by
  rw [List.flatMap_append, List.flatMap_append, List.set_append_right _ _ (by rw [flat_len]; omega), flat_len, Nat.sub_self]; rfl
theorem last_get (t : List (Int × Int)) (m : Int × Int) : (t ++ [m])[t.length]? = some m := by
  rw [List.getElem?_append_right (Nat.le_refl _), Nat.sub_self]; rfl

set_option maxRecDepth 100000 in
set_option maxHeartbeats 1000000 in
theorem icePlain_any (ms : List (Int × Int)) (A : Option Addr) (c : Nat) (w : World) (h : Clk w A c ms) :
    Calls Try.prog 48 #[.slice A ms.length c] w fun e w' => IceRes (plainE ms) (plainL ms) e w w' := by
  have H := Lib.hid h
  clear h
  cases hv : viB ms with
  | false =>
    have HT := Lib.hid (plainE_no hv)
    go_enter Try.func48, Try.ntmps48
    go_wp2_with (go_at_call 21; refine (valid_any ms _ _ _ H.out.marks H.out.len).mono ?_; rintro e w1 ⟨rfl, hB1⟩)
    go_ret2
    exact ⟨none, 0, [], 40, rfl, Clk.nil_, hB1, HT.out.2.symm, HT.out.1.symm⟩
  | true =>
    have HV := Lib.hid hv
    have HT := Lib.hid (plainE_ok hv)
    have hn := vi_parts hv
    have n0 : 0 < ms.length := by omega
    have n1 : ms.length ≤ 20 := by omega
    obtain ⟨bl, off, rfl, hbk, hcells⟩ := H.out.marks.open_ n0
    have HC := Lib.hid hcells
    obtain ⟨i0, hi0, hz0, hz1, hz2⟩ := info_parts lay_info
    have HZ2 := Lib.hid hz2
    clear hcells hz2 hn
    go_enter Try.func48, Try.ntmps48
    go_wp2_with (first
      | (go_at_call 21; refine (valid_any ms _ _ _ H.out.marks H.out.len).mono ?_; rintro e w1 ⟨rfl, hB1⟩)
      | (at_make; refine wpList_make_own _ rfl _ _ 22 rfl w.heap.size 65 i0 (.agg #[.int .i64 0, .int .i64 0]) 2 Try.underlying22 hi0 hz0 hz1 .i64 .i64 ms.length ms.length rfl rfl rfl (by rw [HZ2.out]; omega) (by unfold maxLen; omega) hB1.size ?_; intro w4 hown4 hg4))
    have hB4 : Below w.heap.size w w4 := hB1.trans ((Below.refl _ _).grown (hg4) hB1.size (by simp))
    have HO4 := Lib.hid hown4
    clear hown4 hg4 hi0 hz0 hz1 HZ2
    go_loopw [4, 16] (fun v i wr => ∃ k : Nat, k ≤ ms.length ∧ i = .int .i64 k ∧ ∃ xs : List (Int × Int), wr.ownsRow w.heap.size 65 2 v xs.length (xs.flatMap mk2) ∧ Below w.heap.size w wr ∧ Hid (PlK ms k xs)) (fun _ i _ => ms.length - (intOf i).toNat)
    case atStart => exact ⟨0, Nat.zero_le _, rfl, [], HO4.out, hB4, rfl⟩
    case round =>
      clear hB4 hB1
      obtain ⟨k, hk, rfl, xs, hown, hB, hX⟩ := hrel
      by_cases hlt : k < ms.length
      · obtain ⟨a, b, hx⟩ := getM_of_lt hlt
        have f0 := (hB.cell (p := ⟨bl, off + k * 2, none⟩) hbk).trans (HC.out _ _ hx).1
        have f1 := (hB.cell (p := ⟨bl, off + k * 2 + 1, none⟩) hbk).trans (HC.out _ _ hx).2
        have hz := hB.size
        have hbw : bl < wr.heap.size := Nat.lt_of_lt_of_le hbk hz
        have hab := vi_at HV.out hx
        cases k with
        | zero =>
          have e0 : xs = [] := hX.out
          subst e0
          have HNX := Lib.hid (plk_first hx hX.out)
          clear hX hx
          obtain ⟨A', c', hve, _⟩ := own_layers hown
          obtain rfl : u4 = .slice A' 0 c' := hve
          have hown0 := hown.alloc (.cells #[.int .i64 a, .int .i64 b] 65)
          have hB1 : Below w.heap.size w (wr.alloc (.cells #[.int .i64 a, .int .i64 b] 65)) := (by repeat (first | with_reducible exact Below.refl _ _ | with_reducible assumption | refine below_drewN ?_ _ | with_reducible refine Below.drew ?_ | (refine Below.setCell ?_ (by first | (simp; done) | (simp; omega) | omega) _) | (refine Below.alloc ?_ (by first | (simp; done) | (simp; omega) | omega) _)))
          have hsz := hB1.size
          have HB1 := Lib.hid hB1
          clear hown hB1 hB
          simp only [Nat.zero_mul, Nat.add_zero] at f0 f1
          go_wp2
          go_quiet (fail)
          go_wp2_with (at_builtin; refine wp_app_layB ((wr.alloc (.cells #[.int .i64 a, .int .i64 b] 65)).drewN nq) rfl (.tmp 45) (.tmp 47) rfl w.heap.size (.slice A' 0 c') 0 [] a b rfl (own_drewB hown0 _) (wr.heap.size + 1) rfl (by simp) (by omega) hsz ?_; intro v2 w2 hown2 hB2)
          go_roundw
          case rel => exact ⟨1, by omega, by go_num, [(a, b)], hown2, (below_drewN HB1.out _).trans hB2, HNX.out⟩
          case measure => simp [intOf]; omega
        | succ m =>
          obtain ⟨a0, b0, hm0⟩ := getM_of_lt (show m < ms.length by omega)
          obtain ⟨t, x, y, rfl, hyb, hx1, hx2, htl⟩ := plk_last HV.out hm0 hX.out
          have hlen : (t ++ [(x, y)]).length = t.length + 1 := by simp
          rw [hlen] at hown
          obtain ⟨g, cc, rfl, _, hgb⟩ := own_blockM hown (by omega)
          have hown0 := hown.alloc (.cells #[.int .i64 a, .int .i64 b] 65)
          have c0 := hown0.cellAt (t.length * 2) (by omega)
          have c1 := hown0.cellAt (t.length * 2 + 1) (by omega)
          rw [Nat.mul_comm, (flat_get _ _ _ (last_get t (x, y))).1, Nat.mul_comm] at c0
          rw [Nat.mul_comm, (flat_get _ _ _ (last_get t (x, y))).2, Nat.mul_comm] at c1
          have z0 := hown0.frozenAt (t.length * 2)
          have z1 := hown0.frozenAt (t.length * 2 + 1)
          have hB1 : Below w.heap.size w (wr.alloc (.cells #[.int .i64 a, .int .i64 b] 65)) := (by repeat (first | with_reducible exact Below.refl _ _ | with_reducible assumption | refine below_drewN ?_ _ | with_reducible refine Below.drew ?_ | (refine Below.setCell ?_ (by first | (simp; done) | (simp; omega) | omega) _) | (refine Below.alloc ?_ (by first | (simp; done) | (simp; omega) | omega) _)))
          have hsz := hB1.size
          have HB1 := Lib.hid hB1
          have hgw : g < wr.heap.size := (hown.lt g rfl).2
          have HO := Lib.hid hown0
          have t0 : decide ((0 : Int) ≤ (t.length : Int)) = true := decide_eq_true (by omega)
          have s1 : IntKind.i64.wrap ((t.length : Int) + 1 - 1) = (t.length : Int) := by rw [Int.add_sub_cancel]; exact IntWalk.i64_in _ (by omega)
          have j0 : (0 : Int) ≤ (t.length : Int) := by omega
          have j1 : (t.length : Int) < (t.length : Int) + 1 := by omega
          clear hown hB1 hB hm0 hlen hyb
          by_cases hy : y = b
          · subst hy
            have HNX := Lib.hid (plk_same hx hX.out rfl rfl)
            have s2 : IntKind.i64.wrap (x + a) = x + a := IntWalk.i64_in _ (by omega)
            clear hX hx
            go_wp2
            go_quiet (fail)
            go_wp2
            go_region
            have HST := Lib.hid (World.ownsRow.stored (own_drewB HO.out (nq + 1)) (t.length * 2) (.int .i64 (x + a))).1
            rw [flat_snoc] at HST
            have hgb2 := hgb
            go_wp2
            go_roundw
            case rel => exact ⟨m + 2, by omega, by go_num, t ++ [(x + a, y)], by rw [List.length_append]; exact HST.out, (below_drewN HB1.out (nq + 1)).setCell hgb2 _, HNX.out⟩
            case measure => simp [intOf]; omega
          · have t2 : (y == b) = false := by simpa using hy
            have HNX := Lib.hid (plk_new hx hX.out rfl hy)
            clear hX hy hx
            go_wp2
            go_quiet (fail)
            go_wp2_with (at_builtin; refine wp_app_layB ((wr.alloc (.cells #[.int .i64 a, .int .i64 b] 65)).drewN nq) rfl (.tmp 45) (.tmp 47) rfl w.heap.size (.slice (some ⟨g, 0, none⟩) (t.length + 1) cc) (t.length + 1) (t ++ [(x, y)]) a b rfl (own_drewB HO.out _) (wr.heap.size + 1) rfl (by simp) (by omega) hsz ?_; intro v2 w2 hown2 hB2)
            go_roundw
            case rel => exact ⟨m + 2, by omega, by go_num, t ++ [(x, y)] ++ [(a, b)], by simp only [List.length_append, List.length_singleton]; exact hown2, (below_drewN HB1.out _).trans hB2, HNX.out⟩
            case measure => simp [intOf]; omega
      · go_wp2
        go_ret2
        obtain ⟨A', c', rfl, hC⟩ := own_layers hown
        exact ⟨A', c', xs, 0, rfl, hC, hB, by rw [HT.out.2]; have := hX.out; unfold PlK at this; rwa [List.take_of_length_le (by omega)] at this, HT.out.1.symm⟩

set_option maxRecDepth 100000 in
set_option maxHeartbeats 1000000 in
theorem refPlain_any (ms : List (Int × Int)) (A : Option Addr) (c : Nat) (w : World) (h : Clk w A c ms) :
    Calls Try.prog 49 #[.slice A ms.length c] w fun e w' => IceRes (plainE ms) (plainL ms) e w w' := by
  have H := Lib.hid h
  clear h
  cases hv : viB ms with
  | false =>
    have HT := Lib.hid (plainE_no hv)
    go_enter Try.func49, Try.ntmps49
    go_wp2_with (go_at_call 22; refine (refValid_any ms _ _ _ H.out.marks H.out.len).mono ?_; rintro e w1 ⟨rfl, n, rfl⟩)
    go_ret2
    exact ⟨none, 0, [], 40, rfl, Clk.nil_, below_drewN (Below.refl _ _) n, HT.out.2.symm, HT.out.1.symm⟩
  | true =>
    have HV := Lib.hid hv
    have HT := Lib.hid (plainE_ok hv)
    have hn := vi_parts hv
    have n0 : 0 < ms.length := by omega
    have n1 : ms.length ≤ 20 := by omega
    obtain ⟨bl, off, rfl, hbk, hcells⟩ := H.out.marks.open_ n0
    have HC := Lib.hid hcells
    clear hcells hn
    go_enter Try.func49, Try.ntmps49
    go_wp2_with (go_at_call 22; refine (refValid_any ms _ _ _ H.out.marks H.out.len).mono ?_; rintro e w1 ⟨rfl, n, rfl⟩)
    go_loopw [4, 5] (fun v i wr => ∃ k : Nat, k ≤ ms.length ∧ i = .int .i64 k ∧ ∃ xs : List (Int × Int), wr.ownsRow w.heap.size 65 2 v xs.length (xs.flatMap mk2) ∧ Below w.heap.size w wr ∧ Hid (PlK ms k xs)) (fun _ i _ => ms.length - (intOf i).toNat)
    case atStart => exact ⟨0, Nat.zero_le _, rfl, [], World.ownsRow_nil _ _ _ _, below_drewN (Below.refl _ _) n, rfl⟩
    case round =>
      obtain ⟨k, hk, rfl, xs, hown, hB, hX⟩ := hrel
      by_cases hlt : k < ms.length
      · obtain ⟨a, b, hx⟩ := getM_of_lt hlt
        have f0 := (hB.cell (p := ⟨bl, off + k * 2, none⟩) hbk).trans (HC.out _ _ hx).1
        have f1 := (hB.cell (p := ⟨bl, off + k * 2 + 1, none⟩) hbk).trans (HC.out _ _ hx).2
        have hz := hB.size
        have hbw : bl < wr.heap.size := Nat.lt_of_lt_of_le hbk hz
        have hab := vi_at HV.out hx
        have HB := Lib.hid hB
        cases k with
        | zero =>
          have e0 : xs = [] := hX.out
          subst e0
          have HNX := Lib.hid (plk_first hx hX.out)
          clear hX hx hB
          obtain ⟨A', c', hve, _⟩ := own_layers hown
          obtain rfl : u4 = .slice A' 0 c' := hve
          have HO := Lib.hid hown
          clear hown
          simp only [Nat.zero_mul, Nat.add_zero] at f0 f1
          go_wp2
          go_quiet (fail)
          go_wp2_with (at_builtin; refine wp_app_layB (wr.drewN nq) rfl (.tmp 50) (.tmp 55) rfl w.heap.size (.slice A' 0 c') 0 [] a b rfl (own_drewB HO.out _) wr.heap.size rfl (by simp) (by omega) hz ?_; intro v2 w2 hown2 hB2)
          go_roundw
          case rel => exact ⟨1, by omega, by go_num, [(a, b)], hown2, (below_drewN HB.out _).trans hB2, HNX.out⟩
          case measure => simp [intOf]; omega
        | succ m =>
          obtain ⟨a0, b0, hm0⟩ := getM_of_lt (show m < ms.length by omega)
          have g1 := (hB.cell (p := ⟨bl, off + m * 2 + 1, none⟩) hbk).trans (HC.out _ _ hm0).2
          obtain ⟨t, x, y, rfl, hyb, hx1, hx2, htl⟩ := plk_last HV.out hm0 hX.out
          subst hyb
          have hlen : (t ++ [(x, y)]).length = t.length + 1 := by simp
          rw [hlen] at hown
          obtain ⟨g, cc, rfl, _, hgb⟩ := own_blockM hown (by omega)
          have c0 := hown.cellAt (t.length * 2) (by omega)
          rw [Nat.mul_comm, (flat_get _ _ _ (last_get t (x, y))).1, Nat.mul_comm] at c0
          have z0 := hown.frozenAt (t.length * 2)
          have hgw : g < wr.heap.size := (hown.lt g rfl).2
          have HO := Lib.hid hown
          have s1 : IntKind.i64.wrap ((t.length : Int) + 1 - 1) = (t.length : Int) := by rw [Int.add_sub_cancel]; exact IntWalk.i64_in _ (by omega)
          have s3 : IntKind.i64.wrap ((m : Int) + 1 - 1) = (m : Int) := by rw [Int.add_sub_cancel]; exact IntWalk.i64_in _ (by omega)
          have j0 : (0 : Int) ≤ (t.length : Int) := by omega
          have j1 : (t.length : Int) < (t.length : Int) + 1 := by omega
          have m0 : (0 : Int) ≤ (m : Int) := by omega
          have m1 : (m : Int) < (ms.length : Int) := by omega
          have m2 : (m : Int) + 1 < (ms.length : Int) := by omega
          have t0 : decide ((0 : Int) < (m : Int) + 1) = true := decide_eq_true (by omega)
          clear hown hB hm0 hlen
          by_cases hy : y = b
          · subst hy
            have HNX := Lib.hid (plk_same hx hX.out rfl rfl)
            have s2 : IntKind.i64.wrap (x + a) = x + a := IntWalk.i64_in _ (by omega)
            clear hX hx
            go_wp2
            go_quiet (fail)
            go_wp2
            go_region
            have HST := Lib.hid (World.ownsRow.stored (own_drewB HO.out (nq + 1)) (t.length * 2) (.int .i64 (x + a))).1
            rw [flat_snoc] at HST
            have hgb2 := hgb
            go_wp2
            go_roundw
            case rel => exact ⟨m + 2, by omega, by go_num, t ++ [(x + a, y)], by rw [List.length_append]; exact HST.out, (below_drewN HB.out (nq + 1)).setCell hgb2 _, HNX.out⟩
            case measure => simp [intOf]; omega
          · have t2 : (y == b) = false := by simpa using hy
            have HNX := Lib.hid (plk_new hx hX.out rfl hy)
            clear hX hy hx
            go_wp2
            go_quiet (fail)
            go_wp2_with (at_builtin; refine wp_app_layB (wr.drewN nq) rfl (.tmp 50) (.tmp 55) rfl w.heap.size (.slice (some ⟨g, 0, none⟩) (t.length + 1) cc) (t.length + 1) (t ++ [(x, y)]) a b rfl (own_drewB HO.out _) wr.heap.size rfl (by simp) (by omega) hz ?_; intro v2 w2 hown2 hB2)
            go_roundw
            case rel => exact ⟨m + 2, by omega, by go_num, t ++ [(x, y)] ++ [(a, b)], by simp only [List.length_append, List.length_singleton]; exact hown2, (below_drewN HB.out _).trans hB2, HNX.out⟩
            case measure => simp [intOf]; omega
      · go_wp2
        go_ret2
        obtain ⟨A', c', rfl, hC⟩ := own_layers hown
        exact ⟨A', c', xs, 0, rfl, hC, hB, by rw [HT.out.2]; have := hX.out; unfold PlK at this; rwa [List.take_of_length_le (by omega)] at this, HT.out.1.symm⟩
end Go.Proofs.Ytmndfcjkokolbaa
