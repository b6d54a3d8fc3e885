/-
  Contracts of the reference: Moved, Turned, SameTasks.
-/
import Derived.Test.YthanmiifcpajhaaMvT
import Derived.Test.YthanmiifcpajhaaSameI
set_option linter.unusedVariables false
set_option linter.unusedSimpArgs false
namespace Go.Proofs.Ythanmiifcpajhaa
open Go Go.RowKit

section
variable {ops : Array Oper} {o : Oper} {a : Act} {K : Act → World → Prop} {Q : Exit → Act → World → Prop} {E : Prop}
theorem step_app_task (w : World) (hgd : o.guard = none) (s x : Operand)
    (ho : o.op = .call { callee := .builtin .append, args := #[s, x], argTypes := #[22, 22] })
    (base : Nat) (v : Value) (n : Nat) (xs : Ts) (y z u : Int) (hs : a.eval s = v) (hown : w.ownsRow base 53 3 v n (xs.flatMap mk3))
    (hx : a.eval x = .slice (some ⟨w.heap.size, 0, none⟩) 1 1) (hn : n ≤ 1000000) (hbase : base ≤ w.heap.size)
    (h : ∀ v' w', w'.ownsRow base 53 3 v' (n + 1) ((xs ++ [(y, z, u)]).flatMap mk3) → Below base w w' → K (a.put o.dst v') w') :
    if Region.wanted o (yielded ops a.tmps) = true then Oper.wp Try.prog o a (w.alloc (.cells #[.int .i64 y, .int .i64 z, .int .i64 u] 53)).drew K Q else E := by
  obtain ⟨i0, hi0, hz0, hz1, hz2⟩ := info_parts lay_info
  refine step_app w hgd s x 22 ho base 53 i0 (.agg #[.int .i64 0, .int .i64 0, .int .i64 0]) 3 24 Try.underlying22 hi0 hz0 hz1 hz2 rfl (by decide) (by decide) v n _ [.int .i64 y, .int .i64 z, .int .i64 u] hs hown hx rfl ?_ hn hbase ?_
  · intro t ht; simp at ht; rcases ht with rfl | rfl | rfl <;> rfl
  · intro v' w' h1 h2 _
    exact h v' w' (by rw [List.flatMap_append]; exact h1) h2
end
theorem mv_out {ts : Ts} {z : Int} (hv : vaB ts = true) (hz : -9223372036854775808 ≤ z ∧ z ≤ 9223372036854775807) (hw : wiB (-100) z 100 = false) : vaB (ts.map (mvT z)) = false := by
  obtain ⟨h1, h2⟩ := va_len hv
  have hw : z < -100 ∨ 100 < z := by simp [wiB] at hw; omega
  obtain ⟨a, b, c, hx⟩ := getT_of_lt (ms := ts) (k := 0) (by omega)
  have h := va_at hv (show 0 < ts.length by omega)
  obtain ⟨e0, e1, e2⟩ := getT_parts hx
  rw [e0, e1, e2] at h
  cases hb : vaB (ts.map (mvT z)) with
  | false => rfl
  | true =>
    have h' := va_at hb (show 0 < (ts.map (mvT z)).length by simp; omega)
    have hx' : (ts.map (mvT z))[0]? = some (wrap64 (a + z), wrap64 (b + z), c) := by rw [List.getElem?_map, hx]; rfl
    obtain ⟨e0, e1, e2⟩ := getT_parts hx'
    rw [e0, e1, e2] at h'
    unfold wrap64 at h'
    omega
theorem map_take_succT (f : Int × Int × Int → Int × Int × Int) {ts : Ts} {k : Nat} {x : Int × Int × Int} (h : ts[k]? = some x) : (ts.take (k + 1)).map f = (ts.take k).map f ++ [f x] := by
  rw [take_snoc h, List.map_append, List.map_singleton]

set_option maxRecDepth 100000 in
set_option maxHeartbeats 2000000 in
theorem refMovedX_any (ts : Ts) (A : Option Addr) (cap : Nat) (z : Int) (w : World) (h : Marks w A ts) (hl : ts.length ≤ maxLen) (hz : -9223372036854775808 ≤ z ∧ z ≤ 9223372036854775807) :
    Calls Try.prog 49 #[.slice A ts.length cap, .int .i64 z] w fun e w' => ∃ B c, e = .returned (.tuple #[.slice B (mvV ts z).length c, .int .i64 (mvE ts z)]) ∧ Clk w' B c (mvV ts z) ∧ Below w.heap.size w w' := by
  have H := Lib.hid h
  have HVA : Hid (Calls Try.prog 20 #[.slice A ts.length cap] w fun e w' => e = .returned (.bool (vaB ts)) ∧ Below w.heap.size w w') := Lib.hid ((refValid_any ts A cap w h hl).mono fun e w' ⟨h1, n, h2⟩ => ⟨h1, h2 ▸ below_drewN (Below.refl _ _) n⟩)
  clear h hl
  cases hv : vaB ts with
  | false =>
    have HE := Lib.hid (mv_t (z := z) hv)
    rw [hv] at HVA
    clear hv
    go_enter Try.func49, Try.ntmps49
    go_wp2_with (first
      | (go_at_call 20; refine HVA.out.mono ?_; rintro e w1 ⟨rfl, hB1⟩)
      | fail)
    go_ret2
    exact ⟨none, 0, by rw [HE.out.1, HE.out.2]; rfl, by rw [HE.out.2]; exact Clk.nil_, hB1⟩
  | true =>
    rw [hv] at HVA
    cases hw : wiB (-100) z 100 with
    | false =>
      have HE := Lib.hid (mv_a hv (mv_out hv hz hw))
      have HW := Lib.hid hw
      clear hv hw hz
      go_enter Try.func49, Try.ntmps49
      go_wp2_with (first
        | (go_at_call 20; refine HVA.out.mono ?_; rintro e w1 ⟨rfl, hB1⟩)
        | (go_at_call 61; refine (within_any _ _ _ _).mono ?_; rintro e w2 ⟨he, rfl⟩; rw [HW.out] at he; subst he)
        | fail)
      go_ret2
      exact ⟨none, 0, by rw [HE.out.1, HE.out.2]; rfl, by rw [HE.out.2]; exact Clk.nil_, hB1⟩
    | true =>
      have hwi : -100 ≤ z ∧ z ≤ 100 := by simp [wiB] at hw; exact hw
      obtain ⟨z1, z2⟩ := hwi
      have hl := va_len hv
      obtain ⟨hl1, hl2⟩ := hl
      have HV := Lib.hid hv
      have HW := Lib.hid hw
      obtain ⟨bl, off, rfl, hbk, hcells⟩ := H.out.open_ (by omega)
      have HC := Lib.hid hcells
      have TA : Hid True := Lib.hid trivial
      clear hv hw hz hcells
      go_enter Try.func49, Try.ntmps49
      go_wp2_with (first
        | (go_at_call 20; clear TA; refine HVA.out.mono ?_; rintro e w1 ⟨rfl, hB1⟩)
        | (go_at_call 61; refine (within_any _ _ _ _).mono ?_; rintro e w2 ⟨he, rfl⟩; rw [HW.out] at he; subst he)
        | fail)
      go_loopw [6, 7] (fun v i wr => ∃ k : Nat, k ≤ ts.length ∧ i = .int .i64 k ∧ wr.ownsRow w.heap.size 53 3 v k (((ts.take k).map (mvT z)).flatMap mk3) ∧ Below w.heap.size w wr) (fun _ i _ => ts.length - (intOf i).toNat)
      case atStart => exact ⟨0, Nat.zero_le _, rfl, World.ownsRow_nil _ _ _ _, hB1⟩
      case round =>
        clear hB1
        obtain ⟨k, hk, rfl, hown, hB⟩ := hrel
        rename World => wr
        by_cases hlt : k < ts.length
        · obtain ⟨a, b, d, hx⟩ := getT_of_lt hlt
          have f0 := (hB.cell (p := ⟨bl, off + k * 3, none⟩) hbk).trans (HC.out _ _ hx).1
          have f1 := (hB.cell (p := ⟨bl, off + k * 3 + 1, none⟩) hbk).trans (HC.out _ _ hx).2.1
          have f2 := (hB.cell (p := ⟨bl, off + k * 3 + 2, none⟩) hbk).trans (HC.out _ _ hx).2.2
          have hv := va_at HV.out hlt
          obtain ⟨e0, e1, e2⟩ := getT_parts hx
          rw [e0, e1, e2] at hv
          obtain ⟨v0, v1, v2, v3, v4⟩ := hv
          have HX : Hid ((ts.take (k + 1)).map (mvT z) = (ts.take k).map (mvT z) ++ [(a + z, b + z, d)]) := Lib.hid (by
            rw [map_take_succT (mvT z) hx]; simp only [mvT]; rw [IntWalk.wrap64_in _ (by omega), IntWalk.wrap64_in _ (by omega)])
          have hz := hB.size
          have hbw : bl < wr.heap.size := Nat.lt_of_lt_of_le hbk hz
          have HB := Lib.hid hB
          have HOWN := Lib.hid hown
          clear hown hx e0 e1 e2
          have k0 : (0 : Int) ≤ (k : Int) := by omega
          have k1 : (k : Int) < (ts.length : Int) := by omega
          have s1 : IntKind.i64.wrap (a + z) = a + z := IntWalk.i64_in _ (by omega)
          have s2 : IntKind.i64.wrap (b + z) = b + z := IntWalk.i64_in _ (by omega)
          go_wp2
          go_region_held3 (fun w' => w'.cell? ⟨bl, off + k * 3, none⟩ = some (.int .i64 a) ∧ w'.cell? ⟨bl, off + k * 3 + 1, none⟩ = some (.int .i64 b) ∧ w'.cell? ⟨bl, off + k * 3 + 2, none⟩ = some (.int .i64 d))
            ((first | with_reducible exact ⟨f0, f1, f2⟩ | exact ⟨f0, f1, f2⟩ | exact ⟨(hB2.cell (p := ⟨bl, off + k * 3, none⟩) hbk).trans f0, (hB2.cell (p := ⟨bl, off + k * 3 + 1, none⟩) hbk).trans f1, (hB2.cell (p := ⟨bl, off + k * 3 + 2, none⟩) hbk).trans f2⟩ | exact ⟨(World.cell?_alloc_lt _ _ _ hbw).trans f0, (World.cell?_alloc_lt _ _ _ hbw).trans f1, (World.cell?_alloc_lt _ _ _ hbw).trans f2⟩))
            ((refine step_app_task wr rfl (.tmp 20) (.tmp 41) rfl w.heap.size _ k _ _ _ _ rfl HOWN.out rfl (by omega) hz ?_; intro v2 w2 hown2 hB2))
          go_wp2
          go_roundw
          case rel => exact ⟨k + 1, by omega, by go_num, by rw [HX.out]; exact hown2, HB.out.trans hB2⟩
          case measure => simp [intOf]; omega
        · obtain rfl : k = ts.length := by omega
          rw [List.take_length] at hown
          obtain ⟨B, c2, rfl, hmk⟩ := own_tasks hown
          have hm : (ts.map (mvT z)).length = ts.length := by simp
          have HM := Lib.hid hm
          have HK := Lib.hid hmk
          have HV2 : Hid (Calls Try.prog 20 #[.slice B (ts.map (mvT z)).length c2] wr fun e w' => e = .returned (.bool (vaB (ts.map (mvT z)))) ∧ Below wr.heap.size wr w') := Lib.hid ((refValid_any (ts.map (mvT z)) B c2 wr hmk.marks hmk.len).mono fun e w' ⟨h1, n, h2⟩ => ⟨h1, h2 ▸ below_drewN (Below.refl _ _) n⟩)
          rw [hm] at HV2 ⊢
          clear hown hm hmk
          cases hv2 : vaB (ts.map (mvT z)) with
          | false =>
            have HE := Lib.hid (mv_a HV.out hv2)
            rw [hv2] at HV2
            clear hv2
            go_wp2_with (first
              | (go_at_call 20; refine HV2.out.mono ?_; rintro e w3 ⟨rfl, hB3⟩)
              | fail)
            go_ret2
            exact ⟨none, 0, by rw [HE.out.1, HE.out.2]; rfl, by rw [HE.out.2]; exact Clk.nil_, below_step hB hB3⟩
          | true =>
            have HE := Lib.hid (mv_o HV.out hv2)
            rw [hv2] at HV2
            clear hv2
            go_wp2_with (first
              | (go_at_call 20; refine HV2.out.mono ?_; rintro e w3 ⟨rfl, hB3⟩)
              | fail)
            go_ret2
            exact ⟨_, c2, by rw [HE.out.1, HE.out.2, HM.out]; rfl, by rw [HE.out.2]; exact HK.out.below hB3, below_step hB hB3⟩

set_option maxRecDepth 100000 in
set_option maxHeartbeats 2000000 in
theorem refTurnedX_any (ts : Ts) (A : Option Addr) (cap : Nat) (w : World) (h : Marks w A ts) (hl : ts.length ≤ maxLen) :
    Calls Try.prog 52 #[.slice A ts.length cap] w fun e w' => ∃ B c, e = .returned (.tuple #[.slice B (tnV ts).length c, .int .i64 (taE ts)]) ∧ Clk w' B c (tnV ts) ∧ Below w.heap.size w w' := by
  have H := Lib.hid h
  have HVA : Hid (Calls Try.prog 20 #[.slice A ts.length cap] w fun e w' => e = .returned (.bool (vaB ts)) ∧ Below w.heap.size w w') := Lib.hid ((refValid_any ts A cap w h hl).mono fun e w' ⟨h1, n, h2⟩ => ⟨h1, h2 ▸ below_drewN (Below.refl _ _) n⟩)
  clear h hl
  cases hv : vaB ts with
  | false =>
    have HE := Lib.hid (tn_t hv)
    rw [hv] at HVA
    clear hv
    go_enter Try.func52, Try.ntmps52
    go_wp2_with (first
      | (go_at_call 20; refine HVA.out.mono ?_; rintro e w1 ⟨rfl, hB1⟩)
      | fail)
    go_ret2
    exact ⟨none, 0, by rw [HE.out.1, HE.out.2]; rfl, by rw [HE.out.2]; exact Clk.nil_, hB1⟩
  | true =>
    rw [hv] at HVA
    have hl := va_len hv
    obtain ⟨hl1, hl2⟩ := hl
    have HV := Lib.hid hv
    have HE := Lib.hid (tn_o hv)
    obtain ⟨bl, off, rfl, hbk, hcells⟩ := H.out.open_ (by omega)
    have HC := Lib.hid hcells
    clear hv hcells
    go_enter Try.func52, Try.ntmps52
    go_wp2_with (first
      | (go_at_call 20; refine HVA.out.mono ?_; rintro e w1 ⟨rfl, hB1⟩)
      | fail)
    go_loopw [4, 5] (fun v i wr => ∃ k : Nat, k ≤ ts.length ∧ i = .int .i64 k ∧ wr.ownsRow w.heap.size 53 3 v k (((ts.take k).map tnT).flatMap mk3) ∧ Below w.heap.size w wr) (fun _ i _ => ts.length - (intOf i).toNat)
    case atStart => exact ⟨0, Nat.zero_le _, rfl, World.ownsRow_nil _ _ _ _, hB1⟩
    case round =>
      clear hB1
      obtain ⟨k, hk, rfl, hown, hB⟩ := hrel
      rename World => wr
      by_cases hlt : k < ts.length
      · obtain ⟨a, b, d, hx⟩ := getT_of_lt hlt
        have f0 := (hB.cell (p := ⟨bl, off + k * 3, none⟩) hbk).trans (HC.out _ _ hx).1
        have f1 := (hB.cell (p := ⟨bl, off + k * 3 + 1, none⟩) hbk).trans (HC.out _ _ hx).2.1
        have f2 := (hB.cell (p := ⟨bl, off + k * 3 + 2, none⟩) hbk).trans (HC.out _ _ hx).2.2
        have hv := va_at HV.out hlt
        obtain ⟨e0, e1, e2⟩ := getT_parts hx
        rw [e0, e1, e2] at hv
        obtain ⟨v0, v1, v2, v3, v4⟩ := hv
        have HX : Hid ((ts.take (k + 1)).map tnT = (ts.take k).map tnT ++ [(100 - b, 100 - a, d)]) := Lib.hid (by rw [map_take_succT tnT hx]; rfl)
        have hz := hB.size
        have hbw : bl < wr.heap.size := Nat.lt_of_lt_of_le hbk hz
        have HB := Lib.hid hB
        have HOWN := Lib.hid hown
        clear hown hx e0 e1 e2
        have k0 : (0 : Int) ≤ (k : Int) := by omega
        have k1 : (k : Int) < (ts.length : Int) := by omega
        have s1 : IntKind.i64.wrap (100 - a) = 100 - a := IntWalk.i64_in _ (by omega)
        have s2 : IntKind.i64.wrap (100 - b) = 100 - b := IntWalk.i64_in _ (by omega)
        go_wp2
        go_region_held3 (fun w' => w'.cell? ⟨bl, off + k * 3, none⟩ = some (.int .i64 a) ∧ w'.cell? ⟨bl, off + k * 3 + 1, none⟩ = some (.int .i64 b) ∧ w'.cell? ⟨bl, off + k * 3 + 2, none⟩ = some (.int .i64 d))
          ((first | with_reducible exact ⟨f0, f1, f2⟩ | exact ⟨f0, f1, f2⟩ | exact ⟨(hB2.cell (p := ⟨bl, off + k * 3, none⟩) hbk).trans f0, (hB2.cell (p := ⟨bl, off + k * 3 + 1, none⟩) hbk).trans f1, (hB2.cell (p := ⟨bl, off + k * 3 + 2, none⟩) hbk).trans f2⟩ | exact ⟨(World.cell?_alloc_lt _ _ _ hbw).trans f0, (World.cell?_alloc_lt _ _ _ hbw).trans f1, (World.cell?_alloc_lt _ _ _ hbw).trans f2⟩))
          ((refine step_app_task wr rfl (.tmp 15) (.tmp 34) rfl w.heap.size _ k _ _ _ _ rfl HOWN.out rfl (by omega) hz ?_; intro v2 w2 hown2 hB2))
        go_wp2
        go_roundw
        case rel => exact ⟨k + 1, by omega, by go_num, by rw [HX.out]; exact hown2, HB.out.trans hB2⟩
        case measure => simp [intOf]; omega
      · obtain rfl : k = ts.length := by omega
        rw [List.take_length] at hown
        obtain ⟨B, c2, rfl, hmk⟩ := own_tasks hown
        have HK := Lib.hid hmk
        clear hown hmk
        go_wp2
        go_ret2
        exact ⟨_, c2, by rw [HE.out.1, HE.out.2]; rfl, by rw [HE.out.2]; exact HK.out, hB⟩

set_option maxRecDepth 100000 in
theorem sameTasks_any (xs ys : Ts) (A B : Option Addr) (c d : Nat) (w : World) (hA : Marks w A xs) (hB : Marks w B ys) (hl : xs.length ≤ maxLen) :
    Calls Try.prog 50 #[.slice A xs.length c, .slice B ys.length d] w fun e w' => e = .returned (.bool (decide (xs = ys))) ∧ Below w.heap.size w w' := by
  unfold maxLen at hl
  have HA := Lib.hid hA
  have HB := Lib.hid hB
  clear hA hB
  by_cases hlen : xs.length = ys.length
  · have HL := Lib.hid hlen
    have hn : (((xs.length : Int) != (ys.length : Int)) = false) := by rw [hlen]; simp
    have hle : xs.length ≤ ys.length := by omega
    clear hlen
    go_enter Try.func50, Try.ntmps50
    go_wp2
    go_loopw [5] (fun i wr => ∃ k m : Nat, k ≤ xs.length ∧ i = .int .i64 k ∧ wr = w.drewN m ∧ Hid (xs.take k = ys.take k)) (fun i _ => xs.length - (intOf i).toNat)
    case atStart => exact ⟨0, 0, Nat.zero_le _, rfl, rfl, rfl⟩
    case round =>
      obtain ⟨k, m, hk, rfl, rfl, ht⟩ := hrel
      by_cases hlt : k < xs.length
      · obtain ⟨bl, off, rfl, _, hc⟩ := HA.out.open_ (show 0 < xs.length by omega)
        obtain ⟨bl2, off2, rfl, _, hd⟩ := HB.out.open_ (show 0 < ys.length by omega)
        obtain ⟨a, b, g, hx⟩ := getT_of_lt hlt
        obtain ⟨a2, b2, g2, hy⟩ := getT_of_lt (show k < ys.length by omega)
        have hlt2 : k < ys.length := by omega
        have c1 := (hc k _ hx).1
        have c2 := (hc k _ hx).2.1
        have c3 := (hc k _ hx).2.2
        have d1 := (hd k _ hy).1
        have d2 := (hd k _ hy).2.1
        have d3 := (hd k _ hy).2.2
        have HX := Lib.hid hx
        have HY := Lib.hid hy
        clear hx hy hc hd
        by_cases h1 : a = a2
        · subst h1
          by_cases h2 : b = b2
          · subst h2
            by_cases h3 : g = g2
            · subst h3
              go_wp2
              go_quiet (fail)
              go_wp2
              go_roundw
              case rel => exact ⟨k + 1, _, by omega, by go_num, (by first | rfl | exact World.drewN_drewN _ _ _), eq_next HX.out HY.out rfl ht.out⟩
              case measure => simp [intOf]; omega
            · have t2 : (g == g2) = false := by simpa using h3
              go_wp2
              go_quiet (fail)
              go_wp2
              go_ret
              exact ⟨ret_bool (ne_at HX.out HY.out (by simpa using h3)), (by repeat (first | with_reducible exact Below.refl _ _ | with_reducible assumption | refine below_drewN ?_ _ | with_reducible refine Below.drew ?_ | (refine Below.setCell ?_ (by first | (simp; done) | (simp; omega) | omega) _) | (refine Below.alloc ?_ (by first | (simp; done) | (simp; omega) | omega) _)))⟩
          · have t2 : (b == b2) = false := by simpa using h2
            go_wp2
            go_quiet (fail)
            go_wp2
            go_ret
            exact ⟨ret_bool (ne_at HX.out HY.out (by intro e; injection e with e1 e2; injection e2 with e2 e3; exact h2 e2)), (by repeat (first | with_reducible exact Below.refl _ _ | with_reducible assumption | refine below_drewN ?_ _ | with_reducible refine Below.drew ?_ | (refine Below.setCell ?_ (by first | (simp; done) | (simp; omega) | omega) _) | (refine Below.alloc ?_ (by first | (simp; done) | (simp; omega) | omega) _)))⟩
        · have t1 : (a == a2) = false := by simpa using h1
          go_wp2
          go_quiet (fail)
          go_wp2
          go_ret
          exact ⟨ret_bool (ne_at HX.out HY.out (by intro e; injection e with e1 e2; exact h1 e1)), (by repeat (first | with_reducible exact Below.refl _ _ | with_reducible assumption | refine below_drewN ?_ _ | with_reducible refine Below.drew ?_ | (refine Below.setCell ?_ (by first | (simp; done) | (simp; omega) | omega) _) | (refine Below.alloc ?_ (by first | (simp; done) | (simp; omega) | omega) _)))⟩
      · go_wp2
        go_ret
        exact ⟨ret_bool (eq_end HL.out (by omega) ht.out), (by repeat (first | with_reducible exact Below.refl _ _ | with_reducible assumption | refine below_drewN ?_ _ | with_reducible refine Below.drew ?_ | (refine Below.setCell ?_ (by first | (simp; done) | (simp; omega) | omega) _) | (refine Below.alloc ?_ (by first | (simp; done) | (simp; omega) | omega) _)))⟩
  · have hn : (((xs.length : Int) != (ys.length : Int)) = true) := by simp; omega
    go_enter Try.func50, Try.ntmps50
    go_wp2
    go_ret
    exact ⟨ret_bool (ne_len hlen), Below.refl _ _⟩
end Go.Proofs.Ythanmiifcpajhaa
