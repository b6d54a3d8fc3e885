/-
  Contracts: Kept for any tasks; the reference's Kept.
-/
import Derived.Test.YthanmiifcpajhaaRefMvT
set_option linter.unusedVariables false
set_option linter.unusedSimpArgs false
namespace Go.Proofs.Ythanmiifcpajhaa
open Go Go.RowKit

def kpV (ts : Ts) : List Int := if vaB ts = true then (kpS ts ts.length).1 else []
theorem kp_t {ts : Ts} (h : vaB ts = false) : taE ts = 80 ∧ kpV ts = [] := by simp [taE, kpV, h]
theorem kp_o {ts : Ts} (h : vaB ts = true) : taE ts = 0 ∧ kpV ts = (kpS ts ts.length).1 := by simp [taE, kpV, h]
set_option maxRecDepth 100000 in
theorem keptX_any (ts : Ts) (A : Option Addr) (cap : Nat) (w : World) (h : Marks w A ts) (hl : ts.length ≤ maxLen) :
    Calls Try.prog 53 #[.slice A ts.length cap] w fun e w' => ∃ B c, e = .returned (.tuple #[.slice B (kpV ts).length c, .int .i64 (taE ts)]) ∧ Out w' B c (kpV ts) ∧ Below w.heap.size w w' := by
  cases hv : vaB ts with
  | false =>
    have HE := Lib.hid (kp_t hv)
    have HVA : Hid (Calls Try.prog 19 #[.slice A ts.length cap] w fun e w' => e = .returned (.bool false) ∧ Below w.heap.size w w') := Lib.hid ((valid_any ts A cap w h hl).mono fun e w' ⟨h1, h2⟩ => ⟨by rw [h1, hv], h2⟩)
    clear hv h hl
    go_enter Try.func53, Try.ntmps53
    go_wp2_with (first
      | (go_at_call 19; refine HVA.out.mono ?_; rintro e w1 ⟨rfl, hB1⟩)
      | fail)
    go_ret2
    exact ⟨none, 0, by rw [HE.out.1, HE.out.2]; rfl, by rw [HE.out.2]; exact Out.nil_, hB1⟩
  | true =>
    obtain ⟨e1, e2⟩ := kp_o hv
    rw [e1, e2]
    exact kept_any ts A cap w h hv

section
variable {o : Oper} {a : Act} {W : World} {K : Act → World → Prop} {Q : Exit → Act → World → Prop} {E : Prop} {ops : Array Oper}
/-- The append of tasks, as many as there are, to none. -/
theorem step_tasks (hgd : o.guard = none) (s x : Operand)
    (ho : o.op = .call { callee := .builtin .append, args := #[s, x], argTypes := #[22, 22] })
    (base g : Nat) (hs : a.eval s = .slice (some ⟨g, 0, none⟩) 0 0) (hown : W.ownsRow base 53 3 (.slice (some ⟨g, 0, none⟩) 0 0) 0 (([] : Ts).flatMap mk3))
    (A : Option Addr) (c : Nat) (ys : Ts) (hx : a.eval x = .slice A ys.length c) (hm : Marks W A ys) (hnil : ys = [] → (A = none ∧ c = 0)) (hn : ys.length ≤ 1000) (w0 : World) (hw0 : Below base w0 W) (hb0 : base ≤ w0.heap.size) (hgb : base ≤ g)
    (h : ∀ v' w', w'.ownsRow base 53 3 v' ys.length (ys.flatMap mk3) → W.grownBy w' (some g) → Below base w0 w' → K (a.put o.dst v') w') :
    if Region.wanted o (yielded ops a.tmps) = true then Oper.wp Try.prog o a W K Q else E := by
  have hw : Region.wanted o (yielded ops a.tmps) = true := by simp [Region.wanted, hgd]
  rw [if_pos hw]
  have hbase : base ≤ W.heap.size := Nat.le_trans hb0 hw0.size
  have hgg : ∀ k, some g = some k → base ≤ k := fun k hk => by cases hk; exact hgb
  obtain ⟨i0, hi0, hz0, hz1, hz2⟩ := info_parts lay_info
  by_cases hy : 0 < ys.length
  · obtain ⟨b, of, rfl, hb, hc⟩ := hm.open_ hy
    refine wp_append_own _ s x 22 ho base 53 i0 (.agg #[.int .i64 0, .int .i64 0, .int .i64 0]) 3 24 Try.underlying22 hi0 hz0 hz1 hz2 rfl (by decide) _ 0 _ hs hown ⟨b, of, none⟩ ys.length c (ys.flatMap mk3) hx (flat_len ys) (fun j u hj => marks_cells hc hj) (mk3_one ys) (by unfold maxLen; omega) (by omega) hbase ?_
    intro v' w' h1 h2 _
    exact h v' w' (by simpa using h1) h2 (hw0.grown h2 hbase hgg)
  · obtain rfl : ys = [] := List.eq_nil_of_length_eq_zero (by omega)
    obtain ⟨rfl, rfl⟩ := hnil rfl
    have hrun := run_append_owned_none (P := Try.prog) W base 22 o.type 53 i0 3 Try.underlying22 hi0 _ 0 _ hown
    unfold Oper.wp execOp
    have hx' : a.eval x = .slice none 0 0 := hx
    simp only [ho, resolve, invoke, builtin, Sem.run_bind, Sem.run_pure, Result.andThen_ok, List.map_toArray, List.map_cons, List.map_nil, hs, hx', hrun]
    exact h _ _ hown ⟨rfl, rfl, rfl, Nat.le_refl _, fun _ _ _ => rfl⟩ hw0
end
theorem own_empty2 (w : World) (base : Nat) (hb : base ≤ w.heap.size) : (w.alloc (.cells #[] 53)).ownsRow base 53 3 (.slice (some ⟨w.heap.size, 0, none⟩) 0 0) 0 (([] : Ts).flatMap mk3) := own_le (own_empty w) hb
theorem Marks.grown {w w' : World} {A : Option Addr} {ys : Ts} {base g : Nat} (h : Marks w A ys) (hg : w.grownBy w' (some g)) (hne : ∀ x, A = some x → x.block ≠ g) : Marks w' A ys :=
  ⟨h.1, fun hn => by
    obtain ⟨ad, e, hb, hc⟩ := h.2 hn
    refine ⟨ad, e, Nat.lt_of_lt_of_le hb hg.size, fun j u hu => ?_⟩
    have hbb : (ad.add j).block = ad.block := block_of_add ad j
    rw [← hc j u hu]
    have := hg.block ad.block hb (fun he => hne ad e (Option.some.inj he))
    unfold World.cell?; rw [hbb, this]⟩

theorem grown_cell {w w' : World} {b i g : Nat} (hg : w.grownBy w' (some g)) (hb : b < w.heap.size) (hne : g ≠ b) : w'.cell? ⟨b, i, none⟩ = w.cell? ⟨b, i, none⟩ := by
  have := hg.block b hb (fun he => hne (Option.some.inj he).symm)
  unfold World.cell?; rw [this]
theorem box_cell3 (w : World) (E : Obj) (x y z : Value) (T : TypeId) : ((w.alloc E).alloc (.cells #[x, y, z] T)).cell? ⟨w.heap.size + 1, 0, none⟩ = some x ∧ ((w.alloc E).alloc (.cells #[x, y, z] T)).cell? ⟨w.heap.size + 1, 1, none⟩ = some y ∧ ((w.alloc E).alloc (.cells #[x, y, z] T)).cell? ⟨w.heap.size + 1, 2, none⟩ = some z := by
  have h := alloc_cell3 (w.alloc E) x y z T
  rwa [show (w.alloc E).heap.size = w.heap.size + 1 by simp] at h
theorem own_empty3 (w : World) (E : Obj) : ((w.alloc E).alloc (.cells #[] 53)).ownsRow w.heap.size 53 3 (.slice (some ⟨w.heap.size + 1, 0, none⟩) 0 0) 0 (([] : Ts).flatMap mk3) := by
  have h := own_empty2 (w.alloc E) w.heap.size (by simp)
  rwa [show (w.alloc E).heap.size = w.heap.size + 1 by simp] at h
theorem box_cell4 (w : World) (E : Obj) (x y z : Value) (T : TypeId) : ((w.alloc (.cells #[x, y, z] T)).alloc E).cell? ⟨w.heap.size, 0, none⟩ = some x ∧ ((w.alloc (.cells #[x, y, z] T)).alloc E).cell? ⟨w.heap.size, 1, none⟩ = some y ∧ ((w.alloc (.cells #[x, y, z] T)).alloc E).cell? ⟨w.heap.size, 2, none⟩ = some z := by
  have h := alloc_cell3 w x y z T
  exact ⟨(World.cell?_alloc_lt _ _ _ (by simp)).trans h.1, (World.cell?_alloc_lt _ _ _ (by simp)).trans h.2.1, (World.cell?_alloc_lt _ _ _ (by simp)).trans h.2.2⟩
theorem slack_can {ts : Ts} (hv : vaB ts = true) : decide (0 ≤ mnS ts allS) = canB ts := (can_slack hv).symm

set_option maxRecDepth 100000 in
set_option maxHeartbeats 4000000 in
theorem refKeptX_any (ts : Ts) (A : Option Addr) (cap : Nat) (w : World) (h : Marks w A ts) (hl : ts.length ≤ maxLen) :
    Calls Try.prog 54 #[.slice A ts.length cap] w fun e w' => ∃ B c, e = .returned (.tuple #[.slice B (kpV ts).length c, .int .i64 (taE ts)]) ∧ Out w' B c (kpV ts) ∧ Below w.heap.size w w' := by
  have H := Lib.hid h
  have HVA : Hid (Calls Try.prog 20 #[.slice A ts.length cap] w fun e w' => e = .returned (.bool (vaB ts)) ∧ Below w.heap.size w w') := Lib.hid ((refValid_any ts A cap w h hl).mono fun e w' ⟨h1, n, h2⟩ => ⟨h1, h2 ▸ below_drewN (Below.refl _ _) n⟩)
  clear h hl
  cases hv : vaB ts with
  | false =>
    have HE := Lib.hid (kp_t hv)
    rw [hv] at HVA
    clear hv
    go_enter Try.func54, Try.ntmps54
    go_wp2_with (first
      | (go_at_call 20; refine HVA.out.mono ?_; rintro e w1 ⟨rfl, hB1⟩)
      | fail)
    go_ret2
    exact ⟨none, 0, by rw [HE.out.1, HE.out.2]; rfl, by rw [HE.out.2]; exact Out.nil_, hB1⟩
  | true =>
    rw [hv] at HVA
    have hl := va_len hv
    obtain ⟨hl1, hl2⟩ := hl
    have HV := Lib.hid hv
    have HE := Lib.hid (kp_o hv)
    obtain ⟨bl, off, rfl, hbk, hcells⟩ := H.out.open_ (by omega)
    have HC := Lib.hid hcells
    clear hv hcells
    go_enter Try.func54, Try.ntmps54
    go_wp2_with (first
      | (go_at_call 20; refine HVA.out.mono ?_; rintro e w1 ⟨rfl, hB1⟩)
      | fail)
    go_loopw [4, 5, 6] (fun l v i wr => ∃ k : Nat, k ≤ ts.length ∧ i = .int .i64 k ∧ wr.ownsRow w.heap.size 3 1 l (kpS ts k).1.length ((kpS ts k).1.map (Value.int .i64)) ∧ wr.ownsRow w.heap.size 53 3 v (kpS ts k).2.length ((kpS ts k).2.flatMap mk3) ∧ ((kpS ts k).2 = [] → v = .slice none 0 0) ∧ Below w.heap.size w wr) (fun _ _ i _ => ts.length - (intOf i).toNat)
    case atStart => exact ⟨0, Nat.zero_le _, rfl, ⟨rfl, .inl ⟨rfl, rfl⟩⟩, ⟨rfl, .inl ⟨rfl, rfl⟩⟩, fun _ => rfl, hB1⟩
    case round =>
      clear hB1
      obtain ⟨k, hk, rfl, hownL, hownT, hnil, hB⟩ := hrel
      rename World => wr
      by_cases hlt : k < ts.length
      · obtain ⟨a, b, d, hx⟩ := getT_of_lt hlt
        have hzs := hB.size
        have hbw : bl < wr.heap.size := Nat.lt_of_lt_of_le hbk hzs
        have f0 := (hB.cell (p := ⟨bl, off + k * 3, none⟩) hbk).trans (HC.out _ _ hx).1
        have f1 := (hB.cell (p := ⟨bl, off + k * 3 + 1, none⟩) hbk).trans (HC.out _ _ hx).2.1
        have f2 := (hB.cell (p := ⟨bl, off + k * 3 + 2, none⟩) hbk).trans (HC.out _ _ hx).2.2
        have HNI := Lib.hid hnil
        have hkl := kp_len ts k
        obtain ⟨vs, hvs⟩ : ∃ vs, (kpS ts k).2 = vs := ⟨_, rfl⟩
        obtain ⟨ls, hls⟩ : ∃ ls, (kpS ts k).1 = ls := ⟨_, rfl⟩
        rw [hvs] at hownT HNI hkl
        rw [hls] at hownL hkl
        have HVS := Lib.hid hvs
        have HLS := Lib.hid hls
        have hva := kp_va HV.out hlt
        rw [hvs, getT_of hx] at hva
        have HVA1 := Lib.hid hva
        have HNX := Lib.hid (getT_of hx)
        have hvl : vs.length ≤ 1000 := by omega
        have hll : ls.length ≤ 1000 := by omega
        clear hkl
        obtain ⟨B5, c5, rfl, hk5⟩ := own_tasks hownT
        have HN5 : Hid (vs = [] → B5 = none ∧ c5 = 0) := Lib.hid (fun e => by have := HNI.out e; injection this with e1 e2 e3; exact ⟨e1, e3⟩)
        have HT1 := Lib.hid hownT
        have HL1 := Lib.hid hownL
        clear hownL hownT hnil hvs hls hva hx
        go_wp2
        go_region_law
          (first
            | (refine step_task (o := ⟨some 25, _, _, _, _, _⟩) _ rfl (.tmp 19) (.tmp 24) rfl _ _ vs a b d rfl (ho2.alloc _) w2.heap.size rfl (alloc_cell3 w2 _ _ _ _) (by omega) ?_ ?_; (simp; exact Nat.le_succ_of_le hB2.size); intro v3 w3 hown3 hg3; have hB5 : Below wr.heap.size wr w3 := Below.grown (Below.alloc hB2 hB2.size (.cells #[.int .i64 a, .int .i64 b, .int .i64 d] 53)) hg3 (by simp; exact Nat.le_succ_of_le hB2.size) (fun g hg => (ho2.lt g hg).1))
            | (refine step_task (o := ⟨some 25, _, _, _, _, _⟩) _ rfl (.tmp 19) (.tmp 24) rfl _ _ vs a b d rfl ho2 _ rfl ⟨c0, c1, c2⟩ (by omega) ?_ ?_; exact hB2.size; intro v3 w3 hown3 hg3; have hB5 : Below wr.heap.size wr w3 := Below.grown hB2 hg3 hB2.size (fun g hg => (ho2.lt g hg).1))
            | (refine step_tasks (o := ⟨some 19, _, _, _, _, _⟩) rfl (.tmp 17) (.tmp 18) rfl wr.heap.size wr.heap.size rfl (own_empty2 wr wr.heap.size (Nat.le_refl _)) B5 c5 vs rfl (hk5.marks.below (by repeat (first | with_reducible exact Below.refl _ _ | with_reducible assumption | refine below_drewN ?_ _ | with_reducible refine Below.drew ?_ | (refine Below.setCell ?_ (by first | (simp; done) | (simp; omega) | omega) _) | (refine Below.alloc ?_ (by first | (simp; done) | (simp; omega) | omega) _)))) HN5.out (by omega) wr (by repeat (first | with_reducible exact Below.refl _ _ | with_reducible assumption | refine below_drewN ?_ _ | with_reducible refine Below.drew ?_ | (refine Below.setCell ?_ (by first | (simp; done) | (simp; omega) | omega) _) | (refine Below.alloc ?_ (by first | (simp; done) | (simp; omega) | omega) _))) (Nat.le_refl _) (Nat.le_refl _) ?_; intro v2 w2 ho2 hg2 hB2; have f0 := (hB2.cell (p := ⟨bl, off + k * 3, none⟩) hbw).trans f0; have f1 := (hB2.cell (p := ⟨bl, off + k * 3 + 1, none⟩) hbw).trans f1; have f2 := (hB2.cell (p := ⟨bl, off + k * 3 + 2, none⟩) hbw).trans f2)
            | (refine step_tasks (o := ⟨some 19, _, _, _, _, _⟩) rfl (.tmp 17) (.tmp 18) rfl wr.heap.size wr.heap.size rfl ((own_empty2 wr wr.heap.size (Nat.le_refl _)).alloc _) B5 c5 vs rfl (hk5.marks.below (by repeat (first | with_reducible exact Below.refl _ _ | with_reducible assumption | refine below_drewN ?_ _ | with_reducible refine Below.drew ?_ | (refine Below.setCell ?_ (by first | (simp; done) | (simp; omega) | omega) _) | (refine Below.alloc ?_ (by first | (simp; done) | (simp; omega) | omega) _)))) HN5.out (by omega) wr (by repeat (first | with_reducible exact Below.refl _ _ | with_reducible assumption | refine below_drewN ?_ _ | with_reducible refine Below.drew ?_ | (refine Below.setCell ?_ (by first | (simp; done) | (simp; omega) | omega) _) | (refine Below.alloc ?_ (by first | (simp; done) | (simp; omega) | omega) _))) (Nat.le_refl _) (Nat.le_refl _) ?_; intro v2 w2 ho2 hg2 hB2; have f0 := (hB2.cell (p := ⟨bl, off + k * 3, none⟩) hbw).trans f0; have f1 := (hB2.cell (p := ⟨bl, off + k * 3 + 1, none⟩) hbw).trans f1; have f2 := (hB2.cell (p := ⟨bl, off + k * 3 + 2, none⟩) hbw).trans f2; have c0 := (grown_cell hg2 (by simp <;> omega) (by simp <;> omega)).trans (box_cell3 wr (.cells #[] 53) (.int .i64 a) (.int .i64 b) (.int .i64 d) 53).1; have c1 := (grown_cell hg2 (by simp <;> omega) (by simp <;> omega)).trans (box_cell3 wr (.cells #[] 53) (.int .i64 a) (.int .i64 b) (.int .i64 d) 53).2.1; have c2 := (grown_cell hg2 (by simp <;> omega) (by simp <;> omega)).trans (box_cell3 wr (.cells #[] 53) (.int .i64 a) (.int .i64 b) (.int .i64 d) 53).2.2)
            | (refine step_tasks (o := ⟨some 19, _, _, _, _, _⟩) rfl (.tmp 17) (.tmp 18) rfl wr.heap.size (wr.heap.size + 1) rfl (own_empty3 wr (.cells #[.int .i64 a, .int .i64 b, .int .i64 d] 53)) B5 c5 vs rfl (hk5.marks.below (by repeat (first | with_reducible exact Below.refl _ _ | with_reducible assumption | refine below_drewN ?_ _ | with_reducible refine Below.drew ?_ | (refine Below.setCell ?_ (by first | (simp; done) | (simp; omega) | omega) _) | (refine Below.alloc ?_ (by first | (simp; done) | (simp; omega) | omega) _)))) HN5.out (by omega) wr (by repeat (first | with_reducible exact Below.refl _ _ | with_reducible assumption | refine below_drewN ?_ _ | with_reducible refine Below.drew ?_ | (refine Below.setCell ?_ (by first | (simp; done) | (simp; omega) | omega) _) | (refine Below.alloc ?_ (by first | (simp; done) | (simp; omega) | omega) _))) (Nat.le_refl _) (Nat.le_succ _) ?_; intro v2 w2 ho2 hg2 hB2; have f0 := (hB2.cell (p := ⟨bl, off + k * 3, none⟩) hbw).trans f0; have f1 := (hB2.cell (p := ⟨bl, off + k * 3 + 1, none⟩) hbw).trans f1; have f2 := (hB2.cell (p := ⟨bl, off + k * 3 + 2, none⟩) hbw).trans f2; have c0 := (grown_cell hg2 (by simp <;> omega) (by simp <;> omega)).trans (box_cell4 wr (.cells #[] 53) (.int .i64 a) (.int .i64 b) (.int .i64 d) 53).1; have c1 := (grown_cell hg2 (by simp <;> omega) (by simp <;> omega)).trans (box_cell4 wr (.cells #[] 53) (.int .i64 a) (.int .i64 b) (.int .i64 d) 53).2.1; have c2 := (grown_cell hg2 (by simp <;> omega) (by simp <;> omega)).trans (box_cell4 wr (.cells #[] 53) (.int .i64 a) (.int .i64 b) (.int .i64 d) 53).2.2))
        all_goals
          obtain ⟨A3, c3, rfl, ht3⟩ := own_tasks hown3
          have HL3 := Lib.hid (own_below HL1.out hB5)
          have HT3 := Lib.hid (own_le hown3 hzs)
          have hB3' := below_step hB hB5
          have HW3 := Lib.hid hB5
          have HCN : Hid (Calls Try.prog 68 #[.slice A3 (vs ++ [(a, b, d)]).length c3] w3 fun e w' => e = .returned (.int .i64 (mnS (vs ++ [(a, b, d)]) allS)) ∧ w3 = w') := Lib.hid (refSlack_any _ A3 c3 w3 ht3.marks HVA1.out)
          obtain ⟨n3, hn3⟩ : ∃ n3, (vs ++ [(a, b, d)]).length = n3 := ⟨_, rfl⟩
          obtain ⟨m3, hm3⟩ : ∃ m3, mnS (vs ++ [(a, b, d)]) allS = m3 := ⟨_, rfl⟩
          have hsc := slack_can HVA1.out
          rw [hn3, hm3] at HCN
          rw [hn3]
          rw [hm3] at hsc
          have HN3 := Lib.hid hn3
          clear hown3 hg3 hB5 ht3 ho2 hB2 hg2 hn3 hm3
          cases hcb : canB (vs ++ [(a, b, d)]) with
          | false =>
            have HN := Lib.hid (kp_no (ts := ts) (k := k) (by rw [HVS.out, HNX.out]; exact hcb))
            rw [hcb] at hsc
            clear hcb
            go_wp2_with (first
              | (go_at_call 68; refine HCN.out.mono ?_; rintro e w4 ⟨rfl, rfl⟩)
              | fail)
            go_roundw
            case rel =>
              exact ⟨k + 1, by omega, by go_num, by rw [HN.out, HLS.out]; exact HL3.out, by rw [HN.out, HVS.out]; exact own_below HT1.out HW3.out, by rw [HN.out, HVS.out]; exact fun e => by obtain ⟨e1, e2⟩ := HN5.out e; rw [e, e1, e2]; rfl, hB3'⟩
            case measure => simp [intOf]; omega
          | true =>
            have HN := Lib.hid (kp_yes (ts := ts) (k := k) (by rw [HVS.out, HNX.out]; exact hcb))
            rw [hcb] at hsc
            clear hcb
            have hS4 := hB3'.size
            go_wp2_with (first
              | (go_at_call 68; refine HCN.out.mono ?_; rintro e w4 ⟨rfl, rfl⟩)
              | (at_builtin; refine wp_app_int2 _ rfl (.tmp 29) (.tmp 31) rfl w.heap.size _ ls.length ls _ rfl HL3.out rfl (by omega) hS4 ?_; intro v5 w5 hown5 hB5 hkt5)
              | fail)
            go_roundw
            case rel =>
              exact ⟨k + 1, by omega, by go_num, by rw [HN.out, HLS.out]; simpa using hown5, by rw [HN.out, ← HN3.out, HVS.out, HNX.out]; exact hkt5 _ _ _ _ HT3.out, by rw [HN.out]; simp, Below.trans hB3' hB5⟩
            case measure => simp [intOf]; omega
      · obtain rfl : k = ts.length := by omega
        obtain ⟨B, c, rfl, ho⟩ := own_ints hownL
        have HO := Lib.hid ho
        clear hownL hownT hnil ho
        go_wp2
        go_ret2
        exact ⟨B, c, by rw [HE.out.1, HE.out.2]; rfl, by rw [HE.out.2]; exact HO.out, hB⟩
end Go.Proofs.Ythanmiifcpajhaa
