/-
  Contract: Kept.
-/
import Derived.Test.YthanmiifcpajhaaClone
import Derived.Deep.RegionWith
import Derived.Lib.SmallJoins
import Derived.Lib.OwnKind
set_option linter.unusedVariables false
set_option linter.unusedSimpArgs false
namespace Go.Proofs.Ythanmiifcpajhaa
open Go Go.RowKit

/-- Behind k tasks: which are kept, and what they are. -/
def kpS (ts : List (Int × Int × Int)) : Nat → List Int × List (Int × Int × Int)
  | 0 => ([], [])
  | k + 1 => if canB ((kpS ts k).2 ++ [ts.getD k tkZ]) = true then ((kpS ts k).1 ++ [(k : Int)], (kpS ts k).2 ++ [ts.getD k tkZ]) else kpS ts k
theorem kp_yes {ts : List (Int × Int × Int)} {k : Nat} (h : canB ((kpS ts k).2 ++ [ts.getD k tkZ]) = true) : kpS ts (k + 1) = ((kpS ts k).1 ++ [(k : Int)], (kpS ts k).2 ++ [ts.getD k tkZ]) := by rw [kpS, if_pos h]
theorem kp_no {ts : List (Int × Int × Int)} {k : Nat} (h : canB ((kpS ts k).2 ++ [ts.getD k tkZ]) = false) : kpS ts (k + 1) = kpS ts k := by rw [kpS, if_neg (by rw [h]; simp)]
theorem kp_len (ts : List (Int × Int × Int)) : ∀ k, (kpS ts k).1.length ≤ k ∧ (kpS ts k).2.length = (kpS ts k).1.length
  | 0 => by simp [kpS]
  | k + 1 => by
    have := kp_len ts k
    rw [kpS]
    split
    · simp; omega
    · omega
theorem va_mem {ts : List (Int × Int × Int)} (h : vaB ts = true) : ∀ x ∈ ts, tkB x = true := by
  simp only [vaB, Bool.and_eq_true, List.all_eq_true] at h; exact h.2
theorem va_mk {ts : List (Int × Int × Int)} (h1 : 1 ≤ ts.length) (h2 : ts.length ≤ 12) (h : ∀ x ∈ ts, tkB x = true) : vaB ts = true := by
  simp only [vaB, Bool.and_eq_true, List.all_eq_true]; exact ⟨by simp; omega, h⟩
theorem getD_mem {ts : List (Int × Int × Int)} {k : Nat} (h : k < ts.length) : ts.getD k tkZ ∈ ts := by
  rw [List.getD_eq_getElem?_getD, List.getElem?_eq_getElem h]; exact List.getElem_mem h
theorem kp_mem {ts : List (Int × Int × Int)} : ∀ k, k ≤ ts.length → ∀ x ∈ (kpS ts k).2, x ∈ ts
  | 0, _ => by simp [kpS]
  | k + 1, h => by
    have ih := kp_mem (ts := ts) k (by omega)
    rw [kpS]
    split
    · intro x hx
      rcases List.mem_append.1 hx with hx | hx
      · exact ih x hx
      · rw [List.mem_singleton] at hx; subst hx; exact getD_mem (by omega)
    · exact ih
theorem getT_of {ts : List (Int × Int × Int)} {k : Nat} {x : Int × Int × Int} (h : ts[k]? = some x) : ts.getD k tkZ = x := by rw [List.getD_eq_getElem?_getD, h]; rfl
theorem kp_va {ts : List (Int × Int × Int)} (hv : vaB ts = true) {k : Nat} (hk : k < ts.length) : vaB ((kpS ts k).2 ++ [ts.getD k tkZ]) = true := by
  have hl := kp_len ts k
  have hl2 := va_len hv
  refine va_mk (by simp) (by simp; omega) fun x hx => ?_
  rcases List.mem_append.1 hx with hx | hx
  · exact va_mem hv x (kp_mem k (by omega) x hx)
  · rw [List.mem_singleton] at hx; subst hx; exact va_mem hv _ (getD_mem hk)

theorem own_le {w : World} {base base' size n : Nat} {e : TypeId} {v : Value} {xs : List Value} (h : w.ownsRow base e size v n xs) (hb : base' ≤ base) : w.ownsRow base' e size v n xs :=
  ⟨h.1, h.2.elim .inl fun ⟨g, c, cur, h1, h2, h3⟩ => .inr ⟨g, c, cur, h1, Nat.le_trans hb h2, h3⟩⟩
theorem own_sep {w : World} {base base' size size' n n' : Nat} {e e' : TypeId} {v v' : Value} {xs xs' : List Value} (h : w.ownsRow base e size v n xs) (h' : w.ownsRow base' e' size' v' n' xs') (hne : e ≠ e') : v.ownBlock = none ∨ v.ownBlock ≠ v'.ownBlock := by
  cases hv : v.ownBlock with
  | none => exact .inl rfl
  | some g =>
    refine .inr fun he => ?_
    obtain ⟨c, fz, h1⟩ := Go.Lib.ownsRow_kind h g hv
    obtain ⟨c', fz', h2⟩ := Go.Lib.ownsRow_kind h' g he.symm
    rw [h1] at h2
    injection h2 with h2
    injection h2 with _ h3
    exact hne h3
section
variable {ops : Array Oper} {rest : List Oper} {o : Oper} {a : Act} {Q : Exit → Act → World → Prop}
/-- An append of an int leaves own tasks as they are. -/
theorem wp_app_int2 (w : World) (hgd : o.guard = none) (s x : Operand)
    (ho : o.op = .call { callee := .builtin .append, args := #[s, x], argTypes := #[23, 23] })
    (base : Nat) (v : Value) (n : Nat) (xs : List Int) (z : Int) (hs : a.eval s = v) (hown : w.ownsRow base 3 1 v n (xs.map (Value.int .i64)))
    (hx : a.eval x = .slice (some ⟨w.heap.size, 0, none⟩) 1 1) (hn : n ≤ 1000000) (hbase : base ≤ w.heap.size)
    (h : ∀ v' w', w'.ownsRow base 3 1 v' (n + 1) ((xs ++ [z]).map (Value.int .i64)) → Below base w w' → (∀ b' n' v2 ys, w.ownsRow b' 53 3 v2 n' ys → w'.ownsRow b' 53 3 v2 n' ys) → wpList Try.prog ops Q rest (a.put o.dst v') w') :
    wpList Try.prog ops Q (o :: rest) a (w.alloc (.cells #[.int .i64 z] 3)) := by
  obtain ⟨i0, hi0, hz0, hz1, hz2⟩ := info_parts int_info
  refine wpList_append_own _ hgd s x 23 ho base 3 i0 (.int .i64 0) 1 8 Try.underlying23 hi0 hz0 hz1 hz2 rfl (by decide) v n _ hs (hown.alloc _) ⟨w.heap.size, 0, none⟩ 1 1 [.int .i64 z] hx rfl (cells_new w [.int .i64 z] _) (by intro u hu; simp at hu; subst hu; rfl) (by unfold maxLen; omega) (by omega) (by simp; omega) ?_
  intro v' w' ho' hg _
  refine h v' w' (by simpa using ho') (((Below.refl base w).alloc hbase _).grown hg (by simp; omega) (fun k hk => (hown.lt k hk).1)) ?_
  intro b' n' v2 ys h2
  exact (h2.alloc _).kept hg (own_sep h2 hown (by decide))
end
section
variable {ops : Array Oper} {o : Oper} {a : Act} {K : Act → World → Prop} {Q : Exit → Act → World → Prop} {E : Prop}
/-- The append of one task that lies in a box of its own, wherever. -/
theorem step_task (W : World) (hgd : o.guard = none) (s x : Operand)
    (ho : o.op = .call { callee := .builtin .append, args := #[s, x], argTypes := #[22, 22] })
    (base : Nat) (v : Value) (xs : List (Int × Int × Int)) (y z u : Int) (hs : a.eval s = v) (hown : W.ownsRow base 53 3 v xs.length (xs.flatMap mk3))
    (g2 : Nat) (hx : a.eval x = .slice (some ⟨g2, 0, none⟩) 1 1) (hc : W.cell? ⟨g2, 0, none⟩ = some (.int .i64 y) ∧ W.cell? ⟨g2, 1, none⟩ = some (.int .i64 z) ∧ W.cell? ⟨g2, 2, none⟩ = some (.int .i64 u)) (hn : xs.length ≤ 1000) (hbase : base ≤ W.heap.size)
    (h : ∀ v' w', w'.ownsRow base 53 3 v' (xs ++ [(y, z, u)]).length ((xs ++ [(y, z, u)]).flatMap mk3) → W.grownBy w' v.ownBlock → K (a.put o.dst v') w') :
    if Region.wanted o (yielded ops a.tmps) = true then Oper.wp Try.prog o a W K Q else E := by
  have hw : Region.wanted o (yielded ops a.tmps) = true := by simp [Region.wanted, hgd]
  rw [if_pos hw]
  obtain ⟨i0, hi0, hz0, hz1, hz2⟩ := info_parts lay_info
  refine wp_append_own _ s x 22 ho base 53 i0 (.agg #[.int .i64 0, .int .i64 0, .int .i64 0]) 3 24 Try.underlying22 hi0 hz0 hz1 hz2 rfl (by decide) v xs.length _ hs hown ⟨g2, 0, none⟩ 1 1 (mk3 (y, z, u)) hx rfl ?_ ?_ (by unfold maxLen; omega) (by omega) hbase ?_
  · intro j t hj
    rw [add_mk, Nat.zero_add]
    match j with
    | 0 => rw [hc.1]; simpa [mk3] using hj
    | 1 => rw [hc.2.1]; simpa [mk3] using hj
    | 2 => rw [hc.2.2]; simpa [mk3] using hj
    | j + 3 => simp [mk3] at hj
  · intro t ht; simp [mk3] at ht; rcases ht with rfl | rfl | rfl <;> rfl
  · intro v' w' h1 h2 _
    exact h v' w' (by simpa using h1) h2
end

set_option maxRecDepth 100000 in
set_option maxHeartbeats 2000000 in
theorem kept_any (ts : List (Int × Int × Int)) (A : Option Addr) (cap : Nat) (w : World) (h : Marks w A ts) (hv : vaB ts = true) :
    Calls Try.prog 53 #[.slice A ts.length cap] w fun e w' => ∃ B c, e = .returned (.tuple #[.slice B (kpS ts ts.length).1.length c, .int .i64 0]) ∧ Out w' B c (kpS ts ts.length).1 ∧ Below w.heap.size w w' := by
  have H := Lib.hid h
  have hl := va_len hv
  obtain ⟨hl1, hl2⟩ := hl
  have HV := Lib.hid hv
  have HVA : Hid (Calls Try.prog 19 #[.slice A ts.length cap] w fun e w' => e = .returned (.bool true) ∧ Below w.heap.size w w') := Lib.hid ((valid_any ts A cap w h (by unfold maxLen; omega)).mono fun e w' ⟨h1, h2⟩ => ⟨by rw [h1, hv], h2⟩)
  obtain ⟨bl, off, rfl, hbk, hcells⟩ := h.open_ (show 0 < ts.length by omega)
  have HC := Lib.hid hcells
  obtain ⟨i0, hi0, hz0, hz1, hz2⟩ := info_parts lay_info
  have HI := Lib.hid (And.intro hi0 (And.intro hz0 (And.intro hz1 hz2)))
  clear h hv hcells hi0 hz0 hz1 hz2
  go_enter Try.func53, Try.ntmps53
  go_wp2_with (first
    | (go_at_call 19; refine HVA.out.mono ?_; rintro e w1 ⟨rfl, hB1⟩)
    | fail)
  go_loopw [4, 5, 14] (fun l v i wr => ∃ k : Nat, k ≤ ts.length ∧ i = .int .i64 k ∧ wr.ownsRow w.heap.size 3 1 l (kpS ts k).1.length ((kpS ts k).1.map (Value.int .i64)) ∧ wr.ownsRow w.heap.size 53 3 v (kpS ts k).2.length ((kpS ts k).2.flatMap mk3) ∧ ((kpS ts k).2 = [] → v = .slice none 0 0) ∧ Below w.heap.size w wr) (fun _ _ i _ => ts.length - (intOf i).toNat)
  case atStart => exact ⟨0, Nat.zero_le _, rfl, ⟨rfl, .inl ⟨rfl, rfl⟩⟩, ⟨rfl, .inl ⟨rfl, rfl⟩⟩, fun _ => rfl, hB1⟩
  case round =>
    clear hB1
    obtain ⟨k, hk, rfl, hownL, hownT, hnil, hB⟩ := hrel
    rename World => wr
    by_cases hlt : k < ts.length
    · obtain ⟨a, b, d, hx⟩ := getT_of_lt hlt
      have f0 := (hB.cell (p := ⟨bl, off + k * 3, none⟩) hbk).trans (HC.out _ _ hx).1
      have f1 := (hB.cell (p := ⟨bl, off + k * 3 + 1, none⟩) hbk).trans (HC.out _ _ hx).2.1
      have f2 := (hB.cell (p := ⟨bl, off + k * 3 + 2, none⟩) hbk).trans (HC.out _ _ hx).2.2
      have hW1 : ∃ W1, wr.alloc (.cells #[.int .i64 a, .int .i64 b, .int .i64 d] 53) = W1 ∧ W1.cell? ⟨wr.heap.size, 0, none⟩ = some (.int .i64 a) ∧ W1.cell? ⟨wr.heap.size, 1, none⟩ = some (.int .i64 b) ∧ W1.cell? ⟨wr.heap.size, 2, none⟩ = some (.int .i64 d) ∧ wr.heap.size < W1.heap.size ∧ Hid (Below w.heap.size w W1) ∧ Hid (W1.ownsRow w.heap.size 3 1 u4 (kpS ts k).1.length ((kpS ts k).1.map (Value.int .i64))) ∧ Hid (W1.ownsRow w.heap.size 53 3 u5 (kpS ts k).2.length ((kpS ts k).2.flatMap mk3)) :=
        ⟨_, rfl, (alloc_cell3 _ _ _ _ _).1, (alloc_cell3 _ _ _ _ _).2.1, (alloc_cell3 _ _ _ _ _).2.2, by simp, Lib.hid (Below.alloc hB hB.size _), Lib.hid (hownL.alloc _), Lib.hid (hownT.alloc _)⟩
      obtain ⟨W1, hW1, b0, b1, b2, hg1, HB1, HL1, HT1⟩ := hW1
      have HNI := Lib.hid hnil
      have hkl := kp_len ts k
      obtain ⟨vs, hvs⟩ : ∃ vs, (kpS ts k).2 = vs := ⟨_, rfl⟩
      obtain ⟨ls, hls⟩ : ∃ ls, (kpS ts k).1 = ls := ⟨_, rfl⟩
      rw [hvs] at HT1 HNI hkl
      rw [hls] at HL1 hkl
      have HVS := Lib.hid hvs
      have HLS := Lib.hid hls
      have hva := kp_va HV.out hlt
      rw [hvs, getT_of hx] at hva
      have HVA1 := Lib.hid hva
      have HNX := Lib.hid (getT_of hx)
      obtain ⟨hk1, hk2⟩ := hkl
      have HCL : Hid (∀ W, Below W1.heap.size W1 W → Calls Try.prog 80 #[u5] W fun e w' => ∃ v, e = .returned v ∧ w'.ownsRow W1.heap.size 53 3 v vs.length (vs.flatMap mk3) ∧ Below W.heap.size W w') := Lib.hid fun W hW => (clone_own vs w.heap.size u5 W (own_below HT1.out hW) HNI.out (by omega)).mono fun e w' ⟨v, h1, h2, h3⟩ => ⟨v, h1, own_le h2 hW.size, h3⟩
      clear hownL hownT hnil hvs hls hva hx
      go_wp2
      go_region_law
        (first
          | (refine step_task (o := ⟨some 23, _, _, _, _, _⟩) _ rfl (.tmp 20) (.tmp 22) rfl _ _ vs a b d rfl (ho2.alloc _) w2.heap.size rfl (alloc_cell3 w2 _ _ _ _) (by omega) ?_ ?_; (simp; exact Nat.le_succ_of_le hS2); intro v3 w3 hown3 hg3; have hB5 : Below W1.heap.size W1 w3 := Below.grown (Below.alloc hB3 hS2 (.cells #[.int .i64 a, .int .i64 b, .int .i64 d] 53)) hg3 (by simp; exact Nat.le_succ_of_le hS2) (fun g hg => (ho2.lt g hg).1))
          | (refine step_task (o := ⟨some 23, _, _, _, _, _⟩) _ rfl (.tmp 20) (.tmp 22) rfl _ _ vs a b d rfl ho2 W1.heap.size rfl ⟨c0, c1, c2⟩ (by omega) ?_ ?_; exact hS2; intro v3 w3 hown3 hg3; have hB5 : Below W1.heap.size W1 w3 := Below.grown hB3 hg3 hS2 (fun g hg => (ho2.lt g hg).1))
          | (go_simp; go_at_call 80; refine (HCL.out _ (by repeat (first | with_reducible exact Below.refl _ _ | with_reducible assumption | refine below_drewN ?_ _ | with_reducible refine Below.drew ?_ | (refine Below.setCell ?_ (by first | (simp; done) | (simp; omega) | omega) _) | (refine Below.alloc ?_ (by first | (simp; done) | (simp; omega) | omega) _)))).mono ?_; rintro e w2 ⟨v2, rfl, ho2, hB2⟩; have hB3 : Below W1.heap.size W1 w2 := below_step (by repeat (first | with_reducible exact Below.refl _ _ | with_reducible assumption | refine below_drewN ?_ _ | with_reducible refine Below.drew ?_ | (refine Below.setCell ?_ (by first | (simp; done) | (simp; omega) | omega) _) | (refine Below.alloc ?_ (by first | (simp; done) | (simp; omega) | omega) _))) hB2; have hS2 : W1.heap.size ≤ w2.heap.size := hB3.size; have b0 := (hB3.cell (p := ⟨wr.heap.size, 0, none⟩) hg1).trans b0; have b1 := (hB3.cell (p := ⟨wr.heap.size, 1, none⟩) hg1).trans b1; have b2 := (hB3.cell (p := ⟨wr.heap.size, 2, none⟩) hg1).trans b2; (try (have c0 := (hB2.cell (p := ⟨W1.heap.size, 0, none⟩) (by simp)).trans (alloc_cell3 W1 (.int .i64 a) (.int .i64 b) (.int .i64 d) 53).1; have c1 := (hB2.cell (p := ⟨W1.heap.size, 1, none⟩) (by simp)).trans (alloc_cell3 W1 (.int .i64 a) (.int .i64 b) (.int .i64 d) 53).2.1; have c2 := (hB2.cell (p := ⟨W1.heap.size, 2, none⟩) (by simp)).trans (alloc_cell3 W1 (.int .i64 a) (.int .i64 b) (.int .i64 d) 53).2.2))))
      all_goals
        obtain ⟨A3, c3, rfl, ht3⟩ := own_tasks hown3
        have HL3 := Lib.hid (own_below HL1.out hB5)
        have HT3 := Lib.hid (own_le hown3 HB1.out.size)
        have hB3' := below_step HB1.out hB5
        have HW3 := Lib.hid hB5
        have HCN : Hid (Calls Try.prog 67 #[.slice A3 (vs ++ [(a, b, d)]).length c3] w3 fun e w' => e = .returned (.bool (canB (vs ++ [(a, b, d)]))) ∧ Below w3.heap.size w3 w') := Lib.hid (can_any _ A3 c3 w3 ht3.marks HVA1.out)
        obtain ⟨n3, hn3⟩ : ∃ n3, (vs ++ [(a, b, d)]).length = n3 := ⟨_, rfl⟩
        rw [hn3] at HCN ⊢
        have HN3 := Lib.hid hn3
        clear hown3 hg3 hB5 ht3 ho2 b0 b1 b2 hB2 hB3 hS2 hn3
        cases hcb : canB (vs ++ [(a, b, d)]) with
        | false =>
          have HN := Lib.hid (kp_no (ts := ts) (k := k) (by rw [HVS.out, HNX.out]; exact hcb))
          rw [hcb] at HCN
          clear hcb
          go_wp2_with (first
            | (go_at_call 67; refine HCN.out.mono ?_; rintro e w4 ⟨rfl, hB4⟩)
            | fail)
          go_roundw
          case rel =>
            exact ⟨k + 1, by omega, by go_num, by rw [HN.out, HLS.out]; exact own_below HL3.out hB4, by rw [HN.out, HVS.out]; exact own_below (own_below HT1.out HW3.out) hB4, by rw [HN.out, HVS.out]; exact HNI.out, below_step hB3' hB4⟩
          case measure => simp [intOf]; omega
        | true =>
          have HN := Lib.hid (kp_yes (ts := ts) (k := k) (by rw [HVS.out, HNX.out]; exact hcb))
          rw [hcb] at HCN
          clear hcb
          go_wp2_with (first
            | (go_at_call 67; refine HCN.out.mono ?_; rintro e w4 ⟨rfl, hB4⟩; have hL4 := own_below HL3.out hB4; have HT4 := Lib.hid (own_below HT3.out hB4); have hS4 := (below_step hB3' hB4).size)
            | (at_builtin; refine wp_app_int2 _ rfl (.tmp 26) (.tmp 28) rfl w.heap.size _ ls.length ls _ rfl hL4 rfl (by omega) hS4 ?_; intro v5 w5 hown5 hB5 hkt5)
            | fail)
          go_roundw
          case rel =>
            exact ⟨k + 1, by omega, by go_num, by rw [HN.out, HLS.out]; simpa using hown5, by rw [HN.out, ← HN3.out, HVS.out, HNX.out]; exact hkt5 _ _ _ _ HT4.out, by rw [HN.out]; simp, Below.trans (below_step hB3' hB4) hB5⟩
          case measure => simp [intOf]; omega
    · obtain rfl : k = ts.length := by omega
      have hkl := (kp_len ts ts.length).1
      obtain ⟨B, c, rfl, ho⟩ := own_ints hownL
      have HO := Lib.hid ho
      clear hownL hownT hnil ho
      go_wp2
      go_ret2
      exact ⟨B, c, rfl, HO.out, hB⟩
end Go.Proofs.Ythanmiifcpajhaa
