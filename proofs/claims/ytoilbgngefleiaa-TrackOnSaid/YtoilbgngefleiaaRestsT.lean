/-
  Contract: Rests (track).
-/
import Derived.Test.YtoilbgngefleiaaOnT
namespace Go.Proofs.Ytoilbgngefleiaa
open Go Go.RowKit Go.Shelf

theorem ratio_info : (Try.prog.info? 34).map (fun i => (i.zero, i.size, i.bytes)) = some (some (.agg #[.int .i64 0, .int .i64 0]), 2, 16) := by kernel_rfl
section
variable {ops : Array Oper} {rest : List Oper} {o : Oper} {a : Act} {Q : Exit → Act → World → Prop}
theorem wp_app_ratio (w : World) (hgd : o.guard = none) (s x : Operand)
    (ho : o.op = .call { callee := .builtin .append, args := #[s, x], argTypes := #[27, 27] })
    (base : Nat) (v : Value) (n : Nat) (xs : List (Int × Int)) (y z : Int) (hs : a.eval s = v) (hown : w.ownsRow base 34 2 v n (xs.flatMap mk2))
    (hx : a.eval x = .slice (some ⟨w.heap.size, 0, none⟩) 1 1) (hn : n ≤ 1000000) (hbase : base ≤ w.heap.size)
    (h : ∀ v' w', w'.ownsRow base 34 2 v' (n + 1) ((xs ++ [(y, z)]).flatMap mk2) → Below base w w' → wpList Try.prog ops Q rest (a.put o.dst v') w') :
    wpList Try.prog ops Q (o :: rest) a (w.alloc (.cells #[.int .i64 y, .int .i64 z] 34)) := by
  obtain ⟨i0, hi0, hz0, hz1, hz2⟩ := info_parts ratio_info
  refine wp_app w hgd s x 27 ho base 34 i0 (.agg #[.int .i64 0, .int .i64 0]) 2 16 Try.underlying27 hi0 hz0 hz1 hz2 rfl (by decide) (by decide) v n _ [.int .i64 y, .int .i64 z] hs hown hx rfl ?_ hn hbase ?_
  · intro u hu; simp at hu; rcases hu with rfl | rfl <;> rfl
  · intro v' w' h1 h2
    exact h v' w' (by rw [List.flatMap_append]; exact h1) h2
end
theorem own_ratios {w : World} {base n : Nat} {v : Value} {xs : List (Int × Int)} (h : w.ownsRow base 34 2 v n (xs.flatMap mk2)) :
    ∃ A c, v = .slice A xs.length c ∧ Clk w A c xs := by
  have hl : xs.length = n := by have := h.1; rw [flat_len] at this; omega
  subst hl
  rcases h.2 with ⟨rfl, h0⟩ | ⟨g, cap, cur, rfl, _, _, h1, h2, _⟩
  · have : xs = [] := List.eq_nil_of_length_eq_zero h0
    subst this
    exact ⟨none, 0, rfl, Clk.nil_⟩
  · exact ⟨_, cap, rfl, Reads.of_own h, h1, h2⟩



theorem own_turn {w w' : World} {base : Nat} {e : TypeId} {sz n : Nat} {v u : Value} {ys : List Value} (h : w.ownsRow base e sz u n ys)
    (hfar : ∀ g, g < w.heap.size → v.ownBlock ≠ some g → w'.heap[g]? = w.heap[g]?) (hsep : ∀ g, u.ownBlock = some g → v.ownBlock ≠ some g) : w'.ownsRow base e sz u n ys := by
  refine ⟨h.1, ?_⟩
  rcases h.2 with ⟨rfl, h0⟩ | ⟨g, cap, cur, rfl, hb, hh, h1, h2, h3, h4⟩
  · exact .inl ⟨rfl, h0⟩
  · refine .inr ⟨g, cap, cur, rfl, hb, ?_, h1, h2, h3, h4⟩
    rw [hfar g (Array.getElem?_eq_some_iff.1 hh).1 (hsep g (by simp [Value.ownBlock]))]
    exact hh
theorem own_kind {w : World} {base base' : Nat} {e e' : TypeId} {sz sz' n n' : Nat} {v u : Value} {xs ys : List Value} (h : w.ownsRow base e sz u n ys) (k : w.ownsRow base' e' sz' v n' xs) (hne : e' ≠ e) : ∀ g, u.ownBlock = some g → v.ownBlock ≠ some g := by
  intro g hu hv
  rcases h.2 with ⟨rfl, _⟩ | ⟨g1, cap, cur, rfl, _, hg1, _⟩
  · simp [Value.ownBlock] at hu
  · rcases k.2 with ⟨rfl, _⟩ | ⟨g2, cap2, cur2, rfl, _, hg2, _⟩
    · simp [Value.ownBlock] at hv
    · simp [Value.ownBlock] at hu hv
      subst hu hv
      rw [hg1] at hg2
      injection hg2 with hg2
      injection hg2 with _ h2
      exact hne h2.symm
section
variable {ops : Array Oper} {rest : List Oper} {o : Oper} {a : Act} {Q : Exit → Act → World → Prop}
theorem wp_app_ratio2 (w : World) (hgd : o.guard = none) (s x : Operand)
    (ho : o.op = .call { callee := .builtin .append, args := #[s, x], argTypes := #[27, 27] })
    (base : Nat) (v : Value) (n : Nat) (xs : List (Int × Int)) (y z : Int) (hs : a.eval s = v) (hown : w.ownsRow base 34 2 v n (xs.flatMap mk2))
    (hx : a.eval x = .slice (some ⟨w.heap.size, 0, none⟩) 1 1) (hn : n ≤ 1000000) (hbase : base ≤ w.heap.size)
    (h : ∀ v' w', w'.ownsRow base 34 2 v' (n + 1) ((xs ++ [(y, z)]).flatMap mk2) → Below base w w' → (∀ u k ys, w.ownsRow base 3 1 u k ys → w'.ownsRow base 3 1 u k ys) → wpList Try.prog ops Q rest (a.put o.dst v') w') :
    wpList Try.prog ops Q (o :: rest) a (w.alloc (.cells #[.int .i64 y, .int .i64 z] 34)) := by
  obtain ⟨i0, hi0, hz0, hz1, hz2⟩ := info_parts ratio_info
  refine wpList_append_own _ hgd s x 27 ho base 34 i0 (.agg #[.int .i64 0, .int .i64 0]) 2 16 Try.underlying27 hi0 hz0 hz1 hz2 rfl (by decide) v n _ hs (hown.alloc _) ⟨w.heap.size, 0, none⟩ 1 1 [.int .i64 y, .int .i64 z] hx rfl
    (cells_new w [.int .i64 y, .int .i64 z] 34) ?_ (by unfold maxLen; omega) (by omega) (by simp; omega) ?_
  · intro u hu; simp at hu; rcases hu with rfl | rfl <;> rfl
  · intro v' w' ho' hg _
    refine h v' w' (by rw [List.flatMap_append]; exact ho') (((Below.refl base w).alloc hbase _).grown hg (by simp; omega) (fun k hk => (hown.lt k hk).1)) fun u k ys hu => own_turn hu (fun g hg1 hg2 => (hg.block g (by simp; omega) (fun e => hg2 e.symm)).trans (Below.heap_alloc w _ g hg1)) (own_kind hu hown (by decide))
end
set_option maxRecDepth 100000 in
set_option maxHeartbeats 1000000 in
theorem rests_own (ms : List (Int × Int)) (A : Option Addr) (c : Nat) (a b d : Int) (w : World) (h : Marks w A ms) (hl : ms.length ≤ 1000) (hL : LnB a b d) (hv : ms.all ptB = true) :
    Calls Try.prog 58 #[.slice A ms.length c, .agg #[.int .i64 a, .int .i64 b, .int .i64 d]] w fun e w' => ∃ (A' : Option Addr) (c' : Nat) (zs : List Int), e = .returned (.slice A' zs.length c') ∧ w'.ownsRow w.heap.size 3 1 (.slice A' zs.length c') zs.length (zs.map (Value.int .i64)) ∧ Below w.heap.size w w' ∧ Hid (zs = ms.map (rsI a b d)) := by
  have H := Lib.hid h
  have HL := Lib.hid hL
  have HV : Hid (∀ q ∈ ms, ptB q = true) := Lib.hid (by simpa using hv)
  clear h hL hv
  obtain ⟨i0, hi0, hz0, hz1, hz2⟩ := info_parts int_info
  have HZ2 := Lib.hid hz2
  clear hz2
  go_enter Try.func58, Try.ntmps58
  go_wp2_with (at_make; refine wpList_make_own _ rfl _ _ 37 rfl (w.heap.size + 1) 3 i0 (.int .i64 0) 1 Try.underlying37 hi0 hz0 hz1 _ _ _ ms.length rfl rfl rfl (by rw [HZ2.out]; omega) (by unfold maxLen; omega) (by simp) ?_; intro w1 hown1 hg1)
  obtain ⟨W0, hW0⟩ : ∃ W0, W0 = w.alloc (.cells #[.int .i64 a, .int .i64 b, .int .i64 d] 24) := ⟨_, rfl⟩
  rw [← hW0] at hg1
  have hs0 : W0.heap.size = w.heap.size + 1 := by rw [hW0]; simp
  have hBW : Below w.heap.size w W0 := by rw [hW0]; exact (Below.refl _ _).alloc (Nat.le_refl _) _
  have hB1 : Below (w.heap.size + 1) W0 w1 := (Below.refl _ _).grown hg1 (by omega) (by simp)
  have x0 : W0.cell? ⟨w.heap.size, 0, none⟩ = some (.int .i64 a) := by rw [hW0]; exact cell_of_row _ _ 0 _ _ _ (heap_alloc_new w _)
  have x1 : W0.cell? ⟨w.heap.size, 1, none⟩ = some (.int .i64 b) := by rw [hW0]; exact cell_of_row _ _ 1 _ _ _ (heap_alloc_new w _)
  have x2 : W0.cell? ⟨w.heap.size, 2, none⟩ = some (.int .i64 d) := by rw [hW0]; exact cell_of_row _ _ 2 _ _ _ (heap_alloc_new w _)
  have HX : Hid ((W0.cell? ⟨w.heap.size, 0, none⟩ = some (.int .i64 a)) ∧ (W0.cell? ⟨w.heap.size, 1, none⟩ = some (.int .i64 b)) ∧ (W0.cell? ⟨w.heap.size, 2, none⟩ = some (.int .i64 d))) := Lib.hid ⟨x0, x1, x2⟩
  have HBW := Lib.hid hBW
  have HS0 := Lib.hid hs0
  clear hg1 HZ2 hz0 hz1 hi0 x0 x1 x2 hBW hs0 hW0
  go_loopw [5, 13] (fun v i wr => ∃ k : Nat, k ≤ ms.length ∧ i = .int .i64 k ∧ wr.ownsRow (w.heap.size + 1) 3 1 v k (((ms.take k).map (rsI a b d)).map (Value.int .i64)) ∧ Below (w.heap.size + 1) W0 wr) (fun _ i _ => ms.length - (intOf i).toNat)
  case atStart => exact ⟨0, Nat.zero_le _, rfl, (by simpa using hown1), hB1⟩
  case round =>
    clear hown1 hB1
    obtain ⟨k, hk, rfl, hown, hB⟩ := hrel
    have hsz : w.heap.size + 1 ≤ wr.heap.size := by have := hB.size; have := HS0.out; omega
    have hBw : Below w.heap.size w wr := below_step HBW.out (hB.mono (by have := HS0.out; omega))
    by_cases hlt : k < ms.length
    · obtain ⟨bl, off, rfl, hbk, hcells⟩ := H.out.open_ (show 0 < ms.length by omega)
      obtain ⟨x, y, hxy⟩ := getM_of_lt hlt
      have HP : Hid (ptB (x, y) = true) := Lib.hid (HV.out _ (List.mem_of_getElem? hxy))
      obtain ⟨hc0, hc1⟩ := hcells k _ hxy
      have c0 := (hBw.cell (p := ⟨bl, off + k * 2, none⟩) hbk).trans (by simpa using hc0)
      have c1 := (hBw.cell (p := ⟨bl, off + k * 2 + 1, none⟩) hbk).trans (by simpa using hc1)
      have x0 := (hB.cell (p := ⟨w.heap.size, 0, none⟩) (by simp)).trans HX.out.1
      have x1 := (hB.cell (p := ⟨w.heap.size, 1, none⟩) (by simp)).trans HX.out.2.1
      have x2 := (hB.cell (p := ⟨w.heap.size, 2, none⟩) (by simp)).trans HX.out.2.2
      clear hcells hc0 hc1
      have HXY := Lib.hid hxy
      have HBw := Lib.hid hBw
      clear hxy hBw
      have g1 : w.heap.size < wr.heap.size := by omega
      have g2 : bl < wr.heap.size := by omega
      have TA : Hid True := Lib.hid trivial
      go_wp2_with (first
        | (go_at_call 89; clear TA; refine (rest_any x y a b d _ HL.out HP.out).mono ?_; rintro e w2 ⟨rfl, hB2⟩; have hB3 : Below wr.heap.size wr w2 := below_step ((Below.refl _ _).alloc (Nat.le_refl _) _) hB2; have hown2 := own_below hown hB3)
        | (at_builtin; refine wp_app_int _ rfl (.tmp 17) (.tmp 21) rfl (w.heap.size + 1) _ k _ _ rfl hown2 rfl (by omega) (by have := hB3.size; omega) ?_; intro v2 w4 hown4 hB4))
      go_roundw
      case rel => exact ⟨k + 1, by omega, by go_num, by rw [take_snoc HXY.out]; simpa using hown4, (hB.trans (hB3.mono (by omega))).trans hB4⟩
      case measure => simp [intOf]; omega
    · obtain rfl : k = ms.length := by omega
      go_wp2
      go_ret
      rw [List.take_length] at hown
      have hown5 : wr.ownsRow (w.heap.size + 1) 3 1 u5 (ms.map (rsI a b d)).length ((ms.map (rsI a b d)).map (Value.int .i64)) := by simpa using hown
      obtain ⟨A', c', rfl, _⟩ := own_ints hown5
      exact ⟨A', c', _, rfl, own_base2 hown5 (Nat.le_succ _), hBw, rfl⟩

/-- The rests of points for a line, as ratios. -/
def rstR (a b d : Int) (q : Int × Int) : Int × Int := (lowN (rsI a b d q) d, lowD (rsI a b d q) d)
def rstV (ms : List (Int × Int)) (a b d : Int) : List (Int × Int) := if ckE ms a b d = 0 then ms.map (rstR a b d) else []
set_option maxRecDepth 100000 in
set_option maxHeartbeats 1000000 in
theorem restsTold_any (ms : List (Int × Int)) (A : Option Addr) (c : Nat) (a b d : Int) (w : World) (h : Clk w A c ms) :
    Calls Try.prog 17 #[.slice A ms.length c, .agg #[.int .i64 a, .int .i64 b, .int .i64 d]] w fun e w' => ∃ (A' : Option Addr) (c' : Nat) (ys : List (Int × Int)), e = .returned (.tuple #[.slice A' ys.length c', .int .i64 (ckE ms a b d)]) ∧ Clk w' A' c' ys ∧ Below w.heap.size w w' ∧ Hid (ys = rstV ms a b d) := by
  obtain ⟨k, hk⟩ : ∃ k, ckE ms a b d = k := ⟨_, rfl⟩
  obtain ⟨W0, hW0⟩ : ∃ W0, w.alloc (.cells #[.int .i64 a, .int .i64 b, .int .i64 d] 24) = W0 := ⟨_, rfl⟩
  have hB0 : Below w.heap.size w W0 := by rw [← hW0]; exact (Below.refl _ _).alloc (Nat.le_refl _) _
  have hz : W0.heap.size = w.heap.size + 1 := by rw [← hW0]; simp
  have g0 : W0.heap[w.heap.size]? = some (.cells #[.int .i64 a, .int .i64 b, .int .i64 d] 24 (0, 0)) := by rw [← hW0]; exact heap_alloc_new _ _
  have y0 : W0.cell? ⟨w.heap.size, 0, none⟩ = some (.int .i64 a) := by rw [cell_of_row W0 _ 0 _ _ (0, 0) g0]; rfl
  have y1 : W0.cell? ⟨w.heap.size, 1, none⟩ = some (.int .i64 b) := by rw [cell_of_row W0 _ 1 _ _ (0, 0) g0]; rfl
  have y2 : W0.cell? ⟨w.heap.size, 2, none⟩ = some (.int .i64 d) := by rw [cell_of_row W0 _ 2 _ _ (0, 0) g0]; rfl
  have HH := Lib.hid (h.below hB0)
  have HB0 := Lib.hid hB0
  have HG0 := Lib.hid g0
  have HCK : Hid (Calls Try.prog 57 #[.slice A ms.length c, .agg #[.int .i64 a, .int .i64 b, .int .i64 d]] W0 fun e w' => e = .returned (.int .i64 k) ∧ Below W0.heap.size W0 w') := Lib.hid (by
    have q := check_any ms A c a b d W0 (h.below hB0).marks h.len
    rw [hk] at q
    exact q)
  have HK := Lib.hid hk
  clear h hB0 g0
  rw [hk]
  clear hk
  by_cases h0 : k = 0
  · subst h0
    have HV := Lib.hid (ck_zero HK.out)
    have hn := (vi_parts HV.out.1).1.2
    have HALL : Hid (ms.all ptB = true) := Lib.hid (List.all_eq_true.2 (vi_parts HV.out.1).2.1)
    have HLN := Lib.hid (ln_of HV.out.2)
    have HD : 1 ≤ d ∧ d ≤ 100000 := (ln_of HV.out.2).2.2
    obtain ⟨i0, hi0, hz0, hz1, hz2⟩ := info_parts ratio_info
    have HIN := Lib.hid (And.intro hi0 (And.intro hz0 (And.intro hz1 hz2)))
    clear hi0 hz0 hz1 hz2
    go_enter Try.func17, Try.ntmps17
    go_wp2_with (first
      | (go_at_call 57; refine HCK.out.mono ?_; rintro e w1 ⟨rfl, hB1⟩; have hW1 := Lib.hid (below_step HB0.out hB1); have hs1 : w.heap.size + 1 ≤ w1.heap.size := (by have := hB1.size; omega); have g0 := Lib.hid ((hB1.block _ (by omega)).trans HG0.out))
      | (at_make; refine wpList_make_own w1 rfl _ _ 27 rfl (w.heap.size + 1) 34 i0 (.agg #[.int .i64 0, .int .i64 0]) 2 Try.underlying27 HIN.out.1 HIN.out.2.1 HIN.out.2.2.1 _ _ _ ms.length rfl rfl rfl (by rw [HIN.out.2.2.2]; omega) (by unfold maxLen; omega) hs1 ?_; intro w2 hown2 hg2; have hB2 := Lib.hid ((Below.refl w1.heap.size w1).grown hg2 (Nat.le_refl _) (by simp)); have g2 := Lib.hid ((hB2.out.block _ (by omega)).trans g0.out); have x0 : w2.cell? ⟨w.heap.size, 0, none⟩ = some (.int .i64 a) := (by rw [cell_of_row w2 _ 0 _ _ (0, 0) g2.out]; rfl); have x1 : w2.cell? ⟨w.heap.size, 1, none⟩ = some (.int .i64 b) := (by rw [cell_of_row w2 _ 1 _ _ (0, 0) g2.out]; rfl); have x2 : w2.cell? ⟨w.heap.size, 2, none⟩ = some (.int .i64 d) := (by rw [cell_of_row w2 _ 2 _ _ (0, 0) g2.out]; rfl))
      | (go_at_call 58; refine (rests_own ms A c a b d _ ((HH.out.below hB1).below hB2.out).marks (by omega) HLN.out HALL.out).mono ?_; rintro e w3 ⟨A3, c3, zs, rfl, hO3, hB3, hzs⟩)
      | fail)
    have HZ : Hid (zs = ms.map (rsI a b d)) := Lib.hid hzs.out
    have hzl : zs.length = ms.length := by rw [HZ.out, List.length_map]
    have HZL := Lib.hid hzl
    have hz14 : zs.length ≤ 12 := by omega
    have HO3 := Lib.hid (own_base2 hO3 (show w.heap.size + 1 ≤ w2.heap.size by have := hB2.out.size; omega))
    have HB3 : Hid (Below w.heap.size w w3) := Lib.hid (below_step (below_step hW1.out hB2.out) hB3)
    have hs3 : w.heap.size + 1 ≤ w3.heap.size := by have := hB3.size; have := hB2.out.size; omega
    have g3 := Lib.hid ((hB3.block _ (by have := hB2.out.size; omega)).trans g2.out)
    have HOW := Lib.hid (own_below hown2 hB3)
    clear hzl hO3 hB3 hown2 hg2 x0 x1 x2 hB1 hzs y0 y1 y2
    go_loopw [7, 23] (fun v i wr => ∃ k : Nat, k ≤ zs.length ∧ i = .int .i64 k ∧ Hid (wr.ownsRow (w.heap.size + 1) 34 2 v k (((ms.take k).map (rstR a b d)).flatMap mk2)) ∧ Hid (wr.ownsRow (w.heap.size + 1) 3 1 (.slice A3 zs.length c3) zs.length (zs.map (Value.int .i64))) ∧ Hid (Below (w.heap.size + 1) w3 wr)) (fun _ i _ => zs.length - (intOf i).toNat)
    case atStart => exact ⟨0, Nat.zero_le _, rfl, Lib.hid (by simpa using HOW.out), HO3, Lib.hid (Below.refl _ _)⟩
    case round =>
      obtain ⟨k, hk, rfl, HR, HO, HB⟩ := hrel
      rename World => wr
      have hszr := HB.out.size
      by_cases hlt : k < zs.length
      · obtain ⟨q, hq⟩ : ∃ q, ms[k]? = some q := ⟨_, List.getElem?_eq_getElem (by rw [← HZL.out]; exact hlt)⟩
        have hz : zs[k]? = some (rsI a b d q) := by rw [HZ.out, List.getElem?_map, hq]; rfl
        have hqb := (rs_box HLN.out (List.all_eq_true.1 HALL.out q (List.mem_of_getElem? hq))).2.2
        obtain ⟨r, hr⟩ : ∃ r, rsI a b d q = r := ⟨_, rfl⟩
        rw [hr] at hz hqb
        obtain ⟨A5, c5, e5, hO5⟩ := own_ints HO.out
        injection e5 with e51 e52 e53
        subst e51 e53
        obtain ⟨b3, o3, rfl, hb3, hall⟩ := hO5.ints.open_ (by omega)
        have c0 := hall k r hz
        have g4 := Lib.hid ((HB.out.block _ (by omega)).trans g3.out)
        have x2 : wr.cell? ⟨w.heap.size, 2, none⟩ = some (.int .i64 d) := by rw [cell_of_row wr _ 2 _ _ (0, 0) g4.out]; rfl
        have HRR : Hid (rstR a b d q = (lowN r d, lowD r d)) := Lib.hid (by rw [rstR, hr])
        have HQ := Lib.hid hq
        clear hall hz hr hq hO5
        go_wp2_with (first
          | (go_at_call 59; refine (lowest_any r d _ (by omega) (by omega) (by omega) (by omega)).mono ?_; rintro e w5 ⟨rfl, hB5⟩; have hR5 := own_below HR.out hB5; have hO5 := Lib.hid (own_below HO.out hB5))
          | (at_builtin; refine wp_app_ratio2 _ rfl (.tmp 27) (.tmp 32) rfl (w.heap.size + 1) _ k ((ms.take k).map (rstR a b d)) (lowN r d) (lowD r d) rfl hR5 rfl (by omega) (by have := hB5.size; omega) ?_; intro v6 w6 hown6 hB6 hk6)
          | fail)
        go_roundw
        case rel => exact ⟨k + 1, by omega, by go_num, Lib.hid (by rw [take_snoc HQ.out, List.map_append, List.map_cons, List.map_nil, HRR.out]; exact hown6), Lib.hid (hk6 _ _ _ hO5.out), Lib.hid (HB.out.trans ((hB5.mono (by omega)).trans hB6))⟩
        case measure => simp [intOf]; omega
      · obtain rfl : k = zs.length := by omega
        have hown := HR.out
        rw [HZL.out, List.take_length] at hown
        obtain ⟨A', c', e6, hC⟩ := own_ratios (by rw [show ms.length = (ms.map (rstR a b d)).length by simp] at hown; exact hown)
        subst e6
        have HE : Hid (ms.map (rstR a b d) = rstV ms a b d) := Lib.hid (by rw [rstV, if_pos HK.out])
        have hBF := Lib.hid (HB3.out.trans (HB.out.mono (by omega)))
        go_wp2
        go_ret2
        exact ⟨A', c', _, rfl, hC, hBF.out, HE⟩
  · have t1 : (k == 0) = false := by simpa using h0
    have t2 : (k != 0) = true := by simpa using h0
    have HN : Hid ([] = rstV ms a b d) := Lib.hid (by rw [rstV, if_neg (by rw [HK.out]; exact h0)])
    go_enter Try.func17, Try.ntmps17
    go_wp2_with (go_at_call 57; refine HCK.out.mono ?_; rintro e w1 ⟨rfl, hB1⟩)
    go_ret2
    exact ⟨none, 0, [], rfl, Clk.nil_, below_step HB0.out hB1, HN⟩
end Go.Proofs.Ytoilbgngefleiaa
