/-
  Contracts: Moved, Turned (firnref02).
-/
import Derived.Test.YtmlkdjcjfkfdiaaMoves
namespace Go.Proofs.Ytmlkdjcjfkfdiaa
open Go.RowKit Go.Shelf

theorem refWithin_can (a p : Int) (x : Bool) (w : World) (h : canB a p = x) :
    Calls Try.prog 64 #[.int .i64 (-1000 - a), .int .i64 p, .int .i64 (1000 - a)] w fun e w' => e = .returned (.bool x) ∧ w' = w :=
  (refWithin_any _ _ _ w).mono fun e w' ⟨he, hw⟩ => ⟨by rw [he, ← h]; rfl, hw.symm⟩

theorem own_drewN {w : World} {base : Nat} {e : TypeId} {size n : Nat} {v : Value} {xs : List Value} (h : w.ownsRow base e size v n xs) (m : Nat) : (w.drewN m).ownsRow base e size v n xs := h
section
variable {ops : Array Oper} {o : Oper} {a : Act} {K : Act → World → Prop} {Q : Exit → Act → World → Prop} {E : Prop}
theorem step_app_hit (w : World) (hgd : o.guard = none) (s x : Operand)
    (ho : o.op = .call { callee := .builtin .append, args := #[s, x], argTypes := #[22, 22] })
    (base : Nat) (v : Value) (n : Nat) (xs : List (Int × Int)) (y z : Int) (hs : a.eval s = v) (hown : w.ownsRow base 63 2 v n (xs.flatMap mk2))
    (hx : a.eval x = .slice (some ⟨w.heap.size, 0, none⟩) 1 1) (hn : n ≤ 1000000) (hbase : base ≤ w.heap.size)
    (h : ∀ v' w', w'.ownsRow base 63 2 v' (n + 1) ((xs ++ [(y, z)]).flatMap mk2) → Below base w w' → K (a.put o.dst v') w') :
    if Region.wanted o (yielded ops a.tmps) = true then Oper.wp Try.prog o a (w.alloc (.cells #[.int .i64 y, .int .i64 z] 63)).drew K Q else E := by
  obtain ⟨i0, hi0, hz0, hz1, hz2⟩ := info_parts hit_info
  refine step_app w hgd s x 22 ho base 63 i0 (.agg #[.int .i64 0, .int .i64 0]) 2 16 Try.underlying22 hi0 hz0 hz1 hz2 rfl (by decide) (by decide) v n _ [.int .i64 y, .int .i64 z] hs hown hx rfl ?_ hn hbase ?_
  · intro u hu; simp at hu; rcases hu with rfl | rfl <;> rfl
  · intro v' w' h1 h2 _
    exact h v' w' (by rw [List.flatMap_append]; exact h1) h2
end

section
variable {ops : Array Oper} {o : Oper} {a : Act} {K : Act → World → Prop} {Q : Exit → Act → World → Prop} {E : Prop}
/-- The same behind any number of draws. -/
theorem step_app_hitN (w : World) (m : Nat) (hgd : o.guard = none) (s x : Operand)
    (ho : o.op = .call { callee := .builtin .append, args := #[s, x], argTypes := #[22, 22] })
    (base : Nat) (v : Value) (n : Nat) (xs : List (Int × Int)) (y z : Int) (hs : a.eval s = v) (hown : w.ownsRow base 63 2 v n (xs.flatMap mk2))
    (hx : a.eval x = .slice (some ⟨w.heap.size, 0, none⟩) 1 1) (hn : n ≤ 1000000) (hbase : base ≤ w.heap.size)
    (h : ∀ v' w', w'.ownsRow base 63 2 v' (n + 1) ((xs ++ [(y, z)]).flatMap mk2) → Below base w w' → K (a.put o.dst v') w') :
    if Region.wanted o (yielded ops a.tmps) = true then Oper.wp Try.prog o a ((w.alloc (.cells #[.int .i64 y, .int .i64 z] 63)).drewN m) K Q else E := by
  have hw : Region.wanted o (yielded ops a.tmps) = true := by simp [Region.wanted, hgd]
  rw [if_pos hw]
  obtain ⟨i0, hi, hz, hsize, hby⟩ := info_parts hit_info
  refine wp_append_own _ s x 22 ho base 63 i0 (.agg #[.int .i64 0, .int .i64 0]) 2 16 Try.underlying22 hi hz hsize hby rfl (by decide) v n _ hs (own_drewN (hown.alloc _) m) ⟨w.heap.size, 0, none⟩ 1 1 [.int .i64 y, .int .i64 z] hx rfl
    (cells_new w [.int .i64 y, .int .i64 z] 63) (by intro u hu; simp at hu; rcases hu with rfl | rfl <;> rfl) (by unfold maxLen; omega) (by omega) (by show base ≤ (w.alloc _).heap.size; simp; omega) ?_
  intro v' w' ho' hg _
  refine h v' w' (by rw [List.flatMap_append]; exact ho') ((below_drewN ((Below.refl base w).alloc hbase _) m).grown hg (by show base ≤ (w.alloc _).heap.size; simp; omega) ?_)
  intro k hk
  exact (hown.lt k hk).1
end

set_option maxRecDepth 100000 in
set_option maxHeartbeats 1600000 in
theorem refMoved_any (ms : List (Int × Int)) (A : Option Addr) (c : Nat) (p t : Int) (w : World) (h : Clk w A c ms) :
    Calls Try.prog 50 #[.slice A ms.length c, .int .i64 p, .int .i64 t] w fun e w' => ∃ (A' : Option Addr) (c' : Nat) (ys : List (Int × Int)) (E : Int),
      e = .returned (.tuple #[.slice A' ys.length c', .int .i64 E]) ∧ Clk w' A' c' ys ∧ Below w.heap.size w w' ∧ Hid (ys = movedF ms p t ∧ E = movedE ms p t) := by
  have H := Lib.hid h
  clear h
  by_cases hv : vhB ms = true
  · obtain ⟨hn1, hn2⟩ := vh_parts hv
    have HV := Lib.hid hv
    clear hv
    obtain ⟨bl, off, rfl, hbk, hcells⟩ := H.out.marks.open_ (by omega)
    have HC := Lib.hid hcells
    clear hcells
    go_enter Try.func50, Try.ntmps50
    go_wp2_with (go_at_call 22; refine (refValid_any _ _ _ _ H.out.marks H.out.len).mono ?_; rintro e w1 ⟨he, n0, rfl⟩; rw [HV.out] at he; subst he)
    have hB1 : Below w.heap.size w (w.drewN n0) := below_drewN (Below.refl _ _) n0
    generalize w.drewN n0 = w1 at hB1 ⊢
    go_loopw [8, 9] (fun v i wr => ∃ k : Nat, k ≤ ms.length ∧ i = .int .i64 k ∧ wr.ownsRow w.heap.size 63 2 v k (((ms.take k).map (moveH p t)).flatMap mk2) ∧ Below w.heap.size w wr ∧ Hid ((ms.take k).all (okM p t) = true)) (fun _ i _ => ms.length - (intOf i).toNat)
    case atStart => exact ⟨0, Nat.zero_le _, rfl, World.ownsRow_nil _ _ _ _, hB1, rfl⟩
    case round =>
      clear hB1
      obtain ⟨k, hk, rfl, hown, hB, hall⟩ := hrel
      by_cases hlt : k < ms.length
      · obtain ⟨a, b, hx⟩ := getM_of_lt hlt
        have f0 := (hB.cell (p := ⟨bl, off + k * 2, none⟩) hbk).trans (HC.out _ _ hx).1
        have f1 := (hB.cell (p := ⟨bl, off + k * 2 + 1, none⟩) hbk).trans (HC.out _ _ hx).2
        obtain ⟨⟨a0, a1⟩, b0, b1⟩ := vh_at HV.out hx
        simp only at a0 a1 b0 b1
        have HX := Lib.hid hx
        clear hx
        have hz := hB.size
        have hbw : bl < wr.heap.size := Nat.lt_of_lt_of_le hbk hz
        have HB := Lib.hid hB
        have HOWN := Lib.hid hown
        clear hown
        have k0 : (0 : Int) ≤ (k : Int) := by omega
        have k1 : (k : Int) < (ms.length : Int) := by omega
        by_cases h1 : canB a p = true
        · by_cases h2 : canB b t = true
          · obtain ⟨p0, p1⟩ := can_bd h1
            obtain ⟨t0, t1⟩ := can_bd h2
            have HOK : Hid ((ms.take (k + 1)).all (okM p t) = true) := by show _ = _; rw [all_snoc HX.out, hall.out, okM, h1, h2]; rfl
            have H12 := Lib.hid (And.intro h1 h2)
            have s1 : IntKind.i64.wrap (a + p) = a + p := IntWalk.i64_in _ (by omega)
            have s2 : IntKind.i64.wrap (b + t) = b + t := IntWalk.i64_in _ (by omega)
            have s3 : IntKind.i64.wrap (-1000 - a) = -1000 - a := IntWalk.i64_in _ (by omega)
            have s4 : IntKind.i64.wrap (1000 - a) = 1000 - a := IntWalk.i64_in _ (by omega)
            have s5 : IntKind.i64.wrap (-1000 - b) = -1000 - b := IntWalk.i64_in _ (by omega)
            have s6 : IntKind.i64.wrap (1000 - b) = 1000 - b := IntWalk.i64_in _ (by omega)
            clear h1 h2
            go_wp2
            go_quiet ((first | (go_at_call 64; with_reducible exact Calls.quiet_of_same (refWithin_can a p true _ H12.out.1)) | (go_at_call 64; with_reducible exact Calls.quiet_of_same (refWithin_can b t true _ H12.out.2))))
            go_wp2
            go_region_held3 (fun w' => w'.cell? ⟨bl, off + k * 2, none⟩ = some (.int .i64 a) ∧ w'.cell? ⟨bl, off + k * 2 + 1, none⟩ = some (.int .i64 b))
              ((first | with_reducible exact ⟨f0, f1⟩ | exact ⟨f0, f1⟩ | exact ⟨(hB2.cell (p := ⟨bl, off + k * 2, none⟩) hbk).trans f0, (hB2.cell (p := ⟨bl, off + k * 2 + 1, none⟩) hbk).trans f1⟩ | exact ⟨(World.cell?_alloc_lt _ _ _ hbw).trans f0, (World.cell?_alloc_lt _ _ _ hbw).trans f1⟩))
              ((refine step_app_hitN wr _ rfl (.tmp 51) (.tmp 67) rfl w.heap.size _ k _ _ _ rfl HOWN.out rfl (by omega) hz ?_; intro v2 w2 hown2 hB2))
            go_wp2
            go_roundw
            case rel => exact ⟨k + 1, by omega, by go_num, by rw [map_take_succM (moveH p t) HX.out]; exact hown2, HB.out.trans hB2, HOK.out⟩
            case measure => simp [intOf]; omega
          · have h2' : canB b t = false := by simpa using h2
            have fin : Hid ([] = movedF ms p t ∧ 2 = movedE ms p t) := by
              have := okMv_no (p := p) (t := t) HX.out (by simp [okM, h2'])
              exact ⟨by simp [movedF, this], by simp [movedE, HV.out, this]⟩
            have H12 := Lib.hid (And.intro h1 h2')
            have s3 : IntKind.i64.wrap (-1000 - a) = -1000 - a := IntWalk.i64_in _ (by omega)
            have s4 : IntKind.i64.wrap (1000 - a) = 1000 - a := IntWalk.i64_in _ (by omega)
            have s5 : IntKind.i64.wrap (-1000 - b) = -1000 - b := IntWalk.i64_in _ (by omega)
            have s6 : IntKind.i64.wrap (1000 - b) = 1000 - b := IntWalk.i64_in _ (by omega)
            clear h1 h2 h2'
            go_wp2
            go_quiet ((first | (go_at_call 64; with_reducible exact Calls.quiet_of_same (refWithin_can a p true _ H12.out.1)) | (go_at_call 64; with_reducible exact Calls.quiet_of_same (refWithin_can b t false _ H12.out.2))))
            go_wp2
            go_ret2
            exact ⟨none, 0, [], _, rfl, Clk.nil_, below_drewN HB.out _, fin⟩
        · have h1' : canB a p = false := by simpa using h1
          have fin : Hid ([] = movedF ms p t ∧ 2 = movedE ms p t) := by
            have := okMv_no (p := p) (t := t) HX.out (by simp [okM, h1'])
            exact ⟨by simp [movedF, this], by simp [movedE, HV.out, this]⟩
          have H12 := Lib.hid h1'
          have s3 : IntKind.i64.wrap (-1000 - a) = -1000 - a := IntWalk.i64_in _ (by omega)
          have s4 : IntKind.i64.wrap (1000 - a) = 1000 - a := IntWalk.i64_in _ (by omega)
          clear h1 h1'
          go_wp2
          go_quiet ((go_at_call 64; with_reducible exact Calls.quiet_of_same (refWithin_can a p false _ H12.out)))
          go_wp2
          go_ret2
          exact ⟨none, 0, [], _, rfl, Clk.nil_, below_drewN HB.out _, fin⟩
      · obtain rfl : k = ms.length := by omega
        have HO := Lib.hid (okMv_all (Nat.le_refl _) hall.out)
        go_wp2
        go_ret2
        obtain ⟨A', c', rfl, hI⟩ := own_hits hown
        exact ⟨A', c', _, _, rfl, hI, hB, by simp [movedF, HV.out, HO.out], by simp [movedE, HV.out, HO.out]⟩
  · have hv2 : vhB ms = false := by simpa using hv
    go_enter Try.func50, Try.ntmps50
    go_wp2_with (go_at_call 22; refine (refValid_any _ _ _ _ H.out.marks H.out.len).mono ?_; rintro e w1 ⟨he, n0, rfl⟩; rw [hv2] at he; subst he)
    go_ret2
    exact ⟨none, 0, [], _, rfl, Clk.nil_, below_drewN (Below.refl _ _) n0, by simp [movedF, hv2], by simp [movedE, hv2]⟩

set_option maxRecDepth 100000 in
set_option maxHeartbeats 800000 in
theorem refTurned_any (ms : List (Int × Int)) (A : Option Addr) (c : Nat) (w : World) (h : Clk w A c ms) :
    Calls Try.prog 52 #[.slice A ms.length c] w fun e w' => ∃ (A' : Option Addr) (c' : Nat) (ys : List (Int × Int)) (E : Int),
      e = .returned (.tuple #[.slice A' ys.length c', .int .i64 E]) ∧ Clk w' A' c' ys ∧ Below w.heap.size w w' ∧ Hid (ys = turnedF ms ∧ E = hitsE ms) := by
  have H := Lib.hid h
  clear h
  by_cases hv : vhB ms = true
  · obtain ⟨hn1, hn2⟩ := vh_parts hv
    have HV := Lib.hid hv
    clear hv
    obtain ⟨bl, off, rfl, hbk, hcells⟩ := H.out.marks.open_ (by omega)
    have HC := Lib.hid hcells
    clear hcells
    go_enter Try.func52, Try.ntmps52
    go_wp2_with (go_at_call 22; refine (refValid_any _ _ _ _ H.out.marks H.out.len).mono ?_; rintro e w1 ⟨he, n0, rfl⟩; rw [HV.out] at he; subst he)
    have hB1 : Below w.heap.size w (w.drewN n0) := below_drewN (Below.refl _ _) n0
    generalize w.drewN n0 = w1 at hB1 ⊢
    go_loopw [4, 5] (fun v i wr => ∃ k : Nat, k ≤ ms.length ∧ i = .int .i64 k ∧ wr.ownsRow w.heap.size 63 2 v k (((ms.take k).map turnH).flatMap mk2) ∧ Below w.heap.size w wr) (fun _ i _ => ms.length - (intOf i).toNat)
    case atStart => exact ⟨0, Nat.zero_le _, rfl, World.ownsRow_nil _ _ _ _, hB1⟩
    case round =>
      clear hB1
      obtain ⟨k, hk, rfl, hown, hB⟩ := hrel
      by_cases hlt : k < ms.length
      · obtain ⟨a, b, hx⟩ := getM_of_lt hlt
        have f0 := (hB.cell (p := ⟨bl, off + k * 2, none⟩) hbk).trans (HC.out _ _ hx).1
        have f1 := (hB.cell (p := ⟨bl, off + k * 2 + 1, none⟩) hbk).trans (HC.out _ _ hx).2
        obtain ⟨⟨a0, a1⟩, b0, b1⟩ := vh_at HV.out hx
        simp only at a0 a1 b0 b1
        have HX := Lib.hid hx
        clear hx
        have hz := hB.size
        have hbw : bl < wr.heap.size := Nat.lt_of_lt_of_le hbk hz
        have HB := Lib.hid hB
        have HOWN := Lib.hid hown
        clear hown
        have k0 : (0 : Int) ≤ (k : Int) := by omega
        have k1 : (k : Int) < (ms.length : Int) := by omega
        have s1 : IntKind.i64.wrap (-b) = -b := IntWalk.i64_in _ (by omega)
        go_wp2
        go_region_held3 (fun w' => w'.cell? ⟨bl, off + k * 2, none⟩ = some (.int .i64 a) ∧ w'.cell? ⟨bl, off + k * 2 + 1, none⟩ = some (.int .i64 b))
          ((first | with_reducible exact ⟨f0, f1⟩ | exact ⟨f0, f1⟩ | exact ⟨(hB2.cell (p := ⟨bl, off + k * 2, none⟩) hbk).trans f0, (hB2.cell (p := ⟨bl, off + k * 2 + 1, none⟩) hbk).trans f1⟩ | exact ⟨(World.cell?_alloc_lt _ _ _ hbw).trans f0, (World.cell?_alloc_lt _ _ _ hbw).trans f1⟩))
          ((refine step_app_hit wr rfl (.tmp 15) (.tmp 28) rfl w.heap.size _ k _ _ _ rfl HOWN.out rfl (by omega) hz ?_; intro v2 w2 hown2 hB2))
        go_wp2
        go_roundw
        case rel => exact ⟨k + 1, by omega, by go_num, by rw [map_take_succM turnH HX.out]; exact hown2, HB.out.trans hB2⟩
        case measure => simp [intOf]; omega
      · obtain rfl : k = ms.length := by omega
        go_wp2
        go_ret2
        obtain ⟨A', c', rfl, hI⟩ := own_hits hown
        exact ⟨A', c', _, _, rfl, hI, hB, by simp [turnedF, HV.out], (hitsE_yes HV.out).symm⟩
  · have hv2 : vhB ms = false := by simpa using hv
    go_enter Try.func52, Try.ntmps52
    go_wp2_with (go_at_call 22; refine (refValid_any _ _ _ _ H.out.marks H.out.len).mono ?_; rintro e w1 ⟨he, n0, rfl⟩; rw [hv2] at he; subst he)
    go_ret2
    exact ⟨none, 0, [], _, rfl, Clk.nil_, below_drewN (Below.refl _ _) n0, by simp [turnedF, hv2], (hitsE_no hv2).symm⟩
end Go.Proofs.Ytmlkdjcjfkfdiaa
