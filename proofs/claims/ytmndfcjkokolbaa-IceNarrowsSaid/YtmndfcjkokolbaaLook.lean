/-
  Contracts: depth, whole, loss, look with its function literal (ice).
-/
import Derived.Test.YtmndfcjkokolbaaLosses
namespace Go.Proofs.Ytmndfcjkokolbaa
open Go.RowKit Go.Shelf

theorem depth_any (n : Nat) (A : Option Addr) (c : Nat) (w : World) (hn : n ≤ 1000000) :
    Calls Try.prog 61 #[.slice A (n + 1) c] w fun e w' => e = .returned (.int .i64 n) ∧ w = w' := by
  go_enter Try.func61, Try.ntmps61
  go_wp2
  go_ret
  exact ⟨rfl, rfl⟩

/-- A slice of losses, as it is handed from call to call. -/
structure Los (w : World) (A : Option Addr) (l : List Int) : Prop where
  ints : Ints w A (preL l)
  dims : dimsB l
theorem Los.below {w w' : World} {A : Option Addr} {l : List Int} (h : Los w A l) (hb : Below w.heap.size w w') : Los w' A l := ⟨h.ints.below hb, h.dims⟩
theorem Los.open_ {w : World} {A : Option Addr} {l : List Int} (h : Los w A l) :
    ∃ b o, A = some ⟨b, o, none⟩ ∧ b < w.heap.size ∧ ∀ k : Nat, k ≤ l.length → w.cell? ⟨b, o + k, none⟩ = some (.int .i64 (sumN l k)) := by
  obtain ⟨b, o, e, hb, hc⟩ := h.ints.open_ (by rw [preL_len]; omega)
  exact ⟨b, o, e, hb, fun k hk => hc k _ (preL_get hk)⟩

set_option maxRecDepth 100000 in
theorem whole_any (l : List Int) (A : Option Addr) (c : Nat) (w : World) (h : Los w A l) :
    Calls Try.prog 76 #[.slice A (l.length + 1) c] w fun e w' => e = .returned (.int .i64 l.sum) ∧ w = w' := by
  obtain ⟨b, o, rfl, hb, hc⟩ := h.open_
  have f0 := hc l.length (Nat.le_refl _)
  have hd := h.dims.2
  have HS := Lib.hid (sumN_all (l := l))
  clear h hc
  go_enter Try.func76, Try.ntmps76
  go_wp2_with (go_at_call 61; refine (depth_any _ _ _ _ (by omega)).mono ?_; rintro e w1 ⟨rfl, rfl⟩)
  go_ret
  exact ⟨ret_int HS.out, rfl⟩

theorem loss_le {l : List Int} {i j : Nat} (h : i ≤ j) : lossI l i j = sumN l j - sumN l i := by
  unfold lossI; rw [show (max (i : Int) j).toNat = j by omega, show (min (i : Int) j).toNat = i by omega]
theorem loss_ge {l : List Int} {i j : Nat} (h : j ≤ i) : lossI l i j = sumN l i - sumN l j := by
  unfold lossI; rw [show (max (i : Int) j).toNat = i by omega, show (min (i : Int) j).toNat = j by omega]

set_option maxRecDepth 100000 in
theorem loss_any (l : List Int) (A : Option Addr) (c : Nat) (a b : Nat) (w : World) (h : Los w A l) (ha : a ≤ l.length) (hb : b ≤ l.length) :
    Calls Try.prog 66 #[.slice A (l.length + 1) c, .int .i64 a, .int .i64 b] w fun e w' => e = .returned (.int .i64 (lossI l a b)) ∧ ∃ n, w' = w.drewN n := by
  obtain ⟨bl, o, rfl, hbk, hc⟩ := h.open_
  have f0 := hc a ha
  have f1 := hc b hb
  have hd := h.dims.2
  have b0 := dims_bd h.dims a
  have b1 := dims_bd h.dims b
  by_cases hab : a ≤ b
  · have HL := Lib.hid (loss_le (l := l) hab)
    have m1 : (if a < b then (b : Int) else (a : Int)) = b := by split <;> omega
    have m2 : (if b < a then (b : Int) else (a : Int)) = a := by split <;> omega
    clear h hc
    generalize sumN l a = x at *
    generalize sumN l b = y at *
    have i1 : (b : Int) < (l.length : Int) + 1 := by omega
    have i2 : (a : Int) < (l.length : Int) + 1 := by omega
    have s1 : IntKind.i64.wrap (y - x) = y - x := IntWalk.i64_in _ (by omega)
    go_enter Try.func66, Try.ntmps66
    go_wp2
    go_quiet (fail)
    go_wp2
    go_ret
    exact ⟨ret_int HL.out.symm, _, rfl⟩
  · have HL := Lib.hid (loss_ge (l := l) (i := a) (j := b) (by omega))
    have m1 : (if a < b then (b : Int) else (a : Int)) = a := by split <;> omega
    have m2 : (if b < a then (b : Int) else (a : Int)) = b := by split <;> omega
    clear h hc
    generalize sumN l a = x at *
    generalize sumN l b = y at *
    have i1 : (b : Int) < (l.length : Int) + 1 := by omega
    have i2 : (a : Int) < (l.length : Int) + 1 := by omega
    have s1 : IntKind.i64.wrap (x - y) = x - y := IntWalk.i64_in _ (by omega)
    go_enter Try.func66, Try.ntmps66
    go_wp2
    go_quiet (fail)
    go_wp2
    go_ret
    exact ⟨ret_int HL.out.symm, _, rfl⟩

set_option maxRecDepth 100000 in
theorem dim_look (ms : List (Int × Int)) (A : Option Addr) (c B : Nat) (w : World) (h : Marks w A ms) (hc : w.cell? ⟨B, 0, none⟩ = some (.slice A ms.length c)) (hn : ms.length ≤ 20) :
    DimAt 95 #[.pointer (some ⟨B, 0, none⟩)] (ms.map (·.2)) w := by
  intro W n d hd hB
  have hBs := World.block_lt_of_cell? w _ hc
  have c0 := (hB.cell (p := ⟨B, 0, none⟩) hBs).trans hc
  obtain ⟨hk, _⟩ := List.getElem?_eq_some_iff.1 hd
  rw [List.length_map] at hk
  obtain ⟨bl, off, rfl, hbk, hcells⟩ := h.open_ (by omega)
  obtain ⟨a, b, hx⟩ := getM_of_lt hk
  rw [List.getElem?_map, hx] at hd
  obtain rfl : b = d := by simpa using hd
  have f1 := (hB.cell (p := ⟨bl, off + n * 2 + 1, none⟩) hbk).trans (hcells _ _ hx).2
  clear hx hd hcells h hc hB
  have i0 : (0 : Int) ≤ (n : Int) := by omega
  have i1 : (n : Int) < (ms.length : Int) := by omega
  show Calls Try.prog _ #[.int .i64 n, .pointer (some ⟨B, 0, none⟩)] W _
  go_enter Try.func95, Try.ntmps95
  go_wp2
  go_ret
  exact ⟨rfl, Below.refl _ _⟩

def lookE (ms : List (Int × Int)) (ds : List Int) : Int := if viB ms then (if ds.all (inB (mtL ms).length) then 0 else 2) else 40
theorem look_parts {ms : List (Int × Int)} {ds : List Int} (h : lookE ms ds = 0) : viB ms = true ∧ ds.all (inB (mtL ms).length) = true := by
  unfold lookE at h
  cases hv : viB ms <;> cases hd : ds.all (inB (mtL ms).length) <;> simp [hv, hd] at h ⊢
theorem lookE_ok {ms : List (Int × Int)} {ds : List Int} (hv : viB ms = true) (hd : ds.all (inB (mtL ms).length) = true) : lookE ms ds = 0 := by
  rw [lookE, if_pos hv, if_pos hd]
theorem lookE_arg {ms : List (Int × Int)} {ds : List Int} (hv : viB ms = true) (hd : ds.all (inB (mtL ms).length) = false) : lookE ms ds = 2 := by
  rw [lookE, if_pos hv, hd]; rfl
theorem lookE_ice {ms : List (Int × Int)} {ds : List Int} (hv : viB ms = false) : lookE ms ds = 40 := by
  rw [lookE, hv]; rfl

set_option maxRecDepth 100000 in
set_option maxHeartbeats 400000 in
theorem look_any (ms : List (Int × Int)) (A : Option Addr) (c : Nat) (ds : List Int) (D : Option Addr) (cd : Nat) (w : World) (h : Clk w A c ms) (hD : Ints w D ds) (hdl : ds.length ≤ maxLen) :
    Calls Try.prog 60 #[.slice A ms.length c, .slice D ds.length cd] w fun e w' => Below w.heap.size w w' ∧
      ((lookE ms ds = 0 ∧ ∃ A' c', e = .returned (.tuple #[.slice A' ((mtL ms).length + 1) c', .int .i64 0]) ∧ Los w' A' (mtL ms)) ∨ (lookE ms ds ≠ 0 ∧ e = .returned (.tuple #[.slice none 0 0, .int .i64 (lookE ms ds)]))) := by
  have H := Lib.hid (And.intro h (And.intro hD hdl))
  clear h hD hdl
  cases hv : viB ms with
  | false =>
    have HV := Lib.hid hv
    go_enter Try.func60, Try.ntmps60
    go_wp2_with (go_at_call 21; refine (valid_any ms _ _ _ (H.out.1.marks.below ((Below.refl _ _).alloc (Nat.le_refl _) _)) H.out.1.len).mono ?_; rintro e w1 ⟨rfl, hB1⟩)
    go_ret2
    exact ⟨Below.trans ((Below.refl _ _).alloc (Nat.le_refl _) _) (hB1.mono (by simp)), .inr ⟨by rw [lookE_ice HV.out]; decide, by rw [lookE_ice HV.out]; rfl⟩⟩
  | true =>
    have HV := Lib.hid hv
    have eg : ∀ args w, (callFunc 95 args).run Try.prog w = .ok (.enter 95 args) w := enters_of Try.func95 (by kernel_rfl) rfl
    have HEG := Lib.hid eg
    clear eg
    have hzl : (ms.map (·.2)).length = ms.length := by simp
    have hzd : ∀ d ∈ ms.map (·.2), 0 ≤ d ∧ d ≤ 100 := by
      intro d hd
      obtain ⟨m, hm, rfl⟩ := List.mem_map.1 hd
      have := vi_all HV.out m hm
      simp [layB] at this; omega
    have HZ := Lib.hid (And.intro hzl hzd)
    clear hzl hzd
    have hlen := (mt_ok HV.out).2
    have hpl := preL_len (mtL ms)
    have HPL := Lib.hid hpl
    clear hpl
    cases hbd : ds.all (inB (mtL ms).length) with
    | false =>
      have HBD := Lib.hid hbd
      clear hbd
      go_enter Try.func60, Try.ntmps60
      go_wp2_with (first
        | (go_at_call 21; refine (valid_any ms _ _ _ (H.out.1.marks.below ((Below.refl _ _).alloc (Nat.le_refl _) _)) H.out.1.len).mono ?_; rintro e w1 ⟨rfl, hB1⟩; have hW1 : Below w.heap.size w w1 := Below.trans ((Below.refl _ _).alloc (Nat.le_refl _) _) (hB1.mono (by simp)); have hc1 : w1.cell? ⟨w.heap.size, 0, none⟩ = some (.slice A ms.length c) := (hB1.cell (p := ⟨w.heap.size, 0, none⟩) (by simp)).trans (by simp))
        | (go_at_call 94; refine (lossesOf_any _ _ _ HEG.out ms A c _ (dim_look ms A c _ _ (H.out.1.marks.below hW1) hc1 (vi_parts HV.out).2) (H.out.1.marks.below hW1) HV.out HZ.out.1 HZ.out.2).mono ?_; rintro e w2 ⟨A2, c2, xs, rfl, hO, hB2, hx⟩; have hx2 := hx.out; rw [zipD_self] at hx2; subst hx2; have hW2 := below_step hW1 hB2; rw [HPL.out])
        | (go_at_call 61; refine (depth_any _ _ _ _ (by omega)).mono ?_; rintro e w3 ⟨rfl, rfl⟩)
        | (go_at_call 64; refine (within_any _ ds _ _ _ (H.out.2.1.below hW2) H.out.2.2).mono ?_; rintro e w4 ⟨rfl, n, rfl⟩; rw [HBD.out]))
      go_ret2
      exact ⟨below_drewN hW2 n, .inr ⟨by rw [lookE_arg HV.out HBD.out]; decide, by rw [lookE_arg HV.out HBD.out]; rfl⟩⟩
    | true =>
      have HBD := Lib.hid hbd
      clear hbd
      go_enter Try.func60, Try.ntmps60
      go_wp2_with (first
        | (go_at_call 21; refine (valid_any ms _ _ _ (H.out.1.marks.below ((Below.refl _ _).alloc (Nat.le_refl _) _)) H.out.1.len).mono ?_; rintro e w1 ⟨rfl, hB1⟩; have hW1 : Below w.heap.size w w1 := Below.trans ((Below.refl _ _).alloc (Nat.le_refl _) _) (hB1.mono (by simp)); have hc1 : w1.cell? ⟨w.heap.size, 0, none⟩ = some (.slice A ms.length c) := (hB1.cell (p := ⟨w.heap.size, 0, none⟩) (by simp)).trans (by simp))
        | (go_at_call 94; refine (lossesOf_any _ _ _ HEG.out ms A c _ (dim_look ms A c _ _ (H.out.1.marks.below hW1) hc1 (vi_parts HV.out).2) (H.out.1.marks.below hW1) HV.out HZ.out.1 HZ.out.2).mono ?_; rintro e w2 ⟨A2, c2, xs, rfl, hO, hB2, hx⟩; have hx2 := hx.out; rw [zipD_self] at hx2; subst hx2; have hW2 := below_step hW1 hB2; rw [HPL.out])
        | (go_at_call 61; refine (depth_any _ _ _ _ (by omega)).mono ?_; rintro e w3 ⟨rfl, rfl⟩)
        | (go_at_call 64; refine (within_any _ ds _ _ _ (H.out.2.1.below hW2) H.out.2.2).mono ?_; rintro e w4 ⟨rfl, n, rfl⟩; rw [HBD.out]))
      go_ret2
      exact ⟨below_drewN hW2 n, .inl ⟨lookE_ok HV.out HBD.out, A2, c2, rfl, (⟨hO.ints, mt_ok HV.out⟩ : Los w2 A2 (mtL ms)).below (below_drewN (Below.refl _ _) n)⟩⟩
end Go.Proofs.Ytmndfcjkokolbaa
