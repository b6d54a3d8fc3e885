/-
  Contracts: canMove, Moved, turned, told for turned, Turned (cone).
-/
import Derived.Test.YtmlkdjcjfkfdiaaSane
namespace Go.Proofs.Ytmlkdjcjfkfdiaa
open Go.RowKit Go.Shelf

def canB (n by_ : Int) : Bool := decide (-1000 - n ≤ by_ ∧ by_ ≤ 1000 - n)
def moveH (p t : Int) (m : Int × Int) : Int × Int := (m.1 + p, m.2 + t)
def okM (p t : Int) (m : Int × Int) : Bool := canB m.1 p && canB m.2 t
def okMv (ms : List (Int × Int)) (p t : Int) : Bool := ms.all (okM p t)
def movedF (ms : List (Int × Int)) (p t : Int) : List (Int × Int) := if vhB ms && okMv ms p t then ms.map (moveH p t) else []
def movedE (ms : List (Int × Int)) (p t : Int) : Int := if vhB ms then (if okMv ms p t then 0 else 2) else 20
def turnH (m : Int × Int) : Int × Int := (m.1, -m.2)
def turnedF (ms : List (Int × Int)) : List (Int × Int) := if vhB ms then ms.map turnH else []
theorem can_bd {n by_ : Int} (h : canB n by_ = true) : -1000 - n ≤ by_ ∧ by_ ≤ 1000 - n := by simpa [canB] using h
theorem okMv_no {ms : List (Int × Int)} {k : Nat} {m : Int × Int} {p t : Int} (h : ms[k]? = some m) (hn : okM p t m = false) : okMv ms p t = false := all_not h hn
theorem okMv_all {ms : List (Int × Int)} {k : Nat} {p t : Int} (hk : ms.length ≤ k) (h : (ms.take k).all (okM p t) = true) : okMv ms p t = true := by rw [all_full hk] at h; exact h

theorem canMove_any (n by_ : Int) (w : World) (h0 : -1000 ≤ n) (h1 : n ≤ 1000) :
    Calls Try.prog 94 #[.int .i64 n, .int .i64 by_] w fun e w' => e = .returned (.bool (canB n by_)) ∧ w = w' := by
  go_enter Try.func94, Try.ntmps94
  go_wp2
  all_goals
    go_ret
    exact ⟨ret_bool (by rw [Bool.eq_iff_iff]; simp [canB]; try omega), rfl⟩

set_option maxRecDepth 100000 in
set_option maxHeartbeats 800000 in
theorem moved_any (ms : List (Int × Int)) (A : Option Addr) (c : Nat) (p t : Int) (w : World) (h : Clk w A c ms) :
    Calls Try.prog 49 #[.slice A ms.length c, .int .i64 p, .int .i64 t] w fun e w' => ∃ (A' : Option Addr) (c' : Nat) (ys : List (Int × Int)) (E : Int),
      e = .returned (.tuple #[.slice A' ys.length c', .int .i64 E]) ∧ Clk w' A' c' ys ∧ Below w.heap.size w w' ∧ Hid (ys = movedF ms p t ∧ E = movedE ms p t) := by
  have H := Lib.hid h
  clear h
  by_cases hv : vhB ms = true
  · obtain ⟨hn1, hn2⟩ := vh_parts hv
    have HV := Lib.hid hv
    clear hv
    obtain ⟨bl, off, rfl, hbk, hcells⟩ := H.out.marks.open_ (by omega)
    have HC := Lib.hid hcells
    clear hcells
    obtain ⟨i0, hi0, hz0, hz1, hz2⟩ := info_parts hit_info
    have HZ2 := Lib.hid hz2
    clear hz2
    go_enter Try.func49, Try.ntmps49
    go_wp2_with (first
      | (go_at_call 21; refine (valid_any _ _ _ _ H.out.marks H.out.len).mono ?_; rintro e w0 ⟨he, hB0⟩; rw [HV.out] at he; subst he; have hz0' := hB0.size)
      | (at_make; refine wpList_make_own _ rfl _ _ 22 rfl w.heap.size 63 i0 (.agg #[.int .i64 0, .int .i64 0]) 2 Try.underlying22 hi0 hz0 hz1 _ _ _ ms.length rfl rfl rfl (by rw [HZ2.out]; omega) (by unfold maxLen; omega) hB0.size ?_; intro w1 hown1 hg1))
    have hB1 : Below w.heap.size w w1 := hB0.grown hg1 hB0.size (by simp)
    clear hg1 HZ2 hz0 hz1 hi0 hB0 hz0'
    go_loopw [8, 19] (fun v i wr => ∃ k : Nat, k ≤ ms.length ∧ i = .int .i64 k ∧ wr.ownsRow w.heap.size 63 2 v k (((ms.take k).map (moveH p t)).flatMap mk2) ∧ Below w.heap.size w wr ∧ Hid ((ms.take k).all (okM p t) = true)) (fun _ i _ => ms.length - (intOf i).toNat)
    case atStart => exact ⟨0, Nat.zero_le _, rfl, hown1, hB1, rfl⟩
    case round =>
      clear hown1 hB1
      obtain ⟨k, hk, rfl, hown, hB, hall⟩ := hrel
      by_cases hlt : k < ms.length
      · obtain ⟨a, b, hx⟩ := getM_of_lt hlt
        have f0 := (hB.cell (p := ⟨bl, off + k * 2, none⟩) hbk).trans (HC.out _ _ hx).1
        have f1 := (hB.cell (p := ⟨bl, off + k * 2 + 1, none⟩) hbk).trans (HC.out _ _ hx).2
        obtain ⟨⟨a0, a1⟩, b0, b1⟩ := vh_at HV.out hx
        simp only at a0 a1 b0 b1
        have HX := Lib.hid hx
        clear hx
        have hz := hB.size
        by_cases h1 : canB a p = true
        · by_cases h2 : canB b t = true
          · obtain ⟨p0, p1⟩ := can_bd h1
            obtain ⟨t0, t1⟩ := can_bd h2
            have HO3 := Lib.hid (hown.alloc (.cells #[.int .i64 a, .int .i64 b] 63))
            have HW3 : Hid (Below w.heap.size w (wr.alloc (.cells #[.int .i64 a, .int .i64 b] 63))) := by show Below _ _ _; exact (by repeat (first | with_reducible exact Below.refl _ _ | with_reducible assumption | refine below_drewN ?_ _ | with_reducible refine Below.drew ?_ | (refine Below.setCell ?_ (by first | (simp; done) | (simp; omega) | omega) _) | (refine Below.alloc ?_ (by first | (simp; done) | (simp; omega) | omega) _)))
            have HS : Hid (Value.slice (some ⟨wr.heap.size + 1, 0, none⟩) 1 1 = Value.slice (some ⟨(wr.alloc (.cells #[.int .i64 a, .int .i64 b] 63)).heap.size, 0, none⟩) 1 1) := by show _ = _; simp
            have HOK : Hid ((ms.take (k + 1)).all (okM p t) = true) := by show _ = _; rw [all_snoc HX.out, hall.out, okM, h1, h2]; rfl
            have TA : Hid True := Lib.hid trivial
            go_wp2_with (first
              | (go_at_call 94; clear TA; refine (canMove_any a p _ a0 a1).mono ?_; rintro e w' ⟨he, rfl⟩; rw [h1] at he; subst he)
              | (go_at_call 94; refine (canMove_any b t _ b0 b1).mono ?_; rintro e w' ⟨he, rfl⟩; rw [h2] at he; subst he)
              | (at_builtin; refine wp_app_hit (wr.alloc (.cells #[.int .i64 a, .int .i64 b] 63)) rfl (.tmp 35) (.tmp 45) rfl w.heap.size _ k _ _ _ rfl HO3.out HS.out (by omega) HW3.out.size ?_; intro v2 w2 hown2 hB2))
            go_roundw
            case rel => exact ⟨k + 1, by omega, by go_num, by rw [map_take_succM (moveH p t) HX.out]; exact hown2, HW3.out.trans hB2, HOK.out⟩
            case measure => simp [intOf]; omega
          · have h2' : canB b t = false := by simpa using h2
            have fin : Hid ([] = movedF ms p t ∧ 2 = movedE ms p t) := by
              have := okMv_no (p := p) (t := t) HX.out (by simp [okM, h2'])
              exact ⟨by simp [movedF, this], by simp [movedE, HV.out, this]⟩
            have TA : Hid True := Lib.hid trivial
            go_wp2_with (first
              | (go_at_call 94; clear TA; refine (canMove_any a p _ a0 a1).mono ?_; rintro e w' ⟨he, rfl⟩; rw [h1] at he; subst he)
              | (go_at_call 94; refine (canMove_any b t _ b0 b1).mono ?_; rintro e w' ⟨he, rfl⟩; rw [h2'] at he; subst he))
            go_ret2
            exact ⟨none, 0, [], _, rfl, Clk.nil_, (by repeat (first | with_reducible exact Below.refl _ _ | with_reducible assumption | refine below_drewN ?_ _ | with_reducible refine Below.drew ?_ | (refine Below.setCell ?_ (by first | (simp; done) | (simp; omega) | omega) _) | (refine Below.alloc ?_ (by first | (simp; done) | (simp; omega) | omega) _))), fin⟩
        · have h1' : canB a p = false := by simpa using h1
          have fin : Hid ([] = movedF ms p t ∧ 2 = movedE ms p t) := by
            have := okMv_no (p := p) (t := t) HX.out (by simp [okM, h1'])
            exact ⟨by simp [movedF, this], by simp [movedE, HV.out, this]⟩
          go_wp2_with (go_at_call 94; refine (canMove_any a p _ a0 a1).mono ?_; rintro e w' ⟨he, rfl⟩; rw [h1'] at he; subst he)
          go_ret2
          exact ⟨none, 0, [], _, rfl, Clk.nil_, (by repeat (first | with_reducible exact Below.refl _ _ | with_reducible assumption | refine below_drewN ?_ _ | with_reducible refine Below.drew ?_ | (refine Below.setCell ?_ (by first | (simp; done) | (simp; omega) | omega) _) | (refine Below.alloc ?_ (by first | (simp; done) | (simp; omega) | omega) _))), fin⟩
      · obtain rfl : k = ms.length := by omega
        have HO := Lib.hid (okMv_all (Nat.le_refl _) hall.out)
        go_wp2
        go_ret2
        obtain ⟨A', c', rfl, hI⟩ := own_hits hown
        exact ⟨A', c', _, _, rfl, hI, hB, by simp [movedF, HV.out, HO.out], by simp [movedE, HV.out, HO.out]⟩
  · have hv2 : vhB ms = false := by simpa using hv
    go_enter Try.func49, Try.ntmps49
    go_wp2_with (go_at_call 21; refine (valid_any _ _ _ _ H.out.marks H.out.len).mono ?_; rintro e w1 ⟨he, hB1⟩; rw [hv2] at he; subst he)
    go_ret2
    exact ⟨none, 0, [], _, rfl, Clk.nil_, hB1, by simp [movedF, hv2], by simp [movedE, hv2]⟩

set_option maxRecDepth 100000 in
set_option maxHeartbeats 800000 in
theorem turned_any (ms : List (Int × Int)) (A : Option Addr) (c : Nat) (w : World) (h : Clk w A c ms) (hv : vhB ms = true) :
    Calls Try.prog 96 #[.slice A ms.length c] w fun e w' => ∃ (A' : Option Addr) (c' : Nat) (ys : List (Int × Int)),
      e = .returned (.slice A' ys.length c') ∧ Clk w' A' c' ys ∧ Below w.heap.size w w' ∧ Hid (ys = ms.map turnH) := by
  have H := Lib.hid h
  clear h
  obtain ⟨hn1, hn2⟩ := vh_parts hv
  have HV := Lib.hid hv
  clear hv
  obtain ⟨bl, off, rfl, hbk, hcells⟩ := H.out.marks.open_ (by omega)
  have HC := Lib.hid hcells
  clear hcells
  obtain ⟨i0, hi0, hz0, hz1, hz2⟩ := info_parts hit_info
  have HZ2 := Lib.hid hz2
  clear hz2
  go_enter Try.func96, Try.ntmps96
  go_wp2_with (at_make; refine wpList_make_own _ rfl _ _ 22 rfl w.heap.size 63 i0 (.agg #[.int .i64 0, .int .i64 0]) 2 Try.underlying22 hi0 hz0 hz1 _ _ _ ms.length rfl rfl rfl (by rw [HZ2.out]; omega) (by unfold maxLen; omega) (Nat.le_refl _) ?_; intro w1 hown1 hg1)
  have hB1 : Below w.heap.size w w1 := (Below.refl _ _).grown hg1 (Nat.le_refl _) (by simp)
  clear hg1 HZ2 hz0 hz1 hi0
  go_loopw [3, 11] (fun v i wr => ∃ k : Nat, k ≤ ms.length ∧ i = .int .i64 k ∧ wr.ownsRow w.heap.size 63 2 v k (((ms.take k).map turnH).flatMap mk2) ∧ Below w.heap.size w wr) (fun _ i _ => ms.length - (intOf i).toNat)
  case atStart => exact ⟨0, Nat.zero_le _, rfl, hown1, hB1⟩
  case round =>
    clear hown1 hB1
    obtain ⟨k, hk, rfl, hown, hB⟩ := hrel
    by_cases hlt : k < ms.length
    · obtain ⟨a, b, hx⟩ := getM_of_lt hlt
      have f0 := (hB.cell (p := ⟨bl, off + k * 2, none⟩) hbk).trans (HC.out _ _ hx).1
      have f1 := (hB.cell (p := ⟨bl, off + k * 2 + 1, none⟩) hbk).trans (HC.out _ _ hx).2
      obtain ⟨⟨a0, a1⟩, b0, b1⟩ := vh_at HV.out hx
      simp only at a0 a1 b0 b1
      have HX := Lib.hid hx
      clear hx
      have hz := hB.size
      have HO3 := Lib.hid (hown.alloc (.cells #[.int .i64 a, .int .i64 b] 63))
      have HW3 : Hid (Below w.heap.size w (wr.alloc (.cells #[.int .i64 a, .int .i64 b] 63))) := by show Below _ _ _; exact (by repeat (first | with_reducible exact Below.refl _ _ | with_reducible assumption | refine below_drewN ?_ _ | with_reducible refine Below.drew ?_ | (refine Below.setCell ?_ (by first | (simp; done) | (simp; omega) | omega) _) | (refine Below.alloc ?_ (by first | (simp; done) | (simp; omega) | omega) _)))
      have HS : Hid (Value.slice (some ⟨wr.heap.size + 1, 0, none⟩) 1 1 = Value.slice (some ⟨(wr.alloc (.cells #[.int .i64 a, .int .i64 b] 63)).heap.size, 0, none⟩) 1 1) := by show _ = _; simp
      go_wp2_with (at_builtin; refine wp_app_hit (wr.alloc (.cells #[.int .i64 a, .int .i64 b] 63)) rfl (.tmp 15) (.tmp 22) rfl w.heap.size _ k _ _ _ rfl HO3.out HS.out (by omega) HW3.out.size ?_; intro v2 w2 hown2 hB2)
      go_roundw
      case rel => exact ⟨k + 1, by omega, by go_num, by rw [map_take_succM turnH HX.out]; exact hown2, HW3.out.trans hB2⟩
      case measure => simp [intOf]; omega
    · obtain rfl : k = ms.length := by omega
      go_wp2
      go_ret
      obtain ⟨A', c', rfl, hI⟩ := own_hits hown
      exact ⟨A', c', _, rfl, hI, hB, (by simp : (ms.take ms.length).map turnH = ms.map turnH)⟩

set_option maxRecDepth 100000 in
theorem toldTurned_any (ms : List (Int × Int)) (A : Option Addr) (c : Nat) (w : World) (h : Clk w A c ms) :
    Calls Try.prog 95 #[.slice A ms.length c, .func (Fn.func 96) #[.slice A ms.length c] #[]] w fun e w' => ∃ (A' : Option Addr) (c' : Nat) (ys : List (Int × Int)) (E : Int), e = .returned (.tuple #[.slice A' ys.length c', .int .i64 E]) ∧ Clk w' A' c' ys ∧ Below w.heap.size w w' ∧ Hid (ys = turnedF ms ∧ E = hitsE ms) := by
  have H := Lib.hid h
  clear h
  cases hv : vhB ms with
  | true =>
    have HV := Lib.hid hv
    clear hv
    go_enter Try.func95, Try.ntmps95
    go_wp2_with (first
      | (go_at_call 21; refine (valid_any ms A c _ H.out.marks H.out.len).mono ?_; rintro e w1 ⟨he, hB1⟩; rw [HV.out] at he; subst he)
      | (go_at_call 96; refine (turned_any ms A c _ (H.out.below hB1) HV.out).mono ?_; rintro e w2 ⟨A2, c2, ys, rfl, hO2, hB2, hy⟩))
    go_ret2
    exact ⟨A2, c2, ys, _, rfl, hO2, below_step hB1 hB2, by rw [hy.out, turnedF, HV.out]; rfl, (hitsE_yes HV.out).symm⟩
  | false =>
    have HV := Lib.hid hv
    clear hv
    go_enter Try.func95, Try.ntmps95
    go_wp2_with (go_at_call 21; refine (valid_any ms A c _ H.out.marks H.out.len).mono ?_; rintro e w1 ⟨he, hB1⟩; rw [HV.out] at he; subst he)
    go_ret2
    exact ⟨none, 0, [], _, rfl, Clk.nil_, hB1, by rw [turnedF, HV.out]; rfl, (hitsE_no HV.out).symm⟩
set_option maxRecDepth 100000 in
theorem coneTurned_any (ms : List (Int × Int)) (A : Option Addr) (c : Nat) (w : World) (h : Clk w A c ms) :
    Calls Try.prog 51 #[.slice A ms.length c] w fun e w' => ∃ (A' : Option Addr) (c' : Nat) (ys : List (Int × Int)) (E : Int), e = .returned (.tuple #[.slice A' ys.length c', .int .i64 E]) ∧ Clk w' A' c' ys ∧ Below w.heap.size w w' ∧ Hid (ys = turnedF ms ∧ E = hitsE ms) := by
  have H := Lib.hid h
  clear h
  go_enter Try.func51, Try.ntmps51
  go_wp2_with (go_at_call 95; refine (toldTurned_any ms A c _ H.out).mono ?_; rintro e w2 ⟨A2, c2, ys, E, rfl, hO2, hB2, hy⟩)
  go_ret2
  exact ⟨A2, c2, ys, E, rfl, hO2, hB2, hy⟩
end Go.Proofs.Ytmlkdjcjfkfdiaa
