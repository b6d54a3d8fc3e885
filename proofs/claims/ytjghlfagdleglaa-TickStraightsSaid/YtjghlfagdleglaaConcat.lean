/-
  Contracts: slices.Grow of nil, slices.Concat of two clocks.
-/
import Derived.Test.YtjghlfagdleglaaShelf
import Derived.Test.YtjghlfagdleglaaRefStraight
namespace Go.Proofs.Ytjghlfagdleglaa
open Go.RowKit

theorem grow_marks (n : Nat) (w : World) (h0 : 0 < n) (h1 : n ≤ 100000) :
    Calls Try.prog 85 #[.slice none 0 0, .int .i64 (n : Int)] w fun e w' => ∃ v, e = .returned v ∧ w'.ownsRow w.heap.size 61 2 v 0 [] ∧ Below w.heap.size w w' := by
  obtain ⟨i0, hi0, hz0, hz1, hz2⟩ := info_parts mark_info
  refine (Go.Proofs.Any8.slices_Grow_grow growM i0 (.agg #[.int .i64 0, .int .i64 0]) hi0 hz0 (by omega) none 0 0 n [] w (Nat.le_refl _) (by omega) (by rw [hz2]; omega) (by omega) (by simp) (fun _ => rfl) (fun a h => by cases h)).mono ?_
  rintro e w' ⟨rfl, rfl⟩
  refine ⟨_, rfl, ?_, (by repeat (first | with_reducible exact Below.refl _ _ | with_reducible assumption | refine below_drewN ?_ _ | with_reducible refine Below.drew ?_ | (refine Below.setCell ?_ (by first | (simp; done) | (simp; omega) | omega) _) | (refine Below.alloc ?_ (by first | (simp; done) | (simp; omega) | omega) _)))⟩
  have hg := grownCap_ge w (0 + n) 0 61
  have hm := grownCap_le_maxLen w (0 + n) 0 61 (by unfold maxLen; omega)
  refine World.ownsRow_made w.drew _ _ (Nat.le_refl _) hm ?_
  simp only [Array.size_append, size_zeroCells]
  show 0 + (0 + n - 0) * 2 + (grownCap w (0 + n) 0 61 - (0 + n)) * 2 = grownCap w (0 + n) 0 61 * 2
  omega

section
variable {ops : Array Oper} {rest : List Oper} {o : Oper} {a : Act} {Q : Exit → Act → World → Prop}
/-- Appending the marks of a slice to the call's own marks. -/
theorem wp_app_marks (w : World) (hgd : o.guard = none) (s x : Operand)
    (ho : o.op = .call { callee := .builtin .append, args := #[s, x], argTypes := #[34, 34] })
    (base : Nat) (v : Value) (n : Nat) (xs ys : List (Int × Int)) (A : Option Addr) (c : Nat) (hs : a.eval s = v) (hown : w.ownsRow base 61 2 v n (xs.flatMap mk2))
    (hx : a.eval x = .slice A ys.length c) (hy : Marks w A ys) (hy0 : 0 < ys.length) (hy1 : ys.length ≤ 1000) (hn : n ≤ 1000) (hbase : base ≤ w.heap.size)
    (h : ∀ v' w', w'.ownsRow base 61 2 v' (n + ys.length) ((xs ++ ys).flatMap mk2) → Below base w w' → wpList Try.prog ops Q rest (a.put o.dst v') w') :
    wpList Try.prog ops Q (o :: rest) a w := by
  obtain ⟨i0, hi0, hz0, hz1, hz2⟩ := info_parts mark_info
  obtain ⟨ad, rfl, hb, hall⟩ := hy.2 hy0
  refine wpList_append_own _ hgd s x 34 ho base 61 i0 (.agg #[.int .i64 0, .int .i64 0]) 2 16 Try.underlying34 hi0 hz0 hz1 hz2 rfl (by decide) v n _ hs hown ad ys.length c (ys.flatMap mk2) hx (flat_len ys) hall ?_ (by unfold maxLen; omega) (by omega) hbase ?_
  · intro u hu
    simp only [List.mem_flatMap] at hu
    obtain ⟨m, _, hm⟩ := hu
    simp [mk2] at hm
    rcases hm with rfl | rfl <;> rfl
  · intro v' w' ho' hg _
    refine h v' w' (by rw [List.flatMap_append]; exact ho') ((Below.refl base w).grown hg hbase ?_)
    intro k hk
    exact (hown.lt k hk).1
end
theorem own_type {w : World} {base : Nat} {t : TypeId} {sz n : Nat} {v : Value} {xs : List Value} (h : w.ownsRow base t sz v n xs) : ∀ A l c, v = .slice A l c → ∀ x, A = some x → ∃ cur, w.heap[x.block]? = some (.cells cur t (0, 0)) := by
  intro A l c hv x hx
  subst hv hx
  rcases h.2 with ⟨h0, _⟩ | ⟨g, cap, cur, h1, _, h3, _⟩
  · cases h0
  · cases h1; exact ⟨cur, h3⟩

set_option maxRecDepth 100000 in
set_option maxHeartbeats 800000 in
theorem concat_any (xs ys : List (Int × Int)) (A B : Option Addr) (c d b : Nat) (w : World) (hA : Marks w A xs) (hB : Marks w B ys) (hx0 : 0 < xs.length) (hx1 : xs.length ≤ 100) (hy0 : 0 < ys.length) (hy1 : ys.length ≤ 100)
    (hb : b < w.heap.size) (hc0 : w.cell? ⟨b, 0, none⟩ = some (.slice A xs.length c)) (hc1 : w.cell? ⟨b, 1, none⟩ = some (.slice B ys.length d)) :
    Calls Try.prog 83 #[.slice (some ⟨b, 0, none⟩) 2 2] w fun e w' => ∃ (A' : Option Addr) (c' : Nat) (zs : List (Int × Int)),
      e = .returned (.slice A' zs.length c') ∧ Clk w' A' c' zs ∧ Below w.heap.size w w' ∧ Hid (zs = xs ++ ys) ∧ ∀ x, A' = some x → ∃ cur, w'.heap[x.block]? = some (.cells cur 61 (0, 0)) := by
  have HA := Lib.hid hA
  have HB := Lib.hid hB
  obtain ⟨n, hn⟩ : ∃ n, n = xs.length := ⟨_, rfl⟩
  obtain ⟨m, hm⟩ : ∃ m, m = ys.length := ⟨_, rfl⟩
  obtain ⟨N, hN⟩ : ∃ N, N = n + m := ⟨_, rfl⟩
  have hn0 : 0 < n := by omega
  have hm0 : 0 < m := by omega
  have hn1 : n ≤ 100 := by omega
  have hm1 : m ≤ 100 := by omega
  rw [← hn] at hc0
  rw [← hm] at hc1
  have HN := Lib.hid hn
  have HM := Lib.hid hm
  clear hn hm hA hB hx0 hx1 hy0 hy1
  have HNI : Hid ((N : Int) = (n : Int) + (m : Int)) := by show _ = _; omega
  have hN1 : N ≤ 200 := by omega
  have hN0 : 0 < N := by omega
  have HNN := Lib.hid hN
  clear hN
  go_enter Try.func83, Try.ntmps83
  go_wp2
  go_loopw [3, 11] (fun v i wr => w = wr ∧ ((i = .int .i64 0 ∧ v = .int .i64 0) ∨ (i = .int .i64 1 ∧ v = .int .i64 n) ∨ (i = .int .i64 2 ∧ v = .int .i64 N))) (fun _ i _ => 2 - (intOf i).toNat)
  case atStart => exact ⟨rfl, .inl ⟨rfl, rfl⟩⟩
  case round =>
    obtain ⟨rfl, ⟨rfl, rfl⟩ | ⟨rfl, rfl⟩ | ⟨rfl, rfl⟩⟩ := hrel
    · go_wp2
      go_roundw
      case rel => exact ⟨by first | rfl | trivial, .inr (.inl ⟨rfl, by simp⟩)⟩
      case measure => simp [intOf]
    · go_wp2
      go_roundw
      case rel => exact ⟨by first | rfl | trivial, .inr (.inr ⟨rfl, by rw [HNI.out]⟩)⟩
      case measure => simp [intOf]
    · go_wp2_with (go_at_call 85; refine (grow_marks N _ (by omega) (by omega)).mono ?_; rintro e w1 ⟨v, rfl, hown, hB1⟩)
      have hz1 := hB1.size
      go_loopw [6, 27] (fun v i wr => Below w.heap.size w wr ∧ ((i = .int .i64 0 ∧ wr.ownsRow w.heap.size 61 2 v 0 (([] : List (Int × Int)).flatMap mk2)) ∨ (i = .int .i64 1 ∧ wr.ownsRow w.heap.size 61 2 v xs.length (xs.flatMap mk2)) ∨ (i = .int .i64 2 ∧ wr.ownsRow w.heap.size 61 2 v (xs.length + ys.length) ((xs ++ ys).flatMap mk2)))) (fun _ i _ => 2 - (intOf i).toNat)
      case atStart => exact ⟨hB1, .inl ⟨rfl, hown⟩⟩
      case round =>
        clear hown hB1 hz1
        obtain ⟨hBw, ⟨rfl, hown⟩ | ⟨rfl, hown⟩ | ⟨rfl, hown⟩⟩ := hrel
        · have g0 := (hBw.cell (p := ⟨b, 0, none⟩) hb).trans hc0
          clear hc0 hc1
          have hz := hBw.size
          have e1 : xs.length ≤ 100 := by have := HN.out; omega
          have e0 : 0 < xs.length := by have := HN.out; omega
          go_wp2_with (at_builtin; refine wp_app_marks _ rfl (.tmp 31) (.tmp 32) rfl w.heap.size _ 0 [] xs A c rfl hown (by rw [← HN.out]; rfl) (HA.out.below hBw) e0 (by omega) (by omega) hz ?_; intro v2 w2 hown2 hB2)
          go_roundw
          case rel => exact ⟨hBw.trans hB2, .inr (.inl ⟨rfl, by simpa using hown2⟩)⟩
          case measure => simp [intOf]
        · have g1 := (hBw.cell (p := ⟨b, 1, none⟩) hb).trans hc1
          clear hc0 hc1
          have hz := hBw.size
          have e1 : ys.length ≤ 100 := by have := HM.out; omega
          have e0 : 0 < ys.length := by have := HM.out; omega
          have e2 : xs.length ≤ 100 := by have := HN.out; omega
          go_wp2_with (at_builtin; refine wp_app_marks _ rfl (.tmp 31) (.tmp 32) rfl w.heap.size _ xs.length xs ys B d rfl hown (by rw [← HM.out]; rfl) (HB.out.below hBw) e0 (by omega) (by omega) hz ?_; intro v2 w2 hown2 hB2)
          go_roundw
          case rel => exact ⟨hBw.trans hB2, .inr (.inr ⟨rfl, hown2⟩)⟩
          case measure => simp [intOf]
        · go_wp2
          go_ret
          have hty := own_type hown
          obtain ⟨A', c', rfl, hI⟩ := own_marks hown
          exact ⟨A', c', xs ++ ys, rfl, hI, hBw, rfl, hty _ _ _ rfl⟩
end Go.Proofs.Ytjghlfagdleglaa
