/-
  Contract: told (tick), for the speeds of a clock's lines.
-/
import Derived.Test.YtjghlfagdleglaaLess
import Derived.Test.YtjghlfagdleglaaInv
namespace Go.Proofs.Ytjghlfagdleglaa
open Go.RowKit

theorem ratio_info : (Try.prog.info? 36).map (fun i => (i.zero, i.size, i.bytes)) = some (some (.agg #[.int .i64 0, .int .i64 0]), 2, 16) := by kernel_rfl
section
variable {ops : Array Oper} {rest : List Oper} {o : Oper} {a : Act} {Q : Exit → Act → World → Prop}
theorem wp_app_ratio (w : World) (hgd : o.guard = none) (s x : Operand)
    (ho : o.op = .call { callee := .builtin .append, args := #[s, x], argTypes := #[81, 81] })
    (base : Nat) (v : Value) (n : Nat) (xs : List (Int × Int)) (y z : Int) (hs : a.eval s = v) (hown : w.ownsRow base 36 2 v n (xs.flatMap mk2))
    (hx : a.eval x = .slice (some ⟨w.heap.size, 0, none⟩) 1 1) (hn : n ≤ 1000000) (hbase : base ≤ w.heap.size)
    (h : ∀ v' w', w'.ownsRow base 36 2 v' (n + 1) ((xs ++ [(y, z)]).flatMap mk2) → Below base w w' → wpList Try.prog ops Q rest (a.put o.dst v') w') :
    wpList Try.prog ops Q (o :: rest) a (w.alloc (.cells #[.int .i64 y, .int .i64 z] 36)) := by
  obtain ⟨i0, hi0, hz0, hz1, hz2⟩ := info_parts ratio_info
  refine wp_app w hgd s x 81 ho base 36 i0 (.agg #[.int .i64 0, .int .i64 0]) 2 16 Try.underlying81 hi0 hz0 hz1 hz2 rfl (by decide) (by decide) v n _ [.int .i64 y, .int .i64 z] hs hown hx rfl ?_ hn hbase ?_
  · intro u hu; simp at hu; rcases hu with rfl | rfl <;> rfl
  · intro v' w' h1 h2
    exact h v' w' (by rw [List.flatMap_append]; exact h1) h2
end
theorem own_ratios {w : World} {base n : Nat} {v : Value} {xs : List (Int × Int)} (h : w.ownsRow base 36 2 v n (xs.flatMap mk2)) :
    ∃ A c, v = .slice A xs.length c ∧ Clk w A c xs ∧ ∀ x, A = some x → base ≤ x.block := by
  have hl : xs.length = n := by have := h.1; rw [flat_len] at this; omega
  subst hl
  rcases h.2 with ⟨rfl, h0⟩ | ⟨g, cap, cur, rfl, q1, q2, h1, h2, q3⟩
  · have : xs = [] := List.eq_nil_of_length_eq_zero h0
    subst this
    exact ⟨none, 0, rfl, Clk.nil_, fun x h => by cases h⟩
  · exact ⟨_, cap, rfl, ⟨Reads.of_own h, h1, h2⟩, fun x hx => by cases hx; assumption⟩

def spds (ms : List (Int × Int)) (n : Nat) : List (Int × Int) := (List.range n).map (spdL ms)
theorem spds_len (ms : List (Int × Int)) (n : Nat) : (spds ms n).length = n := by simp [spds]
theorem spds_get {ms : List (Int × Int)} {n k : Nat} (h : k < n) : (spds ms n)[k]? = some (spdL ms k) := by
  simp [spds, List.getElem?_map, List.getElem?_range h]
theorem spds_succ (ms : List (Int × Int)) (k : Nat) : spds ms (k + 1) = spds ms k ++ [spdL ms k] := by
  simp [spds, List.range_succ]

set_option maxRecDepth 100000 in
set_option maxHeartbeats 800000 in
theorem told_any (ms : List (Int × Int)) (A : Option Addr) (c : Nat) (w : World) (h : Clk w A c ms) (hv : vkB ms = true) :
    Calls Try.prog 73 #[.slice A ms.length c, .func (Fn.func 70) #[] #[]] w fun e w' => ∃ (A' : Option Addr) (c' : Nat) (vs : List (Int × Int)),
      e = .returned (.slice A' vs.length c') ∧ Clk w' A' c' vs ∧ Below w.heap.size w w' ∧ Hid (vs = spds ms (ms.length - 1)) ∧ ∀ x, A' = some x → w.heap.size ≤ x.block := by
  obtain ⟨hn2, hn30⟩ := vk_parts hv
  have HV := Lib.hid hv
  have H := Lib.hid h
  clear hv h
  go_enter Try.func73, Try.ntmps73
  go_wp2_with fail
  refine (lines_any ms A c _ (H.out.below (by repeat (first | with_reducible exact Below.refl _ _ | with_reducible assumption | refine below_drewN ?_ _ | with_reducible refine Below.drew ?_ | (refine Below.setCell ?_ (by first | (simp; done) | (simp; omega) | omega) _) | (refine Below.alloc ?_ (by first | (simp; done) | (simp; omega) | omega) _)))) hn2 hn30).mono ?_
  rintro e w1 ⟨bl, off, c', qs, rfl, hQ, hB1, hcap, hqs⟩
  have hql : qs.length = ms.length - 1 := by rw [hqs.out, segs_len]
  obtain ⟨bl0, off0, e0, hbk, hcells⟩ := hQ.open_ (by omega)
  obtain ⟨rfl, rfl⟩ : bl = bl0 ∧ off = off0 := by simpa using e0
  have HQ : Hid (∀ (k : Nat) (x y : Int × Int), ms[k]? = some x → ms[k + 1]? = some y → (w1.cell? ⟨bl, off + k * 4, none⟩ = some (.int .i64 x.1) ∧ w1.cell? ⟨bl, off + k * 4 + 1, none⟩ = some (.int .i64 x.2) ∧ w1.cell? ⟨bl, off + k * 4 + 2, none⟩ = some (.int .i64 y.1) ∧ w1.cell? ⟨bl, off + k * 4 + 3, none⟩ = some (.int .i64 y.2))) := by
    intro k x y hx hy
    have hk := (List.getElem?_eq_some_iff.1 hy).1
    exact hcells k (x, y) (by rw [hqs.out]; exact segs_get (by omega) hx hy)
  generalize hnq : qs.length = nq at hql hcap ⊢
  clear hnq hcells hQ hqs e0 qs
  subst hql
  have hz1 := hB1.size
  go_wp2_with fail
  go_loopw [5, 11] (fun v i wr => ∃ k : Nat, k ≤ ms.length - 1 ∧ i = .int .i64 k ∧ wr.ownsRow w1.heap.size 36 2 v k ((spds ms k).flatMap mk2) ∧ Below w1.heap.size w1 wr) (fun _ i _ => ms.length - 1 - (intOf i).toNat)
  case atStart => exact ⟨0, Nat.zero_le _, rfl, World.ownsRow_nil _ _ _ _, Below.refl _ _⟩
  case round =>
    obtain ⟨k, hk, rfl, hown, hB⟩ := hrel
    by_cases hlt : k < ms.length - 1
    · obtain ⟨a, b, hx⟩ := getM_of_lt (show k < ms.length by omega)
      obtain ⟨p, q, hy⟩ := getM_of_lt (show k + 1 < ms.length by omega)
      obtain ⟨g0, g1, g2, g3⟩ := HQ.out k _ _ hx hy
      have f0 := (hB.cell (p := ⟨bl, off + k * 4, none⟩) hbk).trans g0
      have f1 := (hB.cell (p := ⟨bl, off + k * 4 + 1, none⟩) hbk).trans g1
      have f2 := (hB.cell (p := ⟨bl, off + k * 4 + 2, none⟩) hbk).trans g2
      have f3 := (hB.cell (p := ⟨bl, off + k * 4 + 3, none⟩) hbk).trans g3
      have b0 := vk_at HV.out hx
      have b1 := vk_at HV.out hy
      have bl' := vk_lt HV.out hx hy
      have HS : Hid ((lowN (q - b) (p - a), lowD (q - b) (p - a)) = spdL ms k) := by
        show _ = _
        rw [spdL, spN, spD, mA_of hx, mA_of hy]
      clear g0 g1 g2 g3 hx hy
      have hz := hB.size
      go_wp2_with (first
        | (go_at_call 70; refine (lineSpeed_any a b p q _ (by omega) (by omega) (by omega) (by omega) (by omega) (by omega)).mono ?_; rintro e w3 ⟨rfl, hB3⟩; have hown3 := (hown.alloc (.cells #[.int .i64 a, .int .i64 b, .int .i64 p, .int .i64 q] 70)).kept (World.grownBy.mk hB3.os hB3.tape hB3.output hB3.size (fun i hi _ => hB3.block i hi) : World.grownBy _ w3 none) (by cases hh : Value.ownBlock u5 with | none => exact .inl rfl | some g => exact .inr (by simp)); have hW3 : Below w1.heap.size w1 w3 := Below.trans (by repeat (first | with_reducible exact Below.refl _ _ | with_reducible assumption | refine below_drewN ?_ _ | with_reducible refine Below.drew ?_ | (refine Below.setCell ?_ (by first | (simp; done) | (simp; omega) | omega) _) | (refine Below.alloc ?_ (by first | (simp; done) | (simp; omega) | omega) _))) (hB3.mono (by first | (simp; done) | (simp; omega) | omega)))
        | (at_builtin; refine wp_app_ratio _ rfl (.tmp 15) (.tmp 19) rfl w1.heap.size _ k _ _ _ rfl hown3 rfl (by omega) hW3.size ?_; intro v2 w2 hown2 hB2))
      go_roundw
      case rel => exact ⟨k + 1, by omega, by go_num, by rw [spds_succ, ← HS.out]; exact hown2, hW3.trans hB2⟩
      case measure => simp [intOf]; omega
    · obtain rfl : k = ms.length - 1 := by omega
      go_wp2
      go_ret
      obtain ⟨A', c', rfl, hI, hN⟩ := own_ratios hown
      refine ⟨A', c', spds ms (ms.length - 1), by rw [spds_len]; rfl, hI, hB1.trans (hB.mono hz1), rfl, fun x hx => Nat.le_trans hz1 (hN x hx)⟩
end Go.Proofs.Ytjghlfagdleglaa
