/-
  Contracts: Inverse, Moved (tick).
-/
import Derived.Test.YtjghlfagdleglaaLineAt
namespace Go.Proofs.Ytjghlfagdleglaa
open Go.RowKit

theorem mark_info : (Try.prog.info? 61).map (fun i => (i.zero, i.size, i.bytes)) = some (some (.agg #[.int .i64 0, .int .i64 0]), 2, 16) := by kernel_rfl
section
variable {ops : Array Oper} {rest : List Oper} {o : Oper} {a : Act} {Q : Exit → Act → World → Prop}
theorem wp_app_mark (w : World) (hgd : o.guard = none) (s x : Operand)
    (ho : o.op = .call { callee := .builtin .append, args := #[s, x], argTypes := #[34, 34] })
    (base : Nat) (v : Value) (n : Nat) (xs : List (Int × Int)) (y z : Int) (hs : a.eval s = v) (hown : w.ownsRow base 61 2 v n (xs.flatMap mk2))
    (hx : a.eval x = .slice (some ⟨w.heap.size, 0, none⟩) 1 1) (hn : n ≤ 1000000) (hbase : base ≤ w.heap.size)
    (h : ∀ v' w', w'.ownsRow base 61 2 v' (n + 1) ((xs ++ [(y, z)]).flatMap mk2) → Below base w w' → wpList Try.prog ops Q rest (a.put o.dst v') w') :
    wpList Try.prog ops Q (o :: rest) a (w.alloc (.cells #[.int .i64 y, .int .i64 z] 61)) := by
  obtain ⟨i0, hi0, hz0, hz1, hz2⟩ := info_parts mark_info
  refine wp_app w hgd s x 34 ho base 61 i0 (.agg #[.int .i64 0, .int .i64 0]) 2 16 Try.underlying34 hi0 hz0 hz1 hz2 rfl (by decide) (by decide) v n _ [.int .i64 y, .int .i64 z] hs hown hx rfl ?_ hn hbase ?_
  · intro u hu; simp at hu; rcases hu with rfl | rfl <;> rfl
  · intro v' w' h1 h2
    exact h v' w' (by rw [List.flatMap_append]; exact h1) h2
end
theorem own_marks {w : World} {base n : Nat} {v : Value} {xs : List (Int × Int)} (h : w.ownsRow base 61 2 v n (xs.flatMap mk2)) :
    ∃ A c, v = .slice A xs.length c ∧ Clk w A c xs := by
  have hl : xs.length = n := by have := h.1; rw [flat_len] at this; omega
  subst hl
  rcases h.2 with ⟨rfl, h0⟩ | ⟨g, cap, cur, rfl, _, _, h1, h2, _⟩
  · have : xs = [] := List.eq_nil_of_length_eq_zero h0
    subst this
    exact ⟨none, 0, rfl, Clk.nil_⟩
  · exact ⟨_, cap, rfl, Reads.of_own h, h1, h2⟩

def swapM (m : Int × Int) : Int × Int := (m.2, m.1)
def inverseF (ms : List (Int × Int)) : List (Int × Int) := if vkB ms then ms.map swapM else []
def clkE (ms : List (Int × Int)) : Int := if vkB ms then 0 else 11
theorem map_take_succM {ms : List (Int × Int)} {k : Nat} {m : Int × Int} (f : Int × Int → Int × Int) (h : ms[k]? = some m) : (ms.take (k + 1)).map f = (ms.take k).map f ++ [f m] := by
  rw [take_snoc h]; simp

set_option maxRecDepth 100000 in
set_option maxHeartbeats 800000 in
theorem inverse_any (ms : List (Int × Int)) (A : Option Addr) (c : Nat) (w : World) (h : Clk w A c ms) :
    Calls Try.prog 43 #[.slice A ms.length c] w fun e w' => ∃ (A' : Option Addr) (c' : Nat) (ys : List (Int × Int)) (E : Int),
      e = .returned (.tuple #[.slice A' ys.length c', .int .i64 E]) ∧ Clk w' A' c' ys ∧ Below w.heap.size w w' ∧ Hid (ys = inverseF ms ∧ E = clkE ms) := by
  have H := Lib.hid h
  clear h
  by_cases hv : vkB ms = true
  · obtain ⟨hn2, hn30⟩ := vk_parts hv
    have HV := Lib.hid hv
    clear hv
    obtain ⟨bl, off, rfl, hbk, hcells⟩ := H.out.marks.open_ (by omega)
    have HC := Lib.hid hcells
    clear hcells
    obtain ⟨i0, hi0, hz0, hz1, hz2⟩ := info_parts mark_info
    have HZ2 := Lib.hid hz2
    clear hz2
    go_enter Try.func43, Try.ntmps43
    go_wp2_with (first
      | (go_at_call 32; refine (validClock_any _ _ _ _ H.out.marks H.out.len).mono ?_; rintro e w0 ⟨he, hB0⟩; rw [HV.out] at he; subst he; have hz0' := hB0.size)
      | (at_make; refine wpList_make_own _ rfl _ _ 34 rfl w.heap.size 61 i0 (.agg #[.int .i64 0, .int .i64 0]) 2 Try.underlying34 hi0 hz0 hz1 _ _ _ ms.length rfl rfl rfl (by rw [HZ2.out]; omega) (by unfold maxLen; omega) hB0.size ?_; intro w1 hown1 hg1))
    have hB1 : Below w.heap.size w w1 := hB0.grown hg1 hB0.size (by simp)
    clear hg1 HZ2 hz0 hz1 hi0 hB0 hz0'
    go_loopw [4, 15] (fun v i wr => ∃ k : Nat, k ≤ ms.length ∧ i = .int .i64 k ∧ wr.ownsRow w.heap.size 61 2 v k (((ms.take k).map swapM).flatMap mk2) ∧ Below w.heap.size w wr) (fun _ i _ => ms.length - (intOf i).toNat)
    case atStart => exact ⟨0, Nat.zero_le _, rfl, hown1, hB1⟩
    case round =>
      clear hown1 hB1
      obtain ⟨k, hk, rfl, hown, hB⟩ := hrel
      by_cases hlt : k < ms.length
      · obtain ⟨a, b, hx⟩ := getM_of_lt hlt
        have f0 := (hB.cell (p := ⟨bl, off + k * 2, none⟩) hbk).trans (HC.out _ _ hx).1
        have f1 := (hB.cell (p := ⟨bl, off + k * 2 + 1, none⟩) hbk).trans (HC.out _ _ hx).2
        have HX := Lib.hid hx
        clear hx
        have hz := hB.size
        go_wp2_with (first
          | (go_at_call 75; refine (exchanged_any _ _ _).mono ?_; rintro e w3 ⟨rfl, hB3⟩; have hown3 := (hown.alloc (.cells #[.int .i64 a, .int .i64 b] 61)).kept (World.grownBy.mk hB3.os hB3.tape hB3.output hB3.size (fun i hi _ => hB3.block i hi) : World.grownBy _ w3 none) (by cases hh : Value.ownBlock u4 with | none => exact .inl rfl | some g => exact .inr (by simp)); have hW3 : Below w.heap.size w w3 := Below.trans (by repeat (first | with_reducible exact Below.refl _ _ | with_reducible assumption | refine below_drewN ?_ _ | with_reducible refine Below.drew ?_ | (refine Below.setCell ?_ (by first | (simp; done) | (simp; omega) | omega) _) | (refine Below.alloc ?_ (by first | (simp; done) | (simp; omega) | omega) _))) (hB3.mono (by first | (simp; done) | (simp; omega) | omega)))
          | (at_builtin; refine wp_app_mark _ rfl (.tmp 19) (.tmp 22) rfl w.heap.size _ k _ _ _ rfl hown3 rfl (by omega) hW3.size ?_; intro v2 w2 hown2 hB2))
        go_roundw
        case rel => exact ⟨k + 1, by omega, by go_num, by rw [map_take_succM swapM HX.out]; exact hown2, hW3.trans hB2⟩
        case measure => simp [intOf]; omega
      · obtain rfl : k = ms.length := by omega
        go_wp2
        go_ret2
        obtain ⟨A', c', rfl, hI⟩ := own_marks hown
        exact ⟨A', c', _, _, rfl, hI, hB, by simp [inverseF, HV.out], by simp [clkE, HV.out]⟩
  · have hv2 : vkB ms = false := by simpa using hv
    go_enter Try.func43, Try.ntmps43
    go_wp2_with (go_at_call 32; refine (validClock_any _ _ _ _ H.out.marks H.out.len).mono ?_; rintro e w1 ⟨he, hB1⟩; rw [hv2] at he; subst he)
    go_ret2
    exact ⟨none, 0, [], _, rfl, Clk.nil_, hB1, by simp [inverseF, hv2], by simp [clkE, hv2]⟩
end Go.Proofs.Ytjghlfagdleglaa
