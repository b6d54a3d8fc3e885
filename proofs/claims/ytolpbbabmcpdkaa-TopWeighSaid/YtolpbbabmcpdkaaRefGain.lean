/-
  Contracts: of, first, gain (firnref07).
-/
import Derived.Test.YtolpbbabmcpdkaaPrice1
import Derived.Test.YtolpbbabmcpdkaaNoise
import Derived.Test.YtolpbbabmcpdkaaBitsI
set_option linter.unusedVariables false
set_option linter.unusedSimpArgs false
namespace Go.Proofs.Ytolpbbabmcpdkaa
open Go.RowKit Go.Shelf

theorem kept_small {ns ss : List Int} (ho : Od ns ss) {cs : List Int} (h : cutB ns.length cs = true) : (0 ≤ keptL ns cs ∧ keptL ns cs ≤ 10000) ∧ 0 ≤ keptL ss cs ∧ keptL ss cs ≤ 10000 := by
  have k := ho.kb h
  have := ho.nm
  have := ho.sm
  omega
theorem tg_eq (ns ss : List Int) (p q : Int) (cs : List Int) : tgV ns ss p q cs = keptL ss cs * ns.sum * q - keptL ns cs * ss.sum * p := by
  induction cs with
  | nil => simp [tgV, keptL]
  | cons a t ih =>
    have e1 : tgV ns ss p q (a :: t) = gnV ns ss p q a.toNat + tgV ns ss p q t := by simp [tgV]
    have e2 : keptL ss (a :: t) = ss.getD a.toNat 0 + keptL ss t := by simp [keptL]
    have e3 : keptL ns (a :: t) = ns.getD a.toNat 0 + keptL ns t := by simp [keptL]
    rw [e1, e2, e3, ih]
    unfold gnV
    grind

set_option maxRecDepth 100000 in
set_option maxHeartbeats 1000000 in
theorem refgain_any (ns ss : List Int) (A B : Option Addr) (c d : Nat) (ho : Od ns ss) (p q : Int) (hp : 1 ≤ q ∧ q ≤ 10000000 ∧ 0 ≤ p ∧ p ≤ 1000000000) (cs : List Int) (C : Option Addr) (e1 : Nat) (w : World) (hA : Ints w A ns) (hB : Ints w B ss) (hC : Ints w C cs) (hq : cutB ns.length cs = true) :
    Calls Try.prog 86 #[.agg #[.slice A ns.length c, .slice B ss.length d], .slice C cs.length e1, .agg #[.int .i64 p, .int .i64 q]] w fun e w' => e = .returned (.int .i64 (tgV ns ss p q cs)) ∧ Below w.heap.size w w' := by
  have HT := Lib.hid (tg_eq ns ss p q cs)
  have hk := kept_small ho hq
  have hcl := cutB_len hq
  have hn2 := ho.le
  have hl3 : cs.length ≤ 1000 := by omega
  obtain ⟨hl1, hl2⟩ := ho.l3
  have HM1 : Hid (∀ a ∈ cs, 0 ≤ a ∧ a < ns.length) := Lib.hid (cutB_mem hq)
  have HM2 : Hid (∀ a ∈ cs, 0 ≤ a ∧ a < ss.length) := Lib.hid (by rw [← ho.len]; exact cutB_mem hq)
  obtain ⟨W0, hW0, HW, H0, H1, z0, z1⟩ := two_new w #[.slice A ns.length c, .slice B ss.length d] #[.int .i64 p, .int .i64 q] 24 28
  have hn0 := ho.np
  have hn1 := ho.nm
  have hs0 := ho.sp
  have hs1 := ho.sm
  have HK1 : Hid (∀ j : Nat, Calls Try.prog 69 #[.slice A ns.length c, .slice C cs.length e1] (W0.drewN j) fun e w' => e = .returned (.int .i64 (keptL ns cs)) ∧ w' = W0.drewN j) := Lib.hid (fun j => (refkept_any ns cs A C c e1 _ (hA.below (below_drewN HW.out j)) (hC.below (below_drewN HW.out j)) hl3 ho.nb9 HM1.out).mono fun e w' h => ⟨h.1, h.2.symm⟩)
  have HK2 : Hid (∀ j : Nat, Calls Try.prog 69 #[.slice B ss.length d, .slice C cs.length e1] (W0.drewN j) fun e w' => e = .returned (.int .i64 (keptL ss cs)) ∧ w' = W0.drewN j) := Lib.hid (fun j => (refkept_any ss cs B C d e1 _ (hB.below (below_drewN HW.out j)) (hC.below (below_drewN HW.out j)) hl3 ho.sb9 HM2.out).mono fun e w' h => ⟨h.1, h.2.symm⟩)
  have HT1 : Hid (∀ j : Nat, Calls Try.prog 58 #[.slice A ns.length c] (W0.drewN j) fun e w' => e = .returned (.int .i64 ns.sum) ∧ w' = W0.drewN j) := Lib.hid (fun j => (total_any ns A c _ (hA.below (below_drewN HW.out j)) hl1 ho.nb9).mono fun e w' h => ⟨h.1, h.2.symm⟩)
  have HT2 : Hid (∀ j : Nat, Calls Try.prog 58 #[.slice B ss.length d] (W0.drewN j) fun e w' => e = .returned (.int .i64 ss.sum) ∧ w' = W0.drewN j) := Lib.hid (fun j => (total_any ss B d _ (hB.below (below_drewN HW.out j)) hl2 ho.sb9).mono fun e w' h => ⟨h.1, h.2.symm⟩)
  generalize keptL ns cs = x at *
  generalize keptL ss cs = y at *
  obtain ⟨m0, m1⟩ := mul_bd (a := y) (b := ns.sum) (A := 10000) (B := 10000) hk.2.1 hk.2.2 (by omega) hn1
  obtain ⟨m2, m3⟩ := mul_bd (a := y * ns.sum) (b := q) (A := 100000000) (B := 10000000) m0 (by omega) (by omega) (by omega)
  obtain ⟨m4, m5⟩ := mul_bd (a := x) (b := ss.sum) (A := 10000) (B := 10000) hk.1.1 hk.1.2 (by omega) hs1
  obtain ⟨m6, m7⟩ := mul_bd (a := x * ss.sum) (b := p) (A := 100000000) (B := 1000000000) m4 (by omega) (by omega) (by omega)
  have b0 : World.cell? _ ⟨_, 0, none⟩ = some (.slice A ns.length c) := blk_cell H0.out 0 rfl
  have b1 : World.cell? _ ⟨_, 1, none⟩ = some (.slice B ss.length d) := blk_cell H0.out 1 rfl
  have r0 : World.cell? _ ⟨_, 0, none⟩ = some (.int .i64 p) := blk_cell H1.out 0 rfl
  have r1 : World.cell? _ ⟨_, 1, none⟩ = some (.int .i64 q) := blk_cell H1.out 1 rfl
  clear hA hB hC hq hk hcl
  go_enter Try.func86, Try.ntmps86
  go_wp2
  rw [← hW0]
  clear hW0
  go_quiet ((first | (go_at_call 69; with_reducible exact Calls.quiet_of_same (HK1.out _)) | (go_at_call 69; with_reducible exact Calls.quiet_of_same (HK2.out _)) | (go_at_call 58; with_reducible exact Calls.quiet_of_same (HT1.out _)) | (go_at_call 58; with_reducible exact Calls.quiet_of_same (HT2.out _))))
  go_wp2
  go_ret
  exact ⟨ret_int HT.out.symm, (by repeat (first | with_reducible exact HW.out | with_reducible exact Below.refl _ _ | with_reducible refine below_drewN ?_ _ | with_reducible refine Below.drew ?_ | (with_reducible refine Below.setCell ?_ (by first | exact Nat.le_refl _ | exact Nat.le_succ _ | (simp; done) | (simp; omega) | omega) _) | (with_reducible refine Below.alloc ?_ (by first | exact HW.out.size | (simp; done) | (simp; omega) | omega) _)))⟩

/-- The cut of a set, a bit for each outcome. -/
def ofS (n : Nat) (s : Nat) : List Int := ofM n s.testBit
set_option maxRecDepth 100000 in
set_option maxHeartbeats 1000000 in
theorem of_any (ns ss : List Int) (A B : Option Addr) (c d : Nat) (s : Nat) (w : World) (hn : ns.length ≤ 40) (hs : s < 2 ^ 63) :
    Calls Try.prog 80 #[.agg #[.slice A ns.length c, .slice B ss.length d], .int .i64 s] w fun e w' => ∃ (A' : Option Addr) (c' : Nat) (ys : List Int), e = .returned (.slice A' ys.length c') ∧ Out w' A' c' ys ∧ Below w.heap.size w w' ∧ Hid (ys = ofS ns.length s) := by
  have HS := Lib.hid hs
  clear hs
  obtain ⟨W0, hW0, HW, H0, z0⟩ := one_new w #[.slice A ns.length c, .slice B ss.length d] 24
  have b0 : World.cell? _ ⟨_, 0, none⟩ = some (.slice A ns.length c) := blk_cell H0.out 0 rfl
  have hz0 : w.heap.size + 1 ≤ W0.heap.size := z0
  go_enter Try.func80, Try.ntmps80
  go_wp2
  rw [← hW0]
  clear hW0
  go_loopw [5, 10] (fun v i wr => ∃ k : Nat, k ≤ ns.length ∧ i = .int .i64 k ∧ (∃ ys : List Int, wr.ownsRow (w.heap.size + 1) 3 1 v ys.length (ys.map (Value.int .i64)) ∧ ys.length ≤ k ∧ Hid (ys = ofM k s.testBit)) ∧ Below (w.heap.size + 1) W0 wr) (fun _ i _ => ns.length - (intOf i).toNat)
  case atStart => exact ⟨0, Nat.zero_le _, rfl, ⟨[], World.ownsRow_nil _ _ _ _, Nat.le_refl _, rfl⟩, Below.refl _ _⟩
  case round =>
    obtain ⟨k, hk, rfl, ⟨ys, hown, hyk, hys⟩, hB⟩ := hrel
    have hz : w.heap.size + 1 ≤ wr.heap.size := Nat.le_trans hz0 hB.size
    by_cases hlt : k < ns.length
    · have hb := shr_bit s k HS.out
      have HFT := Lib.hid (ofM_succ k s.testBit)
      cases hin : s.testBit k with
      | false =>
        have HI := Lib.hid hin
        rw [hin] at hb
        clear hin
        simp only [Bool.false_eq_true, if_false] at hb
        go_wp2
        go_roundw
        case rel => exact ⟨k + 1, by omega, by go_num, ⟨ys, hown, by omega, (by rw [HFT.out, HI.out, hys.out]; simp : ys = _)⟩, hB⟩
        case measure => simp [intOf]; omega
      | true =>
        have HI := Lib.hid hin
        rw [hin] at hb
        clear hin
        simp only [if_true] at hb
        go_wp2_with (at_builtin; refine wp_app_int wr rfl (.tmp 18) (.tmp 20) rfl (w.heap.size + 1) _ ys.length ys _ rfl hown rfl (by omega) hz ?_; intro v2 w2 hown2 hB2)
        go_roundw
        case rel => exact ⟨k + 1, by omega, by go_num, ⟨ys ++ [(k : Int)], by rw [List.length_append]; exact hown2, by simp; omega, (by rw [HFT.out, HI.out, hys.out]; rfl : ys ++ [(k : Int)] = _)⟩, hB.trans hB2⟩
        case measure => simp [intOf]; omega
    · obtain rfl : k = ns.length := by omega
      obtain ⟨A', c', rfl, hI⟩ := own_ints hown
      go_wp2
      go_ret
      exact ⟨A', c', ys, rfl, hI, HW.out.trans (hB.mono (Nat.le_succ _)), hys⟩

def lexB : List Int → List Int → Bool
  | a :: s, b :: t => if a = b then lexB s t else decide (a < b)
  | _, _ => false
/-- A cut has fewer outcomes, or as many and comes first. -/
def firstB (xs ys : List Int) : Bool := if xs.length = ys.length then lexB xs ys else decide (xs.length < ys.length)
set_option maxRecDepth 100000 in
set_option maxHeartbeats 1000000 in
theorem first_any (xs ys : List Int) (A B : Option Addr) (c d : Nat) (w : World) (hA : Ints w A xs) (hB : Ints w B ys) (hl : xs.length ≤ 1000) (hl2 : ys.length ≤ 1000) :
    Calls Try.prog 81 #[.slice A xs.length c, .slice B ys.length d] w fun e w' => e = .returned (.bool (firstB xs ys)) ∧ ∃ n, w' = w.drewN n := by
  have HA := Lib.hid hA
  have HB := Lib.hid hB
  clear hA hB
  by_cases hlen : xs.length = ys.length
  · have HR : Hid (firstB xs ys = lexB xs ys) := Lib.hid (if_pos hlen)
    have HL := Lib.hid hlen
    have hn : (((xs.length : Int) != (ys.length : Int)) = false) := by rw [hlen]; simp
    have hle : xs.length ≤ ys.length := by omega
    clear hlen
    go_enter Try.func81, Try.ntmps81
    go_wp2
    go_loopw [18] (fun i wr => ∃ k m : Nat, k ≤ xs.length ∧ i = .int .i64 k ∧ wr = w.drewN m ∧ Hid (lexB xs ys = lexB (xs.drop k) (ys.drop k))) (fun i _ => xs.length - (intOf i).toNat)
    case atStart => exact ⟨0, 0, Nat.zero_le _, rfl, rfl, rfl⟩
    case round =>
      obtain ⟨k, m, hk, rfl, rfl, ht⟩ := hrel
      by_cases hlt : k < xs.length
      · obtain ⟨ad, x, rfl, _, hx, c1⟩ := HA.out.get hlt
        obtain ⟨ad2, y, rfl, _, hy, c2⟩ := HB.out.get (show k < ys.length by omega)
        have hlt2 : k < ys.length := by omega
        have HD : Hid (lexB (xs.drop k) (ys.drop k) = if x = y then lexB (xs.drop (k + 1)) (ys.drop (k + 1)) else decide (x < y)) := Lib.hid (by rw [drop_at hx.out, drop_at hy.out]; rfl)
        by_cases h1 : x = y
        · subst h1
          have HE : Hid (lexB xs ys = lexB (xs.drop (k + 1)) (ys.drop (k + 1))) := Lib.hid (by rw [ht.out, HD.out, if_pos rfl])
          go_wp2
          go_quiet (fail)
          go_wp2
          go_roundw
          case rel => exact ⟨k + 1, _, by omega, by go_num, (by first | rfl | exact World.drewN_drewN _ _ _), HE.out⟩
          case measure => simp [intOf]; omega
        · have t2 : (x != y) = true := by simpa using h1
          have t1 : (x == y) = false := by simpa using h1
          have HE : Hid (firstB xs ys = decide (x < y)) := Lib.hid (by rw [HR.out, ht.out, HD.out, if_neg h1])
          clear h1
          go_wp2
          go_quiet (fail)
          go_wp2
          go_quiet (fail)
          go_wp2
          go_ret
          exact ⟨ret_bool HE.out.symm, _, (by first | rfl | exact World.drewN_drewN _ _ _ | (rw [World.drewN_drewN]; exact World.drewN_drewN _ _ _))⟩
      · have HE : Hid (firstB xs ys = false) := Lib.hid (by
          have e : xs.drop k = [] := List.drop_of_length_le (by omega)
          rw [HR.out, ht.out, e]; rfl)
        go_wp2
        go_ret
        exact ⟨ret_bool HE.out.symm, _, rfl⟩
  · have hn : (((xs.length : Int) != (ys.length : Int)) = true) := by simp; omega
    have HR : Hid (firstB xs ys = decide (xs.length < ys.length)) := Lib.hid (if_neg hlen)
    clear hlen
    go_enter Try.func81, Try.ntmps81
    go_wp2
    go_ret
    exact ⟨ret_bool HR.out.symm, 0, rfl⟩
end Go.Proofs.Ytolpbbabmcpdkaa
