/-
  The iterator over pairs of points (track.pairs): what it hands to a loop, for every loop body that leaves what lay there before the loop, but one block, and every block of one point.
-/
import Derived.RangeFuncBox
import Derived.RangeFuncLeaves
import Derived.Shelf.Abstract
import Derived.OwnWalkIn
import Derived.TacticsInMore
import Derived.LoopNIn
import Derived.LoopIn
import Derived.Test.YtoilbgngefleiaaPairsM
namespace Go.Proofs.Ytoilbgngefleiaa
open Go Go.RowKit Go.Shelf
attribute [local go_sem] Oper.semAt_some

/-- What has come when k rounds are over: el k names what the k-th round is handed. -/
def comeK {α : Type} (el : Nat → α) (k : Nat) : List α := (List.range k).map el
theorem comeK_succ {α : Type} (el : Nat → α) (k : Nat) : comeK el (k + 1) = comeK el k ++ [el k] := by simp [comeK, List.range_succ]
theorem comeK_length {α : Type} (el : Nat → α) (k : Nat) : (comeK el k).length = k := by simp [comeK]
def encP (x : (Int × Int) × (Int × Int)) : Array Value := #[.agg #[.int .i64 x.1.1, .int .i64 x.1.2], .agg #[.int .i64 x.2.1, .int .i64 x.2.2]]
def Named {α : Type} (encs : α → Array Value) (el : Nat → α) (L : List ((Int × Int) × (Int × Int))) : Prop := ∀ m x, L[m]? = some x → encs (el m) = encP x
/-- What was there before, but one block, and each block of one point is as it was. -/
structure KeepP (n₀ gb : Nat) (W W' : World) : Prop where
  size : W.heap.size ≤ W'.heap.size
  blk : ∀ k, k < n₀ → k ≠ gb → W'.heap[k]? = W.heap[k]?
  box : ∀ (k : Nat) (cs : Array Value), n₀ ≤ k → W.heap[k]? = some (.cells cs 54 (0, 0)) → W'.heap[k]? = some (.cells cs 54 (0, 0))
theorem KeepP.old {n₀ gb : Nat} {W W' : World} (h : KeepP n₀ gb W W') (p : Addr) (h1 : p.block < n₀) (h2 : p.block ≠ gb) : W'.cell? p = W.cell? p := World.cell?_of_block (h.blk p.block h1 h2)
theorem KeepP.refl (n₀ gb : Nat) (W : World) : KeepP n₀ gb W W := ⟨Nat.le_refl _, fun _ _ _ => rfl, fun _ _ _ h => h⟩
theorem KeepP.trans {n₀ gb : Nat} {A B C : World} (h : KeepP n₀ gb A B) (k : KeepP n₀ gb B C) : KeepP n₀ gb A C :=
  ⟨Nat.le_trans h.size k.size, fun p h1 h2 => (k.blk p h1 h2).trans (h.blk p h1 h2), fun i cs hi hc => k.box i cs hi (h.box i cs hi hc)⟩
theorem KeepP.of_below {n₀ gb : Nat} {A B : World} (h : Below A.heap.size A B) (hn : n₀ ≤ A.heap.size) : KeepP n₀ gb A B :=
  ⟨h.size, fun k h1 _ => h.block k (Nat.lt_of_lt_of_le h1 hn), fun i _ _ hc => (h.block i (Array.getElem?_eq_some_iff.1 hc).1).trans hc⟩
theorem pair_at {ms : List (Int × Int)} {k i : Nat} {a b : Int × Int} (hb : ms[k]? = some b) (ha : (ms.take k)[i]? = some a) (hne : a.1 ≠ b.1) :
    (pairsL ms ms.length)[(pairsL ms k ++ pairK b ((ms.take k).take i)).length]? = some (a, b) := by
  obtain ⟨R, hR⟩ := pairs_pre (i := i + 1) hb
  rw [pairK_yes ha hne] at hR
  rw [hR, ← List.append_assoc, ← List.append_assoc, List.append_assoc (pairsL ms k ++ _), List.getElem?_append_right (Nat.le_refl _)]
  simp
theorem pairs_lt {ms : List (Int × Int)} {k i : Nat} {a b : Int × Int} (hb : ms[k]? = some b) (ha : (ms.take k)[i]? = some a) (hne : a.1 ≠ b.1) :
    (pairsL ms k ++ pairK b ((ms.take k).take i)).length < (pairsL ms ms.length).length := (List.getElem?_eq_some_iff.1 (pair_at hb ha hne)).1

set_option maxRecDepth 100000 in
set_option maxHeartbeats 4000000 in
theorem pairs1_in {α : Type} (encs : α → Array Value) (el : Nat → α) (F : Fence) (n : Nat) (hF : F.fn 107) (hro : F.round = none) (hn : 1 ≤ n) (l Bs n₀ gb : Nat) (A : Option Addr) (c : Nat) (ms : List (Int × Int)) (hlen : ms.length ≤ 1000) (hcap : ms.length ≤ c) (_ : c ≤ maxLen) (hel : Named encs el (pairsL ms ms.length)) (J Jx : List α → World → Prop)
    (hJa : ∀ s W o, J s W → J s (W.alloc o))
    (hY : ∀ pre x W, J pre W → pre.length < (pairsL ms ms.length).length → YieldAt F (n - 1) Try.prog l (encs x) W fun e W' =>
      (e = .returned (.bool true) ∧ J (pre ++ [x]) W' ∧ KeepP n₀ gb W W') ∨ (e = .returned (.bool false) ∧ Jx (pre ++ [x]) W'))
    (W : World) (hnW : n₀ ≤ W.heap.size) (hBs : ∀ W', KeepP n₀ gb W W' → W'.cell? ⟨Bs, 0, none⟩ = some (.slice A ms.length c))
    (hA : 0 < ms.length → ∃ b o, A = some ⟨b, o, none⟩ ∧ ∀ W', KeepP n₀ gb W W' → ∀ (k : Nat) (m : Int × Int), ms[k]? = some m → W'.cell? ⟨b, o + k * 2, none⟩ = some (.int .i64 m.1) ∧ W'.cell? ⟨b, o + k * 2 + 1, none⟩ = some (.int .i64 m.2)) (h0 : J [] W) :
    CallsIn F n Try.prog 107 #[.func (.yield l) #[] #[], .pointer (some ⟨Bs, 0, none⟩)] W fun e W' => (∃ v, e = .returned v) ∧
      ((∃ ys, ys = comeK el (pairsL ms ms.length).length ∧ J ys W') ∨ (∃ pre, (∃ k, k ≤ (pairsL ms ms.length).length ∧ pre = comeK el k) ∧ Jx pre W')) := by
  refine callsIn_of_wp Try.func107 rfl hF ?_ hro
  simp only [Try.ntmps107, List.size_toArray, List.length_cons, List.length_nil, Nat.reduceAdd, Nat.reduceSub, Array.replicate_succ, Array.replicate_zero, List.push_toArray, List.append_toArray, List.nil_append, List.cons_append]
  have hB0 := hBs _ (KeepP.refl _ _ _)
  have HEL := Lib.hid hel
  have HA := Lib.hid hA
  have HY := Lib.hid hY
  have HBS := Lib.hid hBs
  have HJA := Lib.hid hJa
  clear hel hA hY hBs hJa
  gi_wp2
  gi_loopw [9] (fun i wr => ∃ k : Nat, k ≤ ms.length ∧ i = .int .i64 k ∧ Hid (J (comeK el (pairsL ms k).length) wr) ∧ Hid (KeepP n₀ gb W wr)) (fun i _ => ms.length - (intOf i).toNat)
  case atStart => exact ⟨0, Nat.zero_le _, rfl, Lib.hid h0, Lib.hid (KeepP.refl _ _ _)⟩
  case round =>
    clear hB0 h0
    obtain ⟨k, hk, rfl, HJ, HK⟩ := hrel
    rename World => wr
    by_cases hlt : k < ms.length
    · obtain ⟨b, o, rfl, hall⟩ := HA.out (by omega)
      obtain ⟨⟨x, y⟩, hb⟩ : ∃ m, ms[k]? = some m := ⟨_, List.getElem?_eq_getElem hlt⟩
      obtain ⟨f0, f1⟩ := hall wr HK.out k _ hb
      simp only at f0 f1
      have hB1 := HBS.out wr HK.out
      have hB1a : (wr.alloc (.cells #[.int .i64 x, .int .i64 y] 54)).cell? ⟨Bs, 0, none⟩ = some (.slice (some ⟨b, o, none⟩) ms.length c) := HBS.out _ (HK.out.trans (KeepP.of_below ((Below.refl _ _).alloc (Nat.le_refl _) _) (Nat.le_trans hnW HK.out.size)))
      have HALL := Lib.hid hall
      have HB := Lib.hid hb
      have HJ1 : Hid (J (comeK el (pairsL ms k ++ pairK (x, y) ((ms.take k).take 0)).length) (wr.alloc (.cells #[.int .i64 x, .int .i64 y] 54))) := Lib.hid (by
        have : pairK (x, y) ((ms.take k).take 0) = [] := rfl
        rw [this, List.append_nil]
        exact HJA.out _ _ _ HJ.out)
      have HK1 : Hid (KeepP n₀ gb W (wr.alloc (.cells #[.int .i64 x, .int .i64 y] 54))) := Lib.hid (HK.out.trans (KeepP.of_below ((Below.refl _ _).alloc (Nat.le_refl _) _) (Nat.le_trans hnW HK.out.size)))
      have HG1 : Hid ((wr.alloc (.cells #[.int .i64 x, .int .i64 y] 54)).heap[wr.heap.size]? = some (.cells #[.int .i64 x, .int .i64 y] 54 (0, 0))) := Lib.hid (heap_alloc_new _ _)
      have hgn : n₀ ≤ wr.heap.size := Nat.le_trans hnW HK.out.size
      clear hall hb
      gi_wp2
      gi_loopw [18] (fun s wi => ∃ i : Nat, i ≤ k ∧ s = .int .i64 i ∧ Hid (J (comeK el (pairsL ms k ++ pairK (x, y) ((ms.take k).take i)).length) wi) ∧ Hid (KeepP n₀ gb W wi) ∧ Hid (wi.heap[wr.heap.size]? = some (.cells #[.int .i64 x, .int .i64 y] 54 (0, 0)))) (fun s _ => k - (intOf s).toNat)
      case atStart => exact ⟨0, Nat.zero_le _, rfl, HJ1, HK1, HG1⟩
      case round =>
        clear HJ1 HK1 HG1 hB1 hB1a f0 f1
        obtain ⟨i, hi, rfl, HJi, HKi, HGi⟩ := hrel
        rename World => wi
        by_cases hik : i < k
        · obtain ⟨⟨p, q⟩, ha⟩ : ∃ m, ms[i]? = some m := ⟨_, List.getElem?_eq_getElem (by omega)⟩
          obtain ⟨f0, f1⟩ := HALL.out wi HKi.out i _ ha
          simp only at f0 f1
          have ha2 : (ms.take k)[i]? = some (p, q) := by rw [List.getElem?_take_of_lt hik]; exact ha
          have HA2 := Lib.hid ha2
          have hgl : wr.heap.size < wi.heap.size := (Array.getElem?_eq_some_iff.1 HGi.out).1
          obtain ⟨W1, hW1⟩ : ∃ W1, wi.alloc (.cells #[.int .i64 p, .int .i64 q] 54) = W1 := ⟨_, rfl⟩
          have HW1 := Lib.hid hW1
          have HBW : Hid (Below wi.heap.size wi W1) := Lib.hid (by rw [← hW1]; exact (Below.refl _ _).alloc (Nat.le_refl _) _)
          have hni : n₀ ≤ wi.heap.size := Nat.le_trans hnW HKi.out.size
          have HK1 : Hid (KeepP n₀ gb W W1) := Lib.hid (HKi.out.trans (KeepP.of_below HBW.out hni))
          have HJ1 : Hid (J (comeK el (pairsL ms k ++ pairK (x, y) ((ms.take k).take i)).length) W1) := Lib.hid (by rw [← hW1]; exact HJA.out _ _ _ HJi.out)
          have HG1 : Hid (W1.heap[wr.heap.size]? = some (.cells #[.int .i64 x, .int .i64 y] 54 (0, 0))) := Lib.hid ((HBW.out.block _ hgl).trans HGi.out)
          have e0 : W1.cell? ⟨wr.heap.size, 0, none⟩ = some (.int .i64 x) := by rw [cell_of_row W1 _ 0 _ _ (0, 0) HG1.out]; rfl
          have e1 : W1.cell? ⟨wr.heap.size, 1, none⟩ = some (.int .i64 y) := by rw [cell_of_row W1 _ 1 _ _ (0, 0) HG1.out]; rfl
          have hG6 : W1.heap[wi.heap.size]? = some (.cells #[.int .i64 p, .int .i64 q] 54 (0, 0)) := by rw [← hW1]; exact heap_alloc_new _ _
          have e2 : W1.cell? ⟨wi.heap.size, 0, none⟩ = some (.int .i64 p) := by rw [cell_of_row W1 _ 0 _ _ (0, 0) hG6]; rfl
          have e3 : W1.cell? ⟨wi.heap.size, 1, none⟩ = some (.int .i64 q) := by rw [cell_of_row W1 _ 1 _ _ (0, 0) hG6]; rfl
          rw [← hW1] at e0 e1 e2 e3
          clear ha ha2 hW1 hG6
          by_cases hpx : p = x
          · have HN := Lib.hid (pairK_no (b := (x, y)) HA2.out hpx)
            subst hpx
            gi_wp2
            refine ⟨fun f hf => (by cases hf), ?_⟩
            gi_wp2
            go_roundw
            case rel => exact ⟨i + 1, by omega, by go_num, Lib.hid (by rw [HN.out, HW1.out]; exact HJ1.out), Lib.hid (by rw [HW1.out]; exact HK1.out), Lib.hid (by rw [HW1.out]; exact HG1.out)⟩
            case measure => simp [intOf]; omega
          · have t1 : (p == x) = false := by simpa using hpx
            have t2 : (p != x) = true := by simpa using hpx
            have HN := Lib.hid (pairK_yes (b := (x, y)) HA2.out hpx)
            have HLT := Lib.hid (pairs_lt HB.out HA2.out hpx)
            have HAT := Lib.hid (HEL.out _ _ (pair_at HB.out HA2.out hpx))
            obtain ⟨m, hm⟩ : ∃ m, (pairsL ms k ++ pairK (x, y) ((ms.take k).take i)).length = m := ⟨_, rfl⟩
            rw [hm] at HJ1 HLT HAT
            have HM := Lib.hid hm
            clear hm hpx
            obtain ⟨fn, tmps, assign, body, hy, hR⟩ := HY.out _ (el m) _ HJ1.out (by rw [comeK_length]; exact HLT.out)
            rw [HAT.out, encP] at hy
            simp only at hy
            rw [← HW1.out] at hy
            have hR2 := hR
            rw [← HW1.out] at hR2
            have HR := Lib.hid hR2
            clear hR hR2
            gi_wp2
            refine HR.out.mono ?_
            rintro e W3 (⟨rfl, hJ3, hk3⟩ | ⟨rfl, hJx3⟩)
            · rw [HW1.out] at hk3
              have HJ3 := Lib.hid hJ3
              have HK3 := Lib.hid hk3
              clear hJ3 hk3 e0 e1 e2 e3 hy
              gi_wp2
              go_roundw
              case rel => exact ⟨i + 1, by omega, by go_num, Lib.hid (by rw [HN.out, ← List.append_assoc, List.length_append, HM.out, List.length_singleton, comeK_succ]; exact HJ3.out), Lib.hid (HK1.out.trans HK3.out), Lib.hid (HK3.out.box _ _ hgn HG1.out)⟩
              case measure => simp [intOf]; omega
            · clear e0 e1 e2 e3 hy
              have HX3 := Lib.hid hJx3
              clear hJx3
              gi_wp2
              refine bodyPost_ret (results_none rfl _ _ _) rfl ?_
              exact ⟨⟨_, rfl⟩, .inr ⟨_, ⟨m + 1, HLT.out, (comeK_succ el m).symm⟩, HX3.out⟩⟩
        · obtain rfl : i = k := by omega
          gi_wp2
          go_roundw
          case rel => exact ⟨i + 1, by omega, by go_num, Lib.hid (by rw [pairsL_succ HB.out]; have := HJi.out; rw [List.take_take, Nat.min_self] at this; exact this), HKi⟩
          case measure => simp [intOf]; omega
    · obtain rfl : k = ms.length := by omega
      gi_wp2
      go_end0
      exact ⟨⟨_, rfl⟩, .inl ⟨_, rfl, HJ.out⟩⟩
theorem pairs_stops {α : Type} (encs : α → Array Value) (el : Nat → α) (F : Fence) (n : Nat) (hF : F.fn 107) (hro : F.round = none) (hn : 1 ≤ n) (Bs n₀ gb : Nat) (A : Option Addr) (c : Nat) (ms : List (Int × Int)) (hlen : ms.length ≤ 1000) (hcap : ms.length ≤ c) (hc0 : c ≤ maxLen) (hel : Named encs el (pairsL ms ms.length)) (w : World) (hnw : n₀ ≤ w.heap.size)
    (hBs : ∀ W W', Below w.heap.size w W → KeepP n₀ gb W W' → W'.cell? ⟨Bs, 0, none⟩ = some (.slice A ms.length c))
    (hA : 0 < ms.length → ∃ b o, A = some ⟨b, o, none⟩ ∧ ∀ W W', Below w.heap.size w W → KeepP n₀ gb W W' → ∀ (k : Nat) (m : Int × Int), ms[k]? = some m → W'.cell? ⟨b, o + k * 2, none⟩ = some (.int .i64 m.1) ∧ W'.cell? ⟨b, o + k * 2 + 1, none⟩ = some (.int .i64 m.2)) :
    SeqStopsK F n Try.prog 107 #[.pointer (some ⟨Bs, 0, none⟩)] encs (KeepP n₀ gb) (fun ys => ys = comeK el (pairsL ms ms.length).length) (fun pre => ∃ k, k ≤ (pairsL ms ms.length).length ∧ pre = comeK el k) (pairsL ms ms.length).length w := fun l J Jx W hW hJ _ hY h0 =>
  pairs1_in encs el F n hF hro hn l Bs n₀ gb A c ms hlen hcap hc0 hel J Jx (fun s W' o hs => hJ s W' _ none hs (World.grownBy_alloc W' o none) (fun r e => by cases e)) hY W (Nat.le_trans hnw hW.size) (fun W' h => hBs W W' hW h)
    (fun h => by
      obtain ⟨b, o, e, hall⟩ := hA h
      exact ⟨b, o, e, fun W' h => hall W W' hW h⟩) h0
set_option maxHeartbeats 1000000 in
theorem pairs_call (a : Option Addr) (len cap : Nat) (w : World) :
    Calls Try.prog 80 #[.slice a len cap] w fun e w' => e = .returned (.func (.func 107) #[] #[.pointer (some ⟨w.heap.size, 0, none⟩)]) ∧ w' = w.alloc (.cells #[.slice a len cap] 22) := by
  go_enter Try.func80, Try.ntmps80
  go_wp2
  go_ret
  exact ⟨rfl, rfl⟩
end Go.Proofs.Ytoilbgngefleiaa
