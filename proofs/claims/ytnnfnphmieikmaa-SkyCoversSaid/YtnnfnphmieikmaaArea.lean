/-
  Contracts of the reference: width, Nothing, AreaOf, full, Count.
-/
import Derived.Test.YtnnfnphmieikmaaOn2
import Derived.Test.YtnnfnphmieikmaaSetM
namespace Go.Proofs.Ytnnfnphmieikmaa
open Go Go.RowKit Go.Shelf

theorem width_any (o : Nat) (ho : o < 5) (p : Int) (w : World) :
    Calls Try.prog 113 #[.agg #[.int .i64 (o : Int), .int .i64 p]] w fun e w' => e = .returned (.int .i64 (wN o : Nat)) ∧ Below w.heap.size w w' := by
  obtain rfl | rfl | rfl | rfl | rfl := five ho
  all_goals
    go_enter Try.func113, Try.ntmps113
    go_wp2
    go_ret
    exact ⟨rfl, (by repeat (first | with_reducible exact Below.refl _ _ | with_reducible assumption | refine below_drewN ?_ _ | with_reducible refine Below.drew ?_ | (refine Below.setCell ?_ (by first | (simp; done) | (simp; omega) | omega) _) | (refine Below.alloc ?_ (by first | (simp; done) | (simp; omega) | omega) _)))⟩

def boolL (P : Nat → Bool) : List Value := (List.range 3072).map fun q => Value.bool (P q)
theorem boolL_len (P : Nat → Bool) : (boolL P).length = 3072 := by simp [boolL]
theorem boolL_get {P : Nat → Bool} {q : Nat} (h : q < 3072) : (boolL P)[q]? = some (.bool (P q)) := by
  rw [boolL, List.getElem?_map, List.getElem?_range h]; rfl
theorem boolL_congr {P R : Nat → Bool} (h : ∀ q, q < 3072 → P q = R q) : boolL P = boolL R :=
  List.map_congr_left fun q hq => by rw [h q (List.mem_range.1 hq)]
theorem boolL_set (P R : Nat → Bool) (q0 : Nat) (b : Bool) (h : ∀ q, R q = if q = q0 then b else P q) : (boolL P).set q0 (.bool b) = boolL R := by
  refine List.ext_getElem? fun q => ?_
  rw [List.getElem?_set]
  by_cases hq : q < 3072
  · by_cases e : q0 = q
    · subst e; rw [if_pos rfl, if_pos (by rw [boolL_len]; exact hq), boolL_get hq, h, if_pos rfl]
    · rw [if_neg e, boolL_get hq, boolL_get hq, h, if_neg (fun h => e h.symm)]
  · rw [List.getElem?_eq_none (l := boolL R) (by rw [boolL_len]; omega), List.getElem?_eq_none (l := boolL P) (by rw [boolL_len]; omega)]
    split
    · rw [if_neg (by rw [boolL_len]; omega)]
    · rfl
theorem made_bools : (madeCells (Value.bool false).cells (3072 * 1)).toList = boolL (fun _ => false) := by
  rw [show boolL (fun _ => false) = List.replicate 3072 (.bool false) by unfold boolL; rw [List.map_const']; simp, List.eq_replicate_iff]
  refine ⟨by simp [madeCells], fun b hb => ?_⟩
  simp only [madeCells, Value.cells] at hb
  simp at hb
  obtain ⟨i, _, rfl⟩ := hb
  simp [Nat.mod_one]
/-- An area in memory. -/
def Area (w : World) (g : Nat) (P : Nat → Bool) : Prop := g < w.heap.size ∧ ∀ q, q < 3072 → w.cell? ⟨g, q, none⟩ = some (.bool (P q))
theorem Area.below {w w' : World} {g : Nat} {P : Nat → Bool} (h : Area w g P) (hb : Below w.heap.size w w') : Area w' g P :=
  ⟨Nat.lt_of_lt_of_le h.1 hb.size, fun q hq => (hb.cell (p := ⟨g, q, none⟩) h.1).trans (h.2 q hq)⟩
/-- An area of the call's own. -/
def OwnA (w : World) (base g : Nat) (P : Nat → Bool) : Prop := w.ownsRow base 4 1 (.slice (some ⟨g, 0, none⟩) 3072 3072) 3072 (boolL P)
theorem OwnA.area {w : World} {base g : Nat} {P : Nat → Bool} (h : OwnA w base g P) : Area w g P := by
  refine ⟨?_, fun q hq => (World.ownsRow.cellAt h q (by omega)).trans (boolL_get hq)⟩
  rcases h.2 with ⟨h0, _⟩ | ⟨g', cap, cur, h0, _, hh, _⟩
  · simp at h0
  · simp at h0; obtain ⟨rfl, _⟩ := h0; exact (Array.getElem?_eq_some_iff.1 hh).1
theorem OwnA.below {w w' : World} {base g : Nat} {P : Nat → Bool} (h : OwnA w base g P) (hb : Below w.heap.size w w') : OwnA w' base g P := own_below h hb
theorem OwnA.drewN {w : World} {base g : Nat} {P : Nat → Bool} (h : OwnA w base g P) (n : Nat) : OwnA (w.drewN n) base g P := h
theorem OwnA.congr {w : World} {base g : Nat} {P R : Nat → Bool} (h : OwnA w base g P) (e : ∀ q, q < 3072 → P q = R q) : OwnA w base g R := by
  unfold OwnA at *; rwa [← boolL_congr e]
theorem OwnA.put {w : World} {base g : Nat} {P R : Nat → Bool} {q0 : Nat} {b : Bool} (h : OwnA w base g P) (e : ∀ q, R q = if q = q0 then b else P q) : OwnA (w.setCell ⟨g, q0, none⟩ (.bool b)) base g R := by
  unfold OwnA at *; rw [← boolL_set P R q0 b e]; exact (World.ownsRow.stored h q0 _).1

theorem bool_info : (Try.prog.info? 4).map (fun i => (i.zero, i.size, i.bytes)) = some (some (.bool false), 1, 1) := by kernel_rfl
set_option maxRecDepth 100000 in
theorem nothing_any (w : World) :
    Calls Try.prog 112 #[] w fun e w' => e = .returned (.slice (some ⟨w.heap.size, 0, none⟩) 3072 3072) ∧ OwnA w' w.heap.size w.heap.size (fun _ => false) ∧ Below w.heap.size w w' := by
  obtain ⟨i0, hi0, hz0, hz1, hz2⟩ := info_parts bool_info
  have HZ2 := Lib.hid hz2
  clear hz2
  have cX : ∀ W, Calls Try.prog 68 #[.int .i64 4] W fun e w' => e = .returned (.int .i64 3072) ∧ W = w' := fun W => (refPixels_any 4 (by omega) W).mono fun _ _ h => ⟨by rw [h.1]; rfl, h.2⟩
  have CX := Lib.hid cX
  clear cX
  go_enter Try.func112, Try.ntmps112
  go_wp2_with (first
    | (go_at_call 68; refine (CX.out _).mono ?_; rintro e w1 ⟨rfl, rfl⟩)
    | (at_make; refine wpList_make_full _ rfl _ _ 97 rfl w.heap.size 4 i0 (.bool false) 1 Try.underlying97 hi0 hz0 hz1 _ _ _ _ 3072 rfl rfl rfl rfl (by rw [HZ2.out]; omega) (by unfold maxLen; omega) (Nat.le_refl _) ?_; intro w1 hown1 hg1))
  have hB1 : Below w.heap.size w w1 := (Below.refl _ _).grown hg1 (Nat.le_refl _) (by simp)
  rw [made_bools] at hown1
  have HO : Hid (OwnA w1 w.heap.size w.heap.size (fun _ => false)) := Lib.hid hown1
  clear hown1 hg1
  go_wp2
  go_ret
  exact ⟨rfl, HO.out, hB1⟩

def part (o p k q : Nat) : Bool := decide (p * wN o ≤ q) && decide (q < p * wN o + k)
theorem part_zero (o p q : Nat) : part o p 0 q = false := by simp [part]
theorem part_snoc (o p k q : Nat) : part o p (k + 1) q = (part o p k q || decide (q = p * wN o + k)) := by
  rw [Bool.eq_iff_iff]; simp [part]; omega
theorem part_all (o p q : Nat) : part o p (wN o) q = inC o p q := rfl
theorem inL_snoc {ms : List (Int × Int)} {i o p : Nat} (h : ms[i]? = some ((o : Int), (p : Int))) (q : Nat) : inL (ms.take (i + 1)) q = (inL (ms.take i) q || inC o p q) := by
  rw [inL, any_snoc h]; simp [inL]

set_option maxRecDepth 100000 in
set_option maxHeartbeats 800000 in
theorem areaOf_any (ms : List (Int × Int)) (A : Option Addr) (c : Nat) (w : World) (h : Marks w A ms) (hl : ms.length ≤ 5000) (hv : ms.all cellB = true) :
    Calls Try.prog 96 #[.slice A ms.length c] w fun e w' => e = .returned (.slice (some ⟨w.heap.size, 0, none⟩) 3072 3072) ∧ OwnA w' w.heap.size w.heap.size (inL ms) ∧ Below w.heap.size w w' := by
  have H := Lib.hid h
  have HV := Lib.hid hv
  clear h hv
  go_enter Try.func96, Try.ntmps96
  go_wp2_with (go_at_call 112; refine (nothing_any _).mono ?_; rintro e w1 ⟨rfl, hO1, hB1⟩; have HO1 := Lib.hid hO1; clear hO1)
  go_loopw [4] (fun i wr => ∃ k : Nat, k ≤ ms.length ∧ i = .int .i64 k ∧ OwnA wr w.heap.size w.heap.size (inL (ms.take k)) ∧ Below w.heap.size w wr) (fun i _ => ms.length - (intOf i).toNat)
  case atStart => exact ⟨0, Nat.zero_le _, rfl, HO1.out.congr (fun q _ => by simp [inL]), hB1⟩
  case round =>
    clear HO1 hB1
    obtain ⟨k, hk, rfl, hO, hB⟩ := hrel
    by_cases hlt : k < ms.length
    · obtain ⟨bl, off, rfl, hbk, hcells⟩ := H.out.open_ (show 0 < ms.length by omega)
      obtain ⟨a, b, hx⟩ := getM_of_lt hlt
      have hcb : cellB (a, b) = true := List.all_eq_true.1 HV.out _ (List.mem_of_getElem? hx)
      obtain ⟨o, p, he, ho, hp⟩ := cellB_of hcb
      injection he with e1 e2
      subst e1; subst e2
      have hwr := hO.area.1
      have f0 := (hB.cell (p := ⟨bl, off + k * 2, none⟩) hbk).trans (hcells _ _ hx).1
      have f1 := (hB.cell (p := ⟨bl, off + k * 2 + 1, none⟩) hbk).trans (hcells _ _ hx).2
      have HX := Lib.hid (inL_snoc hx)
      have hw1 := wN_pos o
      have hw2 := wN_le o
      have hend := cell_end ho hp
      have HO := Lib.hid hO
      have CW := Lib.hid (fun W => width_any o ho (p : Int) W)
      obtain ⟨S, hS⟩ : ∃ S, S = wN o := ⟨_, rfl⟩
      have HS := Lib.hid hS
      rw [← hS] at CW hw1 hw2 hend
      obtain ⟨B, hBB⟩ : ∃ B, B = p * S := ⟨_, rfl⟩
      have eB : (p : Int) * (S : Int) = (B : Int) := by rw [hBB]; simp
      have HBB := Lib.hid hBB
      rw [← hBB] at hend
      have hp2 : p ≤ 3072 := by have := (pxN_le ho).1; omega
      have HP : Hid (∀ m q, part o p m q = (decide (B ≤ q) && decide (q < B + m))) := Lib.hid (fun m q => by rw [part, ← HS.out, ← HBB.out])
      clear hx hcells hcb hO hS hBB
      obtain ⟨wo, rfl⟩ : ∃ wo : World, wo = wr := ⟨_, rfl⟩
      have hbw : bl < wo.heap.size := Nat.lt_of_lt_of_le hbk hB.size
      go_wp2_with (go_at_call 113; refine (CW.out _).mono ?_; rintro e w2 ⟨rfl, hB2⟩; have HO2 : Hid (OwnA w2 w.heap.size w.heap.size (inL (ms.take k))) := Lib.hid (HO.out.below hB2); have hW2 := Below.trans hB (hB2.mono hB.size); have f0 := (hB2.cell (p := ⟨bl, off + k * 2, none⟩) hbw).trans f0; have f1 := (hB2.cell (p := ⟨bl, off + k * 2 + 1, none⟩) hbw).trans f1; have hbw2 := Nat.lt_of_lt_of_le hbw hB2.size; clear hB2)
      go_loopw [6] (fun i wr => ∃ m : Nat, m ≤ S ∧ i = .int .i64 m ∧ OwnA wr w.heap.size w.heap.size (fun q => inL (ms.take k) q || part o p m q) ∧ Below w.heap.size w wr) (fun i _ => S - (intOf i).toNat)
      case atStart => exact ⟨0, Nat.zero_le _, rfl, HO2.out.congr (fun q _ => by simp [part_zero]), hW2⟩
      case round =>
        obtain ⟨m, hm, rfl, hO3, hB3⟩ := hrel
        by_cases hlt2 : m < S
        · have f0 := (hB3.cell (p := ⟨bl, off + k * 2, none⟩) hbk).trans ((hW2.cell (p := ⟨bl, off + k * 2, none⟩) hbk).symm.trans f0)
          have f1 := (hB3.cell (p := ⟨bl, off + k * 2 + 1, none⟩) hbk).trans ((hW2.cell (p := ⟨bl, off + k * 2 + 1, none⟩) hbk).symm.trans f1)
          have hc := hO3.area.2 (B + m) (by omega)
          have hf := World.ownsRow.frozenAt hO3 (B + m)
          have HO3 := Lib.hid hO3
          have HN : Hid (∀ q, (inL (ms.take k) q || part o p (m + 1) q) = if q = B + m then true else (inL (ms.take k) q || part o p m q)) := Lib.hid (fun q => by
            rw [part_snoc, ← HS.out, ← HBB.out]
            by_cases e : q = B + m
            · simp [e]
            · simp [e])
          clear hO3
          go_wp2
          go_roundw
          case rel => exact ⟨m + 1, by omega, by go_num, HO3.out.put HN.out, Below.setCell hB3 (Nat.le_refl _) _⟩
          case measure => simp [intOf]; omega
        · obtain rfl : m = S := by omega
          have HO3 := Lib.hid hO3
          clear hO3
          go_wp2
          go_roundw
          case rel => exact ⟨k + 1, by omega, by go_num, HO3.out.congr (fun q _ => by rw [HX.out, HS.out, part_all]), hB3⟩
          case measure => simp [intOf]; omega
    · obtain rfl : k = ms.length := by omega
      have HO : Hid (OwnA wr w.heap.size w.heap.size (inL ms)) := Lib.hid (by rwa [List.take_length] at hO)
      clear hO
      go_wp2
      go_ret
      exact ⟨rfl, HO.out, hB⟩
end Go.Proofs.Ytnnfnphmieikmaa
