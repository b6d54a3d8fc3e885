/-
  Contract: Speeds (tick).
-/
import Derived.Test.YtjghlfagdleglaaTold
import Derived.Test.YtjghlfagdleglaaRefLine
namespace Go.Proofs.Ytjghlfagdleglaa
open Go.RowKit

/-- Cells of a list of pairs, laid from a place on. -/
def Pairs (bl off : Nat) (vs : List (Int × Int)) (w : World) : Prop :=
  bl < w.heap.size ∧ ∀ (k : Nat) (v : Int × Int), vs[k]? = some v → w.cell? ⟨bl, off + k * 2, none⟩ = some (.int .i64 v.1) ∧ w.cell? ⟨bl, off + k * 2 + 1, none⟩ = some (.int .i64 v.2)
theorem Pairs.below {bl off : Nat} {vs : List (Int × Int)} {w w' : World} (h : Pairs bl off vs w) (hb : Below w.heap.size w w') : Pairs bl off vs w' :=
  ⟨Nat.lt_of_lt_of_le h.1 hb.size, fun k v hk => ⟨(hb.cell (p := ⟨bl, off + k * 2, none⟩) h.1).trans (h.2 k v hk).1, (hb.cell (p := ⟨bl, off + k * 2 + 1, none⟩) h.1).trans (h.2 k v hk).2⟩⟩
theorem Pairs.set2 {bl off g : Nat} {vs : List (Int × Int)} {w : World} (h : Pairs bl off vs w) (hne : bl ≠ g) (x y : Value) : Pairs bl off vs ((w.setCell ⟨g, 0, none⟩ x).setCell ⟨g, 1, none⟩ y) :=
  ⟨by simpa using h.1, fun k v hk => ⟨(cell_far2 (p := ⟨bl, off + k * 2, none⟩) hne).trans (h.2 k v hk).1, (cell_far2 (p := ⟨bl, off + k * 2 + 1, none⟩) hne).trans (h.2 k v hk).2⟩⟩
theorem Pairs.drewN {bl off : Nat} {vs : List (Int × Int)} {w : World} (h : Pairs bl off vs w) (n : Nat) : Pairs bl off vs (w.drewN n) :=
  ⟨h.1, fun k v hk => h.2 k v hk⟩
theorem set2_row {w : World} {g : Nat} {t : TypeId} {a b x y : Value} (h : w.heap[g]? = some (.cells #[a, b] t (0, 0))) :
    ((w.setCell ⟨g, 0, none⟩ x).setCell ⟨g, 1, none⟩ y).heap[g]? = some (.cells #[x, y] t (0, 0)) := by
  have := blk_set (blk_set h 0 x) 1 y
  simpa using this
theorem set2_far {w : World} {g h : Nat} {x y : Value} (hne : h ≠ g) : ((w.setCell ⟨g, 0, none⟩ x).setCell ⟨g, 1, none⟩ y).heap[h]? = w.heap[h]? := by
  rw [Below.heap_setCell _ _ _ _ hne, Below.heap_setCell _ _ _ _ hne]

def spsN1 (ms : List (Int × Int)) : Int × Int := if vkB ms then leastK ms (ms.length - 2) else (0, 0)
def spsN2 (ms : List (Int × Int)) : Int × Int := if vkB ms then mostK ms (ms.length - 2) else (0, 0)

set_option maxRecDepth 100000 in
set_option maxHeartbeats 1600000 in
theorem speeds_any (ms : List (Int × Int)) (A : Option Addr) (c : Nat) (w : World) (h : Clk w A c ms) :
    Calls Try.prog 38 #[.slice A ms.length c] w fun e w' => ∃ a b p q E : Int,
      e = .returned (.tuple #[.agg #[.int .i64 a, .int .i64 b], .agg #[.int .i64 p, .int .i64 q], .int .i64 E]) ∧ Below w.heap.size w w' ∧ Hid ((a, b) = spsN1 ms ∧ (p, q) = spsN2 ms ∧ E = clkE ms) := by
  have H := Lib.hid h
  clear h
  by_cases hv : vkB ms = true
  · obtain ⟨hn2, hn30⟩ := vk_parts hv
    have HV := Lib.hid hv
    clear hv
    go_enter Try.func38, Try.ntmps38
    go_wp2_with (first
      | (go_at_call 32; refine (validClock_any _ _ _ _ (H.out.below (by repeat (first | with_reducible exact Below.refl _ _ | with_reducible assumption | refine below_drewN ?_ _ | with_reducible refine Below.drew ?_ | (refine Below.setCell ?_ (by first | (simp; done) | (simp; omega) | omega) _) | (refine Below.alloc ?_ (by first | (simp; done) | (simp; omega) | omega) _)))).marks H.out.len).mono ?_; rintro e w1 ⟨he, hB1⟩; rw [HV.out] at he; subst he; have hW1 : Below w.heap.size w w1 := Below.trans (by exact (by repeat (first | with_reducible exact Below.refl _ _ | with_reducible assumption | refine below_drewN ?_ _ | with_reducible refine Below.drew ?_ | (refine Below.setCell ?_ (by first | (simp; done) | (simp; omega) | omega) _) | (refine Below.alloc ?_ (by first | (simp; done) | (simp; omega) | omega) _)))) (hB1.mono (by first | (simp; done) | (simp; omega) | omega)))
      | (go_at_call 73; refine (told_any ms _ _ _ (H.out.below hW1) HV.out).mono ?_; rintro e w2 ⟨A2, c2, vs, rfl, hC2, hB2, hvs, hN2⟩))
    have hvl : vs.length = ms.length - 1 := by rw [hvs.out, spds_len]
    obtain ⟨bl, off, rfl, hbk, hcells⟩ := hC2.marks.open_ (by omega)
    have hnb : w1.heap.size ≤ bl := hN2 _ rfl
    have hP : Pairs bl off (spds ms (ms.length - 1)) w2 := ⟨hbk, by rw [← hvs.out]; exact hcells⟩
    have z1 := hB1.size
    simp at z1
    have hG : w2.heap[w.heap.size]? = some (.cells #[.int .i64 0, .int .i64 0] 36 (0, 0)) :=
      (hB2.block _ (by omega)).trans ((hB1.block _ (by simp; omega)).trans ((Below.heap_alloc _ _ _ (by simp)).trans (heap_alloc_new w _)))
    have hG' : w2.heap[w.heap.size + 1]? = some (.cells #[.int .i64 0, .int .i64 0] 36 (0, 0)) :=
      (hB2.block _ (by omega)).trans ((hB1.block (w.heap.size + 1) (by simp)).trans (by rw [show w.heap.size + 1 = (w.alloc (.cells #[.int .i64 0, .int .i64 0] 36)).heap.size by simp]; exact heap_alloc_new _ _))
    have hW2 : Below w.heap.size w w2 := hW1.trans (hB2.mono hW1.size)
    have z2 := hW2.size
    have hcap := hC2.le
    generalize hnq : vs.length = nq at hvl hcap ⊢
    clear hnq hcells hN2 hC2 hvs vs hB1 hB2
    subst hvl
    have n10 : w.heap.size + 1 ≠ w.heap.size := by omega
    have n01 : w.heap.size ≠ w.heap.size + 1 := by omega
    have hne : bl ≠ w.heap.size := by omega
    have hne2 : bl ≠ w.heap.size + 1 := by omega
    obtain ⟨a, b, hab⟩ : ∃ a b, spdL ms 0 = (a, b) := ⟨_, _, rfl⟩
    have hab2 := hP.2 0 _ (spds_get (show 0 < ms.length - 1 by omega))
    rw [hab] at hab2
    simp at hab2
    obtain ⟨f0, f1⟩ := hab2
    have HAB := Lib.hid hab
    have HP := Lib.hid hP
    have HG := Lib.hid hG
    have HG' := Lib.hid hG'
    have c0 := cell_of_row w2 _ 0 _ _ _ hG
    have c1 := cell_of_row w2 _ 1 _ _ _ hG
    have c2' := cell_of_row w2 _ 0 _ _ _ hG'
    have c3 := cell_of_row w2 _ 1 _ _ _ hG'
    have e0 := blk_frozen hG 0
    have e1 := blk_frozen hG 1
    have e2 := blk_frozen hG' 0
    have e3 := blk_frozen hG' 1
    simp at c0 c1 c2' c3
    clear hab hP hG hG'
    have hnq0 : 0 < ms.length - 1 := by omega
    go_region_held3 (fun w' => w'.cell? ⟨bl, off, none⟩ = some (.int .i64 a) ∧ w'.cell? ⟨bl, off + 1, none⟩ = some (.int .i64 b))
      (refine ⟨?_, ?_⟩ <;> (repeat (first | rw [cell_drew'] | rw [cell_far2 (p := ⟨bl, _, none⟩) hne] | rw [cell_far2 (p := ⟨bl, _, none⟩) hne2])) <;> with_reducible assumption)
      ((fail))
    obtain ⟨hg, hg'⟩ := set22 (a := .int .i64 a) (b := .int .i64 b) (p := .int .i64 a) (q := .int .i64 b) HG.out HG'.out (by omega)
    have hBW : Below w.heap.size w ((((w2.setCell ⟨w.heap.size, 0, none⟩ (.int .i64 a)).setCell ⟨w.heap.size, 1, none⟩ (.int .i64 b)).setCell ⟨w.heap.size + 1, 0, none⟩ (.int .i64 a)).setCell ⟨w.heap.size + 1, 1, none⟩ (.int .i64 b)) := by
      refine Below.setCell (Below.setCell (Below.setCell (Below.setCell hW2 ?_ _) ?_ _) ?_ _) ?_ _ <;> simp
    have hPW : Pairs bl off (spds ms (ms.length - 1)) ((((w2.setCell ⟨w.heap.size, 0, none⟩ (.int .i64 a)).setCell ⟨w.heap.size, 1, none⟩ (.int .i64 b)).setCell ⟨w.heap.size + 1, 0, none⟩ (.int .i64 a)).setCell ⟨w.heap.size + 1, 1, none⟩ (.int .i64 b)) := (HP.out.set2 hne _ _).set2 hne2 _ _
    generalize (((w2.setCell ⟨w.heap.size, 0, none⟩ (.int .i64 a)).setCell ⟨w.heap.size, 1, none⟩ (.int .i64 b)).setCell ⟨w.heap.size + 1, 0, none⟩ (.int .i64 a)).setCell ⟨w.heap.size + 1, 1, none⟩ (.int .i64 b) = W at *
    clear c0 c1 c2' c3 e0 e1 e2 e3 f0 f1 HG HG' HP hW2 hW1 z2
    have HBW := Lib.hid hBW
    have HPW := Lib.hid hPW
    have HGW := Lib.hid hg
    have HGW' := Lib.hid hg'
    clear hBW hPW hg hg'
    have hnq1 : ms.length - 1 - 1 ≤ c2 - 1 := by omega
    by_cases hc1 : c2 = 1
    · have hn3 : ms.length = 2 := by omega
      subst hc1
      go_wp2_with fail
      go_loopw [24] (fun i wr => ∃ (k : Nat) (l0 l1 m0 m1 : Int), k ≤ ms.length - 1 - 1 ∧ i = .int .i64 k ∧ Below w.heap.size w wr ∧ wr.heap[w.heap.size]? = some (.cells #[.int .i64 l0, .int .i64 l1] 36 (0, 0)) ∧ wr.heap[w.heap.size + 1]? = some (.cells #[.int .i64 m0, .int .i64 m1] 36 (0, 0)) ∧
          Pairs bl off (spds ms (ms.length - 1)) wr ∧ Hid ((l0, l1) = leastK ms k ∧ (m0, m1) = mostK ms k)) (fun i _ => ms.length - 1 - 1 - (intOf i).toNat)
      case atStart => exact ⟨0, a, b, a, b, by omega, rfl, HBW.out.drew, HGW.out, HGW'.out, HPW.out.drewN 1, by rw [leastK, HAB.out], by rw [mostK, HAB.out]⟩
      case round =>
        obtain ⟨k, l0, l1, m0, m1, hk, rfl, hB, hg, hg', hp, hlm⟩ := hrel
        obtain rfl : k = 0 := by omega
        have c0 := cell_of_row wr _ 0 _ _ _ hg
        have c1 := cell_of_row wr _ 1 _ _ _ hg
        have c2 := cell_of_row wr _ 0 _ _ _ hg'
        have c3 := cell_of_row wr _ 1 _ _ _ hg'
        have e0 := blk_frozen hg 0
        have e1 := blk_frozen hg 1
        have e2 := blk_frozen hg' 0
        have e3 := blk_frozen hg' 1
        simp at c0 c1 c2 c3
        clear hg hg' hp
        go_wp2
        go_region_held3 (fun w' => w'.cell? ⟨w.heap.size, 0, none⟩ = some (.int .i64 l0) ∧ w'.cell? ⟨w.heap.size, 1, none⟩ = some (.int .i64 l1) ∧ w'.cell? ⟨w.heap.size + 1, 0, none⟩ = some (.int .i64 m0) ∧ w'.cell? ⟨w.heap.size + 1, 1, none⟩ = some (.int .i64 m1))
          ((simp only [cell_drew']; first | with_reducible exact ⟨c0, c1, c2, c3⟩ | with_reducible exact ⟨same2_0 c0, same2_1 c1, (cell_far2 (p := ⟨w.heap.size + 1, _, none⟩) n10).trans c2, (cell_far2 (p := ⟨w.heap.size + 1, _, none⟩) n10).trans c3⟩ | with_reducible exact ⟨(cell_far2 (p := ⟨w.heap.size, _, none⟩) n01).trans (same2_0 c0), (cell_far2 (p := ⟨w.heap.size, _, none⟩) n01).trans (same2_1 c1), same2_0 ((cell_far2 (p := ⟨w.heap.size + 1, _, none⟩) n10).trans c2), same2_1 ((cell_far2 (p := ⟨w.heap.size + 1, _, none⟩) n10).trans c3)⟩))
          ((fail))
        go_wp2
        refine bodyPost_ret (v := .tuple #[.agg #[.int .i64 l0, .int .i64 l1], .agg #[.int .i64 m0, .int .i64 m1], .int .i64 0]) (by simp [results, Try.results38, go_sem, c0, c1, c2, c3]) rfl
          ⟨l0, l1, m0, m1, 0, rfl, by refine Below.drew (Below.setCell (Below.setCell (Below.setCell (Below.setCell hB ?_ _) ?_ _) ?_ _) ?_ _) <;> simp, ?_⟩
        refine ⟨?_, ?_, ?_⟩
        · show (l0, l1) = spsN1 ms
          rw [spsN1, if_pos HV.out, hlm.out.1]
          congr 1 <;> omega
        · show (m0, m1) = spsN2 ms
          rw [spsN2, if_pos HV.out, hlm.out.2]
          congr 1 <;> omega
        · simp [clkE, HV.out]
    · go_wp2_with fail
      go_loopw [24] (fun i wr => ∃ (k : Nat) (l0 l1 m0 m1 : Int), k ≤ ms.length - 1 - 1 ∧ i = .int .i64 k ∧ Below w.heap.size w wr ∧ wr.heap[w.heap.size]? = some (.cells #[.int .i64 l0, .int .i64 l1] 36 (0, 0)) ∧ wr.heap[w.heap.size + 1]? = some (.cells #[.int .i64 m0, .int .i64 m1] 36 (0, 0)) ∧
          Pairs bl off (spds ms (ms.length - 1)) wr ∧ Hid ((l0, l1) = leastK ms k ∧ (m0, m1) = mostK ms k)) (fun i _ => ms.length - 1 - 1 - (intOf i).toNat)
      case atStart => exact ⟨0, a, b, a, b, by omega, rfl, HBW.out.drew, HGW.out, HGW'.out, HPW.out.drewN 1, by rw [leastK, HAB.out], by rw [mostK, HAB.out]⟩
      case round =>
        obtain ⟨k, l0, l1, m0, m1, hk, rfl, hB, hg, hg', hp, hlm⟩ := hrel
        by_cases hlt : k < ms.length - 1 - 1
        · obtain ⟨s, t, hst⟩ : ∃ s t, spdL ms (k + 1) = (s, t) := ⟨_, _, rfl⟩
          have hs := hp.2 (k + 1) _ (spds_get (show k + 1 < ms.length - 1 by omega))
          rw [hst] at hs
          have f0 : wr.cell? ⟨bl, off + 2 + k * 2, none⟩ = some (.int .i64 s) := by
            rw [show off + 2 + k * 2 = off + (k + 1) * 2 by omega]; exact hs.1
          have f1 : wr.cell? ⟨bl, off + 2 + k * 2 + 1, none⟩ = some (.int .i64 t) := by
            rw [show off + 2 + k * 2 + 1 = off + (k + 1) * 2 + 1 by omega]; exact hs.2
          obtain ⟨⟨o1, o2⟩, ⟨o3, o4⟩⟩ := by have := spdL_ok HV.out (show k + 1 + 1 < ms.length by omega); rw [hst] at this; exact this
          obtain ⟨⟨o5, o6⟩, ⟨o7, o8⟩⟩ := by have := leastK_ok HV.out (show k + 1 < ms.length by omega); rw [← hlm.out.1] at this; exact this
          obtain ⟨⟨o9, p1⟩, ⟨p2, p3⟩⟩ := by have := mostK_ok HV.out (show k + 1 < ms.length by omega); rw [← hlm.out.2] at this; exact this
          simp only at o1 o2 o3 o4 o5 o6 o7 o8 o9 p1 p2 p3
          have HK1 : Hid ((if ltR (s, t) (l0, l1) then (s, t) else (l0, l1)) = leastK ms (k + 1)) := by show _ = _; rw [leastK, hst, ← hlm.out.1]
          have HK2 : Hid ((if ltR (m0, m1) (s, t) then (s, t) else (m0, m1)) = mostK ms (k + 1)) := by show _ = _; rw [mostK, hst, ← hlm.out.2]
          have z := hB.size
          have hbl := hp.1
          have zg : w.heap.size + 1 < wr.heap.size := by
            have := (Array.getElem?_eq_some_iff.1 hg').1
            exact this
          have zg0 : w.heap.size < wr.heap.size := by omega
          have HG := Lib.hid hg
          have HG' := Lib.hid hg'
          have HP := Lib.hid hp
          have HB := Lib.hid hB
          have nN : wr.heap.size ≠ w.heap.size := by omega
          have nN1 : wr.heap.size ≠ w.heap.size + 1 := by omega
          have i0 : (0 : Int) ≤ (k : Int) := by omega
          have i1 : (k : Int) < ((ms.length - 1 - 1 : Nat) : Int) := by omega
          have c0 := cell_of_row wr _ 0 _ _ _ hg
          have c1 := cell_of_row wr _ 1 _ _ _ hg
          have c2 := cell_of_row wr _ 0 _ _ _ hg'
          have c3 := cell_of_row wr _ 1 _ _ _ hg'
          simp at c0 c1 c2 c3
          clear hg hg' hs hst hlm hp hB
          cases hb1 : ltR (s, t) (l0, l1) <;> cases hb2 : ltR (m0, m1) (s, t)
          · have HK1' : Hid ((l0, l1) = leastK ms (k + 1)) := by have := HK1.out; rw [hb1] at this; exact this
            have HK2' : Hid ((m0, m1) = mostK ms (k + 1)) := by have := HK2.out; rw [hb2] at this; exact this
            clear HK1 HK2
            have TA : Hid True := Lib.hid trivial
            go_wp2_with (first
              | (go_at_call 74; have hstop := HG3; refine (less_any m0 m1 s t _ (by omega) (by omega) (by omega) (by omega) (by omega) (by omega) (by omega) (by omega)).mono ?_; rintro e w5 ⟨he, hB5⟩; rw [hb2] at he; subst he; have z5 := hB5.size; (try simp at z5); have n0 := (hB5.cell (p := ⟨wr.heap.size, 0, none⟩) (by first | omega | (simp; omega))).trans (n0); have n1 := (hB5.cell (p := ⟨wr.heap.size, 1, none⟩) (by first | omega | (simp; omega))).trans (n1); have HG5 := Lib.hid ((hB5.block w.heap.size (by first | omega | (simp; omega))).trans (HG3.out)); have hg' := (hB5.block (w.heap.size + 1) (by first | omega | (simp; omega))).trans (HG3'.out); have HP5 := Lib.hid (HP3.out.below hB5); have HB5 := Lib.hid ((HB3.out).trans (hB5.mono (by first | omega | (simp; omega)))); have c2 := cell_of_row w5 _ 0 _ _ _ hg'; have c3 := cell_of_row w5 _ 1 _ _ _ hg'; simp at c2 c3; have e2 := blk_frozen hg' 0; have e3 := blk_frozen hg' 1; have HG5' := Lib.hid hg'; clear hg')
              | (clear TA; go_at_call 74; refine (less_any s t l0 l1 _ (by omega) (by omega) (by omega) (by omega) (by omega) (by omega) (by omega) (by omega)).mono ?_; rintro e w3 ⟨he, hB3⟩; rw [hb1] at he; subst he; have z3 := hB3.size; simp at z3; have n0 := (hB3.cell (p := ⟨wr.heap.size, 0, none⟩) (by simp)).trans (cell_of_row _ _ 0 _ _ _ (heap_alloc_new wr _)); have n1 := (hB3.cell (p := ⟨wr.heap.size, 1, none⟩) (by simp)).trans (cell_of_row _ _ 1 _ _ _ (heap_alloc_new wr _)); have hg := (hB3.block w.heap.size (by simp; omega)).trans ((Below.heap_alloc _ _ _ (by omega)).trans HG.out); have hg' := (hB3.block (w.heap.size + 1) (by simp; omega)).trans ((Below.heap_alloc _ _ _ (by omega)).trans HG'.out); have HP3 := Lib.hid ((HP.out.below (show Below wr.heap.size wr w3 from Below.trans (by exact (by repeat (first | with_reducible exact Below.refl _ _ | with_reducible assumption | refine below_drewN ?_ _ | with_reducible refine Below.drew ?_ | (refine Below.setCell ?_ (by first | (simp; done) | (simp; omega) | omega) _) | (refine Below.alloc ?_ (by first | (simp; done) | (simp; omega) | omega) _)))) (hB3.mono (by simp))))); have HB3 : Hid (Below w.heap.size w w3) := HB.out.trans (Below.trans (show Below w.heap.size wr (wr.alloc (.cells #[.int .i64 s, .int .i64 t] 36)) from Below.alloc (Below.refl _ _) (by omega) _) (hB3.mono (by simp; omega))); have c0 := cell_of_row w3 _ 0 _ _ _ hg; have c1 := cell_of_row w3 _ 1 _ _ _ hg; have c2 := cell_of_row w3 _ 0 _ _ _ hg'; have c3 := cell_of_row w3 _ 1 _ _ _ hg'; simp at n0 n1 c0 c1 c2 c3; have e0 := blk_frozen hg 0; have e1 := blk_frozen hg 1; have HG3 := Lib.hid hg; have HG3' := Lib.hid hg'; clear hg hg'))
            go_roundw
            case rel => exact ⟨k + 1, l0, l1, m0, m1, by omega, by go_num, HB5.out, HG5.out, HG5'.out, HP5.out, HK1'.out, HK2'.out⟩
            case measure => simp [intOf]; omega
          · have HK1' : Hid ((l0, l1) = leastK ms (k + 1)) := by have := HK1.out; rw [hb1] at this; exact this
            have HK2' : Hid ((s, t) = mostK ms (k + 1)) := by have := HK2.out; rw [hb2] at this; exact this
            clear HK1 HK2
            have TA : Hid True := Lib.hid trivial
            go_wp2_with (first
              | (go_at_call 74; have hstop := HG3; refine (less_any m0 m1 s t _ (by omega) (by omega) (by omega) (by omega) (by omega) (by omega) (by omega) (by omega)).mono ?_; rintro e w5 ⟨he, hB5⟩; rw [hb2] at he; subst he; have z5 := hB5.size; (try simp at z5); have n0 := (hB5.cell (p := ⟨wr.heap.size, 0, none⟩) (by first | omega | (simp; omega))).trans (n0); have n1 := (hB5.cell (p := ⟨wr.heap.size, 1, none⟩) (by first | omega | (simp; omega))).trans (n1); have HG5 := Lib.hid ((hB5.block w.heap.size (by first | omega | (simp; omega))).trans (HG3.out)); have hg' := (hB5.block (w.heap.size + 1) (by first | omega | (simp; omega))).trans (HG3'.out); have HP5 := Lib.hid (HP3.out.below hB5); have HB5 := Lib.hid ((HB3.out).trans (hB5.mono (by first | omega | (simp; omega)))); have c2 := cell_of_row w5 _ 0 _ _ _ hg'; have c3 := cell_of_row w5 _ 1 _ _ _ hg'; simp at c2 c3; have e2 := blk_frozen hg' 0; have e3 := blk_frozen hg' 1; have HG5' := Lib.hid hg'; clear hg')
              | (clear TA; go_at_call 74; refine (less_any s t l0 l1 _ (by omega) (by omega) (by omega) (by omega) (by omega) (by omega) (by omega) (by omega)).mono ?_; rintro e w3 ⟨he, hB3⟩; rw [hb1] at he; subst he; have z3 := hB3.size; simp at z3; have n0 := (hB3.cell (p := ⟨wr.heap.size, 0, none⟩) (by simp)).trans (cell_of_row _ _ 0 _ _ _ (heap_alloc_new wr _)); have n1 := (hB3.cell (p := ⟨wr.heap.size, 1, none⟩) (by simp)).trans (cell_of_row _ _ 1 _ _ _ (heap_alloc_new wr _)); have hg := (hB3.block w.heap.size (by simp; omega)).trans ((Below.heap_alloc _ _ _ (by omega)).trans HG.out); have hg' := (hB3.block (w.heap.size + 1) (by simp; omega)).trans ((Below.heap_alloc _ _ _ (by omega)).trans HG'.out); have HP3 := Lib.hid ((HP.out.below (show Below wr.heap.size wr w3 from Below.trans (by exact (by repeat (first | with_reducible exact Below.refl _ _ | with_reducible assumption | refine below_drewN ?_ _ | with_reducible refine Below.drew ?_ | (refine Below.setCell ?_ (by first | (simp; done) | (simp; omega) | omega) _) | (refine Below.alloc ?_ (by first | (simp; done) | (simp; omega) | omega) _)))) (hB3.mono (by simp))))); have HB3 : Hid (Below w.heap.size w w3) := HB.out.trans (Below.trans (show Below w.heap.size wr (wr.alloc (.cells #[.int .i64 s, .int .i64 t] 36)) from Below.alloc (Below.refl _ _) (by omega) _) (hB3.mono (by simp; omega))); have c0 := cell_of_row w3 _ 0 _ _ _ hg; have c1 := cell_of_row w3 _ 1 _ _ _ hg; have c2 := cell_of_row w3 _ 0 _ _ _ hg'; have c3 := cell_of_row w3 _ 1 _ _ _ hg'; simp at n0 n1 c0 c1 c2 c3; have e0 := blk_frozen hg 0; have e1 := blk_frozen hg 1; have HG3 := Lib.hid hg; have HG3' := Lib.hid hg'; clear hg hg'))
            go_roundw
            case rel => exact ⟨k + 1, l0, l1, s, t, by omega, by go_num, Below.setCell (Below.setCell HB5.out (by simp) _) (by simp) _, (set2_far n01).trans HG5.out, set2_row HG5'.out, HP5.out.set2 hne2 _ _, HK1'.out, HK2'.out⟩
            case measure => simp [intOf]; omega
          · have HK1' : Hid ((s, t) = leastK ms (k + 1)) := by have := HK1.out; rw [hb1] at this; exact this
            have HK2' : Hid ((m0, m1) = mostK ms (k + 1)) := by have := HK2.out; rw [hb2] at this; exact this
            clear HK1 HK2
            have TA : Hid True := Lib.hid trivial
            go_wp2_with (first
              | (go_at_call 74; have hstop := HG3; refine (less_any m0 m1 s t _ (by omega) (by omega) (by omega) (by omega) (by omega) (by omega) (by omega) (by omega)).mono ?_; rintro e w5 ⟨he, hB5⟩; rw [hb2] at he; subst he; have z5 := hB5.size; (try simp at z5); have n0 := (hB5.cell (p := ⟨wr.heap.size, 0, none⟩) (by first | omega | (simp; omega))).trans ((cell_far2 (p := ⟨wr.heap.size, 0, none⟩) nN).trans n0); have n1 := (hB5.cell (p := ⟨wr.heap.size, 1, none⟩) (by first | omega | (simp; omega))).trans ((cell_far2 (p := ⟨wr.heap.size, 1, none⟩) nN).trans n1); have HG5 := Lib.hid ((hB5.block w.heap.size (by first | omega | (simp; omega))).trans (set2_row HG3.out)); have hg' := (hB5.block (w.heap.size + 1) (by first | omega | (simp; omega))).trans ((set2_far n10).trans HG3'.out); have HP5 := Lib.hid ((HP3.out.set2 hne _ _).below hB5); have HB5 := Lib.hid (((Below.setCell (Below.setCell HB3.out (by simp) _) (by simp) _)).trans (hB5.mono (by first | omega | (simp; omega)))); have c2 := cell_of_row w5 _ 0 _ _ _ hg'; have c3 := cell_of_row w5 _ 1 _ _ _ hg'; simp at c2 c3; have e2 := blk_frozen hg' 0; have e3 := blk_frozen hg' 1; have HG5' := Lib.hid hg'; clear hg')
              | (clear TA; go_at_call 74; refine (less_any s t l0 l1 _ (by omega) (by omega) (by omega) (by omega) (by omega) (by omega) (by omega) (by omega)).mono ?_; rintro e w3 ⟨he, hB3⟩; rw [hb1] at he; subst he; have z3 := hB3.size; simp at z3; have n0 := (hB3.cell (p := ⟨wr.heap.size, 0, none⟩) (by simp)).trans (cell_of_row _ _ 0 _ _ _ (heap_alloc_new wr _)); have n1 := (hB3.cell (p := ⟨wr.heap.size, 1, none⟩) (by simp)).trans (cell_of_row _ _ 1 _ _ _ (heap_alloc_new wr _)); have hg := (hB3.block w.heap.size (by simp; omega)).trans ((Below.heap_alloc _ _ _ (by omega)).trans HG.out); have hg' := (hB3.block (w.heap.size + 1) (by simp; omega)).trans ((Below.heap_alloc _ _ _ (by omega)).trans HG'.out); have HP3 := Lib.hid ((HP.out.below (show Below wr.heap.size wr w3 from Below.trans (by exact (by repeat (first | with_reducible exact Below.refl _ _ | with_reducible assumption | refine below_drewN ?_ _ | with_reducible refine Below.drew ?_ | (refine Below.setCell ?_ (by first | (simp; done) | (simp; omega) | omega) _) | (refine Below.alloc ?_ (by first | (simp; done) | (simp; omega) | omega) _)))) (hB3.mono (by simp))))); have HB3 : Hid (Below w.heap.size w w3) := HB.out.trans (Below.trans (show Below w.heap.size wr (wr.alloc (.cells #[.int .i64 s, .int .i64 t] 36)) from Below.alloc (Below.refl _ _) (by omega) _) (hB3.mono (by simp; omega))); have c0 := cell_of_row w3 _ 0 _ _ _ hg; have c1 := cell_of_row w3 _ 1 _ _ _ hg; have c2 := cell_of_row w3 _ 0 _ _ _ hg'; have c3 := cell_of_row w3 _ 1 _ _ _ hg'; simp at n0 n1 c0 c1 c2 c3; have e0 := blk_frozen hg 0; have e1 := blk_frozen hg 1; have HG3 := Lib.hid hg; have HG3' := Lib.hid hg'; clear hg hg'))
            go_roundw
            case rel => exact ⟨k + 1, s, t, m0, m1, by omega, by go_num, HB5.out, HG5.out, HG5'.out, HP5.out, HK1'.out, HK2'.out⟩
            case measure => simp [intOf]; omega
          · have HK1' : Hid ((s, t) = leastK ms (k + 1)) := by have := HK1.out; rw [hb1] at this; exact this
            have HK2' : Hid ((s, t) = mostK ms (k + 1)) := by have := HK2.out; rw [hb2] at this; exact this
            clear HK1 HK2
            have TA : Hid True := Lib.hid trivial
            go_wp2_with (first
              | (go_at_call 74; have hstop := HG3; refine (less_any m0 m1 s t _ (by omega) (by omega) (by omega) (by omega) (by omega) (by omega) (by omega) (by omega)).mono ?_; rintro e w5 ⟨he, hB5⟩; rw [hb2] at he; subst he; have z5 := hB5.size; (try simp at z5); have n0 := (hB5.cell (p := ⟨wr.heap.size, 0, none⟩) (by first | omega | (simp; omega))).trans ((cell_far2 (p := ⟨wr.heap.size, 0, none⟩) nN).trans n0); have n1 := (hB5.cell (p := ⟨wr.heap.size, 1, none⟩) (by first | omega | (simp; omega))).trans ((cell_far2 (p := ⟨wr.heap.size, 1, none⟩) nN).trans n1); have HG5 := Lib.hid ((hB5.block w.heap.size (by first | omega | (simp; omega))).trans (set2_row HG3.out)); have hg' := (hB5.block (w.heap.size + 1) (by first | omega | (simp; omega))).trans ((set2_far n10).trans HG3'.out); have HP5 := Lib.hid ((HP3.out.set2 hne _ _).below hB5); have HB5 := Lib.hid (((Below.setCell (Below.setCell HB3.out (by simp) _) (by simp) _)).trans (hB5.mono (by first | omega | (simp; omega)))); have c2 := cell_of_row w5 _ 0 _ _ _ hg'; have c3 := cell_of_row w5 _ 1 _ _ _ hg'; simp at c2 c3; have e2 := blk_frozen hg' 0; have e3 := blk_frozen hg' 1; have HG5' := Lib.hid hg'; clear hg')
              | (clear TA; go_at_call 74; refine (less_any s t l0 l1 _ (by omega) (by omega) (by omega) (by omega) (by omega) (by omega) (by omega) (by omega)).mono ?_; rintro e w3 ⟨he, hB3⟩; rw [hb1] at he; subst he; have z3 := hB3.size; simp at z3; have n0 := (hB3.cell (p := ⟨wr.heap.size, 0, none⟩) (by simp)).trans (cell_of_row _ _ 0 _ _ _ (heap_alloc_new wr _)); have n1 := (hB3.cell (p := ⟨wr.heap.size, 1, none⟩) (by simp)).trans (cell_of_row _ _ 1 _ _ _ (heap_alloc_new wr _)); have hg := (hB3.block w.heap.size (by simp; omega)).trans ((Below.heap_alloc _ _ _ (by omega)).trans HG.out); have hg' := (hB3.block (w.heap.size + 1) (by simp; omega)).trans ((Below.heap_alloc _ _ _ (by omega)).trans HG'.out); have HP3 := Lib.hid ((HP.out.below (show Below wr.heap.size wr w3 from Below.trans (by exact (by repeat (first | with_reducible exact Below.refl _ _ | with_reducible assumption | refine below_drewN ?_ _ | with_reducible refine Below.drew ?_ | (refine Below.setCell ?_ (by first | (simp; done) | (simp; omega) | omega) _) | (refine Below.alloc ?_ (by first | (simp; done) | (simp; omega) | omega) _)))) (hB3.mono (by simp))))); have HB3 : Hid (Below w.heap.size w w3) := HB.out.trans (Below.trans (show Below w.heap.size wr (wr.alloc (.cells #[.int .i64 s, .int .i64 t] 36)) from Below.alloc (Below.refl _ _) (by omega) _) (hB3.mono (by simp; omega))); have c0 := cell_of_row w3 _ 0 _ _ _ hg; have c1 := cell_of_row w3 _ 1 _ _ _ hg; have c2 := cell_of_row w3 _ 0 _ _ _ hg'; have c3 := cell_of_row w3 _ 1 _ _ _ hg'; simp at n0 n1 c0 c1 c2 c3; have e0 := blk_frozen hg 0; have e1 := blk_frozen hg 1; have HG3 := Lib.hid hg; have HG3' := Lib.hid hg'; clear hg hg'))
            go_roundw
            case rel => exact ⟨k + 1, s, t, s, t, by omega, by go_num, Below.setCell (Below.setCell HB5.out (by simp) _) (by simp) _, (set2_far n01).trans HG5.out, set2_row HG5'.out, HP5.out.set2 hne2 _ _, HK1'.out, HK2'.out⟩
            case measure => simp [intOf]; omega
        · obtain rfl : k = ms.length - 1 - 1 := by omega
          have c0 := cell_of_row wr _ 0 _ _ _ hg
          have c1 := cell_of_row wr _ 1 _ _ _ hg
          have c2 := cell_of_row wr _ 0 _ _ _ hg'
          have c3 := cell_of_row wr _ 1 _ _ _ hg'
          have e0 := blk_frozen hg 0
          have e1 := blk_frozen hg 1
          have e2 := blk_frozen hg' 0
          have e3 := blk_frozen hg' 1
          simp at c0 c1 c2 c3
          clear hg hg' hp
          go_wp2
          go_region_held3 (fun w' => w'.cell? ⟨w.heap.size, 0, none⟩ = some (.int .i64 l0) ∧ w'.cell? ⟨w.heap.size, 1, none⟩ = some (.int .i64 l1) ∧ w'.cell? ⟨w.heap.size + 1, 0, none⟩ = some (.int .i64 m0) ∧ w'.cell? ⟨w.heap.size + 1, 1, none⟩ = some (.int .i64 m1))
            ((simp only [cell_drew']; first | with_reducible exact ⟨c0, c1, c2, c3⟩ | with_reducible exact ⟨same2_0 c0, same2_1 c1, (cell_far2 (p := ⟨w.heap.size + 1, _, none⟩) n10).trans c2, (cell_far2 (p := ⟨w.heap.size + 1, _, none⟩) n10).trans c3⟩ | with_reducible exact ⟨(cell_far2 (p := ⟨w.heap.size, _, none⟩) n01).trans (same2_0 c0), (cell_far2 (p := ⟨w.heap.size, _, none⟩) n01).trans (same2_1 c1), same2_0 ((cell_far2 (p := ⟨w.heap.size + 1, _, none⟩) n10).trans c2), same2_1 ((cell_far2 (p := ⟨w.heap.size + 1, _, none⟩) n10).trans c3)⟩))
            ((fail))
          go_wp2
          refine bodyPost_ret (v := .tuple #[.agg #[.int .i64 l0, .int .i64 l1], .agg #[.int .i64 m0, .int .i64 m1], .int .i64 0]) (by simp [results, Try.results38, go_sem, c0, c1, c2, c3]) rfl
            ⟨l0, l1, m0, m1, 0, rfl, by refine Below.drew (Below.setCell (Below.setCell (Below.setCell (Below.setCell hB ?_ _) ?_ _) ?_ _) ?_ _) <;> simp, ?_⟩
          refine ⟨?_, ?_, ?_⟩
          · show (l0, l1) = spsN1 ms
            rw [spsN1, if_pos HV.out, hlm.out.1]
            congr 1 <;> omega
          · show (m0, m1) = spsN2 ms
            rw [spsN2, if_pos HV.out, hlm.out.2]
            congr 1 <;> omega
          · simp [clkE, HV.out]
  · have hv2 : vkB ms = false := by simpa using hv
    go_enter Try.func38, Try.ntmps38
    go_wp2_with (first
      | (go_at_call 32; refine (validClock_any _ _ _ _ (H.out.below (by repeat (first | with_reducible exact Below.refl _ _ | with_reducible assumption | refine below_drewN ?_ _ | with_reducible refine Below.drew ?_ | (refine Below.setCell ?_ (by first | (simp; done) | (simp; omega) | omega) _) | (refine Below.alloc ?_ (by first | (simp; done) | (simp; omega) | omega) _)))).marks H.out.len).mono ?_; rintro e w1 ⟨he, hB1⟩; rw [hv2] at he; subst he; have hW1 : Below w.heap.size w w1 := Below.trans (by exact (by repeat (first | with_reducible exact Below.refl _ _ | with_reducible assumption | refine below_drewN ?_ _ | with_reducible refine Below.drew ?_ | (refine Below.setCell ?_ (by first | (simp; done) | (simp; omega) | omega) _) | (refine Below.alloc ?_ (by first | (simp; done) | (simp; omega) | omega) _)))) (hB1.mono (by first | (simp; done) | (simp; omega) | omega)); have z1 := hB1.size; simp at z1; have hG := (hB1.block w.heap.size (by simp; omega)).trans ((Below.heap_alloc _ _ _ (by simp)).trans (heap_alloc_new w _)); have hG' : w1.heap[w.heap.size + 1]? = some (.cells #[.int .i64 0, .int .i64 0] 36 (0, 0)) := (hB1.block (w.heap.size + 1) (by simp)).trans (by rw [show w.heap.size + 1 = (w.alloc (.cells #[.int .i64 0, .int .i64 0] 36)).heap.size by simp]; exact heap_alloc_new _ _); have e0 := blk_frozen hG 0; have e1 := blk_frozen hG 1; have e2 := blk_frozen hG' 0; have e3 := blk_frozen hG' 1; have c0 := cell_of_row w1 _ 0 _ _ _ hG; have c1 := cell_of_row w1 _ 1 _ _ _ hG; have c2 := cell_of_row w1 _ 0 _ _ _ hG'; have c3 := cell_of_row w1 _ 1 _ _ _ hG'; simp at c0 c1 c2 c3; have HG := Lib.hid hG; have HG' := Lib.hid hG'; clear hG hG'; have n10 : w.heap.size + 1 ≠ w.heap.size := (by omega); have n01 : w.heap.size ≠ w.heap.size + 1 := (by omega)))
    obtain ⟨g0, g1⟩ := set22 (a := .int .i64 0) (b := .int .i64 0) (p := .int .i64 0) (q := .int .i64 0) HG.out HG'.out (by omega)
    have hBW : Below w.heap.size w ((((w1.setCell ⟨w.heap.size, 0, none⟩ (.int .i64 0)).setCell ⟨w.heap.size, 1, none⟩ (.int .i64 0)).setCell ⟨w.heap.size + 1, 0, none⟩ (.int .i64 0)).setCell ⟨w.heap.size + 1, 1, none⟩ (.int .i64 0)) := by
      refine Below.setCell (Below.setCell (Below.setCell (Below.setCell hW1 ?_ _) ?_ _) ?_ _) ?_ _ <;> simp
    generalize (((w1.setCell ⟨w.heap.size, 0, none⟩ (.int .i64 0)).setCell ⟨w.heap.size, 1, none⟩ (.int .i64 0)).setCell ⟨w.heap.size + 1, 0, none⟩ (.int .i64 0)).setCell ⟨w.heap.size + 1, 1, none⟩ (.int .i64 0) = W at *
    clear c0 c1 c2 c3
    have c0 := cell_of_row W _ 0 _ _ _ g0
    have c1 := cell_of_row W _ 1 _ _ _ g0
    have c2 := cell_of_row W _ 0 _ _ _ g1
    have c3 := cell_of_row W _ 1 _ _ _ g1
    simp at c0 c1 c2 c3
    refine bodyPost_ret (v := .tuple #[.agg #[.int .i64 0, .int .i64 0], .agg #[.int .i64 0, .int .i64 0], .int .i64 11]) (by simp [results, Try.results38, go_sem, c0, c1, c2, c3]) rfl
      ⟨0, 0, 0, 0, 11, rfl, hBW, ?_⟩
    exact ⟨by simp [spsN1, hv2], by simp [spsN2, hv2], by simp [clkE, hv2]⟩
end Go.Proofs.Ytjghlfagdleglaa
