/-
  Contract: corners (tick).
-/
import Derived.Test.YtjghlfagdleglaaConcat
import Derived.Sort.OwnSortedInts
namespace Go.Proofs.Ytjghlfagdleglaa
open Go.RowKit Go.Sort

theorem sort_own (base : Nat) (v : Value) (xs : List Int) (w : World) (hown : w.ownsRow base 3 1 v xs.length (xs.map (Value.int .i64))) (h0 : 0 < xs.length) (hl : xs.length ≤ 1000000) (hb : base ≤ w.heap.size) :
    Calls Try.prog 84 #[v] w fun e w' => e = .returned (.tuple #[]) ∧ w'.ownsRow base 3 1 v xs.length ((xs.mergeSort fun x y => decide (x ≤ y)).map (Value.int .i64)) ∧ Below base w w' := by
  rcases hown.2 with ⟨rfl, h⟩ | ⟨g, cap, cur, rfl, hg, hh, h1, h2, h3, h4⟩
  · omega
  · have hlt : g < w.heap.size := (Array.getElem?_eq_some_iff.1 hh).1
    refine (Go.Proofs.Any.slices_Sort_int lays189 g 0 cap xs w (holds_of_blockI hh (by simpa using h4)) hlt (by omega)).mono ?_
    rintro e w' ⟨rfl, n, os, rfl⟩
    refine ⟨rfl, ownsRow_sortedI (by simp) hg hh h1 h2 h3, ?_⟩
    exact (Below.refl base w).grown (grownBy_sortedI _) hb (fun k hk => by cases hk; exact hg)
theorem own_base {w : World} {base : Nat} {t : TypeId} {sz n : Nat} {v : Value} {xs : List Value} (h : w.ownsRow base t sz v n xs) : ∀ A l c, v = .slice A l c → ∀ x, A = some x → base ≤ x.block := by
  intro A l c hv x hx
  subst hv hx
  rcases h.2 with ⟨h0, _⟩ | ⟨g, cap, cur, h1, h2, _⟩
  · cases h0
  · cases h1; exact h2
def cornIn (a b : Int) (x : Int) : Bool := decide (a < x) && decide (x < b)
def cornersU (ms ns : List (Int × Int)) (a b : Int) : List Int := a :: b :: ((ms ++ ns).map (·.1)).filter (cornIn a b)
def cornersL (ms ns : List (Int × Int)) (a b : Int) : List Int := (cornersU ms ns a b).mergeSort fun x y => decide (x ≤ y)
theorem own_two {w : World} {a b : Int} : (w.alloc (.cells #[.int .i64 a, .int .i64 b] 3)).ownsRow w.heap.size 3 1 (.slice (some ⟨w.heap.size, 0, none⟩) 2 2) 2 ([a, b].map (Value.int .i64)) :=
  ⟨rfl, .inr ⟨w.heap.size, 2, _, rfl, Nat.le_refl _, heap_alloc_new w _, Nat.le_refl _, by unfold maxLen; omega, rfl, rfl⟩⟩
def cornK (zs : List (Int × Int)) (a b : Int) (k : Nat) : List Int := a :: b :: ((zs.take k).map (·.1)).filter (cornIn a b)
theorem cornK_succ {zs : List (Int × Int)} {a b : Int} {k : Nat} {m : Int × Int} (h : zs[k]? = some m) : cornK zs a b (k + 1) = if cornIn a b m.1 then cornK zs a b k ++ [m.1] else cornK zs a b k := by
  rw [cornK, take_snoc h]
  split <;> simp_all [cornK]
theorem cornK_len (zs : List (Int × Int)) (a b : Int) (k : Nat) : (cornK zs a b k).length ≤ zs.length + 2 := by
  have h1 := List.length_filter_le (cornIn a b) ((zs.take k).map (·.1))
  simp [cornK]
  simp at h1
  omega

section
variable {ops : Array Oper} {rest : List Oper} {o : Oper} {a : Act} {Q : Exit → Act → World → Prop}
theorem wp_app_int2 (w : World) (hgd : o.guard = none) (s x : Operand)
    (ho : o.op = .call { callee := .builtin .append, args := #[s, x], argTypes := #[22, 22] })
    (base : Nat) (v : Value) (n : Nat) (xs : List Int) (z : Int) (hs : a.eval s = v) (hown : w.ownsRow base 3 1 v n (xs.map (Value.int .i64)))
    (hx : a.eval x = .slice (some ⟨w.heap.size, 0, none⟩) 1 1) (hn : n ≤ 1000000) (hbase : base ≤ w.heap.size)
    (h : ∀ v' w', w'.ownsRow base 3 1 v' (n + 1) ((xs ++ [z]).map (Value.int .i64)) → Below base w w' → (∀ g, g < w.heap.size → v.ownBlock ≠ some g → w'.heap[g]? = w.heap[g]?) → wpList Try.prog ops Q rest (a.put o.dst v') w') :
    wpList Try.prog ops Q (o :: rest) a (w.alloc (.cells #[.int .i64 z] 3)) := by
  obtain ⟨i0, hi0, hz0, hz1, hz2⟩ := info_parts int_info
  refine wpList_append_own _ hgd s x 22 ho base 3 i0 (.int .i64 0) 1 8 Try.underlying22 hi0 hz0 hz1 hz2 rfl (by decide) v n _ hs (hown.alloc _) ⟨w.heap.size, 0, none⟩ 1 1 [.int .i64 z] hx rfl
    (cells_new w [.int .i64 z] 3) ?_ (by unfold maxLen; omega) (by omega) (by simp; omega) ?_
  · intro u hu; simp at hu; subst hu; rfl
  · intro v' w' ho' hg _
    refine h v' w' (by simpa using ho') (((Below.refl base w).alloc hbase _).grown hg (by simp; omega) ?_) ?_
    · intro k hk
      exact (hown.lt k hk).1
    · intro g hg1 hg2
      exact (hg.block g (by simp; omega) (fun e => hg2 e.symm)).trans (Below.heap_alloc w _ g hg1)
end

set_option maxRecDepth 100000 in
set_option maxHeartbeats 1600000 in
theorem corners_any (ms ns : List (Int × Int)) (A B : Option Addr) (c d : Nat) (a b : Int) (w : World) (hA : Clk w A c ms) (hB : Clk w B d ns) (hv : vkB ms = true) (hv' : vkB ns = true) :
    Calls Try.prog 76 #[.slice A ms.length c, .slice B ns.length d, .int .i64 a, .int .i64 b] w fun e w' => ∃ (A' : Option Addr) (c' : Nat) (xs : List Int),
      e = .returned (.slice A' xs.length c') ∧ Out w' A' c' xs ∧ Below w.heap.size w w' ∧ Hid (xs = cornersL ms ns a b) ∧ ∀ x, A' = some x → w.heap.size ≤ x.block := by
  obtain ⟨hn2, hn30⟩ := vk_parts hv
  obtain ⟨hm2, hm30⟩ := vk_parts hv'
  have HA := Lib.hid hA
  have HB := Lib.hid hB
  clear hA hB hv hv'
  go_enter Try.func76, Try.ntmps76
  go_wp2_with fail
  have hcell : ∀ (j : Nat) (u : Value), (#[Value.slice A ms.length c, Value.slice B ns.length d] : Array Value)[j]? = some u → ((w.alloc (.cells #[.int .i64 a, .int .i64 b] 3)).alloc (.cells #[.slice A ms.length c, .slice B ns.length d] 34)).cell? ⟨w.heap.size + 1, j, none⟩ = some u := by
    intro j u hj
    have := cell_of_row ((w.alloc (.cells #[.int .i64 a, .int .i64 b] 3)).alloc (.cells #[.slice A ms.length c, .slice B ns.length d] 34)) (w.heap.size + 1) j _ _ _ (by rw [show w.heap.size + 1 = (w.alloc (.cells #[.int .i64 a, .int .i64 b] 3)).heap.size by simp]; exact heap_alloc_new _ _)
    rw [this]; exact hj
  refine (concat_any ms ns A B c d (w.heap.size + 1) _ (HA.out.below (by repeat (first | with_reducible exact Below.refl _ _ | with_reducible assumption | refine below_drewN ?_ _ | with_reducible refine Below.drew ?_ | (refine Below.setCell ?_ (by first | (simp; done) | (simp; omega) | omega) _) | (refine Below.alloc ?_ (by first | (simp; done) | (simp; omega) | omega) _)))).marks (HB.out.below (by repeat (first | with_reducible exact Below.refl _ _ | with_reducible assumption | refine below_drewN ?_ _ | with_reducible refine Below.drew ?_ | (refine Below.setCell ?_ (by first | (simp; done) | (simp; omega) | omega) _) | (refine Below.alloc ?_ (by first | (simp; done) | (simp; omega) | omega) _)))).marks (by omega) (by omega) (by omega) (by omega) (by simp) (hcell 0 _ rfl) (hcell 1 _ rfl)).mono ?_
  rintro e w1 ⟨A1, c1, zs, rfl, hC1, hB1, hzs, hty⟩
  clear hcell
  have hzl : zs.length = ms.length + ns.length := by rw [hzs.out]; simp
  obtain ⟨b1, o1, rfl, hb1, hcells⟩ := hC1.marks.open_ (by omega)
  obtain ⟨cur, hcur⟩ := hty _ rfl
  simp only at hcur
  have HC := Lib.hid hcells
  have HCUR := Lib.hid hcur
  have hown0 : w1.ownsRow w.heap.size 3 1 (.slice (some ⟨w.heap.size, 0, none⟩) 2 2) 2 ([a, b].map (Value.int .i64)) := own_same (w' := w1) (own_two.alloc (.cells #[.slice A ms.length c, .slice B ns.length d] 34)) (fun g hg => hB1.block g hg)
  have hW1 : Below w.heap.size w w1 := Below.trans (by exact (by repeat (first | with_reducible exact Below.refl _ _ | with_reducible assumption | refine below_drewN ?_ _ | with_reducible refine Below.drew ?_ | (refine Below.setCell ?_ (by first | (simp; done) | (simp; omega) | omega) _) | (refine Below.alloc ?_ (by first | (simp; done) | (simp; omega) | omega) _)))) (hB1.mono (by simp; omega))
  have hz1 := hW1.size
  have hzk : zs.length ≤ 60 := by omega
  clear hcells hcur hty hC1 hB1
  go_wp2_with fail
  go_loopw [9, 20] (fun v i wr => ∃ k : Nat, k ≤ zs.length ∧ i = .int .i64 k ∧ wr.ownsRow w.heap.size 3 1 v (cornK zs a b k).length ((cornK zs a b k).map (Value.int .i64)) ∧ Below w.heap.size w wr ∧ wr.heap[b1]? = some (.cells cur 61 (0, 0))) (fun _ i _ => zs.length - (intOf i).toNat)
  case atStart => exact ⟨0, Nat.zero_le _, rfl, hown0, hW1, HCUR.out⟩
  case round =>
    clear hown0 hW1 hz1
    obtain ⟨k, hk, rfl, hown, hB, hcw⟩ := hrel
    have hz := hB.size
    by_cases hlt : k < zs.length
    · obtain ⟨p, q, hx⟩ := getM_of_lt hlt
      have f0 := (World.cell?_of_block (a := ⟨b1, o1 + k * 2, none⟩) (hcw.trans HCUR.out.symm)).trans (HC.out _ _ hx).1
      have f1 := (World.cell?_of_block (a := ⟨b1, o1 + k * 2 + 1, none⟩) (hcw.trans HCUR.out.symm)).trans (HC.out _ _ hx).2
      have HK := Lib.hid (cornK_succ (a := a) (b := b) hx)
      have hkl := cornK_len zs a b k
      have hbw : b1 < wr.heap.size := (Array.getElem?_eq_some_iff.1 hcw).1
      have HCW := Lib.hid hcw
      have HOWN := Lib.hid hown
      have HB1 := Lib.hid hB
      clear hx hcw hown hB
      cases hin : cornIn a b p
      · have HK' : Hid (cornK zs a b (k + 1) = cornK zs a b k) := by show _ = _; rw [HK.out]; simp [hin]
        have hin2 : a < p → ¬ p < b := by intro h1 h2; simp [cornIn, h1, h2] at hin
        have HW : Hid (Below w.heap.size w (wr.alloc (.cells #[.int .i64 p, .int .i64 q] 61))) := by
          show Below _ _ _; exact Below.alloc HB1.out hz _
        clear HK hin
        by_cases h1 : a < p
        · have h2 := hin2 h1
          go_wp2
          go_roundw
          case rel => exact ⟨k + 1, by omega, by go_num, by rw [HK'.out]; exact HOWN.out.alloc _, HW.out, (Below.heap_alloc _ _ _ hbw).trans HCW.out⟩
          case measure => simp [intOf]; omega
        · go_wp2
          go_roundw
          case rel => exact ⟨k + 1, by omega, by go_num, by rw [HK'.out]; exact HOWN.out.alloc _, HW.out, (Below.heap_alloc _ _ _ hbw).trans HCW.out⟩
          case measure => simp [intOf]; omega
      · have HK' : Hid (cornK zs a b (k + 1) = cornK zs a b k ++ [p]) := by show _ = _; rw [HK.out]; simp [hin]
        obtain ⟨h1, h2⟩ : a < p ∧ p < b := by simpa [cornIn] using hin
        have HW : Hid (Below w.heap.size w (wr.alloc (.cells #[.int .i64 p, .int .i64 q] 61))) := by
          show Below _ _ _; exact Below.alloc HB1.out hz _
        have HS : Hid (Value.slice (some ⟨wr.heap.size + 1, 0, none⟩) 1 1 = Value.slice (some ⟨(wr.alloc (.cells #[.int .i64 p, .int .i64 q] 61)).heap.size, 0, none⟩) 1 1) := by show _ = _; simp
        have HCW2 : Hid ((wr.alloc (.cells #[.int .i64 p, .int .i64 q] 61)).heap[b1]? = some (.cells cur 61 (0, 0))) := (Below.heap_alloc _ _ _ hbw).trans HCW.out
        have HOWN2 := Lib.hid (HOWN.out.alloc (.cells #[.int .i64 p, .int .i64 q] 61))
        have HNE := Lib.hid (own_ne HOWN2.out HCW2.out (by decide))
        have hbw2 : b1 < (wr.alloc (.cells #[.int .i64 p, .int .i64 q] 61)).heap.size := by simp; omega
        clear HK hin
        go_wp2_with (at_builtin; refine wp_app_int2 (wr.alloc (.cells #[.int .i64 p, .int .i64 q] 61)) rfl (.tmp 34) (.tmp 37) rfl w.heap.size _ _ _ p rfl HOWN2.out HS.out (by omega) HW.out.size ?_; intro v2 w2 hown2 hB2 hfar)
        go_roundw
        case rel => exact ⟨k + 1, by omega, by go_num, by rw [HK'.out, List.length_append]; exact hown2, HW.out.trans hB2, (hfar b1 hbw2 HNE.out).trans HCW2.out⟩
        case measure => simp [intOf]; omega
    · obtain rfl : k = zs.length := by omega
      have hkl := cornK_len zs a b zs.length
      have hk2 : 0 < (cornK zs a b zs.length).length := by simp [cornK]
      go_wp2_with (go_at_call 84; refine (sort_own w.heap.size _ (cornK zs a b zs.length) _ hown hk2 (by omega) hz).mono ?_; rintro e w2 ⟨rfl, hown2, hB2⟩)
      go_ret
      have e1 : cornersL ms ns a b = (cornK zs a b zs.length).mergeSort fun x y => decide (x ≤ y) := by
        rw [cornersL, cornersU, cornK, List.take_length, hzs.out]
      have e2 : ((cornK zs a b zs.length).mergeSort fun x y => decide (x ≤ y)).length = (cornK zs a b zs.length).length := by simp
      rw [← e2] at hown2
      have hbs := own_base hown2
      obtain ⟨A', c', rfl, hI⟩ := own_ints hown2
      exact ⟨A', c', _, rfl, hI, hB.trans hB2, e1.symm, fun x hx => hbs _ _ _ rfl x hx⟩
end Go.Proofs.Ytjghlfagdleglaa
