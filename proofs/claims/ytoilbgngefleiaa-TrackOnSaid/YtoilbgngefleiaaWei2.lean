/-
  Contracts: on (its own row), the comparison by X (track.proof$1).
-/
import Derived.Test.YtoilbgngefleiaaWei1
import Derived.Test.YtoilbgngefleiaaSort
namespace Go.Proofs.Ytoilbgngefleiaa
open Go.RowKit Go.Shelf

set_option maxRecDepth 100000 in
set_option maxHeartbeats 1000000 in
theorem on_own (ms : List (Int × Int)) (A : Option Addr) (c : Nat) (a b d : Int) (w : World) (h : Marks w A ms) (hl : ms.length ≤ 1000) (hL : LnB a b d) (hv : ms.all ptB = true) :
    Calls Try.prog 69 #[.slice A ms.length c, .agg #[.int .i64 a, .int .i64 b, .int .i64 d]] w fun e w' => ∃ (v : Value) (ys : List Int), e = .returned v ∧ w'.ownsRow w.heap.size 3 1 v ys.length (ys.map (Value.int .i64)) ∧ Below w.heap.size w w' ∧ Hid (ys = zeroL (ms.map (rsI a b d)) ms.length) := by
  have H := Lib.hid h
  have HL := Lib.hid hL
  have HV := Lib.hid hv
  clear h hL hv
  go_enter Try.func69, Try.ntmps69
  go_wp2_with (go_at_call 58; refine (rests_any ms A c a b d _ (H.out.below (by repeat (first | with_reducible exact Below.refl _ _ | with_reducible assumption | refine below_drewN ?_ _ | with_reducible refine Below.drew ?_ | (refine Below.setCell ?_ (by first | (simp; done) | (simp; omega) | omega) _) | (refine Below.alloc ?_ (by first | (simp; done) | (simp; omega) | omega) _)))) hl HL.out HV.out).mono ?_; rintro e w2 ⟨A2, c2, zs, rfl, hO, hB2, hzs⟩)
  have HZL : Hid (zs.length = ms.length) := Lib.hid (by rw [hzs.out]; simp)
  have HZ1 : zs.length ≤ 1000 := by rw [HZL.out]; exact hl
  have HB2 : Hid (Below w.heap.size w w2) := Lib.hid (below_step (by repeat (first | with_reducible exact Below.refl _ _ | with_reducible assumption | refine below_drewN ?_ _ | with_reducible refine Below.drew ?_ | (refine Below.setCell ?_ (by first | (simp; done) | (simp; omega) | omega) _) | (refine Below.alloc ?_ (by first | (simp; done) | (simp; omega) | omega) _))) hB2)
  have hw2 : w.heap.size ≤ w2.heap.size := HB2.out.size
  have HO := Lib.hid hO
  clear hB2 hO
  go_loopw [5, 12] (fun v i wr => ∃ k m : Nat, k ≤ zs.length ∧ i = .int .i64 k ∧ Hid (m = (zeroL zs k).length) ∧ m ≤ k ∧ wr.ownsRow w2.heap.size 3 1 v m ((zeroL zs k).map (Value.int .i64)) ∧ Below w2.heap.size w2 wr) (fun _ i _ => zs.length - (intOf i).toNat)
  case atStart => exact ⟨0, 0, Nat.zero_le _, rfl, rfl, Nat.le_refl _, World.ownsRow_nil _ _ _ _, Below.refl _ _⟩
  case round =>
    obtain ⟨k, m, hk, rfl, hm, hmk, hown, hB⟩ := hrel
    by_cases hlt : k < zs.length
    · obtain ⟨ad, z, rfl, hbk, hz, hc⟩ := HO.out.ints.get hlt
      have hcr := (hB.cell (p := ad.add k) (by rw [block_of_add]; exact hbk)).trans hc
      clear hc
      by_cases h0 : z = 0
      · subst h0
        have HN := Lib.hid (zeroL_yes hz.out)
        go_wp2_with (at_builtin; refine wp_app_int _ rfl (.tmp 19) (.tmp 21) rfl w2.heap.size _ m _ _ rfl hown rfl (by omega) hB.size ?_; intro v2 w4 hown4 hB4)
        go_roundw
        case rel => exact ⟨k + 1, m + 1, by omega, by go_num, Lib.hid (by rw [HN.out, List.length_append, ← hm.out]; rfl), by omega, by rw [HN.out]; exact hown4, hB.trans hB4⟩
        case measure => simp [intOf]; omega
      · have t0 : (z == 0) = false := by simpa using h0
        have HN := Lib.hid (zeroL_no hz.out h0)
        go_wp2
        go_roundw
        case rel => exact ⟨k + 1, m, by omega, by go_num, Lib.hid (by rw [HN.out, ← hm.out]), by omega, by rw [HN.out]; exact hown, hB⟩
        case measure => simp [intOf]; omega
    · obtain rfl : k = zs.length := by omega
      go_wp2
      go_ret
      obtain rfl := hm.out
      exact ⟨_, _, rfl, own_base2 hown hw2, HB2.out.trans (hB.mono hw2), Lib.hid (by rw [HZL.out, hzs.out])⟩

set_option maxRecDepth 100000 in
set_option maxHeartbeats 1000000 in
theorem byX_cmp (ms : List (Int × Int)) (A : Option Addr) (c B : Nat) (w : World) (hA : Marks w A ms) (hl : ms.length ≤ 1000) (hb : B < w.heap.size) (hc : w.cell? ⟨B, 0, none⟩ = some (.slice A ms.length c)) (S : List Int) (hS : ∀ z ∈ S, ∃ j : Nat, z = j ∧ j < ms.length) :
    CmpAt 102 #[.pointer (some ⟨B, 0, none⟩)] (fun z => (ptK ms z).1) S w.heap.size w := by
  intro W x y hx hy hW
  obtain ⟨i, rfl, hi⟩ := hS x hx
  obtain ⟨j, rfl, hj⟩ := hS y hy
  obtain ⟨bl, off, rfl, hbl, hcells⟩ := hA.open_ (show 0 < ms.length by omega)
  obtain ⟨p, q, hpq⟩ := getM_of_lt hi
  obtain ⟨r, s, hrs⟩ := getM_of_lt hj
  have c0 := (hW.cell (p := ⟨bl, off + i * 2, none⟩) hbl).trans (by simpa using (hcells i _ hpq).1)
  have c1 := (hW.cell (p := ⟨bl, off + j * 2, none⟩) hbl).trans (by simpa using (hcells j _ hrs).1)
  have c2 := (hW.cell (p := ⟨B, 0, none⟩) hb).trans hc
  have HE : Hid ((ptK ms i).1 = p ∧ (ptK ms j).1 = r) := Lib.hid ⟨by unfold ptK; rw [Int.toNat_natCast, List.getD_eq_getElem?_getD, hpq]; rfl, by unfold ptK; rw [Int.toNat_natCast, List.getD_eq_getElem?_getD, hrs]; rfl⟩
  clear hcells hpq hrs hA hc hS hx hy
  go_enter Try.func102, Try.ntmps102
  go_wp2
  go_quiet ((go_at_call 100; exact Calls.quiet_of_same ((cmpInt_any _ _ _).mono fun _ _ h => ⟨h.1, h.2.symm⟩)))
  go_wp2
  go_ret
  exact ⟨(by dsimp only; rw [HE.out.1, HE.out.2]; rfl), _, rfl⟩
end Go.Proofs.Ytoilbgngefleiaa
