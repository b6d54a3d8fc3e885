/-
  Contracts: all, first, First (firnref02).
-/
import Derived.Test.YtmlkdjcjfkfdiaaBefores
namespace Go.Proofs.Ytmlkdjcjfkfdiaa
open Go.RowKit Go.Shelf

/-- A slice of bools that reads as the list bs. -/
def Bools (w : World) (A : Option Addr) (bs : List Bool) : Prop := Reads w w.heap.size 1 A bs.length (bs.map Value.bool)
theorem Bools.get {w : World} {A : Option Addr} {bs : List Bool} (h : Bools w A bs) {k : Nat} (hk : k < bs.length) :
    ∃ ad z, A = some ad ∧ ad.block < w.heap.size ∧ Hid (bs[k]? = some z) ∧ w.cell? (ad.add k) = some (.bool z) := by
  obtain ⟨ad, u, e, hb, hx, hc⟩ := Reads.at_ h hk
  refine ⟨ad, bs[k], e, hb, List.getElem?_eq_getElem hk, ?_⟩
  rw [List.getElem?_map, List.getElem?_eq_getElem hk] at hx
  simp only [Option.map_some, Option.some.injEq] at hx
  rw [hc, ← hx]
theorem Bools.below {w w' : World} {A : Option Addr} {bs : List Bool} (h : Bools w A bs) (hb : Below w.heap.size w w') : Bools w' A bs := (Reads.below h hb).more hb.size
theorem bool_info : (Try.prog.info? 4).map (fun i => (i.zero, i.size, i.bytes)) = some (some (.bool false), 1, 1) := by kernel_rfl

def fillB (n k : Nat) : List Bool := List.replicate k true ++ List.replicate (n - k) false
theorem fillB_full (n : Nat) : fillB n n = List.replicate n true := by simp [fillB]
theorem fillB_get {n k : Nat} (h : k < n) : (fillB n k)[k]? = some false := by
  rw [fillB, List.getElem?_append_right (by simp), List.length_replicate, Nat.sub_self, List.getElem?_replicate]
  simp; omega
theorem fillB_set {n k : Nat} (h : k < n) : (fillB n k).set k true = fillB n (k + 1) := by
  rw [fillB, List.set_append_right _ _ (by simp), List.length_replicate, Nat.sub_self, fillB, List.replicate_succ']
  obtain ⟨m, hm⟩ : ∃ m, n - k = m + 1 := ⟨n - k - 1, by omega⟩
  rw [hm, List.replicate_succ, List.set_cons_zero, List.append_assoc, show n - (k + 1) = m by omega]
  rfl
theorem made_fillB (n : Nat) : (madeCells (Value.bool false).cells (n * 1)).toList = (fillB n 0).map Value.bool := by
  simp only [fillB, List.replicate_zero, List.nil_append, Nat.sub_zero, List.map_replicate]
  rw [List.eq_replicate_iff]; simp [madeCells, Value.cells, Nat.mod_one]
theorem own_bools {w : World} {base n : Nat} {v : Value} {xs : List Bool} (h : w.ownsRow base 4 1 v n (xs.map Value.bool)) :
    ∃ A c, v = .slice A xs.length c ∧ Bools w A xs := by
  have hl : xs.length = n := by have := h.1; simpa using this
  subst hl
  rcases h.2 with ⟨rfl, h0⟩ | ⟨g, cap, cur, rfl, _, _, h1, h2, _⟩
  · have : xs = [] := List.eq_nil_of_length_eq_zero h0
    subst this
    exact ⟨none, 0, rfl, Reads.none_⟩
  · exact ⟨_, cap, rfl, Reads.of_own h⟩

set_option maxRecDepth 100000 in
set_option maxHeartbeats 400000 in
theorem refAll_any (n : Nat) (A : Option Addr) (c : Nat) (w : World) (hn : n ≤ 1000) :
    Calls Try.prog 68 #[.slice A n c] w fun e w' => ∃ (A' : Option Addr) (c' : Nat), e = .returned (.slice A' n c') ∧ Bools w' A' (List.replicate n true) ∧ Below w.heap.size w w' := by
  obtain ⟨i0, hi0, hz0, hz1, hz2⟩ := info_parts bool_info
  have HZ2 := Lib.hid hz2
  clear hz2
  go_enter Try.func68, Try.ntmps68
  go_wp2_with (at_make; refine wpList_make_full _ rfl _ _ 75 rfl w.heap.size 4 i0 (.bool false) 1 Try.underlying75 hi0 hz0 hz1 _ _ _ _ n rfl rfl rfl rfl (by rw [HZ2.out]; omega) (by unfold maxLen; omega) (Nat.le_refl _) ?_; intro w1 hown1 hg1)
  have hB1 : Below w.heap.size w w1 := (Below.refl _ _).grown hg1 (Nat.le_refl _) (by simp)
  rw [made_fillB] at hown1
  clear hg1 HZ2 hz0 hz1 hi0
  go_loopw [4] (fun i wr => ∃ k : Nat, k ≤ n ∧ i = .int .i64 k ∧ wr.ownsRow w.heap.size 4 1 (.slice (some ⟨w.heap.size, 0, none⟩) n n) n ((fillB n k).map Value.bool) ∧ Below w.heap.size w wr) (fun i _ => n - (intOf i).toNat)
  case atStart => exact ⟨0, Nat.zero_le _, rfl, hown1, hB1⟩
  case round =>
    clear hown1 hB1
    obtain ⟨k, hk, rfl, hown, hB⟩ := hrel
    by_cases hlt : k < n
    · have hc := hown.cellAt k (by omega)
      rw [List.getElem?_map, fillB_get hlt, Option.map_some] at hc
      have hf := hown.frozenAt k
      go_wp2
      go_roundw
      case rel => exact ⟨k + 1, by omega, by go_num, by rw [← fillB_set hlt, List.map_set]; exact (hown.stored k _).1, hB.setCell (Nat.le_refl _) _⟩
      case measure => simp [intOf]; omega
    · obtain rfl : k = n := by omega
      go_wp2
      go_ret
      rw [fillB_full] at hown
      obtain ⟨A', c', e, hO⟩ := own_bools hown
      rw [List.length_replicate] at e
      cases e
      exact ⟨_, _, rfl, hO, hB⟩

/-- Whether a hit of those that are left has none of them before it. -/
def leftB (bs : List Bool) (a : Int) : Bool := bs.getD a.toNat false
def clearB (ms : List (Int × Int)) (bs : List Bool) (a : Int) (l : List Int) : Bool := !(l.any fun b => leftB bs b && befI ms b a)
def firstB (ms : List (Int × Int)) (bs : List Bool) : List Int := (allL ms.length).filter fun a => leftB bs a && clearB ms bs a (allL ms.length)
theorem leftB_of {bs : List Bool} {k : Nat} {z : Bool} (h : bs[k]? = some z) : leftB bs (k : Int) = z := by
  rw [leftB, Int.toNat_natCast, List.getD_eq_getElem?_getD, h]; rfl
theorem clearB_succ (ms : List (Int × Int)) (bs : List Bool) (a : Int) (k : Nat) : clearB ms bs a (allL (k + 1)) = (clearB ms bs a (allL k) && !(leftB bs k && befI ms k a)) := by
  rw [clearB, allL_succ, List.any_append, clearB]; simp
theorem clearB_zero (ms : List (Int × Int)) (bs : List Bool) (a : Int) : clearB ms bs a (allL 0) = true := rfl
theorem firstB_all (ms : List (Int × Int)) : firstB ms (List.replicate ms.length true) = firstL ms := by
  have hl : ∀ a ∈ allL ms.length, leftB (List.replicate ms.length true) a = true := by
    intro a ha
    obtain ⟨h0, h1⟩ := allL_mem ha
    obtain ⟨k, rfl⟩ := Int.eq_ofNat_of_zero_le h0
    exact leftB_of (by rw [List.getElem?_replicate]; simp; omega)
  rw [firstB, firstL, firstOfL]
  refine List.filter_congr fun a ha => ?_
  rw [hl a ha, Bool.true_and, clearB]
  congr 1
  rw [Bool.eq_iff_iff, List.any_eq_true, List.any_eq_true]
  constructor
  · rintro ⟨b, hb, h⟩; exact ⟨b, hb, by simp at h; exact h.2⟩
  · rintro ⟨b, hb, h⟩; exact ⟨b, hb, by rw [hl b hb, h]; rfl⟩
theorem firstB_take {k : Nat} (p : Int → Bool) : (allL (k + 1)).filter p = (allL k).filter p ++ (if p k then [(k : Int)] else []) := by
  rw [allL_succ, List.filter_append]; cases h : p (k : Int) <;> simp [h]

set_option maxRecDepth 100000 in
set_option maxHeartbeats 1600000 in
theorem refFirstB_any (ms : List (Int × Int)) (A : Option Addr) (c : Nat) (bs : List Bool) (B : Option Addr) (d : Nat) (w : World) (h : Marks w A ms) (hv : vhB ms = true) (hb : Bools w B bs) (hlen : bs.length = ms.length) :
    Calls Try.prog 67 #[.slice A ms.length c, .slice B bs.length d] w fun e w' => ∃ (A' : Option Addr) (c' : Nat) (ys : List Int), e = .returned (.slice A' ys.length c') ∧ Out w' A' c' ys ∧ Below w.heap.size w w' ∧ Hid (ys = firstB ms bs) := by
  have H := Lib.hid h
  have HBS := Lib.hid hb
  obtain ⟨hn1, hn2⟩ := vh_parts hv
  have HV := Lib.hid hv
  have hle : ms.length ≤ bs.length := by omega
  have HLE := Lib.hid hlen
  clear h hb hv hlen
  go_enter Try.func67, Try.ntmps67
  go_wp2
  go_loopw [5, 6] (fun v i wr => ∃ k : Nat, k ≤ ms.length ∧ i = .int .i64 k ∧ (∃ ys : List Int, wr.ownsRow w.heap.size 3 1 v ys.length (ys.map (Value.int .i64)) ∧ ys.length ≤ k ∧ Hid (ys = (allL k).filter fun a => leftB bs a && clearB ms bs a (allL ms.length))) ∧ Below w.heap.size w wr) (fun _ i _ => ms.length - (intOf i).toNat)
  case atStart => exact ⟨0, Nat.zero_le _, rfl, ⟨[], World.ownsRow_nil _ _ _ _, Nat.le_refl _, rfl⟩, Below.refl _ _⟩
  case round =>
    obtain ⟨k, hk, rfl, ⟨ys, hown, hyk, hys⟩, hB⟩ := hrel
    have hz := hB.size
    by_cases hlt : k < ms.length
    · obtain ⟨ad, z, rfl, hbk, hz1, hc⟩ := HBS.out.get (show k < bs.length by omega)
      have f0 := (hB.cell (p := ad.add k) (by rw [block_of_add]; exact hbk)).trans hc
      have hkb : k < bs.length := by omega
      have HK := Lib.hid (show hasB ms (k : Int) = true by simp [hasB]; omega)
      have HZ := Lib.hid (leftB_of hz1.out)
      have HM := Lib.hid (H.out.below hB)
      have HBW := Lib.hid (HBS.out.below hB)
      clear hc hz1
      go_wp2
      go_loopw [7, 8] (fun x j wr2 => ∃ (k2 m : Nat) (y : Bool), k2 ≤ ms.length ∧ j = .int .i64 k2 ∧ x = .bool y ∧ wr2 = wr.drewN m ∧ Hid (y = (leftB bs k && clearB ms bs k (allL k2)))) (fun _ j _ => ms.length - (intOf j).toNat)
      case atStart => exact ⟨0, 0, z, Nat.zero_le _, rfl, rfl, rfl, (by rw [HZ.out, clearB_zero, Bool.and_true] : z = _)⟩
      case round =>
        obtain ⟨k2, m, y, hk2, rfl, rfl, rfl, hy⟩ := hrel
        by_cases hlt2 : k2 < ms.length
        · have HS := Lib.hid (clearB_succ ms bs k k2)
          cases y with
          | false =>
            go_wp2
            go_roundw
            case rel => exact ⟨k2 + 1, m, false, by omega, by go_num, rfl, rfl, (by rw [HS.out, ← Bool.and_assoc, ← hy.out]; rfl : false = _)⟩
            case measure => simp [intOf]; omega
          | true =>
            obtain ⟨ad2, z2, e2, hbk2, hz2, hc2⟩ := HBW.out.get (show k2 < bs.length by omega)
            cases e2
            have hkb2 : k2 < bs.length := by omega
            have HK2 := Lib.hid (show hasB ms (k2 : Int) = true by simp [hasB]; omega)
            have HZ2 := Lib.hid (leftB_of hz2.out)
            cases z2 with
            | false =>
              go_wp2
              go_roundw
              case rel => exact ⟨k2 + 1, m, true, by omega, by go_num, rfl, rfl, (by rw [HS.out, ← Bool.and_assoc, ← hy.out, HZ2.out]; rfl : true = _)⟩
              case measure => simp [intOf]; omega
            | true =>
              go_wp2_with (go_at_call 61; refine (refBefore_any ms A c k2 k _ (HM.out.drewN m) HV.out HK2.out HK.out).mono ?_; rintro e w2 ⟨rfl, n, rfl⟩)
              go_roundw
              case rel => exact ⟨k2 + 1, _, _, by omega, by go_num, rfl, (by first | rfl | exact World.drewN_drewN _ _ _), (by rw [HS.out, ← Bool.and_assoc, ← hy.out, HZ2.out]; rfl : _ = _)⟩
              case measure => simp [intOf]; omega
        · obtain rfl : k2 = ms.length := by omega
          have HFT := Lib.hid (firstB_take (k := k) (fun a => leftB bs a && clearB ms bs a (allL ms.length)))
          cases y with
          | false =>
            go_wp2
            go_roundw
            case rel => exact ⟨k + 1, by omega, by go_num, ⟨ys, hown, by omega, (by rw [HFT.out, ← hy.out, hys.out]; simp : ys = _)⟩, below_drewN hB m⟩
            case measure => simp [intOf]; omega
          | true =>
            go_wp2_with (at_builtin; refine wp_app_int (wr.drewN m) rfl (.tmp 40) (.tmp 42) rfl w.heap.size _ ys.length ys _ rfl (show (wr.drewN m).ownsRow _ _ _ _ _ _ from hown) rfl (by omega) hz ?_; intro v2 w2 hown2 hB2)
            go_roundw
            case rel => exact ⟨k + 1, by omega, by go_num, ⟨ys ++ [(k : Int)], by rw [List.length_append]; exact hown2, by simp; omega, (by rw [HFT.out, ← hy.out, hys.out]; rfl : ys ++ [(k : Int)] = _)⟩, (below_drewN hB m).trans hB2⟩
            case measure => simp [intOf]; omega
    · obtain rfl : k = ms.length := by omega
      go_wp2
      go_ret
      obtain ⟨A', c', rfl, hI⟩ := own_ints hown
      exact ⟨A', c', ys, rfl, hI, hB, hys.out⟩

set_option maxRecDepth 100000 in
theorem refConeFirst_any (ms : List (Int × Int)) (A : Option Addr) (c : Nat) (w : World) (h : Clk w A c ms) :
    Calls Try.prog 25 #[.slice A ms.length c] w fun e w' => ∃ (A' : Option Addr) (c' : Nat) (ys : List Int) (E : Int), e = .returned (.tuple #[.slice A' ys.length c', .int .i64 E]) ∧ Out w' A' c' ys ∧ Below w.heap.size w w' ∧ Hid (ys = firstF ms ∧ E = hitsE ms) := by
  have H := Lib.hid h
  clear h
  cases hv : vhB ms with
  | true =>
    obtain ⟨hn1, hn2⟩ := vh_parts hv
    have HV := Lib.hid hv
    have HL := Lib.hid (List.length_replicate (n := ms.length) (a := true))
    clear hv
    go_enter Try.func25, Try.ntmps25
    go_wp2_with (go_at_call 22; refine (refValid_any ms A c _ H.out.marks H.out.len).mono ?_; rintro e w1 ⟨he, n1, rfl⟩; rw [HV.out] at he; subst he)
    refine (refAll_any ms.length A c _ (by omega)).mono ?_
    rintro e w2 ⟨A2, c2, rfl, hO2, hB2⟩
    have hW2 : Below w.heap.size w w2 := Below.trans (below_drewN (Below.refl _ _) n1) (hB2.mono (Nat.le_refl _))
    have hcon := refFirstB_any ms A c (List.replicate ms.length true) A2 c2 w2 (H.out.marks.below hW2) HV.out hO2 HL.out
    rw [HL.out] at hcon
    have HQ := Lib.hid hcon
    clear hcon
    go_wp2_with (go_at_call 67; refine HQ.out.mono ?_; rintro e w3 ⟨A3, c3, ys, rfl, hO3, hB3, hy⟩)
    go_ret2
    exact ⟨A3, c3, ys, _, rfl, hO3, below_step hW2 hB3, by rw [hy.out, firstB_all, firstF, HV.out]; rfl, (hitsE_yes HV.out).symm⟩
  | false =>
    have HV := Lib.hid hv
    clear hv
    go_enter Try.func25, Try.ntmps25
    go_wp2_with (go_at_call 22; refine (refValid_any ms A c _ H.out.marks H.out.len).mono ?_; rintro e w1 ⟨he, n1, rfl⟩; rw [HV.out] at he; subst he)
    go_ret2
    exact ⟨none, 0, [], _, rfl, Out.nil_, (by repeat (first | with_reducible exact Below.refl _ _ | with_reducible assumption | refine below_drewN ?_ _ | with_reducible refine Below.drew ?_ | (refine Below.setCell ?_ (by first | (simp; done) | (simp; omega) | omega) _) | (refine Below.alloc ?_ (by first | (simp; done) | (simp; omega) | omega) _))), by rw [firstF, HV.out]; rfl, (hitsE_no HV.out).symm⟩
end Go.Proofs.Ytmlkdjcjfkfdiaa
