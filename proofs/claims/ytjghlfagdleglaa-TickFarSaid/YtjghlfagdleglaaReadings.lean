/-
  Contracts: both Readings, both Steps.
-/
import Derived.Test.YtjghlfagdleglaaCounts2
import Derived.StillTailTactics
namespace Go.Proofs.Ytjghlfagdleglaa
open Go.RowKit

def readingsF (b : Int) (zs : List Int) : List Int := if bitsB b && vcB zs then zs.map (· % 2 ^ b.toNat) else []
def readingsE (b : Int) (zs : List Int) : Int := if bitsB b then (if vcB zs then 0 else 10) else 2

theorem upFrom_at : ∀ {zs : List Int} {l : Int}, upFrom l zs = true → ∀ z ∈ zs, l ≤ z ∧ z ≤ 1099511627776
  | [], _, _, z, hz => by cases hz
  | y :: t, l, h, z, hz => by
    simp [upFrom] at h
    rcases List.mem_cons.1 hz with rfl | hz
    · exact h.1
    · have := upFrom_at h.2 z hz; omega
theorem vc_at {zs : List Int} {k : Nat} {z : Int} (hv : vcB zs = true) (h : zs[k]? = some z) : 0 ≤ z ∧ z ≤ 1099511627776 := by
  simp [vcB] at hv
  exact upFrom_at hv.1 z (List.mem_of_getElem? h)
theorem vc_parts {zs : List Int} (hv : vcB zs = true) : 1 ≤ zs.length ∧ zs.length ≤ 60 := by
  simp [vcB] at hv; exact hv.2
theorem map_take_succ {zs : List Int} {k : Nat} {z : Int} (f : Int → Int) (h : zs[k]? = some z) : (zs.take (k + 1)).map f = (zs.take k).map f ++ [f z] := by
  rw [take_snoc h]; simp

set_option maxRecDepth 100000 in
set_option maxHeartbeats 400000 in
theorem readings_any (b : Int) (zs : List Int) (A : Option Addr) (c : Nat) (w : World) (h : Ints w A zs) (hl : zs.length ≤ maxLen) :
    Calls Try.prog 23 #[.int .i64 b, .slice A zs.length c] w fun e w' => ∃ (A' : Option Addr) (c' : Nat) (ys : List Int) (E : Int),
      e = .returned (.tuple #[.slice A' ys.length c', .int .i64 E]) ∧ Out w' A' c' ys ∧ Below w.heap.size w w' ∧ Hid (ys = readingsF b zs ∧ E = readingsE b zs) := by
  have H := Lib.hid h
  clear h
  have HL := Lib.hid hl
  clear hl
  by_cases hb : bitsB b = true
  · by_cases hv : vcB zs = true
    · obtain ⟨hb4, hb32⟩ : 4 ≤ b ∧ b ≤ 32 := by simpa [bitsB] using hb
      obtain ⟨hn1, hn60⟩ := vc_parts hv
      have HV := Lib.hid hv
      have hpw := pow_bounds hb4 hb32
      have hall : Hid (∀ (j : Nat) (u : Int), zs[j]? = some u → 0 ≤ u ∧ u ≤ 1099511627776) := fun j u hj => vc_at HV.out hj
      obtain ⟨i0, hi0, hz0, hz1, hz2⟩ := info_parts int_info
      have HZ2 := Lib.hid hz2
      clear hz2
      go_enter Try.func23, Try.ntmps23
      go_wp2_with (first
        | (go_at_call 57; refine (validBits_any _ _).mono ?_; rintro e w' ⟨rfl, rfl⟩)
        | (go_at_call 20; refine (validCounts_any _ _ _ _ H.out HL.out).mono ?_; rintro e w' ⟨rfl, rfl⟩)
        | (at_make; refine wpList_make_own _ rfl _ _ 22 rfl w.heap.size 3 i0 (.int .i64 0) 1 Try.underlying22 hi0 hz0 hz1 _ _ _ zs.length rfl rfl rfl (by rw [HZ2.out]; omega) (by unfold maxLen; omega) (Nat.le_refl _) ?_; intro w1 hown1 hg1))
      have hB1 : Below w.heap.size w w1 := (Below.refl _ _).grown hg1 (Nat.le_refl _) (by simp)
      clear hg1 HZ2 hz0 hz1 hi0
      obtain ⟨R, hR⟩ : ∃ R : Int, R = 2 ^ b.toNat := ⟨_, rfl⟩
      rw [← hR] at hpw
      simp only [← hR]
      have HR := Lib.hid hR
      clear hR
      go_loopw [7, 23] (fun v i wr => ∃ k : Nat, k ≤ zs.length ∧ i = .int .i64 k ∧ wr.ownsRow w.heap.size 3 1 v k (((zs.take k).map (· % R)).map (Value.int .i64)) ∧ Below w.heap.size w wr) (fun _ i _ => zs.length - (intOf i).toNat)
      case atStart => exact ⟨0, Nat.zero_le _, rfl, hown1, hB1⟩
      case round =>
        clear hown1 hB1
        obtain ⟨k, hk, rfl, hown, hB⟩ := hrel
        by_cases hlt : k < zs.length
        · obtain ⟨ad, z, rfl, hbk, hz, hc⟩ := H.out.get hlt
          have hcr := (hB.cell (p := ad.add k) (by rw [block_of_add]; exact hbk)).trans hc
          clear hc
          have hza := hall.out k z hz.out
          go_wp2_with (at_builtin; refine wp_app_int _ rfl (.tmp 27) (.tmp 31) rfl w.heap.size _ k _ _ rfl hown rfl (by omega) hB.size ?_; intro v2 w2 hown2 hB2)
          go_roundw
          case rel => exact ⟨k + 1, by omega, by go_num, by rw [map_take_succ (· % R) hz.out]; exact hown2, hB.trans hB2⟩
          case measure => simp [intOf]; omega
        · obtain rfl : k = zs.length := by omega
          go_wp2
          go_ret2
          obtain ⟨A', c', rfl, hI⟩ := own_ints hown
          exact ⟨A', c', _, _, rfl, hI, hB, by simp [readingsF, HV.out, hb, HR.out], by simp [readingsE, HV.out, hb]⟩
    · have hv2 : vcB zs = false := by simpa using hv
      go_enter Try.func23, Try.ntmps23
      go_wp2_with (first
        | (go_at_call 57; refine (validBits_any _ _).mono ?_; rintro e w' ⟨rfl, rfl⟩)
        | (go_at_call 20; refine (validCounts_any _ _ _ _ H.out HL.out).mono ?_; rintro e w' ⟨rfl, rfl⟩))
      go_ret2
      exact ⟨none, 0, [], _, rfl, Out.nil_, Below.refl _ _, by simp [readingsF, hv2], by simp [readingsE, hv2, hb]⟩
  · have hb2 : bitsB b = false := by simpa using hb
    go_enter Try.func23, Try.ntmps23
    go_wp2_with (go_at_call 57; refine (validBits_any _ _).mono ?_; rintro e w' ⟨rfl, rfl⟩)
    go_ret2
    exact ⟨none, 0, [], _, rfl, Out.nil_, Below.refl _ _, by simp [readingsF, hb2], by simp [readingsE, hb2]⟩

set_option maxRecDepth 100000 in
set_option maxHeartbeats 400000 in
theorem refReadings_any (b : Int) (zs : List Int) (A : Option Addr) (c : Nat) (w : World) (h : Ints w A zs) (hl : zs.length ≤ maxLen) :
    Calls Try.prog 24 #[.int .i64 b, .slice A zs.length c] w fun e w' => ∃ (A' : Option Addr) (c' : Nat) (ys : List Int) (E : Int),
      e = .returned (.tuple #[.slice A' ys.length c', .int .i64 E]) ∧ Out w' A' c' ys ∧ Below w.heap.size w w' ∧ Hid (ys = readingsF b zs ∧ E = readingsE b zs) := by
  have H := Lib.hid h
  clear h
  have HL := Lib.hid hl
  clear hl
  by_cases hb : bitsB b = true
  · by_cases hv : vcB zs = true
    · obtain ⟨hb4, hb32⟩ : 4 ≤ b ∧ b ≤ 32 := by simpa [bitsB] using hb
      obtain ⟨hn1, hn60⟩ := vc_parts hv
      have HV := Lib.hid hv
      have hpw := pow_bounds hb4 hb32
      have hall : Hid (∀ (j : Nat) (u : Int), zs[j]? = some u → 0 ≤ u ∧ u ≤ 1099511627776) := fun j u hj => vc_at HV.out hj
      obtain ⟨R, hR⟩ : ∃ R : Int, R = 2 ^ b.toNat := ⟨_, rfl⟩
      rw [← hR] at hpw
      have HR := Lib.hid hR
      clear hR
      go_enter Try.func24, Try.ntmps24
      go_wp2_with (first
        | (go_at_call 51; refine (isBits_any _ _).mono ?_; rintro e w' ⟨rfl, rfl⟩)
        | (go_at_call 21; refine (refValidCounts_any _ _ _ _ H.out HL.out).mono ?_; rintro e w' ⟨rfl, rfl⟩))
      go_loopw [6, 17] (fun v i wr => ∃ k : Nat, k ≤ zs.length ∧ i = .int .i64 k ∧ wr.ownsRow w.heap.size 3 1 v k (((zs.take k).map (· % R)).map (Value.int .i64)) ∧ Below w.heap.size w wr) (fun _ i _ => zs.length - (intOf i).toNat)
      case atStart => exact ⟨0, Nat.zero_le _, rfl, World.ownsRow_nil _ _ _ _, Below.refl _ _⟩
      case round =>
        obtain ⟨k, hk, rfl, hown, hB⟩ := hrel
        by_cases hlt : k < zs.length
        · obtain ⟨ad, z, rfl, hbk, hz, hc⟩ := H.out.get hlt
          have hcr := (hB.cell (p := ad.add k) (by rw [block_of_add]; exact hbk)).trans hc
          clear hc
          have hza := hall.out k z hz.out
          go_wp2_with (first
            | (go_at_call 58; refine (size_is _ R _ (by omega) (by omega) HR.out).mono ?_; rintro e w' ⟨rfl, rfl⟩)
            | (at_builtin; refine wp_app_int _ rfl (.tmp 21) (.tmp 26) rfl w.heap.size _ k _ _ rfl hown rfl (by omega) hB.size ?_; intro v2 w2 hown2 hB2))
          go_roundw
          case rel => exact ⟨k + 1, by omega, by go_num, by rw [map_take_succ (· % R) hz.out]; exact hown2, hB.trans hB2⟩
          case measure => simp [intOf]; omega
        · obtain rfl : k = zs.length := by omega
          go_wp2
          go_ret2
          obtain ⟨A', c', rfl, hI⟩ := own_ints hown
          exact ⟨A', c', _, _, rfl, hI, hB, by simp [readingsF, HV.out, hb, HR.out], by simp [readingsE, HV.out, hb]⟩
    · have hv2 : vcB zs = false := by simpa using hv
      go_enter Try.func24, Try.ntmps24
      go_wp2_with (first
        | (go_at_call 51; refine (isBits_any _ _).mono ?_; rintro e w' ⟨rfl, rfl⟩)
        | (go_at_call 21; refine (refValidCounts_any _ _ _ _ H.out HL.out).mono ?_; rintro e w' ⟨rfl, rfl⟩))
      go_ret2
      exact ⟨none, 0, [], _, rfl, Out.nil_, Below.refl _ _, by simp [readingsF, hv2], by simp [readingsE, hv2, hb]⟩
  · have hb2 : bitsB b = false := by simpa using hb
    go_enter Try.func24, Try.ntmps24
    go_wp2_with (go_at_call 51; refine (isBits_any _ _).mono ?_; rintro e w' ⟨rfl, rfl⟩)
    go_ret2
    exact ⟨none, 0, [], _, rfl, Out.nil_, Below.refl _ _, by simp [readingsF, hb2], by simp [readingsE, hb2]⟩
end Go.Proofs.Ytjghlfagdleglaa
