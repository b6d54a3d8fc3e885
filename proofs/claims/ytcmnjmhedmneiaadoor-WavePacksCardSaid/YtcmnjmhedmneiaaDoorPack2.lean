/-
  Contracts: SameBytes (firnref03), slices.Equal of bytes, Pack of both, Unpack (wave).
-/
import Derived.Test.YtcmnjmhedmneiaaDoorRefPack
import Derived.Test.YtcmnjmhedmneiaaDoorBits
import Derived.Test.YtcmnjmhedmneiaaDoorSamples
namespace Go.Proofs.YtcmnjmhedmneiaaDoor
open Go.RowKit Go.Shelf

theorem Bts.get {w : World} {A : Option Addr} {zs : List Int} (h : Bts w A zs) {k : Nat} (hk : k < zs.length) :
    ∃ ad z, A = some ad ∧ ad.block < w.heap.size ∧ Hid (zs[k]? = some z) ∧ w.cell? (ad.add k) = some (.int .u8 z) := by
  obtain ⟨ad, u, e, hb, hx, hc⟩ := Reads.at_ h hk
  rw [List.getElem?_map, List.getElem?_eq_getElem hk] at hx
  simp only [Option.map_some, Option.some.injEq] at hx
  exact ⟨ad, zs[k], e, hb, List.getElem?_eq_getElem hk, by rw [hc, ← hx]⟩
set_option maxRecDepth 100000 in
theorem sameBytes_any (xs ys : List Int) (A B : Option Addr) (c d : Nat) (w : World) (hA : Bts w A xs) (hB : Bts w B ys) (hl : xs.length ≤ maxLen) :
    Calls Tryd.prog 55 #[.slice A xs.length c, .slice B ys.length d] w fun e w' => e = .returned (.bool (decide (xs = ys))) ∧ ∃ n, w' = w.drewN n := by
  unfold maxLen at hl
  have HA := Lib.hid hA
  have HB := Lib.hid hB
  clear hA hB
  by_cases hlen : xs.length = ys.length
  · have HL := Lib.hid hlen
    have hn : (((xs.length : Int) != (ys.length : Int)) = false) := by rw [hlen]; simp
    have hle : xs.length ≤ ys.length := by omega
    clear hlen
    go_enter Tryd.func55, Tryd.ntmps55
    go_wp2
    go_loopw [13] (fun i wr => ∃ k m : Nat, k ≤ xs.length ∧ i = .int .i64 k ∧ wr = w.drewN m ∧ Hid (xs.take k = ys.take k)) (fun i _ => xs.length - (intOf i).toNat)
    case atStart => exact ⟨0, 0, Nat.zero_le _, rfl, rfl, rfl⟩
    case round =>
      obtain ⟨k, m, hk, rfl, rfl, ht⟩ := hrel
      by_cases hlt : k < xs.length
      · obtain ⟨ad, x, rfl, _, hx, c1⟩ := HA.out.get hlt
        obtain ⟨ad2, y, rfl, _, hy, c2⟩ := HB.out.get (show k < ys.length by omega)
        have hlt2 : k < ys.length := by omega
        by_cases h1 : x = y
        · subst h1
          go_wp2
          go_quiet (fail)
          go_wp2
          go_roundw
          case rel => exact ⟨k + 1, _, by omega, by go_num, (by first | rfl | exact World.drewN_drewN _ _ _), eq_next hx.out hy.out rfl ht.out⟩
          case measure => simp [intOf]; omega
        · have t1 : (x == y) = false := by simpa using h1
          have t2 : (x != y) = true := by simpa using h1
          go_wp2
          go_quiet (fail)
          go_wp2
          go_ret
          exact ⟨ret_bool (ne_at hx.out hy.out h1), _, (by first | rfl | exact World.drewN_drewN _ _ _)⟩
      · go_wp2
        go_ret
        exact ⟨ret_bool (eq_end HL.out (by omega) ht.out), _, rfl⟩
  · have hn : (((xs.length : Int) != (ys.length : Int)) = true) := by simp; omega
    go_enter Tryd.func55, Tryd.ntmps55
    go_wp2
    go_ret
    exact ⟨ret_bool (ne_len hlen), 0, rfl⟩

set_option maxRecDepth 100000 in
theorem equalB_any (xs ys : List Int) (A B : Option Addr) (c d : Nat) (w : World) (hA : Bts w A xs) (hB : Bts w B ys) (hl : xs.length ≤ maxLen) :
    Calls Tryd.prog 93 #[.slice A xs.length c, .slice B ys.length d] w fun e w' => e = .returned (.bool (decide (xs = ys))) ∧ ∃ n, w' = w.drewN n := by
  unfold maxLen at hl
  have HA := Lib.hid hA
  have HB := Lib.hid hB
  clear hA hB
  by_cases hlen : xs.length = ys.length
  · have HL := Lib.hid hlen
    have hn : (((xs.length : Int) != (ys.length : Int)) = false) := by rw [hlen]; simp
    have hle : xs.length ≤ ys.length := by omega
    clear hlen
    go_enter Tryd.func93, Tryd.ntmps93
    go_wp2
    go_loopw [13] (fun i wr => ∃ k m : Nat, k ≤ xs.length ∧ i = .int .i64 k ∧ wr = w.drewN m ∧ Hid (xs.take k = ys.take k)) (fun i _ => xs.length - (intOf i).toNat)
    case atStart => exact ⟨0, 0, Nat.zero_le _, rfl, rfl, rfl⟩
    case round =>
      obtain ⟨k, m, hk, rfl, rfl, ht⟩ := hrel
      by_cases hlt : k < xs.length
      · obtain ⟨ad, x, rfl, _, hx, c1⟩ := HA.out.get hlt
        obtain ⟨ad2, y, rfl, _, hy, c2⟩ := HB.out.get (show k < ys.length by omega)
        have hlt2 : k < ys.length := by omega
        by_cases h1 : x = y
        · subst h1
          go_wp2
          go_quiet (fail)
          go_wp2
          go_roundw
          case rel => exact ⟨k + 1, _, by omega, by go_num, (by first | rfl | exact World.drewN_drewN _ _ _), eq_next hx.out hy.out rfl ht.out⟩
          case measure => simp [intOf]; omega
        · have t1 : (x == y) = false := by simpa using h1
          have t2 : (x != y) = true := by simpa using h1
          go_wp2
          go_quiet (fail)
          go_wp2
          go_ret
          exact ⟨ret_bool (ne_at hx.out hy.out h1), _, (by first | rfl | exact World.drewN_drewN _ _ _)⟩
      · go_wp2
        go_ret
        exact ⟨ret_bool (eq_end HL.out (by omega) ht.out), _, rfl⟩
  · have hn : (((xs.length : Int) != (ys.length : Int)) = true) := by simp; omega
    go_enter Tryd.func93, Tryd.ntmps93
    go_wp2
    go_ret
    exact ⟨ret_bool (ne_len hlen), 0, rfl⟩


/-- What a call answers that returns bytes and an error. -/
def BytRes (E : Int) (ys : List Int) (e : Ending) (w w' : World) : Prop :=
  ∃ (A : Option Addr) (c : Nat) (zs : List Int) (F : Int), e = .returned (.tuple #[.slice A zs.length c, .int .i64 F]) ∧ OutB w' A c zs ∧ Below w.heap.size w w' ∧ Hid (zs = ys ∧ F = E)
theorem pc_no {t : ByteArray} (h : vbB t = false) : pcE t = 31 ∧ pcL t = [] := by simp [pcE, pcL, h]
theorem pc_ok {t : ByteArray} (h : vbB t = true) : pcE t = 0 ∧ pcL t = pkI t.data.toList := by simp [pcE, pcL, h]
set_option maxRecDepth 100000 in
theorem wavePack_any (t : ByteArray) (w : World) (ht : t.size ≤ maxLen) :
    Calls Tryd.prog 51 #[.string t] w fun e w' => BytRes (pcE t) (pcL t) e w w' := by
  cases hv : vbB t with
  | false =>
    have HV := Lib.hid hv
    clear hv
    go_enter Tryd.func51, Tryd.ntmps51
    go_wp2_with (go_at_call 26; refine (wavevb_any t _ ht).mono ?_; rintro e w1 ⟨rfl, rfl⟩; rw [HV.out])
    go_ret2
    exact ⟨none, 0, [], 31, rfl, OutB.nil_, Below.refl _ _, Lib.hid ⟨(pc_no HV.out).2.symm, (pc_no HV.out).1.symm⟩⟩
  | true =>
    have HV := Lib.hid hv
    have hs := (vb_parts hv).1
    clear hv
    go_enter Tryd.func51, Tryd.ntmps51
    go_wp2_with (first
      | (go_at_call 26; refine (wavevb_any t _ ht).mono ?_; rintro e w1 ⟨rfl, rfl⟩; rw [HV.out])
      | (go_at_call 91; refine (wavepack_any t _ hs).mono ?_; rintro e w2 ⟨A, c, zs, rfl, hO, hB, hz⟩))
    go_ret2
    exact ⟨A, c, zs, 0, rfl, hO, hB, Lib.hid ⟨hz.out.trans (pc_ok HV.out).2.symm, (pc_ok HV.out).1.symm⟩⟩
set_option maxRecDepth 100000 in
theorem refPack_any (t : ByteArray) (w : World) (ht : t.size ≤ maxLen) :
    Calls Tryd.prog 52 #[.string t] w fun e w' => BytRes (pcE t) (pcL t) e w w' := by
  cases hv : vbB t with
  | false =>
    have HV := Lib.hid hv
    clear hv
    go_enter Tryd.func52, Tryd.ntmps52
    go_wp2_with (go_at_call 27; refine (refvb_any t _ ht).mono ?_; rintro e w1 ⟨rfl, rfl⟩; rw [HV.out])
    go_ret2
    exact ⟨none, 0, [], 31, rfl, OutB.nil_, Below.refl _ _, Lib.hid ⟨(pc_no HV.out).2.symm, (pc_no HV.out).1.symm⟩⟩
  | true =>
    have HV := Lib.hid hv
    have hs := (vb_parts hv).1
    clear hv
    go_enter Tryd.func52, Tryd.ntmps52
    go_wp2_with (first
      | (go_at_call 27; refine (refvb_any t _ ht).mono ?_; rintro e w1 ⟨rfl, rfl⟩; rw [HV.out])
      | (go_at_call 92; refine (refpack_any t _ hs).mono ?_; rintro e w2 ⟨A, c, zs, rfl, hO, hB, hz⟩))
    go_ret2
    exact ⟨A, c, zs, 0, rfl, hO, hB, Lib.hid ⟨hz.out.trans (pc_ok HV.out).2.symm, (pc_ok HV.out).1.symm⟩⟩
end Go.Proofs.YtcmnjmhedmneiaaDoor
