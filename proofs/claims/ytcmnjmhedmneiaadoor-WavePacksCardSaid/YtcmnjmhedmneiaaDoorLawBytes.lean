/-
  The walk of WaveBytes: it returns true, whatever it is given.
-/
import Derived.Test.YtcmnjmhedmneiaaDoorFrameB
import Derived.Test.YtcmnjmhedmneiaaDoorUnpack
namespace Go.Proofs.YtcmnjmhedmneiaaDoor
open Go.RowKit Go.Shelf

theorem max_small {n : Nat} (h : n ≤ 1000) : n ≤ maxLen := by unfold maxLen; omega
theorem pk_bys {l : List UInt8} (h : l.length ≤ 1000) : Bys (pkI l) := by
  intro z hz
  rw [pkI, List.mem_cons, List.mem_cons] at hz
  rcases hz with rfl | rfl | hz
  · omega
  · omega
  · obtain ⟨k, _, rfl⟩ := List.mem_map.1 hz
    exact byte_bd l k
theorem pack_eq {t : ByteArray} {w : World} (ht : t.size ≤ maxLen) (hv : vbB t = true) :
    Calls Tryd.prog 51 #[.string t] w fun e w' => ∃ (A : Option Addr) (c : Nat) (zs : List Int), e = .returned (.tuple #[.slice A zs.length c, .int .i64 0]) ∧ OutB w' A c zs ∧ Below w.heap.size w w' ∧ Hid (zs = pkI t.data.toList) := by
  refine (wavePack_any t w ht).mono ?_
  rintro e w' ⟨A, c, zs, F, rfl, hO, hB, hF⟩
  obtain rfl := hF.out.2.trans (pc_ok hv).1
  exact ⟨A, c, zs, rfl, hO, hB, Lib.hid (hF.out.1.trans (pc_ok hv).2)⟩
theorem pack_no {t : ByteArray} {w : World} (ht : t.size ≤ maxLen) (hv : vbB t = false) :
    Calls Tryd.prog 51 #[.string t] w fun e w' => ∃ (A : Option Addr) (c : Nat), e = .returned (.tuple #[.slice A 0 c, .int .i64 31]) ∧ Below w.heap.size w w' := by
  refine (wavePack_any t w ht).mono ?_
  rintro e w' ⟨A, c, zs, F, rfl, hO, hB, hF⟩
  obtain rfl := hF.out.2.trans (pc_no hv).1
  obtain rfl := hF.out.1.trans (pc_no hv).2
  exact ⟨A, c, rfl, hB⟩
theorem unpack_eq {b : List Int} {A : Option Addr} {c : Nat} {w : World} (h : Bts w A b) (hl : b.length ≤ 1000) (hb : Bys b) {E : Int} (he : unE b = E) :
    Calls Tryd.prog 53 #[.slice A b.length c] w fun e w' => ∃ q : ByteArray, e = .returned (.tuple #[.string q, .int .i64 E]) ∧ Below w.heap.size w w' ∧ Hid (q = ⟨(unT b).toArray⟩) := by
  refine (waveUnpack_any b A c w h hl hb).mono ?_
  rintro e w' ⟨q, F, rfl, hB, hF⟩
  obtain rfl := hF.out.2.trans he
  exact ⟨q, rfl, hB, Lib.hid hF.out.1⟩
theorem bt_eta (t : ByteArray) : (⟨t.data.toList.toArray⟩ : ByteArray) = t := by cases t; rfl
/-- The text that comes back from its own bytes. -/
theorem unpack_back {t : ByteArray} {zs : List Int} {A : Option Addr} {c : Nat} {w : World} (h : Bts w A zs) (hz : zs = pkI t.data.toList) (hv : vbB t = true) :
    Calls Tryd.prog 53 #[.slice A zs.length c] w fun e w' => e = .returned (.tuple #[.string t, .int .i64 0]) ∧ Below w.heap.size w w' := by
  obtain ⟨hs, hb⟩ := vb_parts hv
  have hl : t.data.toList.length ≤ 1000 := by simpa using hs
  have hu := un_pack hl hb
  subst hz
  refine (unpack_eq h (by rw [pk_len]; omega) (pk_bys hl) hu.1).mono ?_
  rintro e w' ⟨q, rfl, hB, hq⟩
  have : q = t := by rw [hq.out, hu.2, bt_eta]
  subst this
  exact ⟨rfl, hB⟩
theorem un_zero_or (b : List Int) : unE b = 0 ∨ (unE b = 3 ∧ unT b = []) := by
  cases hu : unB b with
  | true => exact .inl (by rw [unE, if_pos hu])
  | false => exact .inr (un_no hu)
theorem sameBytes_eq {xs ys : List Int} {A B : Option Addr} {c d : Nat} {w : World} (hA : Bts w A xs) (hB : Bts w B ys) (hl : xs.length ≤ maxLen) (he : xs = ys) :
    Calls Tryd.prog 55 #[.slice A xs.length c, .slice B ys.length d] w fun e w' => e = .returned (.bool true) ∧ Below w.heap.size w w' := by
  refine (sameBytes_any xs ys A B c d w hA hB hl).mono ?_
  rintro e w' ⟨rfl, n, rfl⟩
  exact ⟨by rw [decide_eq_true he], below_drewN (Below.refl _ _) n⟩

set_option maxRecDepth 100000 in
set_option maxHeartbeats 1000000 in
theorem waveBytes_walk (t : ByteArray) (b : List Int) (B : Option Addr) (d : Nat) (w : World) (hW : Wids w) (ht : t.size ≤ maxLen) (hb : Bts w B b) (_hd : b.length ≤ d) (hd0 : d ≤ maxLen ∧ Bys b) :
    Calls Tryd.prog 14 #[.string t, .slice B b.length d] w fun e w' => e = .returned (.bool true) ∧ Below w.heap.size w w' := by
  have H := Lib.hid hb
  have HW := Lib.hid hW
  have HBY := Lib.hid hd0.2
  clear hb hW hd0 _hd
  by_cases h3 : 2000 < t.size
  · have t3 : decide (2000 < t.size) = true := decide_eq_true h3
    go_enter Tryd.func14, Tryd.ntmps14
    go_wp2_with (first
      | (go_at_call 18; refine (lawLong_any t _).mono ?_; rintro e w' ⟨rfl, rfl⟩)
      | (go_at_call 19; refine (awake_any _ HW.out).mono ?_; rintro e w' ⟨rfl, hB⟩))
    go_ret
    exact ⟨rfl, hB⟩
  have t3 : decide (2000 < t.size) = false := decide_eq_false h3
  by_cases h4 : 500 < b.length
  · have t4 : decide (500 < (b.length : Int)) = true := decide_eq_true (by omega)
    go_enter Tryd.func14, Tryd.ntmps14
    go_wp2_with (first
      | (go_at_call 18; refine (lawLong_any t _).mono ?_; rintro e w' ⟨rfl, rfl⟩)
      | (go_at_call 19; refine (awake_any _ HW.out).mono ?_; rintro e w' ⟨rfl, hB⟩))
    go_ret
    exact ⟨rfl, hB⟩
  have t4 : decide (500 < (b.length : Int)) = false := decide_eq_false (by omega)
  have hbl : b.length ≤ 1000 := by omega
  clear h3 h4
  have TA : Hid True := Lib.hid trivial
  have TB : Hid True := Lib.hid trivial
  cases hv : vbB t with
  | true =>
    have HV := Lib.hid hv
    clear hv
    rcases un_zero_or b with hu | ⟨hu, hu2⟩
    · have HU := Lib.hid hu
      have HAG := Lib.hid (un_again hu)
      clear hu
      go_enter Tryd.func14, Tryd.ntmps14
      go_wp2_with (first
        | (go_at_call 18; refine (lawLong_any t _).mono ?_; rintro e w' ⟨rfl, rfl⟩)
        | (go_at_call 51; clear TA; refine (pack_eq ht HV.out).mono ?_; rintro e w1 ⟨A1, c1, zs, rfl, hO1, hB1, hz⟩)
        | (go_at_call 53; clear TB; refine (unpack_back hO1.bts hz.out HV.out).mono ?_; rintro e w2 ⟨rfl, hB2⟩; have hW2 := below_step hB1 hB2)
        | (go_at_call 53; refine (unpack_eq (H.out.below hW2) hbl HBY.out HU.out).mono ?_; rintro e w3 ⟨q, rfl, hB3, hq⟩; have hW3 := below_step hW2 hB3; have HQ : Hid (vbB q = true ∧ pkI q.data.toList = b) := Lib.hid (by rw [hq.out]; exact HAG.out))
        | (go_at_call 51; refine (pack_eq (t := q) (max_small (vb_parts HQ.out.1).1) HQ.out.1).mono ?_; rintro e w4 ⟨A4, c4, us, rfl, hO4, hB4, hz4⟩; have hW4 := below_step hW3 hB4)
        | (go_at_call 55; refine (sameBytes_eq hO4.bts (H.out.below hW4) (Nat.le_trans hO4.le hO4.cap) (hz4.out.trans HQ.out.2)).mono ?_; rintro e w5 ⟨rfl, hB5⟩; have hW5 := below_step hW4 hB5)
        | (go_at_call 19; refine (awake_any _ (HW.out.below hW5)).mono ?_; rintro e w' ⟨rfl, hB⟩))
      go_ret
      exact ⟨rfl, below_step hW5 hB⟩
    · have HU := Lib.hid hu
      have HU2 := Lib.hid hu2
      clear hu hu2
      go_enter Tryd.func14, Tryd.ntmps14
      go_wp2_with (first
        | (go_at_call 18; refine (lawLong_any t _).mono ?_; rintro e w' ⟨rfl, rfl⟩)
        | (go_at_call 51; refine (pack_eq ht HV.out).mono ?_; rintro e w1 ⟨A1, c1, zs, rfl, hO1, hB1, hz⟩)
        | (go_at_call 53; clear TB; refine (unpack_back hO1.bts hz.out HV.out).mono ?_; rintro e w2 ⟨rfl, hB2⟩; have hW2 := below_step hB1 hB2)
        | (go_at_call 53; refine (unpack_eq (H.out.below hW2) hbl HBY.out HU.out).mono ?_; rintro e w3 ⟨q, rfl, hB3, hq⟩; have hW3 := below_step hW2 hB3; have hqe : q = ⟨#[]⟩ := (by rw [hq.out, HU2.out]); subst hqe)
        | (go_at_call 19; refine (awake_any _ (HW.out.below hW3)).mono ?_; rintro e w' ⟨rfl, hB⟩))
      go_ret
      exact ⟨rfl, below_step hW3 hB⟩
  | false =>
    have HV := Lib.hid hv
    clear hv
    rcases un_zero_or b with hu | ⟨hu, hu2⟩
    · have HU := Lib.hid hu
      have HAG := Lib.hid (un_again hu)
      clear hu
      go_enter Tryd.func14, Tryd.ntmps14
      go_wp2_with (first
        | (go_at_call 18; refine (lawLong_any t _).mono ?_; rintro e w' ⟨rfl, rfl⟩)
        | (go_at_call 51; clear TA; refine (pack_no ht HV.out).mono ?_; rintro e w2 ⟨A1, c1, rfl, hW2⟩)
        | (go_at_call 53; refine (unpack_eq (H.out.below hW2) hbl HBY.out HU.out).mono ?_; rintro e w3 ⟨q, rfl, hB3, hq⟩; have hW3 := below_step hW2 hB3; have HQ : Hid (vbB q = true ∧ pkI q.data.toList = b) := Lib.hid (by rw [hq.out]; exact HAG.out))
        | (go_at_call 51; refine (pack_eq (t := q) (max_small (vb_parts HQ.out.1).1) HQ.out.1).mono ?_; rintro e w4 ⟨A4, c4, us, rfl, hO4, hB4, hz4⟩; have hW4 := below_step hW3 hB4)
        | (go_at_call 55; refine (sameBytes_eq hO4.bts (H.out.below hW4) (Nat.le_trans hO4.le hO4.cap) (hz4.out.trans HQ.out.2)).mono ?_; rintro e w5 ⟨rfl, hB5⟩; have hW5 := below_step hW4 hB5)
        | (go_at_call 19; refine (awake_any _ (HW.out.below hW5)).mono ?_; rintro e w' ⟨rfl, hB⟩))
      go_ret
      exact ⟨rfl, below_step hW5 hB⟩
    · have HU := Lib.hid hu
      have HU2 := Lib.hid hu2
      clear hu hu2
      go_enter Tryd.func14, Tryd.ntmps14
      go_wp2_with (first
        | (go_at_call 18; refine (lawLong_any t _).mono ?_; rintro e w' ⟨rfl, rfl⟩)
        | (go_at_call 51; refine (pack_no ht HV.out).mono ?_; rintro e w2 ⟨A1, c1, rfl, hW2⟩)
        | (go_at_call 53; refine (unpack_eq (H.out.below hW2) hbl HBY.out HU.out).mono ?_; rintro e w3 ⟨q, rfl, hB3, hq⟩; have hW3 := below_step hW2 hB3; have hqe : q = ⟨#[]⟩ := (by rw [hq.out, HU2.out]); subst hqe)
        | (go_at_call 19; refine (awake_any _ (HW.out.below hW3)).mono ?_; rintro e w' ⟨rfl, hB⟩))
      go_ret
      exact ⟨rfl, below_step hW3 hB⟩
end Go.Proofs.YtcmnjmhedmneiaaDoor
