/-
  Contract: Unpack (firnref03).
-/
import Derived.Test.YtcmnjmhedmneiaaDoorUnpackM
import Derived.Test.YtcmnjmhedmneiaaDoorRefWord2
namespace Go.Proofs.YtcmnjmhedmneiaaDoor
open Go.RowKit Go.Shelf

theorem pow_bd2 : ∀ k, k < 8 → (1 : Int) ≤ 2 ^ k ∧ (2 : Int) ^ k ≤ 128 := by decide

set_option maxRecDepth 100000 in
set_option maxHeartbeats 2000000 in
theorem refUnpack_any (b : List Int) (A : Option Addr) (c : Nat) (w : World) (h : Bts w A b) (hl : b.length ≤ 1000) (hb : Bys b) :
    Calls Tryd.prog 54 #[.slice A b.length c] w fun e w' => TextRes (unE b) (unT b) e w w' := by
  have H := Lib.hid h
  clear h
  by_cases h2 : b.length < 2
  · have u0 : decide ((b.length : Int) < 2) = true := decide_eq_true (by omega)
    have HR := Lib.hid (un_few (b := b) (by omega))
    go_enter Tryd.func54, Tryd.ntmps54
    go_wp2
    go_ret2
    exact ⟨⟨#[]⟩, 3, rfl, Below.refl _ _, Lib.hid ⟨by rw [HR.out.2], HR.out.1.symm⟩⟩
  · have u0 : decide ((b.length : Int) < 2) = false := decide_eq_false (by omega)
    obtain ⟨bl, off, rfl, hbk, hc⟩ := H.out.open_ (by omega)
    have k0 : w.cell? ⟨bl, off, none⟩ = some (.int .u8 (b.getD 0 0)) := hc 0 _ (getD_at (by omega))
    have k1 : w.cell? ⟨bl, off + 1, none⟩ = some (.int .u8 (b.getD 1 0)) := hc 1 _ (getD_at (by omega))
    have i0 : (0 : Int) < (b.length : Int) := by omega
    have i1 : (1 : Int) < (b.length : Int) := by omega
    have b0 := by_at hb 0
    have b1 := by_at hb 1
    have HC := Lib.hid hc
    obtain ⟨n, hn⟩ : ∃ n : Nat, cntI b = (n : Int) := ⟨(cntI b).toNat, by unfold cntI; omega⟩
    have hn2 : b.getD 0 0 * 256 + b.getD 1 0 = (n : Int) := hn
    have hor := hn2
    have hnb : n ≤ 65535 := by omega
    have HCN := Lib.hid hn
    have HBY := Lib.hid hb
    generalize hx : b.getD 0 0 = x at k0 b0 hor hn2
    generalize hy : b.getD 1 0 = y at k1 b1 hor hn2
    have HOR := Lib.hid hor
    clear hc hx hy hb hn hn2 hor
    go_enter Tryd.func54, Tryd.ntmps54
    go_wp2
    go_quiet (fail)
    rw [HOR.out]
    clear k0 k1 HOR b0 b1
    have hW0 : Below w.heap.size w (w.drewN nq) := below_drewN (Below.refl _ _) nq
    generalize w.drewN nq = W0 at hW0 ⊢
    by_cases h3 : 1000 < n
    · have u1 : decide (1000 < (n : Int)) = true := decide_eq_true (by omega)
      have HR := Lib.hid (un_many (b := b) (by rw [HCN.out]; omega))
      go_wp2
      go_ret2
      exact ⟨⟨#[]⟩, 3, rfl, hW0, Lib.hid ⟨by rw [HR.out.2], HR.out.1.symm⟩⟩
    · have u1 : decide (1000 < (n : Int)) = false := decide_eq_false (by omega)
      by_cases h4 : b.length = 2 + (n + 7) / 8
      · have u2 : ((b.length : Int) != 2 + ((n : Int) + 7) / 8) = false := by simp; omega
        have hn1000 : n ≤ 1000 := by omega
        have hbW : bl < W0.heap.size := Nat.lt_of_lt_of_le hbk hW0.size
        have HC0 := Lib.hid (fun (k : Nat) (z : Int) (hk : b[k]? = some z) => (hW0.cell (p := ⟨bl, off + k, none⟩) hbk).trans (HC.out k z hk))
        have h4' := Lib.hid h4
        clear h3 h4
        go_wp2
        go_loopw [5, 32] (fun s i wr => ∃ m : Nat, m ≤ n ∧ i = .int .i64 m ∧ ∃ q : ByteArray, s = .string q ∧ q.size = m ∧ Below W0.heap.size W0 wr ∧ Hid (q = ⟨(unL b m).toArray⟩)) (fun _ i _ => n - (intOf i).toNat)
        case atStart => exact ⟨0, Nat.zero_le _, rfl, ⟨#[]⟩, rfl, rfl, Below.refl _ _, rfl⟩
        case round =>
          obtain ⟨m, hm, rfl, t, rfl, hts, hB, HQ⟩ := hrel
          have HTZ := Lib.hid hts
          have htz : t.size ≤ 1000 := by omega
          clear hts
          by_cases hlt : m < n
          · obtain ⟨q, r, hmr, hr⟩ : ∃ q r, m = 8 * q + r ∧ r < 8 := ⟨m / 8, m % 8, by omega, by omega⟩
            have hqb : 2 + q < b.length := by have := h4'.out; omega
            have f0 := (hB.cell (p := ⟨bl, off + (2 + q), none⟩) hbW).trans (HC0.out (2 + q) _ (getD_at hqb))
            have hxb := by_at HBY.out (2 + q)
            have HQF : Hid (bitU (b.getD (2 + q) 0) (7 - r) = bitU (b.getD (2 + m / 8) 0) (7 - m % 8)) := Lib.hid (by rw [show m / 8 = q by omega, show m % 8 = r by omega])
            have HH := Lib.hid (fun W' => refhalf_any (8 - r) (by omega) (by omega) W')
            have e8 : (m : Int).tmod 8 = (r : Int) := by rw [Int.tmod_eq_emod_of_nonneg (by omega)]; omega
            have e9 : (m : Int).tdiv 8 = (q : Int) := by rw [Int.tdiv_eq_ediv_of_nonneg (by omega)]; omega
            have e12 : IntKind.i64.wrap (q : Int) = (q : Int) := IntWalk.i64_in _ (by omega)
            have e10 : IntKind.i64.wrap (2 + (q : Int)) = 2 + (q : Int) := IntWalk.i64_in _ (by omega)
            have e11 : IntKind.i64.wrap (8 - (r : Int)) = ((8 - r : Nat) : Int) := by rw [show ((8 - r : Nat) : Int) = 8 - (r : Int) by omega]; exact IntWalk.i64_in _ (by omega)
            have q0 : (0 : Int) ≤ 2 + (q : Int) := by omega
            have q1 : 2 + (q : Int) < (b.length : Int) := by omega
            have q2 : (2 + (q : Int)).toNat = 2 + q := by omega
            have hh : halfN (8 - r) = 2 ^ (7 - r) := by rw [halfN, show 8 - r - 1 = 7 - r by omega]
            have hp := pow_bd2 (7 - r) (by omega)
            rw [hh] at HH
            generalize b.getD (2 + q) 0 = x at f0 hxb HQF
            have e14 : IntKind.i64.wrap x = x := IntWalk.i64_in _ (by omega)
            have HTM : Hid ((x.tdiv (2 ^ (7 - r))).tmod 2 = x / 2 ^ (7 - r) % 2) := Lib.hid (by
              rw [Int.tdiv_eq_ediv_of_nonneg hxb.1, Int.tmod_eq_emod_of_nonneg (Int.ediv_nonneg hxb.1 (by omega))])
            have r12 : (9223372036854775807 < t.size + 1) = False := eq_false (by omega)
            by_cases hbit : x / 2 ^ (7 - r) % 2 = 1
            · obtain ⟨h, hhe⟩ : ∃ h : Int, (2 : Int) ^ (7 - r) = h := ⟨_, rfl⟩
              rw [hhe] at HH HTM hp hbit
              have HHE := Lib.hid hhe
              clear hhe
              have e13 : IntKind.i64.wrap (x.tdiv h) = x.tdiv h := by
                have g0 := Int.tdiv_eq_ediv_of_nonneg hxb.1 (b := h)
                have g1 := Int.ediv_nonneg hxb.1 (show 0 ≤ h by omega)
                have g2 := Int.ediv_le_self h hxb.1
                exact IntWalk.i64_in _ (by omega)
              have k6 : ((x.tdiv h).tmod 2 == 1) = true := by rw [HTM.out]; rw [hbit]; rfl
              have HBU : Hid (bitU x (7 - r) = 49) := Lib.hid (by rw [bitU, HHE.out, if_pos hbit])
              clear hmr
              go_wp2
              go_quiet ((go_at_call 68; exact Calls.quiet_of_same ((HH.out _).mono fun _ _ h => ⟨h.1, h.2.symm⟩)))
              have hB2 := below_drewN hB nq
              go_wp2
              go_roundw
              case rel => exact ⟨m + 1, by omega, by go_num, _, rfl, by rw [size_snoc, HTZ.out], hB2, Lib.hid (by rw [un_snoc, ← HQF.out, HBU.out]; exact bt_snoc 49 HQ.out)⟩
              case measure => simp [intOf]; omega
            · obtain ⟨h, hhe⟩ : ∃ h : Int, (2 : Int) ^ (7 - r) = h := ⟨_, rfl⟩
              rw [hhe] at HH HTM hp hbit
              have HHE := Lib.hid hhe
              clear hhe
              have e13 : IntKind.i64.wrap (x.tdiv h) = x.tdiv h := by
                have g0 := Int.tdiv_eq_ediv_of_nonneg hxb.1 (b := h)
                have g1 := Int.ediv_nonneg hxb.1 (show 0 ≤ h by omega)
                have g2 := Int.ediv_le_self h hxb.1
                exact IntWalk.i64_in _ (by omega)
              have k6 : ((x.tdiv h).tmod 2 == 1) = false := by rw [HTM.out]; exact beq_eq_false_iff_ne.2 hbit
              have HBU : Hid (bitU x (7 - r) = 48) := Lib.hid (by rw [bitU, HHE.out, if_neg hbit])
              clear hmr
              go_wp2
              go_quiet ((go_at_call 68; exact Calls.quiet_of_same ((HH.out _).mono fun _ _ h => ⟨h.1, h.2.symm⟩)))
              have hB2 := below_drewN hB nq
              go_wp2
              go_roundw
              case rel => exact ⟨m + 1, by omega, by go_num, _, rfl, by rw [size_snoc, HTZ.out], hB2, Lib.hid (by rw [un_snoc, ← HQF.out, HBU.out]; exact bt_snoc 48 HQ.out)⟩
              case measure => simp [intOf]; omega
          · obtain rfl : m = n := by omega
            have hl0 := un_len b m
            have hW1 := below_step hW0 hB
            have HU : Hid (unL b (cntI b).toNat = unL b m) := Lib.hid (by rw [HCN.out]; rfl)
            have HPK := Lib.hid (fun W' => refpack_any t W' htz)
            have HTX : Hid (t.data.toList = unL b m) := Lib.hid (by rw [HQ.out])
            by_cases hp : pkI (unL b m) = b
            · have HP := Lib.hid hp
              have HR := Lib.hid (un_ok (b := b) (by omega) (by rw [HCN.out]; omega) (by rw [HU.out]; exact hp))
              clear hp
              go_wp2_with (first
                | (go_at_call 92; refine (HPK.out _).mono ?_; rintro e w5 ⟨A5, c5, zs, rfl, hO5, hB5, hz⟩; have hW5 := below_step hW1 hB5; have hzb : Hid (zs = b) := Lib.hid (by rw [hz.out, HTX.out, HP.out]))
                | (go_at_call 55; refine (sameBytes_any zs b _ _ _ _ _ hO5.bts (H.out.below hW5) (Nat.le_trans hO5.le hO5.cap)).mono ?_; rintro e w6 ⟨rfl, n6, rfl⟩; rw [decide_eq_true hzb.out]))
              go_ret2
              exact ⟨t, 0, rfl, below_drewN hW5 n6, Lib.hid ⟨by rw [HR.out.2, HU.out]; exact HQ.out, HR.out.1.symm⟩⟩
            · have HP := Lib.hid hp
              have HR := Lib.hid (un_other (b := b) (by rw [HU.out]; exact hp))
              clear hp
              go_wp2_with (first
                | (go_at_call 92; refine (HPK.out _).mono ?_; rintro e w5 ⟨A5, c5, zs, rfl, hO5, hB5, hz⟩; have hW5 := below_step hW1 hB5; have hzb : Hid (zs ≠ b) := Lib.hid (by rw [hz.out, HTX.out]; exact HP.out))
                | (go_at_call 55; refine (sameBytes_any zs b _ _ _ _ _ hO5.bts (H.out.below hW5) (Nat.le_trans hO5.le hO5.cap)).mono ?_; rintro e w6 ⟨rfl, n6, rfl⟩; rw [decide_eq_false hzb.out]))
              go_ret2
              exact ⟨⟨#[]⟩, 3, rfl, below_drewN hW5 n6, Lib.hid ⟨by rw [HR.out.2], HR.out.1.symm⟩⟩
      · have u2 : ((b.length : Int) != 2 + ((n : Int) + 7) / 8) = true := by simp; omega
        have HR := Lib.hid (un_size (b := b) (by rw [HCN.out]; simpa using h4))
        clear h4
        go_wp2
        go_ret2
        exact ⟨⟨#[]⟩, 3, rfl, hW0, Lib.hid ⟨by rw [HR.out.2], HR.out.1.symm⟩⟩
end Go.Proofs.YtcmnjmhedmneiaaDoor
