/-
  Contract: Unpack (wave).
-/
import Derived.Test.YtcmnjmhedmneiaaDoorUnpackM
namespace Go.Proofs.YtcmnjmhedmneiaaDoor
open Go.RowKit Go.Shelf

set_option maxRecDepth 100000 in
set_option maxHeartbeats 2000000 in
theorem waveUnpack_any (b : List Int) (A : Option Addr) (c : Nat) (w : World) (h : Bts w A b) (hl : b.length ≤ 1000) (hb : Bys b) :
    Calls Tryd.prog 53 #[.slice A b.length c] w fun e w' => TextRes (unE b) (unT b) e w w' := by
  have H := Lib.hid h
  clear h
  by_cases h2 : b.length < 2
  · have u0 : decide ((b.length : Int) < 2) = true := decide_eq_true (by omega)
    have HR := Lib.hid (un_few (b := b) (by omega))
    go_enter Tryd.func53, Tryd.ntmps53
    go_wp2
    go_ret2
    exact ⟨⟨#[]⟩, 3, rfl, Below.refl _ _, Lib.hid ⟨by rw [HR.out.2], HR.out.1.symm⟩⟩
  · have u0 : decide ((b.length : Int) < 2) = false := decide_eq_false (by omega)
    obtain ⟨bl, off, rfl, hbk, hc⟩ := H.out.open_ (by omega)
    have k0 : w.cell? ⟨bl, off, none⟩ = some (.int .u8 (b.getD 0 0)) := hc 0 _ (getD_at (by omega))
    have k1 : w.cell? ⟨bl, off + 1, none⟩ = some (.int .u8 (b.getD 1 0)) := hc 1 _ (getD_at (by omega))
    have i0 : (0 : Int) < (b.length : Int) := by omega
    have i1 : (1 : Int) < (b.length : Int) := by omega
    have b0 := by_at hb 0
    have b1 := by_at hb 1
    have HC := Lib.hid hc
    have hor := or_cnt b0 b1
    obtain ⟨n, hn⟩ : ∃ n : Nat, cntI b = (n : Int) := ⟨(cntI b).toNat, by unfold cntI; omega⟩
    have hn2 : b.getD 0 0 * 256 + b.getD 1 0 = (n : Int) := hn
    rw [hn2] at hor
    have hnb : n ≤ 65535 := by omega
    have HCN := Lib.hid hn
    have HBY := Lib.hid hb
    generalize hx : b.getD 0 0 = x at k0 b0 hor hn2
    generalize hy : b.getD 1 0 = y at k1 b1 hor hn2
    have HOR := Lib.hid hor
    clear hc hx hy hb hn hn2 hor
    go_enter Tryd.func53, Tryd.ntmps53
    go_wp2
    go_quiet (fail)
    rw [HOR.out]
    clear k0 k1 HOR b0 b1
    have hW0 : Below w.heap.size w (w.drewN nq) := below_drewN (Below.refl _ _) nq
    generalize w.drewN nq = W0 at hW0 ⊢
    have s1 : (b.length : Int) - 2 = ((b.length - 2 : Nat) : Int) := by omega
    by_cases h3 : 1000 < n
    · have u1 : decide (1000 < (n : Int)) = true := decide_eq_true (by omega)
      have HR := Lib.hid (un_many (b := b) (by rw [HCN.out]; omega))
      go_wp2
      go_ret2
      exact ⟨⟨#[]⟩, 3, rfl, hW0, Lib.hid ⟨by rw [HR.out.2], HR.out.1.symm⟩⟩
    · have u1 : decide (1000 < (n : Int)) = false := decide_eq_false (by omega)
      by_cases h4 : 8 * ((b.length : Int) - 2) < (n : Int)
      · have u2 : decide (8 * ((b.length : Int) - 2) < (n : Int)) = true := decide_eq_true h4
        have HR := Lib.hid (un_size (b := b) (by rw [HCN.out]; omega))
        have hl9 : 8 * ((b.length : Int) - 2) < 1001 := by omega
        go_wp2
        go_ret2
        exact ⟨⟨#[]⟩, 3, rfl, hW0, Lib.hid ⟨by rw [HR.out.2], HR.out.1.symm⟩⟩
      · have u2 : decide (8 * ((b.length : Int) - 2) < (n : Int)) = false := decide_eq_false h4
        have hlb : n ≤ 8 * (b.length - 2) := by omega
        have hn1000 : n ≤ 1000 := by omega
        obtain ⟨j0, hj0, hz0, hz1, hz2⟩ := info_parts byte_info
        have HZ2 := Lib.hid hz2
        clear hz2
        go_wp2_with (at_make; refine wpList_make_full _ rfl _ _ 43 rfl W0.heap.size 5 j0 (.int .u8 0) 1 Tryd.underlying43 hj0 hz0 hz1 _ _ _ _ n rfl rfl rfl rfl (by rw [HZ2.out]; omega) (by unfold maxLen; omega) (Nat.le_refl _) ?_; intro w4 hown4 hg4)
        have hB4 : Below W0.heap.size W0 w4 := (Below.refl _ _).grown hg4 (Nat.le_refl _) (by simp)
        rw [made_gen (ubF b) n] at hown4
        have hbW : bl < W0.heap.size := Nat.lt_of_lt_of_le hbk hW0.size
        have HC0 := Lib.hid (fun (k : Nat) (z : Int) (hk : b[k]? = some z) => (hW0.cell (p := ⟨bl, off + k, none⟩) hbk).trans (HC.out k z hk))
        clear hg4 HZ2 hz0 hz1 hj0 h3 h4
        go_loopw [34] (fun i wr => ∃ m : Nat, m ≤ n ∧ i = .int .i64 m ∧ wr.ownsRow W0.heap.size 5 1 (.slice (some ⟨W0.heap.size, 0, none⟩) n n) n (Lib.byteCells (genK (ubF b) n m)) ∧ Below W0.heap.size W0 wr) (fun i _ => n - (intOf i).toNat)
        case atStart => exact ⟨0, Nat.zero_le _, rfl, hown4, hB4⟩
        case round =>
          clear hown4 hB4
          obtain ⟨m, hm, rfl, hown, hB⟩ := hrel
          by_cases hlt : m < n
          · obtain ⟨q, r, hmr, hr⟩ : ∃ q r, m = 8 * q + r ∧ r < 8 := ⟨m / 8, m % 8, by omega, by omega⟩
            obtain ⟨j, hj⟩ : ∃ j, 7 - r = j := ⟨_, rfl⟩
            have e8 : (m : Int) % 8 = (r : Int) := by omega
            have e9 : (m : Int) / 8 = (q : Int) := by omega
            have s3 : (7 : Int) - (r : Int) = (j : Int) := by omega
            have s4 : IntKind.i64.wrap ((7 : Int) - (r : Int)) = (j : Int) := by rw [s3]; exact IntWalk.i64_in _ (by omega)
            have hqb : 2 + q < b.length := by omega
            have f0 := (hB.cell (p := ⟨bl, off + (2 + q), none⟩) hbW).trans (HC0.out (2 + q) _ (getD_at hqb))
            have hxb := by_at HBY.out (2 + q)
            have HV0 := bit_valB hxb j
            have HF : Hid (bitU (b.getD (2 + q) 0) j = ubF b m) := Lib.hid (by rw [ubF, ← hj, show m / 8 = q by omega, show m % 8 = r by omega])
            have HV := Lib.hid HV0
            generalize b.getD (2 + q) 0 = x at f0 hxb HV HF
            have c2 := hown.cellAt m (by omega)
            obtain ⟨u, hu⟩ : ∃ u, (Lib.byteCells (genK (ubF b) n m))[m]? = some u := ⟨_, List.getElem?_eq_getElem (by rw [Lib.byteCells_length, genK_len]; exact hlt)⟩
            rw [hu] at c2
            have z2 := hown.frozenAt m
            have HNX := Lib.hid (genK_next (f := ubF b) hlt)
            have HO := Lib.hid hown
            have j7 : j ≤ 7 := by omega
            have q0 : (0 : Int) ≤ 2 + (q : Int) := by omega
            have q1 : 2 + (q : Int) < (b.length : Int) := by omega
            have q2 : (2 + (q : Int)).toNat = 2 + q := by omega
            clear hmr hu hown hj HV0 hqb
            go_wp2
            go_roundw
            case rel => exact ⟨m + 1, by omega, by go_num, by rw [HV.out, HF.out, ← HNX.out]; exact (World.ownsRow.stored HO.out m _).1, hB.setCell (Nat.le_refl _) _⟩
            case measure => simp [intOf]; omega
          · obtain rfl : m = n := by omega
            have hl0 := un_len b m
            have hcv : (convert 43 9 (.slice (some ⟨W0.heap.size, 0, none⟩) m m)).run Tryd.prog wr = .ok (.string ⟨(unL b m).toArray⟩) wr := by
              have := run_convert_bytes_back (P := Tryd.prog) wr 43 9 5 ⟨W0.heap.size, 0, none⟩ m (unL b m) Tryd.underlying43 Tryd.underlying5 Tryd.underlying9 (fun j hj => by
                have hc := hown.cellAt j (by omega)
                rw [ub_end] at hc
                rw [add_mk, Nat.zero_add, hc, Lib.byteCells, List.getElem?_map, List.getElem?_eq_getElem hj]; rfl)
              rwa [hl0] at this
            have hW1 := below_step hW0 hB
            have HU : Hid (unL b (cntI b).toNat = unL b m) := Lib.hid (by rw [HCN.out]; rfl)
            have HPK := Lib.hid (fun W' => wavepack_any ⟨(unL b m).toArray⟩ W' (by rw [sv_size, hl0]; omega))
            obtain ⟨tx, htx⟩ : ∃ tx : ByteArray, (⟨(unL b m).toArray⟩ : ByteArray) = tx := ⟨_, rfl⟩
            have HTX : Hid (tx.data.toList = unL b m) := Lib.hid (by rw [← htx])
            have HTS := Lib.hid htx
            rw [htx] at hcv HPK
            clear htx hown hl0
            by_cases hp : pkI (unL b m) = b
            · have HP := Lib.hid hp
              have HR := Lib.hid (un_ok (b := b) (by omega) (by rw [HCN.out]; omega) (by rw [HU.out]; exact hp))
              clear hp
              go_wp2_with (first
                | (go_at_call 91; refine (HPK.out _).mono ?_; rintro e w5 ⟨A5, c5, zs, rfl, hO5, hB5, hz⟩; have hW5 := below_step hW1 hB5; have hzb : Hid (zs = b) := Lib.hid (by rw [hz.out, HTX.out, HP.out]))
                | (go_at_call 93; refine (equalB_any zs b _ _ _ _ _ hO5.bts (H.out.below hW5) (Nat.le_trans hO5.le hO5.cap)).mono ?_; rintro e w6 ⟨rfl, n6, rfl⟩; rw [decide_eq_true hzb.out]))
              go_ret2
              exact ⟨tx, 0, rfl, below_drewN hW5 n6, Lib.hid ⟨by rw [HR.out.2, HU.out]; exact HTS.out.symm, HR.out.1.symm⟩⟩
            · have HP := Lib.hid hp
              have HR := Lib.hid (un_other (b := b) (by rw [HU.out]; exact hp))
              clear hp
              go_wp2_with (first
                | (go_at_call 91; refine (HPK.out _).mono ?_; rintro e w5 ⟨A5, c5, zs, rfl, hO5, hB5, hz⟩; have hW5 := below_step hW1 hB5; have hzb : Hid (zs ≠ b) := Lib.hid (by rw [hz.out, HTX.out]; exact HP.out))
                | (go_at_call 93; refine (equalB_any zs b _ _ _ _ _ hO5.bts (H.out.below hW5) (Nat.le_trans hO5.le hO5.cap)).mono ?_; rintro e w6 ⟨rfl, n6, rfl⟩; rw [decide_eq_false hzb.out]))
              go_ret2
              exact ⟨⟨#[]⟩, 3, rfl, below_drewN hW5 n6, Lib.hid ⟨by rw [HR.out.2], HR.out.1.symm⟩⟩
end Go.Proofs.YtcmnjmhedmneiaaDoor
