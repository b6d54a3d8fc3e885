/-
  Contract: pack (firnref03).
-/
import Derived.Test.YtcmnjmhedmneiaaDoorPack
import Derived.Test.YtcmnjmhedmneiaaDoorRefWord
namespace Go.Proofs.YtcmnjmhedmneiaaDoor
open Go.RowKit Go.Shelf

theorem pow_bd : ∀ k, k < 8 → (1 : Int) ≤ 2 ^ k ∧ (2 : Int) ^ k ≤ 128 := by decide
set_option maxRecDepth 100000 in
set_option maxHeartbeats 2000000 in
theorem refpack_any (t : ByteArray) (w : World) (ht : t.size ≤ 1000) :
    Calls Tryd.prog 92 #[.string t] w fun e w' => ∃ (A : Option Addr) (c : Nat) (zs : List Int), e = .returned (.slice A zs.length c) ∧ OutB w' A c zs ∧ Below w.heap.size w w' ∧ Hid (zs = pkI t.data.toList) := by
  go_enter Tryd.func92, Tryd.ntmps92
  go_wp2
  have hB0 : Below w.heap.size w (w.alloc (.cells #[.int .u8 ((t.size : Int) / 256), .int .u8 ((t.size : Int) % 256)] 5)) := (Below.refl _ _).alloc (Nat.le_refl _) _
  have hown0 : (w.alloc (.cells #[.int .u8 ((t.size : Int) / 256), .int .u8 ((t.size : Int) % 256)] 5)).ownsRow w.heap.size 5 1 (.slice (some ⟨w.heap.size, 0, none⟩) 2 2) 2 ((pkT t.data.toList t.size 0).map (Value.int .u8)) := by
    rw [show pkT t.data.toList t.size 0 = [(t.size : Int) / 256, (t.size : Int) % 256] by simp [pkT, pbI]]
    exact row_fullB (heap_alloc_new w _) (Nat.le_refl _) rfl (by unfold maxLen; omega)
  generalize w.alloc (.cells #[.int .u8 ((t.size : Int) / 256), .int .u8 ((t.size : Int) % 256)] 5) = W0 at hB0 hown0 ⊢
  go_loopw [3, 16] (fun v i wr => ∃ m : Nat, m ≤ t.size ∧ i = .int .i64 m ∧ ∃ (g cap n : Nat), v = .slice (some ⟨g, 0, none⟩) n cap ∧ (2 ≤ n ∧ n ≤ 200) ∧ wr.ownsRow w.heap.size 5 1 (.slice (some ⟨g, 0, none⟩) n cap) n ((pkT t.data.toList t.size m).map (Value.int .u8)) ∧ Below w.heap.size w wr ∧ Hid (n = 2 + (m + 7) / 8)) (fun _ i _ => t.size - (intOf i).toNat)
  case atStart => exact ⟨0, Nat.zero_le _, rfl, w.heap.size, 2, 2, rfl, by omega, hown0, hB0, rfl⟩
  case round =>
    clear hown0 hB0
    obtain ⟨m, hm, rfl, g, cap, n, rfl, ⟨hn1, hn2⟩, hown, hB, HN⟩ := hrel
    have hsz := hB.size
    have hlen : t.data.toList.length = t.size := by simp
    have hown_g : w.heap.size ≤ g := (own_lt hown rfl).1
    by_cases hlt : m < t.size
    · obtain ⟨q, r, hmr, hr⟩ : ∃ q r, m = 8 * q + r ∧ r < 8 := ⟨m / 8, m % 8, by omega, by omega⟩
      have HB := Lib.hid (byte_at hlt)
      have HMR := Lib.hid hmr
      have e8 : (m : Int) % 8 = (r : Int) := by omega
      by_cases h0 : r = 0
      · subst h0
        have s0 : (((0 : Nat) : Int) == 0) = true := rfl
        have hn := HN.out
        have s1 : ((n + 1 : Nat) : Int) - 1 = (n : Int) := by omega
        have s2 : IntKind.i64.wrap ((n : Int) + 1 - 1) = (n : Int) := by rw [show (n : Int) + 1 - 1 = (n : Int) by omega]; exact IntWalk.i64_in _ (by omega)
        have hn' : n + 1 = 2 + (m + 1 + 7) / 8 := by omega
        have HNN := Lib.hid hn'
        have HPN := Lib.hid (pb_new (l := t.data.toList) (m := m) (q := q) (by omega) (by omega))
        have HLN : Hid ((pkT t.data.toList t.size m).length = n) := Lib.hid (by rw [pkT_len (by omega)]; omega)
        clear hmr hn hn'
        by_cases h1 : t[m].toNat = 49
        · have u1 : ((t[m].toNat : Int) == 49) = true := by rw [h1]; rfl
          have HBT := Lib.hid (bt_one hlt h1)
          go_wp2_with (at_builtin; refine wp_app_byte _ rfl (.tmp 22) (.tmp 23) rfl w.heap.size _ n _ 0 rfl hown rfl (by omega) hsz ?_; intro v2 w2 hown2 hB2; obtain ⟨A2, c2, e2, hO2⟩ := own_bts hown2; have hl2 : (pkT t.data.toList t.size m ++ [0]).length = n + 1 := (by rw [List.length_append, HLN.out]; rfl); rw [hl2] at e2; subst e2)
          obtain ⟨g2, rfl⟩ : ∃ g2, A2 = some ⟨g2, 0, none⟩ := by
            rcases hown2.2 with ⟨hv, h0⟩ | ⟨g2, _, _, hv, _⟩
            · omega
            · injection hv with hv; exact ⟨g2, hv⟩
          have c3 := hown2.cellAt n (by omega)
          rw [List.getElem?_map, List.getElem?_append_right (by rw [HLN.out]; exact Nat.le_refl _), HLN.out, Nat.sub_self] at c3
          have c4 : w2.cell? ⟨g2, n, none⟩ = some (.int .u8 0) := c3
          have z2 := hown2.frozenAt n
          have hg2 : w.heap.size ≤ g2 := (own_lt hown2 rfl).1
          have HO := Lib.hid hown2
          have HH : Hid (∀ W' : World, Calls Tryd.prog 68 #[.int .i64 8] W' fun e w' => e = .returned (.int .i64 128) ∧ W' = w') := Lib.hid (fun W' => by
            have h8 := refhalf_any 8 (by omega) (by omega) W'
            rw [show halfN 8 = 128 by decide] at h8
            exact h8)
          have k0 : (m : Int).tmod 8 = 0 := by rw [Int.tmod_eq_emod_of_nonneg (by omega)]; exact e8
          have k1 : IntKind.i64.wrap 8 = 8 := by decide
          have k2 : IntKind.i64.wrap (n : Int) = (n : Int) := IntWalk.i64_in _ (by omega)
          have k3 : (0 : Int) ≤ (n : Int) := by omega
          have k4 : (n : Int) < (n : Int) + 1 := by omega
          have k5 : IntKind.u8.wrap 128 = 128 := by decide
          clear hown hown2 hO2 c3
          go_region_law (go_simp; go_wp2_with (go_at_call 68; refine (HH.out _).mono ?_; rintro e w3 ⟨rfl, rfl⟩))
          all_goals
            go_wp2
            go_roundw
            case rel => exact ⟨m + 1, by omega, by go_num, g2, c2, n + 1, rfl, ⟨by omega, by have := HNN.out; omega⟩, by
              have hpn := HPN.out
              rw [HBT.out, Int.one_mul] at hpn
              rw [← pkT_new hpn, ← set_last HLN.out 128]
              exact (World.ownsRow.stored HO.out n _).1, ((hB.trans hB2).setCell hg2 _).drew, HNN⟩
            case measure => simp [intOf]; omega
        · have u1 : ((t[m].toNat : Int) == 49) = false := beq_eq_false_iff_ne.2 (by omega)
          have HBT := Lib.hid (bt_zero hlt h1)
          go_wp2_with (at_builtin; refine wp_app_byte _ rfl (.tmp 22) (.tmp 23) rfl w.heap.size _ n _ 0 rfl hown rfl (by omega) hsz ?_; intro v2 w2 hown2 hB2; obtain ⟨A2, c2, e2, hO2⟩ := own_bts hown2; have hl2 : (pkT t.data.toList t.size m ++ [0]).length = n + 1 := (by rw [List.length_append, HLN.out]; rfl); rw [hl2] at e2; subst e2)
          obtain ⟨g2, rfl⟩ : ∃ g2, A2 = some ⟨g2, 0, none⟩ := by
            rcases hown2.2 with ⟨hv, h0⟩ | ⟨g2, _, _, hv, _⟩
            · omega
            · injection hv with hv; exact ⟨g2, hv⟩
          go_roundw
          case rel => exact ⟨m + 1, by omega, by go_num, g2, c2, n + 1, rfl, ⟨by omega, by have := HNN.out; omega⟩, by
            have hpn := HPN.out
            rw [HBT.out, Int.zero_mul] at hpn
            rw [← pkT_new hpn]
            exact hown2, hB.trans hB2, HNN⟩
          case measure => simp [intOf]; omega
      · have s0 : ((r : Int) == 0) = false := beq_eq_false_iff_ne.2 (by omega)
        have hn := HN.out
        obtain ⟨j, hj⟩ : ∃ j, n - 1 = j := ⟨_, rfl⟩
        have hjq : j = 2 + q := by omega
        have s1 : (n : Int) - 1 = (j : Int) := by omega
        have s2 : IntKind.i64.wrap ((n : Int) - 1) = (j : Int) := by rw [s1]; exact IntWalk.i64_in _ (by omega)
        have hget : (pkT t.data.toList t.size m)[j]? = some (byteI (t.data.toList.take m) q) := by
          rw [hjq, show 2 + q = q + 1 + 1 by omega, pkT, List.getElem?_cons_succ, List.getElem?_cons_succ, pb_take_get (by omega) (by omega)]
        have c2 := hown.cellAt j (by omega)
        rw [List.getElem?_map, hget] at c2
        have z2 := hown.frozenAt j
        have hst := byte_step (l := t.data.toList) hmr hr
        have hbd := byte_bd (t.data.toList.take m) q
        have HPM := Lib.hid (pb_more (l := t.data.toList) (by omega) hmr hr (by omega))
        have HPS := Lib.hid (fun h => pb_same (l := t.data.toList) (by omega) hmr hr (by omega) h)
        have hn' : n = 2 + (m + 1 + 7) / 8 := by omega
        by_cases h1 : t[m].toNat = 49
        · have u1 : ((t[m].toNat : Int) == 49) = true := by rw [h1]; rfl
          have HBT := Lib.hid (bt_one hlt h1)
          obtain ⟨x, hx⟩ : ∃ x : Nat, byteI (t.data.toList.take m) q = (x : Int) := ⟨(byteI (t.data.toList.take m) q).toNat, by omega⟩
          rw [hx] at c2 hbd hst
          have HX := Lib.hid hx
          have HOR := Lib.hid (or_int (r := r) (x := x) hr (by omega) (by have := hst.2; exact_mod_cast this))
          have jn : j < n := by omega
          have HJQ := Lib.hid hjq
          have HNN := Lib.hid hn'
          have HO := Lib.hid hown
          have r7 : r ≤ 7 := by omega
          have jc : (Option.map (Value.int IntKind.u8) (some (x : Int))) = some (.int .u8 (x : Int)) := rfl
          rw [jc] at c2
          have HH := Lib.hid (fun W' => refhalf_any (8 - r) (by omega) (by omega) W')
          have k1 : IntKind.i64.wrap (8 - (r : Int)) = ((8 - r : Nat) : Int) := by rw [show ((8 - r : Nat) : Int) = 8 - (r : Int) by omega]; exact IntWalk.i64_in _ (by omega)
          have k2 : halfN (8 - r) = 2 ^ (7 - r) := by rw [halfN, show 8 - r - 1 = 7 - r by omega]
          have k3 : (x : Int) + 2 ^ (7 - r) ≤ 255 := by
            have h4 := byte_bd (t.data.toList.take (m + 1)) q
            rw [hst.1, HBT.out] at h4
            omega
          have k4 := pow_bd (7 - r) (by omega)
          have k0 : (m : Int).tmod 8 = (r : Int) := by rw [Int.tmod_eq_emod_of_nonneg (by omega)]; exact e8
          have k7 : IntKind.i64.wrap (j : Int) = (j : Int) := IntWalk.i64_in _ (by omega)
          have k8 : (0 : Int) ≤ (j : Int) := by omega
          have k9 : (j : Int) < (n : Int) := by omega
          rw [k2] at HH
          generalize (2 : Int) ^ (7 - r) = hv at HH HOR HPM k3 k4
          have k5 : IntKind.u8.wrap hv = hv := by rw [IntKind.wrap_u8]; omega
          have k6 : IntKind.u8.wrap ((x : Int) + hv) = (x : Int) + hv := by rw [IntKind.wrap_u8]; omega
          clear hmr hn hjq hget hst hx hn' hown hbd jc k2
          go_wp2
          go_region_law (go_simp; go_wp2_with (go_at_call 68; refine (HH.out _).mono ?_; rintro e w3 ⟨rfl, rfl⟩))
          all_goals
            go_wp2
            go_roundw
            case rel => exact ⟨m + 1, by omega, by go_num, g, cap, n, rfl, ⟨hn1, hn2⟩, by
              rw [← pkT_set HPM.out, HBT.out, HX.out, Int.one_mul, ← HJQ.out]
              exact (World.ownsRow.stored HO.out j _).1, (hB.setCell hown_g _).drew, HNN⟩
            case measure => simp [intOf]; omega
        · have u1 : ((t[m].toNat : Int) == 49) = false := beq_eq_false_iff_ne.2 (by omega)
          have HBT := Lib.hid (bt_zero hlt h1)
          have HNN := Lib.hid hn'
          have HO := Lib.hid hown
          clear hmr hn hjq hget hst hn' hown hbd c2 z2 s1 s2
          go_wp2
          go_roundw
          case rel => exact ⟨m + 1, by omega, by go_num, g, cap, n, rfl, ⟨hn1, hn2⟩, by
            have hpk : pkT t.data.toList t.size (m + 1) = pkT t.data.toList t.size m := by rw [pkT, HPS.out HBT.out]; rfl
            rw [hpk]; exact HO.out, hB, HNN⟩
          case measure => simp [intOf]; omega
    · obtain rfl : m = t.size := by omega
      obtain ⟨A, c, e1, hO⟩ := own_bts hown
      have hl2 : (pkT t.data.toList t.size t.size).length = n := by rw [pkT_len (by omega)]; exact HN.out.symm
      have HK : Hid (pkT t.data.toList t.size t.size = pkI t.data.toList) := Lib.hid (by
        rw [pkT, List.take_of_length_le (by omega), pkI, hlen]; simp)
      rw [hl2] at e1
      cases e1
      have HO := Lib.hid hO
      have HL := Lib.hid hl2
      clear hown hO hl2
      go_wp2
      go_ret
      exact ⟨_, _, pkT t.data.toList t.size t.size, by rw [HL.out]; rfl, HO.out, hB, HK⟩
end Go.Proofs.YtcmnjmhedmneiaaDoor
