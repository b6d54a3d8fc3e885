/-
  Contract: encode (firnref03).
-/
import Derived.Test.YtcmnjmhedmneiaaDoorRefTo
import Derived.Test.YtcmnjmhedmneiaaDoorEncode
namespace Go.Proofs.YtcmnjmhedmneiaaDoor
open Go.RowKit Go.Shelf

/-- Two blocks of five texts: what is behind, and the best so far. -/
structure EnI (w wr : World) (S M : Nat) (bh best : Nat → List UInt8) : Prop where
  below : Below w.heap.size w wr
  base : w.heap.size ≤ S
  lt : S < M
  size : M < wr.heap.size
  aft : WaysAt S bh wr
  now : WaysAt M best wr
section
variable {w wr w' : World} {S M : Nat} {bh best best' : Nat → List UInt8}
theorem EnI.step (h : EnI w wr S M bh best) (hB : Below wr.heap.size wr w') : EnI w w' S M bh best :=
  ⟨below_step h.below hB, h.base, h.lt, Nat.lt_of_lt_of_le h.size hB.size, h.aft.below hB (Nat.lt_trans h.lt h.size), h.now.below hB h.size⟩
theorem EnI.drewN (h : EnI w wr S M bh best) (n : Nat) : EnI w (wr.drewN n) S M bh best := h.step (below_drewN (Below.refl _ _) n)
theorem EnI.same (h : EnI w wr S M bh best) (hk : ∀ k, k < 5 → best' k = best k) : EnI w wr S M bh best' :=
  ⟨h.below, h.base, h.lt, h.size, h.aft, fun k hk5 => by rw [hk k hk5]; exact h.now k hk5⟩
theorem EnI.put {a : Nat} {t : List UInt8} (h : EnI w wr S M bh best) (hk : ∀ k, k < 5 → best' k = if k = a then t else best k) : EnI w (wr.setCell ⟨M, a, none⟩ (sv t)) S M bh best' := by
  have hS := h.base
  have hl := h.lt
  refine ⟨h.below.setCell (by show w.heap.size ≤ M; omega) _, h.base, h.lt, by simpa using h.size, fun k hk5 => ⟨?_, by rw [World.frozen?_setCell]; exact (h.aft k hk5).2⟩, fun k hk5 => ⟨?_, by rw [World.frozen?_setCell]; exact (h.now k hk5).2⟩⟩
  · rw [World.cell?_setCell_other _ _ _ _ (by intro e; injection e with e1; omega)]; exact (h.aft k hk5).1
  · rw [hk k hk5]
    by_cases e : k = a
    · subst e
      rw [if_pos rfl]
      exact World.cell?_setCell_same' _ _ _ (by rw [(h.now k hk5).1]; rfl)
    · rw [if_neg e, World.cell?_setCell_other _ _ _ _ (by intro h; injection h with h1 h2; exact e h2.symm)]
      exact (h.now k hk5).1
end
theorem ways_new (w : World) : WaysAt w.heap.size (fun _ => []) (w.alloc (.cells #[sv [], sv [], sv [], sv [], sv []] 64)) := by
  intro k hk
  rcases (show k = 0 ∨ k = 1 ∨ k = 2 ∨ k = 3 ∨ k = 4 by omega) with rfl | rfl | rfl | rfl | rfl <;> exact ⟨by go_simp, by go_simp⟩
theorem via_ne (d : Int) (bh : Nat → List UInt8) (a b : Nat) : viaL d bh a b ≠ [] := by
  intro h
  have h1 := congrArg List.length h
  have h2 := wd_bd b
  rw [viaL, List.length_append, List.length_append, word_len] at h1
  simp at h1
  omega
theorem refto_some (a b : Nat) (ha : a < 5) (hb : b < 5) : ∃ q : ByteArray, q.size ≤ 96 ∧ q = ⟨(changeL a b).toArray⟩ ∧ ∀ w, Calls Tryd.prog 97 #[.int .i64 a, .int .i64 b] w fun e w' => e = .returned (.string q) ∧ w' = w := by
  refine ⟨_, ?_, rfl, fun w => (refto_any a b ha hb w).mono ?_⟩
  · rw [sv_size]; have := change_len ha hb; omega
  · rintro e w' ⟨q, rfl, _, rfl, hq⟩
    exact ⟨by rw [hq.out], rfl⟩
theorem can_in {k : Nat} {d : Int} (h : canB (wdN k) d = true) : inwB (wdN k) d = true := by
  simp only [canB, inwB, decide_eq_true_eq] at h ⊢; omega
theorem refword_some (k : Nat) (n : Int) (h : inwB (wdN k) n = true) : ∃ q : ByteArray, q.size ≤ 11 ∧ q = ⟨(wordL (wdN k) n).toArray⟩ ∧ ∀ w, Calls Tryd.prog 69 #[.int .i64 (wdN k), .int .i64 n] w fun e w' => e = .returned (.string q) ∧ w' = w := by
  have hw := wd_bd k
  refine ⟨_, ?_, rfl, fun w => (refword_any (wdN k) n w hw.1 hw.2 h).mono ?_⟩
  · rw [sv_size, word_len]; exact hw.2
  · rintro e w' ⟨q, rfl, _, rfl, hq⟩
    exact ⟨by rw [hq.out], rfl⟩
theorem shorter_some (a b : List UInt8) (x y : ByteArray) (w : World) (hx : x = ⟨a.toArray⟩) (hy : y = ⟨b.toArray⟩) :
    Calls Tryd.prog 98 #[.string x, .string y] w fun e w' => e = .returned (.bool (betterB a b)) ∧ w = w' := by
  subst hx hy; exact shorter_any a b w
theorem drop_cons {ds : List Int} {j : Nat} {d : Int} (h : ds[j]? = some d) : ds.drop j = d :: ds.drop (j + 1) := by
  obtain ⟨h1, h2⟩ := List.getElem?_eq_some_iff.1 h
  rw [List.drop_eq_getElem_cons h1, h2]
theorem best_none (d : Int) (bh : Nat → List UInt8) (k : Nat) : bestF d bh 0 0 k = (fun _ => []) k := by
  unfold bestF
  rw [if_neg (by omega)]
  split <;> rfl

set_option maxRecDepth 100000 in
set_option maxHeartbeats 4000000 in
theorem refencode_any (ds : List Int) (A : Option Addr) (c : Nat) (w : World) (h : Ints w A ds) (hn1 : 1 ≤ ds.length) (hn2 : ds.length ≤ 40) (hbd : ∀ d ∈ ds, -1023 ≤ d ∧ d ≤ 1023) :
    Calls Tryd.prog 74 #[.slice A ds.length c] w fun e w' => ∃ q : ByteArray, e = .returned (.string q) ∧ q.size ≤ 3000 ∧ Below w.heap.size w w' ∧ Hid (q = ⟨(encL ds 2).toArray⟩) := by
  obtain ⟨bl, off, e, hbk, hc⟩ := h.open_ (by omega)
  subst e
  have HC := Lib.hid hc
  have HD := Lib.hid hbd
  clear h hc hbd
  go_enter Tryd.func74, Tryd.ntmps74
  go_wp2
  obtain ⟨S, hS⟩ : ∃ S, S = w.heap.size := ⟨_, rfl⟩
  obtain ⟨W0, hW0⟩ : ∃ W0, W0 = w.alloc (.cells #[sv [], sv [], sv [], sv [], sv []] 64) := ⟨_, rfl⟩
  have hB0 : Below w.heap.size w W0 := by rw [hW0]; exact (by repeat (first | with_reducible exact Below.refl _ _ | with_reducible assumption | refine below_drewN ?_ _ | with_reducible refine Below.drew ?_ | (refine Below.setCell ?_ (by first | (simp; done) | (simp; omega) | omega) _) | (refine Below.alloc ?_ (by first | (simp; done) | (simp; omega) | omega) _)))
  have hZ0 : S < W0.heap.size := by rw [hW0, hS]; simp
  have hA0 : Hid (WaysAt S (fun _ => []) W0) := by rw [hW0, hS]; exact ways_new w
  rw [← hW0, ← hS]
  have HS := Lib.hid hS
  clear hW0 hS
  go_loopw [4] (fun i wr => ∃ m : Nat, m ≤ ds.length ∧ i = .int .i64 ((m : Int) - 1) ∧ Below w.heap.size w wr ∧ S < wr.heap.size ∧ Hid (WaysAt S (encL (ds.drop m)) wr)) (fun i _ => (intOf i + 1).toNat)
  case atStart => exact ⟨ds.length, Nat.le_refl _, rfl, hB0, hZ0, by rw [List.drop_length]; exact hA0⟩
  case round =>
    clear hB0 hZ0 hA0
    obtain ⟨m, hm, rfl, hB, hZ, hA⟩ := hrel
    rcases m with _ | j
    · rw [show (((0 : Nat) : Int) - 1) = -1 from rfl]
      have a2 := hA.out 2 (by omega)
      have hq := enc_len ds 2 (by omega)
      obtain ⟨q, hq0⟩ : ∃ q : ByteArray, (⟨(encL ds 2).toArray⟩ : ByteArray) = q := ⟨_, rfl⟩
      rw [List.drop_zero, show sv (encL ds 2) = .string ⟨(encL ds 2).toArray⟩ from rfl, hq0] at a2
      obtain ⟨a2, _⟩ := a2
      have hqs : q.size ≤ 3000 := by rw [← hq0, sv_size]; omega
      have HQ := Lib.hid hq0
      clear hq hq0 hA
      go_wp2
      go_ret
      exact ⟨q, rfl, hqs, hB, Lib.hid HQ.out.symm⟩
    · rw [show (((j + 1 : Nat) : Int) - 1) = (j : Int) by omega]
      obtain ⟨d, hd⟩ := getElem?_of_lt (show j < ds.length by omega)
      obtain ⟨hd0, hd1⟩ := HD.out d (List.mem_of_getElem? hd)
      have HDR := Lib.hid (drop_cons hd)
      have hdl : (ds.drop (j + 1)).length ≤ 40 := by rw [List.length_drop]; omega
      obtain ⟨bh, hbh⟩ : ∃ bh, encL (ds.drop (j + 1)) = bh := ⟨_, rfl⟩
      have HL : Hid (∀ k, k < 5 → (bh k).length ≤ 2360) := Lib.hid (fun k hk => by have := enc_len (ds.drop (j + 1)) k hk; rw [hbh] at this; omega)
      have HN : Hid (encL (ds.drop j) = frontL d bh) := Lib.hid (by rw [HDR.out, enc_cons, hbh])
      rw [hbh] at hA
      have f0 := (hB.cell (p := ⟨bl, off + j, none⟩) hbk).trans (HC.out _ _ hd)
      have HF := Lib.hid f0
      have hjn : (j : Int) < (ds.length : Int) := by omega
      have HJ := Lib.hid hd
      clear hd hdl hbh f0
      go_wp2
      obtain ⟨M, hM⟩ : ∃ M, M = wr.heap.size := ⟨_, rfl⟩
      obtain ⟨W1, hW1⟩ : ∃ W1, W1 = wr.alloc (.cells #[sv [], sv [], sv [], sv [], sv []] 64) := ⟨_, rfl⟩
      have hBW : Below wr.heap.size wr W1 := by rw [hW1]; exact (Below.refl _ _).alloc (Nat.le_refl _) _
      have hE1 : Hid (EnI w W1 S M bh (bestF d bh 0 0)) := by
        have hmn : WaysAt M (fun _ => []) W1 := by rw [hW1, hM]; exact ways_new wr
        refine ⟨below_step hB hBW, by rw [HS.out]; exact Nat.le_refl _, by rw [hM]; exact hZ, by rw [hW1, hM]; simp, hA.out.below hBW hZ, fun k hk => ?_⟩
        rw [best_none]
        exact hmn k hk
      have HF1 : Hid (W1.cell? ⟨bl, off + j, none⟩ = some (.int .i64 d)) := (hBW.cell (p := ⟨bl, off + j, none⟩) (Nat.lt_of_lt_of_le hbk hB.size)).trans HF.out
      rw [← hW1, ← hM]
      clear hW1 hM hA HF hBW hB hZ
      go_loopw [17] (fun i wq => ∃ a : Nat, a ≤ 5 ∧ i = .int .i64 a ∧ EnI w wq S M bh (bestF d bh a 0)) (fun i _ => 5 - (intOf i).toNat)
      case atStart => exact ⟨0, by omega, rfl, hE1.out⟩
      case round =>
        clear hE1 HF1
        obtain ⟨a, ha, rfl, hE⟩ := hrel
        by_cases hlt : a < 5
        · have ta : decide ((a : Int) < 5) = true := decide_eq_true (by omega)
          have HE := Lib.hid hE
          clear hE
          go_wp2
          go_loopw [7, 20] (fun sm i wq => ∃ b : Nat, b ≤ 5 ∧ i = .int .i64 b ∧ ∃ t : Bool, sm = .bool t ∧ EnI w wq S M bh (bestF d bh a b) ∧ Hid (t = false → bestK d bh a b = []) ∧ Hid (t = true → bestK d bh a b ≠ [])) (fun _ i _ => 5 - (intOf i).toNat)
          case atStart => exact ⟨0, by omega, rfl, false, rfl, HE.out, Lib.hid (fun _ => rfl), Lib.hid (fun h => by cases h)⟩
          case round =>
            clear HE
            obtain ⟨b, hb, rfl, t, rfl, hE, hT0, hT1⟩ := hrel
            by_cases hltb : b < 5
            · have tb : decide ((b : Int) < 5) = true := decide_eq_true (by omega)
              have i0 : (0 : Int) ≤ (b : Int) := by omega
              have i1 : (b : Int) < 5 := by omega
              have i2 : (0 : Int) ≤ (a : Int) := by omega
              have i3 : (a : Int) < 5 := by omega
              have f0 := (hE.below.cell (p := ⟨bl, off + j, none⟩) hbk).trans (HC.out j d HJ.out)
              have hsz := hE.size
              have hsl := hE.lt
              have hwid := Lib.hid (fun w => (refwidth_any b hltb w).mono fun e w' (h : e = .returned (.int .i64 (wdN b)) ∧ w = w') => And.intro h.1 h.2.symm)
              have HE := Lib.hid hE
              cases hcn : canB (wdN b) d with
              | false =>
                have hcan := Lib.hid (fun w => (refcan_any b d w).mono fun e w' (h : e = .returned (.bool (canB (wdN b) d)) ∧ w = w') => (And.intro (by rw [h.1, hcn]) h.2.symm : e = .returned (.bool false) ∧ w' = w))
                have HCN := Lib.hid hcn
                clear hcn hE
                go_wp2
                go_quiet ((first
                  | (go_at_call 76; exact Calls.quiet_of_same (hwid.out _))
                  | (go_at_call 81; exact Calls.quiet_of_same (hcan.out _))))
                go_wp2
                go_roundw
                case rel => exact ⟨b + 1, by omega, by go_num, t, rfl, (HE.out.step (below_drewN (Below.refl _ _) _)).same fun k _ => bestF_skip (best_no HCN.out) k, by rw [best_no HCN.out]; exact hT0, by rw [best_no HCN.out]; exact hT1⟩
                case measure => simp [intOf]; omega
              | true =>
                have hcan := Lib.hid (fun w => (refcan_any b d w).mono fun e w' (h : e = .returned (.bool (canB (wdN b) d)) ∧ w = w') => (And.intro (by rw [h.1, hcn]) h.2.symm : e = .returned (.bool true) ∧ w' = w))
                have HCN := Lib.hid hcn
                obtain ⟨q1, hq1, HQ1, hto⟩ := refto_some a b hlt hltb
                obtain ⟨q2, hq2, HQ2, hwo⟩ := refword_some b d (can_in hcn)
                obtain ⟨s, hs0⟩ : ∃ s : ByteArray, (⟨(bh b).toArray⟩ : ByteArray) = s := ⟨_, rfl⟩
                have hsz2 : s.size ≤ 2360 := by rw [← hs0, sv_size]; exact HL.out b hltb
                have HT : Hid ((⟨(viaL d bh a b).toArray⟩ : ByteArray) = q1 ++ q2 ++ s) := Lib.hid (by
                  rw [HQ1, HQ2, ← hs0, sv_append, sv_append]; rfl)
                have hto := Lib.hid hto
                have hwo := Lib.hid hwo
                have HS0 := Lib.hid hs0
                have r12 : (9223372036854775807 < q1.size + q2.size) = False := eq_false (by omega)
                have r123 : (9223372036854775807 < q1.size + q2.size + s.size) = False := eq_false (by omega)
                have r124 : (9223372036854775807 < (q1 ++ q2).size + s.size) = False := eq_false (by rw [ByteArray.size_append]; omega)
                clear hcn hE HQ1 HQ2 hs0
                go_wp2
                go_quiet ((first
                  | (go_at_call 76; exact Calls.quiet_of_same (hwid.out _))
                  | (go_at_call 81; exact Calls.quiet_of_same (hcan.out _))))
                obtain ⟨wd, hwd⟩ : ∃ wd, wd = wr.drewN nq := ⟨_, rfl⟩
                have hE : EnI w wd S M bh (bestF d bh a b) := by rw [hwd]; exact HE.out.drewN nq
                rw [← hwd]
                clear hwd HE f0 hsz
                have f0 := (hE.below.cell (p := ⟨bl, off + j, none⟩) hbk).trans (HC.out j d HJ.out)
                have hsz := hE.size
                have g0 := (hE.aft b hltb).1
                rw [show sv (bh b) = .string ⟨(bh b).toArray⟩ from rfl, HS0.out] at g0
                have p0 := (hE.now a hlt).1
                have p1 := (hE.now a hlt).2
                rw [bestF_self] at p0
                obtain ⟨p, hp⟩ : ∃ p : ByteArray, (⟨(bestK d bh a b).toArray⟩ : ByteArray) = p := ⟨_, rfl⟩
                rw [show sv (bestK d bh a b) = .string ⟨(bestK d bh a b).toArray⟩ from rfl, hp] at p0
                have HP := Lib.hid hp
                have HE := Lib.hid hE
                clear hp hE
                go_wp2
                go_quiet ((first
                  | (go_at_call 76; exact Calls.quiet_of_same (hwid.out _))
                  | (go_at_call 97; exact Calls.quiet_of_same (hto.out _))
                  | (go_at_call 69; exact Calls.quiet_of_same (hwo.out _))))
                have HE2 := Lib.hid (HE.out.drewN nq)
                have HVN := Lib.hid (via_ne d bh a b)
                clear f0 g0 r12 r123 r124 hto hwo hcan HE
                cases t with
                | false =>
                  have HB0 := Lib.hid (hT0.out rfl)
                  have HN := Lib.hid (best_first HCN.out HB0.out)
                  go_wp2
                  go_roundw
                  case rel => exact ⟨b + 1, by omega, by go_num, true, rfl, by rw [← HT.out]; exact HE2.out.put (fun k _ => by rw [bestF_put, HN.out]), Lib.hid (fun h => by cases h), Lib.hid (fun _ => by rw [HN.out]; exact HVN.out)⟩
                  case measure => simp [intOf]; omega
                | true =>
                  have HB0 := Lib.hid (hT1.out rfl)
                  cases hbt : betterB (viaL d bh a b) (bestK d bh a b) with
                  | true =>
                    have HBT := Lib.hid hbt
                    have HN := Lib.hid (best_yes HCN.out hbt)
                    clear hbt
                    go_wp2_with (go_at_call 98; refine (shorter_some _ _ _ _ _ HT.out.symm HP.out.symm).mono ?_; rintro e wb ⟨rfl, rfl⟩; rw [HBT.out])
                    go_roundw
                    case rel => exact ⟨b + 1, by omega, by go_num, true, rfl, by rw [← HT.out]; exact HE2.out.put (fun k _ => by rw [bestF_put, HN.out]), Lib.hid (fun h => by cases h), Lib.hid (fun _ => by rw [HN.out]; exact HVN.out)⟩
                    case measure => simp [intOf]; omega
                  | false =>
                    have HBT := Lib.hid hbt
                    have HN := Lib.hid (best_stay HB0.out hbt)
                    clear hbt
                    go_wp2_with (go_at_call 98; refine (shorter_some _ _ _ _ _ HT.out.symm HP.out.symm).mono ?_; rintro e wb ⟨rfl, rfl⟩; rw [HBT.out])
                    go_roundw
                    case rel => exact ⟨b + 1, by omega, by go_num, true, rfl, HE2.out.same fun k _ => bestF_skip HN.out k, Lib.hid (fun h => by cases h), Lib.hid (fun _ => by rw [HN.out]; exact HB0.out)⟩
                    case measure => simp [intOf]; omega
            · obtain rfl : b = 5 := by omega
              go_wp2
              go_roundw
              case rel => exact ⟨a + 1, by omega, by go_num, hE.same fun k _ => bestF_row d bh a k⟩
              case measure => simp [intOf]; omega
        · obtain rfl : a = 5 := by omega
          have e0 := (hE.now 0 (by omega)).1
          have e1 := (hE.now 1 (by omega)).1
          have e2 := (hE.now 2 (by omega)).1
          have e3 := (hE.now 3 (by omega)).1
          have e4 := (hE.now 4 (by omega)).1
          rw [bestF_all (by omega)] at e0 e1 e2 e3 e4
          obtain ⟨r0, z0⟩ := hE.aft 0 (by omega)
          obtain ⟨r1, z1⟩ := hE.aft 1 (by omega)
          obtain ⟨r2, z2⟩ := hE.aft 2 (by omega)
          obtain ⟨r3, z3⟩ := hE.aft 3 (by omega)
          obtain ⟨r4, z4⟩ := hE.aft 4 (by omega)
          have hZ := Lib.hid (Nat.lt_trans hE.lt hE.size)
          have HE := Lib.hid hE
          have v1 : IntKind.i64.wrap ((j : Int) - 1) = (j : Int) - 1 := IntWalk.i64_in _ (by omega)
          clear hE
          go_wp2
          go_roundw
          case rel => exact ⟨j, by omega, by go_num, put5_below (frontL d bh) HE.out.below HE.out.base, by simpa using hZ.out, Lib.hid (by rw [HN.out]; exact put5_ways HE.out.aft)⟩
          case measure => simp [intOf] <;> omega
end Go.Proofs.YtcmnjmhedmneiaaDoor
