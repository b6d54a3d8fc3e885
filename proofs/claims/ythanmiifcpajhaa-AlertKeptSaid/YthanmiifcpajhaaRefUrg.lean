/-
  Contracts of the reference: urgent, Urgent, Can, Undone, Longest.
-/
import Derived.Test.YthanmiifcpajhaaUrgents
import Derived.Test.YthanmiifcpajhaaRefMin
set_option linter.unusedVariables false
set_option linter.unusedSimpArgs false
namespace Go.Proofs.Ythanmiifcpajhaa
open Go Go.RowKit

theorem pF_vL {p : Nat → Int} {n k : Nat} (h : k < n) : pF (vL p n) k = p k := pF_get (vL_get h)
theorem cn_vL (p : Nat → Int) (n i : Nat) : cn (pF (vL p n)) i n = cn p i n := cn_same i n (fun m hm => pF_vL hm)
theorem vL_rng (ts : List (Int × Int × Int)) (n : Nat) : ∀ (m : Nat) (z : Int), (vL (urF ts) n)[m]? = some z → -1 ≤ z ∧ z < ts.length := by
  intro m z h
  have hm := (List.getElem?_eq_some_iff.1 h).1
  rw [vL_len] at hm
  rw [vL_get hm] at h
  obtain rfl := Option.some.inj h
  exact ur_bd ts m

set_option maxRecDepth 100000 in
set_option maxHeartbeats 4000000 in
theorem refUrgent_any (ts : List (Int × Int × Int)) (A : Option Addr) (cap : Nat) (w : World) (h : Marks w A ts) (hv : vaB ts = true) :
    Calls Try.prog 66 #[.slice A ts.length cap] w fun e w' => ∃ B c, e = .returned (.slice B (vL (urF ts) 100).length c) ∧ Out w' B c (vL (urF ts) 100) ∧ Below w.heap.size w w' := by
  have H := Lib.hid h
  have HV := Lib.hid hv
  have hl := va_len hv
  obtain ⟨hl1, hl2⟩ := hl
  obtain ⟨bl, off, rfl, hbk, hcells⟩ := H.out.open_ (show 0 < ts.length by omega)
  have HC := Lib.hid hcells
  clear h hv hcells
  go_enter Try.func66, Try.ntmps66
  go_wp2
  go_loopw [3, 4] (fun l i wr => ∃ m : Nat, m ≤ 100 ∧ i = .int .i64 m ∧ wr.ownsRow w.heap.size 3 1 l m ((vL (urF ts) m).map (Value.int .i64)) ∧ Below w.heap.size w wr) (fun _ i _ => 100 - (intOf i).toNat)
  case atStart => exact ⟨0, Nat.zero_le _, rfl, ⟨rfl, .inl ⟨rfl, rfl⟩⟩, Below.refl _ _⟩
  case round =>
    obtain ⟨m, hm, rfl, hown, hB⟩ := hrel
    by_cases hlt : m < 100
    · obtain ⟨B, c, rfl, ho⟩ := own_ints hown
      have HO := Lib.hid ho
      have HOW : Hid (wr.ownsRow w.heap.size 3 1 (.slice B m c) m ((vL (urF ts) m).map (Value.int .i64))) := Lib.hid (by have h2 := hown; rw [vL_len] at h2; exact h2)
      have HM : Hid (∀ W : World, Below wr.heap.size wr W → Calls Try.prog 69 #[.slice (some ⟨bl, off, none⟩) ts.length cap, .slice B (vL (urF ts) m).length c] W fun e w' => e = .returned (.slice (some ⟨W.heap.size, 0, none⟩) ts.length ts.length) ∧ OwnV w' W.heap.size W.heap.size (usN ts m) ts.length ∧ Below W.heap.size W w') := Lib.hid fun W hW => (minutes_any ts _ cap (vL (urF ts) m) B c W hl1 hl2 (ho.ints.below hW) (vL_rng ts m) (by rw [vL_len]; omega)).mono fun e w' h => ⟨h.1, by have := h.2.1; rw [vL_len] at this; exact this.congr (fun i _ => by rw [us_cn]; exact cn_vL (urF ts) m i), h.2.2⟩
      have HLE := Lib.hid (us_le HV.out m)
      rw [vL_len] at HM
      simp only [vL_len]
      clear ho hown
      go_wp2_with (go_at_call 69; refine (HM.out _ (Below.refl _ _)).mono ?_; rintro e w2 ⟨rfl, hO2, hB2⟩; have HO2 := Lib.hid hO2; have HB2 := Lib.hid hB2; clear hO2)
      have hW2 := below_step hB hB2
      have HW2 := Lib.hid hW2
      have hbk2 : bl < w2.heap.size := Nat.lt_of_lt_of_le hbk hW2.size
      have hgb : wr.heap.size < w2.heap.size := (HO2.out.lt wr.heap.size (by simp [Value.ownBlock])).2
      clear hB2 hW2
      obtain ⟨gb, hgb2⟩ : ∃ gb, gb = wr.heap.size := ⟨_, rfl⟩
      rw [← hgb2] at HO2 hgb ⊢
      clear hgb2
      rename World => wq
      go_loopw [6, 7] (fun b i wr => ∃ (k : Nat) (Z : Int), k ≤ ts.length ∧ i = .int .i64 k ∧ b = .int .i64 Z ∧ Hid (Z = bst ts (usN ts m) m k) ∧ Below wq.heap.size wq wr) (fun _ i _ => ts.length - (intOf i).toNat)
      case atStart => exact ⟨0, -1, Nat.zero_le _, rfl, rfl, rfl, Below.refl _ _⟩
      case round =>
        obtain ⟨k, Z, hk, rfl, rfl, hBst, hB3⟩ := hrel
        by_cases hlt2 : k < ts.length
        · obtain ⟨a, b, d, hx⟩ := getT_of_lt hlt2
          have hp := getT_parts hx
          have hbw : bl < wr.heap.size := Nat.lt_of_lt_of_le hbk2 hB3.size
          have hCW := Lib.hid fun (j : Nat) (x : Int × Int × Int) (hj : ts[j]? = some x) => ((below_step HW2.out hB3).cell (p := ⟨bl, off + j * 3 + 1, none⟩) hbk).trans (HC.out j x hj).2.1
          have q0 : ∀ g : Gw wr, g.v.cell? ⟨bl, off + k * 3, none⟩ = some (.int .i64 a) := fun g => (g.cell hbw).trans (((below_step HW2.out hB3).cell (p := ⟨bl, off + k * 3, none⟩) hbk).trans (HC.out _ _ hx).1)
          have q1 : ∀ g : Gw wr, g.v.cell? ⟨bl, off + k * 3 + 1, none⟩ = some (.int .i64 b) := fun g => (g.cell hbw).trans (((below_step HW2.out hB3).cell (p := ⟨bl, off + k * 3 + 1, none⟩) hbk).trans (HC.out _ _ hx).2.1)
          have q2 : ∀ g : Gw wr, g.v.cell? ⟨bl, off + k * 3 + 2, none⟩ = some (.int .i64 d) := fun g => (g.cell hbw).trans (((below_step HW2.out hB3).cell (p := ⟨bl, off + k * 3 + 2, none⟩) hbk).trans (HC.out _ _ hx).2.2)
          obtain ⟨u, hu⟩ : ∃ u, usN ts m k = u := ⟨_, rfl⟩
          have q3 : ∀ g : Gw wr, g.v.cell? ⟨gb, k, none⟩ = some (.int .i64 u) := fun g => (g.cell (Nat.lt_of_lt_of_le hgb hB3.size)).trans ((hB3.cell (p := ⟨gb, k, none⟩) hgb).trans (by rw [← hu]; exact HO2.out.cell hlt2))
          have hle := HLE.out k hlt2
          rw [hu, hp.2.2] at hle
          have HU := Lib.hid hu
          have HOP := Lib.hid (opT_eq hx m)
          have HP := Lib.hid hp
          clear hx hp hu
          cases ho : opT (a, b, d) m with
          | false =>
            have HN : Hid (bst ts (usN ts m) m (k + 1) = bst ts (usN ts m) m k) := Lib.hid (bst_skip (cd_closed (by rw [← HOP.out, ho])))
            have HQ := Lib.hid ho
            clear ho
            go_wp2
            refine wp_region_grow (by kernel_rfl) (by kernel_rfl) ?_
            repeat (go_big_quiet_step ((go_at_call 84; exact Calls.grow_of ((refOpen_any a b d m _).mono fun _ _ h => ⟨by rw [h.1, HQ.out], h.2⟩))))
            refine wpQuiet_nil ?_
            rintro _ ⟨g1, rfl⟩
            have hB5 := below_step hB3 g1.h
            clear q0 q1 q2 q3
            go_wp2
            go_roundw
            case rel => exact ⟨k + 1, Z, by omega, by go_num, rfl, Lib.hid (by rw [HN.out, hBst.out]), hB5⟩
            case measure => simp [intOf]; omega
          | true =>
            have HQ := Lib.hid ho
            clear ho
            by_cases hcd : u < d
            · have t1 : decide (u < d) = true := decide_eq_true hcd
              have HCD : Hid (cdB ts (usN ts m) m k = true) := Lib.hid (cd_yes (by rw [← HOP.out, HQ.out]) (by rw [HP.out.2.2, HU.out]; exact hcd))
              clear hcd
              have hbd := bst_bd ts (usN ts m) m k
              rw [← hBst.out] at hbd
              by_cases hb : Z < 0
              · have t2 : decide (Z < 0) = true := decide_eq_true hb
                have HN : Hid (bst ts (usN ts m) m (k + 1) = k) := Lib.hid (bst_take HCD.out (.inl (by rw [← hBst.out]; exact hb)))
                clear hb hbd
                go_wp2
                refine wp_region_grow (by kernel_rfl) (by kernel_rfl) ?_
                repeat (go_big_quiet_step ((go_at_call 84; exact Calls.grow_of ((refOpen_any a b d m _).mono fun _ _ h => ⟨by rw [h.1, HQ.out], h.2⟩))))
                refine wpQuiet_nil ?_
                rintro _ ⟨g1, rfl⟩
                have hB5 := below_step hB3 g1.h
                clear q0 q1 q2 q3
                go_wp2
                go_roundw
                case rel => exact ⟨k + 1, k, by omega, by go_num, rfl, Lib.hid (by rw [HN.out]), hB5⟩
                case measure => simp [intOf]; omega
              · have t2 : decide (Z < 0) = false := decide_eq_false hb
                obtain ⟨j, rfl⟩ : ∃ j : Nat, Z = j := ⟨Z.toNat, by omega⟩
                have hjk : j < k := by omega
                obtain ⟨a', L, d', hxj⟩ := getT_of_lt (show j < ts.length by omega)
                have q4 : ∀ g : Gw wr, g.v.cell? ⟨bl, off + j * 3 + 1, none⟩ = some (.int .i64 L) := fun g => (g.cell hbw).trans (hCW.out j _ hxj)
                have hLj := (getT_parts hxj).2.1
                clear hb hbd hxj
                by_cases hL : b < L
                · have t3 : decide (b < L) = true := decide_eq_true hL
                  have HN : Hid (bst ts (usN ts m) m (k + 1) = k) := Lib.hid (bst_take HCD.out (.inr (by rw [← hBst.out, Int.toNat_natCast, HP.out.2.1, hLj]; exact hL)))
                  clear hLj hL
                  go_wp2
                  refine wp_region_grow (by kernel_rfl) (by kernel_rfl) ?_
                  repeat (go_big_quiet_step ((go_at_call 84; exact Calls.grow_of ((refOpen_any a b d m _).mono fun _ _ h => ⟨by rw [h.1, HQ.out], h.2⟩))))
                  refine wpQuiet_nil ?_
                  rintro _ ⟨g1, rfl⟩
                  have hB5 := below_step hB3 g1.h
                  clear q0 q1 q2 q3
                  go_wp2
                  go_roundw
                  case rel => exact ⟨k + 1, k, by omega, by go_num, rfl, Lib.hid (by rw [HN.out]), hB5⟩
                  case measure => simp [intOf]; omega
                · have t3 : decide (b < L) = false := decide_eq_false hL
                  have HN : Hid (bst ts (usN ts m) m (k + 1) = bst ts (usN ts m) m k) := Lib.hid (bst_leave (by rw [← hBst.out, Int.toNat_natCast, HP.out.2.1, hLj]; omega))
                  clear hLj hL
                  go_wp2
                  refine wp_region_grow (by kernel_rfl) (by kernel_rfl) ?_
                  repeat (go_big_quiet_step ((go_at_call 84; exact Calls.grow_of ((refOpen_any a b d m _).mono fun _ _ h => ⟨by rw [h.1, HQ.out], h.2⟩))))
                  refine wpQuiet_nil ?_
                  rintro _ ⟨g1, rfl⟩
                  have hB5 := below_step hB3 g1.h
                  clear q0 q1 q2 q3
                  go_wp2
                  go_roundw
                  case rel => exact ⟨k + 1, j, by omega, by go_num, rfl, Lib.hid (by rw [HN.out, ← hBst.out]), hB5⟩
                  case measure => simp [intOf]; omega
            · have t1 : decide (u < d) = false := decide_eq_false hcd
              have HN : Hid (bst ts (usN ts m) m (k + 1) = bst ts (usN ts m) m k) := Lib.hid (bst_skip (cd_done (by rw [HP.out.2.2, HU.out]; omega)))
              clear hcd
              go_wp2
              refine wp_region_grow (by kernel_rfl) (by kernel_rfl) ?_
              repeat (go_big_quiet_step ((go_at_call 84; exact Calls.grow_of ((refOpen_any a b d m _).mono fun _ _ h => ⟨by rw [h.1, HQ.out], h.2⟩))))
              refine wpQuiet_nil ?_
              rintro _ ⟨g1, rfl⟩
              have hB5 := below_step hB3 g1.h
              clear q0 q1 q2 q3
              go_wp2
              go_roundw
              case rel => exact ⟨k + 1, Z, by omega, by go_num, rfl, Lib.hid (by rw [HN.out, hBst.out]), hB5⟩
              case measure => simp [intOf]; omega
        · obtain rfl : k = ts.length := by omega
          have HS : Hid (vL (urF ts) (m + 1) = vL (urF ts) m ++ [Z]) := Lib.hid (by rw [vL_snoc, hBst.out]; rfl)
          have hOB : Hid (World.ownsRow wr w.heap.size 3 1 (.slice B m c) m ((vL (urF ts) m).map (Value.int .i64))) := Lib.hid (own_below (own_below HOW.out HB2.out) hB3)
          have hB6 := below_step HW2.out hB3
          have hsz : w.heap.size ≤ wr.heap.size := hB6.size
          go_wp2_with (at_builtin; refine wp_app_int _ rfl (.tmp 57) (.tmp 59) rfl w.heap.size _ m (vL (urF ts) m) _ rfl hOB.out rfl (by omega) hsz ?_; intro v' w5 hown5 hB7)
          go_roundw
          case rel =>
            refine ⟨m + 1, by omega, by go_num, ?_, Below.trans hB6 hB7⟩
            rw [HS.out]; exact hown5
          case measure => simp [intOf]; omega
    · obtain rfl : m = 100 := by omega
      obtain ⟨B, c, rfl, ho⟩ := own_ints hown
      have HO := Lib.hid ho
      clear hown ho
      go_wp2
      go_ret
      exact ⟨B, c, rfl, HO.out, hB⟩
end Go.Proofs.Ythanmiifcpajhaa
