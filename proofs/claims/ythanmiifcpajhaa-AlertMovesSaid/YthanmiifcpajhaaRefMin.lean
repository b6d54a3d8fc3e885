/-
  Contracts of the reference: minutes, right, doesAll.
-/
import Derived.Test.YthanmiifcpajhaaRefPlan
set_option linter.unusedVariables false
set_option linter.unusedSimpArgs false
namespace Go.Proofs.Ythanmiifcpajhaa
open Go Go.RowKit

theorem pF_at {ps : List Int} {k : Nat} {z : Int} (h : ps[k]? = some z) : pF ps k = z := pF_get h
set_option maxRecDepth 100000 in
set_option maxHeartbeats 1000000 in
theorem minutes_any (ts : List (Int × Int × Int)) (A : Option Addr) (cap : Nat) (ps : List Int) (B : Option Addr) (cb : Nat) (w : World) (hl : 1 ≤ ts.length) (hl2 : ts.length ≤ 12) (hq : Ints w B ps) (hp : ∀ (m : Nat) (z : Int), ps[m]? = some z → -1 ≤ z ∧ z < ts.length) (hps : ps.length ≤ 100) :
    Calls Try.prog 69 #[.slice A ts.length cap, .slice B ps.length cb] w fun e w' => e = .returned (.slice (some ⟨w.heap.size, 0, none⟩) ts.length ts.length) ∧ OwnV w' w.heap.size w.heap.size (fun i => cn (pF ps) i ps.length) ts.length ∧ Below w.heap.size w w' := by
  obtain ⟨i0, hi0, hz0, hz1, hz2⟩ := info_parts int_info
  have HZ2 := Lib.hid hz2
  have HQ := Lib.hid hq
  have HP := Lib.hid hp
  clear hz2 hq hp
  go_enter Try.func69, Try.ntmps69
  go_wp2_with (at_make; refine wpList_make_full _ rfl _ _ 23 rfl w.heap.size 3 i0 (.int .i64 0) 1 Try.underlying23 hi0 hz0 hz1 _ _ _ _ ts.length rfl rfl rfl rfl (by rw [HZ2.out]; omega) (by unfold maxLen; omega) (Nat.le_refl _) ?_; intro w1 hown1 hg1)
  have hB1 : Below w.heap.size w w1 := (Below.refl _ _).grown hg1 (Nat.le_refl _) (by simp)
  rw [made_ints] at hown1
  have HO : Hid (OwnV w1 w.heap.size w.heap.size (fun _ => 0) ts.length) := Lib.hid hown1
  clear hown1 hg1
  go_loopw [6] (fun i wr => ∃ k : Nat, k ≤ ps.length ∧ i = .int .i64 k ∧ Hid (OwnV wr w.heap.size w.heap.size (fun i => cn (pF ps) i k) ts.length) ∧ Below w.heap.size w wr) (fun i _ => ps.length - (intOf i).toNat)
  case atStart => exact ⟨0, Nat.zero_le _, rfl, HO, hB1⟩
  case round =>
    clear HO hB1
    obtain ⟨k, hk, rfl, hO, hB⟩ := hrel
    by_cases hlt : k < ps.length
    · obtain ⟨bp, op, rfl, hbp, hcp⟩ := HQ.out.open_ (by omega)
      obtain ⟨z, hz⟩ := getElem?_of_lt hlt
      have c0 := (hB.cell (p := ⟨bp, op + k, none⟩) hbp).trans (hcp k z hz)
      have hbd := HP.out k z hz
      have HV := Lib.hid (pF_get hz)
      clear hcp hz
      by_cases hneg : z = -1
      · subst hneg
        clear hbd
        go_wp2
        go_roundw
        case rel => exact ⟨k + 1, by omega, by go_num, Lib.hid (hO.out.congr (fun i _ => by rw [cn_out HV.out])), hB⟩
        case measure => simp [intOf]; omega
      · obtain ⟨j, rfl⟩ : ∃ j : Nat, z = j := ⟨z.toNat, by omega⟩
        have hj : j < ts.length := by omega
        have hcn := cn_nn (pF ps) j k
        have c2 := hO.out.cell hj
        have fr2 := hO.out.frozen j
        obtain ⟨u, hu⟩ : ∃ u, cn (pF ps) j k = u := ⟨_, rfl⟩
        rw [hu] at hcn c2
        obtain ⟨u1, u2⟩ := hcn
        have HU := Lib.hid hu
        clear hbd hneg hu
        go_wp2
        go_roundw
        case rel => exact ⟨k + 1, by omega, by go_num, Lib.hid (hO.out.put (fun i => by rw [cn_in HV.out, HU.out])), Below.setCell hB (Nat.le_refl _) _⟩
        case measure => simp [intOf]; omega
    · obtain rfl : k = ps.length := by omega
      go_wp2
      go_ret
      exact ⟨rfl, hO.out, hB⟩

theorem inP_bd {n : Nat} {ps : List Int} (h : isP n ps = true) : ∀ (m : Nat) (z : Int), ps[m]? = some z → -1 ≤ z ∧ z < n := by
  intro m z hz
  have hm := (List.getElem?_eq_some_iff.1 hz).1
  have := isP_bd h m (by rw [isP_len h] at hm; exact hm)
  rwa [pF_get hz] at this
theorem own_below {w w3 : World} {base : Nat} {e : TypeId} {size n : Nat} {v : Value} {xs : List Value} (h : w.ownsRow base e size v n xs) (hB : Below w.heap.size w w3) : w3.ownsRow base e size v n xs :=
  h.kept (World.grownBy.mk hB.os hB.tape hB.output hB.size (fun i hi _ => hB.block i hi) : World.grownBy _ w3 none) (by cases hh : Value.ownBlock v with | none => exact .inl rfl | some g => exact .inr (by simp))
theorem OwnV.below {w w' : World} {base g n : Nat} {p : Nat → Int} (h : OwnV w base g p n) (hb : Below w.heap.size w w') : OwnV w' base g p n := by
  unfold OwnV at *
  exact own_below h hb
set_option maxRecDepth 100000 in
set_option maxHeartbeats 2000000 in
theorem refRight_any (ts : List (Int × Int × Int)) (A : Option Addr) (cap : Nat) (ps : List Int) (B : Option Addr) (cb : Nat) (w : World) (h : Marks w A ts) (hv : vaB ts = true) (hq : Ints w B ps) (hp : isP ts.length ps = true) :
    Calls Try.prog 59 #[.slice A ts.length cap, .slice B ps.length cb] w fun e w' => e = .returned (.bool (riB ts (pF ps))) ∧ Below w.heap.size w w' := by
  have H := Lib.hid h
  have HQ := Lib.hid hq
  have hl := va_len hv
  obtain ⟨hl1, hl2⟩ := hl
  have hpl := isP_len hp
  obtain ⟨bl, off, rfl, hbk, hcells⟩ := H.out.open_ (show 0 < ts.length by omega)
  obtain ⟨bp, op, rfl, hbp, hcp⟩ := HQ.out.open_ (by omega)
  have HC := Lib.hid hcells
  have HCP := Lib.hid hcp
  have HP := Lib.hid hp
  have HR : ∀ b : Bool, b = riB ts (pF ps) → Ending.returned (.bool b) = .returned (.bool (riB ts (pF ps))) := fun _ h => ret_bool h
  have HR := Lib.hid HR
  have hp1 : ps.length ≤ 100 := by omega
  have hp2 : 100 ≤ ps.length := by omega
  have HPL := Lib.hid hpl
  clear h hv hq hp hcells hcp hpl
  go_enter Try.func59, Try.ntmps59
  go_wp2
  go_loopw [5] (fun i wr => ∃ k : Nat, k ≤ ps.length ∧ i = .int .i64 k ∧ Hid ((List.range k).all (opsB ts (pF ps)) = true) ∧ Below w.heap.size w wr) (fun i _ => ps.length - (intOf i).toNat)
  case atStart => exact ⟨0, Nat.zero_le _, rfl, rfl, Below.refl _ _⟩
  case round =>
    obtain ⟨k, hk, rfl, hall, hB⟩ := hrel
    by_cases hlt : k < ps.length
    · obtain ⟨v, hz⟩ := getElem?_of_lt hlt
      have c0 := (hB.cell (p := ⟨bp, op + k, none⟩) hbp).trans (HCP.out k v hz)
      have hbd := inP_bd HP.out k v hz
      have HV := Lib.hid (pF_get hz)
      clear hz
      by_cases hneg : v = -1
      · subst hneg
        have HO : Hid (opsB ts (pF ps) k = true) := Lib.hid (by rw [opsB, HV.out]; rfl)
        clear hbd
        go_wp2
        go_roundw
        case rel => exact ⟨k + 1, by omega, by go_num, (by rw [range_snoc, hall.out, HO.out]; rfl : (List.range (k + 1)).all (opsB ts (pF ps)) = true), hB⟩
        case measure => simp [intOf]; omega
      · obtain ⟨j, rfl⟩ : ∃ j : Nat, v = j := ⟨v.toNat, by omega⟩
        have hj : j < ts.length := by omega
        obtain ⟨a, b, d, hx⟩ := getT_of_lt hj
        have f0 := (hB.cell (p := ⟨bl, off + j * 3, none⟩) hbk).trans (HC.out _ _ hx).1
        have f1 := (hB.cell (p := ⟨bl, off + j * 3 + 1, none⟩) hbk).trans (HC.out _ _ hx).2.1
        have f2 := (hB.cell (p := ⟨bl, off + j * 3 + 2, none⟩) hbk).trans (HC.out _ _ hx).2.2
        have HOE : Hid (opsB ts (pF ps) k = opT (a, b, d) k) := Lib.hid (by rw [opT_eq hx, opsB, HV.out, Int.toNat_natCast, decide_eq_false (by omega)]; rfl)
        clear hbd hneg hx
        cases ho : opT (a, b, d) k with
        | true =>
          have HQ2 := Lib.hid ho
          clear ho
          go_wp2_with (go_at_call 84; refine (refOpen_any a b d k _).mono ?_; rintro e w3 ⟨he, hB3⟩; rw [HQ2.out] at he; subst he; have hB := below_step hB hB3; clear hB3)
          go_roundw
          case rel => exact ⟨k + 1, by omega, by go_num, (by rw [range_snoc, hall.out, HOE.out, HQ2.out]; rfl : (List.range (k + 1)).all (opsB ts (pF ps)) = true), hB⟩
          case measure => simp [intOf]; omega
        | false =>
          have HQ2 := Lib.hid ho
          clear ho
          go_wp2_with (go_at_call 84; refine (refOpen_any a b d k _).mono ?_; rintro e w3 ⟨he, hB3⟩; rw [HQ2.out] at he; subst he; have hB := below_step hB hB3; clear hB3)
          go_ret
          exact ⟨HR.out _ (ri_no1 (k := k) (by omega) (by rw [HOE.out, HQ2.out])), hB⟩
    · obtain rfl : k = ps.length := by omega
      have HALL : Hid ((List.range 100).all (opsB ts (pF ps)) = true) := Lib.hid (by rw [← HPL.out]; exact hall.out)
      clear hall
      go_wp2_with (first
        | (go_at_call 69; refine (minutes_any ts _ _ ps _ _ _ hl1 hl2 (HQ.out.below hB) (inP_bd HP.out) hp1).mono ?_; rintro e w2 ⟨rfl, hO2, hB2⟩; have HO2 := Lib.hid hO2; have hB2 := below_step hB hB2; clear hO2)
        | fail)
      go_loopw [7] (fun i wr => ∃ k n : Nat, k ≤ ts.length ∧ i = .int .i64 k ∧ wr = w2.drewN n ∧ Hid ((List.range k).all (leB ts (pF ps)) = true)) (fun i _ => ts.length - (intOf i).toNat)
      case atStart => exact ⟨0, 0, Nat.zero_le _, rfl, rfl, rfl⟩
      case round =>
        obtain ⟨k, n, hk, rfl, rfl, hall⟩ := hrel
        by_cases hlt : k < ts.length
        · obtain ⟨a, b, d, hx⟩ := getT_of_lt hlt
          have f2 : ∀ j, (w2.drewN j).cell? ⟨bl, off + k * 3 + 2, none⟩ = some (.int .i64 d) := fun j => (hB2.cell (p := ⟨bl, off + k * 3 + 2, none⟩) hbk).trans (HC.out _ _ hx).2.2
          have c1 := HO2.out.cell hlt
          obtain ⟨u, hu⟩ : ∃ u, cn (pF ps) k ps.length = u := ⟨_, rfl⟩
          rw [hu] at c1
          have c1 : ∀ j, (w2.drewN j).cell? ⟨wr.heap.size, k, none⟩ = some (.int .i64 u) := fun j => c1
          have HL : Hid (leB ts (pF ps) k = decide (u ≤ d)) := Lib.hid (by rw [leB, ← HPL.out, hu, (getT_parts hx).2.2])
          obtain ⟨W, hWe⟩ : ∃ W, w2.drewN n = W := ⟨_, rfl⟩
          have f2 : ∀ j, (W.drewN j).cell? ⟨bl, off + k * 3 + 2, none⟩ = some (.int .i64 d) := fun j => by rw [← hWe]; exact f2 n
          have c1 : ∀ j, (W.drewN j).cell? ⟨wr.heap.size, k, none⟩ = some (.int .i64 u) := fun j => by rw [← hWe]; exact c1 n
          have HW : Hid (∀ j, ∃ n, W.drewN j = w2.drewN n) := Lib.hid fun j => ⟨n + j, by rw [← hWe, World.drewN_drewN]⟩
          rw [hWe]
          clear hx hu hWe
          by_cases hud : d < u
          · have t1 : decide (d < u) = true := decide_eq_true hud
            go_wp2
            go_quiet (fail)
            go_wp2
            go_ret
            obtain ⟨n', hn'⟩ := HW.out nq
            exact ⟨HR.out _ (ri_no2 hlt (by rw [HL.out]; exact decide_eq_false (by omega))), by rw [hn']; exact below_drewN hB2 _⟩
          · have t1 : decide (d < u) = false := decide_eq_false hud
            have HL1 : Hid (leB ts (pF ps) k = true) := Lib.hid (by rw [HL.out]; exact decide_eq_true (by omega))
            clear hud
            go_wp2
            go_quiet (fail)
            go_wp2
            go_roundw
            case rel =>
              obtain ⟨n', hn'⟩ := HW.out nq
              exact ⟨k + 1, n', by omega, by go_num, hn', (by rw [range_snoc, hall.out, HL1.out]; rfl : (List.range (k + 1)).all (leB ts (pF ps)) = true)⟩
            case measure => simp [intOf]; omega
        · obtain rfl : k = ts.length := by omega
          go_wp2
          go_ret
          exact ⟨HR.out _ (by rw [riB, HALL.out, hall.out]; rfl), below_drewN hB2 _⟩

def eqB (ts : List (Int × Int × Int)) (p : Nat → Int) (i : Nat) : Bool := decide (cn p i 100 = wkI ts i)
def daB (ts : List (Int × Int × Int)) (p : Nat → Int) : Bool := (List.range ts.length).all (eqB ts p) && riB ts p
set_option maxRecDepth 100000 in
set_option maxHeartbeats 2000000 in
theorem refDoesAll_any (ts : List (Int × Int × Int)) (A : Option Addr) (cap : Nat) (ps : List Int) (B : Option Addr) (cb : Nat) (w : World) (h : Marks w A ts) (hv : vaB ts = true) (hq : Ints w B ps) (hp : isP ts.length ps = true) :
    Calls Try.prog 63 #[.slice A ts.length cap, .slice B ps.length cb] w fun e w' => e = .returned (.bool (daB ts (pF ps))) ∧ Below w.heap.size w w' := by
  have H := Lib.hid h
  have HQ := Lib.hid hq
  have HVA := Lib.hid hv
  have hl := va_len hv
  obtain ⟨hl1, hl2⟩ := hl
  have hpl := isP_len hp
  obtain ⟨bl, off, hA, hbk, hcells⟩ := H.out.open_ (show 0 < ts.length by omega)
  have HC := Lib.hid hcells
  have HP := Lib.hid hp
  have HR : ∀ b : Bool, b = daB ts (pF ps) → Ending.returned (.bool b) = .returned (.bool (daB ts (pF ps))) := fun _ h => ret_bool h
  have HR := Lib.hid HR
  have hp1 : ps.length ≤ 100 := by omega
  have HPL := Lib.hid hpl
  subst hA
  clear h hv hq hp hcells hpl
  go_enter Try.func63, Try.ntmps63
  go_wp2_with (first
    | (go_at_call 69; refine (minutes_any ts _ _ ps _ _ _ hl1 hl2 HQ.out (inP_bd HP.out) hp1).mono ?_; rintro e w2 ⟨rfl, hO2, hB2⟩; have HO2 := Lib.hid hO2; clear hO2)
    | fail)
  go_loopw [6] (fun i wr => ∃ k n : Nat, k ≤ ts.length ∧ i = .int .i64 k ∧ wr = w2.drewN n ∧ Hid ((List.range k).all (eqB ts (pF ps)) = true)) (fun i _ => ts.length - (intOf i).toNat)
  case atStart => exact ⟨0, 0, Nat.zero_le _, rfl, rfl, rfl⟩
  case round =>
    obtain ⟨k, n, hk, rfl, rfl, hall⟩ := hrel
    by_cases hlt : k < ts.length
    · obtain ⟨a, b, d, hx⟩ := getT_of_lt hlt
      have f2 : ∀ j, (w2.drewN j).cell? ⟨bl, off + k * 3 + 2, none⟩ = some (.int .i64 d) := fun j => (hB2.cell (p := ⟨bl, off + k * 3 + 2, none⟩) hbk).trans (HC.out _ _ hx).2.2
      have c1 := HO2.out.cell hlt
      obtain ⟨u, hu⟩ : ∃ u, cn (pF ps) k ps.length = u := ⟨_, rfl⟩
      rw [hu] at c1
      have c1 : ∀ j, (w2.drewN j).cell? ⟨w.heap.size, k, none⟩ = some (.int .i64 u) := fun j => c1
      have HL : Hid (eqB ts (pF ps) k = decide (u = d)) := Lib.hid (by rw [eqB, ← HPL.out, hu, (getT_parts hx).2.2])
      obtain ⟨W, hWe⟩ : ∃ W, w2.drewN n = W := ⟨_, rfl⟩
      have f2 : ∀ j, (W.drewN j).cell? ⟨bl, off + k * 3 + 2, none⟩ = some (.int .i64 d) := fun j => by rw [← hWe]; exact f2 n
      have c1 : ∀ j, (W.drewN j).cell? ⟨w.heap.size, k, none⟩ = some (.int .i64 u) := fun j => by rw [← hWe]; exact c1 n
      have HW : Hid (∀ j, ∃ n, W.drewN j = w2.drewN n) := Lib.hid fun j => ⟨n + j, by rw [← hWe, World.drewN_drewN]⟩
      rw [hWe]
      clear hx hu hWe
      by_cases hud : u = d
      · have t1 : (u != d) = false := by simpa using hud
        have HL1 : Hid (eqB ts (pF ps) k = true) := Lib.hid (by rw [HL.out]; exact decide_eq_true hud)
        clear hud
        go_wp2
        go_quiet (fail)
        go_wp2
        go_roundw
        case rel =>
          obtain ⟨n', hn'⟩ := HW.out nq
          exact ⟨k + 1, n', by omega, by go_num, hn', (by rw [range_snoc, hall.out, HL1.out]; rfl : (List.range (k + 1)).all (eqB ts (pF ps)) = true)⟩
        case measure => simp [intOf]; omega
      · have t1 : (u != d) = true := by simpa using hud
        have HL1 : Hid (eqB ts (pF ps) k = false) := Lib.hid (by rw [HL.out]; exact decide_eq_false hud)
        clear hud
        go_wp2
        go_quiet (fail)
        go_wp2
        go_ret
        obtain ⟨n', hn'⟩ := HW.out nq
        exact ⟨HR.out _ (by rw [daB, range_no hlt HL1.out]; rfl), by rw [hn']; exact below_drewN hB2 _⟩
    · obtain rfl : k = ts.length := by omega
      have hBn := below_drewN hB2 n
      go_wp2_with (go_at_call 59; refine (refRight_any ts _ _ ps _ _ _ (H.out.below hBn) HVA.out (HQ.out.below hBn) HP.out).mono ?_; rintro e w3 ⟨rfl, hB3⟩)
      go_ret
      exact ⟨HR.out _ (by rw [daB, hall.out]; rfl), below_step hBn hB3⟩
end Go.Proofs.Ythanmiifcpajhaa
