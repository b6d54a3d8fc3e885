/-
  Contracts of the reference: isPlan, asked, minutes, right, doesAll.
-/
import Derived.Test.YthanmiifcpajhaaRight
set_option linter.unusedVariables false
set_option linter.unusedSimpArgs false
namespace Go.Proofs.Ythanmiifcpajhaa
open Go Go.RowKit

theorem Ints.drewN {w : World} {A : Option Addr} {zs : List Int} (h : Ints w A zs) (n : Nat) : Ints (w.drewN n) A zs := h

set_option maxRecDepth 100000 in
theorem isPlan_any (ts : List (Int × Int × Int)) (A : Option Addr) (cap : Nat) (ps : List Int) (B : Option Addr) (cb : Nat) (w : World) (hl : ts.length ≤ 12) (h1 : 1 ≤ ts.length) (hq : Ints w B ps) (hps : ps.length ≤ maxLen) :
    Calls Try.prog 83 #[.slice A ts.length cap, .slice B ps.length cb] w fun e w' => e = .returned (.bool (isP ts.length ps)) ∧ w = w' := by
  unfold maxLen at hps
  by_cases hp : ps.length = 100
  · obtain ⟨bp, op, rfl, hbp, hcp⟩ := hq.open_ (by omega)
    have HI := Lib.hid (isP_all (n := ts.length) hp)
    have t1 : ((ps.length : Int) != 100) = false := by simp; omega
    have HC := Lib.hid hcp
    clear hq hcp hp
    go_enter Try.func83, Try.ntmps83
    go_wp2
    go_loop [5] (fun i => ∃ k : Nat, k ≤ ps.length ∧ i = .int .i64 k ∧ Hid ((ps.take k).all (inP ts.length) = true)) (fun i => ps.length - (intOf i).toNat)
    case atStart => exact ⟨0, Nat.zero_le _, rfl, rfl⟩
    case round =>
      obtain ⟨k, hk, rfl, hall⟩ := hrel
      by_cases hlt : k < ps.length
      · obtain ⟨z, hz⟩ := getElem?_of_lt hlt
        have c0 := HC.out k z hz
        have HZ := Lib.hid hz
        have HW : Hid (wiB (-1) z ((ts.length : Int) - 1) = inP ts.length z) := Lib.hid (by rw [Bool.eq_iff_iff]; simp [wiB, inP]; omega)
        clear hz
        cases hb : inP ts.length z with
        | false =>
          have HB := Lib.hid hb
          clear hb
          go_wp2_with (go_at_call 61; refine (within_any _ _ _ _).mono ?_; rintro e w1 ⟨he, rfl⟩; rw [HW.out, HB.out] at he; subst he)
          go_ret
          exact ⟨ret_bool (by rw [HI.out, all_not HZ.out HB.out]), rfl⟩
        | true =>
          have HB := Lib.hid hb
          clear hb
          go_wp2_with (go_at_call 61; refine (within_any _ _ _ _).mono ?_; rintro e w1 ⟨he, rfl⟩; rw [HW.out, HB.out] at he; subst he)
          go_round
          case rel => exact ⟨k + 1, by omega, by go_num, (by rw [all_snoc HZ.out, hall.out, HB.out]; rfl : (ps.take (k + 1)).all (inP ts.length) = true)⟩
          case measure => simp [intOf]; omega
      · go_wp2
        go_ret
        exact ⟨ret_bool (by rw [HI.out, ← all_full (p := inP ts.length) (show ps.length ≤ k by omega), hall.out]), rfl⟩
  · have t1 : ((ps.length : Int) != 100) = true := by simp; omega
    have HN := Lib.hid (isP_no (n := ts.length) hp)
    clear hp hq
    go_enter Try.func83, Try.ntmps83
    go_wp2
    go_ret
    exact ⟨ret_bool (by rw [HN.out]), rfl⟩

/-- The error of tasks and a plan. -/
def erE (ts : List (Int × Int × Int)) (ps : List Int) : Int := if vaB ts = true then plE ts.length ps else 80
theorem er_no {ts : List (Int × Int × Int)} {ps : List Int} (h : vaB ts = false) : erE ts ps = 80 := by simp [erE, h]
theorem er_yes {ts : List (Int × Int × Int)} {ps : List Int} (h : vaB ts = true) : erE ts ps = plE ts.length ps := by simp [erE, h]
theorem er_zero {ts : List (Int × Int × Int)} {ps : List Int} (h : erE ts ps = 0) : vaB ts = true ∧ isP ts.length ps = true := by
  cases hv : vaB ts with
  | false => rw [er_no hv] at h; omega
  | true =>
    rw [er_yes hv] at h
    cases hp : isP ts.length ps with
    | false => rw [(pl_no hp).2] at h; omega
    | true => exact ⟨rfl, rfl⟩
theorem er_ok {ts : List (Int × Int × Int)} {ps : List Int} (h : vaB ts = true) (h2 : isP ts.length ps = true) : erE ts ps = 0 := by rw [er_yes h, (pl_yes h2).2]

set_option maxRecDepth 100000 in
theorem asked_any (ts : List (Int × Int × Int)) (A : Option Addr) (cap : Nat) (ps : List Int) (B : Option Addr) (cb : Nat) (w : World) (h : Marks w A ts) (hl : ts.length ≤ maxLen) (hq : Ints w B ps) (hps : ps.length ≤ maxLen) :
    Calls Try.prog 58 #[.slice A ts.length cap, .slice B ps.length cb] w fun e w' => e = .returned (.int .i64 (erE ts ps)) ∧ ∃ n, w' = w.drewN n := by
  have H := Lib.hid h
  have HQ := Lib.hid hq
  clear h hq
  cases hv : vaB ts with
  | false =>
    have HV := Lib.hid hv
    have HE := Lib.hid (er_no (ps := ps) hv)
    clear hv
    go_enter Try.func58, Try.ntmps58
    go_wp2_with (go_at_call 20; refine (refValid_any ts _ _ _ H.out hl).mono ?_; rintro e w1 ⟨he, n, rfl⟩; rw [HV.out] at he; subst he)
    go_ret
    exact ⟨ret_int (by rw [HE.out]), n, rfl⟩
  | true =>
    have HV := Lib.hid hv
    have HE := Lib.hid (er_yes (ps := ps) hv)
    have hl2 := va_len hv
    clear hv
    cases hp : isP ts.length ps with
    | false =>
      have HP := Lib.hid hp
      clear hp
      go_enter Try.func58, Try.ntmps58
      go_wp2_with (first
        | (go_at_call 20; refine (refValid_any ts _ _ _ H.out hl).mono ?_; rintro e w1 ⟨he, n, rfl⟩; rw [HV.out] at he; subst he)
        | (go_at_call 83; refine (isPlan_any ts _ _ ps _ _ _ hl2.2 hl2.1 (HQ.out.drewN n) hps).mono ?_; rintro e w1 ⟨he, rfl⟩; rw [HP.out] at he; subst he)
        | fail)
      go_ret
      exact ⟨ret_int (by rw [HE.out, (pl_no HP.out).2]), n, rfl⟩
    | true =>
      have HP := Lib.hid hp
      clear hp
      go_enter Try.func58, Try.ntmps58
      go_wp2_with (first
        | (go_at_call 20; refine (refValid_any ts _ _ _ H.out hl).mono ?_; rintro e w1 ⟨he, n, rfl⟩; rw [HV.out] at he; subst he)
        | (go_at_call 83; refine (isPlan_any ts _ _ ps _ _ _ hl2.2 hl2.1 (HQ.out.drewN n) hps).mono ?_; rintro e w1 ⟨he, rfl⟩; rw [HP.out] at he; subst he)
        | fail)
      go_ret
      exact ⟨ret_int (by rw [HE.out, (pl_yes HP.out).2]), n, rfl⟩

/-- A list of n ints, as a function. -/
def vL (p : Nat → Int) (n : Nat) : List Int := (List.range n).map p
theorem vL_len (p : Nat → Int) (n : Nat) : (vL p n).length = n := by simp [vL]
theorem vL_get {p : Nat → Int} {n i : Nat} (h : i < n) : (vL p n)[i]? = some (p i) := by rw [vL, List.getElem?_map, List.getElem?_range h]; rfl
theorem vL_congr {p q : Nat → Int} {n : Nat} (h : ∀ i, i < n → p i = q i) : vL p n = vL q n := List.map_congr_left fun i hi => h i (List.mem_range.1 hi)
theorem vL_snoc (p : Nat → Int) (n : Nat) : vL p (n + 1) = vL p n ++ [p n] := by simp [vL, List.range_succ]
theorem vL_set {p q : Nat → Int} {n k : Nat} {v : Int} (e : ∀ j, q j = if j = k then v else p j) : ((vL p n).map (Value.int .i64)).set k (.int .i64 v) = (vL q n).map (Value.int .i64) := by
  refine List.ext_getElem? fun i => ?_
  rw [List.getElem?_set]
  by_cases hi : i < n
  · by_cases ek : k = i
    · subst ek; rw [if_pos rfl, if_pos (by simp [vL_len, hi]), List.getElem?_map, vL_get hi, e, if_pos rfl]; rfl
    · rw [if_neg ek, List.getElem?_map, List.getElem?_map, vL_get hi, vL_get hi, e, if_neg (fun h => ek h.symm)]
  · rw [List.getElem?_eq_none (l := (vL q n).map _) (by simp [vL_len]; omega), List.getElem?_eq_none (l := (vL p n).map _) (by simp [vL_len]; omega)]
    split
    · rw [if_neg (by simp [vL_len]; omega)]
    · rfl
theorem made_ints (n : Nat) : (madeCells (Value.int .i64 0).cells (n * 1)).toList = (vL (fun _ => 0) n).map (Value.int .i64) := by
  rw [show (vL (fun _ => 0) n).map (Value.int .i64) = List.replicate n (.int .i64 0) by unfold vL; rw [List.map_map, show (Value.int .i64 ∘ fun _ => (0 : Int)) = fun _ => Value.int .i64 0 from rfl, List.map_const']; simp, List.eq_replicate_iff]
  refine ⟨by simp [madeCells], fun b hb => ?_⟩
  simp only [madeCells, Value.cells] at hb
  simp at hb
  obtain ⟨i, _, rfl⟩ := hb
  simp [Nat.mod_one]
/-- A list of ints of the call's own, full, as a function. -/
def OwnV (w : World) (base g : Nat) (p : Nat → Int) (n : Nat) : Prop := w.ownsRow base 3 1 (.slice (some ⟨g, 0, none⟩) n n) n ((vL p n).map (Value.int .i64))
section
variable {w w' : World} {base g n : Nat} {p q : Nat → Int}
theorem OwnV.cell (h : OwnV w base g p n) {i : Nat} (hi : i < n) : w.cell? ⟨g, i, none⟩ = some (.int .i64 (p i)) :=
  (World.ownsRow.cellAt h i (by omega)).trans (by rw [List.getElem?_map, vL_get hi]; rfl)
theorem OwnV.frozen (h : OwnV w base g p n) (i : Nat) : w.frozen? ⟨g, i, none⟩ = false := World.ownsRow.frozenAt h i
theorem OwnV.congr (h : OwnV w base g p n) (e : ∀ i, i < n → p i = q i) : OwnV w base g q n := by unfold OwnV at *; rwa [← vL_congr e]
theorem OwnV.put {i : Nat} {v : Int} (h : OwnV w base g p n) (e : ∀ j, q j = if j = i then v else p j) : OwnV (w.setCell ⟨g, i, none⟩ (.int .i64 v)) base g q n := by
  unfold OwnV at *; rw [← vL_set e]; exact (World.ownsRow.stored h i _).1
theorem OwnV.out (h : OwnV w base g p n) (hm : n ≤ maxLen) : Out w (some ⟨g, 0, none⟩) n (vL p n) := by
  obtain ⟨A, c, e, ho⟩ := own_ints h
  rw [vL_len] at e
  injection e with e1 e2 e3
  subst e1; subst e3
  exact ho
end
theorem nil_snoc (p : Nat → Int) (n : Nat) : (vL p n).length = n := vL_len p n
end Go.Proofs.Ythanmiifcpajhaa
