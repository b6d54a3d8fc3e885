/-
  Contracts: longest, Urgent, can, Can, Undone, Longest; what can be done, by slack.
-/
import Derived.Test.YthanmiifcpajhaaUndone
import Derived.Test.YthanmiifcpajhaaStrs2
import Derived.Test.YthanmiifcpajhaaLongM
set_option linter.unusedVariables false
set_option linter.unusedSimpArgs false
namespace Go.Proofs.Ythanmiifcpajhaa
open Go Go.RowKit

def lgA (p : Nat → Int) : Int := ((lgK p 100).1 : Nat)
def lgB (p : Nat → Int) : Int := ((lgK p 100).2 : Nat)
theorem ur_rng (ts : List (Int × Int × Int)) : ∀ m, m < 100 → -1 ≤ urF ts m ∧ urF ts m < ts.length := fun m _ => ur_bd ts m
theorem Arr.ints {w : World} {g n : Nat} {t : TypeId} {p : Nat → Int} (h : Arr w g t p n) : Ints w (some ⟨g, 0, none⟩) (vL p n) := by
  refine ⟨by simp, fun _ => ⟨_, rfl, h.lt, fun j u hj => ?_⟩⟩
  rw [List.getElem?_map] at hj
  by_cases hl : j < n
  · rw [vL_get hl] at hj
    simp only [Option.map_some, Option.some.injEq] at hj
    rw [add_mk, Nat.zero_add, h.cell hl, hj]
  · rw [List.getElem?_eq_none (by rw [vL_len]; omega)] at hj; cases hj

theorem cu_can {ts : List (Int × Int × Int)} (hv : vaB ts = true) : decide ((udL ts (urF ts)).length = 0) = canB ts := by
  rw [Bool.eq_iff_iff, decide_eq_true_eq, ud_nil, can_does]
  constructor
  · intro h i hi
    have := ur_le ts hv hi 100
    have := h i hi
    omega
  · intro h i hi
    have := h i hi
    omega

set_option maxRecDepth 100000 in
set_option maxHeartbeats 2000000 in
theorem longest_any (p : Nat → Int) (w : World) :
    Calls Try.prog 70 #[.agg (vC p 100)] w fun e w' => e = .returned (.tuple #[.int .i64 (lgA p), .int .i64 (lgB p)]) ∧ Below w.heap.size w w' := by
  go_enter Try.func70, Try.ntmps70
  go_wp2_with (first
    | (refine wpList_load_row rfl 58 (.tmp 1) rfl w.heap.size rfl 58 (vC p 100) (0, 0) _ (Arr.new w 58 p 100) Try.underlying58 (by rfl) (by rw [vC_size]; exact plan_size) ?_)
    | fail)
  have hB0 : Below w.heap.size w (w.alloc (.cells (vC p 100) 58)) := (by repeat (first | with_reducible exact Below.refl _ _ | with_reducible assumption | refine below_drewN ?_ _ | with_reducible refine Below.drew ?_ | (refine Below.setCell ?_ (by first | (simp; done) | (simp; omega) | omega) _) | (refine Below.alloc ?_ (by first | (simp; done) | (simp; omega) | omega) _)))
  go_loop [2, 3, 4, 8] (fun a b s i => ∃ (k x y z : Nat), k ≤ 100 ∧ i = .int .i64 k ∧ a = .int .i64 x ∧ b = .int .i64 y ∧ s = .int .i64 z ∧ x ≤ y ∧ y ≤ k ∧ z ≤ k ∧ Hid (lgK p k = (x, y)) ∧ Hid (stK p k = z)) (fun _ _ _ i => 100 - (intOf i).toNat)
  case atStart => exact ⟨0, 0, 0, 0, Nat.zero_le _, rfl, rfl, rfl, rfl, by omega, by omega, by omega, rfl, rfl⟩
  case round =>
    obtain ⟨k, x, y, z, hk, rfl, rfl, rfl, rfl, hxy, hyk, hzk, hL, hS⟩ := hrel
    by_cases hlt : k < 100
    · obtain ⟨v, hv⟩ : ∃ v, p k = v := ⟨_, rfl⟩
      have hix := index_plan hlt hv
      by_cases hneg : v = -1
      · have t2 : (v == -1) = true := by simpa using hneg
        have HN : Hid (lgK p (k + 1) = (x, y) ∧ stK p (k + 1) = k + 1) := Lib.hid (by
          constructor
          · rw [lgK, if_pos (by rw [hv, hneg]), hL.out]
          · rw [stK, if_pos (by rw [hv, hneg])])
        clear hneg hv
        go_wp2
        go_round
        case rel => exact ⟨k + 1, x, y, k + 1, by omega, by go_num, rfl, rfl, by go_num, by omega, by omega, by omega, HN.out.1, HN.out.2⟩
        case measure => simp [intOf]; omega
      · have t2 : (v == -1) = false := by simpa using hneg
        have HST : Hid (stK p (k + 1) = z) := Lib.hid (by rw [stK, if_neg (by rw [hv]; exact hneg), hS.out])
        have HLG : Hid (lgK p (k + 1) = if y - x < k + 1 - z then (z, k + 1) else (x, y)) := Lib.hid (by rw [lgK, if_neg (by rw [hv]; exact hneg), hL.out, hS.out])
        clear hneg hv
        by_cases hc : (y : Int) - x < (k : Int) + 1 - z
        · have t3 : decide ((y : Int) - x < (k : Int) + 1 - z) = true := decide_eq_true hc
          have HN : Hid (lgK p (k + 1) = (z, k + 1)) := Lib.hid (by rw [HLG.out, if_pos (by omega)])
          go_wp2
          go_round
          case rel => exact ⟨k + 1, z, k + 1, z, by omega, by go_num, rfl, by go_num, rfl, by omega, by omega, by omega, HN.out, HST.out⟩
          case measure => simp [intOf]; omega
        · have t3 : decide ((y : Int) - x < (k : Int) + 1 - z) = false := decide_eq_false hc
          have HN : Hid (lgK p (k + 1) = (x, y)) := Lib.hid (by rw [HLG.out, if_neg (by omega)])
          go_wp2
          go_round
          case rel => exact ⟨k + 1, x, y, z, by omega, by go_num, rfl, rfl, rfl, by omega, by omega, by omega, HN.out, HST.out⟩
          case measure => simp [intOf]; omega
    · obtain rfl : k = 100 := by omega
      have HF : Hid (lgA p = x ∧ lgB p = y) := Lib.hid (by rw [lgA, lgB, hL.out]; exact ⟨rfl, rfl⟩)
      go_wp2
      go_ret2
      exact ⟨by rw [HF.out.1, HF.out.2]; rfl, hB0⟩

/-- In one word each, whether tasks are valid or not. -/
def urL (ts : List (Int × Int × Int)) : List Int := if vaB ts = true then vL (urF ts) 100 else []
def caV (ts : List (Int × Int × Int)) : Bool := vaB ts && canB ts
def udV (ts : List (Int × Int × Int)) : List Int := if vaB ts = true then udL ts (urF ts) else []
def lgV (ts : List (Int × Int × Int)) : Int := if vaB ts = true then lgA (urF ts) else 0
def lgW (ts : List (Int × Int × Int)) : Int := if vaB ts = true then lgB (urF ts) else 0
theorem ta_no {ts : List (Int × Int × Int)} (h : vaB ts = false) : taE ts = 80 ∧ urL ts = [] ∧ caV ts = false ∧ udV ts = [] ∧ lgV ts = 0 ∧ lgW ts = 0 := by simp [taE, urL, caV, udV, lgV, lgW, h]
theorem ta_yes {ts : List (Int × Int × Int)} (h : vaB ts = true) : taE ts = 0 ∧ urL ts = vL (urF ts) 100 ∧ caV ts = canB ts ∧ udV ts = udL ts (urF ts) ∧ lgV ts = lgA (urF ts) ∧ lgW ts = lgB (urF ts) := by simp [taE, urL, caV, udV, lgV, lgW, h]
set_option maxRecDepth 100000 in
set_option maxHeartbeats 2000000 in
theorem urgentX_any (ts : List (Int × Int × Int)) (A : Option Addr) (cap : Nat) (w : World) (h : Marks w A ts) (hl : ts.length ≤ maxLen) :
    Calls Try.prog 28 #[.slice A ts.length cap] w fun e w' => ∃ B c, e = .returned (.tuple #[.slice B (urL ts).length c, .int .i64 (taE ts)]) ∧ Out w' B c (urL ts) ∧ Below w.heap.size w w' := by
  have H := Lib.hid h
  have HL := Lib.hid hl
  have HVA : Hid (Calls Try.prog 19 #[.slice A ts.length cap] w fun e w' => e = .returned (.bool (vaB ts)) ∧ Below w.heap.size w w') := Lib.hid (valid_any ts A cap w h hl)
  have Z := (zero_of_info zero100).1
  clear h hl
  cases hv : vaB ts with
  | false =>
    have HE := Lib.hid (ta_no hv)
    rw [hv] at HVA
    clear hv
    go_enter Try.func28, Try.ntmps28
    go_wp2_with (first
      | (go_at_call 19; refine HVA.out.mono ?_; rintro e w1 ⟨rfl, hB1⟩)
      | fail)
    go_ret2
    exact ⟨none, 0, by rw [HE.out.1, HE.out.2.1]; rfl, by rw [HE.out.2.1]; exact Out.nil_, hB1⟩
  | true =>
    have HE := Lib.hid (ta_yes hv)
    have HV := Lib.hid hv
    rw [hv] at HVA
    clear hv
    go_enter Try.func28, Try.ntmps28
    go_wp2_with (first
      | (go_at_call 19; refine HVA.out.mono ?_; rintro e w1 ⟨rfl, hB1⟩)
      | (go_at_call 65; refine (urgentP_any ts _ _ _ (H.out.below hB1) HV.out).mono ?_; rintro e w2 ⟨rfl, hB2⟩; have hB2 := below_step hB1 hB2)
      | (refine wpList_store_row rfl 58 (.tmp 4) (.tmp 9) rfl w2.heap.size (vC (urF ts) 100) rfl rfl 58 _ (heap_alloc_new w2 _) (by rw [vC_size]; exact plan_size) (by simp [vC_size]) (vC_one _ _) ?_; rw [World.setRow_alloc_new])
      | fail)
    go_ret2
    have ho : Out (w2.alloc (.cells (vC (urF ts) 100) 58)) (some ⟨w2.heap.size, 0, none⟩) 100 (vL (urF ts) 100) := ⟨(Arr.new w2 58 (urF ts) 100).ints, by rw [vL_len]; exact Nat.le_refl _, by unfold maxLen; omega⟩
    exact ⟨some ⟨w2.heap.size, 0, none⟩, 100, by rw [HE.out.1, HE.out.2.1, vL_len]; rfl, by rw [HE.out.2.1]; exact ho, Below.alloc hB2 hB2.size _⟩

set_option maxRecDepth 100000 in
theorem can_any (ts : List (Int × Int × Int)) (A : Option Addr) (cap : Nat) (w : World) (h : Marks w A ts) (hv : vaB ts = true) :
    Calls Try.prog 67 #[.slice A ts.length cap] w fun e w' => e = .returned (.bool (canB ts)) ∧ Below w.heap.size w w' := by
  have H := Lib.hid h
  have HV := Lib.hid hv
  have HC := Lib.hid (cu_can hv)
  obtain ⟨L, hL⟩ : ∃ L, (udL ts (urF ts)).length = L := ⟨_, rfl⟩
  rw [hL] at HC
  have HUD : Hid (∀ W : World, Below w.heap.size w W → Calls Try.prog 62 #[.agg (vC (urF ts) 100), .slice A ts.length cap] W fun e w' => ∃ B c, e = .returned (.slice B L c) ∧ Below W.heap.size W w') := Lib.hid fun W hW => (undone_any ts A cap (urF ts) W (h.below hW) hv (ur_rng ts)).mono fun e w' ⟨B, c, h1, h2, h3⟩ => ⟨B, c, by rw [h1, hL], h3⟩
  clear h hv hL
  have hB1 := Below.refl w.heap.size w
  by_cases hz : L = 0
  · subst hz
    go_enter Try.func67, Try.ntmps67
    go_wp2_with (first
      | (go_at_call 65; refine (urgentP_any ts _ _ _ (H.out.below hB1) HV.out).mono ?_; rintro e w2 ⟨rfl, hB2⟩; have hB2 := below_step hB1 hB2)
      | (go_at_call 62; refine (HUD.out _ hB2).mono ?_; rintro e w4 ⟨B4, c4, rfl, hB4⟩; have hB4 := below_step hB2 hB4)
      | fail)
    go_ret
    exact ⟨ret_bool (by rw [← HC.out]; rfl), hB4⟩
  · have t2 : ((L : Int) == 0) = false := by simp; omega
    have HZ := Lib.hid hz
    clear hz
    go_enter Try.func67, Try.ntmps67
    go_wp2_with (first
      | (go_at_call 65; refine (urgentP_any ts _ _ _ (H.out.below hB1) HV.out).mono ?_; rintro e w2 ⟨rfl, hB2⟩; have hB2 := below_step hB1 hB2)
      | (go_at_call 62; refine (HUD.out _ hB2).mono ?_; rintro e w4 ⟨B4, c4, rfl, hB4⟩; have hB4 := below_step hB2 hB4)
      | fail)
    go_ret
    exact ⟨ret_bool (by rw [← HC.out, decide_eq_false HZ.out]), hB4⟩

set_option maxRecDepth 100000 in
set_option maxHeartbeats 2000000 in
theorem canX_any (ts : List (Int × Int × Int)) (A : Option Addr) (cap : Nat) (w : World) (h : Marks w A ts) (hl : ts.length ≤ maxLen) :
    Calls Try.prog 30 #[.slice A ts.length cap] w fun e w' => e = .returned (.tuple #[.bool (caV ts), .int .i64 (taE ts)]) ∧ Below w.heap.size w w' := by
  have H := Lib.hid h
  have HL := Lib.hid hl
  have HVA : Hid (Calls Try.prog 19 #[.slice A ts.length cap] w fun e w' => e = .returned (.bool (vaB ts)) ∧ Below w.heap.size w w') := Lib.hid (valid_any ts A cap w h hl)
  have Z := (zero_of_info zero100).1
  clear h hl
  cases hv : vaB ts with
  | false =>
    have HE := Lib.hid (ta_no hv)
    rw [hv] at HVA
    clear hv
    go_enter Try.func30, Try.ntmps30
    go_wp2_with (first
      | (go_at_call 19; refine HVA.out.mono ?_; rintro e w1 ⟨rfl, hB1⟩)
      | fail)
    go_ret2
    exact ⟨by rw [HE.out.1, HE.out.2.2.1]; rfl, hB1⟩
  | true =>
    have HE := Lib.hid (ta_yes hv)
    have HV := Lib.hid hv
    rw [hv] at HVA
    clear hv
    go_enter Try.func30, Try.ntmps30
    go_wp2_with (first
      | (go_at_call 19; refine HVA.out.mono ?_; rintro e w1 ⟨rfl, hB1⟩)
      | (go_at_call 67; refine (can_any ts _ _ _ (H.out.below hB1) HV.out).mono ?_; rintro e w2 ⟨rfl, hB2⟩; have hB2 := below_step hB1 hB2)
      | fail)
    go_ret2
    exact ⟨by rw [HE.out.1, HE.out.2.2.1]; rfl, hB2⟩

set_option maxRecDepth 100000 in
set_option maxHeartbeats 2000000 in
theorem undoneX_any (ts : List (Int × Int × Int)) (A : Option Addr) (cap : Nat) (w : World) (h : Marks w A ts) (hl : ts.length ≤ maxLen) :
    Calls Try.prog 32 #[.slice A ts.length cap] w fun e w' => ∃ B c, e = .returned (.tuple #[.slice B (udV ts).length c, .int .i64 (taE ts)]) ∧ Out w' B c (udV ts) ∧ Below w.heap.size w w' := by
  have H := Lib.hid h
  have HL := Lib.hid hl
  have HVA : Hid (Calls Try.prog 19 #[.slice A ts.length cap] w fun e w' => e = .returned (.bool (vaB ts)) ∧ Below w.heap.size w w') := Lib.hid (valid_any ts A cap w h hl)
  have Z := (zero_of_info zero100).1
  clear h hl
  cases hv : vaB ts with
  | false =>
    have HE := Lib.hid (ta_no hv)
    rw [hv] at HVA
    clear hv
    go_enter Try.func32, Try.ntmps32
    go_wp2_with (first
      | (go_at_call 19; refine HVA.out.mono ?_; rintro e w1 ⟨rfl, hB1⟩)
      | fail)
    go_ret2
    exact ⟨none, 0, by rw [HE.out.1, HE.out.2.2.2.1]; rfl, by rw [HE.out.2.2.2.1]; exact Out.nil_, hB1⟩
  | true =>
    have HE := Lib.hid (ta_yes hv)
    have HV := Lib.hid hv
    rw [hv] at HVA
    clear hv
    go_enter Try.func32, Try.ntmps32
    go_wp2_with (first
      | (go_at_call 19; refine HVA.out.mono ?_; rintro e w1 ⟨rfl, hB1⟩)
      | (go_at_call 65; refine (urgentP_any ts _ _ _ (H.out.below hB1) HV.out).mono ?_; rintro e w2 ⟨rfl, hB2⟩; have hB2 := below_step hB1 hB2)
      | (go_at_call 62; refine (undone_any ts _ _ (urF ts) _ (H.out.below hB2) HV.out (ur_rng ts)).mono ?_; rintro e w4 ⟨B4, c4, rfl, hO4, hB4⟩; have hB4 := below_step hB2 hB4; have HO4 := Lib.hid hO4; clear hO4)
      | fail)
    go_ret2
    exact ⟨B4, c4, by rw [HE.out.1, HE.out.2.2.2.1]; rfl, by rw [HE.out.2.2.2.1]; exact HO4.out, hB4⟩

set_option maxRecDepth 100000 in
set_option maxHeartbeats 2000000 in
theorem longestX_any (ts : List (Int × Int × Int)) (A : Option Addr) (cap : Nat) (w : World) (h : Marks w A ts) (hl : ts.length ≤ maxLen) :
    Calls Try.prog 34 #[.slice A ts.length cap] w fun e w' => e = .returned (.tuple #[.int .i64 (lgV ts), .int .i64 (lgW ts), .int .i64 (taE ts)]) ∧ Below w.heap.size w w' := by
  have H := Lib.hid h
  have HL := Lib.hid hl
  have HVA : Hid (Calls Try.prog 19 #[.slice A ts.length cap] w fun e w' => e = .returned (.bool (vaB ts)) ∧ Below w.heap.size w w') := Lib.hid (valid_any ts A cap w h hl)
  have Z := (zero_of_info zero100).1
  clear h hl
  cases hv : vaB ts with
  | false =>
    have HE := Lib.hid (ta_no hv)
    rw [hv] at HVA
    clear hv
    go_enter Try.func34, Try.ntmps34
    go_wp2_with (first
      | (go_at_call 19; refine HVA.out.mono ?_; rintro e w1 ⟨rfl, hB1⟩)
      | fail)
    go_ret3
    exact ⟨by rw [HE.out.1, HE.out.2.2.2.2.1, HE.out.2.2.2.2.2]; rfl, hB1⟩
  | true =>
    have HE := Lib.hid (ta_yes hv)
    have HV := Lib.hid hv
    rw [hv] at HVA
    clear hv
    go_enter Try.func34, Try.ntmps34
    go_wp2_with (first
      | (go_at_call 19; refine HVA.out.mono ?_; rintro e w1 ⟨rfl, hB1⟩)
      | (go_at_call 65; refine (urgentP_any ts _ _ _ (H.out.below hB1) HV.out).mono ?_; rintro e w2 ⟨rfl, hB2⟩; have hB2 := below_step hB1 hB2)
      | (go_at_call 70; refine (longest_any (urF ts) _).mono ?_; rintro e w4 ⟨rfl, hB4⟩; have hB4 := below_step hB2 hB4)
      | fail)
    go_ret3
    exact ⟨by rw [HE.out.1, HE.out.2.2.2.2.1, HE.out.2.2.2.2.2]; rfl, hB4⟩

theorem mnS_le (ts : List (Int × Int × Int)) (xs : List StE) : 0 ≤ mnS ts xs ↔ ∀ x ∈ xs, 0 ≤ stS ts x := by
  suffices h : ∀ (xs : List StE) (m : Int), 0 ≤ xs.foldl (fun m x => if m ≤ stS ts x then m else stS ts x) m ↔ 0 ≤ m ∧ ∀ x ∈ xs, 0 ≤ stS ts x by
    rw [mnS, h]; exact ⟨fun h => h.2, fun h => ⟨by omega, h⟩⟩
  intro xs
  induction xs with
  | nil => intro m; simp
  | cons x xs ih =>
    intro m
    rw [List.foldl_cons, ih]
    simp only [List.mem_cons, forall_eq_or_imp]
    constructor
    · rintro ⟨h1, h2⟩
      split at h1
      · exact ⟨h1, by omega, h2⟩
      · exact ⟨by omega, h1, h2⟩
    · rintro ⟨h1, h2, h3⟩
      refine ⟨?_, h3⟩
      split <;> assumption
theorem mem_all {x : StE} : x ∈ allS ↔ x.1.val + 1 + x.2.val ≤ 100 := by
  simp only [allS, comeA, List.mem_flatMap, List.mem_range, rowS, List.mem_map]
  constructor
  · rintro ⟨a, ha, d, hd, rfl⟩
    simp only [elS]
    rw [Nat.mod_eq_of_lt ha, Nat.mod_eq_of_lt (by omega)]; omega
  · intro h
    have h1 := x.1.isLt
    have h2 := x.2.isLt
    refine ⟨x.1.val, h1, x.2.val, by omega, ?_⟩
    simp only [elS, Nat.mod_eq_of_lt h1, Nat.mod_eq_of_lt h2]
theorem can_slack {ts : List (Int × Int × Int)} (hv : vaB ts = true) : canB ts = decide (0 ≤ mnS ts allS) := by
  rw [Bool.eq_iff_iff, decide_eq_true_eq, can_fits hv, mnS_le]
  constructor
  · intro h x hx
    have hm := mem_all.1 hx
    have := h x.1.val (x.1.val + 1 + x.2.val) (by omega) hm
    rw [stS, slI]
    push_cast at this
    omega
  · intro h a b hab hb
    have hx : elS a (b - a - 1) ∈ allS := mem_all.2 (by simp only [elS]; rw [Nat.mod_eq_of_lt (by omega), Nat.mod_eq_of_lt (by omega)]; omega)
    have := h _ hx
    rw [stS_el (by omega) (by omega), slI] at this
    have e : (a : Int) + 1 + ((b - a - 1 : Nat) : Int) = b := by omega
    rw [e] at this
    omega
end Go.Proofs.Ythanmiifcpajhaa
