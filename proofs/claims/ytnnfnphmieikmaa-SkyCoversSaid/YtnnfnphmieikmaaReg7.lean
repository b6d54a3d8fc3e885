/-
  Contracts: Coarse and Rings of the program.
-/
import Derived.Test.YtnnfnphmieikmaaReg6
import Derived.Test.YtnnfnphmieikmaaLawDown
namespace Go.Proofs.Ytnnfnphmieikmaa
open Go Go.RowKit Go.Shelf

def zeroReg (w : World) : World := w.alloc (.cells (regC fun _ => false) 91)
/-- The coarse cell of a cell: its order and its pixel. -/
def cuO (k o : Nat) : Nat := min o k
def cuP (k o p : Nat) : Nat := upN (o - min o k) p
def coU (l : List (Int × Int)) (k q : Nat) : Bool := l.any fun c => inC (cuO k c.1.toNat) (cuP k c.1.toNat c.2.toNat) q
theorem coU_snoc {ms : List (Int × Int)} {i o p : Nat} (h : ms[i]? = some ((o : Int), (p : Int))) (k q : Nat) : coU (ms.take (i + 1)) k q = (coU (ms.take i) k q || inC (cuO k o) (cuP k o p) q) := by
  rw [coU, any_snoc h]; simp [coU]
theorem cu_pix {k o p : Nat} (hk : k < 5) (ho : o < 5) (hp : p < pxN o) : cuO k o < 5 ∧ cuP k o p < pxN (cuO k o) := by
  refine ⟨by unfold cuO; omega, ?_⟩
  unfold cuP cuO
  exact upN_lt (k := min o k) (d := o - min o k) (by rw [show min o k + (o - min o k) = o by omega]; exact hp)
theorem in_div {o p q : Nat} : inC o p q = true ↔ q / wN o = p := by
  have hw := wN_pos o
  simp only [inC, Bool.and_eq_true, decide_eq_true_eq]
  constructor
  · rintro ⟨h1, h2⟩
    have a := (Nat.le_div_iff_mul_le hw).2 h1
    have b := (Nat.div_lt_iff_lt_mul hw).2 (show q < (p + 1) * wN o by rw [Nat.add_mul]; omega)
    omega
  · rintro rfl
    have h1 := Nat.div_add_mod q (wN o)
    have h2 := Nat.mod_lt q hw
    rw [Nat.mul_comm] at h1; omega
theorem wN_split {o t : Nat} (ht : t ≤ o) (ho : o < 5) : wN t = wN o * 2 ^ (2 * (o - t)) := by
  unfold wN; rw [← Nat.pow_add]; congr 1; omega
theorem div_up {o t q : Nat} (ht : t ≤ o) (ho : o < 5) : q / wN t = upN (o - t) (q / wN o) := by
  rw [wN_split ht ho, upN, Nat.div_div_eq_div_mul]
/-- The pixels of the coarse cells are those whose coarse cell has one of the set. -/
theorem coU_coP {l : List (Int × Int)} {k q : Nat} (hk : k < 5) (hl : l.all cellB = true) (hq : q < 3072) : coU l k q = coP l k q := by
  rw [Bool.eq_iff_iff, coU, coP, coTo, List.any_eq_true, List.any_eq_true]
  constructor
  · rintro ⟨cc, hc, h⟩
    obtain ⟨o, p, rfl, ho, hp⟩ := cellB_of (List.all_eq_true.1 hl _ hc)
    simp only [Int.toNat_natCast] at h
    have hd := in_div.1 h
    have hend := cell_end ho hp
    have hw := wN_pos o
    rcases Nat.le_total o k with hok | hok
    · -- the cell itself
      have e1 : cuO k o = o := by unfold cuO; omega
      rw [e1] at hd
      rw [cuP, show o - min o k = 0 by omega] at hd
      have hd2 : q / wN o = p := by simpa [upN] using hd
      refine ⟨q, List.mem_range.2 hq, ?_⟩
      rw [Bool.and_eq_true]
      exact ⟨List.any_eq_true.2 ⟨_, hc, by simpa using in_div.2 hd2⟩, by simp⟩
    · have e1 : cuO k o = k := by unfold cuO; omega
      rw [e1, cuP, show o - min o k = o - k by omega] at hd
      refine ⟨p * wN o, List.mem_range.2 (by omega), ?_⟩
      rw [Bool.and_eq_true]
      have e2 : p * wN o / wN o = p := Nat.mul_div_cancel _ hw
      refine ⟨List.any_eq_true.2 ⟨_, hc, by simpa using in_div.2 e2⟩, decide_eq_true ?_⟩
      rw [hd, div_up hok ho, e2]
  · rintro ⟨i, hi, h⟩
    rw [Bool.and_eq_true, decide_eq_true_eq] at h
    obtain ⟨cc, hc, h2⟩ := List.any_eq_true.1 h.1
    obtain ⟨o, p, rfl, ho, hp⟩ := cellB_of (List.all_eq_true.1 hl _ hc)
    refine ⟨_, hc, ?_⟩
    simp only [Int.toNat_natCast] at h2 ⊢
    have hd := in_div.1 h2
    rcases Nat.le_total o k with hok | hok
    · have e1 : cuO k o = o := by unfold cuO; omega
      have e2 : cuP k o p = p := by rw [cuP, show o - min o k = 0 by omega]; simp [upN]
      rw [e1, e2]
      refine in_div.2 ?_
      rw [← hd, div_up hok hk, div_up hok hk, h.2]
    · have e1 : cuO k o = k := by unfold cuO; omega
      have e2 : cuP k o p = upN (o - k) p := by rw [cuP, show o - min o k = o - k by omega]
      rw [e1, e2]
      refine in_div.2 ?_
      rw [← h.2, div_up hok ho, hd]

set_option maxRecDepth 100000 in
set_option maxHeartbeats 1000000 in
theorem skyCoarse_any (l : List (Int × Int)) (A : Option Addr) (c : Nat) (n : Int) (w : World) (hA : Marks w A l) (hl : l.length ≤ maxLen) :
    Calls Try.prog 58 #[.slice A l.length c, .int .i64 n] w fun e w' => ∃ A' c', e = .returned (.tuple #[.slice A' (coL l n).length c', .int .i64 (coE l n)]) ∧ Clk w' A' c' (coL l n) ∧ Below w.heap.size w w' := by
  have HA := Lib.hid hA
  have HL := Lib.hid hl
  clear hA hl
  cases hv : vaB l with
  | false =>
    have e1 : coL l n = [] := by simp [coL, coOk, hv]
    have e2 : coE l n = 60 := by simp [coE, hv]
    rw [e1, e2]
    have HV := Lib.hid hv
    clear hv e1 e2
    go_enter Try.func58, Try.ntmps58
    go_wp2_with (go_at_call 43; refine (skyValid_any l _ _ _ HA.out HL.out).mono ?_; rintro e w1 ⟨he, hB1⟩; rw [HV.out] at he; subst he)
    go_ret2
    exact ⟨none, 0, rfl, Clk.nil_, hB1⟩
  | true =>
    cases ho : okO n with
    | false =>
      have e1 : coL l n = [] := by simp [coL, coOk, ho]
      have e2 : coE l n = 2 := by simp [coE, hv, ho]
      rw [e1, e2]
      have HV := Lib.hid hv
      have HO := Lib.hid ho
      clear hv e1 e2 ho
      go_enter Try.func58, Try.ntmps58
      go_wp2_with (first
        | (go_at_call 43; refine (skyValid_any l _ _ _ HA.out HL.out).mono ?_; rintro e w1 ⟨he, hB1⟩; rw [HV.out] at he; subst he)
        | (go_at_call 65; refine (validOrder_any _ _).mono ?_; rintro e w2 ⟨he, rfl⟩; rw [HO.out] at he; subst he))
      go_ret2
      exact ⟨none, 0, rfl, Clk.nil_, hB1⟩
    | true =>
      obtain ⟨k, rfl, hk⟩ := okO_of ho
      obtain ⟨v1, v2, v3⟩ := va_parts hv
      have hcc := stL_congr (P := coP l k) (R := coU l k) (fun q hq => (coU_coP hk v2 hq).symm)
      have e1 : coL l k = stL (coU l k) := by rw [← hcc.1]; simp [coL, coOk, hv, ho]
      have e2 : coE l k = stE (coU l k) := by rw [← hcc.2]; simp [coE, hv, ho]
      rw [e1, e2]
      have HV := Lib.hid hv
      have HO := Lib.hid ho
      have HV2 := Lib.hid v2
      clear hv e1 e2 ho v2 v3 hcc
      go_enter Try.func58, Try.ntmps58
      go_wp2_with (first
        | (go_at_call 43; refine (skyValid_any l _ _ _ HA.out HL.out).mono ?_; rintro e w1 ⟨he, hB1⟩; rw [HV.out] at he; subst he)
        | (go_at_call 65; refine (validOrder_any _ _).mono ?_; rintro e w2 ⟨he, rfl⟩; rw [HO.out] at he; subst he))
      rw [zero48]
      have HR0 : Hid (Reg (w1.alloc (.cells (regC fun _ => false) 91)) w1.heap.size (fun _ => false)) := Lib.hid (heap_alloc_new w1 _)
      have hW0 : Below w.heap.size w (w1.alloc (.cells (regC fun _ => false) 91)) := Below.alloc hB1 hB1.size _
      have hz1 := hB1.size
      go_loopw [17] (fun i wr => ∃ i' : Nat, i' ≤ l.length ∧ i = .int .i64 i' ∧ Hid (Reg wr w1.heap.size (coU (l.take i') k)) ∧ Below w.heap.size w wr) (fun i _ => l.length - (intOf i).toNat)
      case atStart => exact ⟨0, Nat.zero_le _, rfl, Lib.hid (HR0.out.congr fun q _ => by simp [coU]), hW0⟩
      case round =>
        clear HR0 hW0
        obtain ⟨i, hi, rfl, hR, hB⟩ := hrel
        by_cases hlt : i < l.length
        · obtain ⟨bl, off, rfl, hbk, hcells⟩ := HA.out.open_ (show 0 < l.length by omega)
          obtain ⟨a, b, hx⟩ := getM_of_lt hlt
          have hcb : cellB (a, b) = true := List.all_eq_true.1 HV2.out _ (List.mem_of_getElem? hx)
          obtain ⟨o, p, he, ho, hp⟩ := cellB_of hcb
          injection he with e1 e2
          subst e1; subst e2
          have f0 := (hB.cell (p := ⟨bl, off + i * 2, none⟩) hbk).trans (hcells _ _ hx).1
          have f1 := (hB.cell (p := ⟨bl, off + i * 2 + 1, none⟩) hbk).trans (hcells _ _ hx).2
          have HX := Lib.hid (coU_snoc hx k)
          obtain ⟨u1, u2⟩ := cu_pix hk ho hp
          have hz := hB.size
          have cU : ∀ W, Calls Try.prog 88 #[.agg #[.int .i64 (o : Int), .int .i64 (p : Int)], .int .i64 (cuO k o : Nat)] W fun e w' => e = .returned (.agg #[.int .i64 (cuO k o : Nat), .int .i64 (cuP k o p : Nat)]) ∧ Below W.heap.size W w' := fun W => by
            have := up_any (min o k) (o - min o k) p (by omega) W
            rw [show min o k + (o - min o k) = o by omega] at this
            exact this
          have CU := Lib.hid cU
          have CA := Lib.hid (fun W (hW : Reg W w1.heap.size (coU (l.take i) k)) => add_any w1.heap.size (coU (l.take i) k) (cuO k o) (cuP k o p) u1 u2 W hW)
          have hmin1 : o ≤ k → cuO k o = o := fun h => by unfold cuO; omega
          have hmin2 : k ≤ o → cuO k o = k := fun h => by unfold cuO; omega
          have HMIN1 := Lib.hid hmin1
          have HMIN2 := Lib.hid hmin2
          clear hx hcells hcb cU u1 u2 hmin1 hmin2
          rcases Nat.lt_or_ge k o with hok | hok
          · have em := HMIN2.out (by omega)
            rw [em] at CU CA
            have EM := Lib.hid em
            have t1 : decide ((k : Int) < (o : Int)) = true := decide_eq_true (by omega)
            have t2 : decide (k < o) = true := decide_eq_true hok
            clear em
            go_wp2_with (first
              | (go_at_call 88; refine (CU.out _).mono ?_; rintro e w3 ⟨rfl, hB3⟩; have HR3 : Hid (Reg w3 w1.heap.size (coU (l.take i) k)) := Lib.hid ((hR.out.below (Below.alloc (Below.refl _ _) (Nat.le_refl _) _)).below hB3); have hW3 : Below w.heap.size w w3 := Below.trans (Below.alloc hB hz _) (hB3.mono (by simp; omega)); have hz3 := hW3.size; clear hB3)
              | (go_at_call 111; refine (CA.out _ HR3.out).mono ?_; rintro e w4 ⟨rfl, hR4, hO4⟩; have HR4 := Lib.hid hR4; have hW4 : Below w.heap.size w w4 := Below.trans hW3 (hO4.below hz1 hz3); clear hR4 hO4)
              | fail)
            go_roundw
            case rel => exact ⟨i + 1, by omega, by go_num, Lib.hid (HR4.out.congr fun q _ => by rw [HX.out, EM.out]), hW4⟩
            case measure => simp [intOf]; omega
          · have em := HMIN1.out (by omega)
            rw [em] at CU CA
            have EM := Lib.hid em
            have t1 : decide ((k : Int) < (o : Int)) = false := decide_eq_false (by omega)
            have t2 : decide (k < o) = false := decide_eq_false (by omega)
            clear em
            go_wp2_with (first
              | (go_at_call 88; refine (CU.out _).mono ?_; rintro e w3 ⟨rfl, hB3⟩; have HR3 : Hid (Reg w3 w1.heap.size (coU (l.take i) k)) := Lib.hid ((hR.out.below (Below.alloc (Below.refl _ _) (Nat.le_refl _) _)).below hB3); have hW3 : Below w.heap.size w w3 := Below.trans (Below.alloc hB hz _) (hB3.mono (by simp; omega)); have hz3 := hW3.size; clear hB3)
              | (go_at_call 111; refine (CA.out _ HR3.out).mono ?_; rintro e w4 ⟨rfl, hR4, hO4⟩; have HR4 := Lib.hid hR4; have hW4 : Below w.heap.size w w4 := Below.trans hW3 (hO4.below hz1 hz3); clear hR4 hO4)
              | fail)
            go_roundw
            case rel => exact ⟨i + 1, by omega, by go_num, Lib.hid (HR4.out.congr fun q _ => by rw [HX.out, EM.out]), hW4⟩
            case measure => simp [intOf]; omega
        · obtain rfl : i = l.length := by omega
          have HR : Hid (Reg wr w1.heap.size (coU l k)) := Lib.hid (by have := hR.out; rwa [List.take_length] at this)
          clear hR
          go_wp2_with (go_at_call 93; refine (regSet_any _ _ _ HR.out).mono ?_; rintro e w6 ⟨A6, c6, rfl, hC6, hB6⟩; have hW6 := below_step hB hB6; have HC6 := Lib.hid hC6; clear hC6 hB6)
          go_ret2
          exact ⟨A6, c6, rfl, HC6.out, hW6⟩
end Go.Proofs.Ytnnfnphmieikmaa
