/-
  Contracts: mixed with its function values; Join, Both, Without, Rest of the program.
-/
import Derived.Test.YtnnfnphmieikmaaReg5
namespace Go.Proofs.Ytnnfnphmieikmaa
open Go Go.RowKit Go.Shelf

/-- The world in which two regions stand that were just stored. -/
theorem mixed_world {w w4 : World} {z : Array Value} (P R : Nat → Bool) (hW4 : Below w.heap.size w w4) {G : World → Prop}
    (h : ∀ X : World, Reg X w4.heap.size P → Reg X (w4.heap.size + 1) R → Below w.heap.size w X → G X) :
    G ((((w4.alloc (.cells z 91)).alloc (.cells z 91)).setRow w4.heap.size (regC P)).setRow (w4.heap.size + 1) (regC R)) := by
  have a1 : ((w4.alloc (.cells z 91)).alloc (.cells z 91)).heap[w4.heap.size]? = some (.cells z 91 (0, 0)) := heap_alloc2_old w4 _ _
  have a2 : ((w4.alloc (.cells z 91)).alloc (.cells z 91)).heap[w4.heap.size + 1]? = some (.cells z 91 (0, 0)) := heap_alloc2_new w4 _ _
  refine h _ ((setRow_other _ _ _ _ (by omega)).trans (setRow_heap _ _ _ _ _ _ a1)) (setRow_heap _ _ _ _ _ _ ((setRow_other _ _ _ _ (by omega)).trans a2)) ?_
  have hz := hW4.size
  exact below_setRow (below_setRow (Below.alloc (Below.alloc hW4 hz _) (by simp; omega) _) (by omega) _) (by omega) _

/-- What is asked of a function value that mixes two words. -/
def MixAt (g : Nat) (f : Bool → Bool → Bool) (P R : Nat → Bool) : Prop :=
  ∀ (n : Nat) (W : World), Calls Try.prog g #[.int .u64 (wordAt P n : Nat), .int .u64 (wordAt R n : Nat)] W fun e w' => e = .returned (.int .u64 (wordAt (fun q => f (P q) (R q)) n : Nat)) ∧ W = w'
def notB (a _ : Bool) : Bool := !a
theorem join_mix (P R : Nat → Bool) : MixAt 106 orB P R := by
  intro n W
  have h1 := word_lt P n
  have h2 := word_lt R n
  have HE : Hid (bits BinOp.or IntKind.u64 ((wordAt P n : Nat) : Int) ((wordAt R n : Nat) : Int) = ((wordAt (fun q => orB (P q) (R q)) n : Nat) : Int)) := Lib.hid (by rw [u64_or_nat _ _ (by omega) (by omega), word_or]; rfl)
  go_enter Try.func106, Try.ntmps106
  go_wp2
  go_ret
  exact ⟨ret_int HE.out, rfl⟩
theorem both_mix (P R : Nat → Bool) : MixAt 108 andB P R := by
  intro n W
  have h1 := word_lt P n
  have h2 := word_lt R n
  have HE : Hid (bits BinOp.and IntKind.u64 ((wordAt P n : Nat) : Int) ((wordAt R n : Nat) : Int) = ((wordAt (fun q => andB (P q) (R q)) n : Nat) : Int)) := Lib.hid (by rw [u64_and_nat _ _ (by omega) (by omega), word_and]; rfl)
  go_enter Try.func108, Try.ntmps108
  go_wp2
  go_ret
  exact ⟨ret_int HE.out, rfl⟩
theorem less_mix (P R : Nat → Bool) : MixAt 109 lessB P R := by
  intro n W
  have h1 := word_lt P n
  have h2 := word_lt R n
  have HE : Hid (bits BinOp.andNot IntKind.u64 ((wordAt P n : Nat) : Int) ((wordAt R n : Nat) : Int) = ((wordAt (fun q => lessB (P q) (R q)) n : Nat) : Int)) := Lib.hid (by rw [u64_andNot_nat _ _ (by omega) (by omega), word_less]; rfl)
  go_enter Try.func109, Try.ntmps109
  go_wp2
  go_ret
  exact ⟨ret_int HE.out, rfl⟩
theorem word_flip (P : Nat → Bool) (n : Nat) : 18446744073709551615 ^^^ wordAt P n = wordAt (fun q => !P q) n :=
  word_ext fun b => by
    rw [show (18446744073709551615 : Nat) = 2 ^ 64 - 1 from rfl, Nat.testBit_xor, Nat.testBit_two_pow_sub_one, word_bit]
    cases decide (b < 64) <;> simp
theorem not_mix (P R : Nat → Bool) : MixAt 110 notB P R := by
  intro n W
  have h1 := word_lt P n
  have hs : IntKind.u64.signed = false := rfl
  have HE : Hid (bits BinOp.xor IntKind.u64 IntKind.u64.max ((wordAt P n : Nat) : Int) = ((wordAt (fun q => notB (P q) (R q)) n : Nat) : Int)) := Lib.hid (by
    rw [show IntKind.u64.max = ((18446744073709551615 : Nat) : Int) from rfl, u64_xor_nat _ _ (by omega) (by omega), word_flip]; rfl)
  go_enter Try.func110, Try.ntmps110
  go_wp2
  go_ret
  exact ⟨ret_int HE.out, rfl⟩

/-- Two regions mixed up to the n-th word. -/
def mixTo (f : Bool → Bool → Bool) (P R : Nat → Bool) (n q : Nat) : Bool := if q < 64 * n then f (P q) (R q) else P q
theorem mixTo_here (f : Bool → Bool → Bool) (P R : Nat → Bool) (n : Nat) : wordAt (mixTo f P R n) n = wordAt P n :=
  word_congr fun b _ => by rw [mixTo, if_neg (by omega)]
theorem mixTo_new (f : Bool → Bool → Bool) (P R : Nat → Bool) (n : Nat) : wordAt (mixTo f P R (n + 1)) n = wordAt (fun q => f (P q) (R q)) n :=
  word_congr fun b hb => by rw [mixTo, if_pos (by omega)]
theorem mixTo_other (f : Bool → Bool → Bool) (P R : Nat → Bool) {n m : Nat} (h : m ≠ n) : wordAt (mixTo f P R (n + 1)) m = wordAt (mixTo f P R n) m :=
  word_congr fun b hb => by
    simp only [mixTo]
    by_cases h1 : 64 * m + b < 64 * n
    · rw [if_pos (by omega), if_pos h1]
    · rw [if_neg (by omega), if_neg h1]
set_option maxRecDepth 100000 in
set_option maxHeartbeats 1000000 in
theorem skyMixed_any (f : Bool → Bool → Bool) (g : Nat) (eg : ∀ args w, (callFunc g args).run Try.prog w = .ok (.enter g args) w) (l m : List (Int × Int)) (A B : Option Addr) (c d : Nat) (w : World) (hM : MixAt g f (inL l) (inL m)) (hA : Marks w A l) (hB : Marks w B m) (hl : l.length ≤ maxLen) (hm : m.length ≤ maxLen) :
    Calls Try.prog 105 #[.slice A l.length c, .slice B m.length d, .func (.func g) #[] #[]] w fun e w' => ∃ A' c', e = .returned (.tuple #[.slice A' (mxL f l m).length c', .int .i64 (mxE f l m)]) ∧ Clk w' A' c' (mxL f l m) ∧ Below w.heap.size w w' := by
  have HA := Lib.hid hA
  have HB := Lib.hid hB
  have HL := Lib.hid hl
  have HM := Lib.hid hm
  have HMX := Lib.hid hM
  clear hA hB hl hm hM
  have TA : Hid True := Lib.hid trivial
  cases hv : vaB l with
  | false =>
    have hs := mx_no (f := f) (l := l) (m := m) (by rw [mxOk, hv]; rfl)
    rw [hs.1, hs.2]
    have HV := Lib.hid hv
    clear hv hs
    go_enter Try.func105, Try.ntmps105
    go_wp2_with (go_at_call 43; refine (skyValid_any l _ _ _ HA.out HL.out).mono ?_; rintro e w1 ⟨he, hB1⟩; rw [HV.out] at he; subst he)
    go_ret2
    exact ⟨none, 0, rfl, Clk.nil_, hB1⟩
  | true =>
    cases hv2 : vaB m with
    | false =>
      have hs := mx_no (f := f) (l := l) (m := m) (by rw [mxOk, hv2]; simp)
      rw [hs.1, hs.2]
      have HV := Lib.hid hv
      have HV2 := Lib.hid hv2
      clear hv hv2 hs
      go_enter Try.func105, Try.ntmps105
      go_wp2_with (first
        | (go_at_call 43; clear TA; refine (skyValid_any l _ _ _ HA.out HL.out).mono ?_; rintro e w1 ⟨he, hB1⟩; rw [HV.out] at he; subst he)
        | (go_at_call 43; refine (skyValid_any m _ _ _ (HB.out.below hB1) HM.out).mono ?_; rintro e w2 ⟨he, hB2⟩; rw [HV2.out] at he; subst he; have hW2 := below_step hB1 hB2))
      go_ret2
      exact ⟨none, 0, rfl, Clk.nil_, hW2⟩
    | true =>
      have hs := mx_yes (f := f) (l := l) (m := m) (by rw [mxOk, hv, hv2]; rfl)
      rw [hs.1, hs.2]
      obtain ⟨v1, v2, v3⟩ := va_parts hv
      obtain ⟨u1, u2, u3⟩ := va_parts hv2
      have HV := Lib.hid hv
      have HV2 := Lib.hid hv2
      have HC := Lib.hid v2
      have HC2 := Lib.hid u2
      have TB : Hid True := Lib.hid trivial
      clear hv hv2 hs v2 v3 u2 u3
      go_enter Try.func105, Try.ntmps105
      go_wp2_with (first
        | (go_at_call 43; clear TA; refine (skyValid_any l _ _ _ HA.out HL.out).mono ?_; rintro e w1 ⟨he, hB1⟩; rw [HV.out] at he; subst he)
        | (go_at_call 43; refine (skyValid_any m _ _ _ (HB.out.below hB1) HM.out).mono ?_; rintro e w2 ⟨he, hB2⟩; rw [HV2.out] at he; subst he; have hW2 := below_step hB1 hB2; clear hB1 hB2)
        | (go_at_call 92; clear TB; refine (regionOf_any l _ _ _ (HA.out.below hW2) (by omega) HC.out).mono ?_; rintro e w3 ⟨rfl, hB3⟩; have hW3 := below_step hW2 hB3; clear hB3)
        | (go_at_call 92; refine (regionOf_any m _ _ _ (HB.out.below hW3) (by omega) HC2.out).mono ?_; rintro e w4 ⟨rfl, hB4⟩; have hW4 := below_step hW3 hB4; have hz4 := hW4.size; clear hB4)
        | (refine wpList_store_row rfl 91 (.tmp 8) (.tmp 20) rfl w4.heap.size (regC (inL l)) rfl rfl 91 _ (heap_alloc2_old w4 _ _) (by rw [regC_size]; kernel_rfl) (by rw [regC_size] <;> rfl) (regC_one _) ?_)
        | (refine wpList_store_row rfl 91 (.tmp 9) (.tmp 22) rfl (w4.heap.size + 1) (regC (inL m)) rfl rfl 91 _ ((setRow_other _ _ _ _ (by omega)).trans (heap_alloc2_new w4 _ _)) (by rw [regC_size]; kernel_rfl) (by rw [regC_size] <;> rfl) (regC_one _) ?_; refine mixed_world _ _ hW4 (fun X hX1 hX2 hX3 => ?_))
        | fail)
      have HX1 := Lib.hid hX1
      have HX2 := Lib.hid hX2
      clear hX1 hX2
      go_loopw [23] (fun i wr => ∃ n : Nat, n ≤ 48 ∧ i = .int .i64 n ∧ Hid (Reg wr w4.heap.size (mixTo f (inL l) (inL m) n)) ∧ Hid (Reg wr (w4.heap.size + 1) (inL m)) ∧ Below w.heap.size w wr) (fun i _ => 48 - (intOf i).toNat)
      case atStart => exact ⟨0, Nat.zero_le _, rfl, Lib.hid (HX1.out.congr fun q _ => by simp [mixTo]), HX2, hX3⟩
      case round =>
        clear HX1 HX2 hX3
        obtain ⟨n, hn, rfl, hR1, hR2, hB⟩ := hrel
        by_cases hlt : n < 48
        · have tq : decide ((n : Int) < 48) = true := decide_eq_true (by omega)
          have cr := hR1.out.cell hlt
          rw [mixTo_here] at cr
          have cs := hR2.out.cell hlt
          have fr := blk_frozen hR1.out n
          have CM := Lib.hid (HMX.out n)
          have HNEW := Lib.hid (mixTo_new f (inL l) (inL m) n)
          have HOTH : Hid (∀ k, k ≠ n → wordAt (mixTo f (inL l) (inL m) (n + 1)) k = wordAt (mixTo f (inL l) (inL m) n) k) := Lib.hid (fun k hk => mixTo_other f _ _ hk)
          generalize wordAt (inL l) n = X1 at *
          generalize wordAt (inL m) n = X2 at *
          generalize hZ : wordAt (fun q => f (inL l q) (inL m q)) n = Z at *
          clear hZ
          go_wp2
          go_region_with ((go_at_fn g; refine (CM.out _).mono ?_; rintro e w5 ⟨rfl, rfl⟩))
          all_goals
            go_wp2
            go_roundw
            case rel => exact ⟨n + 1, by omega, by go_num, Lib.hid (Reg.word (w := wr) hR1.out HNEW.out.symm fun k _ hk => HOTH.out k hk), Lib.hid ((heap_setCell_other wr ⟨w4.heap.size, n, none⟩ (w4.heap.size + 1) _ (by simp)).trans hR2.out), below_drewN (Below.setCell hB (by show _ ≤ w4.heap.size; exact hz4) _) 1⟩
            case measure => simp [intOf]; omega
        · obtain rfl : n = 48 := by omega
          have HR := Lib.hid (hR1.out.congr (R := mxP f l m) (fun q hq => by rw [mixTo, if_pos (by omega)]; rfl))
          clear hR1
          go_wp2_with (go_at_call 93; refine (regSet_any _ _ _ HR.out).mono ?_; rintro e w6 ⟨A6, c6, rfl, hC6, hB6⟩; have hW6 := below_step hB hB6; have HC6 := Lib.hid hC6; clear hC6 hB6)
          go_ret2
          exact ⟨A6, c6, rfl, HC6.out, hW6⟩
theorem skyJoin_any (l m : List (Int × Int)) (A B : Option Addr) (c d : Nat) (w : World) (hA : Marks w A l) (hB : Marks w B m) (hl : l.length ≤ maxLen) (hm : m.length ≤ maxLen) :
    Calls Try.prog 50 #[.slice A l.length c, .slice B m.length d] w fun e w' => ∃ A' c', e = .returned (.tuple #[.slice A' (mxL orB l m).length c', .int .i64 (mxE orB l m)]) ∧ Clk w' A' c' (mxL orB l m) ∧ Below w.heap.size w w' := by
  have eg : ∀ args w, (callFunc 106 args).run Try.prog w = .ok (.enter 106 args) w := enters_of Try.func106 (by kernel_rfl) rfl
  have C := Lib.hid (skyMixed_any orB _ eg l m A B c d w (join_mix _ _) hA hB hl hm)
  clear hA hB hl hm eg
  go_enter Try.func50, Try.ntmps50
  go_wp2_with (go_at_call 105; refine (C.out).mono ?_; rintro e w1 ⟨A1, c1, rfl, hC1, hB1⟩)
  go_ret2
  exact ⟨A1, c1, rfl, hC1, hB1⟩
theorem skyBoth_any (l m : List (Int × Int)) (A B : Option Addr) (c d : Nat) (w : World) (hA : Marks w A l) (hB : Marks w B m) (hl : l.length ≤ maxLen) (hm : m.length ≤ maxLen) :
    Calls Try.prog 52 #[.slice A l.length c, .slice B m.length d] w fun e w' => ∃ A' c', e = .returned (.tuple #[.slice A' (mxL andB l m).length c', .int .i64 (mxE andB l m)]) ∧ Clk w' A' c' (mxL andB l m) ∧ Below w.heap.size w w' := by
  have eg : ∀ args w, (callFunc 108 args).run Try.prog w = .ok (.enter 108 args) w := enters_of Try.func108 (by kernel_rfl) rfl
  have C := Lib.hid (skyMixed_any andB _ eg l m A B c d w (both_mix _ _) hA hB hl hm)
  clear hA hB hl hm eg
  go_enter Try.func52, Try.ntmps52
  go_wp2_with (go_at_call 105; refine (C.out).mono ?_; rintro e w1 ⟨A1, c1, rfl, hC1, hB1⟩)
  go_ret2
  exact ⟨A1, c1, rfl, hC1, hB1⟩
theorem skyWithout_any (l m : List (Int × Int)) (A B : Option Addr) (c d : Nat) (w : World) (hA : Marks w A l) (hB : Marks w B m) (hl : l.length ≤ maxLen) (hm : m.length ≤ maxLen) :
    Calls Try.prog 54 #[.slice A l.length c, .slice B m.length d] w fun e w' => ∃ A' c', e = .returned (.tuple #[.slice A' (mxL lessB l m).length c', .int .i64 (mxE lessB l m)]) ∧ Clk w' A' c' (mxL lessB l m) ∧ Below w.heap.size w w' := by
  have eg : ∀ args w, (callFunc 109 args).run Try.prog w = .ok (.enter 109 args) w := enters_of Try.func109 (by kernel_rfl) rfl
  have C := Lib.hid (skyMixed_any lessB _ eg l m A B c d w (less_mix _ _) hA hB hl hm)
  clear hA hB hl hm eg
  go_enter Try.func54, Try.ntmps54
  go_wp2_with (go_at_call 105; refine (C.out).mono ?_; rintro e w1 ⟨A1, c1, rfl, hC1, hB1⟩)
  go_ret2
  exact ⟨A1, c1, rfl, hC1, hB1⟩
theorem va_nil : vaB [] = true := by decide +kernel
theorem rest_not (l : List (Int × Int)) : mxL notB l [] = rsL l ∧ mxE notB l [] = rsE l := by
  have hc := stL_congr (P := mxP notB l []) (R := rsP l) (fun q _ => rfl)
  rw [mxL, mxE, mxOk, va_nil, Bool.and_true, hc.1, hc.2]; exact ⟨rfl, rfl⟩
theorem skyRest_any (l : List (Int × Int)) (A : Option Addr) (c : Nat) (w : World) (hA : Marks w A l) (hl : l.length ≤ maxLen) :
    Calls Try.prog 56 #[.slice A l.length c] w fun e w' => ∃ A' c', e = .returned (.tuple #[.slice A' (rsL l).length c', .int .i64 (rsE l)]) ∧ Clk w' A' c' (rsL l) ∧ Below w.heap.size w w' := by
  have eg : ∀ args w, (callFunc 110 args).run Try.prog w = .ok (.enter 110 args) w := enters_of Try.func110 (by kernel_rfl) rfl
  have C := skyMixed_any notB _ eg l [] A none c 0 w (not_mix _ _) hA Marks.nil_ hl (by simp)
  rw [(rest_not l).1, (rest_not l).2] at C
  have C := Lib.hid C
  clear hA hl eg
  go_enter Try.func56, Try.ntmps56
  go_wp2_with (go_at_call 105; refine (C.out).mono ?_; rintro e w1 ⟨A1, c1, rfl, hC1, hB1⟩)
  go_ret2
  exact ⟨A1, c1, rfl, hC1, hB1⟩
end Go.Proofs.Ytnnfnphmieikmaa
