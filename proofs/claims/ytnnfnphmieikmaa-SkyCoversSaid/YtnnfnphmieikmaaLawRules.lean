/-
  The walk of SkyRules: it returns true, whatever it is given.
-/
import Derived.Test.YtnnfnphmieikmaaSetT
import Derived.Test.YtnnfnphmieikmaaLawPairs
namespace Go.Proofs.Ytnnfnphmieikmaa
open Go Go.RowKit Go.Shelf

theorem mx_st {f : Bool → Bool → Bool} {l m : List (Int × Int)} (hl : vaB l = true) (hm : vaB m = true) : mxL f l m = stL (mxP f l m) ∧ mxE f l m = stE (mxP f l m) := mx_yes (by rw [mxOk, hl, hm]; rfl)
theorem rs_st {l : List (Int × Int)} (hl : vaB l = true) : rsL l = stL (rsP l) ∧ rsE l = stE (rsP l) := by
  rw [rsL, rsE, hl]; exact ⟨rfl, rfl⟩
theorem sz_st {P : Nat → Bool} (h : stE P = 0) : szV (stL P) = ((cntP P 3072 : Nat) : Int) ∧ vaE (stL P) = 0 := by
  rw [szV, vaE, if_pos (st_valid _), if_pos (st_valid _), cnt_congr 3072 fun q hq => st_in h hq]; exact ⟨rfl, rfl⟩
theorem sz_va {l : List (Int × Int)} (h : vaB l = true) : szV l = ((cntP (inL l) 3072 : Nat) : Int) ∧ vaE l = 0 := by
  rw [szV, vaE, if_pos h, if_pos h]; exact ⟨rfl, rfl⟩
theorem stL_max (P : Nat → Bool) : (stL P).length ≤ maxLen := by have := stL_len P; unfold maxLen; omega
/-- What a set call hands back, as a contract. -/
abbrev Two (g : Nat) (l m : List (Int × Int)) (R : List (Int × Int)) (e0 : Int) : Prop :=
  ∀ (A B : Option Addr) (c d : Nat) (W : World), Marks W A l → Marks W B m → Calls Try.prog g #[.slice A l.length c, .slice B m.length d] W fun e w' => ∃ A' c', e = .returned (.tuple #[.slice A' R.length c', .int .i64 e0]) ∧ Clk w' A' c' R ∧ Below W.heap.size W w'
abbrev One (g : Nat) (l R : List (Int × Int)) (e0 : Int) : Prop :=
  ∀ (A : Option Addr) (c : Nat) (W : World), Marks W A l → Calls Try.prog g #[.slice A l.length c] W fun e w' => ∃ A' c', e = .returned (.tuple #[.slice A' R.length c', .int .i64 e0]) ∧ Clk w' A' c' R ∧ Below W.heap.size W w'
abbrev Siz (l : List (Int × Int)) (n : Nat) : Prop :=
  ∀ (A : Option Addr) (c : Nat) (W : World), Marks W A l → Calls Try.prog 46 #[.slice A l.length c] W fun e w' => e = .returned (.tuple #[.int .i64 (n : Int), .int .i64 0]) ∧ Below W.heap.size W w'
theorem two_join {l m : List (Int × Int)} (hl : l.length ≤ maxLen) (hm : m.length ≤ maxLen) : Two 50 l m (mxL orB l m) (mxE orB l m) := fun A B c d W h1 h2 => skyJoin_any l m A B c d W h1 h2 hl hm
theorem two_both {l m : List (Int × Int)} (hl : l.length ≤ maxLen) (hm : m.length ≤ maxLen) : Two 52 l m (mxL andB l m) (mxE andB l m) := fun A B c d W h1 h2 => skyBoth_any l m A B c d W h1 h2 hl hm
theorem two_less {l m : List (Int × Int)} (hl : l.length ≤ maxLen) (hm : m.length ≤ maxLen) : Two 54 l m (mxL lessB l m) (mxE lessB l m) := fun A B c d W h1 h2 => skyWithout_any l m A B c d W h1 h2 hl hm
theorem one_rest {l : List (Int × Int)} (hl : l.length ≤ maxLen) : One 56 l (rsL l) (rsE l) := fun A c W h1 => skyRest_any l A c W h1 hl
theorem siz_st {P : Nat → Bool} (h : stE P = 0) : Siz (stL P) (cntP P 3072) := fun A c W h1 => by
  have := skySize_any (stL P) A c W h1 (stL_max P)
  rwa [(sz_st h).1, (sz_st h).2] at this
theorem siz_va {l : List (Int × Int)} (h : vaB l = true) (hl : l.length ≤ maxLen) : Siz l (cntP (inL l) 3072) := fun A c W h1 => by
  have := skySize_any l A c W h1 hl
  rwa [(sz_va h).1, (sz_va h).2] at this
-- The walk, for what the calls hand back.
set_option maxRecDepth 100000 in
set_option maxHeartbeats 2000000 in
theorem rules_000 (l m J K R U _ : List (Int × Int)) (na nb nc nd nr : Nat) (eu : Int) (A : Option Addr) (c : Nat) (B : Option Addr) (d : Nat) (w : World) (H : Hid (Clk w A c l)) (K0 : Hid (Clk w B d m))
    (hlong1 : ¬ 1000 < l.length) (hlong2 : ¬ 1000 < m.length)
    (VL : Hid (vaB l = true)) (VM : Hid (vaB m = true))
    (CJ : Hid (Two 50 l m J 0)) (CJ2 : Hid (Two 50 m l J 0)) (CB : Hid (Two 52 l m K 0)) (CB2 : Hid (Two 52 m l K 0))
    (SA : Hid (Siz l na)) (SB : Hid (Siz m nb)) (SC : Hid (Siz J nc)) (SD : Hid (Siz K nd)) (hs : na + nb = nc + nd) (hna : na ≤ 3072) (hnb : nb ≤ 3072) (LJ : Hid (J.length ≤ maxLen)) (LK : Hid (K.length ≤ maxLen))
    (CR : Hid (One 56 m R 0)) (SR : Hid (Siz R nr)) (CR2 : Hid (One 56 R m 0)) (CW : Hid (Two 54 l m U eu)) (CV : Hid (Two 52 l R U eu)) (hr : nb + nr = 3072) (LU : Hid (U.length ≤ maxLen)) :
    Calls Try.prog 13 #[.slice A l.length c, .slice B m.length d] w fun e w' => e = .returned (.bool true) ∧ Below w.heap.size w w' := by
  have t1 : decide ((1000 : Int) < (l.length : Int)) = false := decide_eq_false (by omega)
  have t2 : decide ((1000 : Int) < (m.length : Int)) = false := decide_eq_false (by omega)
  have hW0 : Below w.heap.size w w := Below.refl _ _
  have tS : ((na : Int) + (nb : Int)) = ((nc : Int) + (nd : Int)) := by omega
  have hnc : nc + nd ≤ 6144 := by omega
  have tR : ((nb : Int) + (nr : Int)) = 3072 := by omega
  clear hlong1 hlong2
  go_enter Try.func13, Try.ntmps13
  go_wp2_with (first
    | (go_at_call 40; refine (lawLong_any _ _ _ _ _).mono ?_; rintro e w' ⟨rfl, rfl⟩)
    | (go_at_call 44; with_reducible refine (refValid_any l _ _ _ (H.out.marks.below hW0) H.out.len).mono ?_; rintro e w1 ⟨he, hB1⟩; rw [VL.out] at he; subst he; have hW1 := below_step hW0 hB1; clear hB1)
    | (go_at_call 44; with_reducible refine (refValid_any m _ _ _ (K0.out.marks.below hW1) K0.out.len).mono ?_; rintro e w2 ⟨he, hB2⟩; rw [VM.out] at he; subst he; have hW2 := below_step hW1 hB2; clear hB2)
    | (go_at_call 50; with_reducible refine (CJ.out _ _ _ _ _ (H.out.marks.below hW2) (K0.out.marks.below hW2)).mono ?_; rintro e w3 ⟨A3, c3, rfl, hO3, hB3⟩; have hW3 := below_step hW2 hB3; clear hB3)
    | (go_at_call 50; with_reducible refine (CJ2.out _ _ _ _ _ (K0.out.marks.below hW3) (H.out.marks.below hW3)).mono ?_; rintro e w4 ⟨A4, c4, rfl, hO4, hB4⟩; have hO3 := hO3.below hB4; have hW4 := below_step hW3 hB4; clear hB4)
    | (go_at_call 45; with_reducible refine (sameCells_same J _ _ _ _ _ hO3.marks hO4.marks LJ.out).mono ?_; rintro e w5 ⟨rfl, hB5⟩; have hO3 := hO3.below hB5; have hW5 := below_step hW4 hB5; clear hB5 hO4)
    | (go_at_call 52; with_reducible refine (CB.out _ _ _ _ _ (H.out.marks.below hW5) (K0.out.marks.below hW5)).mono ?_; rintro e w6 ⟨A6, c6, rfl, hO6, hB6⟩; have hO3 := hO3.below hB6; have hW6 := below_step hW5 hB6; clear hB6)
    | (go_at_call 52; with_reducible refine (CB2.out _ _ _ _ _ (K0.out.marks.below hW6) (H.out.marks.below hW6)).mono ?_; rintro e w7 ⟨A7, c7, rfl, hO7, hB7⟩; have hO3 := hO3.below hB7; have hO6 := hO6.below hB7; have hW7 := below_step hW6 hB7; clear hB7)
    | (go_at_call 45; with_reducible refine (sameCells_same K _ _ _ _ _ hO6.marks hO7.marks LK.out).mono ?_; rintro e w8 ⟨rfl, hB8⟩; have hO3 := hO3.below hB8; have hO6 := hO6.below hB8; have hW8 := below_step hW7 hB8; clear hB8 hO7)
    | (go_at_call 46; with_reducible refine (SA.out _ _ _ (H.out.marks.below hW8)).mono ?_; rintro e w9 ⟨rfl, hB9⟩; have hO3 := hO3.below hB9; have hO6 := hO6.below hB9; have hW9 := below_step hW8 hB9; clear hB9)
    | (go_at_call 46; with_reducible refine (SB.out _ _ _ (K0.out.marks.below hW9)).mono ?_; rintro e w10 ⟨rfl, hB10⟩; have hO3 := hO3.below hB10; have hO6 := hO6.below hB10; have hW10 := below_step hW9 hB10; clear hB10)
    | (go_at_call 46; with_reducible refine (SC.out _ _ _ hO3.marks).mono ?_; rintro e w11 ⟨rfl, hB11⟩; have hO6 := hO6.below hB11; have hW11 := below_step hW10 hB11; clear hB11)
    | (go_at_call 46; with_reducible refine (SD.out _ _ _ hO6.marks).mono ?_; rintro e w12 ⟨rfl, hB12⟩; have hW12 := below_step hW11 hB12; clear hB12)
    | (go_at_call 56; with_reducible refine (CR.out _ _ _ (K0.out.marks.below hW12)).mono ?_; rintro e w13 ⟨A13, c13, rfl, hO13, hB13⟩; have hW13 := below_step hW12 hB13; clear hB13)
    | (go_at_call 46; with_reducible refine (SR.out _ _ _ hO13.marks).mono ?_; rintro e w14 ⟨rfl, hB14⟩; have hO13 := hO13.below hB14; have hW14 := below_step hW13 hB14; clear hB14)
    | (go_at_call 56; with_reducible refine (CR2.out _ _ _ hO13.marks).mono ?_; rintro e w15 ⟨A15, c15, rfl, hO15, hB15⟩; have hO13 := hO13.below hB15; have hW15 := below_step hW14 hB15; clear hB15)
    | (go_at_call 54; with_reducible refine (CW.out _ _ _ _ _ (H.out.marks.below hW15) (K0.out.marks.below hW15)).mono ?_; rintro e w16 ⟨A16, c16, rfl, hO16, hB16⟩; have hO13 := hO13.below hB16; have hO15 := hO15.below hB16; have hW16 := below_step hW15 hB16; clear hB16)
    | (go_at_call 52; with_reducible refine (CV.out _ _ _ _ _ (H.out.marks.below hW16) hO13.marks).mono ?_; rintro e w17 ⟨A17, c17, rfl, hO17, hB17⟩; have hO15 := hO15.below hB17; have hO16 := hO16.below hB17; have hW17 := below_step hW16 hB17; clear hB17)
    | (go_at_call 45; with_reducible refine (sameCells_same m _ _ _ _ _ hO15.marks (K0.out.marks.below hW17) K0.out.len).mono ?_; rintro e w18 ⟨rfl, hB18⟩; have hO16 := hO16.below hB18; have hO17 := hO17.below hB18; have hW18 := below_step hW17 hB18; clear hB18)
    | (go_at_call 45; with_reducible refine (sameCells_same U _ _ _ _ _ hO16.marks hO17.marks LU.out).mono ?_; rintro e w19 ⟨rfl, hB19⟩; have hW19 := below_step hW18 hB19; clear hB19)
    | (go_at_call 28; refine (sane_any _).mono ?_; rintro e w23 ⟨rfl, hB23⟩)
    | fail)
  go_ret
  exact ⟨rfl, below_step hW19 hB23⟩
set_option maxRecDepth 100000 in
set_option maxHeartbeats 2000000 in
theorem rules_004 (l m J K _ _ _ : List (Int × Int)) (na nb nc nd _ : Nat) (_ : Int) (A : Option Addr) (c : Nat) (B : Option Addr) (d : Nat) (w : World) (H : Hid (Clk w A c l)) (K0 : Hid (Clk w B d m))
    (hlong1 : ¬ 1000 < l.length) (hlong2 : ¬ 1000 < m.length)
    (VL : Hid (vaB l = true)) (VM : Hid (vaB m = true))
    (CJ : Hid (Two 50 l m J 0)) (CJ2 : Hid (Two 50 m l J 0)) (CB : Hid (Two 52 l m K 0)) (CB2 : Hid (Two 52 m l K 0))
    (SA : Hid (Siz l na)) (SB : Hid (Siz m nb)) (SC : Hid (Siz J nc)) (SD : Hid (Siz K nd)) (hs : na + nb = nc + nd) (hna : na ≤ 3072) (hnb : nb ≤ 3072) (LJ : Hid (J.length ≤ maxLen)) (LK : Hid (K.length ≤ maxLen))
    (CR : Hid (One 56 m [] 4)) :
    Calls Try.prog 13 #[.slice A l.length c, .slice B m.length d] w fun e w' => e = .returned (.bool true) ∧ Below w.heap.size w w' := by
  have t1 : decide ((1000 : Int) < (l.length : Int)) = false := decide_eq_false (by omega)
  have t2 : decide ((1000 : Int) < (m.length : Int)) = false := decide_eq_false (by omega)
  have hW0 : Below w.heap.size w w := Below.refl _ _
  have tS : ((na : Int) + (nb : Int)) = ((nc : Int) + (nd : Int)) := by omega
  have hnc : nc + nd ≤ 6144 := by omega
  clear hlong1 hlong2
  go_enter Try.func13, Try.ntmps13
  go_wp2_with (first
    | (go_at_call 40; refine (lawLong_any _ _ _ _ _).mono ?_; rintro e w' ⟨rfl, rfl⟩)
    | (go_at_call 44; with_reducible refine (refValid_any l _ _ _ (H.out.marks.below hW0) H.out.len).mono ?_; rintro e w1 ⟨he, hB1⟩; rw [VL.out] at he; subst he; have hW1 := below_step hW0 hB1; clear hB1)
    | (go_at_call 44; with_reducible refine (refValid_any m _ _ _ (K0.out.marks.below hW1) K0.out.len).mono ?_; rintro e w2 ⟨he, hB2⟩; rw [VM.out] at he; subst he; have hW2 := below_step hW1 hB2; clear hB2)
    | (go_at_call 50; with_reducible refine (CJ.out _ _ _ _ _ (H.out.marks.below hW2) (K0.out.marks.below hW2)).mono ?_; rintro e w3 ⟨A3, c3, rfl, hO3, hB3⟩; have hW3 := below_step hW2 hB3; clear hB3)
    | (go_at_call 50; with_reducible refine (CJ2.out _ _ _ _ _ (K0.out.marks.below hW3) (H.out.marks.below hW3)).mono ?_; rintro e w4 ⟨A4, c4, rfl, hO4, hB4⟩; have hO3 := hO3.below hB4; have hW4 := below_step hW3 hB4; clear hB4)
    | (go_at_call 45; with_reducible refine (sameCells_same J _ _ _ _ _ hO3.marks hO4.marks LJ.out).mono ?_; rintro e w5 ⟨rfl, hB5⟩; have hO3 := hO3.below hB5; have hW5 := below_step hW4 hB5; clear hB5 hO4)
    | (go_at_call 52; with_reducible refine (CB.out _ _ _ _ _ (H.out.marks.below hW5) (K0.out.marks.below hW5)).mono ?_; rintro e w6 ⟨A6, c6, rfl, hO6, hB6⟩; have hO3 := hO3.below hB6; have hW6 := below_step hW5 hB6; clear hB6)
    | (go_at_call 52; with_reducible refine (CB2.out _ _ _ _ _ (K0.out.marks.below hW6) (H.out.marks.below hW6)).mono ?_; rintro e w7 ⟨A7, c7, rfl, hO7, hB7⟩; have hO3 := hO3.below hB7; have hO6 := hO6.below hB7; have hW7 := below_step hW6 hB7; clear hB7)
    | (go_at_call 45; with_reducible refine (sameCells_same K _ _ _ _ _ hO6.marks hO7.marks LK.out).mono ?_; rintro e w8 ⟨rfl, hB8⟩; have hO3 := hO3.below hB8; have hO6 := hO6.below hB8; have hW8 := below_step hW7 hB8; clear hB8 hO7)
    | (go_at_call 46; with_reducible refine (SA.out _ _ _ (H.out.marks.below hW8)).mono ?_; rintro e w9 ⟨rfl, hB9⟩; have hO3 := hO3.below hB9; have hO6 := hO6.below hB9; have hW9 := below_step hW8 hB9; clear hB9)
    | (go_at_call 46; with_reducible refine (SB.out _ _ _ (K0.out.marks.below hW9)).mono ?_; rintro e w10 ⟨rfl, hB10⟩; have hO3 := hO3.below hB10; have hO6 := hO6.below hB10; have hW10 := below_step hW9 hB10; clear hB10)
    | (go_at_call 46; with_reducible refine (SC.out _ _ _ hO3.marks).mono ?_; rintro e w11 ⟨rfl, hB11⟩; have hO6 := hO6.below hB11; have hW11 := below_step hW10 hB11; clear hB11)
    | (go_at_call 46; with_reducible refine (SD.out _ _ _ hO6.marks).mono ?_; rintro e w12 ⟨rfl, hB12⟩; have hW12 := below_step hW11 hB12; clear hB12)
    | (go_at_call 56; with_reducible refine (CR.out _ _ _ (K0.out.marks.below hW12)).mono ?_; rintro e w13 ⟨A13, c13, rfl, hO13, hB13⟩; have hW13 := below_step hW12 hB13; clear hB13)
    | (go_at_call 28; refine (sane_any _).mono ?_; rintro e w23 ⟨rfl, hB23⟩)
    | fail)
  go_ret
  exact ⟨rfl, below_step hW13 hB23⟩
set_option maxRecDepth 100000 in
set_option maxHeartbeats 2000000 in
theorem rules_040 (l m J K R U _ : List (Int × Int)) (na nb _ _ nr : Nat) (eu : Int) (A : Option Addr) (c : Nat) (B : Option Addr) (d : Nat) (w : World) (H : Hid (Clk w A c l)) (K0 : Hid (Clk w B d m))
    (hlong1 : ¬ 1000 < l.length) (hlong2 : ¬ 1000 < m.length)
    (VL : Hid (vaB l = true)) (VM : Hid (vaB m = true))
    (CJ : Hid (Two 50 l m J 0)) (CJ2 : Hid (Two 50 m l J 0)) (CB : Hid (Two 52 l m K 4)) (CB2 : Hid (Two 52 m l K 4))
    (SA : Hid (Siz l na)) (SB : Hid (Siz m nb)) (_ : na ≤ 3072) (_ : nb ≤ 3072) (LJ : Hid (J.length ≤ maxLen)) (LK : Hid (K.length ≤ maxLen))
    (CR : Hid (One 56 m R 0)) (SR : Hid (Siz R nr)) (CR2 : Hid (One 56 R m 0)) (CW : Hid (Two 54 l m U eu)) (CV : Hid (Two 52 l R U eu)) (hr : nb + nr = 3072) (LU : Hid (U.length ≤ maxLen)) :
    Calls Try.prog 13 #[.slice A l.length c, .slice B m.length d] w fun e w' => e = .returned (.bool true) ∧ Below w.heap.size w w' := by
  have t1 : decide ((1000 : Int) < (l.length : Int)) = false := decide_eq_false (by omega)
  have t2 : decide ((1000 : Int) < (m.length : Int)) = false := decide_eq_false (by omega)
  have hW0 : Below w.heap.size w w := Below.refl _ _
  have tR : ((nb : Int) + (nr : Int)) = 3072 := by omega
  clear hlong1 hlong2
  go_enter Try.func13, Try.ntmps13
  go_wp2_with (first
    | (go_at_call 40; refine (lawLong_any _ _ _ _ _).mono ?_; rintro e w' ⟨rfl, rfl⟩)
    | (go_at_call 44; with_reducible refine (refValid_any l _ _ _ (H.out.marks.below hW0) H.out.len).mono ?_; rintro e w1 ⟨he, hB1⟩; rw [VL.out] at he; subst he; have hW1 := below_step hW0 hB1; clear hB1)
    | (go_at_call 44; with_reducible refine (refValid_any m _ _ _ (K0.out.marks.below hW1) K0.out.len).mono ?_; rintro e w2 ⟨he, hB2⟩; rw [VM.out] at he; subst he; have hW2 := below_step hW1 hB2; clear hB2)
    | (go_at_call 50; with_reducible refine (CJ.out _ _ _ _ _ (H.out.marks.below hW2) (K0.out.marks.below hW2)).mono ?_; rintro e w3 ⟨A3, c3, rfl, hO3, hB3⟩; have hW3 := below_step hW2 hB3; clear hB3)
    | (go_at_call 50; with_reducible refine (CJ2.out _ _ _ _ _ (K0.out.marks.below hW3) (H.out.marks.below hW3)).mono ?_; rintro e w4 ⟨A4, c4, rfl, hO4, hB4⟩; have hO3 := hO3.below hB4; have hW4 := below_step hW3 hB4; clear hB4)
    | (go_at_call 45; with_reducible refine (sameCells_same J _ _ _ _ _ hO3.marks hO4.marks LJ.out).mono ?_; rintro e w5 ⟨rfl, hB5⟩; have hO3 := hO3.below hB5; have hW5 := below_step hW4 hB5; clear hB5 hO4)
    | (go_at_call 52; with_reducible refine (CB.out _ _ _ _ _ (H.out.marks.below hW5) (K0.out.marks.below hW5)).mono ?_; rintro e w6 ⟨A6, c6, rfl, hO6, hB6⟩; have hO3 := hO3.below hB6; have hW6 := below_step hW5 hB6; clear hB6)
    | (go_at_call 52; with_reducible refine (CB2.out _ _ _ _ _ (K0.out.marks.below hW6) (H.out.marks.below hW6)).mono ?_; rintro e w7 ⟨A7, c7, rfl, hO7, hB7⟩; have hO3 := hO3.below hB7; have hO6 := hO6.below hB7; have hW7 := below_step hW6 hB7; clear hB7)
    | (go_at_call 45; with_reducible refine (sameCells_same K _ _ _ _ _ hO6.marks hO7.marks LK.out).mono ?_; rintro e w8 ⟨rfl, hB8⟩; have hO3 := hO3.below hB8; have hO6 := hO6.below hB8; have hW8 := below_step hW7 hB8; clear hB8 hO7)
    | (go_at_call 46; with_reducible refine (SA.out _ _ _ (H.out.marks.below hW8)).mono ?_; rintro e w9 ⟨rfl, hB9⟩; have hO3 := hO3.below hB9; have hO6 := hO6.below hB9; have hW9 := below_step hW8 hB9; clear hB9)
    | (go_at_call 46; with_reducible refine (SB.out _ _ _ (K0.out.marks.below hW9)).mono ?_; rintro e w10 ⟨rfl, hB10⟩; have hO3 := hO3.below hB10; have hO6 := hO6.below hB10; have hW10 := below_step hW9 hB10; clear hB10)
    | (go_at_call 56; with_reducible refine (CR.out _ _ _ (K0.out.marks.below hW10)).mono ?_; rintro e w13 ⟨A13, c13, rfl, hO13, hB13⟩; have hW13 := below_step hW10 hB13; clear hB13)
    | (go_at_call 46; with_reducible refine (SR.out _ _ _ hO13.marks).mono ?_; rintro e w14 ⟨rfl, hB14⟩; have hO13 := hO13.below hB14; have hW14 := below_step hW13 hB14; clear hB14)
    | (go_at_call 56; with_reducible refine (CR2.out _ _ _ hO13.marks).mono ?_; rintro e w15 ⟨A15, c15, rfl, hO15, hB15⟩; have hO13 := hO13.below hB15; have hW15 := below_step hW14 hB15; clear hB15)
    | (go_at_call 54; with_reducible refine (CW.out _ _ _ _ _ (H.out.marks.below hW15) (K0.out.marks.below hW15)).mono ?_; rintro e w16 ⟨A16, c16, rfl, hO16, hB16⟩; have hO13 := hO13.below hB16; have hO15 := hO15.below hB16; have hW16 := below_step hW15 hB16; clear hB16)
    | (go_at_call 52; with_reducible refine (CV.out _ _ _ _ _ (H.out.marks.below hW16) hO13.marks).mono ?_; rintro e w17 ⟨A17, c17, rfl, hO17, hB17⟩; have hO15 := hO15.below hB17; have hO16 := hO16.below hB17; have hW17 := below_step hW16 hB17; clear hB17)
    | (go_at_call 45; with_reducible refine (sameCells_same m _ _ _ _ _ hO15.marks (K0.out.marks.below hW17) K0.out.len).mono ?_; rintro e w18 ⟨rfl, hB18⟩; have hO16 := hO16.below hB18; have hO17 := hO17.below hB18; have hW18 := below_step hW17 hB18; clear hB18)
    | (go_at_call 45; with_reducible refine (sameCells_same U _ _ _ _ _ hO16.marks hO17.marks LU.out).mono ?_; rintro e w19 ⟨rfl, hB19⟩; have hW19 := below_step hW18 hB19; clear hB19)
    | (go_at_call 28; refine (sane_any _).mono ?_; rintro e w23 ⟨rfl, hB23⟩)
    | fail)
  go_ret
  exact ⟨rfl, below_step hW19 hB23⟩
set_option maxRecDepth 100000 in
set_option maxHeartbeats 2000000 in
theorem rules_044 (l m J K _ _ _ : List (Int × Int)) (na nb _ _ _ : Nat) (_ : Int) (A : Option Addr) (c : Nat) (B : Option Addr) (d : Nat) (w : World) (H : Hid (Clk w A c l)) (K0 : Hid (Clk w B d m))
    (hlong1 : ¬ 1000 < l.length) (hlong2 : ¬ 1000 < m.length)
    (VL : Hid (vaB l = true)) (VM : Hid (vaB m = true))
    (CJ : Hid (Two 50 l m J 0)) (CJ2 : Hid (Two 50 m l J 0)) (CB : Hid (Two 52 l m K 4)) (CB2 : Hid (Two 52 m l K 4))
    (SA : Hid (Siz l na)) (SB : Hid (Siz m nb)) (_ : na ≤ 3072) (_ : nb ≤ 3072) (LJ : Hid (J.length ≤ maxLen)) (LK : Hid (K.length ≤ maxLen))
    (CR : Hid (One 56 m [] 4)) :
    Calls Try.prog 13 #[.slice A l.length c, .slice B m.length d] w fun e w' => e = .returned (.bool true) ∧ Below w.heap.size w w' := by
  have t1 : decide ((1000 : Int) < (l.length : Int)) = false := decide_eq_false (by omega)
  have t2 : decide ((1000 : Int) < (m.length : Int)) = false := decide_eq_false (by omega)
  have hW0 : Below w.heap.size w w := Below.refl _ _
  clear hlong1 hlong2
  go_enter Try.func13, Try.ntmps13
  go_wp2_with (first
    | (go_at_call 40; refine (lawLong_any _ _ _ _ _).mono ?_; rintro e w' ⟨rfl, rfl⟩)
    | (go_at_call 44; with_reducible refine (refValid_any l _ _ _ (H.out.marks.below hW0) H.out.len).mono ?_; rintro e w1 ⟨he, hB1⟩; rw [VL.out] at he; subst he; have hW1 := below_step hW0 hB1; clear hB1)
    | (go_at_call 44; with_reducible refine (refValid_any m _ _ _ (K0.out.marks.below hW1) K0.out.len).mono ?_; rintro e w2 ⟨he, hB2⟩; rw [VM.out] at he; subst he; have hW2 := below_step hW1 hB2; clear hB2)
    | (go_at_call 50; with_reducible refine (CJ.out _ _ _ _ _ (H.out.marks.below hW2) (K0.out.marks.below hW2)).mono ?_; rintro e w3 ⟨A3, c3, rfl, hO3, hB3⟩; have hW3 := below_step hW2 hB3; clear hB3)
    | (go_at_call 50; with_reducible refine (CJ2.out _ _ _ _ _ (K0.out.marks.below hW3) (H.out.marks.below hW3)).mono ?_; rintro e w4 ⟨A4, c4, rfl, hO4, hB4⟩; have hO3 := hO3.below hB4; have hW4 := below_step hW3 hB4; clear hB4)
    | (go_at_call 45; with_reducible refine (sameCells_same J _ _ _ _ _ hO3.marks hO4.marks LJ.out).mono ?_; rintro e w5 ⟨rfl, hB5⟩; have hO3 := hO3.below hB5; have hW5 := below_step hW4 hB5; clear hB5 hO4)
    | (go_at_call 52; with_reducible refine (CB.out _ _ _ _ _ (H.out.marks.below hW5) (K0.out.marks.below hW5)).mono ?_; rintro e w6 ⟨A6, c6, rfl, hO6, hB6⟩; have hO3 := hO3.below hB6; have hW6 := below_step hW5 hB6; clear hB6)
    | (go_at_call 52; with_reducible refine (CB2.out _ _ _ _ _ (K0.out.marks.below hW6) (H.out.marks.below hW6)).mono ?_; rintro e w7 ⟨A7, c7, rfl, hO7, hB7⟩; have hO3 := hO3.below hB7; have hO6 := hO6.below hB7; have hW7 := below_step hW6 hB7; clear hB7)
    | (go_at_call 45; with_reducible refine (sameCells_same K _ _ _ _ _ hO6.marks hO7.marks LK.out).mono ?_; rintro e w8 ⟨rfl, hB8⟩; have hO3 := hO3.below hB8; have hO6 := hO6.below hB8; have hW8 := below_step hW7 hB8; clear hB8 hO7)
    | (go_at_call 46; with_reducible refine (SA.out _ _ _ (H.out.marks.below hW8)).mono ?_; rintro e w9 ⟨rfl, hB9⟩; have hO3 := hO3.below hB9; have hO6 := hO6.below hB9; have hW9 := below_step hW8 hB9; clear hB9)
    | (go_at_call 46; with_reducible refine (SB.out _ _ _ (K0.out.marks.below hW9)).mono ?_; rintro e w10 ⟨rfl, hB10⟩; have hO3 := hO3.below hB10; have hO6 := hO6.below hB10; have hW10 := below_step hW9 hB10; clear hB10)
    | (go_at_call 56; with_reducible refine (CR.out _ _ _ (K0.out.marks.below hW10)).mono ?_; rintro e w13 ⟨A13, c13, rfl, hO13, hB13⟩; have hW13 := below_step hW10 hB13; clear hB13)
    | (go_at_call 28; refine (sane_any _).mono ?_; rintro e w23 ⟨rfl, hB23⟩)
    | fail)
  go_ret
  exact ⟨rfl, below_step hW13 hB23⟩
set_option maxRecDepth 100000 in
set_option maxHeartbeats 2000000 in
theorem rules_400 (l m J K R U _ : List (Int × Int)) (na nb _ _ nr : Nat) (eu : Int) (A : Option Addr) (c : Nat) (B : Option Addr) (d : Nat) (w : World) (H : Hid (Clk w A c l)) (K0 : Hid (Clk w B d m))
    (hlong1 : ¬ 1000 < l.length) (hlong2 : ¬ 1000 < m.length)
    (VL : Hid (vaB l = true)) (VM : Hid (vaB m = true))
    (CJ : Hid (Two 50 l m J 4)) (CJ2 : Hid (Two 50 m l J 4)) (CB : Hid (Two 52 l m K 0)) (CB2 : Hid (Two 52 m l K 0))
    (SA : Hid (Siz l na)) (SB : Hid (Siz m nb)) (_ : na ≤ 3072) (_ : nb ≤ 3072) (LJ : Hid (J.length ≤ maxLen)) (LK : Hid (K.length ≤ maxLen))
    (CR : Hid (One 56 m R 0)) (SR : Hid (Siz R nr)) (CR2 : Hid (One 56 R m 0)) (CW : Hid (Two 54 l m U eu)) (CV : Hid (Two 52 l R U eu)) (hr : nb + nr = 3072) (LU : Hid (U.length ≤ maxLen)) :
    Calls Try.prog 13 #[.slice A l.length c, .slice B m.length d] w fun e w' => e = .returned (.bool true) ∧ Below w.heap.size w w' := by
  have t1 : decide ((1000 : Int) < (l.length : Int)) = false := decide_eq_false (by omega)
  have t2 : decide ((1000 : Int) < (m.length : Int)) = false := decide_eq_false (by omega)
  have hW0 : Below w.heap.size w w := Below.refl _ _
  have tR : ((nb : Int) + (nr : Int)) = 3072 := by omega
  clear hlong1 hlong2
  go_enter Try.func13, Try.ntmps13
  go_wp2_with (first
    | (go_at_call 40; refine (lawLong_any _ _ _ _ _).mono ?_; rintro e w' ⟨rfl, rfl⟩)
    | (go_at_call 44; with_reducible refine (refValid_any l _ _ _ (H.out.marks.below hW0) H.out.len).mono ?_; rintro e w1 ⟨he, hB1⟩; rw [VL.out] at he; subst he; have hW1 := below_step hW0 hB1; clear hB1)
    | (go_at_call 44; with_reducible refine (refValid_any m _ _ _ (K0.out.marks.below hW1) K0.out.len).mono ?_; rintro e w2 ⟨he, hB2⟩; rw [VM.out] at he; subst he; have hW2 := below_step hW1 hB2; clear hB2)
    | (go_at_call 50; with_reducible refine (CJ.out _ _ _ _ _ (H.out.marks.below hW2) (K0.out.marks.below hW2)).mono ?_; rintro e w3 ⟨A3, c3, rfl, hO3, hB3⟩; have hW3 := below_step hW2 hB3; clear hB3)
    | (go_at_call 50; with_reducible refine (CJ2.out _ _ _ _ _ (K0.out.marks.below hW3) (H.out.marks.below hW3)).mono ?_; rintro e w4 ⟨A4, c4, rfl, hO4, hB4⟩; have hO3 := hO3.below hB4; have hW4 := below_step hW3 hB4; clear hB4)
    | (go_at_call 45; with_reducible refine (sameCells_same J _ _ _ _ _ hO3.marks hO4.marks LJ.out).mono ?_; rintro e w5 ⟨rfl, hB5⟩; have hO3 := hO3.below hB5; have hW5 := below_step hW4 hB5; clear hB5 hO4)
    | (go_at_call 52; with_reducible refine (CB.out _ _ _ _ _ (H.out.marks.below hW5) (K0.out.marks.below hW5)).mono ?_; rintro e w6 ⟨A6, c6, rfl, hO6, hB6⟩; have hO3 := hO3.below hB6; have hW6 := below_step hW5 hB6; clear hB6)
    | (go_at_call 52; with_reducible refine (CB2.out _ _ _ _ _ (K0.out.marks.below hW6) (H.out.marks.below hW6)).mono ?_; rintro e w7 ⟨A7, c7, rfl, hO7, hB7⟩; have hO3 := hO3.below hB7; have hO6 := hO6.below hB7; have hW7 := below_step hW6 hB7; clear hB7)
    | (go_at_call 45; with_reducible refine (sameCells_same K _ _ _ _ _ hO6.marks hO7.marks LK.out).mono ?_; rintro e w8 ⟨rfl, hB8⟩; have hO3 := hO3.below hB8; have hO6 := hO6.below hB8; have hW8 := below_step hW7 hB8; clear hB8 hO7)
    | (go_at_call 46; with_reducible refine (SA.out _ _ _ (H.out.marks.below hW8)).mono ?_; rintro e w9 ⟨rfl, hB9⟩; have hO3 := hO3.below hB9; have hO6 := hO6.below hB9; have hW9 := below_step hW8 hB9; clear hB9)
    | (go_at_call 46; with_reducible refine (SB.out _ _ _ (K0.out.marks.below hW9)).mono ?_; rintro e w10 ⟨rfl, hB10⟩; have hO3 := hO3.below hB10; have hO6 := hO6.below hB10; have hW10 := below_step hW9 hB10; clear hB10)
    | (go_at_call 56; with_reducible refine (CR.out _ _ _ (K0.out.marks.below hW10)).mono ?_; rintro e w13 ⟨A13, c13, rfl, hO13, hB13⟩; have hW13 := below_step hW10 hB13; clear hB13)
    | (go_at_call 46; with_reducible refine (SR.out _ _ _ hO13.marks).mono ?_; rintro e w14 ⟨rfl, hB14⟩; have hO13 := hO13.below hB14; have hW14 := below_step hW13 hB14; clear hB14)
    | (go_at_call 56; with_reducible refine (CR2.out _ _ _ hO13.marks).mono ?_; rintro e w15 ⟨A15, c15, rfl, hO15, hB15⟩; have hO13 := hO13.below hB15; have hW15 := below_step hW14 hB15; clear hB15)
    | (go_at_call 54; with_reducible refine (CW.out _ _ _ _ _ (H.out.marks.below hW15) (K0.out.marks.below hW15)).mono ?_; rintro e w16 ⟨A16, c16, rfl, hO16, hB16⟩; have hO13 := hO13.below hB16; have hO15 := hO15.below hB16; have hW16 := below_step hW15 hB16; clear hB16)
    | (go_at_call 52; with_reducible refine (CV.out _ _ _ _ _ (H.out.marks.below hW16) hO13.marks).mono ?_; rintro e w17 ⟨A17, c17, rfl, hO17, hB17⟩; have hO15 := hO15.below hB17; have hO16 := hO16.below hB17; have hW17 := below_step hW16 hB17; clear hB17)
    | (go_at_call 45; with_reducible refine (sameCells_same m _ _ _ _ _ hO15.marks (K0.out.marks.below hW17) K0.out.len).mono ?_; rintro e w18 ⟨rfl, hB18⟩; have hO16 := hO16.below hB18; have hO17 := hO17.below hB18; have hW18 := below_step hW17 hB18; clear hB18)
    | (go_at_call 45; with_reducible refine (sameCells_same U _ _ _ _ _ hO16.marks hO17.marks LU.out).mono ?_; rintro e w19 ⟨rfl, hB19⟩; have hW19 := below_step hW18 hB19; clear hB19)
    | (go_at_call 28; refine (sane_any _).mono ?_; rintro e w23 ⟨rfl, hB23⟩)
    | fail)
  go_ret
  exact ⟨rfl, below_step hW19 hB23⟩
set_option maxRecDepth 100000 in
set_option maxHeartbeats 2000000 in
theorem rules_404 (l m J K _ _ _ : List (Int × Int)) (na nb _ _ _ : Nat) (_ : Int) (A : Option Addr) (c : Nat) (B : Option Addr) (d : Nat) (w : World) (H : Hid (Clk w A c l)) (K0 : Hid (Clk w B d m))
    (hlong1 : ¬ 1000 < l.length) (hlong2 : ¬ 1000 < m.length)
    (VL : Hid (vaB l = true)) (VM : Hid (vaB m = true))
    (CJ : Hid (Two 50 l m J 4)) (CJ2 : Hid (Two 50 m l J 4)) (CB : Hid (Two 52 l m K 0)) (CB2 : Hid (Two 52 m l K 0))
    (SA : Hid (Siz l na)) (SB : Hid (Siz m nb)) (_ : na ≤ 3072) (_ : nb ≤ 3072) (LJ : Hid (J.length ≤ maxLen)) (LK : Hid (K.length ≤ maxLen))
    (CR : Hid (One 56 m [] 4)) :
    Calls Try.prog 13 #[.slice A l.length c, .slice B m.length d] w fun e w' => e = .returned (.bool true) ∧ Below w.heap.size w w' := by
  have t1 : decide ((1000 : Int) < (l.length : Int)) = false := decide_eq_false (by omega)
  have t2 : decide ((1000 : Int) < (m.length : Int)) = false := decide_eq_false (by omega)
  have hW0 : Below w.heap.size w w := Below.refl _ _
  clear hlong1 hlong2
  go_enter Try.func13, Try.ntmps13
  go_wp2_with (first
    | (go_at_call 40; refine (lawLong_any _ _ _ _ _).mono ?_; rintro e w' ⟨rfl, rfl⟩)
    | (go_at_call 44; with_reducible refine (refValid_any l _ _ _ (H.out.marks.below hW0) H.out.len).mono ?_; rintro e w1 ⟨he, hB1⟩; rw [VL.out] at he; subst he; have hW1 := below_step hW0 hB1; clear hB1)
    | (go_at_call 44; with_reducible refine (refValid_any m _ _ _ (K0.out.marks.below hW1) K0.out.len).mono ?_; rintro e w2 ⟨he, hB2⟩; rw [VM.out] at he; subst he; have hW2 := below_step hW1 hB2; clear hB2)
    | (go_at_call 50; with_reducible refine (CJ.out _ _ _ _ _ (H.out.marks.below hW2) (K0.out.marks.below hW2)).mono ?_; rintro e w3 ⟨A3, c3, rfl, hO3, hB3⟩; have hW3 := below_step hW2 hB3; clear hB3)
    | (go_at_call 50; with_reducible refine (CJ2.out _ _ _ _ _ (K0.out.marks.below hW3) (H.out.marks.below hW3)).mono ?_; rintro e w4 ⟨A4, c4, rfl, hO4, hB4⟩; have hO3 := hO3.below hB4; have hW4 := below_step hW3 hB4; clear hB4)
    | (go_at_call 45; with_reducible refine (sameCells_same J _ _ _ _ _ hO3.marks hO4.marks LJ.out).mono ?_; rintro e w5 ⟨rfl, hB5⟩; have hO3 := hO3.below hB5; have hW5 := below_step hW4 hB5; clear hB5 hO4)
    | (go_at_call 52; with_reducible refine (CB.out _ _ _ _ _ (H.out.marks.below hW5) (K0.out.marks.below hW5)).mono ?_; rintro e w6 ⟨A6, c6, rfl, hO6, hB6⟩; have hO3 := hO3.below hB6; have hW6 := below_step hW5 hB6; clear hB6)
    | (go_at_call 52; with_reducible refine (CB2.out _ _ _ _ _ (K0.out.marks.below hW6) (H.out.marks.below hW6)).mono ?_; rintro e w7 ⟨A7, c7, rfl, hO7, hB7⟩; have hO3 := hO3.below hB7; have hO6 := hO6.below hB7; have hW7 := below_step hW6 hB7; clear hB7)
    | (go_at_call 45; with_reducible refine (sameCells_same K _ _ _ _ _ hO6.marks hO7.marks LK.out).mono ?_; rintro e w8 ⟨rfl, hB8⟩; have hO3 := hO3.below hB8; have hO6 := hO6.below hB8; have hW8 := below_step hW7 hB8; clear hB8 hO7)
    | (go_at_call 46; with_reducible refine (SA.out _ _ _ (H.out.marks.below hW8)).mono ?_; rintro e w9 ⟨rfl, hB9⟩; have hO3 := hO3.below hB9; have hO6 := hO6.below hB9; have hW9 := below_step hW8 hB9; clear hB9)
    | (go_at_call 46; with_reducible refine (SB.out _ _ _ (K0.out.marks.below hW9)).mono ?_; rintro e w10 ⟨rfl, hB10⟩; have hO3 := hO3.below hB10; have hO6 := hO6.below hB10; have hW10 := below_step hW9 hB10; clear hB10)
    | (go_at_call 56; with_reducible refine (CR.out _ _ _ (K0.out.marks.below hW10)).mono ?_; rintro e w13 ⟨A13, c13, rfl, hO13, hB13⟩; have hW13 := below_step hW10 hB13; clear hB13)
    | (go_at_call 28; refine (sane_any _).mono ?_; rintro e w23 ⟨rfl, hB23⟩)
    | fail)
  go_ret
  exact ⟨rfl, below_step hW13 hB23⟩
set_option maxRecDepth 100000 in
set_option maxHeartbeats 2000000 in
theorem rules_440 (l m J K R U _ : List (Int × Int)) (na nb _ _ nr : Nat) (eu : Int) (A : Option Addr) (c : Nat) (B : Option Addr) (d : Nat) (w : World) (H : Hid (Clk w A c l)) (K0 : Hid (Clk w B d m))
    (hlong1 : ¬ 1000 < l.length) (hlong2 : ¬ 1000 < m.length)
    (VL : Hid (vaB l = true)) (VM : Hid (vaB m = true))
    (CJ : Hid (Two 50 l m J 4)) (CJ2 : Hid (Two 50 m l J 4)) (CB : Hid (Two 52 l m K 4)) (CB2 : Hid (Two 52 m l K 4))
    (SA : Hid (Siz l na)) (SB : Hid (Siz m nb)) (_ : na ≤ 3072) (_ : nb ≤ 3072) (LJ : Hid (J.length ≤ maxLen)) (LK : Hid (K.length ≤ maxLen))
    (CR : Hid (One 56 m R 0)) (SR : Hid (Siz R nr)) (CR2 : Hid (One 56 R m 0)) (CW : Hid (Two 54 l m U eu)) (CV : Hid (Two 52 l R U eu)) (hr : nb + nr = 3072) (LU : Hid (U.length ≤ maxLen)) :
    Calls Try.prog 13 #[.slice A l.length c, .slice B m.length d] w fun e w' => e = .returned (.bool true) ∧ Below w.heap.size w w' := by
  have t1 : decide ((1000 : Int) < (l.length : Int)) = false := decide_eq_false (by omega)
  have t2 : decide ((1000 : Int) < (m.length : Int)) = false := decide_eq_false (by omega)
  have hW0 : Below w.heap.size w w := Below.refl _ _
  have tR : ((nb : Int) + (nr : Int)) = 3072 := by omega
  clear hlong1 hlong2
  go_enter Try.func13, Try.ntmps13
  go_wp2_with (first
    | (go_at_call 40; refine (lawLong_any _ _ _ _ _).mono ?_; rintro e w' ⟨rfl, rfl⟩)
    | (go_at_call 44; with_reducible refine (refValid_any l _ _ _ (H.out.marks.below hW0) H.out.len).mono ?_; rintro e w1 ⟨he, hB1⟩; rw [VL.out] at he; subst he; have hW1 := below_step hW0 hB1; clear hB1)
    | (go_at_call 44; with_reducible refine (refValid_any m _ _ _ (K0.out.marks.below hW1) K0.out.len).mono ?_; rintro e w2 ⟨he, hB2⟩; rw [VM.out] at he; subst he; have hW2 := below_step hW1 hB2; clear hB2)
    | (go_at_call 50; with_reducible refine (CJ.out _ _ _ _ _ (H.out.marks.below hW2) (K0.out.marks.below hW2)).mono ?_; rintro e w3 ⟨A3, c3, rfl, hO3, hB3⟩; have hW3 := below_step hW2 hB3; clear hB3)
    | (go_at_call 50; with_reducible refine (CJ2.out _ _ _ _ _ (K0.out.marks.below hW3) (H.out.marks.below hW3)).mono ?_; rintro e w4 ⟨A4, c4, rfl, hO4, hB4⟩; have hO3 := hO3.below hB4; have hW4 := below_step hW3 hB4; clear hB4)
    | (go_at_call 45; with_reducible refine (sameCells_same J _ _ _ _ _ hO3.marks hO4.marks LJ.out).mono ?_; rintro e w5 ⟨rfl, hB5⟩; have hO3 := hO3.below hB5; have hW5 := below_step hW4 hB5; clear hB5 hO4)
    | (go_at_call 52; with_reducible refine (CB.out _ _ _ _ _ (H.out.marks.below hW5) (K0.out.marks.below hW5)).mono ?_; rintro e w6 ⟨A6, c6, rfl, hO6, hB6⟩; have hO3 := hO3.below hB6; have hW6 := below_step hW5 hB6; clear hB6)
    | (go_at_call 52; with_reducible refine (CB2.out _ _ _ _ _ (K0.out.marks.below hW6) (H.out.marks.below hW6)).mono ?_; rintro e w7 ⟨A7, c7, rfl, hO7, hB7⟩; have hO3 := hO3.below hB7; have hO6 := hO6.below hB7; have hW7 := below_step hW6 hB7; clear hB7)
    | (go_at_call 45; with_reducible refine (sameCells_same K _ _ _ _ _ hO6.marks hO7.marks LK.out).mono ?_; rintro e w8 ⟨rfl, hB8⟩; have hO3 := hO3.below hB8; have hO6 := hO6.below hB8; have hW8 := below_step hW7 hB8; clear hB8 hO7)
    | (go_at_call 46; with_reducible refine (SA.out _ _ _ (H.out.marks.below hW8)).mono ?_; rintro e w9 ⟨rfl, hB9⟩; have hO3 := hO3.below hB9; have hO6 := hO6.below hB9; have hW9 := below_step hW8 hB9; clear hB9)
    | (go_at_call 46; with_reducible refine (SB.out _ _ _ (K0.out.marks.below hW9)).mono ?_; rintro e w10 ⟨rfl, hB10⟩; have hO3 := hO3.below hB10; have hO6 := hO6.below hB10; have hW10 := below_step hW9 hB10; clear hB10)
    | (go_at_call 56; with_reducible refine (CR.out _ _ _ (K0.out.marks.below hW10)).mono ?_; rintro e w13 ⟨A13, c13, rfl, hO13, hB13⟩; have hW13 := below_step hW10 hB13; clear hB13)
    | (go_at_call 46; with_reducible refine (SR.out _ _ _ hO13.marks).mono ?_; rintro e w14 ⟨rfl, hB14⟩; have hO13 := hO13.below hB14; have hW14 := below_step hW13 hB14; clear hB14)
    | (go_at_call 56; with_reducible refine (CR2.out _ _ _ hO13.marks).mono ?_; rintro e w15 ⟨A15, c15, rfl, hO15, hB15⟩; have hO13 := hO13.below hB15; have hW15 := below_step hW14 hB15; clear hB15)
    | (go_at_call 54; with_reducible refine (CW.out _ _ _ _ _ (H.out.marks.below hW15) (K0.out.marks.below hW15)).mono ?_; rintro e w16 ⟨A16, c16, rfl, hO16, hB16⟩; have hO13 := hO13.below hB16; have hO15 := hO15.below hB16; have hW16 := below_step hW15 hB16; clear hB16)
    | (go_at_call 52; with_reducible refine (CV.out _ _ _ _ _ (H.out.marks.below hW16) hO13.marks).mono ?_; rintro e w17 ⟨A17, c17, rfl, hO17, hB17⟩; have hO15 := hO15.below hB17; have hO16 := hO16.below hB17; have hW17 := below_step hW16 hB17; clear hB17)
    | (go_at_call 45; with_reducible refine (sameCells_same m _ _ _ _ _ hO15.marks (K0.out.marks.below hW17) K0.out.len).mono ?_; rintro e w18 ⟨rfl, hB18⟩; have hO16 := hO16.below hB18; have hO17 := hO17.below hB18; have hW18 := below_step hW17 hB18; clear hB18)
    | (go_at_call 45; with_reducible refine (sameCells_same U _ _ _ _ _ hO16.marks hO17.marks LU.out).mono ?_; rintro e w19 ⟨rfl, hB19⟩; have hW19 := below_step hW18 hB19; clear hB19)
    | (go_at_call 28; refine (sane_any _).mono ?_; rintro e w23 ⟨rfl, hB23⟩)
    | fail)
  go_ret
  exact ⟨rfl, below_step hW19 hB23⟩
set_option maxRecDepth 100000 in
set_option maxHeartbeats 2000000 in
theorem rules_444 (l m J K _ _ _ : List (Int × Int)) (na nb _ _ _ : Nat) (_ : Int) (A : Option Addr) (c : Nat) (B : Option Addr) (d : Nat) (w : World) (H : Hid (Clk w A c l)) (K0 : Hid (Clk w B d m))
    (hlong1 : ¬ 1000 < l.length) (hlong2 : ¬ 1000 < m.length)
    (VL : Hid (vaB l = true)) (VM : Hid (vaB m = true))
    (CJ : Hid (Two 50 l m J 4)) (CJ2 : Hid (Two 50 m l J 4)) (CB : Hid (Two 52 l m K 4)) (CB2 : Hid (Two 52 m l K 4))
    (SA : Hid (Siz l na)) (SB : Hid (Siz m nb)) (_ : na ≤ 3072) (_ : nb ≤ 3072) (LJ : Hid (J.length ≤ maxLen)) (LK : Hid (K.length ≤ maxLen))
    (CR : Hid (One 56 m [] 4)) :
    Calls Try.prog 13 #[.slice A l.length c, .slice B m.length d] w fun e w' => e = .returned (.bool true) ∧ Below w.heap.size w w' := by
  have t1 : decide ((1000 : Int) < (l.length : Int)) = false := decide_eq_false (by omega)
  have t2 : decide ((1000 : Int) < (m.length : Int)) = false := decide_eq_false (by omega)
  have hW0 : Below w.heap.size w w := Below.refl _ _
  clear hlong1 hlong2
  go_enter Try.func13, Try.ntmps13
  go_wp2_with (first
    | (go_at_call 40; refine (lawLong_any _ _ _ _ _).mono ?_; rintro e w' ⟨rfl, rfl⟩)
    | (go_at_call 44; with_reducible refine (refValid_any l _ _ _ (H.out.marks.below hW0) H.out.len).mono ?_; rintro e w1 ⟨he, hB1⟩; rw [VL.out] at he; subst he; have hW1 := below_step hW0 hB1; clear hB1)
    | (go_at_call 44; with_reducible refine (refValid_any m _ _ _ (K0.out.marks.below hW1) K0.out.len).mono ?_; rintro e w2 ⟨he, hB2⟩; rw [VM.out] at he; subst he; have hW2 := below_step hW1 hB2; clear hB2)
    | (go_at_call 50; with_reducible refine (CJ.out _ _ _ _ _ (H.out.marks.below hW2) (K0.out.marks.below hW2)).mono ?_; rintro e w3 ⟨A3, c3, rfl, hO3, hB3⟩; have hW3 := below_step hW2 hB3; clear hB3)
    | (go_at_call 50; with_reducible refine (CJ2.out _ _ _ _ _ (K0.out.marks.below hW3) (H.out.marks.below hW3)).mono ?_; rintro e w4 ⟨A4, c4, rfl, hO4, hB4⟩; have hO3 := hO3.below hB4; have hW4 := below_step hW3 hB4; clear hB4)
    | (go_at_call 45; with_reducible refine (sameCells_same J _ _ _ _ _ hO3.marks hO4.marks LJ.out).mono ?_; rintro e w5 ⟨rfl, hB5⟩; have hO3 := hO3.below hB5; have hW5 := below_step hW4 hB5; clear hB5 hO4)
    | (go_at_call 52; with_reducible refine (CB.out _ _ _ _ _ (H.out.marks.below hW5) (K0.out.marks.below hW5)).mono ?_; rintro e w6 ⟨A6, c6, rfl, hO6, hB6⟩; have hO3 := hO3.below hB6; have hW6 := below_step hW5 hB6; clear hB6)
    | (go_at_call 52; with_reducible refine (CB2.out _ _ _ _ _ (K0.out.marks.below hW6) (H.out.marks.below hW6)).mono ?_; rintro e w7 ⟨A7, c7, rfl, hO7, hB7⟩; have hO3 := hO3.below hB7; have hO6 := hO6.below hB7; have hW7 := below_step hW6 hB7; clear hB7)
    | (go_at_call 45; with_reducible refine (sameCells_same K _ _ _ _ _ hO6.marks hO7.marks LK.out).mono ?_; rintro e w8 ⟨rfl, hB8⟩; have hO3 := hO3.below hB8; have hO6 := hO6.below hB8; have hW8 := below_step hW7 hB8; clear hB8 hO7)
    | (go_at_call 46; with_reducible refine (SA.out _ _ _ (H.out.marks.below hW8)).mono ?_; rintro e w9 ⟨rfl, hB9⟩; have hO3 := hO3.below hB9; have hO6 := hO6.below hB9; have hW9 := below_step hW8 hB9; clear hB9)
    | (go_at_call 46; with_reducible refine (SB.out _ _ _ (K0.out.marks.below hW9)).mono ?_; rintro e w10 ⟨rfl, hB10⟩; have hO3 := hO3.below hB10; have hO6 := hO6.below hB10; have hW10 := below_step hW9 hB10; clear hB10)
    | (go_at_call 56; with_reducible refine (CR.out _ _ _ (K0.out.marks.below hW10)).mono ?_; rintro e w13 ⟨A13, c13, rfl, hO13, hB13⟩; have hW13 := below_step hW10 hB13; clear hB13)
    | (go_at_call 28; refine (sane_any _).mono ?_; rintro e w23 ⟨rfl, hB23⟩)
    | fail)
  go_ret
  exact ⟨rfl, below_step hW13 hB23⟩

set_option maxRecDepth 100000 in
set_option maxHeartbeats 2000000 in
theorem skyRules_walk (l : List (Int × Int)) (A : Option Addr) (c : Nat) (m : List (Int × Int)) (B : Option Addr) (d : Nat) (w : World) (hA : Marks w A l) (hc : l.length ≤ c) (hc0 : c ≤ maxLen) (hB : Marks w B m) (hd : m.length ≤ d) (hd0 : d ≤ maxLen) :
    Calls Try.prog 13 #[.slice A l.length c, .slice B m.length d] w fun e w' => e = .returned (.bool true) ∧ Below w.heap.size w w' := by
  have H : Hid (Clk w A c l) := ⟨hA, hc, hc0⟩
  have K : Hid (Clk w B d m) := ⟨hB, hd, hd0⟩
  clear hA hc hc0 hB hd hd0
  have hW0 : Below w.heap.size w w := Below.refl _ _
  by_cases h1 : 1000 < l.length
  · have t1 : decide ((1000 : Int) < (l.length : Int)) = true := decide_eq_true (by omega)
    go_enter Try.func13, Try.ntmps13
    go_wp2_with (first
      | (go_at_call 40; refine (lawLong_any _ _ _ _ _).mono ?_; rintro e w' ⟨rfl, rfl⟩)
      | (go_at_call 28; refine (sane_any _).mono ?_; rintro e w9 ⟨rfl, hB9⟩))
    go_ret
    exact ⟨rfl, hB9⟩
  have t1 : decide ((1000 : Int) < (l.length : Int)) = false := decide_eq_false (by omega)
  by_cases h2 : 1000 < m.length
  · have t2 : decide ((1000 : Int) < (m.length : Int)) = true := decide_eq_true (by omega)
    go_enter Try.func13, Try.ntmps13
    go_wp2_with (first
      | (go_at_call 40; refine (lawLong_any _ _ _ _ _).mono ?_; rintro e w' ⟨rfl, rfl⟩)
      | (go_at_call 28; refine (sane_any _).mono ?_; rintro e w9 ⟨rfl, hB9⟩))
    go_ret
    exact ⟨rfl, hB9⟩
  have t2 : decide ((1000 : Int) < (m.length : Int)) = false := decide_eq_false (by omega)
  have hvl := H.out.len
  have hvm := K.out.len
  cases hl : vaB l with
  | false =>
    have VL := Lib.hid hl
    clear hl h1 h2 hvl hvm
    go_enter Try.func13, Try.ntmps13
    go_wp2_with (first
      | (go_at_call 40; refine (lawLong_any _ _ _ _ _).mono ?_; rintro e w' ⟨rfl, rfl⟩)
      | (go_at_call 44; with_reducible refine (refValid_any l _ _ _ (H.out.marks.below hW0) H.out.len).mono ?_; rintro e w1 ⟨he, hB1⟩; rw [VL.out] at he; subst he)
      | (go_at_call 28; refine (sane_any _).mono ?_; rintro e w9 ⟨rfl, hB9⟩)
      | fail)
    go_ret
    exact ⟨rfl, below_step hB1 hB9⟩
  | true =>
  cases hm : vaB m with
  | false =>
    have VL := Lib.hid hl
    have VM := Lib.hid hm
    clear hl hm h1 h2 hvl hvm
    go_enter Try.func13, Try.ntmps13
    go_wp2_with (first
      | (go_at_call 40; refine (lawLong_any _ _ _ _ _).mono ?_; rintro e w' ⟨rfl, rfl⟩)
      | (go_at_call 44; with_reducible refine (refValid_any l _ _ _ (H.out.marks.below hW0) H.out.len).mono ?_; rintro e w1 ⟨he, hB1⟩; rw [VL.out] at he; subst he)
      | (go_at_call 44; with_reducible refine (refValid_any m _ _ _ (K.out.marks.below hB1) K.out.len).mono ?_; rintro e w2 ⟨he, hB2⟩; rw [VM.out] at he; subst he)
      | (go_at_call 28; refine (sane_any _).mono ?_; rintro e w9 ⟨rfl, hB9⟩)
      | fail)
    go_ret
    exact ⟨rfl, below_step (below_step hB1 hB2) hB9⟩
  | true =>
  clear t1 t2
  have cj := two_join hvl hvm
  have cj2 := two_join hvm hvl
  have cb := two_both hvl hvm
  have cb2 := two_both hvm hvl
  have cw := two_less hvl hvm
  have cr := one_rest hvm
  have eo := stL_congr (P := mxP orB m l) (R := mxP orB l m) (fun q _ => by simp [mxP, orB, Bool.or_comm])
  have ea := stL_congr (P := mxP andB m l) (R := mxP andB l m) (fun q _ => by simp [mxP, andB, Bool.and_comm])
  rw [(mx_st hl hm).1, (mx_st hl hm).2] at cj cb cw
  rw [(mx_st hm hl).1, (mx_st hm hl).2] at cj2 cb2
  rw [eo.1, eo.2] at cj2
  rw [ea.1, ea.2] at cb2
  rw [(rs_st hm).1, (rs_st hm).2] at cr
  have sa := siz_va hl hvl
  have sb := siz_va hm hvm
  have hna := cnt_le (inL l) 3072
  have hnb := cnt_le (inL m) 3072
  have lj := stL_max (mxP orB l m)
  have lk := stL_max (mxP andB l m)
  have lu := stL_max (mxP lessB l m)
  have hsum : cntP (inL l) 3072 + cntP (inL m) 3072 = cntP (mxP orB l m) 3072 + cntP (mxP andB l m) 3072 := (cnt_or (inL l) (inL m) 3072).symm
  have hrest : cntP (inL m) 3072 + cntP (rsP m) 3072 = 3072 := cnt_not (inL m) 3072
  have rest0 : stE (rsP m) = 0 → Siz (stL (rsP m)) (cntP (rsP m) 3072) ∧ One 56 (stL (rsP m)) m 0 ∧ Two 52 l (stL (rsP m)) (stL (mxP lessB l m)) (stE (mxP lessB l m)) := fun h0 => by
    have hv := st_valid (rsP m)
    refine ⟨siz_st h0, ?_, ?_⟩
    · have c1 := one_rest (stL_max (rsP m))
      have e1 := stL_congr (P := rsP (stL (rsP m))) (R := inL m) (fun q hq => by rw [rsP, st_in h0 hq, rsP, Bool.not_not])
      rw [(rs_st hv).1, (rs_st hv).2, e1.1, e1.2, (st_same hm).1, (st_same hm).2] at c1
      exact c1
    · have c1 := two_both hvl (stL_max (rsP m))
      have e1 := stL_congr (P := mxP andB l (stL (rsP m))) (R := mxP lessB l m) (fun q hq => by rw [mxP, st_in h0 hq, rsP, mxP]; rfl)
      rw [(mx_st hl hv).1, (mx_st hl hv).2, e1.1, e1.2] at c1
      exact c1
  rcases st_cases (rsP m) with hi | ⟨hi, hi2⟩
  · obtain ⟨r1, r2, r3⟩ := rest0 hi
    rw [hi] at cr
    rcases st_cases (mxP orB l m) with he | ⟨he, _⟩
    · rcases st_cases (mxP andB l m) with hg | ⟨hg, _⟩
      · rw [he] at cj cj2
        rw [hg] at cb cb2
        exact rules_000 l m _ _ _ _ [] _ _ _ _ _ _ A c B d w H K h1 h2 (Lib.hid hl) (Lib.hid hm) (Lib.hid cj) (Lib.hid cj2) (Lib.hid cb) (Lib.hid cb2) (Lib.hid sa) (Lib.hid sb) (Lib.hid (siz_st he)) (Lib.hid (siz_st hg)) hsum hna hnb (Lib.hid lj) (Lib.hid lk) (Lib.hid cr) (Lib.hid r1) (Lib.hid r2) (Lib.hid cw) (Lib.hid r3) hrest (Lib.hid lu)
      · rw [he] at cj cj2
        rw [hg] at cb cb2
        exact rules_040 l m _ _ _ _ [] _ _ 0 0 _ _ A c B d w H K h1 h2 (Lib.hid hl) (Lib.hid hm) (Lib.hid cj) (Lib.hid cj2) (Lib.hid cb) (Lib.hid cb2) (Lib.hid sa) (Lib.hid sb) hna hnb (Lib.hid lj) (Lib.hid lk) (Lib.hid cr) (Lib.hid r1) (Lib.hid r2) (Lib.hid cw) (Lib.hid r3) hrest (Lib.hid lu)
    · rw [he] at cj cj2
      rcases st_cases (mxP andB l m) with hg | ⟨hg, _⟩
      · rw [hg] at cb cb2
        exact rules_400 l m _ _ _ _ [] _ _ 0 0 _ _ A c B d w H K h1 h2 (Lib.hid hl) (Lib.hid hm) (Lib.hid cj) (Lib.hid cj2) (Lib.hid cb) (Lib.hid cb2) (Lib.hid sa) (Lib.hid sb) hna hnb (Lib.hid lj) (Lib.hid lk) (Lib.hid cr) (Lib.hid r1) (Lib.hid r2) (Lib.hid cw) (Lib.hid r3) hrest (Lib.hid lu)
      · rw [hg] at cb cb2
        exact rules_440 l m _ _ _ _ [] _ _ 0 0 _ _ A c B d w H K h1 h2 (Lib.hid hl) (Lib.hid hm) (Lib.hid cj) (Lib.hid cj2) (Lib.hid cb) (Lib.hid cb2) (Lib.hid sa) (Lib.hid sb) hna hnb (Lib.hid lj) (Lib.hid lk) (Lib.hid cr) (Lib.hid r1) (Lib.hid r2) (Lib.hid cw) (Lib.hid r3) hrest (Lib.hid lu)
  · rw [hi, hi2] at cr
    rcases st_cases (mxP orB l m) with he | ⟨he, _⟩
    · rcases st_cases (mxP andB l m) with hg | ⟨hg, _⟩
      · rw [he] at cj cj2
        rw [hg] at cb cb2
        exact rules_004 l m _ _ [] [] [] _ _ _ _ 0 0 A c B d w H K h1 h2 (Lib.hid hl) (Lib.hid hm) (Lib.hid cj) (Lib.hid cj2) (Lib.hid cb) (Lib.hid cb2) (Lib.hid sa) (Lib.hid sb) (Lib.hid (siz_st he)) (Lib.hid (siz_st hg)) hsum hna hnb (Lib.hid lj) (Lib.hid lk) (Lib.hid cr)
      · rw [he] at cj cj2
        rw [hg] at cb cb2
        exact rules_044 l m _ _ [] [] [] _ _ 0 0 0 0 A c B d w H K h1 h2 (Lib.hid hl) (Lib.hid hm) (Lib.hid cj) (Lib.hid cj2) (Lib.hid cb) (Lib.hid cb2) (Lib.hid sa) (Lib.hid sb) hna hnb (Lib.hid lj) (Lib.hid lk) (Lib.hid cr)
    · rw [he] at cj cj2
      rcases st_cases (mxP andB l m) with hg | ⟨hg, _⟩
      · rw [hg] at cb cb2
        exact rules_404 l m _ _ [] [] [] _ _ 0 0 0 0 A c B d w H K h1 h2 (Lib.hid hl) (Lib.hid hm) (Lib.hid cj) (Lib.hid cj2) (Lib.hid cb) (Lib.hid cb2) (Lib.hid sa) (Lib.hid sb) hna hnb (Lib.hid lj) (Lib.hid lk) (Lib.hid cr)
      · rw [hg] at cb cb2
        exact rules_444 l m _ _ [] [] [] _ _ 0 0 0 0 A c B d w H K h1 h2 (Lib.hid hl) (Lib.hid hm) (Lib.hid cj) (Lib.hid cj2) (Lib.hid cb) (Lib.hid cb2) (Lib.hid sa) (Lib.hid sb) hna hnb (Lib.hid lj) (Lib.hid lk) (Lib.hid cr)
end Go.Proofs.Ytnnfnphmieikmaa
