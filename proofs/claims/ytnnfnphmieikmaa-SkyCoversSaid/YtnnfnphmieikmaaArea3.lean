/-
  Contracts of the reference: SameCells, IsCell, Valid, set, Set, Has, Size.
-/
import Derived.Test.YtnnfnphmieikmaaArea2
namespace Go.Proofs.Ytnnfnphmieikmaa
open Go Go.RowKit Go.Shelf

set_option maxRecDepth 100000 in
theorem sameCells_any (xs ys : List (Int × Int)) (A B : Option Addr) (c d : Nat) (w : World) (hA : Marks w A xs) (hB : Marks w B ys) (hl : xs.length ≤ maxLen) :
    Calls Try.prog 45 #[.slice A xs.length c, .slice B ys.length d] w fun e w' => e = .returned (.bool (decide (xs = ys))) ∧ ∃ n, w' = w.drewN n := by
  unfold maxLen at hl
  have HA := Lib.hid hA
  have HB := Lib.hid hB
  clear hA hB
  by_cases hlen : xs.length = ys.length
  · have HL := Lib.hid hlen
    have hn : (((xs.length : Int) != (ys.length : Int)) = false) := by rw [hlen]; simp
    have hle : xs.length ≤ ys.length := by omega
    clear hlen
    go_enter Try.func45, Try.ntmps45
    go_wp2
    go_loopw [5] (fun i wr => ∃ k m : Nat, k ≤ xs.length ∧ i = .int .i64 k ∧ wr = w.drewN m ∧ Hid (xs.take k = ys.take k)) (fun i _ => xs.length - (intOf i).toNat)
    case atStart => exact ⟨0, 0, Nat.zero_le _, rfl, rfl, rfl⟩
    case round =>
      obtain ⟨k, m, hk, rfl, rfl, ht⟩ := hrel
      by_cases hlt : k < xs.length
      · obtain ⟨bl, off, rfl, _, hc⟩ := HA.out.open_ (show 0 < xs.length by omega)
        obtain ⟨bl2, off2, rfl, _, hd⟩ := HB.out.open_ (show 0 < ys.length by omega)
        obtain ⟨a, b, hx⟩ := getM_of_lt hlt
        obtain ⟨a2, b2, hy⟩ := getM_of_lt (show k < ys.length by omega)
        have hlt2 : k < ys.length := by omega
        have c1 := (hc k _ hx).1
        have c2 := (hc k _ hx).2
        have c3 := (hd k _ hy).1
        have c4 := (hd k _ hy).2
        have HX := Lib.hid hx
        have HY := Lib.hid hy
        clear hx hy hc hd
        by_cases h1 : a = a2
        · subst h1
          by_cases h2 : b = b2
          · subst h2
            go_wp2
            go_quiet (fail)
            go_wp2
            go_roundw
            case rel => exact ⟨k + 1, _, by omega, by go_num, (by first | rfl | exact World.drewN_drewN _ _ _), eq_next HX.out HY.out rfl ht.out⟩
            case measure => simp [intOf]; omega
          · have t2 : (b == b2) = false := by simpa using h2
            go_wp2
            go_quiet (fail)
            go_wp2
            go_ret
            exact ⟨ret_bool (ne_at HX.out HY.out (by simpa using h2)), _, (by first | rfl | exact World.drewN_drewN _ _ _)⟩
        · have t1 : (a == a2) = false := by simpa using h1
          go_wp2
          go_quiet (fail)
          go_wp2
          go_ret
          exact ⟨ret_bool (ne_at HX.out HY.out (by intro e; injection e with e1 e2; exact h1 e1)), _, (by first | rfl | exact World.drewN_drewN _ _ _)⟩
      · go_wp2
        go_ret
        exact ⟨ret_bool (eq_end HL.out (by omega) ht.out), _, rfl⟩
  · have hn : (((xs.length : Int) != (ys.length : Int)) = true) := by simp; omega
    go_enter Try.func45, Try.ntmps45
    go_wp2
    go_ret
    exact ⟨ret_bool (ne_len hlen), 0, rfl⟩

theorem sameCells_same (xs : List (Int × Int)) (A B : Option Addr) (c d : Nat) (w : World) (hA : Marks w A xs) (hB : Marks w B xs) (hl : xs.length ≤ maxLen) :
    Calls Try.prog 45 #[.slice A xs.length c, .slice B xs.length d] w fun e w' => e = .returned (.bool true) ∧ Below w.heap.size w w' :=
  (sameCells_any xs xs A B c d w hA hB hl).mono fun _ _ ⟨he, n, hw⟩ => ⟨by rw [he]; simp, hw ▸ below_drewN (Below.refl _ _) n⟩
theorem okP_cell (n p : Int) : okP n p = cellB (n, p) := by
  cases h : okO n with
  | true =>
    obtain ⟨k, rfl, hk⟩ := okO_of h
    rw [okP_k hk, px_eq hk, cellB, Bool.eq_iff_iff]; simp; omega
  | false =>
    rw [Bool.eq_iff_iff]; simp [okO] at h; simp [okP, okO, cellB]; omega
theorem isCell_any (n p : Int) (w : World) :
    Calls Try.prog 94 #[.agg #[.int .i64 n, .int .i64 p]] w fun e w' => e = .returned (.bool (cellB (n, p))) ∧ Below w.heap.size w w' := by
  have C : ∀ W, Calls Try.prog 71 #[.int .i64 n, .int .i64 p] W fun e w' => e = .returned (.bool (cellB (n, p))) ∧ W = w' := fun W => (isPixel_any n p W).mono fun _ _ h => ⟨by rw [h.1, okP_cell], h.2⟩
  have C := Lib.hid C
  go_enter Try.func94, Try.ntmps94
  go_wp2_with (go_at_call 71; refine (C.out _).mono ?_; rintro e w1 ⟨rfl, rfl⟩)
  go_ret
  exact ⟨rfl, (by repeat (first | with_reducible exact Below.refl _ _ | with_reducible assumption | refine below_drewN ?_ _ | with_reducible refine Below.drew ?_ | (refine Below.setCell ?_ (by first | (simp; done) | (simp; omega) | omega) _) | (refine Below.alloc ?_ (by first | (simp; done) | (simp; omega) | omega) _)))⟩
theorem all_none {l : List (Int × Int)} {k : Nat} {c : Int × Int} (h : l[k]? = some c) (hc : cellB c = false) : l.all cellB = false := all_not h hc
theorem va_long {l : List (Int × Int)} (h : 400 < l.length) : vaB l = false := by
  rw [vaB, decide_eq_false (by omega)]; rfl
theorem va_cell {l : List (Int × Int)} (h : l.all cellB = false) : vaB l = false := by
  rw [vaB, h]; simp
theorem va_eq {l : List (Int × Int)} (h : l.length ≤ 400) (h2 : l.all cellB = true) : vaB l = decide (cellsP (inL l) = l) := by
  rw [vaB, decide_eq_true h, h2]; rfl
theorem va_parts {l : List (Int × Int)} (h : vaB l = true) : l.length ≤ 400 ∧ l.all cellB = true ∧ cellsP (inL l) = l := by
  simp only [vaB, Bool.and_eq_true, decide_eq_true_eq] at h
  exact ⟨h.1.1, h.1.2, h.2⟩
set_option maxRecDepth 100000 in
set_option maxHeartbeats 400000 in
theorem refValid_any (ms : List (Int × Int)) (A : Option Addr) (c : Nat) (w : World) (h : Marks w A ms) (hl : ms.length ≤ maxLen) :
    Calls Try.prog 44 #[.slice A ms.length c] w fun e w' => e = .returned (.bool (vaB ms)) ∧ Below w.heap.size w w' := by
  unfold maxLen at hl
  have H := Lib.hid h
  clear h
  by_cases hm : 400 < ms.length
  · have t1 : decide ((400 : Int) < (ms.length : Int)) = true := decide_eq_true (by omega)
    go_enter Try.func44, Try.ntmps44
    go_wp2
    go_ret
    exact ⟨ret_bool (va_long hm).symm, Below.refl _ _⟩
  · have t1 : decide ((400 : Int) < (ms.length : Int)) = false := decide_eq_false (by omega)
    go_enter Try.func44, Try.ntmps44
    go_wp2
    go_loopw [3] (fun i wr => ∃ k : Nat, k ≤ ms.length ∧ i = .int .i64 k ∧ Below w.heap.size w wr ∧ Hid ((ms.take k).all cellB = true)) (fun i _ => ms.length - (intOf i).toNat)
    case atStart => exact ⟨0, Nat.zero_le _, rfl, Below.refl _ _, rfl⟩
    case round =>
      obtain ⟨k, hk, rfl, hB, hall⟩ := hrel
      by_cases hlt : k < ms.length
      · obtain ⟨bl, off, rfl, hbk, hcells⟩ := H.out.open_ (show 0 < ms.length by omega)
        obtain ⟨a, b, hx⟩ := getM_of_lt hlt
        have f0 := (hB.cell (p := ⟨bl, off + k * 2, none⟩) hbk).trans (hcells _ _ hx).1
        have f1 := (hB.cell (p := ⟨bl, off + k * 2 + 1, none⟩) hbk).trans (hcells _ _ hx).2
        have HX := Lib.hid hx
        have cC := fun W => isCell_any a b W
        clear hx hcells
        cases hc : cellB (a, b) with
        | true =>
          rw [hc] at cC
          have CC := Lib.hid cC
          have HC := Lib.hid hc
          clear cC hc
          go_wp2_with (go_at_call 94; refine (CC.out _).mono ?_; rintro e w1 ⟨rfl, hB1⟩; have hW1 := below_step hB hB1; clear hB1)
          go_roundw
          case rel => exact ⟨k + 1, by omega, by go_num, hW1, Lib.hid (by rw [all_snoc HX.out, hall.out, HC.out]; rfl)⟩
          case measure => simp [intOf]; omega
        | false =>
          rw [hc] at cC
          have CC := Lib.hid cC
          have HC := Lib.hid hc
          clear cC hc
          go_wp2_with (go_at_call 94; refine (CC.out _).mono ?_; rintro e w1 ⟨rfl, hB1⟩; have hW1 := below_step hB hB1; clear hB1)
          go_ret
          exact ⟨ret_bool (va_cell (all_none HX.out HC.out)).symm, hW1⟩
      · have HV := Lib.hid (show ms.all cellB = true by have := hall.out; rwa [all_full (by omega)] at this)
        have HE := Lib.hid (va_eq (l := ms) (by omega) HV.out)
        go_wp2_with (first
          | (go_at_call 96; refine (areaOf_any ms _ _ _ (H.out.below hB) (by omega) HV.out).mono ?_; rintro e w1 ⟨rfl, hO1, hB1⟩; have hW1 := below_step hB hB1; have HA1 := Lib.hid hO1.area; clear hO1 hB1)
          | (go_at_call 99; refine (refCells_any _ _ _ _ HA1.out).mono ?_; rintro e w2 ⟨A2, c2, rfl, hC2, hB2⟩; have hW2 := below_step hW1 hB2; have HC2 := Lib.hid hC2; clear hC2 hB2)
          | (go_at_call 45; refine (sameCells_any _ _ _ _ _ _ _ HC2.out.marks (H.out.below hW2) HC2.out.len).mono ?_; rintro e w3 ⟨rfl, n3, rfl⟩)
          | fail)
        go_ret
        exact ⟨ret_bool HE.out.symm, below_drewN hW2 _⟩

def stL (P : Nat → Bool) : List (Int × Int) := if (cellsP P).length ≤ 400 then cellsP P else []
def stE (P : Nat → Bool) : Int := if (cellsP P).length ≤ 400 then 0 else 4
theorem refSetA_any (g c : Nat) (P : Nat → Bool) (w : World) (h : Area w g P) :
    Calls Try.prog 95 #[.slice (some ⟨g, 0, none⟩) 3072 c] w fun e w' => ∃ A c', e = .returned (.tuple #[.slice A (stL P).length c', .int .i64 (stE P)]) ∧ Clk w' A c' (stL P) ∧ Below w.heap.size w w' := by
  have hlen := cellsP_len P
  have CC := Lib.hid (refCells_any g c P w h)
  clear h
  by_cases hl : (cellsP P).length ≤ 400
  · have e1 : stL P = cellsP P := if_pos hl
    have e2 : stE P = 0 := if_pos hl
    rw [e1, e2]
    clear e1 e2
    go_enter Try.func95, Try.ntmps95
    go_wp2_with (go_at_call 99; refine (CC.out).mono ?_; rintro e w1 ⟨A1, c1, rfl, hC1, hB1⟩)
    go_ret2
    exact ⟨A1, c1, rfl, hC1, hB1⟩
  · have e1 : stL P = [] := if_neg hl
    have e2 : stE P = 4 := if_neg hl
    rw [e1, e2]
    clear e1 e2
    go_enter Try.func95, Try.ntmps95
    go_wp2_with (go_at_call 99; refine (CC.out).mono ?_; rintro e w1 ⟨A1, c1, rfl, hC1, hB1⟩)
    go_ret2
    exact ⟨none, 0, rfl, Clk.nil_, hB1⟩

def seOk (l : List (Int × Int)) : Bool := decide (l.length ≤ 4000) && l.all cellB
def seL (l : List (Int × Int)) : List (Int × Int) := if seOk l then stL (inL l) else []
def seE (l : List (Int × Int)) : Int := if seOk l then stE (inL l) else 2
theorem se_no {l : List (Int × Int)} (h : seOk l = false) : seL l = [] ∧ seE l = 2 := by simp [seL, seE, h]
theorem se_yes {l : List (Int × Int)} (h : seOk l = true) : seL l = stL (inL l) ∧ seE l = stE (inL l) := by simp [seL, seE, h]
set_option maxRecDepth 100000 in
set_option maxHeartbeats 400000 in
theorem refSet_any (ms : List (Int × Int)) (A : Option Addr) (c : Nat) (w : World) (h : Marks w A ms) (hl : ms.length ≤ maxLen) :
    Calls Try.prog 42 #[.slice A ms.length c] w fun e w' => ∃ A' c', e = .returned (.tuple #[.slice A' (seL ms).length c', .int .i64 (seE ms)]) ∧ Clk w' A' c' (seL ms) ∧ Below w.heap.size w w' := by
  unfold maxLen at hl
  have H := Lib.hid h
  clear h
  by_cases hm : 4000 < ms.length
  · have t1 : decide ((4000 : Int) < (ms.length : Int)) = true := decide_eq_true (by omega)
    have hs := se_no (l := ms) (by rw [seOk, decide_eq_false (by omega)]; rfl)
    rw [hs.1, hs.2]
    clear hs
    go_enter Try.func42, Try.ntmps42
    go_wp2
    go_ret2
    exact ⟨none, 0, rfl, Clk.nil_, Below.refl _ _⟩
  · have t1 : decide ((4000 : Int) < (ms.length : Int)) = false := decide_eq_false (by omega)
    go_enter Try.func42, Try.ntmps42
    go_wp2
    go_loopw [4] (fun i wr => ∃ k : Nat, k ≤ ms.length ∧ i = .int .i64 k ∧ Below w.heap.size w wr ∧ Hid ((ms.take k).all cellB = true)) (fun i _ => ms.length - (intOf i).toNat)
    case atStart => exact ⟨0, Nat.zero_le _, rfl, Below.refl _ _, rfl⟩
    case round =>
      obtain ⟨k, hk, rfl, hB, hall⟩ := hrel
      by_cases hlt : k < ms.length
      · obtain ⟨bl, off, rfl, hbk, hcells⟩ := H.out.open_ (show 0 < ms.length by omega)
        obtain ⟨a, b, hx⟩ := getM_of_lt hlt
        have f0 := (hB.cell (p := ⟨bl, off + k * 2, none⟩) hbk).trans (hcells _ _ hx).1
        have f1 := (hB.cell (p := ⟨bl, off + k * 2 + 1, none⟩) hbk).trans (hcells _ _ hx).2
        have HX := Lib.hid hx
        have cC := fun W => isCell_any a b W
        clear hx hcells
        cases hc : cellB (a, b) with
        | true =>
          rw [hc] at cC
          have CC := Lib.hid cC
          have HC := Lib.hid hc
          clear cC hc
          go_wp2_with (go_at_call 94; refine (CC.out _).mono ?_; rintro e w1 ⟨rfl, hB1⟩; have hW1 := below_step hB hB1; clear hB1)
          go_roundw
          case rel => exact ⟨k + 1, by omega, by go_num, hW1, Lib.hid (by rw [all_snoc HX.out, hall.out, HC.out]; rfl)⟩
          case measure => simp [intOf]; omega
        | false =>
          rw [hc] at cC
          have CC := Lib.hid cC
          have HS := Lib.hid (se_no (l := ms) (by rw [seOk, all_none HX.out hc]; simp))
          clear cC hc
          go_wp2_with (go_at_call 94; refine (CC.out _).mono ?_; rintro e w1 ⟨rfl, hB1⟩; have hW1 := below_step hB hB1; clear hB1)
          go_ret2
          exact ⟨none, 0, by rw [HS.out.1, HS.out.2]; rfl, by rw [HS.out.1]; exact Clk.nil_, hW1⟩
      · have HV := Lib.hid (show ms.all cellB = true by have := hall.out; rwa [all_full (by omega)] at this)
        have HS := Lib.hid (se_yes (l := ms) (by rw [seOk, HV.out, decide_eq_true (by omega)]; rfl))
        go_wp2_with (first
          | (go_at_call 96; refine (areaOf_any ms _ _ _ (H.out.below hB) (by omega) HV.out).mono ?_; rintro e w1 ⟨rfl, hO1, hB1⟩; have hW1 := below_step hB hB1; have HA1 := Lib.hid hO1.area; clear hO1 hB1)
          | (go_at_call 95; refine (refSetA_any _ _ _ _ HA1.out).mono ?_; rintro e w2 ⟨A2, c2, rfl, hC2, hB2⟩; have hW2 := below_step hW1 hB2; have HC2 := Lib.hid hC2; clear hC2 hB2)
          | fail)
        go_ret2
        exact ⟨A2, c2, by rw [HS.out.1, HS.out.2]; rfl, by rw [HS.out.1]; exact HC2.out, hW2⟩

def haOk (l : List (Int × Int)) (n p : Int) : Bool := vaB l && cellB (n, p)
def haB (l : List (Int × Int)) (n p : Int) : Bool := haOk l n p && fullB (inL l) n.toNat p.toNat
def haE (l : List (Int × Int)) (n p : Int) : Int := if vaB l then (if cellB (n, p) then 0 else 2) else 60
set_option maxRecDepth 100000 in
set_option maxHeartbeats 400000 in
theorem refHas_any (ms : List (Int × Int)) (A : Option Addr) (c : Nat) (n p : Int) (w : World) (h : Marks w A ms) (hl : ms.length ≤ maxLen) :
    Calls Try.prog 49 #[.slice A ms.length c, .agg #[.int .i64 n, .int .i64 p]] w fun e w' => e = .returned (.tuple #[.bool (haB ms n p), .int .i64 (haE ms n p)]) ∧ Below w.heap.size w w' := by
  have H := Lib.hid h
  have HL := Lib.hid hl
  clear h hl
  cases hv : vaB ms with
  | false =>
    have e1 : haB ms n p = false := by simp [haB, haOk, hv]
    have e2 : haE ms n p = 60 := by simp [haE, hv]
    rw [e1, e2]
    have HV := Lib.hid hv
    clear hv e1 e2
    go_enter Try.func49, Try.ntmps49
    go_wp2_with (go_at_call 44; refine (refValid_any ms _ _ _ (H.out.below (by repeat (first | with_reducible exact Below.refl _ _ | with_reducible assumption | refine below_drewN ?_ _ | with_reducible refine Below.drew ?_ | (refine Below.setCell ?_ (by first | (simp; done) | (simp; omega) | omega) _) | (refine Below.alloc ?_ (by first | (simp; done) | (simp; omega) | omega) _)))) HL.out).mono ?_; rintro e w1 ⟨he, hB1⟩; rw [HV.out] at he; subst he; have hW1 : Below w.heap.size w w1 := (Below.trans (by repeat (first | with_reducible exact Below.refl _ _ | with_reducible assumption | refine below_drewN ?_ _ | with_reducible refine Below.drew ?_ | (refine Below.setCell ?_ (by first | (simp; done) | (simp; omega) | omega) _) | (refine Below.alloc ?_ (by first | (simp; done) | (simp; omega) | omega) _))) (hB1.mono (by first | (simp; done) | (simp; omega) | omega))); clear hB1)
    go_ret2
    exact ⟨rfl, hW1⟩
  | true =>
    cases hc : cellB (n, p) with
    | false =>
      have e1 : haB ms n p = false := by simp [haB, haOk, hc]
      have e2 : haE ms n p = 2 := by simp [haE, hv, hc]
      rw [e1, e2]
      have HV := Lib.hid hv
      have HC := Lib.hid hc
      clear hv e1 e2 hc
      go_enter Try.func49, Try.ntmps49
      go_wp2_with (first
        | (go_at_call 44; refine (refValid_any ms _ _ _ (H.out.below (by repeat (first | with_reducible exact Below.refl _ _ | with_reducible assumption | refine below_drewN ?_ _ | with_reducible refine Below.drew ?_ | (refine Below.setCell ?_ (by first | (simp; done) | (simp; omega) | omega) _) | (refine Below.alloc ?_ (by first | (simp; done) | (simp; omega) | omega) _)))) HL.out).mono ?_; rintro e w1 ⟨he, hB1⟩; rw [HV.out] at he; subst he; have b1 := (hB1.block w.heap.size (by simp)).trans (heap_alloc_new w _); have c0 := blk_cell b1 0 rfl; have c1 := blk_cell b1 1 rfl; have hW1 : Below w.heap.size w w1 := (Below.trans (by repeat (first | with_reducible exact Below.refl _ _ | with_reducible assumption | refine below_drewN ?_ _ | with_reducible refine Below.drew ?_ | (refine Below.setCell ?_ (by first | (simp; done) | (simp; omega) | omega) _) | (refine Below.alloc ?_ (by first | (simp; done) | (simp; omega) | omega) _))) (hB1.mono (by first | (simp; done) | (simp; omega) | omega))); clear hB1 b1)
        | (go_at_call 94; refine (isCell_any n p _).mono ?_; rintro e w2 ⟨he, hB2⟩; rw [HC.out] at he; subst he; have hW2 := below_step hW1 hB2; clear hB2))
      go_ret2
      exact ⟨rfl, hW2⟩
    | true =>
      obtain ⟨o, q, he, ho, hq⟩ := cellB_of hc
      injection he with e3 e4
      subst e3; subst e4
      have e1 : haB ms o q = fullB (inL ms) o q := by simp [haB, haOk, hc, hv]
      have e2 : haE ms o q = 0 := by simp [haE, hv, hc]
      rw [e1, e2]
      obtain ⟨v1, v2, v3⟩ := va_parts hv
      have HV := Lib.hid hv
      have HC := Lib.hid hc
      have HV2 := Lib.hid v2
      clear hv e1 e2 hc v2 v3
      go_enter Try.func49, Try.ntmps49
      go_wp2_with (first
        | (go_at_call 44; refine (refValid_any ms _ _ _ (H.out.below (by repeat (first | with_reducible exact Below.refl _ _ | with_reducible assumption | refine below_drewN ?_ _ | with_reducible refine Below.drew ?_ | (refine Below.setCell ?_ (by first | (simp; done) | (simp; omega) | omega) _) | (refine Below.alloc ?_ (by first | (simp; done) | (simp; omega) | omega) _)))) HL.out).mono ?_; rintro e w1 ⟨he, hB1⟩; rw [HV.out] at he; subst he; have b1 := (hB1.block w.heap.size (by simp)).trans (heap_alloc_new w _); have c0 := blk_cell b1 0 rfl; have c1 := blk_cell b1 1 rfl; have zz : w.heap.size < w1.heap.size := (Array.getElem?_eq_some_iff.1 b1).1; have hW1 : Below w.heap.size w w1 := (Below.trans (by repeat (first | with_reducible exact Below.refl _ _ | with_reducible assumption | refine below_drewN ?_ _ | with_reducible refine Below.drew ?_ | (refine Below.setCell ?_ (by first | (simp; done) | (simp; omega) | omega) _) | (refine Below.alloc ?_ (by first | (simp; done) | (simp; omega) | omega) _))) (hB1.mono (by first | (simp; done) | (simp; omega) | omega))); clear hB1 b1)
        | (go_at_call 94; refine (isCell_any _ _ _).mono ?_; rintro e w2 ⟨he, hB2⟩; rw [HC.out] at he; subst he; have hW2 := below_step hW1 hB2; have c0 := (hB2.cell (p := ⟨w.heap.size, 0, none⟩) zz).trans c0; have c1 := (hB2.cell (p := ⟨w.heap.size, 1, none⟩) zz).trans c1; have zz := Nat.lt_of_lt_of_le zz hB2.size; clear hB2))
      go_region_held3 (fun W => W.cell? ⟨w.heap.size, 0, none⟩ = some (.int .i64 (o : Int)) ∧ W.cell? ⟨w.heap.size, 1, none⟩ = some (.int .i64 (q : Int)))
        ((first | with_reducible exact ⟨c0, c1⟩ | exact ⟨c0, c1⟩))
        ((first
          | (go_at_call 96; refine (areaOf_any ms _ _ _ (H.out.below (by first | exact hW2 | exact Below.drew hW2 | exact below_drewN hW2 _)) (by omega) HV2.out).mono ?_; rintro e w3 ⟨rfl, hO3, hB3⟩; have HA3 := Lib.hid hO3.area; have HW3 : Hid (Below w.heap.size w w3) := Lib.hid (Below.trans (by first | exact hW2 | exact Below.drew hW2 | exact below_drewN hW2 _) (hB3.mono hW2.size)); have c0 := (hB3.cell (p := ⟨w.heap.size, 0, none⟩) zz).trans c0; have c1 := (hB3.cell (p := ⟨w.heap.size, 1, none⟩) zz).trans c1; have zz := Nat.lt_of_lt_of_le zz hB3.size; clear hO3 hB3)
          | (go_at_call 104; refine (full_any _ _ (inL ms) o q ho hq _ HA3.out).mono ?_; rintro e w4 ⟨rfl, hB4⟩; have c0 := (hB4.cell (p := ⟨w.heap.size, 0, none⟩) zz).trans c0; have c1 := (hB4.cell (p := ⟨w.heap.size, 1, none⟩) zz).trans c1; have HW4 : Hid (Below w.heap.size w w4) := Lib.hid (Below.trans HW3.out (hB4.mono HW3.out.size)); clear hB4)))
      all_goals
        go_wp2
        go_ret2
        exact ⟨rfl, (by first | exact HW4.out | exact below_drewN HW4.out _)⟩

def szV (l : List (Int × Int)) : Int := if vaB l then ((cntP (inL l) 3072 : Nat) : Int) else 0
def vaE (l : List (Int × Int)) : Int := if vaB l then 0 else 60
set_option maxRecDepth 100000 in
theorem refSize_any (ms : List (Int × Int)) (A : Option Addr) (c : Nat) (w : World) (h : Marks w A ms) (hl : ms.length ≤ maxLen) :
    Calls Try.prog 47 #[.slice A ms.length c] w fun e w' => e = .returned (.tuple #[.int .i64 (szV ms), .int .i64 (vaE ms)]) ∧ Below w.heap.size w w' := by
  have H := Lib.hid h
  have HL := Lib.hid hl
  clear h hl
  cases hv : vaB ms with
  | false =>
    have e1 : szV ms = 0 := by simp [szV, hv]
    have e2 : vaE ms = 60 := by simp [vaE, hv]
    rw [e1, e2]
    have HV := Lib.hid hv
    clear hv e1 e2
    go_enter Try.func47, Try.ntmps47
    go_wp2_with (go_at_call 44; refine (refValid_any ms _ _ _ H.out HL.out).mono ?_; rintro e w1 ⟨he, hB1⟩; rw [HV.out] at he; subst he)
    go_ret2
    exact ⟨rfl, hB1⟩
  | true =>
    have e1 : szV ms = ((cntP (inL ms) 3072 : Nat) : Int) := by simp [szV, hv]
    have e2 : vaE ms = 0 := by simp [vaE, hv]
    rw [e1, e2]
    obtain ⟨v1, v2, v3⟩ := va_parts hv
    have HV := Lib.hid hv
    have HV2 := Lib.hid v2
    clear hv e1 e2 v2 v3
    go_enter Try.func47, Try.ntmps47
    go_wp2_with (first
      | (go_at_call 44; refine (refValid_any ms _ _ _ H.out HL.out).mono ?_; rintro e w1 ⟨he, hB1⟩; rw [HV.out] at he; subst he)
      | (go_at_call 96; refine (areaOf_any ms _ _ _ (H.out.below hB1) (by omega) HV2.out).mono ?_; rintro e w2 ⟨rfl, hO2, hB2⟩; have HA2 := Lib.hid hO2.area; have hW2 := below_step hB1 hB2; clear hO2 hB2)
      | (go_at_call 101; refine (count_any _ _ _ _ HA2.out).mono ?_; rintro e w3 ⟨rfl, rfl⟩))
    go_ret2
    exact ⟨rfl, hW2⟩
end Go.Proofs.Ytnnfnphmieikmaa
