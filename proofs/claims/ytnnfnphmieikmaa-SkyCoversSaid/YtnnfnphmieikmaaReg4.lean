/-
  Contracts: validCells, slices.Equal, Valid, Set, Has, Size of the program.
-/
import Derived.Test.YtnnfnphmieikmaaReg3
import Derived.Deep.WholeRow
namespace Go.Proofs.Ytnnfnphmieikmaa
open Go Go.RowKit Go.Shelf

/-- What is asked of a function value that says yes or no to a cell of a list. -/
def KeepAtM (g : Nat) (lb : Array Value) (p : Int × Int → Bool) (w : World) : Prop :=
  ∀ (W : World) (a b : Int), Below w.heap.size w W → Calls Try.prog g (#[.agg #[.int .i64 a, .int .i64 b]] ++ lb) W fun e w' => e = .returned (.bool (p (a, b))) ∧ Below W.heap.size W w'

set_option maxRecDepth 100000 in
set_option maxHeartbeats 400000 in
theorem indexM_any (g : Nat) (lb : Array Value) (p : Int × Int → Bool) (eg : ∀ args w, (callFunc g args).run Try.prog w = .ok (.enter g args) w) (ms : List (Int × Int)) (A : Option Addr) (c : Nat) (w : World) (hK : KeepAtM g lb p w) (h : Marks w A ms) (hn : ms.length ≤ 5000) :
    Calls Try.prog 123 #[.slice A ms.length c, .func (.func g) #[] lb] w fun e w' => ∃ r : Int, e = .returned (.int .i64 r) ∧ Below w.heap.size w w' ∧ -1 ≤ r ∧ r ≤ 5000 ∧ Hid (decide (0 ≤ r) = ms.any p) := by
  have H := Lib.hid h
  have HK := Lib.hid hK
  clear h hK
  go_enter Try.func123, Try.ntmps123
  go_wp2
  go_loopw [8] (fun i wr => ∃ k : Nat, k ≤ ms.length ∧ i = .int .i64 k ∧ Hid ((ms.take k).any p = false) ∧ Below w.heap.size w wr) (fun i _ => ms.length - (intOf i).toNat)
  case atStart => exact ⟨0, Nat.zero_le _, rfl, rfl, Below.refl _ _⟩
  case round =>
    obtain ⟨k, hk, rfl, hno, hB⟩ := hrel
    by_cases hlt : k < ms.length
    · obtain ⟨bl, off, rfl, hbk, hcells⟩ := H.out.open_ (show 0 < ms.length by omega)
      obtain ⟨a, b, hx⟩ := getM_of_lt hlt
      have f0 := (hB.cell (p := ⟨bl, off + k * 2, none⟩) hbk).trans (hcells _ _ hx).1
      have f1 := (hB.cell (p := ⟨bl, off + k * 2 + 1, none⟩) hbk).trans (hcells _ _ hx).2
      have hcall := HK.out wr a b hB
      have HX := Lib.hid hx
      clear hx hcells
      cases hp : p (a, b) with
      | true =>
        rw [hp] at hcall
        have HP := Lib.hid hp
        clear hp
        go_wp2_with (go_at_fn g; refine hcall.mono ?_; rintro e w3 ⟨rfl, hB3⟩; have hW3 : Below w.heap.size w w3 := below_step hB hB3)
        go_ret
        refine ⟨k, rfl, hW3, by omega, by omega, ?_⟩
        show _ = _
        rw [List.any_eq_true.2 ⟨_, List.mem_of_getElem? HX.out, HP.out⟩]
        exact decide_eq_true (by omega)
      | false =>
        rw [hp] at hcall
        have HP := Lib.hid hp
        clear hp
        go_wp2_with (go_at_fn g; refine hcall.mono ?_; rintro e w3 ⟨rfl, hB3⟩; have hW3 : Below w.heap.size w w3 := below_step hB hB3)
        go_roundw
        case rel => exact ⟨k + 1, by omega, by go_num, (by rw [any_snoc HX.out, hno.out, HP.out]; rfl : (ms.take (k + 1)).any p = false), hW3⟩
        case measure => simp [intOf]; omega
    · obtain rfl : k = ms.length := by omega
      go_wp2
      go_ret
      refine ⟨-1, rfl, hB, by omega, by omega, ?_⟩
      have := hno.out
      rw [List.take_length] at this
      show _ = _
      rw [this]; rfl
theorem containsM_any (g : Nat) (lb : Array Value) (p : Int × Int → Bool) (eg : ∀ args w, (callFunc g args).run Try.prog w = .ok (.enter g args) w) (ms : List (Int × Int)) (A : Option Addr) (c : Nat) (w : World) (hK : KeepAtM g lb p w) (h : Marks w A ms) (hn : ms.length ≤ 5000) :
    Calls Try.prog 118 #[.slice A ms.length c, .func (.func g) #[] lb] w fun e w' => e = .returned (.bool (ms.any p)) ∧ Below w.heap.size w w' := by
  have H := Lib.hid h
  have HK := Lib.hid hK
  clear h hK
  go_enter Try.func118, Try.ntmps118
  go_wp2_with (go_at_call 123; refine (indexM_any g lb p eg ms A c _ HK.out H.out hn).mono ?_; rintro e w1 ⟨r, rfl, hB, h0, h1, hr⟩)
  all_goals
    go_ret
    exact ⟨ret_bool (by rw [← hr.out]; try (simp; try omega)), hB⟩

set_option maxRecDepth 100000 in
theorem equal_any (xs ys : List (Int × Int)) (A B : Option Addr) (c d : Nat) (w : World) (hA : Marks w A xs) (hB : Marks w B ys) (hl : xs.length ≤ maxLen) :
    Calls Try.prog 97 #[.slice A xs.length c, .slice B ys.length d] w fun e w' => e = .returned (.bool (decide (xs = ys))) ∧ ∃ n, w' = w.drewN n := by
  unfold maxLen at hl
  have HA := Lib.hid hA
  have HB := Lib.hid hB
  clear hA hB
  by_cases hlen : xs.length = ys.length
  · have HL := Lib.hid hlen
    have hn : (((xs.length : Int) != (ys.length : Int)) = false) := by rw [hlen]; simp
    have hle : xs.length ≤ ys.length := by omega
    clear hlen
    go_enter Try.func97, Try.ntmps97
    go_wp2
    go_loopw [13] (fun i wr => ∃ k m : Nat, k ≤ xs.length ∧ i = .int .i64 k ∧ wr = w.drewN m ∧ Hid (xs.take k = ys.take k)) (fun i _ => xs.length - (intOf i).toNat)
    case atStart => exact ⟨0, 0, Nat.zero_le _, rfl, rfl, rfl⟩
    case round =>
      obtain ⟨k, m, hk, rfl, rfl, ht⟩ := hrel
      by_cases hlt : k < xs.length
      · obtain ⟨bl, off, rfl, _, hc⟩ := HA.out.open_ (show 0 < xs.length by omega)
        obtain ⟨bl2, off2, rfl, _, hd⟩ := HB.out.open_ (show 0 < ys.length by omega)
        obtain ⟨a, b, hx⟩ := getM_of_lt hlt
        obtain ⟨a2, b2, hy⟩ := getM_of_lt (show k < ys.length by omega)
        have hlt2 : k < ys.length := by omega
        have c1 := (hc k _ hx).1
        have c2 := (hc k _ hx).2
        have c3 := (hd k _ hy).1
        have c4 := (hd k _ hy).2
        have HX := Lib.hid hx
        have HY := Lib.hid hy
        clear hx hy hc hd
        by_cases h1 : a = a2
        · subst h1
          by_cases h2 : b = b2
          · subst h2
            go_wp2
            go_quiet (fail)
            go_wp2
            go_roundw
            case rel => exact ⟨k + 1, _, by omega, by go_num, (by first | rfl | exact World.drewN_drewN _ _ _), eq_next HX.out HY.out rfl ht.out⟩
            case measure => simp [intOf]; omega
          · have t2 : (b == b2) = false := by simpa using h2
            go_wp2
            go_quiet (fail)
            go_wp2
            go_ret
            exact ⟨ret_bool (ne_at HX.out HY.out (by simpa using h2)), _, (by first | rfl | exact World.drewN_drewN _ _ _)⟩
        · have t1 : (a == a2) = false := by simpa using h1
          go_wp2
          go_quiet (fail)
          go_wp2
          go_ret
          exact ⟨ret_bool (ne_at HX.out HY.out (by intro e; injection e with e1 e2; exact h1 e1)), _, (by first | rfl | exact World.drewN_drewN _ _ _)⟩
      · go_wp2
        go_ret
        exact ⟨ret_bool (eq_end HL.out (by omega) ht.out), _, rfl⟩
  · have hn : (((xs.length : Int) != (ys.length : Int)) = true) := by simp; omega
    go_enter Try.func97, Try.ntmps97
    go_wp2
    go_ret
    exact ⟨ret_bool (ne_len hlen), 0, rfl⟩


set_option maxRecDepth 100000 in
theorem validLit_any (a b : Int) (w : World) :
    Calls Try.prog 119 #[.agg #[.int .i64 a, .int .i64 b]] w fun e w' => e = .returned (.bool (!cellB (a, b))) ∧ Below w.heap.size w w' := by
  have C := Lib.hid (fun W => validCell_any a b W)
  have HE := Lib.hid (okP_cell a b)
  go_enter Try.func119, Try.ntmps119
  go_wp2_with (go_at_call 102; refine (C.out _).mono ?_; rintro e w1 ⟨rfl, hB1⟩; have hW1 : Below w.heap.size w w1 := (Below.trans (by repeat (first | with_reducible exact Below.refl _ _ | with_reducible assumption | refine below_drewN ?_ _ | with_reducible refine Below.drew ?_ | (refine Below.setCell ?_ (by first | (simp; done) | (simp; omega) | omega) _) | (refine Below.alloc ?_ (by first | (simp; done) | (simp; omega) | omega) _))) (hB1.mono (by first | (simp; done) | (simp; omega) | omega))); clear hB1)
  go_ret
  exact ⟨ret_bool (by rw [HE.out]), hW1⟩
theorem validCells_any (ms : List (Int × Int)) (A : Option Addr) (c : Nat) (w : World) (h : Marks w A ms) (hl : ms.length ≤ 5000) :
    Calls Try.prog 91 #[.slice A ms.length c] w fun e w' => e = .returned (.bool (ms.all cellB)) ∧ Below w.heap.size w w' := by
  have H := Lib.hid h
  have HALL : Hid (ms.all cellB = !ms.any fun m => !cellB m) := Lib.hid (by rw [List.any_eq_not_all_not]; simp)
  have eg : ∀ args w, (callFunc 119 args).run Try.prog w = .ok (.enter 119 args) w := enters_of Try.func119 (by kernel_rfl) rfl
  have HK : Hid (KeepAtM 119 #[] (fun m => !cellB m) w) := Lib.hid fun W a b _ => validLit_any a b W
  clear h
  go_enter Try.func91, Try.ntmps91
  go_wp2_with (go_at_call 118; refine (containsM_any _ #[] _ eg ms A c _ HK.out H.out (by omega)).mono ?_; rintro e w1 ⟨rfl, hB⟩)
  go_ret
  exact ⟨ret_bool (by rw [HALL.out]), hB⟩

set_option maxRecDepth 100000 in
set_option maxHeartbeats 400000 in
theorem skyValid_any (ms : List (Int × Int)) (A : Option Addr) (c : Nat) (w : World) (h : Marks w A ms) (hl : ms.length ≤ maxLen) :
    Calls Try.prog 43 #[.slice A ms.length c] w fun e w' => e = .returned (.bool (vaB ms)) ∧ Below w.heap.size w w' := by
  unfold maxLen at hl
  have H := Lib.hid h
  clear h
  by_cases hm : 400 < ms.length
  · have t1 : decide ((400 : Int) < (ms.length : Int)) = true := decide_eq_true (by omega)
    go_enter Try.func43, Try.ntmps43
    go_wp2
    go_ret
    exact ⟨ret_bool (va_long hm).symm, Below.refl _ _⟩
  · have t1 : decide ((400 : Int) < (ms.length : Int)) = false := decide_eq_false (by omega)
    have CV := Lib.hid (fun W hW => validCells_any ms A c W hW (by omega))
    cases hc : ms.all cellB with
    | false =>
      rw [hc] at CV
      have HE := Lib.hid (va_cell hc)
      clear hc
      go_enter Try.func43, Try.ntmps43
      go_wp2_with (go_at_call 91; refine (CV.out _ H.out).mono ?_; rintro e w1 ⟨rfl, hB1⟩)
      go_ret
      exact ⟨ret_bool HE.out.symm, hB1⟩
    | true =>
      rw [hc] at CV
      have HE := Lib.hid (va_eq (l := ms) (by omega) hc)
      have HC := Lib.hid hc
      have HCM : Hid (decide (ms = cellsP (inL ms)) = decide (cellsP (inL ms) = ms)) := Lib.hid (by rw [decide_eq_decide]; exact eq_comm)
      clear hc
      go_enter Try.func43, Try.ntmps43
      go_wp2_with (first
        | (go_at_call 91; refine (CV.out _ H.out).mono ?_; rintro e w1 ⟨rfl, hB1⟩)
        | (go_at_call 92; refine (regionOf_any ms _ _ _ (H.out.below hB1) (by omega) HC.out).mono ?_; rintro e w2 ⟨rfl, hB2⟩; have hW2 := below_step hB1 hB2; have hz2 := hW2.size; clear hB2)
        | (refine wpList_store_row rfl 91 (.tmp 3) (.tmp 13) rfl w2.heap.size (regC (inL ms)) rfl rfl 91 _ (heap_alloc_new w2 _) (by rw [regC_size]; kernel_rfl) (by rw [regC_size] <;> rfl) (regC_one _) ?_; rw [World.setRow_alloc_new])
        | (go_at_call 98; refine (cells_any w2.heap.size (inL ms) _ (heap_alloc_new w2 _)).mono ?_; rintro e w3 ⟨A3, c3, rfl, hC3, hB3⟩; have hW3 : Below w.heap.size w w3 := Below.trans (Below.alloc hW2 hz2 _) (hB3.mono (by simp; omega)); have HC3 := Lib.hid hC3; clear hC3 hB3)
        | (go_at_call 97; refine (equal_any _ _ _ _ _ _ _ (H.out.below hW3) HC3.out.marks (by unfold maxLen; omega)).mono ?_; rintro e w4 ⟨rfl, n4, rfl⟩)
        | fail)
      go_ret
      exact ⟨ret_bool (by rw [HE.out, HCM.out]), below_drewN hW3 _⟩

set_option maxRecDepth 100000 in
set_option maxHeartbeats 400000 in
theorem skySet_any (ms : List (Int × Int)) (A : Option Addr) (c : Nat) (w : World) (h : Marks w A ms) (hl : ms.length ≤ maxLen) :
    Calls Try.prog 41 #[.slice A ms.length c] w fun e w' => ∃ A' c', e = .returned (.tuple #[.slice A' (seL ms).length c', .int .i64 (seE ms)]) ∧ Clk w' A' c' (seL ms) ∧ Below w.heap.size w w' := by
  unfold maxLen at hl
  have H := Lib.hid h
  clear h
  by_cases hm : 4000 < ms.length
  · have t1 : decide ((4000 : Int) < (ms.length : Int)) = true := decide_eq_true (by omega)
    have hs := se_no (l := ms) (by rw [seOk, decide_eq_false (by omega)]; rfl)
    rw [hs.1, hs.2]
    clear hs
    go_enter Try.func41, Try.ntmps41
    go_wp2
    go_ret2
    exact ⟨none, 0, rfl, Clk.nil_, Below.refl _ _⟩
  · have t1 : decide ((4000 : Int) < (ms.length : Int)) = false := decide_eq_false (by omega)
    have CV := Lib.hid (fun W hW => validCells_any ms A c W hW (by omega))
    cases hc : ms.all cellB with
    | false =>
      rw [hc] at CV
      have hs := se_no (l := ms) (by rw [seOk, hc]; simp)
      rw [hs.1, hs.2]
      clear hc hs
      go_enter Try.func41, Try.ntmps41
      go_wp2_with (go_at_call 91; refine (CV.out _ H.out).mono ?_; rintro e w1 ⟨rfl, hB1⟩)
      go_ret2
      exact ⟨none, 0, rfl, Clk.nil_, hB1⟩
    | true =>
      rw [hc] at CV
      have hs := se_yes (l := ms) (by rw [seOk, hc, decide_eq_true (by omega)]; rfl)
      rw [hs.1, hs.2]
      have HC := Lib.hid hc
      clear hc hs
      go_enter Try.func41, Try.ntmps41
      go_wp2_with (first
        | (go_at_call 91; refine (CV.out _ H.out).mono ?_; rintro e w1 ⟨rfl, hB1⟩)
        | (go_at_call 92; refine (regionOf_any ms _ _ _ (H.out.below hB1) (by omega) HC.out).mono ?_; rintro e w2 ⟨rfl, hB2⟩; have hW2 := below_step hB1 hB2; have hz2 := hW2.size; clear hB2)
        | (refine wpList_store_row rfl 91 (.tmp 4) (.tmp 14) rfl w2.heap.size (regC (inL ms)) rfl rfl 91 _ (heap_alloc_new w2 _) (by rw [regC_size]; kernel_rfl) (by rw [regC_size] <;> rfl) (regC_one _) ?_; rw [World.setRow_alloc_new])
        | (go_at_call 93; refine (regSet_any w2.heap.size (inL ms) _ (heap_alloc_new w2 _)).mono ?_; rintro e w3 ⟨A3, c3, rfl, hC3, hB3⟩; have hW3 : Below w.heap.size w w3 := Below.trans (Below.alloc hW2 hz2 _) (hB3.mono (by simp; omega)); have HC3 := Lib.hid hC3; clear hC3 hB3)
        | fail)
      go_ret2
      exact ⟨A3, c3, rfl, HC3.out, hW3⟩

set_option maxRecDepth 100000 in
set_option maxHeartbeats 400000 in
theorem skyHas_any (ms : List (Int × Int)) (A : Option Addr) (c : Nat) (n p : Int) (w : World) (h : Marks w A ms) (hl : ms.length ≤ maxLen) :
    Calls Try.prog 48 #[.slice A ms.length c, .agg #[.int .i64 n, .int .i64 p]] w fun e w' => e = .returned (.tuple #[.bool (haB ms n p), .int .i64 (haE ms n p)]) ∧ Below w.heap.size w w' := by
  have H := Lib.hid h
  have HL := Lib.hid hl
  clear h hl
  cases hv : vaB ms with
  | false =>
    have e1 : haB ms n p = false := by simp [haB, haOk, hv]
    have e2 : haE ms n p = 60 := by simp [haE, hv]
    rw [e1, e2]
    have HV := Lib.hid hv
    clear hv e1 e2
    go_enter Try.func48, Try.ntmps48
    go_wp2_with (go_at_call 43; refine (skyValid_any ms _ _ _ (H.out.below (by repeat (first | with_reducible exact Below.refl _ _ | with_reducible assumption | refine below_drewN ?_ _ | with_reducible refine Below.drew ?_ | (refine Below.setCell ?_ (by first | (simp; done) | (simp; omega) | omega) _) | (refine Below.alloc ?_ (by first | (simp; done) | (simp; omega) | omega) _)))) HL.out).mono ?_; rintro e w1 ⟨he, hB1⟩; rw [HV.out] at he; subst he; have hW1 : Below w.heap.size w w1 := (Below.trans (by repeat (first | with_reducible exact Below.refl _ _ | with_reducible assumption | refine below_drewN ?_ _ | with_reducible refine Below.drew ?_ | (refine Below.setCell ?_ (by first | (simp; done) | (simp; omega) | omega) _) | (refine Below.alloc ?_ (by first | (simp; done) | (simp; omega) | omega) _))) (hB1.mono (by first | (simp; done) | (simp; omega) | omega))); clear hB1)
    go_ret2
    exact ⟨rfl, hW1⟩
  | true =>
    cases hc : cellB (n, p) with
    | false =>
      have e1 : haB ms n p = false := by simp [haB, haOk, hc]
      have e2 : haE ms n p = 2 := by simp [haE, hv, hc]
      rw [e1, e2]
      have HV := Lib.hid hv
      have HC := Lib.hid ((okP_cell n p).trans hc)
      clear hv e1 e2 hc
      go_enter Try.func48, Try.ntmps48
      go_wp2_with (first
        | (go_at_call 43; refine (skyValid_any ms _ _ _ (H.out.below (by repeat (first | with_reducible exact Below.refl _ _ | with_reducible assumption | refine below_drewN ?_ _ | with_reducible refine Below.drew ?_ | (refine Below.setCell ?_ (by first | (simp; done) | (simp; omega) | omega) _) | (refine Below.alloc ?_ (by first | (simp; done) | (simp; omega) | omega) _)))) HL.out).mono ?_; rintro e w1 ⟨he, hB1⟩; rw [HV.out] at he; subst he; have b1 := (hB1.block w.heap.size (by simp)).trans (heap_alloc_new w _); have c0 := blk_cell b1 0 rfl; have c1 := blk_cell b1 1 rfl; have hW1 : Below w.heap.size w w1 := (Below.trans (by repeat (first | with_reducible exact Below.refl _ _ | with_reducible assumption | refine below_drewN ?_ _ | with_reducible refine Below.drew ?_ | (refine Below.setCell ?_ (by first | (simp; done) | (simp; omega) | omega) _) | (refine Below.alloc ?_ (by first | (simp; done) | (simp; omega) | omega) _))) (hB1.mono (by first | (simp; done) | (simp; omega) | omega))); clear hB1 b1)
        | (go_at_call 102; refine (validCell_any n p _).mono ?_; rintro e w2 ⟨he, hB2⟩; rw [HC.out] at he; subst he; have hW2 := below_step hW1 hB2; clear hB2))
      go_ret2
      exact ⟨rfl, hW2⟩
    | true =>
      obtain ⟨o, q, he, ho, hq⟩ := cellB_of hc
      injection he with e3 e4
      subst e3; subst e4
      have e1 : haB ms o q = fullB (inL ms) o q := by simp [haB, haOk, hc, hv]
      have e2 : haE ms o q = 0 := by simp [haE, hv, hc]
      rw [e1, e2]
      obtain ⟨v1, v2, v3⟩ := va_parts hv
      have HV := Lib.hid hv
      have HC := Lib.hid ((okP_cell o q).trans hc)
      have HV2 := Lib.hid v2
      clear hv e1 e2 hc v2 v3
      go_enter Try.func48, Try.ntmps48
      go_wp2_with (first
        | (go_at_call 43; refine (skyValid_any ms _ _ _ (H.out.below (by repeat (first | with_reducible exact Below.refl _ _ | with_reducible assumption | refine below_drewN ?_ _ | with_reducible refine Below.drew ?_ | (refine Below.setCell ?_ (by first | (simp; done) | (simp; omega) | omega) _) | (refine Below.alloc ?_ (by first | (simp; done) | (simp; omega) | omega) _)))) HL.out).mono ?_; rintro e w1 ⟨he, hB1⟩; rw [HV.out] at he; subst he; have b1 := (hB1.block w.heap.size (by simp)).trans (heap_alloc_new w _); have HB1 := Lib.hid b1; have c0 := blk_cell b1 0 rfl; have c1 := blk_cell b1 1 rfl; have zz : w.heap.size < w1.heap.size := (Array.getElem?_eq_some_iff.1 b1).1; have hW1 : Below w.heap.size w w1 := (Below.trans (by repeat (first | with_reducible exact Below.refl _ _ | with_reducible assumption | refine below_drewN ?_ _ | with_reducible refine Below.drew ?_ | (refine Below.setCell ?_ (by first | (simp; done) | (simp; omega) | omega) _) | (refine Below.alloc ?_ (by first | (simp; done) | (simp; omega) | omega) _))) (hB1.mono (by first | (simp; done) | (simp; omega) | omega))); clear hB1 b1)
        | (go_at_call 102; refine (validCell_any _ _ _).mono ?_; rintro e w2 ⟨he, hB2⟩; rw [HC.out] at he; subst he; have hW2 := below_step hW1 hB2; have HB2 := Lib.hid ((hB2.block w.heap.size zz).trans HB1.out); have zz2 := Nat.lt_of_lt_of_le zz hB2.size; clear hB2)
        | (go_at_call 92; refine (regionOf_any ms _ _ _ (H.out.below hW2) (by omega) HV2.out).mono ?_; rintro e w3 ⟨rfl, hB3⟩; have hW3 := below_step hW2 hB3; have hz3 := hW3.size; have b3 := (hB3.block w.heap.size zz2).trans HB2.out; have c0 := blk_cell b3 0 rfl; have c1 := blk_cell b3 1 rfl; have zz3 := Nat.lt_of_lt_of_le zz2 hB3.size; clear b3 hB3)
        | (refine wpList_store_row rfl 91 (.tmp 6) (.tmp 14) rfl w3.heap.size (regC (inL ms)) rfl rfl 91 _ (heap_alloc_new w3 _) (by rw [regC_size]; kernel_rfl) (by rw [regC_size] <;> rfl) (regC_one _) ?_; rw [World.setRow_alloc_new])
        | (go_at_call 103; refine (has_any w3.heap.size (inL ms) o q ho hq _ (heap_alloc_new w3 _)).mono ?_; rintro e w4 ⟨rfl, hB4⟩; have hW4 : Below w.heap.size w w4 := Below.trans (Below.alloc hW3 hz3 _) (hB4.mono (by simp; omega)); clear hB4)
        | fail)
      go_ret2
      exact ⟨rfl, hW4⟩
end Go.Proofs.Ytnnfnphmieikmaa
