/-
  Contract: Rings of the program.
-/
import Derived.Test.YtnnfnphmieikmaaReg7
import Derived.Test.YtnnfnphmieikmaaArea5
import Derived.Test.YtnnfnphmieikmaaOn2
namespace Go.Proofs.Ytnnfnphmieikmaa
open Go Go.RowKit Go.Shelf

/-- What is on the rings from a to before r, and on the ring r up to the place j. -/
def rgTo (a r j q : Nat) : Bool := (decide (a ≤ RT 4 q) && decide (RT 4 q < r)) || (decide (RT 4 q = r) && decide (PT 4 q ≤ j))
theorem in_four (p q : Nat) : inC 4 p q = decide (q = p) := by
  rw [Bool.eq_iff_iff, in_div, wN_four, Nat.div_one]; simp
theorem rg_start (a q : Nat) (hq : q < 3072) : rgTo a a 0 q = false := by
  have h := (fact_of (k := 4) (by omega) (by rw [px_top]; exact hq)).p1
  simp [rgTo]; omega
theorem rg_step {a r j q : Nat} (h1 : 1 ≤ r) (h2 : r ≤ 63) (hj : j < lenN 4 r) (hq : q < 3072) :
    rgTo a r (j + 1) q = (rgTo a r j q || inC 4 (TT 4 (bef 4 (r - 1) + j)) q) := by
  obtain ⟨b1, b2, b3⟩ := at_of (k := 4) (by omega) h1 (by omega) hj
  rw [in_four, Bool.eq_iff_iff]
  simp only [rgTo, Bool.or_eq_true, Bool.and_eq_true, decide_eq_true_eq]
  constructor
  · rintro (h | ⟨e1, e2⟩)
    · exact .inl (.inl h)
    · rcases Nat.lt_or_ge j (PT 4 q) with hlt | hge
      · refine .inr (same_place (k := 4) (by omega) (by rw [px_top]; exact hq) b1 (e1.trans b2.symm) ?_)
        rw [b3]; omega
      · exact .inl (.inr ⟨e1, hge⟩)
  · rintro ((h | ⟨e1, e2⟩) | rfl)
    · exact .inl h
    · exact .inr ⟨e1, by omega⟩
    · exact .inr ⟨b2, by omega⟩
theorem rg_ring {a r q : Nat} (ha : a ≤ r) (hq : q < 3072) : rgTo a r (lenN 4 r) q = rgTo a (r + 1) 0 q := by
  have F := fact_of (k := 4) (by omega) (show q < pxN 4 by rw [px_top]; exact hq)
  have p1 := F.p1
  have p2 := F.p2
  rw [Bool.eq_iff_iff]
  simp only [rgTo, Bool.or_eq_true, Bool.and_eq_true, decide_eq_true_eq]
  constructor
  · rintro (h | ⟨e1, e2⟩)
    · exact .inl ⟨h.1, by omega⟩
    · exact .inl ⟨by omega, by omega⟩
  · rintro (h | ⟨e1, e2⟩)
    · rcases Nat.lt_or_ge (RT 4 q) r with hlt | hge
      · exact .inl ⟨h.1, hlt⟩
      · have e : RT 4 q = r := by omega
        rw [e] at p2
        exact .inr ⟨e, p2⟩
    · omega
theorem rg_end {a b q : Nat} (hq : q < 3072) : rgTo a (b + 1) 0 q = riP a b q := by
  have p1 := (fact_of (k := 4) (by omega) (show q < pxN 4 by rw [px_top]; exact hq)).p1
  rw [Bool.eq_iff_iff]
  simp only [rgTo, riP, Bool.or_eq_true, Bool.and_eq_true, decide_eq_true_eq]
  omega
theorem Only.cell_ {a w : World} {g : Nat} (h : Only a w g) {p : Addr} {v : Value} (hv : a.cell? p = some v) (hp : p.block < a.heap.size) (hne : p.block ≠ g) : w.cell? p = some v := by
  rw [← hv]
  have := h.block p.block hp (by intro e; injection e with e; exact hne e)
  unfold World.cell?
  rw [this]
/-- A list of ints does not lie in a region. -/
theorem ints_far {w : World} {g b o : Nat} {z : Int} {P : Nat → Bool} (hR : Reg w g P) (hc : w.cell? ⟨b, o, none⟩ = some (.int .i64 z)) : b ≠ g := by
  rintro rfl
  have h1 := cell_of_row w _ o _ _ _ hR
  rw [hc] at h1
  have h2 := (Array.getElem?_eq_some_iff.1 h1.symm).1
  rw [regC_size] at h2
  rw [regC_get h2] at h1
  injection h1 with h1
  injection h1 with h1 _
  exact absurd h1 (by decide)

set_option maxRecDepth 100000 in
set_option maxHeartbeats 2000000 in
theorem skyRings_yes (a b : Nat) (h1 : 1 ≤ a) (h2 : a ≤ b) (h3 : b ≤ 63) (w : World) :
    Calls Try.prog 60 #[.int .i64 (a : Int), .int .i64 (b : Int)] w fun e w' => ∃ A' c', e = .returned (.tuple #[.slice A' (stL (riP a b)).length c', .int .i64 (stE (riP a b))]) ∧ Clk w' A' c' (stL (riP a b)) ∧ Below w.heap.size w w' := by
  have C4 : Hid (∀ W, Calls Try.prog 114 #[.int .i64 4] W fun e w' => e = .returned (.int .i64 63) ∧ W = w') := Lib.hid (fun W => by
    have := rings_any 4 (by omega) W
    simpa [sdI] using this)
  have CO : Hid (∀ r : Nat, 1 ≤ r → r ≤ 63 → ∀ W, Calls Try.prog 86 #[.int .i64 4, .int .i64 (r : Int)] W fun e w' => ∃ A c, e = .returned (.slice A (lenN 4 r) c) ∧ Out w' A c (onL 4 r) ∧ Below W.heap.size W w') :=
    Lib.hid (fun r hr hr2 W => by
      have := on_any 4 r (by omega) hr (by omega) W
      rw [onL_len] at this
      exact this)
  have CA : Hid (∀ (g : Nat) (P : Nat → Bool) (p : Nat), p < 3072 → ∀ W, Reg W g P → Calls Try.prog 111 #[.pointer (some ⟨g, 0, none⟩), .agg #[.int .i64 4, .int .i64 (p : Int)]] W fun e w' => e = .returned (.tuple #[]) ∧ Reg w' g (fun q => P q || inC 4 p q) ∧ Only W w' g) :=
    Lib.hid (fun g P p hp W hR => add_any g P 4 p (by omega) (by rw [px_top]; exact hp) W hR)
  have HST : Hid (∀ r j, 1 ≤ r → r ≤ 63 → j < lenN 4 r → ∀ q, q < 3072 → rgTo a r (j + 1) q = (rgTo a r j q || inC 4 (TT 4 (bef 4 (r - 1) + j)) q)) := Lib.hid (fun r j hr hr2 hj q hq => rg_step hr hr2 hj hq)
  have HRG : Hid (∀ r, a ≤ r → ∀ q, q < 3072 → rgTo a r (lenN 4 r) q = rgTo a (r + 1) 0 q) := Lib.hid (fun r hr q hq => rg_ring hr hq)
  have HAT : Hid (∀ r j, 1 ≤ r → r ≤ 63 → j < lenN 4 r → TT 4 (bef 4 (r - 1) + j) < 3072 ∧ (onL 4 r)[j]? = some ((TT 4 (bef 4 (r - 1) + j) : Nat) : Int)) :=
    Lib.hid (fun r j hr hr2 hj => ⟨by have := (at_of (k := 4) (by omega) hr (by omega) hj).1; rwa [px_top] at this, onL_get hj⟩)
  have HLE : Hid (∀ r, 1 ≤ r → r ≤ 63 → 1 ≤ lenN 4 r ∧ lenN 4 r ≤ 64) := Lib.hid (fun r hr hr2 => by unfold lenN; omega)
  have d1 : decide ((a : Int) < 1) = false := decide_eq_false (by omega)
  have d2 : decide ((b : Int) < (a : Int)) = false := decide_eq_false (by omega)
  have d3 : decide ((63 : Int) < (b : Int)) = false := decide_eq_false (by omega)
  have d4 : decide (b < a) = false := decide_eq_false (by omega)
  have d5 : decide (63 < b) = false := decide_eq_false (by omega)
  go_enter Try.func60, Try.ntmps60
  go_wp2_with (go_at_call 114; refine (C4.out _).mono ?_; rintro e w1 ⟨rfl, rfl⟩)
  rw [zero48]
  have HR0 : Hid (Reg (w.alloc (.cells (regC fun _ => false) 91)) w.heap.size (fun _ => false)) := Lib.hid (heap_alloc_new w _)
  have hW0 : Below w.heap.size w (w.alloc (.cells (regC fun _ => false) 91)) := Below.alloc (Below.refl _ _) (Nat.le_refl _) _
  go_loopw [7] (fun i wr => ∃ r : Nat, a ≤ r ∧ r ≤ b + 1 ∧ i = .int .i64 r ∧ Hid (Reg wr w.heap.size (rgTo a r 0)) ∧ Below w.heap.size w wr) (fun i _ => b + 1 - (intOf i).toNat)
  case atStart => exact ⟨a, Nat.le_refl _, by omega, rfl, Lib.hid (HR0.out.congr fun q hq => (rg_start a q hq).symm), hW0⟩
  case round =>
    clear HR0 hW0
    obtain ⟨r, hra, hrb, rfl, hR, hB⟩ := hrel
    by_cases hlt : r ≤ b
    · have tq : decide ((r : Int) ≤ (b : Int)) = true := decide_eq_true (by omega)
      have cO := CO.out r (by omega) (by omega)
      obtain ⟨l1, l2⟩ := HLE.out r (by omega) (by omega)
      have HS := Lib.hid (HST.out r)
      have HE := Lib.hid (HRG.out r hra)
      have HT := Lib.hid (HAT.out r)
      have HOL := Lib.hid (onL_len 4 r)
      obtain ⟨L, hL⟩ : ∃ L, L = lenN 4 r := ⟨_, rfl⟩
      rw [← hL] at cO l1 l2 HS HE HT HOL
      have CO := Lib.hid cO
      clear hL cO
      go_wp2_with (go_at_call 86; refine (CO.out _).mono ?_; rintro e wo ⟨Ao, co, rfl, hOo, hBo⟩; have HO := Lib.hid hOo.ints; have HRo : Hid (Reg wo w.heap.size (rgTo a r 0)) := Lib.hid (hR.out.below hBo); have hWo := below_step hB hBo; clear hBo hOo)
      obtain ⟨bl, off, rfl, hbk, hcells⟩ := HO.out.open_ (by rw [HOL.out]; omega)
      have hgs := HRo.out.lt
      have HF : Hid (bl ≠ w.heap.size) := Lib.hid (ints_far HRo.out (hcells 0 _ (HT.out 0 (by omega) (by omega) (by omega)).2))
      have HC := Lib.hid (fun j (hj : j < L) => (HT.out j (by omega) (by omega) hj).1)
      have HCC : Hid (∀ j, j < L → wo.cell? ⟨bl, off + j, none⟩ = some (.int .i64 ((TT 4 (bef 4 (r - 1) + j) : Nat) : Int))) := Lib.hid (fun j hj => hcells j _ (HT.out j (by omega) (by omega) hj).2)
      clear hcells HT HO
      go_loopw [31] (fun i wr => ∃ j : Nat, j ≤ L ∧ i = .int .i64 j ∧ Hid (Reg wr w.heap.size (rgTo a r j)) ∧ Only wo wr w.heap.size) (fun i _ => L - (intOf i).toNat)
      case atStart => exact ⟨0, Nat.zero_le _, rfl, HRo, Only.refl _ _⟩
      case round =>
        clear hR HRo
        obtain ⟨j, hj, rfl, hR, hON⟩ := hrel
        by_cases hjl : j < L
        · have tj : decide ((j : Int) < (L : Int)) = true := decide_eq_true (by omega)
          have f0 := hON.cell_ (HCC.out j hjl) hbk HF.out
          have hp := HC.out j hjl
          have HSj := Lib.hid (HS.out j (by omega) (by omega) hjl)
          obtain ⟨p, hpp⟩ : ∃ p, p = TT 4 (bef 4 (r - 1) + j) := ⟨_, rfl⟩
          rw [← hpp] at f0 hp HSj
          have CAj := Lib.hid (CA.out w.heap.size (rgTo a r j) p hp)
          clear hpp
          go_wp2_with (go_at_call 111; refine (CAj.out _ hR.out).mono ?_; rintro e w4 ⟨rfl, hR4, hO4⟩; have HR4 := Lib.hid hR4; have hON4 : Only wo w4 w.heap.size := World.grownBy.trans hON hO4; clear hR4 hO4)
          go_roundw
          case rel => exact ⟨j + 1, by omega, by go_num, Lib.hid (HR4.out.congr fun q hq => (HSj.out q hq).symm), hON4⟩
          case measure => simp [intOf]; omega
        · obtain rfl : j = L := by omega
          have hwB := Below.trans hWo (Only.below hON (Nat.le_refl _) hWo.size)
          go_wp2
          go_roundw
          case rel => exact ⟨r + 1, by omega, by omega, by go_num, Lib.hid (hR.out.congr HE.out), hwB⟩
          case measure => simp [intOf]; omega
    · obtain rfl : r = b + 1 := by omega
      have HR : Hid (Reg wr w.heap.size (riP a b)) := Lib.hid (hR.out.congr fun q hq => rg_end hq)
      have tq : decide ((b : Int) + 1 ≤ (b : Int)) = false := decide_eq_false (by omega)
      clear hR
      go_wp2_with (go_at_call 93; refine (regSet_any _ _ _ HR.out).mono ?_; rintro e w6 ⟨A6, c6, rfl, hC6, hB6⟩; have hW6 := below_step hB hB6; have HC6 := Lib.hid hC6; clear hC6 hB6)
      go_ret2
      exact ⟨A6, c6, rfl, HC6.out, hW6⟩
set_option maxRecDepth 100000 in
theorem skyRings_any (a b : Int) (w : World) :
    Calls Try.prog 60 #[.int .i64 a, .int .i64 b] w fun e w' => ∃ A' c', e = .returned (.tuple #[.slice A' (riL a b).length c', .int .i64 (riE a b)]) ∧ Clk w' A' c' (riL a b) ∧ Below w.heap.size w w' := by
  cases h : riOk a b with
  | true =>
    have h0 := h
    simp only [riOk, decide_eq_true_eq] at h0
    obtain ⟨x, rfl⟩ : ∃ x : Nat, a = x := ⟨a.toNat, by omega⟩
    obtain ⟨y, rfl⟩ : ∃ x : Nat, b = x := ⟨b.toNat, by omega⟩
    have e1 : riL x y = stL (riP x y) := by simp [riL, h]
    have e2 : riE x y = stE (riP x y) := by simp [riE, h]
    rw [e1, e2]
    exact skyRings_yes x y (by omega) (by omega) (by omega) w
  | false =>
    have e1 : riL a b = [] := by simp [riL, h]
    have e2 : riE a b = 2 := by simp [riE, h]
    rw [e1, e2]
    simp only [riOk, decide_eq_false_iff_not] at h
    have C4 : Hid (∀ W, Calls Try.prog 114 #[.int .i64 4] W fun e w' => e = .returned (.int .i64 63) ∧ W = w') := Lib.hid (fun W => by
      have := rings_any 4 (by omega) W
      simpa [sdI] using this)
    clear e1 e2
    by_cases h1 : a < 1
    · have d1 : decide (a < 1) = true := decide_eq_true h1
      clear h
      go_enter Try.func60, Try.ntmps60
      go_wp2_with (go_at_call 114; refine (C4.out _).mono ?_; rintro e w1 ⟨rfl, rfl⟩)
      all_goals go_ret2
      all_goals exact ⟨none, 0, rfl, Clk.nil_, Below.refl _ _⟩
    have d1 : decide (a < 1) = false := decide_eq_false h1
    by_cases h2 : b < a
    · have d2 : decide (b < a) = true := decide_eq_true h2
      clear h
      go_enter Try.func60, Try.ntmps60
      go_wp2_with (go_at_call 114; refine (C4.out _).mono ?_; rintro e w1 ⟨rfl, rfl⟩)
      all_goals go_ret2
      all_goals exact ⟨none, 0, rfl, Clk.nil_, Below.refl _ _⟩
    have d2 : decide (b < a) = false := decide_eq_false h2
    have h3 : 63 < b := by omega
    have d3 : decide (63 < b) = true := decide_eq_true h3
    clear h
    go_enter Try.func60, Try.ntmps60
    go_wp2_with (go_at_call 114; refine (C4.out _).mono ?_; rintro e w1 ⟨rfl, rfl⟩)
    go_ret2
    exact ⟨none, 0, rfl, Clk.nil_, Below.refl _ _⟩
end Go.Proofs.Ytnnfnphmieikmaa
