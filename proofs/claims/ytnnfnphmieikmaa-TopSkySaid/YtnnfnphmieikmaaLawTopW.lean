/-
  The walk of TopSky: it returns true, whatever it is given.
-/
import Derived.Test.YtnnfnphmieikmaaLawTop1
import Derived.Test.YtnnfnphmieikmaaLawTop2
import Derived.Test.YtnnfnphmieikmaaLawTop3
namespace Go.Proofs.Ytnnfnphmieikmaa
open Go Go.RowKit Go.Shelf

set_option maxRecDepth 100000 in
set_option maxHeartbeats 2000000 in
theorem topSky_walk (l : List (Int × Int)) (A : Option Addr) (c : Nat) (m : List (Int × Int)) (B : Option Addr) (d : Nat) (x0 x1 x2 : Int) (w : World) (hA : Marks w A l) (hc : l.length ≤ c) (hc0 : c ≤ maxLen) (hB : Marks w B m) (hd : m.length ≤ d) (hd0 : d ≤ maxLen)
    (h0 : (Lit.int .u16 x0).wf = true) (h1 : (Lit.int .u16 x1).wf = true) (h2 : (Lit.int .u16 x2).wf = true) :
    Calls Try.prog 17 #[.slice A l.length c, .slice B m.length d, .agg #[.int .u16 x0, .int .u16 x1, .int .u16 x2]] w fun e w' => e = .returned (.bool true) ∧ Below w.heap.size w w' := by
  have H : Hid (Clk w A c l) := ⟨hA, hc, hc0⟩
  have K : Hid (Clk w B d m) := ⟨hB, hd, hd0⟩
  clear hA hc hc0 hB hd hd0
  have h0 := u16_bd h0
  have h1 := u16_bd h1
  have h2 := u16_bd h2
  have hW0 : Below w.heap.size w (w.alloc (.cells #[.int .u16 x0, .int .u16 x1, .int .u16 x2] 66)) := Below.alloc (Below.refl _ _) (Nat.le_refl _) _
  by_cases k1 : 1000 < l.length
  · have t1 : decide ((1000 : Int) < (l.length : Int)) = true := decide_eq_true (by omega)
    go_enter Try.func17, Try.ntmps17
    go_wp2_with (first
      | (go_at_call 40; refine (lawLong_any _ _ _ _ _).mono ?_; rintro e w' ⟨rfl, rfl⟩)
      | (go_at_call 28; refine (sane_any _).mono ?_; rintro e w9 ⟨rfl, hB9⟩))
    go_ret
    exact ⟨rfl, below_step hW0 hB9⟩
  by_cases k2 : 1000 < m.length
  · have t1 : decide ((1000 : Int) < (l.length : Int)) = false := decide_eq_false (by omega)
    have t2 : decide ((1000 : Int) < (m.length : Int)) = true := decide_eq_true (by omega)
    go_enter Try.func17, Try.ntmps17
    go_wp2_with (first
      | (go_at_call 40; refine (lawLong_any _ _ _ _ _).mono ?_; rintro e w' ⟨rfl, rfl⟩)
      | (go_at_call 28; refine (sane_any _).mono ?_; rintro e w9 ⟨rfl, hB9⟩))
    go_ret
    exact ⟨rfl, below_step hW0 hB9⟩
  cases hl : vaB l with
  | false =>
    have t1 : decide ((1000 : Int) < (l.length : Int)) = false := decide_eq_false (by omega)
    have t2 : decide ((1000 : Int) < (m.length : Int)) = false := decide_eq_false (by omega)
    have VL := Lib.hid hl
    clear hl k1 k2
    go_enter Try.func17, Try.ntmps17
    go_wp2_with (first
      | (go_at_call 40; refine (lawLong_any _ _ _ _ _).mono ?_; rintro e w' ⟨rfl, rfl⟩)
      | (go_at_call 44; with_reducible refine (refValid_any l _ _ _ (H.out.marks.below hW0) H.out.len).mono ?_; rintro e w1 ⟨he, hB1⟩; rw [VL.out] at he; subst he; have hW1 := below_step hW0 hB1; clear hB1)
      | (go_at_call 28; refine (sane_any _).mono ?_; rintro e w9 ⟨rfl, hB9⟩)
      | fail)
    go_ret
    exact ⟨rfl, below_step hW1 hB9⟩
  | true =>
  cases hm : vaB m with
  | false =>
    have t1 : decide ((1000 : Int) < (l.length : Int)) = false := decide_eq_false (by omega)
    have t2 : decide ((1000 : Int) < (m.length : Int)) = false := decide_eq_false (by omega)
    have VL := Lib.hid hl
    have VM := Lib.hid hm
    clear hl hm k1 k2
    go_enter Try.func17, Try.ntmps17
    go_wp2_with (first
      | (go_at_call 40; refine (lawLong_any _ _ _ _ _).mono ?_; rintro e w' ⟨rfl, rfl⟩)
      | (go_at_call 44; with_reducible refine (refValid_any l _ _ _ (H.out.marks.below hW0) H.out.len).mono ?_; rintro e w1 ⟨he, hB1⟩; rw [VL.out] at he; subst he; have hW1 := below_step hW0 hB1; clear hB1)
      | (go_at_call 44; with_reducible refine (refValid_any m _ _ _ (K.out.marks.below hW1) K.out.len).mono ?_; rintro e w2 ⟨he, hB2⟩; rw [VM.out] at he; subst he; have hW2 := below_step hW1 hB2; clear hB2)
      | (go_at_call 28; refine (sane_any _).mono ?_; rintro e w9 ⟨rfl, hB9⟩)
      | fail)
    go_ret
    exact ⟨rfl, below_step hW2 hB9⟩
  | true =>
  clear hW0
  obtain ⟨a, ea, ha⟩ : ∃ a : Nat, x0 % 3072 = a ∧ a < 3072 := ⟨(x0 % 3072).toNat, by omega, by omega⟩
  obtain ⟨u, eu, hu⟩ : ∃ a : Nat, x1 % 63 = a ∧ a < 63 := ⟨(x1 % 63).toNat, by omega, by omega⟩
  obtain ⟨v, ev, hv⟩ : ∃ a : Nat, x2 % 63 = a ∧ a < 63 := ⟨(x2 % 63).toNat, by omega, by omega⟩
  have hk : 4 < 5 := by omega
  have hap : a < pxN 4 := by rw [px_top]; exact ha
  have Q := fact_of hk hap
  have oa := okP_nat hk hap
  have C2 : Hid (∀ W, Calls Try.prog 20 #[.int .i64 4, .int .i64 ((a : Nat) : Int)] W fun e w' => e = .returned (.tuple #[.int .i64 ((fB 4 a : Nat) : Int), .int .i64 ((xB 4 a : Nat) : Int), .int .i64 ((yB 4 a : Nat) : Int), .int .i64 0]) ∧ Below W.heap.size W w') :=
    Lib.hid (fun W => (skyPlace_any (4 : Nat) a W).mono fun _ _ h => ⟨by rw [h.1]; simp only [plF, plX, plY, okE, oa]; rfl, h.2⟩)
  have C3 : Hid (∀ W, Calls Try.prog 29 #[.int .i64 4, .int .i64 ((fB 4 a : Nat) : Int), .int .i64 ((xB 4 a : Nat) : Int), .int .i64 ((yB 4 a : Nat) : Int)] W fun e w' => e = .returned (.tuple #[.int .i64 ((a : Nat) : Int), .int .i64 0]) ∧ Below W.heap.size W w') :=
    Lib.hid (fun W => (skyNested_yes 4 (fB 4 a) (xB 4 a) (yB 4 a) hk Q.f Q.x Q.y W).mono fun _ _ h => ⟨by rw [h.1, show nB 4 (fB 4 a) 4 (xB 4 a) (yB 4 a) = a from Q.nest], h.2⟩)
  have C4 : Hid (∀ W, Calls Try.prog 22 #[.int .i64 4, .int .i64 ((a : Nat) : Int)] W fun e w' => e = .returned (.tuple #[.int .i64 ((NT 4 a : Nat) : Int), .int .i64 0]) ∧ Below W.heap.size W w') :=
    Lib.hid (fun W => (skyRing_any (4 : Nat) a W).mono fun _ _ h => ⟨by rw [h.1]; simp only [rgV, okE, oa]; rfl, h.2⟩)
  have C5 : Hid (∀ W, Calls Try.prog 24 #[.int .i64 4, .int .i64 ((NT 4 a : Nat) : Int)] W fun e w' => e = .returned (.tuple #[.int .i64 ((a : Nat) : Int), .int .i64 0]) ∧ Below W.heap.size W w') :=
    Lib.hid (fun W => (skyFromRing_any (4 : Nat) (NT 4 a : Nat) W).mono fun _ _ h => ⟨by rw [h.1]; simp only [frV, okE, okP_nat hk Q.n, Int.toNat_natCast, Q.t]; rfl, h.2⟩)
  have C7 : Hid (∀ W, Calls Try.prog 26 #[.int .i64 4, .int .i64 ((a : Nat) : Int)] W fun e w' => e = .returned (.tuple #[.int .i64 ((RT 4 a : Nat) : Int), .int .i64 ((PT 4 a : Nat) : Int), .int .i64 0]) ∧ Below W.heap.size W w') :=
    Lib.hid (fun W => (skyRingOf_any (4 : Nat) a W).mono fun _ _ h => ⟨by rw [h.1]; simp only [roR, roP, okE, oa]; rfl, h.2⟩)
  by_cases hx12 : x1 ≤ x2
  · rcases Nat.lt_trichotomy u v with hc | hc | hc
    · exact top_Alt l m a _ _ _ _ _ _ u v x0 x1 x2 A c B d w H K k1 k2 (Lib.hid hl) (Lib.hid hm) h0 h1 h2 ha (Lib.hid ea) C2 C3 C4 C5 (Lib.hid eu) (Lib.hid ev) hu hv (Lib.hid rfl) hx12 hc (inL m a) (Lib.hid rfl) C7
    · exact top_Aeq l m a _ _ _ _ _ _ u v x0 x1 x2 A c B d w H K k1 k2 (Lib.hid hl) (Lib.hid hm) h0 h1 h2 ha (Lib.hid ea) C2 C3 C4 C5 (Lib.hid eu) (Lib.hid ev) hu hv (Lib.hid rfl) hx12 hc (inL m a) (Lib.hid rfl) C7
    · exact top_Agt l m a _ _ _ _ _ _ u v x0 x1 x2 A c B d w H K k1 k2 (Lib.hid hl) (Lib.hid hm) h0 h1 h2 ha (Lib.hid ea) C2 C3 C4 C5 (Lib.hid eu) (Lib.hid ev) hu hv (Lib.hid rfl) hx12 hc (inL m a) (Lib.hid rfl) C7
  · rcases Nat.lt_trichotomy u v with hc | hc | hc
    · exact top_Blt l m a _ _ _ _ _ _ u v x0 x1 x2 A c B d w H K k1 k2 (Lib.hid hl) (Lib.hid hm) h0 h1 h2 ha (Lib.hid ea) C2 C3 C4 C5 (Lib.hid eu) (Lib.hid ev) hu hv (Lib.hid rfl) hx12 hc (inL m a) (Lib.hid rfl) C7
    · exact top_Beq l m a _ _ _ _ _ _ u v x0 x1 x2 A c B d w H K k1 k2 (Lib.hid hl) (Lib.hid hm) h0 h1 h2 ha (Lib.hid ea) C2 C3 C4 C5 (Lib.hid eu) (Lib.hid ev) hu hv (Lib.hid rfl) hx12 hc (inL m a) (Lib.hid rfl) C7
    · exact top_Bgt l m a _ _ _ _ _ _ u v x0 x1 x2 A c B d w H K k1 k2 (Lib.hid hl) (Lib.hid hm) h0 h1 h2 ha (Lib.hid ea) C2 C3 C4 C5 (Lib.hid eu) (Lib.hid ev) hu hv (Lib.hid rfl) hx12 hc (inL m a) (Lib.hid rfl) C7
end Go.Proofs.Ytnnfnphmieikmaa
