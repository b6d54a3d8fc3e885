/-
  Contracts: sort.Search, both Least.
-/
import Derived.Test.YtmndfcjkokolbaaLeastM
namespace Go.Proofs.Ytmndfcjkokolbaa
open Go.RowKit Go.Shelf

/-- What is asked of a function value that says yes or no to a number. -/
def PredAt (g : Nat) (lb : Array Value) (n : Nat) (p : Int → Bool) (w : World) : Prop :=
  ∀ (W : World) (i : Nat), i < n → Below w.heap.size w W → Calls Try.prog g (#[.int .i64 i] ++ lb) W fun e w' => e = .returned (.bool (p i)) ∧ Below W.heap.size W w'

theorem low_next {p : Int → Bool} {q t : Nat} (hm : ∀ a b : Nat, a ≤ b → p a = true → p b = true) (hq : p q = false) (ht : t < q + 1) : p t = false := by
  cases h : p t with
  | false => rfl
  | true => have := hm t q (by omega) h; rw [hq] at this; cases this
theorem low_nextZ {p : Int → Bool} {q t : Int} (hm : ∀ t, 0 ≤ t → t ≤ q → p t = true → p q = true) (hq : p q = false) (h0 : 0 ≤ t) (ht : t < q + 1) : p t = false := by
  cases h : p t with
  | false => rfl
  | true => have := hm t h0 (by omega) h; rw [hq] at this; cases this

set_option maxRecDepth 100000 in
set_option maxHeartbeats 1000000 in
theorem search_any (g : Nat) (lb : Array Value) (p : Int → Bool) (eg : ∀ args w, (callFunc g args).run Try.prog w = .ok (.enter g args) w) (n : Nat) (w : World) (hn : n ≤ 1000000) (hK : PredAt g lb n p w) (hmono : ∀ a b : Nat, a ≤ b → p a = true → p b = true) :
    Calls Try.prog 85 #[.int .i64 n, .func (.func g) #[] lb] w fun e w' => ∃ r : Nat, e = .returned (.int .i64 r) ∧ Below w.heap.size w w' ∧ r ≤ n ∧ Hid ((∀ t : Nat, t < r → p t = false) ∧ (r < n → p r = true)) := by
  have HK := Lib.hid hK
  have HM := Lib.hid hmono
  clear hK hmono
  go_enter Try.func85, Try.ntmps85
  go_wp2
  go_loopw [5, 6] (fun a b wr => ∃ lo hi : Nat, lo ≤ hi ∧ hi ≤ n ∧ a = .int .i64 lo ∧ b = .int .i64 hi ∧ Below w.heap.size w wr ∧ Hid ((∀ t : Nat, t < lo → p t = false) ∧ (hi < n → p hi = true))) (fun a b _ => (intOf b).toNat - (intOf a).toNat)
  case atStart => exact ⟨0, n, Nat.zero_le _, Nat.le_refl _, rfl, rfl, Below.refl _ _, fun t ht => absurd ht (Nat.not_lt_zero _), fun h => absurd h (Nat.lt_irrefl _)⟩
  case round =>
    obtain ⟨lo, hi, hlh, hin, rfl, rfl, hB, hP⟩ := hrel
    by_cases hlt : lo < hi
    · have hc := HK.out wr ((lo + hi) / 2) (by omega) hB
      rw [show (((lo + hi) / 2 : Nat) : Int) = ((lo : Int) + (hi : Int)) / 2 by omega] at hc
      have HE : Hid ((((lo + hi) / 2 : Nat) : Int) = ((lo : Int) + (hi : Int)) / 2) := by show _ = _; omega
      cases hp : p (((lo : Int) + (hi : Int)) / 2) with
      | false =>
        rw [hp] at hc
        have HP := Lib.hid hp
        clear hp
        go_wp2_with (go_at_fn g; refine hc.mono ?_; rintro e w3 ⟨rfl, hB3⟩; have hW3 : Below w.heap.size w w3 := below_step hB hB3)
        go_roundw
        case rel => exact ⟨(lo + hi) / 2 + 1, hi, by omega, hin, by rw [show ((lo : Int) + (hi : Int)) / 2 + 1 = (((lo + hi) / 2 + 1 : Nat) : Int) by omega], rfl, hW3, fun t ht => low_next (q := (lo + hi) / 2) HM.out (by rw [HE.out]; exact HP.out) ht, hP.out.2⟩
        case measure => simp [intOf]; omega
      | true =>
        rw [hp] at hc
        have HP := Lib.hid hp
        clear hp
        go_wp2_with (go_at_fn g; refine hc.mono ?_; rintro e w3 ⟨rfl, hB3⟩; have hW3 : Below w.heap.size w w3 := below_step hB hB3)
        go_roundw
        case rel => exact ⟨lo, (lo + hi) / 2, by omega, by omega, rfl, by rw [show ((lo : Int) + (hi : Int)) / 2 = (((lo + hi) / 2 : Nat) : Int) by omega], hW3, hP.out.1, fun _ => by rw [HE.out]; exact HP.out⟩
        case measure => simp [intOf]; omega
    · obtain rfl : lo = hi := by omega
      go_wp2
      go_ret
      exact ⟨lo, rfl, hB, hin, hP.out⟩

theorem nil_ne_ints (w : World) (a : Option Addr) (n c : Nat) : (binOp .neq 37 (.slice a n c) (.slice none 0 0)).run Try.prog w = .ok (.bool !a.isNone) w := by
  simp only [binOp]
  simp [Op.equal, Op.maxDepth, Lib.run_equalIn_slice_nil w 9999 37 3 a n c 0 0 Try.underlying37]

set_option maxRecDepth 100000 in
theorem keep_least (l : List Int) (A : Option Addr) (c B0 B1 n : Nat) (k : Int) (w : World) (h : Los w A l) (hc0 : w.cell? ⟨B0, 0, none⟩ = some (.slice A (l.length + 1) c)) (hc1 : w.cell? ⟨B1, 0, none⟩ = some (.int .i64 k)) :
    PredAt 86 #[.pointer (some ⟨B0, 0, none⟩), .pointer (some ⟨B1, 0, none⟩)] n (okS l k) w := by
  intro W i _ hB
  have hs0 := World.block_lt_of_cell? w _ hc0
  have hs1 := World.block_lt_of_cell? w _ hc1
  have c0 := (hB.cell (p := ⟨B0, 0, none⟩) hs0).trans hc0
  have c1 := (hB.cell (p := ⟨B1, 0, none⟩) hs1).trans hc1
  have j1 : B1 < W.heap.size := Nat.lt_of_lt_of_le hs1 hB.size
  have H := Lib.hid (h.below hB)
  have hnil := nil_ne_ints
  clear h hc0 hc1 hB hs0 hs1
  show Calls Try.prog _ #[.int .i64 i, .pointer (some ⟨B0, 0, none⟩), .pointer (some ⟨B1, 0, none⟩)] W _
  go_enter Try.func86, Try.ntmps86
  go_wp2_with fail
  refine (lamps_any l _ _ (i : Int) _ H.out).mono ?_
  rintro e w2 ⟨hR, hB2⟩
  have c2 := (hB2.cell (p := ⟨B1, 0, none⟩) j1).trans c1
  rcases hR with ⟨hn, rfl⟩ | ⟨ps, g1, g2, c3, c4, hn, rfl, hO1, hO2⟩
  · have HN := Lib.hid (okS_none (n := k) hn)
    clear hn
    go_wp2
    go_ret
    exact ⟨ret_bool HN.out.symm, hB2⟩
  · have HN := Lib.hid (okS_some (n := k) hn)
    clear hn
    go_wp2
    go_ret
    exact ⟨ret_bool HN.out.symm, hB2⟩

theorem least_found {l : List Int} {n : Int} {r : Nat} (hd : dimsB l) (hn : 1 ≤ n) (hr : (r : Int) ≤ l.sum) (h : (∀ t : Nat, t < r → okS l n t = false) ∧ ((r : Int) < l.sum → okS l n r = true)) : LeastOK l n r := by
  refine ⟨by omega, ?_, fun t h0 h1 => ?_⟩
  · rcases Int.lt_or_le (r : Int) l.sum with hc | hc
    · exact h.2 hc
    · rw [show (r : Int) = l.sum by omega]; exact okS_whole hd hn
  · obtain ⟨u, rfl⟩ := Int.eq_ofNat_of_zero_le h0
    exact h.1 u (by omega)

set_option maxRecDepth 100000 in
set_option maxHeartbeats 1000000 in
theorem iceLeast_any (ms : List (Int × Int)) (A : Option Addr) (c : Nat) (n : Int) (w : World) (h : Clk w A c ms) :
    Calls Try.prog 46 #[.slice A ms.length c, .int .i64 n] w fun e w' => ∃ r E : Int, e = .returned (.tuple #[.int .i64 r, .int .i64 E]) ∧ Below w.heap.size w w' ∧ Hid (LeastRes ms n r E) := by
  have H := Lib.hid h
  clear h
  have hB0 : Below w.heap.size w (w.alloc (.cells #[.int .i64 n] 3)) := (by repeat (first | with_reducible exact Below.refl _ _ | with_reducible assumption | refine below_drewN ?_ _ | with_reducible refine Below.drew ?_ | (refine Below.setCell ?_ (by first | (simp; done) | (simp; omega) | omega) _) | (refine Below.alloc ?_ (by first | (simp; done) | (simp; omega) | omega) _)))
  by_cases h0 : lookE ms [] = 0
  · have H0 := Lib.hid h0
    have HV := Lib.hid (look_parts h0).1
    clear h0
    by_cases hn : 1 ≤ n ∧ n ≤ 600
    · have HN := Lib.hid hn
      have t1 : decide (n < 1) = false := decide_eq_false (by omega)
      have t2 : decide (600 < n) = false := decide_eq_false (by omega)
      clear hn
      have hs := dims_bd (mt_ok HV.out) (mtL ms).length
      rw [sumN_all] at hs
      obtain ⟨S, hS⟩ := Int.eq_ofNat_of_zero_le hs.1
      have HS := Lib.hid hS
      have hSn : S ≤ 60000 := by omega
      clear hs hS
      have eg : ∀ args w, (callFunc 86 args).run Try.prog w = .ok (.enter 86 args) w := enters_of Try.func86 (by kernel_rfl) rfl
      have HEG := Lib.hid eg
      have HMONO : Hid (∀ a b : Nat, a ≤ b → okS (mtL ms) n a = true → okS (mtL ms) n b = true) := fun a b hab h => okS_more (mt_ok HV.out) (by omega) (by omega) h
      clear eg
      go_enter Try.func46, Try.ntmps46
      go_wp2_with (first
        | (go_at_call 60; refine (look_ok (ds := []) (H.out.below hB0) Ints.nil_ (Nat.zero_le _) H0.out).mono ?_; rintro e w1 ⟨A1, c1, rfl, hL, hB1⟩; have hz1 := hB1.size; simp at hz1; have hz2 : w.heap.size < w1.heap.size := (by omega); have c0 := (hB1.cell (p := ⟨w.heap.size, 0, none⟩) (by simp)).trans (show World.cell? _ _ = some (.int .i64 n) by go_simp))
        | (go_at_call 76; refine (whole_any (mtL ms) _ _ _ (hL.below ((Below.refl _ _).alloc (Nat.le_refl _) _))).mono ?_; rintro e w3 ⟨rfl, rfl⟩; rw [HS.out])
        | (go_at_call 85; refine (search_any _ _ _ HEG.out S _ (by omega) (keep_least (mtL ms) A1 c1 w1.heap.size w.heap.size S n (w1.alloc (.cells #[.slice A1 ((mtL ms).length + 1) c1] 67)) (hL.below ((Below.refl _ _).alloc (Nat.le_refl _) _)) (by go_simp) (by go_simp)) HMONO.out).mono ?_; rintro e w4 ⟨r, rfl, hB4, hr, hR⟩))
      go_ret2
      have e0 := leastE_ok HV.out HN.out
      refine ⟨_, _, rfl, ?_, e0.symm, .inl ⟨e0, least_found (mt_ok HV.out) HN.out.1 (by rw [HS.out]; omega) ⟨hR.out.1, fun hlt => hR.out.2 (by rw [HS.out] at hlt; omega)⟩⟩⟩
      have hW1 : Below w.heap.size w w1 := hB0.trans (hB1.mono (by simp))
      exact Below.trans (hW1.alloc (by omega) _) (hB4.mono (by simp; omega))
    · have HN := Lib.hid hn
      clear hn
      by_cases hn1 : n < 1
      · have t1 : decide (n < 1) = true := decide_eq_true hn1
        go_enter Try.func46, Try.ntmps46
        go_wp2_with (go_at_call 60; refine (look_ok (ds := []) (H.out.below hB0) Ints.nil_ (Nat.zero_le _) H0.out).mono ?_; rintro e w1 ⟨A1, c1, rfl, hL, hB1⟩; have hz1 := hB1.size; simp at hz1; have hz2 : w.heap.size < w1.heap.size := (by omega); have c0 := (hB1.cell (p := ⟨w.heap.size, 0, none⟩) (by simp)).trans (show World.cell? _ _ = some (.int .i64 n) by go_simp))
        go_ret2
        have e0 := leastE_arg HV.out HN.out
        have hW1 : Below w.heap.size w w1 := hB0.trans (hB1.mono (by simp))
        exact ⟨_, _, rfl, hW1.alloc (by omega) _, e0.symm, .inr ⟨by rw [e0]; decide, rfl⟩⟩
      · have t1 : decide (n < 1) = false := decide_eq_false hn1
        have t2 : decide (600 < n) = true := decide_eq_true (by have := HN.out; omega)
        go_enter Try.func46, Try.ntmps46
        go_wp2_with (go_at_call 60; refine (look_ok (ds := []) (H.out.below hB0) Ints.nil_ (Nat.zero_le _) H0.out).mono ?_; rintro e w1 ⟨A1, c1, rfl, hL, hB1⟩; have hz1 := hB1.size; simp at hz1; have hz2 : w.heap.size < w1.heap.size := (by omega); have c0 := (hB1.cell (p := ⟨w.heap.size, 0, none⟩) (by simp)).trans (show World.cell? _ _ = some (.int .i64 n) by go_simp))
        go_ret2
        have e0 := leastE_arg HV.out HN.out
        have hW1 : Below w.heap.size w w1 := hB0.trans (hB1.mono (by simp))
        exact ⟨_, _, rfl, hW1.alloc (by omega) _, e0.symm, .inr ⟨by rw [e0]; decide, rfl⟩⟩
  · have H0 := Lib.hid h0
    clear h0
    go_enter Try.func46, Try.ntmps46
    go_wp2_with (go_at_call 60; refine (look_no (ds := []) (H.out.below hB0) Ints.nil_ (Nat.zero_le _) H0.out).mono ?_; rintro e w1 ⟨E, rfl, hE0, hB1, hE⟩; have hz1 := hB1.size; simp at hz1)
    go_ret2
    have e0 : leastE ms n = lookE ms [] := by rw [leastE, if_neg H0.out]
    have hW1 : Below w.heap.size w w1 := hB0.trans (hB1.mono (by simp))
    exact ⟨_, _, rfl, hW1.alloc (by omega) _, by rw [e0]; exact hE.out, .inr ⟨by rw [e0]; exact H0.out, rfl⟩⟩

set_option maxRecDepth 100000 in
set_option maxHeartbeats 1000000 in
theorem refLeast_any (ms : List (Int × Int)) (A : Option Addr) (c : Nat) (n : Int) (w : World) (h : Clk w A c ms) :
    Calls Try.prog 47 #[.slice A ms.length c, .int .i64 n] w fun e w' => ∃ r E : Int, e = .returned (.tuple #[.int .i64 r, .int .i64 E]) ∧ Below w.heap.size w w' ∧ Hid (LeastRes ms n r E) := by
  have H := Lib.hid h
  clear h
  cases hv : viB ms with
  | false =>
    go_enter Try.func47, Try.ntmps47
    go_wp2_with (go_at_call 22; refine (refValid_any ms _ _ _ H.out.marks H.out.len).mono ?_; rintro e w1 ⟨rfl, q, rfl⟩)
    go_ret2
    have e0 := leastE_ice (n := n) hv
    exact ⟨_, _, rfl, (by repeat (first | with_reducible exact Below.refl _ _ | with_reducible assumption | refine below_drewN ?_ _ | with_reducible refine Below.drew ?_ | (refine Below.setCell ?_ (by first | (simp; done) | (simp; omega) | omega) _) | (refine Below.alloc ?_ (by first | (simp; done) | (simp; omega) | omega) _))), e0.symm, .inr ⟨by rw [e0]; decide, rfl⟩⟩
  | true =>
    have HV := Lib.hid hv
    by_cases hn : 1 ≤ n ∧ n ≤ 600
    · have HN := Lib.hid hn
      have HN2 := Lib.hid (decide_eq_true hn)
      have hw := dims_bd (mt_ok hv) (mtL ms).length
      rw [sumN_all] at hw
      have HTOP : Hid (okS (mtL ms) n 100000 = true) := okS_more (mt_ok hv) hw.1 (by omega) (okS_whole (mt_ok hv) hn.1)
      clear hn hw
      go_enter Try.func47, Try.ntmps47
      go_wp2_with (first
        | (go_at_call 22; refine (refValid_any ms _ _ _ H.out.marks H.out.len).mono ?_; rintro e w1 ⟨rfl, q, rfl⟩)
        | (go_at_call 65; refine (refWithin_any _ _ _ _).mono ?_; rintro e w' ⟨rfl, rfl⟩; rw [HN2.out])
        | (go_at_call 58; refine (metres_any ms _ _ _ (H.out.below (below_drewN (Below.refl _ _) q)).marks HV.out).mono ?_; rintro e w2 ⟨A2, c2, xs, rfl, hO, hB2, hx⟩; obtain rfl := hx.out; have hW2 := below_step (below_drewN (Below.refl w.heap.size w) q) hB2; have HI := Lib.hid hO.ints; clear hO))
      go_loopw [7, 8] (fun a b wr => ∃ lo hi : Int, 0 ≤ lo ∧ lo ≤ hi ∧ hi ≤ 100000 ∧ a = .int .i64 lo ∧ b = .int .i64 hi ∧ Below w2.heap.size w2 wr ∧ Hid ((∀ t, 0 ≤ t → t < lo → okS (mtL ms) n t = false) ∧ okS (mtL ms) n hi = true)) (fun a b _ => (intOf b - intOf a).toNat)
      case atStart => exact ⟨0, 100000, by omega, by omega, by omega, rfl, rfl, Below.refl _ _, fun t h1 h2 => by omega, HTOP.out⟩
      case round =>
        obtain ⟨lo, hi, hl0, hlh, hh, rfl, rfl, hB, hP⟩ := hrel
        by_cases hlt : lo < hi
        · have t1 : decide (lo < hi) = true := decide_eq_true hlt
          obtain ⟨md, hmd, hm0, hm1⟩ : ∃ md : Int, (lo + hi) / 2 = md ∧ lo ≤ md ∧ md < hi := ⟨_, rfl, by omega, by omega⟩
          have s1 : IntKind.i64.wrap (lo + hi) = lo + hi := IntWalk.i64_in _ (by omega)
          have s2 : IntKind.i64.wrap md = md := IntWalk.i64_in _ (by omega)
          have HMONO : Hid (∀ t, 0 ≤ t → t ≤ md → okS (mtL ms) n t = true → okS (mtL ms) n md = true) := fun t h0 h1 h => okS_more (mt_ok HV.out) h0 h1 h
          go_wp2_with fail
          refine (reflamps_any (mtL ms) _ _ md _ (HI.out.below hB) (mt_ok HV.out) (by omega) (by omega)).mono ?_
          rintro e w3 ⟨hR, hB3⟩
          have hW3 := below_step hB hB3
          rcases hR with ⟨hnn, rfl⟩ | ⟨ps, g1, g2, c3, c4, hnn, rfl, hO1, hO2⟩
          · have HNO := Lib.hid (okS_none (n := n) hnn)
            clear hnn
            go_wp2
            go_roundw
            case rel => exact ⟨md + 1, hi, by omega, by omega, hh, by go_num, rfl, hW3, fun t h0 h1 => low_nextZ HMONO.out HNO.out h0 h1, hP.out.2⟩
            case measure => simp [intOf]; omega
          · have HNO := Lib.hid (okS_some (n := n) hnn)
            clear hnn
            by_cases hle : (ps.length : Int) ≤ n
            · have t2 : decide ((ps.length : Int) ≤ n) = true := decide_eq_true hle
              have HY : Hid (okS (mtL ms) n md = true) := by show _ = _; rw [HNO.out, t2]
              clear hle
              go_wp2
              go_roundw
              case rel => exact ⟨lo, md, hl0, hm0, by omega, rfl, rfl, hW3, hP.out.1, HY.out⟩
              case measure => simp [intOf]; omega
            · have t2 : decide ((ps.length : Int) ≤ n) = false := decide_eq_false hle
              have HY : Hid (okS (mtL ms) n md = false) := by show _ = _; rw [HNO.out, t2]
              clear hle
              go_wp2
              go_roundw
              case rel => exact ⟨md + 1, hi, by omega, by omega, hh, by go_num, rfl, hW3, fun t h0 h1 => low_nextZ HMONO.out HY.out h0 h1, hP.out.2⟩
              case measure => simp [intOf]; omega
        · obtain rfl : lo = hi := by omega
          have t1 : decide (lo < lo) = false := decide_eq_false (by omega)
          go_wp2
          go_ret2
          have e0 := leastE_ok HV.out HN.out
          exact ⟨_, _, rfl, below_step hW2 hB, e0.symm, .inl ⟨e0, hl0, hP.out.2, hP.out.1⟩⟩
    · have HN := Lib.hid hn
      have HN2 := Lib.hid (decide_eq_false hn)
      clear hn
      go_enter Try.func47, Try.ntmps47
      go_wp2_with (first
        | (go_at_call 22; refine (refValid_any ms _ _ _ H.out.marks H.out.len).mono ?_; rintro e w1 ⟨rfl, q, rfl⟩)
        | (go_at_call 65; refine (refWithin_any _ _ _ _).mono ?_; rintro e w' ⟨rfl, rfl⟩; rw [HN2.out]))
      go_ret2
      have e0 := leastE_arg HV.out HN.out
      exact ⟨_, _, rfl, (by repeat (first | with_reducible exact Below.refl _ _ | with_reducible assumption | refine below_drewN ?_ _ | with_reducible refine Below.drew ?_ | (refine Below.setCell ?_ (by first | (simp; done) | (simp; omega) | omega) _) | (refine Below.alloc ?_ (by first | (simp; done) | (simp; omega) | omega) _))), e0.symm, .inr ⟨by rw [e0]; decide, rfl⟩⟩
end Go.Proofs.Ytmndfcjkokolbaa
