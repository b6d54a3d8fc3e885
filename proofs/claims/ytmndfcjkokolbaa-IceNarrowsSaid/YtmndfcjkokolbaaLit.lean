/-
  Contracts: up, down, lookBy, Lit, Down, Up (ice).
-/
import Derived.Test.YtmndfcjkokolbaaSane
namespace Go.Proofs.Ytmndfcjkokolbaa
open Go.RowKit Go.Shelf

theorem lossZ_any (l : List Int) (A : Option Addr) (c : Nat) (a b : Int) (w : World) (h : Los w A l) (ha0 : 0 ≤ a) (ha : a ≤ l.length) (hb0 : 0 ≤ b) (hb : b ≤ l.length) :
    Calls Try.prog 66 #[.slice A (l.length + 1) c, .int .i64 a, .int .i64 b] w fun e w' => e = .returned (.int .i64 (lossI l a b)) ∧ ∃ n, w' = w.drewN n := by
  obtain ⟨x, rfl⟩ := Int.eq_ofNat_of_zero_le ha0
  obtain ⟨y, rfl⟩ := Int.eq_ofNat_of_zero_le hb0
  exact loss_any l A c x y w h (by omega) (by omega)
theorem Los.drewN {w : World} {A : Option Addr} {l : List Int} (h : Los w A l) (n : Nat) : Los (w.drewN n) A l := h.below (below_drewN (Below.refl _ _) n)

theorem dn_go {l : List Int} {f k : Nat} {s d : Int} (hx : l[k]? = some d) (hfk : f ≤ k) (h : dnN l f s = dnN l k (s - (sumN l k - sumN l f))) (ht : lossI l f ((k : Int) + 1) ≤ s) :
    dnN l f s = dnN l (k + 1) (s - (sumN l (k + 1) - sumN l f)) := by
  rw [show ((k : Int) + 1) = ((k + 1 : Nat) : Int) by omega, loss_le (by omega), sumN_succ hx] at ht
  rw [h, dn_step hx (by omega), sumN_succ hx]; congr 1; omega
theorem dn_halt {l : List Int} {f k : Nat} {s d : Int} (hx : l[k]? = some d) (hfk : f ≤ k) (h : dnN l f s = dnN l k (s - (sumN l k - sumN l f))) (ht : s < lossI l f ((k : Int) + 1)) :
    dnN l f s = k := by
  rw [show ((k : Int) + 1) = ((k + 1 : Nat) : Int) by omega, loss_le (by omega), sumN_succ hx] at ht
  rw [h, dn_stop hx (by omega)]
theorem up_go {l : List Int} {f k : Nat} {s d : Int} (hx : l[k]? = some d) (hfk : k + 1 ≤ f) (h : upN l f s = upN l (k + 1) (s - (sumN l f - sumN l (k + 1)))) (ht : lossI l f k ≤ s) :
    upN l f s = upN l k (s - (sumN l f - sumN l k)) := by
  rw [loss_ge (by omega)] at ht
  rw [h, up_step hx (by rw [sumN_succ hx]; omega), sumN_succ hx]; congr 1; omega
theorem up_halt {l : List Int} {f k : Nat} {s d : Int} (hx : l[k]? = some d) (hfk : k + 1 ≤ f) (h : upN l f s = upN l (k + 1) (s - (sumN l f - sumN l (k + 1)))) (ht : s < lossI l f k) :
    upN l f s = k + 1 := by
  rw [loss_ge (by omega)] at ht
  rw [h, up_stop hx (by rw [sumN_succ hx]; omega)]

set_option maxRecDepth 100000 in
set_option maxHeartbeats 400000 in
theorem down_any (l : List Int) (A : Option Addr) (c : Nat) (f : Nat) (s : Int) (w : World) (h : Los w A l) (hf : f ≤ l.length) :
    Calls Try.prog 71 #[.slice A (l.length + 1) c, .int .i64 f, .int .i64 s] w fun e w' => e = .returned (.int .i64 (dnN l f s)) ∧ ∃ n, w' = w.drewN n := by
  have H := Lib.hid h
  have hlen := h.dims.2
  clear h
  go_enter Try.func71, Try.ntmps71
  go_wp2
  go_loopw [7] (fun i wr => ∃ k n : Nat, f ≤ k ∧ k ≤ l.length ∧ i = .int .i64 k ∧ wr = w.drewN n ∧ Hid (dnN l f s = dnN l k (s - (sumN l k - sumN l f)))) (fun i _ => l.length - (intOf i).toNat)
  case atStart => exact ⟨f, 0, Nat.le_refl _, hf, rfl, rfl, by show _ = _; rw [Int.sub_self, Int.sub_zero]⟩
  case round =>
    obtain ⟨k, n, hfk, hk, rfl, rfl, hD⟩ := hrel
    by_cases hlt : k < l.length
    · obtain ⟨d, hd⟩ := getElem?_of_lt hlt
      have HX := Lib.hid hd
      have t0 : decide ((k : Int) < (l.length : Int)) = true := decide_eq_true (by omega)
      clear hd
      have hsm := loss_bd H.out.dims f ((k : Int) + 1)
      generalize hL : lossI l f ((k : Int) + 1) = L at *
      have HL := Lib.hid hL
      clear hL
      by_cases ht : L ≤ s
      · have HT : Hid (lossI l f ((k : Int) + 1) ≤ s) := by show _ ≤ _; rw [HL.out]; exact ht
        have t1 : decide (L ≤ s) = true := decide_eq_true ht
        go_wp2_with (first
          | (go_at_call 61; refine (depth_any _ _ _ _ (by omega)).mono ?_; rintro e w1 ⟨rfl, rfl⟩)
          | (go_at_call 66; refine (lossZ_any l _ _ _ _ _ (H.out.drewN n) (by omega) (by omega) (by omega) (by omega)).mono ?_; rintro e w2 ⟨rfl, m, rfl⟩; rw [HL.out]))
        go_roundw
        case rel => exact ⟨k + 1, _, by omega, by omega, by go_num, (by first | rfl | exact World.drewN_drewN _ _ _), dn_go HX.out hfk hD.out HT.out⟩
        case measure => simp [intOf]; omega
      · have HT : Hid (s < lossI l f ((k : Int) + 1)) := by show _ < _; rw [HL.out]; exact Int.not_le.1 ht
        have t1 : decide (L ≤ s) = false := decide_eq_false ht
        go_wp2_with (first
          | (go_at_call 61; refine (depth_any _ _ _ _ (by omega)).mono ?_; rintro e w1 ⟨rfl, rfl⟩)
          | (go_at_call 66; refine (lossZ_any l _ _ _ _ _ (H.out.drewN n) (by omega) (by omega) (by omega) (by omega)).mono ?_; rintro e w2 ⟨rfl, m, rfl⟩; rw [HL.out]))
        go_ret
        exact ⟨ret_int (by rw [dn_halt HX.out hfk hD.out HT.out]), _, (by first | rfl | exact World.drewN_drewN _ _ _)⟩
    · have t0 : decide ((k : Int) < (l.length : Int)) = false := decide_eq_false (by omega)
      go_wp2_with (go_at_call 61; refine (depth_any _ _ _ _ (by omega)).mono ?_; rintro e w1 ⟨rfl, rfl⟩)
      go_ret
      exact ⟨ret_int (by rw [hD.out, dn_end (by omega)]), _, rfl⟩

set_option maxRecDepth 100000 in
set_option maxHeartbeats 400000 in
theorem up_any (l : List Int) (A : Option Addr) (c : Nat) (f : Nat) (s : Int) (w : World) (h : Los w A l) (hf : f ≤ l.length) :
    Calls Try.prog 70 #[.slice A (l.length + 1) c, .int .i64 f, .int .i64 s] w fun e w' => e = .returned (.int .i64 (upN l f s)) ∧ ∃ n, w' = w.drewN n := by
  have H := Lib.hid h
  have hlen := h.dims.2
  clear h
  go_enter Try.func70, Try.ntmps70
  go_wp2
  go_loopw [7] (fun i wr => ∃ k n : Nat, k ≤ f ∧ i = .int .i64 k ∧ wr = w.drewN n ∧ Hid (upN l f s = upN l k (s - (sumN l f - sumN l k)))) (fun i _ => (intOf i).toNat)
  case atStart => exact ⟨f, 0, Nat.le_refl _, rfl, rfl, by show _ = _; rw [Int.sub_self, Int.sub_zero]⟩
  case round =>
    obtain ⟨k', n, hfk, rfl, rfl, hD⟩ := hrel
    cases k' with
    | zero =>
      go_wp2
      go_ret
      exact ⟨ret_int (by rw [hD.out, up_end]), _, rfl⟩
    | succ k =>
      obtain ⟨d, hd⟩ := getElem?_of_lt (show k < l.length by omega)
      have HX := Lib.hid hd
      have s1 : IntKind.i64.wrap ((k : Int) + 1 - 1) = k := by rw [Int.add_sub_cancel]; exact IntWalk.i64_in _ (by omega)
      have t0 : decide ((0 : Int) < (k : Int) + 1) = true := decide_eq_true (by omega)
      clear hd
      generalize hL : lossI l f k = L at *
      have HL := Lib.hid hL
      clear hL
      by_cases ht : L ≤ s
      · have HT : Hid (lossI l f k ≤ s) := by show _ ≤ _; rw [HL.out]; exact ht
        have t1 : decide (L ≤ s) = true := decide_eq_true ht
        go_wp2_with (go_at_call 66; refine (lossZ_any l _ _ _ _ _ (H.out.drewN n) (by omega) (by omega) (by omega) (by omega)).mono ?_; rintro e w2 ⟨rfl, m, rfl⟩; rw [HL.out])
        go_roundw
        case rel => exact ⟨k, _, by omega, by go_num, (by first | rfl | exact World.drewN_drewN _ _ _), up_go HX.out hfk hD.out HT.out⟩
        case measure => simp [intOf]
      · have HT : Hid (s < lossI l f k) := by show _ < _; rw [HL.out]; exact Int.not_le.1 ht
        have t1 : decide (L ≤ s) = false := decide_eq_false ht
        go_wp2_with (go_at_call 66; refine (lossZ_any l _ _ _ _ _ (H.out.drewN n) (by omega) (by omega) (by omega) (by omega)).mono ?_; rintro e w2 ⟨rfl, m, rfl⟩; rw [HL.out])
        go_ret
        exact ⟨ret_int (by rw [up_halt HX.out hfk hD.out HT.out]; rfl), _, (by first | rfl | exact World.drewN_drewN _ _ _)⟩

/-! ### lookBy -/
def lookByE (ms : List (Int × Int)) (ds : List Int) (s : Int) : Int := if lookE ms ds = 0 then (if inB 100000 s then 0 else 2) else lookE ms ds
theorem lookByE_parts {ms : List (Int × Int)} {ds : List Int} {s : Int} (h : lookByE ms ds s = 0) : lookE ms ds = 0 ∧ 0 ≤ s ∧ s ≤ 100000 := by
  unfold lookByE at h
  by_cases h0 : lookE ms ds = 0
  · rw [if_pos h0] at h
    cases hi : inB 100000 s with
    | true => exact ⟨h0, by simpa [inB] using hi⟩
    | false => rw [hi] at h; simp at h
  · rw [if_neg h0] at h; exact absurd h h0
theorem lookByE_ok {ms : List (Int × Int)} {ds : List Int} {s : Int} (h : lookE ms ds = 0) (hs : inB 100000 s = true) : lookByE ms ds s = 0 := by rw [lookByE, if_pos h, hs]; rfl
theorem lookByE_arg {ms : List (Int × Int)} {ds : List Int} {s : Int} (h : lookE ms ds = 0) (hs : inB 100000 s = false) : lookByE ms ds s = 2 := by rw [lookByE, if_pos h, hs]; rfl
theorem lookByE_no {ms : List (Int × Int)} {ds : List Int} {s : Int} (h : lookE ms ds ≠ 0) : lookByE ms ds s = lookE ms ds := by rw [lookByE, if_neg h]

set_option maxRecDepth 100000 in
set_option maxHeartbeats 400000 in
theorem lookBy_any (ms : List (Int × Int)) (A : Option Addr) (c : Nat) (s : Int) (ds : List Int) (D : Option Addr) (cd : Nat) (w : World) (h : Clk w A c ms) (hD : Ints w D ds) (hdl : ds.length ≤ maxLen) :
    Calls Try.prog 69 #[.slice A ms.length c, .int .i64 s, .slice D ds.length cd] w fun e w' => Below w.heap.size w w' ∧
      ((lookByE ms ds s = 0 ∧ ∃ A' c', e = .returned (.tuple #[.slice A' ((mtL ms).length + 1) c', .int .i64 0]) ∧ Los w' A' (mtL ms)) ∨ (lookByE ms ds s ≠ 0 ∧ ∃ E : Int, E = lookByE ms ds s ∧ e = .returned (.tuple #[.slice none 0 0, .int .i64 E]))) := by
  have H := Lib.hid (And.intro h (And.intro hD hdl))
  clear h hD hdl
  by_cases h0 : lookE ms ds = 0
  · have H0 := Lib.hid h0
    clear h0
    cases hs : inB 100000 s with
    | false =>
      have HS := Lib.hid hs
      clear hs
      go_enter Try.func69, Try.ntmps69
      go_wp2_with (first
        | (go_at_call 60; refine (look_ok H.out.1 H.out.2.1 H.out.2.2 H0.out).mono ?_; rintro e w1 ⟨A1, c1, rfl, hL, hB1⟩; have hz1 := hB1.size)
        | (go_at_call 64; refine (within_any 100000 [s] (some ⟨w1.heap.size, 0, none⟩) 1 _ (Ints.one (by go_simp)) (by simp [maxLen])).mono ?_; rintro e w2 ⟨rfl, n, rfl⟩; rw [show [s].all (inB 100000) = false by simp [HS.out]]))
      go_ret2
      exact ⟨(by repeat (first | with_reducible exact Below.refl _ _ | with_reducible assumption | refine below_drewN ?_ _ | with_reducible refine Below.drew ?_ | (refine Below.setCell ?_ (by first | (simp; done) | (simp; omega) | omega) _) | (refine Below.alloc ?_ (by first | (simp; done) | (simp; omega) | omega) _))), .inr ⟨by rw [lookByE_arg H0.out HS.out]; decide, 2, (lookByE_arg H0.out HS.out).symm, rfl⟩⟩
    | true =>
      have HS := Lib.hid hs
      clear hs
      go_enter Try.func69, Try.ntmps69
      go_wp2_with (first
        | (go_at_call 60; refine (look_ok H.out.1 H.out.2.1 H.out.2.2 H0.out).mono ?_; rintro e w1 ⟨A1, c1, rfl, hL, hB1⟩; have hz1 := hB1.size)
        | (go_at_call 64; refine (within_any 100000 [s] (some ⟨w1.heap.size, 0, none⟩) 1 _ (Ints.one (by go_simp)) (by simp [maxLen])).mono ?_; rintro e w2 ⟨rfl, n, rfl⟩; rw [show [s].all (inB 100000) = true by simp [HS.out]]))
      go_ret2
      exact ⟨(by repeat (first | with_reducible exact Below.refl _ _ | with_reducible assumption | refine below_drewN ?_ _ | with_reducible refine Below.drew ?_ | (refine Below.setCell ?_ (by first | (simp; done) | (simp; omega) | omega) _) | (refine Below.alloc ?_ (by first | (simp; done) | (simp; omega) | omega) _))), .inl ⟨lookByE_ok H0.out HS.out, A1, c1, rfl, hL.below (below_drewN ((Below.refl _ _).alloc (Nat.le_refl _) _) n)⟩⟩
  · have H0 := Lib.hid h0
    clear h0
    go_enter Try.func69, Try.ntmps69
    go_wp2_with (go_at_call 60; refine (look_no H.out.1 H.out.2.1 H.out.2.2 H0.out).mono ?_; rintro e w1 ⟨E, rfl, hE0, hB1, hE⟩)
    go_ret2
    exact ⟨hB1, .inr ⟨by rw [lookByE_no H0.out]; exact H0.out, E, by rw [lookByE_no H0.out]; exact hE.out, rfl⟩⟩
theorem lookBy_ok {ms : List (Int × Int)} {A : Option Addr} {c : Nat} {s : Int} {ds : List Int} {D : Option Addr} {cd : Nat} {w : World} (h : Clk w A c ms) (hD : Ints w D ds) (hdl : ds.length ≤ maxLen) (h0 : lookByE ms ds s = 0) :
    Calls Try.prog 69 #[.slice A ms.length c, .int .i64 s, .slice D ds.length cd] w fun e w' => ∃ A' c', e = .returned (.tuple #[.slice A' ((mtL ms).length + 1) c', .int .i64 0]) ∧ Los w' A' (mtL ms) ∧ Below w.heap.size w w' :=
  (lookBy_any ms A c s ds D cd w h hD hdl).mono fun e w' ⟨hB, hh⟩ => by
    rcases hh with ⟨_, A', c', he, hL⟩ | ⟨h1, _⟩
    · exact ⟨A', c', he, hL, hB⟩
    · exact absurd h0 h1
theorem lookBy_no {ms : List (Int × Int)} {A : Option Addr} {c : Nat} {s : Int} {ds : List Int} {D : Option Addr} {cd : Nat} {w : World} (h : Clk w A c ms) (hD : Ints w D ds) (hdl : ds.length ≤ maxLen) (h0 : lookByE ms ds s ≠ 0) :
    Calls Try.prog 69 #[.slice A ms.length c, .int .i64 s, .slice D ds.length cd] w fun e w' => ∃ E : Int, e = .returned (.tuple #[.slice none 0 0, .int .i64 E]) ∧ (E != 0) = true ∧ Below w.heap.size w w' ∧ Hid (E = lookByE ms ds s) :=
  (lookBy_any ms A c s ds D cd w h hD hdl).mono fun e w' ⟨hB, hh⟩ => by
    rcases hh with ⟨h1, _⟩ | ⟨h1, E, hE, he⟩
    · exact absurd h1 h0
    · exact ⟨E, he, by rw [hE]; simpa using h1, hB, hE⟩

/-! ### Lit -/
def litE (ms : List (Int × Int)) (a s : Int) : Int := lookByE ms [a] s
def litU (ms : List (Int × Int)) (a s : Int) : Int := if litE ms a s = 0 then (upN (mtL ms) a.toNat s : Int) else 0
def litD (ms : List (Int × Int)) (a s : Int) : Int := if litE ms a s = 0 then (dnN (mtL ms) a.toNat s : Int) else 0
theorem litE_in {ms : List (Int × Int)} {a s : Int} (h : litE ms a s = 0) : viB ms = true ∧ (0 ≤ a ∧ a ≤ depthN ms) ∧ 0 ≤ s ∧ s ≤ 100000 := by
  have h1 := lookByE_parts h
  have h2 := look_parts h1.1
  exact ⟨h2.1, by simpa [inB, depthN] using h2.2, h1.2⟩

set_option maxRecDepth 100000 in
set_option maxHeartbeats 400000 in
theorem iceLit_any (ms : List (Int × Int)) (A : Option Addr) (c : Nat) (a s : Int) (w : World) (h : Clk w A c ms) :
    Calls Try.prog 29 #[.slice A ms.length c, .int .i64 a, .int .i64 s] w fun e w' => ∃ u d E : Int, e = .returned (.tuple #[.int .i64 u, .int .i64 d, .int .i64 E]) ∧ Below w.heap.size w w' ∧ Hid (u = litU ms a s ∧ d = litD ms a s ∧ E = litE ms a s) := by
  have H := Lib.hid h
  clear h
  have hB0 : Below w.heap.size w (w.alloc (.cells #[.int .i64 a] 3)) := (by repeat (first | with_reducible exact Below.refl _ _ | with_reducible assumption | refine below_drewN ?_ _ | with_reducible refine Below.drew ?_ | (refine Below.setCell ?_ (by first | (simp; done) | (simp; omega) | omega) _) | (refine Below.alloc ?_ (by first | (simp; done) | (simp; omega) | omega) _)))
  by_cases h0 : litE ms a s = 0
  · have H0 := Lib.hid h0
    obtain ⟨hv, ⟨ha0, ha1⟩, hs⟩ := litE_in h0
    obtain ⟨x, rfl⟩ := Int.eq_ofNat_of_zero_le ha0
    have hx : x ≤ (mtL ms).length := by unfold depthN at ha1; omega
    clear h0 ha0 ha1 hs hv
    go_enter Try.func29, Try.ntmps29
    go_wp2_with (first
      | (go_at_call 69; refine (lookBy_ok (ds := [(x : Int)]) (D := some ⟨w.heap.size, 0, none⟩) (H.out.below hB0) (Ints.one (by go_simp)) (by simp [maxLen]) H0.out).mono ?_; rintro e w1 ⟨A1, c1, rfl, hL, hB1⟩)
      | (go_at_call 70; refine (up_any (mtL ms) _ _ x _ _ hL hx).mono ?_; rintro e w2 ⟨rfl, n, rfl⟩)
      | (go_at_call 71; refine (down_any (mtL ms) _ _ x _ _ (hL.drewN n) hx).mono ?_; rintro e w3 ⟨rfl, m, rfl⟩))
    go_ret3
    exact ⟨_, _, _, rfl, below_drewN (hB0.trans (hB1.mono (by simp))) _, by rw [litU, if_pos H0.out]; rfl, by rw [litD, if_pos H0.out]; rfl, H0.out.symm⟩
  · have H0 := Lib.hid h0
    clear h0
    go_enter Try.func29, Try.ntmps29
    go_wp2_with (go_at_call 69; refine (lookBy_no (ds := [a]) (D := some ⟨w.heap.size, 0, none⟩) (H.out.below hB0) (Ints.one (by go_simp)) (by simp [maxLen]) H0.out).mono ?_; rintro e w1 ⟨E, rfl, hE0, hB1, hE⟩)
    go_ret3
    exact ⟨_, _, _, rfl, hB0.trans (hB1.mono (by simp)), by rw [litU, if_neg H0.out], by rw [litD, if_neg H0.out], hE.out⟩
set_option maxRecDepth 100000 in
theorem iceDown_any (ms : List (Int × Int)) (A : Option Addr) (c : Nat) (a s : Int) (w : World) (h : Clk w A c ms) :
    Calls Try.prog 31 #[.slice A ms.length c, .int .i64 a, .int .i64 s] w fun e w' => ∃ d E : Int, e = .returned (.tuple #[.int .i64 d, .int .i64 E]) ∧ Below w.heap.size w w' ∧ Hid (d = litD ms a s ∧ E = litE ms a s) := by
  have H := Lib.hid h
  clear h
  go_enter Try.func31, Try.ntmps31
  go_wp2_with (go_at_call 29; refine (iceLit_any ms _ _ _ _ _ H.out).mono ?_; rintro e w1 ⟨u, d, E, rfl, hB1, hE⟩)
  go_ret2
  exact ⟨_, _, rfl, hB1, hE.out.2⟩
set_option maxRecDepth 100000 in
theorem iceUp_any (ms : List (Int × Int)) (A : Option Addr) (c : Nat) (a s : Int) (w : World) (h : Clk w A c ms) :
    Calls Try.prog 33 #[.slice A ms.length c, .int .i64 a, .int .i64 s] w fun e w' => ∃ d E : Int, e = .returned (.tuple #[.int .i64 d, .int .i64 E]) ∧ Below w.heap.size w w' ∧ Hid (d = litU ms a s ∧ E = litE ms a s) := by
  have H := Lib.hid h
  clear h
  go_enter Try.func33, Try.ntmps33
  go_wp2_with (go_at_call 29; refine (iceLit_any ms _ _ _ _ _ H.out).mono ?_; rintro e w1 ⟨u, d, E, rfl, hB1, hE⟩)
  go_ret2
  exact ⟨_, _, rfl, hB1, hE.out.1, hE.out.2.2⟩
end Go.Proofs.Ytmndfcjkokolbaa
