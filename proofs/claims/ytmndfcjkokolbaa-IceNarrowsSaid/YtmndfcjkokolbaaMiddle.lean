/-
  Contracts: IndexFunc at losses, both Middle.
-/
import Derived.Test.YtmndfcjkokolbaaRefLit
namespace Go.Proofs.Ytmndfcjkokolbaa
open Go.RowKit Go.Shelf

/-- What is asked of a function value that says yes or no to a number of a list. -/
def KeepAt (g : Nat) (lb : Array Value) (p : Int → Bool) (S : List Int) (w : World) : Prop :=
  ∀ (W : World) (a : Int), a ∈ S → Below w.heap.size w W → Calls Try.prog g (#[.int .i64 a] ++ lb) W fun e w' => e = .returned (.bool (p a)) ∧ Below W.heap.size W w'
/-- The first number that is kept, or -1. -/
def FirstAt (xs : List Int) (p : Int → Bool) (r : Int) : Prop :=
  (∃ (k : Nat) (z : Int), r = k ∧ xs[k]? = some z ∧ p z = true ∧ ∀ j : Nat, j < k → ∀ y : Int, xs[j]? = some y → p y = false) ∨ (r = -1 ∧ ∀ (j : Nat) (y : Int), xs[j]? = some y → p y = false)
theorem any_false {xs : List Int} {p : Int → Bool} {k : Nat} (h : (xs.take k).any p = false) : ∀ j, j < k → ∀ y, xs[j]? = some y → p y = false := by
  intro j hj y hy
  rw [List.any_eq_false] at h
  have := h y (List.mem_of_getElem? (by rw [List.getElem?_take_of_lt hj]; exact hy : (xs.take k)[j]? = some y))
  simpa using this

set_option maxRecDepth 100000 in
set_option maxHeartbeats 400000 in
theorem indexL_any (g : Nat) (lb : Array Value) (p : Int → Bool) (eg : ∀ args w, (callFunc g args).run Try.prog w = .ok (.enter g args) w) (xs : List Int) (A : Option Addr) (c : Nat) (w : World) (hK : KeepAt g lb p xs w) (h : Ints w A xs) (hn : xs.length ≤ 1000) :
    Calls Try.prog 74 #[.slice A xs.length c, .func (.func g) #[] lb] w fun e w' => ∃ r : Int, e = .returned (.int .i64 r) ∧ Below w.heap.size w w' ∧ -1 ≤ r ∧ r ≤ 1000 ∧ Hid (FirstAt xs p r) := by
  have H := Lib.hid h
  have HK := Lib.hid hK
  clear h hK
  go_enter Try.func74, Try.ntmps74
  go_wp2
  go_loopw [8] (fun i wr => ∃ k : Nat, k ≤ xs.length ∧ i = .int .i64 k ∧ Hid ((xs.take k).any p = false) ∧ Below w.heap.size w wr) (fun i _ => xs.length - (intOf i).toNat)
  case atStart => exact ⟨0, Nat.zero_le _, rfl, rfl, Below.refl _ _⟩
  case round =>
    obtain ⟨k, hk, rfl, hno, hB⟩ := hrel
    by_cases hlt : k < xs.length
    · obtain ⟨ad, z, rfl, hbk, hz, hc⟩ := H.out.get hlt
      have hcr := (hB.cell (p := ad.add k) (by rw [block_of_add]; exact hbk)).trans hc
      have hcall := HK.out wr z (List.mem_of_getElem? hz.out) hB
      clear hc
      cases hp : p z with
      | true =>
        rw [hp] at hcall
        have HP := Lib.hid hp
        clear hp
        go_wp2_with (go_at_fn g; refine hcall.mono ?_; rintro e w3 ⟨rfl, hB3⟩; have hW3 : Below w.heap.size w w3 := below_step hB hB3)
        go_ret
        exact ⟨k, rfl, hW3, by omega, by omega, Lib.hid (Or.inl ⟨k, z, rfl, hz.out, HP.out, any_false hno.out⟩)⟩
      | false =>
        rw [hp] at hcall
        have HP := Lib.hid hp
        clear hp
        go_wp2_with (go_at_fn g; refine hcall.mono ?_; rintro e w3 ⟨rfl, hB3⟩; have hW3 : Below w.heap.size w w3 := below_step hB hB3)
        go_roundw
        case rel => exact ⟨k + 1, by omega, by go_num, (by rw [any_snoc hz.out, hno.out, HP.out]; rfl : (xs.take (k + 1)).any p = false), hW3⟩
        case measure => simp [intOf]; omega
    · obtain rfl : k = xs.length := by omega
      go_wp2
      go_ret
      exact ⟨-1, rfl, hB, by omega, by omega, Lib.hid (Or.inr ⟨rfl, fun j y hy => any_false hno.out j (List.getElem?_eq_some_iff.1 hy).1 y hy⟩)⟩

def midB (l : List Int) (above : Int) : Bool := decide (l.sum - above ≤ above)
/-- The least depth from which the loss to the bottom is at most that to the top. -/
def MidOK (l : List Int) (k : Nat) : Prop := k ≤ l.length ∧ l.sum - sumN l k ≤ sumN l k ∧ ∀ j, j < k → sumN l j < l.sum - sumN l j
theorem mid_one {l : List Int} {j k : Nat} (hj : MidOK l j) (hk : MidOK l k) : j = k := by
  rcases Nat.lt_trichotomy j k with h | h | h
  · have := hk.2.2 j h; have := hj.2.1; omega
  · exact h
  · have := hj.2.2 k h; have := hk.2.1; omega
theorem mid_first {l : List Int} {r : Int} (hd : dimsB l) (h : FirstAt (preL l) (midB l) r) : ∃ k : Nat, r = k ∧ MidOK l k := by
  rcases h with ⟨k, z, rfl, hz, hp, hno⟩ | ⟨_, hno⟩
  · have hk : k ≤ l.length := by have := (List.getElem?_eq_some_iff.1 hz).1; rw [preL_len] at this; omega
    rw [preL_get hk] at hz
    cases hz
    refine ⟨k, rfl, hk, by simpa [midB] using hp, fun j hj => ?_⟩
    have := hno j hj _ (preL_get (by omega))
    simp [midB] at this; omega
  · have := hno l.length _ (preL_get (Nat.le_refl _))
    rw [sumN_all] at this
    have hs := dims_bd hd l.length
    rw [sumN_all] at hs
    simp [midB] at this; omega
/-- What Middle answers. -/
def MidRes (ms : List (Int × Int)) (r E : Int) : Prop := E = lookE ms [] ∧ ((lookE ms [] = 0 ∧ ∃ k : Nat, r = k ∧ MidOK (mtL ms) k) ∨ (lookE ms [] ≠ 0 ∧ r = 0))
theorem midRes_one {ms : List (Int × Int)} {r E r2 E2 : Int} (h : MidRes ms r E) (h2 : MidRes ms r2 E2) : r2 = r ∧ E2 = E := by
  obtain ⟨rfl, h⟩ := h
  obtain ⟨rfl, h2⟩ := h2
  refine ⟨?_, rfl⟩
  rcases h with ⟨h0, k, rfl, hk⟩ | ⟨h0, rfl⟩ <;> rcases h2 with ⟨h3, j, rfl, hj⟩ | ⟨h3, rfl⟩
  · rw [mid_one hj hk]
  · exact absurd h0 h3
  · exact absurd h3 h0
  · rfl

set_option maxRecDepth 100000 in
theorem keep_middle (l : List Int) (A : Option Addr) (c B : Nat) (w : World) (h : Los w A l) (hc : w.cell? ⟨B, 0, none⟩ = some (.slice A (l.length + 1) c)) :
    KeepAt 75 #[.pointer (some ⟨B, 0, none⟩)] (midB l) (preL l) w := by
  intro W a ha hB
  have hBs := World.block_lt_of_cell? w _ hc
  have c0 := (hB.cell (p := ⟨B, 0, none⟩) hBs).trans hc
  have H := Lib.hid (h.below hB)
  obtain ⟨k, hk, rfl⟩ := List.mem_map.1 ha
  have hs := dims_bd h.dims k
  have ht := dims_bd h.dims l.length
  rw [sumN_all] at ht
  generalize hx : sumN l k = x at *
  have HX := Lib.hid hx
  have HM : Hid (midB l x = decide (l.sum - x ≤ x)) := rfl
  generalize hy : l.sum = y at *
  have HY := Lib.hid hy
  have s1 : IntKind.i64.wrap (y - x) = y - x := IntWalk.i64_in _ (by omega)
  clear ha hk h hc hB hx hy
  show Calls Try.prog _ #[.int .i64 x, .pointer (some ⟨B, 0, none⟩)] W _
  go_enter Try.func75, Try.ntmps75
  go_wp2_with (go_at_call 76; refine (whole_any l _ _ _ H.out).mono ?_; rintro e w1 ⟨rfl, rfl⟩; rw [HY.out])
  go_ret
  exact ⟨ret_bool HM.out.symm, Below.refl _ _⟩

set_option maxRecDepth 100000 in
set_option maxHeartbeats 400000 in
theorem iceMiddle_any (ms : List (Int × Int)) (A : Option Addr) (c : Nat) (w : World) (h : Clk w A c ms) :
    Calls Try.prog 35 #[.slice A ms.length c] w fun e w' => ∃ r E : Int, e = .returned (.tuple #[.int .i64 r, .int .i64 E]) ∧ Below w.heap.size w w' ∧ Hid (MidRes ms r E) := by
  have H := Lib.hid h
  clear h
  by_cases h0 : lookE ms [] = 0
  · have H0 := Lib.hid h0
    have hlen := (mt_ok (look_parts h0).1).2
    have eg : ∀ args w, (callFunc 75 args).run Try.prog w = .ok (.enter 75 args) w := enters_of Try.func75 (by kernel_rfl) rfl
    have HEG := Lib.hid eg
    have HPL := Lib.hid (preL_len (mtL ms))
    clear h0 eg
    go_enter Try.func35, Try.ntmps35
    go_wp2_with (first
      | (go_at_call 60; refine (look_ok (ds := []) H.out Ints.nil_ (Nat.zero_le _) H0.out).mono ?_; rintro e w1 ⟨A1, c1, rfl, hL, hB1⟩)
      | (go_at_call 74; have hi := indexL_any _ _ _ HEG.out (preL (mtL ms)) A1 c1 (w1.alloc (.cells #[.slice A1 ((mtL ms).length + 1) c1] 67)) (keep_middle (mtL ms) A1 c1 w1.heap.size _ (hL.below ((Below.refl _ _).alloc (Nat.le_refl _) _)) (by go_simp)) (hL.below ((Below.refl _ _).alloc (Nat.le_refl _) _)).ints (by rw [HPL.out]; omega); rw [HPL.out] at hi; refine hi.mono ?_; rintro e w2 ⟨r, rfl, hB2, hr0, hr1, hr⟩))
    go_ret2
    exact ⟨_, _, rfl, below_step hB1 (Below.trans ((Below.refl _ _).alloc (Nat.le_refl _) _) (hB2.mono (by simp))), H0.out.symm, .inl ⟨H0.out, mid_first hL.dims hr.out⟩⟩
  · have H0 := Lib.hid h0
    clear h0
    go_enter Try.func35, Try.ntmps35
    go_wp2_with (go_at_call 60; refine (look_no (ds := []) H.out Ints.nil_ (Nat.zero_le _) H0.out).mono ?_; rintro e w1 ⟨E, rfl, hE0, hB1, hE⟩; have hz1 := hB1.size)
    go_ret2
    exact ⟨_, _, rfl, (by repeat (first | with_reducible exact Below.refl _ _ | with_reducible assumption | refine below_drewN ?_ _ | with_reducible refine Below.drew ?_ | (refine Below.setCell ?_ (by first | (simp; done) | (simp; omega) | omega) _) | (refine Below.alloc ?_ (by first | (simp; done) | (simp; omega) | omega) _))), hE.out, .inr ⟨H0.out, rfl⟩⟩

theorem refloss_down {l : List Int} {k : Nat} (hk : k ≤ l.length) : lossI l (k : Int) (l.length : Int) = l.sum - sumN l k := by
  rw [loss_le hk, sumN_all]
theorem refloss_up {l : List Int} {k : Nat} : lossI l 0 (k : Int) = sumN l k := by
  have := loss_le (l := l) (Nat.zero_le k)
  rw [sumN_zero, Int.sub_zero] at this
  exact this
theorem reflossZ_any (l : List Int) (A : Option Addr) (c : Nat) (a b : Int) (w : World) (h : Ints w A l) (hd : dimsB l) (ha0 : 0 ≤ a) (ha : a ≤ l.length) (hb0 : 0 ≤ b) (hb : b ≤ l.length) :
    Calls Try.prog 67 #[.slice A l.length c, .int .i64 a, .int .i64 b] w fun e w' => e = .returned (.int .i64 (lossI l a b)) ∧ ∃ n, w' = w.drewN n := by
  obtain ⟨x, rfl⟩ := Int.eq_ofNat_of_zero_le ha0
  obtain ⟨y, rfl⟩ := Int.eq_ofNat_of_zero_le hb0
  exact refloss_any l A c x y w h hd (by omega) (by omega)
theorem mid_end {l : List Int} (hd : dimsB l) : ¬ sumN l l.length < l.sum - sumN l l.length := by
  have := dims_bd hd l.length
  rw [sumN_all] at *; omega

set_option maxRecDepth 100000 in
set_option maxHeartbeats 400000 in
theorem refMiddle_any (ms : List (Int × Int)) (A : Option Addr) (c : Nat) (w : World) (h : Clk w A c ms) :
    Calls Try.prog 36 #[.slice A ms.length c] w fun e w' => ∃ r E : Int, e = .returned (.tuple #[.int .i64 r, .int .i64 E]) ∧ Below w.heap.size w w' ∧ Hid (MidRes ms r E) := by
  have H := Lib.hid h
  clear h
  cases hv : viB ms with
  | false =>
    go_enter Try.func36, Try.ntmps36
    go_wp2_with (go_at_call 22; refine (refValid_any ms _ _ _ H.out.marks H.out.len).mono ?_; rintro e w1 ⟨rfl, n, rfl⟩)
    go_ret2
    have e40 : lookE ms [] = 40 := lookE_ice hv
    exact ⟨_, _, rfl, (by repeat (first | with_reducible exact Below.refl _ _ | with_reducible assumption | refine below_drewN ?_ _ | with_reducible refine Below.drew ?_ | (refine Below.setCell ?_ (by first | (simp; done) | (simp; omega) | omega) _) | (refine Below.alloc ?_ (by first | (simp; done) | (simp; omega) | omega) _))), e40.symm, .inr ⟨by rw [e40]; decide, rfl⟩⟩
  | true =>
    have HV := Lib.hid hv
    have hlen := (mt_ok hv).2
    go_enter Try.func36, Try.ntmps36
    go_wp2_with (first
      | (go_at_call 22; refine (refValid_any ms _ _ _ H.out.marks H.out.len).mono ?_; rintro e w1 ⟨rfl, n, rfl⟩)
      | (go_at_call 58; refine (metres_any ms _ _ _ (H.out.below (below_drewN (Below.refl _ _) n)).marks HV.out).mono ?_; rintro e w2 ⟨A2, c2, xs, rfl, hO, hB2, hx⟩; obtain rfl := hx.out; have hW2 := below_step (below_drewN (Below.refl w.heap.size w) n) hB2; have HI := Lib.hid hO.ints; clear hO))
    go_loopw [5] (fun i wr => ∃ k n : Nat, k ≤ (mtL ms).length ∧ i = .int .i64 k ∧ wr = w2.drewN n ∧ Hid (∀ j, j < k → sumN (mtL ms) j < (mtL ms).sum - sumN (mtL ms) j)) (fun i _ => (mtL ms).length - (intOf i).toNat)
    case atStart => exact ⟨0, 0, Nat.zero_le _, rfl, rfl, fun j hj => absurd hj (Nat.not_lt_zero _)⟩
    case round =>
      obtain ⟨k, m, hk, rfl, rfl, hP⟩ := hrel
      have HL1 := Lib.hid (refloss_down hk)
      have HL2 := Lib.hid (refloss_up (l := mtL ms) (k := k))
      have HI2 : Hid (Ints (w2.drewN m) A2 (mtL ms)) := HI.out.below (below_drewN (Below.refl _ _) m)
      have TA : Hid True := Lib.hid trivial
      by_cases ht : sumN (mtL ms) k < (mtL ms).sum - sumN (mtL ms) k
      · have HT := Lib.hid ht
        have hkl : k < (mtL ms).length := by
          rcases Nat.lt_or_ge k (mtL ms).length with h | h
          · exact h
          · obtain rfl : k = (mtL ms).length := by omega
            exact absurd ht (mid_end (mt_ok HV.out))
        have t1 : decide (sumN (mtL ms) k < (mtL ms).sum - sumN (mtL ms) k) = true := decide_eq_true ht
        clear ht
        go_wp2_with (first
          | (go_at_call 67; clear TA; refine (reflossZ_any (mtL ms) _ _ _ _ _ HI2.out (mt_ok HV.out) (by omega) (by omega) (by omega) (by omega)).mono ?_; rintro e w3 ⟨rfl, m2, rfl⟩; rw [HL1.out])
          | (go_at_call 67; refine (reflossZ_any (mtL ms) _ _ _ _ _ (HI.out.below (below_drewN (Below.refl _ _) _)) (mt_ok HV.out) (by omega) (by omega) (by omega) (by omega)).mono ?_; rintro e w4 ⟨rfl, m3, rfl⟩; rw [HL2.out]))
        go_roundw
        case rel => exact ⟨k + 1, _, by omega, by go_num, (by first | rfl | exact World.drewN_drewN _ _ _ | (simp only [World.drewN_drewN]; rfl)), fun j hj => by
          rcases Nat.lt_or_ge j k with h | h
          · exact hP.out j h
          · obtain rfl : j = k := by omega
            exact HT.out⟩
        case measure => simp [intOf]; omega
      · have HT : Hid ((mtL ms).sum - sumN (mtL ms) k ≤ sumN (mtL ms) k) := Int.not_lt.1 ht
        have t1 : decide (sumN (mtL ms) k < (mtL ms).sum - sumN (mtL ms) k) = false := decide_eq_false ht
        clear ht
        go_wp2_with (first
          | (go_at_call 67; clear TA; refine (reflossZ_any (mtL ms) _ _ _ _ _ HI2.out (mt_ok HV.out) (by omega) (by omega) (by omega) (by omega)).mono ?_; rintro e w3 ⟨rfl, m2, rfl⟩; rw [HL1.out])
          | (go_at_call 67; refine (reflossZ_any (mtL ms) _ _ _ _ _ (HI.out.below (below_drewN (Below.refl _ _) _)) (mt_ok HV.out) (by omega) (by omega) (by omega) (by omega)).mono ?_; rintro e w4 ⟨rfl, m3, rfl⟩; rw [HL2.out]))
        go_ret2
        exact ⟨_, _, rfl, (by repeat (first | with_reducible exact Below.refl _ _ | with_reducible assumption | refine below_drewN ?_ _ | with_reducible refine Below.drew ?_ | (refine Below.setCell ?_ (by first | (simp; done) | (simp; omega) | omega) _) | (refine Below.alloc ?_ (by first | (simp; done) | (simp; omega) | omega) _))), (depthE_ok HV.out).symm, .inl ⟨depthE_ok HV.out, k, rfl, hk, HT.out, hP.out⟩⟩
end Go.Proofs.Ytmndfcjkokolbaa
