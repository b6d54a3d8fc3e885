/-
  Contracts: firnref04's lamps, asked, Lamps, Dark, SameInts.
-/
import Derived.Test.YtmndfcjkokolbaaLamps
namespace Go.Proofs.Ytmndfcjkokolbaa
open Go.RowKit Go.Shelf

theorem dn_same {l : List Int} {m : Nat} {s z : Int} (h : l[m]? = some z) : (dnN l m s = m) ↔ s < z := by
  by_cases hz : z ≤ s
  · have hm := (List.getElem?_eq_some_iff.1 h).1
    have h1 := dn_step h hz
    have h2 := dn_bd (l := l) (f := m + 1) (s := s - z) (by omega)
    rw [h1]
    omega
  · rw [dn_stop h hz]; omega

/-- What firnref04's lamps answers. -/
def RefLampRes (l : List Int) (s : Int) (e : Ending) (w : World) : Prop :=
  (lampO l s = none ∧ e = .returned (.tuple #[.slice none 0 0, .slice none 0 0, .bool false])) ∨
  (∃ (ps : List (Int × Int)) (A1 A2 : Option Addr) (c1 c2 : Nat), lampO l s = some ps ∧ e = .returned (.tuple #[.slice A1 ps.length c1, .slice A2 ps.length c2, .bool true]) ∧ Out w A1 c1 (ps.map (·.1)) ∧ Out w A2 c2 (ps.map (·.2)))

set_option maxRecDepth 100000 in
set_option maxHeartbeats 1000000 in
theorem reflamps_any (l : List Int) (A : Option Addr) (c : Nat) (s : Int) (w : World) (h : Ints w A l) (hd : dimsB l) (hs0 : 0 ≤ s) (hs1 : s ≤ 1000000) :
    Calls Try.prog 79 #[.slice A l.length c, .int .i64 s] w fun e w' => RefLampRes l s e w' ∧ Below w.heap.size w w' := by
  have H := Lib.hid h
  have HD := Lib.hid hd
  have hlen := hd.2
  clear h hd
  go_enter Try.func79, Try.ntmps79
  go_wp2
  go_loopw [4, 5, 7] (fun v u i wr => ∃ (ps : List (Int × Int)) (fuel m : Nat), m ≤ l.length ∧ l.length ≤ m + fuel ∧ i = .int .i64 m ∧ ps.length ≤ m ∧ Hid (Two wr w.heap.size v u ps) ∧ Below w.heap.size w wr ∧ Hid (lampO l s = (lampG l s fuel m).map (ps ++ ·))) (fun _ _ i _ => l.length - (intOf i).toNat)
  case atStart => exact ⟨[], l.length, 0, Nat.zero_le _, by omega, rfl, Nat.zero_le _, Two.nil_ _ _, Below.refl _ _, lamp_start l s⟩
  case round =>
    obtain ⟨ps, fuel, m, hm, hf, rfl, hps, hT, hB, hO⟩ := hrel
    by_cases hlt : m < l.length
    · have t0 : decide ((m : Int) < (l.length : Int)) = true := decide_eq_true (by omega)
      have hbd := dn_bd (l := l) (f := m) (s := s) hm
      obtain ⟨ad, z, rfl, hbk, hz, hc⟩ := H.out.get hlt
      have hcr := (hB.cell (p := ad.add m) (by rw [block_of_add]; exact hbk)).trans hc
      have HI : Hid (Ints wr (some ad) l) := H.out.below hB
      have i1 : (m : Int) < (l.length : Int) := by omega
      clear hc
      by_cases he : s < z
      · have t1 : decide (s < z) = true := decide_eq_true he
        have HE := Lib.hid ((dn_same hz.out).2 he)
        go_wp2
        go_ret3
        exact ⟨.inl ⟨lamp_none hO.out hlt hf HE.out, rfl⟩, hB⟩
      · have t1 : decide (s < z) = false := decide_eq_false he
        have HE : Hid (¬ dnN l m s = m) := fun hh => he ((dn_same hz.out).1 hh)
        have HN := Lib.hid (lamp_next hO.out hlt hf HE.out)
        have hbd2 := dn_bd (l := l) (f := dnN l m s) (s := s) hbd.2
        generalize ha : dnN l m s = at' at *
        generalize hb : dnN l at' s = nx at *
        have HA := Lib.hid (And.intro ha hb)
        clear ha hb
        have TA : Hid True := Lib.hid trivial
        have TB : Hid True := Lib.hid trivial
        go_wp2_with (first
          | (go_at_call 73; clear TA; refine (refdown_any l _ _ m s _ HI.out HD.out hm hs0 hs1).mono ?_; rintro e w2 ⟨rfl, n, rfl⟩; rw [HA.out.1]; have hB2 := below_drewN hB n; have HT2 := Lib.hid (hT.out.drewN n))
          | (at_builtin; clear TB; refine wp_app_int2 (wr.drewN n) rfl (.tmp 23) (.tmp 25) rfl w.heap.size _ ps.length (ps.map fun p : Int × Int => p.1) _ rfl HT2.out.lamps rfl (by omega) hB2.size ?_; intro v3 w3 hown3 hB3 hfar3; have hB4 := hB2.trans hB3; have HT3 := Lib.hid (two_half HT2.out hown3 hfar3); clear hown3 hfar3 hB3)
          | (at_builtin; refine wp_app_int2 w3 rfl (.tmp 27) (.tmp 29) rfl w.heap.size _ ps.length (ps.map fun p : Int × Int => p.2) _ rfl HT3.out.metres rfl (by omega) hB4.size ?_; intro v5 w5 hown5 hB5 hfar5; have hB6 := hB4.trans hB5; have HT5 := Lib.hid (half_two HT3.out hown5 hfar5 (by have := HE.out; omega)); clear hown5 hfar5 hB5)
          | (go_at_call 73; refine (refdown_any l _ _ at' s _ (H.out.below hB6) HD.out hbd.2 hs0 hs1).mono ?_; rintro e w7 ⟨rfl, n7, rfl⟩; rw [HA.out.2]))
        go_roundw
        case rel => exact ⟨ps ++ [((at' : Int), (m : Int))], fuel - 1, nx, hbd2.2, by have := HE.out; omega, rfl, by have := HE.out; simp; omega, HT5.out.drewN _, below_drewN hB6 _, HN.out⟩
        case measure => simp [intOf]; have := HE.out; omega
    · have t0 : decide ((m : Int) < (l.length : Int)) = false := decide_eq_false (by omega)
      have HS := Lib.hid (lamp_end hO.out (by omega))
      go_wp2
      go_ret3
      obtain ⟨A1, c1, e1, hO1⟩ := own_ints hT.out.lamps
      obtain ⟨A2, c2, e2, hO2⟩ := own_ints hT.out.metres
      rw [List.length_map] at e1 e2
      subst e1 e2
      exact ⟨.inr ⟨ps, A1, A2, c1, c2, HS.out, rfl, hO1, hO2⟩, hB⟩

def askedE (ms : List (Int × Int)) (s : Int) : Int := lookByE ms [] s
theorem askedE_ok {ms : List (Int × Int)} {s : Int} (hv : viB ms = true) (hs : 0 ≤ s ∧ s ≤ 100000) : lookByE ms [] s = 0 := lookByE_ok (depthE_ok hv) (by simp [inB]; omega)
theorem askedE_arg {ms : List (Int × Int)} {s : Int} (hv : viB ms = true) (hs : ¬ (0 ≤ s ∧ s ≤ 100000)) : lookByE ms [] s = 2 := lookByE_arg (depthE_ok hv) (by simp [inB]; omega)
theorem askedE_ice {ms : List (Int × Int)} {s : Int} (hv : viB ms = false) : lookByE ms [] s = 40 := by
  have e : lookE ms [] = 40 := lookE_ice hv
  rw [lookByE_no (by rw [e]; decide), e]
theorem askedE_in {ms : List (Int × Int)} {s : Int} (h : lookByE ms [] s = 0) : viB ms = true ∧ 0 ≤ s ∧ s ≤ 100000 := by
  have h1 := lookByE_parts h
  exact ⟨(look_parts h1.1).1, h1.2⟩

set_option maxRecDepth 100000 in
theorem asked_any (ms : List (Int × Int)) (A : Option Addr) (c : Nat) (s : Int) (w : World) (h : Clk w A c ms) :
    Calls Try.prog 78 #[.slice A ms.length c, .int .i64 s] w fun e w' => ∃ E : Int, e = .returned (.int .i64 E) ∧ (∃ n, w' = w.drewN n) ∧ Hid (E = lookByE ms [] s) := by
  have H := Lib.hid h
  clear h
  cases hv : viB ms with
  | false =>
    go_enter Try.func78, Try.ntmps78
    go_wp2_with (go_at_call 22; refine (refValid_any ms _ _ _ H.out.marks H.out.len).mono ?_; rintro e w1 ⟨rfl, n, rfl⟩)
    go_ret
    exact ⟨_, rfl, ⟨_, rfl⟩, (askedE_ice hv).symm⟩
  | true =>
    have HV := Lib.hid hv
    by_cases hs : 0 ≤ s ∧ s ≤ 100000
    · have HS := Lib.hid hs
      have HS2 := Lib.hid (decide_eq_true hs)
      clear hs
      go_enter Try.func78, Try.ntmps78
      go_wp2_with (first
        | (go_at_call 22; refine (refValid_any ms _ _ _ H.out.marks H.out.len).mono ?_; rintro e w1 ⟨rfl, n, rfl⟩)
        | (go_at_call 65; refine (refWithin_any _ _ _ _).mono ?_; rintro e w' ⟨rfl, rfl⟩; rw [HS2.out]))
      go_ret
      exact ⟨_, rfl, ⟨_, rfl⟩, (askedE_ok HV.out HS.out).symm⟩
    · have HS := Lib.hid hs
      have HS2 := Lib.hid (decide_eq_false hs)
      clear hs
      go_enter Try.func78, Try.ntmps78
      go_wp2_with (first
        | (go_at_call 22; refine (refValid_any ms _ _ _ H.out.marks H.out.len).mono ?_; rintro e w1 ⟨rfl, n, rfl⟩)
        | (go_at_call 65; refine (refWithin_any _ _ _ _).mono ?_; rintro e w' ⟨rfl, rfl⟩; rw [HS2.out]))
      go_ret
      exact ⟨_, rfl, ⟨_, rfl⟩, (askedE_arg HV.out HS.out).symm⟩

set_option maxRecDepth 100000 in
set_option maxHeartbeats 400000 in
theorem refLamps_any (ms : List (Int × Int)) (A : Option Addr) (c : Nat) (s : Int) (w : World) (h : Clk w A c ms) :
    Calls Try.prog 38 #[.slice A ms.length c, .int .i64 s] w fun e w' => ∃ (A' : Option Addr) (c' : Nat) (xs : List Int) (E : Int), e = .returned (.tuple #[.slice A' xs.length c', .int .i64 E]) ∧ Out w' A' c' xs ∧ Below w.heap.size w w' ∧ Hid (xs = lampsL ms s ∧ E = lampsE ms s) := by
  have H := Lib.hid h
  clear h
  by_cases h0 : lookByE ms [] s = 0
  · have H0 := Lib.hid h0
    have HV := Lib.hid (askedE_in h0)
    clear h0
    go_enter Try.func38, Try.ntmps38
    go_wp2_with (first
      | (go_at_call 78; refine (asked_any ms _ _ _ _ H.out).mono ?_; rintro e w1 ⟨E, rfl, ⟨n, rfl⟩, hE⟩; obtain rfl : E = 0 := hE.out.trans H0.out)
      | (go_at_call 58; refine (metres_any ms _ _ _ (H.out.below (below_drewN (Below.refl _ _) n)).marks HV.out.1).mono ?_; rintro e w2 ⟨A2, c2, xs, rfl, hO, hB2, hx⟩; obtain rfl := hx.out; have hW2 := below_step (below_drewN (Below.refl w.heap.size w) n) hB2))
    refine (reflamps_any (mtL ms) _ _ s _ hO.ints (mt_ok HV.out.1) HV.out.2.1 (by have := HV.out.2.2; omega)).mono ?_
    rintro e w3 ⟨hR, hB3⟩
    have hW3 := below_step hW2 hB3
    rcases hR with ⟨hn, rfl⟩ | ⟨ps, g1, g2, c3, c4, hn, rfl, hO1, hO2⟩
    · have HN := Lib.hid hn
      clear hn
      go_wp2
      go_ret2
      have e5 := lampsE_none H0.out HN.out
      exact ⟨none, 0, [], 5, rfl, Out.nil_, hW3, (lampsL_no e5 (by decide)).1, e5.symm⟩
    · have HN := Lib.hid hn
      clear hn
      go_wp2
      go_ret2
      have e5 := lampsE_ok H0.out HN.out
      exact ⟨_, c3, ps.map (·.1), 0, by rw [List.length_map]; rfl, hO1, hW3, e5.2.1.symm, e5.1.symm⟩
  · have H0 := Lib.hid h0
    clear h0
    go_enter Try.func38, Try.ntmps38
    go_wp2_with (go_at_call 78; refine (asked_any ms _ _ _ _ H.out).mono ?_; rintro e w1 ⟨E, rfl, ⟨n, rfl⟩, hE⟩; have hE0 : (E != 0) = true := (by have := hE.out; have := H0.out; simp; omega))
    go_ret2
    have e5 := lampsE_no H0.out
    exact ⟨none, 0, [], E, rfl, Out.nil_, below_drewN (Below.refl _ _) n, (lampsL_no e5 H0.out).1, by rw [e5]; exact hE.out⟩
set_option maxRecDepth 100000 in
set_option maxHeartbeats 400000 in
theorem refDark_any (ms : List (Int × Int)) (A : Option Addr) (c : Nat) (s : Int) (w : World) (h : Clk w A c ms) :
    Calls Try.prog 43 #[.slice A ms.length c, .int .i64 s] w fun e w' => ∃ (A' : Option Addr) (c' : Nat) (xs : List Int) (E : Int), e = .returned (.tuple #[.slice A' xs.length c', .int .i64 E]) ∧ Out w' A' c' xs ∧ Below w.heap.size w w' ∧ Hid (xs = darkL ms s ∧ E = lampsE ms s) := by
  have H := Lib.hid h
  clear h
  by_cases h0 : lookByE ms [] s = 0
  · have H0 := Lib.hid h0
    have HV := Lib.hid (askedE_in h0)
    clear h0
    go_enter Try.func43, Try.ntmps43
    go_wp2_with (first
      | (go_at_call 78; refine (asked_any ms _ _ _ _ H.out).mono ?_; rintro e w1 ⟨E, rfl, ⟨n, rfl⟩, hE⟩; obtain rfl : E = 0 := hE.out.trans H0.out)
      | (go_at_call 58; refine (metres_any ms _ _ _ (H.out.below (below_drewN (Below.refl _ _) n)).marks HV.out.1).mono ?_; rintro e w2 ⟨A2, c2, xs, rfl, hO, hB2, hx⟩; obtain rfl := hx.out; have hW2 := below_step (below_drewN (Below.refl w.heap.size w) n) hB2))
    refine (reflamps_any (mtL ms) _ _ s _ hO.ints (mt_ok HV.out.1) HV.out.2.1 (by have := HV.out.2.2; omega)).mono ?_
    rintro e w3 ⟨hR, hB3⟩
    have hW3 := below_step hW2 hB3
    rcases hR with ⟨hn, rfl⟩ | ⟨ps, g1, g2, c3, c4, hn, rfl, hO1, hO2⟩
    · have HN := Lib.hid hn
      clear hn
      go_wp2
      go_ret2
      have e5 := lampsE_none H0.out HN.out
      exact ⟨none, 0, [], 5, rfl, Out.nil_, hW3, (lampsL_no e5 (by decide)).2, e5.symm⟩
    · have HN := Lib.hid hn
      clear hn
      go_wp2
      go_ret2
      have e5 := lampsE_ok H0.out HN.out
      exact ⟨_, c4, ps.map (·.2), 0, by rw [List.length_map]; rfl, hO2, hW3, e5.2.2.symm, e5.1.symm⟩
  · have H0 := Lib.hid h0
    clear h0
    go_enter Try.func43, Try.ntmps43
    go_wp2_with (go_at_call 78; refine (asked_any ms _ _ _ _ H.out).mono ?_; rintro e w1 ⟨E, rfl, ⟨n, rfl⟩, hE⟩; have hE0 : (E != 0) = true := (by have := hE.out; have := H0.out; simp; omega))
    go_ret2
    have e5 := lampsE_no H0.out
    exact ⟨none, 0, [], E, rfl, Out.nil_, below_drewN (Below.refl _ _) n, (lampsL_no e5 H0.out).2, by rw [e5]; exact hE.out⟩
end Go.Proofs.Ytmndfcjkokolbaa
