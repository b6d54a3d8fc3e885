/-
  Contracts: lamps, Lamps, Dark (ice).
-/
import Derived.Test.YtmndfcjkokolbaaLampM
import Derived.Lib.SliceRun
namespace Go.Proofs.Ytmndfcjkokolbaa
open Go.RowKit Go.Shelf

theorem nil_ints (w : World) (a : Option Addr) (n c : Nat) : (binOp .eql 37 (.slice a n c) (.slice none 0 0)).run Try.prog w = .ok (.bool a.isNone) w :=
  Lib.run_eql_slice_nil w 37 3 a n c 0 0 Try.underlying37
/-- What lamps answers. -/
def LampRes (l : List Int) (s : Int) (e : Ending) (w : World) : Prop :=
  (lampO l s = none ∧ e = .returned (.tuple #[.slice none 0 0, .slice none 0 0])) ∨
  (∃ (ps : List (Int × Int)) (g1 g2 c1 c2 : Nat), lampO l s = some ps ∧ e = .returned (.tuple #[.slice (some ⟨g1, 0, none⟩) ps.length c1, .slice (some ⟨g2, 0, none⟩) ps.length c2]) ∧ Out w (some ⟨g1, 0, none⟩) c1 (ps.map (·.1)) ∧ Out w (some ⟨g2, 0, none⟩) c2 (ps.map (·.2)))

set_option maxRecDepth 100000 in
set_option maxHeartbeats 1000000 in
theorem lamps_any (l : List Int) (A : Option Addr) (c : Nat) (s : Int) (w : World) (h : Los w A l) :
    Calls Try.prog 77 #[.slice A (l.length + 1) c, .int .i64 s] w fun e w' => LampRes l s e w' ∧ Below w.heap.size w w' := by
  have H := Lib.hid h
  have hlen := h.dims.2
  clear h
  go_enter Try.func77, Try.ntmps77
  go_wp2
  go_loopw [4, 5, 6] (fun v u i wr => ∃ (ps : List (Int × Int)) (fuel m : Nat), m ≤ l.length ∧ l.length ≤ m + fuel ∧ i = .int .i64 m ∧ ps.length ≤ m ∧ Hid (Two wr w.heap.size v u ps) ∧ Below w.heap.size w wr ∧ Hid (lampO l s = (lampG l s fuel m).map (ps ++ ·))) (fun _ _ i _ => l.length - (intOf i).toNat)
  case atStart => exact ⟨[], l.length, 0, Nat.zero_le _, by omega, rfl, Nat.zero_le _, Two.nil_ _ _, Below.refl _ _, lamp_start l s⟩
  case round =>
    obtain ⟨ps, fuel, m, hm, hf, rfl, hps, hT, hB, hO⟩ := hrel
    by_cases hlt : m < l.length
    · have t0 : decide ((m : Int) < (l.length : Int)) = true := decide_eq_true (by omega)
      have hbd := dn_bd (l := l) (f := m) (s := s) hm
      by_cases he : dnN l m s = m
      · have HE := Lib.hid he
        go_wp2_with (first
          | (go_at_call 61; refine (depth_any _ _ _ _ (by omega)).mono ?_; rintro e w1 ⟨rfl, rfl⟩)
          | (go_at_call 71; refine (down_any l _ _ m s _ (H.out.below hB) hm).mono ?_; rintro e w2 ⟨rfl, n, rfl⟩; rw [HE.out]))
        go_ret2
        exact ⟨.inl ⟨lamp_none hO.out hlt hf HE.out, rfl⟩, below_drewN hB _⟩
      · have HE := Lib.hid he
        have HN := Lib.hid (lamp_next hO.out hlt hf he)
        have hbd2 := dn_bd (l := l) (f := dnN l m s) (s := s) hbd.2
        generalize ha : dnN l m s = at' at *
        generalize hb : dnN l at' s = nx at *
        have HA := Lib.hid (And.intro ha hb)
        have t1 : (at' == m) = false := by simpa using he
        have t2 : ((at' : Int) == (m : Int)) = false := by simp; omega
        clear ha hb he
        have TA : Hid True := Lib.hid trivial
        have TB : Hid True := Lib.hid trivial
        go_wp2_with (first
          | (go_at_call 61; refine (depth_any _ _ _ _ (by omega)).mono ?_; rintro e w1 ⟨rfl, rfl⟩)
          | (go_at_call 71; clear TA; refine (down_any l _ _ m s _ (H.out.below hB) hm).mono ?_; rintro e w2 ⟨rfl, n, rfl⟩; rw [HA.out.1]; have hB2 := below_drewN hB n; have HT2 := Lib.hid (hT.out.drewN n))
          | (at_builtin; clear TB; refine wp_app_int2 (wr.drewN n) rfl (.tmp 19) (.tmp 21) rfl w.heap.size _ ps.length (ps.map fun p : Int × Int => p.1) _ rfl HT2.out.lamps rfl (by omega) hB2.size ?_; intro v3 w3 hown3 hB3 hfar3; have hB4 := hB2.trans hB3; have HT3 := Lib.hid (two_half HT2.out hown3 hfar3); clear hown3 hfar3 hB3)
          | (at_builtin; refine wp_app_int2 w3 rfl (.tmp 23) (.tmp 25) rfl w.heap.size _ ps.length (ps.map fun p : Int × Int => p.2) _ rfl HT3.out.metres rfl (by omega) hB4.size ?_; intro v5 w5 hown5 hB5 hfar5; have hB6 := hB4.trans hB5; have HT5 := Lib.hid (half_two HT3.out hown5 hfar5 (by have := HE.out; omega)); clear hown5 hfar5 hB5)
          | (go_at_call 71; refine (down_any l _ _ at' s _ (H.out.below hB6) hbd.2).mono ?_; rintro e w7 ⟨rfl, n7, rfl⟩; rw [HA.out.2]))
        go_roundw
        case rel => exact ⟨ps ++ [((at' : Int), (m : Int))], fuel - 1, nx, hbd2.2, by have := HE.out; omega, rfl, by have := HE.out; simp; omega, HT5.out.drewN _, below_drewN hB6 _, HN.out⟩
        case measure => simp [intOf]; have := HE.out; omega
    · have t0 : decide ((m : Int) < (l.length : Int)) = false := decide_eq_false (by omega)
      have HS := Lib.hid (lamp_end hO.out (by omega))
      have hne : 0 < ps.length := by
        rcases Nat.eq_zero_or_pos ps.length with h0 | h0
        · have : ps = [] := List.eq_nil_of_length_eq_zero h0
          have h2 := HS.out
          rw [this] at h2
          exact absurd h2 (fun h => lamp_ne (by omega) h)
        · exact h0
      go_wp2_with (go_at_call 61; refine (depth_any _ _ _ _ (by omega)).mono ?_; rintro e w1 ⟨rfl, rfl⟩)
      go_ret2
      obtain ⟨g1, c1, e1, hO1⟩ := own_some hT.out.lamps hne
      obtain ⟨g2, c2, e2, hO2⟩ := own_some hT.out.metres hne
      rw [List.length_map] at e1 e2
      subst e1 e2
      exact ⟨.inr ⟨ps, g1, g2, c1, c2, HS.out, rfl, hO1, hO2⟩, hB⟩

/-! ### Lamps, Dark -/
def lampsE (ms : List (Int × Int)) (s : Int) : Int := if lookByE ms [] s = 0 then (if lampO (mtL ms) s = none then 5 else 0) else lookByE ms [] s
def lampsL (ms : List (Int × Int)) (s : Int) : List Int := if lampsE ms s = 0 then ((lampO (mtL ms) s).getD []).map (·.1) else []
def darkL (ms : List (Int × Int)) (s : Int) : List Int := if lampsE ms s = 0 then ((lampO (mtL ms) s).getD []).map (·.2) else []
theorem lampsE_no {ms : List (Int × Int)} {s : Int} (h : lookByE ms [] s ≠ 0) : lampsE ms s = lookByE ms [] s := by rw [lampsE, if_neg h]
theorem lampsE_none {ms : List (Int × Int)} {s : Int} (h : lookByE ms [] s = 0) (hn : lampO (mtL ms) s = none) : lampsE ms s = 5 := by rw [lampsE, if_pos h, if_pos hn]
theorem lampsE_ok {ms : List (Int × Int)} {s : Int} {ps : List (Int × Int)} (h : lookByE ms [] s = 0) (hn : lampO (mtL ms) s = some ps) : lampsE ms s = 0 ∧ lampsL ms s = ps.map (·.1) ∧ darkL ms s = ps.map (·.2) := by
  have e : lampsE ms s = 0 := by rw [lampsE, if_pos h, if_neg (by rw [hn]; simp)]
  exact ⟨e, by rw [lampsL, if_pos e, hn]; rfl, by rw [darkL, if_pos e, hn]; rfl⟩
theorem lampsL_no {ms : List (Int × Int)} {s E : Int} (h : lampsE ms s = E) (hE : E ≠ 0) : [] = lampsL ms s ∧ [] = darkL ms s := by
  rw [lampsL, darkL, if_neg (by rw [h]; exact hE), if_neg (by rw [h]; exact hE)]; exact ⟨rfl, rfl⟩

set_option maxRecDepth 100000 in
set_option maxHeartbeats 400000 in
theorem iceLamps_any (ms : List (Int × Int)) (A : Option Addr) (c : Nat) (s : Int) (w : World) (h : Clk w A c ms) :
    Calls Try.prog 37 #[.slice A ms.length c, .int .i64 s] w fun e w' => ∃ (A' : Option Addr) (c' : Nat) (xs : List Int) (E : Int), e = .returned (.tuple #[.slice A' xs.length c', .int .i64 E]) ∧ Out w' A' c' xs ∧ Below w.heap.size w w' ∧ Hid (xs = lampsL ms s ∧ E = lampsE ms s) := by
  have H := Lib.hid h
  have hnil := nil_ints
  clear h
  by_cases h0 : lookByE ms [] s = 0
  · have H0 := Lib.hid h0
    clear h0
    go_enter Try.func37, Try.ntmps37
    go_wp2_with (go_at_call 69; refine (lookBy_ok (ds := []) H.out Ints.nil_ (Nat.zero_le _) H0.out).mono ?_; rintro e w1 ⟨A1, c1, rfl, hL, hB1⟩)
    refine (lamps_any (mtL ms) _ _ s _ hL).mono ?_
    rintro e w2 ⟨hR, hB2⟩
    have hW2 := below_step hB1 hB2
    rcases hR with ⟨hn, rfl⟩ | ⟨ps, g1, g2, c2, c3, hn, rfl, hO1, hO2⟩
    · have HN := Lib.hid hn
      clear hn
      go_wp2
      go_ret2
      have e5 := lampsE_none H0.out HN.out
      exact ⟨none, 0, [], 5, rfl, Out.nil_, hW2, (lampsL_no e5 (by decide)).1, e5.symm⟩
    · have HN := Lib.hid hn
      clear hn
      go_wp2
      go_ret2
      have e5 := lampsE_ok H0.out HN.out
      exact ⟨_, c2, ps.map (·.1), 0, by rw [List.length_map]; rfl, hO1, hW2, e5.2.1.symm, e5.1.symm⟩
  · have H0 := Lib.hid h0
    clear h0
    go_enter Try.func37, Try.ntmps37
    go_wp2_with (go_at_call 69; refine (lookBy_no (ds := []) H.out Ints.nil_ (Nat.zero_le _) H0.out).mono ?_; rintro e w1 ⟨E, rfl, hE0, hB1, hE⟩)
    go_ret2
    have e5 := lampsE_no H0.out
    exact ⟨none, 0, [], E, rfl, Out.nil_, hB1, (lampsL_no e5 H0.out).1, by rw [e5]; exact hE.out⟩
set_option maxRecDepth 100000 in
set_option maxHeartbeats 400000 in
theorem iceDark_any (ms : List (Int × Int)) (A : Option Addr) (c : Nat) (s : Int) (w : World) (h : Clk w A c ms) :
    Calls Try.prog 42 #[.slice A ms.length c, .int .i64 s] w fun e w' => ∃ (A' : Option Addr) (c' : Nat) (xs : List Int) (E : Int), e = .returned (.tuple #[.slice A' xs.length c', .int .i64 E]) ∧ Out w' A' c' xs ∧ Below w.heap.size w w' ∧ Hid (xs = darkL ms s ∧ E = lampsE ms s) := by
  have H := Lib.hid h
  have hnil := nil_ints
  clear h
  by_cases h0 : lookByE ms [] s = 0
  · have H0 := Lib.hid h0
    clear h0
    go_enter Try.func42, Try.ntmps42
    go_wp2_with (go_at_call 69; refine (lookBy_ok (ds := []) H.out Ints.nil_ (Nat.zero_le _) H0.out).mono ?_; rintro e w1 ⟨A1, c1, rfl, hL, hB1⟩)
    refine (lamps_any (mtL ms) _ _ s _ hL).mono ?_
    rintro e w2 ⟨hR, hB2⟩
    have hW2 := below_step hB1 hB2
    rcases hR with ⟨hn, rfl⟩ | ⟨ps, g1, g2, c2, c3, hn, rfl, hO1, hO2⟩
    · have HN := Lib.hid hn
      clear hn
      go_wp2
      go_ret2
      have e5 := lampsE_none H0.out HN.out
      exact ⟨none, 0, [], 5, rfl, Out.nil_, hW2, (lampsL_no e5 (by decide)).2, e5.symm⟩
    · have HN := Lib.hid hn
      clear hn
      go_wp2
      go_ret2
      have e5 := lampsE_ok H0.out HN.out
      exact ⟨_, c3, ps.map (·.2), 0, by rw [List.length_map]; rfl, hO2, hW2, e5.2.2.symm, e5.1.symm⟩
  · have H0 := Lib.hid h0
    clear h0
    go_enter Try.func42, Try.ntmps42
    go_wp2_with (go_at_call 69; refine (lookBy_no (ds := []) H.out Ints.nil_ (Nat.zero_le _) H0.out).mono ?_; rintro e w1 ⟨E, rfl, hE0, hB1, hE⟩)
    go_ret2
    have e5 := lampsE_no H0.out
    exact ⟨none, 0, [], E, rfl, Out.nil_, hB1, (lampsL_no e5 H0.out).2, by rw [e5]; exact hE.out⟩
end Go.Proofs.Ytmndfcjkokolbaa
