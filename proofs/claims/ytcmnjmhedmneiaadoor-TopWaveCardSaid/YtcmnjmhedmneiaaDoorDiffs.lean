/-
  Plain words for wave forms; contracts: validSample, Valid, differencesOf (wave); Many (firnlaw03).
-/
import Derived.Test.YtcmnjmhedmneiaaDoorFront
namespace Go.Proofs.YtcmnjmhedmneiaaDoor
open Go.RowKit Go.Shelf

def smpB (n : Int) : Bool := decide (0 ≤ n ∧ n ≤ 1023)
def vwB (s : List Int) : Bool := decide (1 ≤ s.length ∧ s.length ≤ 40) && s.all smpB
/-- The differences, the first one from a number. -/
def difG : Int → List Int → List Int
  | _, [] => []
  | a, n :: t => (n - a) :: difG n t
def difL (s : List Int) : List Int := difG 0 s
/-- The last number, or the one in front. -/
def lastG (a : Int) (s : List Int) : Int := s.getLast?.getD a
theorem difG_len : ∀ (a : Int) (s : List Int), (difG a s).length = s.length
  | _, [] => rfl
  | a, n :: t => by rw [difG, List.length_cons, List.length_cons, difG_len n t]
theorem difG_snoc : ∀ (a : Int) (s : List Int) (n : Int), difG a (s ++ [n]) = difG a s ++ [n - lastG a s]
  | a, [], n => rfl
  | a, m :: t, n => by
    rw [List.cons_append, difG, difG_snoc m t n, difG, List.cons_append]
    cases t with
    | nil => rfl
    | cons k u =>
      have e : lastG m (k :: u) = lastG a (m :: k :: u) := by
        unfold lastG
        rw [List.getLast?_cons_cons]
        cases hh : (k :: u).getLast? with
        | none => simp at hh
        | some z => rfl
      rw [e]
theorem last_snoc (a : Int) (s : List Int) (n : Int) : lastG a (s ++ [n]) = n := by simp [lastG]
theorem vw_parts {s : List Int} (h : vwB s = true) : (1 ≤ s.length ∧ s.length ≤ 40) ∧ ∀ n ∈ s, 0 ≤ n ∧ n ≤ 1023 := by
  simp only [vwB, Bool.and_eq_true, decide_eq_true_eq, List.all_eq_true, smpB] at h
  exact h
theorem vw_len {s : List Int} (h : ¬ (1 ≤ s.length ∧ s.length ≤ 40)) : false = vwB s := by rw [vwB, decide_eq_false h]; rfl
theorem vw_end {s : List Int} (h : 1 ≤ s.length ∧ s.length ≤ 40) (ha : s.all smpB = true) : true = vwB s := by rw [vwB, decide_eq_true h, ha]; rfl
theorem last_in {a : Int} {s : List Int} (ha : 0 ≤ a ∧ a ≤ 1023) (h : ∀ n ∈ s, 0 ≤ n ∧ n ≤ 1023) : 0 ≤ lastG a s ∧ lastG a s ≤ 1023 := by
  unfold lastG
  cases hl : s.getLast? with
  | none => exact ha
  | some m => exact h m (List.mem_of_getLast? hl)
theorem dif_bd : ∀ (a : Int) (s : List Int), (0 ≤ a ∧ a ≤ 1023) → (∀ n ∈ s, 0 ≤ n ∧ n ≤ 1023) → ∀ d ∈ difG a s, -1023 ≤ d ∧ d ≤ 1023
  | _, [], _, _, d, hd => by cases hd
  | a, n :: t, ha, h, d, hd => by
    rw [difG] at hd
    have hn := h n (by simp)
    rcases List.mem_cons.1 hd with rfl | hd
    · omega
    · exact dif_bd n t hn (fun x hx => h x (by simp [hx])) d hd

theorem many_any (s : List Int) (A : Option Addr) (c : Nat) (w : World) :
    Calls Tryd.prog 17 #[.slice A s.length c] w fun e w' => e = .returned (.bool (decide (200 < s.length))) ∧ w = w' := by
  go_enter Tryd.func17, Tryd.ntmps17
  go_wp2
  go_ret
  exact ⟨ret_bool (by simp; omega), rfl⟩
theorem sample_any (n : Int) (w : World) : Calls Tryd.prog 61 #[.int .i64 n] w fun e w' => e = .returned (.bool (smpB n)) ∧ w = w' := by
  go_enter Tryd.func61, Tryd.ntmps61
  go_wp2
  all_goals
    go_ret
    exact ⟨ret_bool (by simp [smpB] <;> omega), rfl⟩

set_option maxRecDepth 100000 in
theorem valid_any (s : List Int) (A : Option Addr) (c : Nat) (w : World) (h : Ints w A s) (hl : s.length ≤ maxLen) :
    Calls Tryd.prog 24 #[.slice A s.length c] w fun e w' => e = .returned (.bool (vwB s)) ∧ w = w' := by
  unfold maxLen at hl
  have H := Lib.hid h
  clear h
  by_cases h1 : (s.length : Int) < 1
  · have t1 : decide ((s.length : Int) < 1) = true := decide_eq_true h1
    go_enter Tryd.func24, Tryd.ntmps24
    go_wp2
    go_ret
    exact ⟨ret_bool (vw_len (by omega)), rfl⟩
  have t1 : decide ((s.length : Int) < 1) = false := decide_eq_false h1
  by_cases h2 : 40 < (s.length : Int)
  · have t2 : decide (40 < (s.length : Int)) = true := decide_eq_true h2
    go_enter Tryd.func24, Tryd.ntmps24
    go_wp2
    go_ret
    exact ⟨ret_bool (vw_len (by omega)), rfl⟩
  have t2 : decide (40 < (s.length : Int)) = false := decide_eq_false h2
  have hn : 1 ≤ s.length ∧ s.length ≤ 40 := by omega
  clear h1 h2
  go_enter Tryd.func24, Tryd.ntmps24
  go_wp2
  go_loop [15] (fun i => ∃ k : Nat, k ≤ s.length ∧ i = .int .i64 k ∧ Hid ((s.take k).all smpB = true)) (fun i => s.length - (intOf i).toNat)
  case atStart => exact ⟨0, Nat.zero_le _, rfl, rfl⟩
  case round =>
    obtain ⟨k, hk, rfl, hA⟩ := hrel
    by_cases hlt : k < s.length
    · obtain ⟨ad, z, rfl, _, hz, hc⟩ := H.out.get hlt
      cases hb : smpB z with
      | false =>
        have HB := Lib.hid hb
        clear hb
        go_wp2_with (go_at_call 61; refine (sample_any z _).mono ?_; rintro e w1 ⟨rfl, rfl⟩; rw [HB.out])
        go_ret
        exact ⟨ret_bool (by rw [vwB, all_not hz.out HB.out, Bool.and_false]), rfl⟩
      | true =>
        have HB := Lib.hid hb
        clear hb
        go_wp2_with (go_at_call 61; refine (sample_any z _).mono ?_; rintro e w1 ⟨rfl, rfl⟩; rw [HB.out])
        go_round
        case rel => exact ⟨k + 1, by omega, by go_num, by rw [all_snoc hz.out, hA.out, HB.out]; rfl⟩
        case measure => simp [intOf]; omega
    · obtain rfl : k = s.length := by omega
      go_wp2
      go_ret
      exact ⟨ret_bool (vw_end hn (by have := hA.out; rwa [List.take_length] at this)), rfl⟩

set_option maxRecDepth 100000 in
theorem differences_any (s : List Int) (A : Option Addr) (c : Nat) (w : World) (h : Ints w A s) (hv : vwB s = true) :
    Calls Tryd.prog 58 #[.slice A s.length c] w fun e w' => ∃ (g c' : Nat), e = .returned (.slice (some ⟨g, 0, none⟩) s.length c') ∧ w.heap.size ≤ g ∧ Out w' (some ⟨g, 0, none⟩) c' (difL s) ∧ Below w.heap.size w w' := by
  obtain ⟨⟨hn1, hn2⟩, hall⟩ := vw_parts hv
  have HA := Lib.hid hall
  obtain ⟨bl, off, e, hbk, hc⟩ := h.open_ (by omega)
  subst e
  have HC := Lib.hid hc
  obtain ⟨i0, hi0, hz0, hz1, hz2⟩ := info_parts int_info
  have HZ2 := Lib.hid hz2
  clear h hc hv hz2 hall
  go_enter Tryd.func58, Tryd.ntmps58
  go_wp2_with (at_make; refine wpList_make_own _ rfl _ _ 22 rfl w.heap.size 3 i0 (.int .i64 0) 1 Tryd.underlying22 hi0 hz0 hz1 .i64 .i64 s.length s.length rfl rfl rfl (by rw [HZ2.out]; omega) (by unfold maxLen; omega) (Nat.le_refl _) ?_; intro w4 hown4 hg4)
  have hB4 : Below w.heap.size w w4 := (Below.refl _ _).grown hg4 (Nat.le_refl _) (by simp)
  have HO4 := Lib.hid hown4
  clear hown4 hg4 hi0 hz0 hz1 HZ2
  go_loopw [3, 4, 12] (fun v a i wr => ∃ k : Nat, k ≤ s.length ∧ i = .int .i64 k ∧ ∃ (xs : List Int) (l : Int), a = .int .i64 l ∧ (0 ≤ l ∧ l ≤ 1023) ∧ wr.ownsRow w.heap.size 3 1 v k (xs.map (Value.int .i64)) ∧ Below w.heap.size w wr ∧ Hid (xs = difL (s.take k) ∧ l = lastG 0 (s.take k))) (fun _ _ i _ => s.length - (intOf i).toNat)
  case atStart => exact ⟨0, Nat.zero_le _, rfl, [], 0, rfl, by omega, HO4.out, hB4, rfl, rfl⟩
  case round =>
    clear hB4
    obtain ⟨k, hk, rfl, xs, l, rfl, hl, hown, hB, hX⟩ := hrel
    obtain ⟨hl0, hl1⟩ := hl
    by_cases hlt : k < s.length
    · obtain ⟨z, hz⟩ := getElem?_of_lt hlt
      have f0 := (hB.cell (p := ⟨bl, off + k, none⟩) hbk).trans (HC.out _ _ hz)
      have hzb := HA.out z (List.mem_of_getElem? hz)
      obtain ⟨hzb0, hzb1⟩ := hzb
      have HNX : Hid (xs ++ [z - l] = difL (s.take (k + 1)) ∧ z = lastG 0 (s.take (k + 1))) := by
        rw [take_snoc hz, difL, difG_snoc, last_snoc, hX.out.1, hX.out.2]
        exact ⟨rfl, rfl⟩
      have hsz := hB.size
      clear hz hX
      go_wp2_with (at_builtin; refine wp_app_int _ rfl (.tmp 16) (.tmp 20) rfl w.heap.size _ k xs _ rfl hown rfl (by omega) hsz ?_; intro v2 w2 hown2 hB2)
      go_roundw
      case rel => exact ⟨k + 1, by omega, by go_num, _, z, rfl, ⟨hzb0, hzb1⟩, hown2, hB.trans hB2, HNX.out⟩
      case measure => simp [intOf]; omega
    · obtain rfl : k = s.length := by omega
      go_wp2
      go_ret
      have hx : xs = difL s := by have := hX.out.1; rwa [List.take_length] at this
      subst hx
      obtain ⟨A', c', e, hO⟩ := own_ints hown
      have hlen : (difL s).length = s.length := difG_len 0 s
      rcases hown.2 with ⟨_, h0⟩ | ⟨g, cap, cur, hv, hgb, _, _, _, _⟩
      · omega
      · have e2 := hv.symm.trans e
        injection e2 with e3 e4 e5
        subst e3 e5
        exact ⟨g, cap, by rw [hv]; rfl, hgb, hO, hB⟩
end Go.Proofs.YtcmnjmhedmneiaaDoor
