/-
  Contracts: slices.Clone, slices.Reverse at layers; Turned (ice).
-/
import Derived.Test.YtmndfcjkokolbaaSame
import Derived.RegionTactic
import Derived.BigRegion
import Derived.ChangeAlike
import Derived.Lib.SliceRun
namespace Go.Proofs.Ytmndfcjkokolbaa
open Go.RowKit Go.Shelf

section
variable {ops : Array Oper} {rest : List Oper} {o : Oper} {a : Act} {Q : Exit → Act → World → Prop}
/-- Appending the layers of a slice to the call's own layers. -/
theorem wp_app_lays (w : World) (hgd : o.guard = none) (s x : Operand)
    (ho : o.op = .call { callee := .builtin .append, args := #[s, x], argTypes := #[22, 22] })
    (base : Nat) (v : Value) (n : Nat) (xs ys : List (Int × Int)) (A : Option Addr) (c : Nat) (hs : a.eval s = v) (hown : w.ownsRow base 65 2 v n (xs.flatMap mk2))
    (hx : a.eval x = .slice A ys.length c) (hy : Marks w A ys) (hy0 : 0 < ys.length) (hy1 : ys.length ≤ 1000) (hn : n ≤ 1000) (hbase : base ≤ w.heap.size)
    (h : ∀ v' w', w'.ownsRow base 65 2 v' (n + ys.length) ((xs ++ ys).flatMap mk2) → Below base w w' → wpList Try.prog ops Q rest (a.put o.dst v') w') :
    wpList Try.prog ops Q (o :: rest) a w := by
  obtain ⟨i0, hi0, hz0, hz1, hz2⟩ := info_parts lay_info
  obtain ⟨ad, rfl, hb, hall⟩ := hy.2 hy0
  refine wpList_append_own _ hgd s x 22 ho base 65 i0 (.agg #[.int .i64 0, .int .i64 0]) 2 16 Try.underlying22 hi0 hz0 hz1 hz2 rfl (by decide) v n _ hs hown ad ys.length c (ys.flatMap mk2) hx (flat_len ys) hall ?_ (by unfold maxLen; omega) (by omega) hbase ?_
  · intro u hu
    simp only [List.mem_flatMap] at hu
    obtain ⟨m, _, hm⟩ := hu
    simp [mk2] at hm
    rcases hm with rfl | rfl <;> rfl
  · intro v' w' ho' hg _
    refine h v' w' (by rw [List.flatMap_append]; exact ho') ((Below.refl base w).grown hg hbase ?_)
    intro k hk
    exact (hown.lt k hk).1
end
theorem nil_lays (w : World) (a : Option Addr) (n c : Nat) : (binOp .eql 22 (.slice a n c) (.slice none 0 0)).run Try.prog w = .ok (.bool a.isNone) w :=
  Lib.run_eql_slice_nil w 22 65 a n c 0 0 Try.underlying22
theorem own_blockM {w : World} {base n : Nat} {v : Value} {xs : List (Int × Int)} (h : w.ownsRow base 65 2 v n (xs.flatMap mk2)) (hn : 0 < n) : ∃ g c, v = .slice (some ⟨g, 0, none⟩) n c ∧ xs.length = n ∧ base ≤ g := by
  have hl : xs.length = n := by have := h.1; rw [flat_len] at this; omega
  rcases h.2 with ⟨_, h0⟩ | ⟨g, cap, cur, rfl, hb, _, _, _, _⟩
  · omega
  · exact ⟨g, cap, rfl, hl, hb⟩

set_option maxRecDepth 100000 in
theorem clone_any (ms : List (Int × Int)) (A : Option Addr) (c : Nat) (w : World) (h : Marks w A ms) (h0 : 0 < ms.length) (h1 : ms.length ≤ 100) :
    Calls Try.prog 87 #[.slice A ms.length c] w fun e w' => ∃ g c', e = .returned (.slice (some ⟨g, 0, none⟩) ms.length c') ∧ w'.ownsRow w.heap.size 65 2 (.slice (some ⟨g, 0, none⟩) ms.length c') ms.length (ms.flatMap mk2) ∧ Below w.heap.size w w' := by
  obtain ⟨ad, rfl, hb, hall⟩ := h.2 h0
  have H := Lib.hid h
  have hnil := nil_lays
  clear h hall
  go_enter Try.func87, Try.ntmps87
  go_wp2_with (at_builtin; refine wp_app_lays _ rfl (.tmp 5) (.tmp 6) rfl w.heap.size _ 0 [] ms (some ad) c rfl (World.ownsRow_lit w #[] 0 (Nat.le_refl _) (Nat.zero_le _) rfl) rfl (H.out.below ((Below.refl _ _).alloc (Nat.le_refl _) _)) h0 (by omega) (by omega) (by simp) ?_; intro v2 w2 hown2 hB2)
  go_ret
  rw [Nat.zero_add] at hown2
  obtain ⟨g, c', rfl, _, _⟩ := own_blockM hown2 h0
  exact ⟨g, c', rfl, hown2, Below.trans ((Below.refl _ _).alloc (Nat.le_refl _) _) hB2⟩

/-! ### Reverse -/
/-- What has been exchanged so far. -/
def revK (ms : List (Int × Int)) (i : Nat) : List (Int × Int) := (List.range ms.length).map fun k => if k < i ∨ ms.length ≤ k + i then ms.getD (ms.length - 1 - k) (0, 0) else ms.getD k (0, 0)
theorem revK_len (ms : List (Int × Int)) (i : Nat) : (revK ms i).length = ms.length := by simp [revK]
theorem revK_get {ms : List (Int × Int)} {i k : Nat} (h : k < ms.length) : (revK ms i)[k]? = some (if k < i ∨ ms.length ≤ k + i then ms.getD (ms.length - 1 - k) (0, 0) else ms.getD k (0, 0)) := by simp [revK, h]
theorem revK_zero (ms : List (Int × Int)) : revK ms 0 = ms := by
  apply List.ext_getElem?
  intro k
  by_cases hk : k < ms.length
  · rw [revK_get hk, if_neg (by omega), List.getD_eq_getElem?_getD, List.getElem?_eq_getElem hk]; rfl
  · rw [List.getElem?_eq_none (by rw [revK_len]; omega), List.getElem?_eq_none (by omega)]
theorem revK_end {ms : List (Int × Int)} {i : Nat} (h : ms.length ≤ 2 * i + 1) : revK ms i = ms.reverse := by
  apply List.ext_getElem?
  intro k
  by_cases hk : k < ms.length
  · rw [revK_get hk, List.getElem?_reverse hk]
    split
    · rw [List.getD_eq_getElem?_getD, List.getElem?_eq_getElem (show ms.length - 1 - k < ms.length by omega)]; rfl
    · rw [show ms.length - 1 - k = k by omega, List.getD_eq_getElem?_getD, List.getElem?_eq_getElem hk]; rfl
  · rw [List.getElem?_eq_none (by rw [revK_len]; omega), List.getElem?_eq_none (by rw [List.length_reverse]; omega)]
theorem revK_next {ms : List (Int × Int)} {i j : Nat} (hij : i + j + 1 = ms.length) (h : i < j) : ((revK ms i).set i ((revK ms i).getD j (0, 0))).set j ((revK ms i).getD i (0, 0)) = revK ms (i + 1) := by
  have ei : (revK ms i).getD i (0, 0) = ms.getD i (0, 0) := by
    rw [List.getD_eq_getElem?_getD, revK_get (by omega), if_neg (by omega)]; rfl
  have ej : (revK ms i).getD j (0, 0) = ms.getD j (0, 0) := by
    rw [List.getD_eq_getElem?_getD, revK_get (by omega), if_neg (by omega)]; rfl
  rw [ei, ej]
  apply List.ext_getElem?
  intro k
  by_cases hk : k < ms.length
  · rw [revK_get hk]
    by_cases h1 : k = j
    · subst h1
      rw [List.getElem?_set_self (by rw [List.length_set, revK_len]; omega), if_pos (by omega), show ms.length - 1 - k = i by omega]
    · rw [List.getElem?_set_ne (by omega)]
      by_cases h2 : k = i
      · subst h2
        rw [List.getElem?_set_self (by rw [revK_len]; omega), if_pos (by omega), show ms.length - 1 - k = j by omega]
      · rw [List.getElem?_set_ne (by omega), revK_get hk]
        congr 1
        by_cases h3 : k < i ∨ ms.length ≤ k + i
        · rw [if_pos h3, if_pos (by omega)]
        · rw [if_neg h3, if_neg (by omega)]
  · rw [List.getElem?_eq_none (by rw [List.length_set, List.length_set, revK_len]; omega), List.getElem?_eq_none (by rw [revK_len]; omega)]
theorem flat_set : ∀ (zs : List (Int × Int)) (k : Nat) (m : Int × Int), k < zs.length → (zs.set k m).flatMap mk2 = ((zs.flatMap mk2).set (k * 2) (.int .i64 m.1)).set (k * 2 + 1) (.int .i64 m.2)
  | [], k, m, h => by simp at h
  | z :: t, 0, m, h => by simp [mk2]
  | z :: t, k + 1, m, h => by
    have ih := flat_set t k m (by simpa using h)
    rw [List.set_cons_succ, List.flatMap_cons, ih, List.flatMap_cons, show (k + 1) * 2 = (k * 2) + 1 + 1 by omega]
    simp [mk2]
theorem get_pair {zs : List (Int × Int)} {k : Nat} (h : k < zs.length) : ∃ a b, zs.getD k (0, 0) = (a, b) ∧ zs[k]? = some (a, b) :=
  ⟨zs[k].1, zs[k].2, by rw [List.getD_eq_getElem?_getD, List.getElem?_eq_getElem h]; rfl, List.getElem?_eq_getElem h⟩

set_option maxRecDepth 100000 in
set_option maxHeartbeats 2000000 in
theorem reverse_any (ms : List (Int × Int)) (g c base : Nat) (w0 w : World) (hown : w.ownsRow base 65 2 (.slice (some ⟨g, 0, none⟩) ms.length c) ms.length (ms.flatMap mk2)) (hB : Below base w0 w) (h0 : 0 < ms.length) (h1 : ms.length ≤ 100) :
    Calls Try.prog 88 #[.slice (some ⟨g, 0, none⟩) ms.length c] w fun e w' => e = .returned (.tuple #[]) ∧ w'.ownsRow base 65 2 (.slice (some ⟨g, 0, none⟩) ms.length c) ms.length (ms.reverse.flatMap mk2) ∧ Below base w0 w' := by
  have HO := Lib.hid hown
  have HB := Lib.hid hB
  have s1 : IntKind.i64.wrap ((ms.length : Int) - 1) = (ms.length : Int) - 1 := IntWalk.i64_in _ (by omega)
  clear hown hB
  go_enter Try.func88, Try.ntmps88
  go_wp2
  go_loopw [2, 3] (fun a b wr => ∃ i : Nat, 2 * i ≤ ms.length + 1 ∧ a = .int .i64 i ∧ b = .int .i64 ((ms.length : Int) - 1 - i) ∧ wr.ownsRow base 65 2 (.slice (some ⟨g, 0, none⟩) ms.length c) ms.length ((revK ms i).flatMap mk2) ∧ Below base w0 wr) (fun a _ _ => ms.length - (intOf a).toNat)
  case atStart => exact ⟨0, by omega, rfl, by simp, by rw [revK_zero]; exact HO.out, HB.out⟩
  case round =>
    obtain ⟨i, hi, rfl, rfl, hown, hB⟩ := hrel
    by_cases hlt : 2 * i + 1 < ms.length
    · obtain ⟨j, hj⟩ : ∃ j : Nat, i + j + 1 = ms.length := ⟨ms.length - 1 - i, by omega⟩
      have hji : (ms.length : Int) - 1 - (i : Int) = (j : Int) := by omega
      rw [hji]
      have HJ := Lib.hid hj
      have HJI := Lib.hid hji
      have hij : i < j := by omega
      have hjn : j < ms.length := by omega
      have hin : i < ms.length := by omega
      have HNX := Lib.hid (revK_next hj hij)
      obtain ⟨a, b, ea, ha⟩ := get_pair (zs := revK ms i) (k := i) (by rw [revK_len]; omega)
      obtain ⟨p, q, ep, hp⟩ := get_pair (zs := revK ms i) (k := j) (by rw [revK_len]; omega)
      rw [ea, ep] at HNX
      have c0 := hown.cellAt (i * 2) (by omega)
      have c1 := hown.cellAt (i * 2 + 1) (by omega)
      have c2 := hown.cellAt (j * 2) (by omega)
      have c3 := hown.cellAt (j * 2 + 1) (by omega)
      rw [Nat.mul_comm, (flat_get _ _ _ ha).1, Nat.mul_comm] at c0
      rw [Nat.mul_comm, (flat_get _ _ _ ha).2, Nat.mul_comm] at c1
      rw [Nat.mul_comm, (flat_get _ _ _ hp).1, Nat.mul_comm] at c2
      rw [Nat.mul_comm, (flat_get _ _ _ hp).2, Nat.mul_comm] at c3
      have z0 := hown.frozenAt (i * 2)
      have z1 := hown.frozenAt (i * 2 + 1)
      have z2 := hown.frozenAt (j * 2)
      have z3 := hown.frozenAt (j * 2 + 1)
      have t0 : decide ((i : Int) < (j : Int)) = true := decide_eq_true (by omega)
      have i0 : (0 : Int) ≤ (i : Int) := by omega
      have i1 : (i : Int) < (ms.length : Int) := by omega
      have j0 : (0 : Int) ≤ (j : Int) := by omega
      have j1 : (j : Int) < (ms.length : Int) := by omega
      have n1 : i * 2 ≠ j * 2 := by omega
      have n2 : i * 2 ≠ j * 2 + 1 := by omega
      have n3 : i * 2 + 1 ≠ j * 2 := by omega
      have n4 : i * 2 + 1 ≠ j * 2 + 1 := by omega
      have HOWN := Lib.hid hown
      have HBB := Lib.hid hB
      clear hown hB ha hp ea ep hj hji
      generalize hwq : wr = wq at c0 c1 c2 c3 z0 z1 z2 z3 HOWN HBB
      go_wp2
      go_region
      have hge : base ≤ g := (HOWN.out.lt g rfl).1
      have HS := World.ownsRow.stored (World.ownsRow.stored (World.ownsRow.stored (World.ownsRow.stored HOWN.out (i * 2) (.int .i64 p)).1 (i * 2 + 1) (.int .i64 q)).1 (j * 2) (.int .i64 a)).1 (j * 2 + 1) (.int .i64 b)
      rw [show ((((revK ms i).flatMap mk2).set (i * 2) (.int .i64 p)).set (i * 2 + 1) (.int .i64 q)) = ((revK ms i).set i (p, q)).flatMap mk2 from (flat_set _ i (p, q) (by rw [revK_len]; omega)).symm, show ((((revK ms i).set i (p, q)).flatMap mk2).set (j * 2) (.int .i64 a)).set (j * 2 + 1) (.int .i64 b) = (((revK ms i).set i (p, q)).set j (a, b)).flatMap mk2 from (flat_set _ j (a, b) (by rw [List.length_set, revK_len]; omega)).symm, HNX.out] at HS
      have HS2 := Lib.hid HS
      clear HS
      go_wp2
      go_roundw
      case rel => exact ⟨i + 1, by omega, by go_num, by rw [show (ms.length : Int) - 1 - ((i + 1 : Nat) : Int) = (j : Int) - 1 by have := HJI.out; omega], HS2.out.1, ((((HBB.out.setCell hge _).setCell hge _).setCell hge _).setCell hge _).drew⟩
      case measure => simp [intOf]; omega
    · have t0 : decide ((i : Int) < (ms.length : Int) - 1 - (i : Int)) = false := decide_eq_false (by omega)
      have HE := Lib.hid (revK_end (ms := ms) (i := i) (by omega))
      rw [HE.out] at hown
      go_wp2
      go_end0
      exact ⟨rfl, hown, hB⟩

def turnE (ms : List (Int × Int)) : Int := if viB ms then 0 else 40
def turnL (ms : List (Int × Int)) : List (Int × Int) := if viB ms then ms.reverse else []
theorem turn_ok {ms : List (Int × Int)} (h : viB ms = true) : turnE ms = 0 ∧ turnL ms = ms.reverse := by rw [turnE, turnL, if_pos h, if_pos h]; exact ⟨rfl, rfl⟩
theorem turn_no {ms : List (Int × Int)} (h : viB ms = false) : turnE ms = 40 ∧ turnL ms = [] := by rw [turnE, turnL, h]; exact ⟨rfl, rfl⟩
/-- What a call answers that returns ice. -/
def IceRes (E : Int) (ys : List (Int × Int)) (e : Ending) (w w' : World) : Prop :=
  ∃ (A : Option Addr) (c : Nat) (zs : List (Int × Int)) (F : Int), e = .returned (.tuple #[.slice A zs.length c, .int .i64 F]) ∧ Clk w' A c zs ∧ Below w.heap.size w w' ∧ Hid (zs = ys ∧ F = E)

set_option maxRecDepth 100000 in
theorem iceTurned_any (ms : List (Int × Int)) (A : Option Addr) (c : Nat) (w : World) (h : Clk w A c ms) :
    Calls Try.prog 50 #[.slice A ms.length c] w fun e w' => IceRes (turnE ms) (turnL ms) e w w' := by
  have H := Lib.hid h
  clear h
  cases hv : viB ms with
  | false =>
    have HT := Lib.hid (turn_no hv)
    go_enter Try.func50, Try.ntmps50
    go_wp2_with (go_at_call 21; refine (valid_any ms _ _ _ H.out.marks H.out.len).mono ?_; rintro e w1 ⟨rfl, hB1⟩)
    go_ret2
    exact ⟨none, 0, [], 40, rfl, Clk.nil_, hB1, HT.out.2.symm, HT.out.1.symm⟩
  | true =>
    have HT := Lib.hid (turn_ok hv)
    have hn := vi_parts hv
    have n0 : 0 < ms.length := by omega
    have n1 : ms.length ≤ 100 := by omega
    have HR := Lib.hid (show ms.reverse.length = ms.length from List.length_reverse)
    go_enter Try.func50, Try.ntmps50
    go_wp2_with (first
      | (go_at_call 21; refine (valid_any ms _ _ _ H.out.marks H.out.len).mono ?_; rintro e w1 ⟨rfl, hB1⟩)
      | (go_at_call 87; refine (clone_any ms _ _ _ (H.out.below hB1).marks n0 n1).mono ?_; rintro e w2 ⟨g, c2, rfl, hO2, hB2⟩; have hW2 := below_step hB1 hB2)
      | (go_at_call 88; refine (reverse_any ms g c2 _ _ _ hO2 hB2 n0 n1).mono ?_; rintro e w3 ⟨rfl, hO3, hB3⟩))
    go_ret2
    obtain ⟨A', c', hv', hC⟩ := own_layers hO3
    rw [HR.out] at hv'
    refine ⟨A', c', ms.reverse, 0, by rw [hv', HR.out]; rfl, hC, below_step hB1 hB3, HT.out.2.symm, HT.out.1.symm⟩

set_option maxRecDepth 100000 in
theorem refTurned_any (ms : List (Int × Int)) (A : Option Addr) (c : Nat) (w : World) (h : Clk w A c ms) :
    Calls Try.prog 51 #[.slice A ms.length c] w fun e w' => IceRes (turnE ms) (turnL ms) e w w' := by
  have H := Lib.hid h
  clear h
  cases hv : viB ms with
  | false =>
    have HT := Lib.hid (turn_no hv)
    go_enter Try.func51, Try.ntmps51
    go_wp2_with (go_at_call 22; refine (refValid_any ms _ _ _ H.out.marks H.out.len).mono ?_; rintro e w1 ⟨rfl, n, rfl⟩)
    go_ret2
    exact ⟨none, 0, [], 40, rfl, Clk.nil_, below_drewN (Below.refl _ _) n, HT.out.2.symm, HT.out.1.symm⟩
  | true =>
    have HT := Lib.hid (turn_ok hv)
    have hn := vi_parts hv
    have n0 : 0 < ms.length := by omega
    have n1 : ms.length ≤ 100 := by omega
    obtain ⟨bl, off, rfl, hbk, hcells⟩ := H.out.marks.open_ n0
    have HC := Lib.hid hcells
    clear hcells
    go_enter Try.func51, Try.ntmps51
    go_wp2_with (go_at_call 22; refine (refValid_any ms _ _ _ H.out.marks H.out.len).mono ?_; rintro e w1 ⟨rfl, n, rfl⟩)
    go_loopw [4, 5] (fun v i wr => ∃ k : Nat, k ≤ ms.length ∧ i = .int .i64 ((ms.length : Int) - 1 - k) ∧ ∃ xs : List (Int × Int), wr.ownsRow w.heap.size 65 2 v k (xs.flatMap mk2) ∧ Below w.heap.size w wr ∧ Hid (xs = ms.reverse.take k)) (fun _ i _ => (intOf i + 1).toNat)
    case atStart => exact ⟨0, Nat.zero_le _, by simp, [], World.ownsRow_nil _ _ _ _, below_drewN (Below.refl _ _) n, rfl⟩
    case round =>
      obtain ⟨k, hk, rfl, xs, hown, hB, hX⟩ := hrel
      by_cases hlt : k < ms.length
      · obtain ⟨j, hj⟩ : ∃ j : Nat, j + k + 1 = ms.length := ⟨ms.length - 1 - k, by omega⟩
        have hji : (ms.length : Int) - 1 - (k : Int) = (j : Int) := by omega
        rw [hji]
        obtain ⟨a, b, hx⟩ := getM_of_lt (show j < ms.length by omega)
        have f0 := (hB.cell (p := ⟨bl, off + j * 2, none⟩) hbk).trans (HC.out _ _ hx).1
        have f1 := (hB.cell (p := ⟨bl, off + j * 2 + 1, none⟩) hbk).trans (HC.out _ _ hx).2
        have hz := hB.size
        have hbw : bl < wr.heap.size := Nat.lt_of_lt_of_le hbk hz
        have t0 : decide ((0 : Int) ≤ (j : Int)) = true := decide_eq_true (by omega)
        have j0 : (0 : Int) ≤ (j : Int) := by omega
        have j1 : (j : Int) < (ms.length : Int) := by omega
        have HNX : Hid (xs ++ [(a, b)] = ms.reverse.take (k + 1)) := by
          rw [hX.out]
          exact (take_snoc (by rw [List.getElem?_reverse (by omega), show ms.length - 1 - k = j by omega]; exact hx)).symm
        have HJ := Lib.hid hj
        have HJI := Lib.hid hji
        clear hx hj hji hX
        go_wp2_with (at_builtin; refine wp_app_lay _ rfl (.tmp 16) (.tmp 21) rfl w.heap.size _ k xs a b rfl hown rfl (by omega) hz ?_; intro v2 w2 hown2 hB2)
        go_roundw
        case rel => exact ⟨k + 1, by omega, by rw [show (ms.length : Int) - 1 - ((k + 1 : Nat) : Int) = (j : Int) - 1 by have := HJI.out; omega], _, hown2, hB.trans hB2, HNX.out⟩
        case measure => simp [intOf]
      · obtain rfl : k = ms.length := by omega
        have t0 : decide ((0 : Int) ≤ (ms.length : Int) - 1 - (ms.length : Int)) = false := decide_eq_false (by omega)
        go_wp2
        go_ret2
        obtain ⟨A', c', rfl, hC⟩ := own_layers hown
        exact ⟨A', c', xs, 0, rfl, hC, hB, by rw [hX.out, HT.out.2, List.take_of_length_le (by simp)], HT.out.1.symm⟩
end Go.Proofs.Ytmndfcjkokolbaa
