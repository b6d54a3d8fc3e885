/-
  Contracts: losses, Between, Clearest (firnref04).
-/
import Derived.Test.YtmndfcjkokolbaaBetween
namespace Go.Proofs.Ytmndfcjkokolbaa
open Go.RowKit Go.Shelf

theorem vi_zip {ms : List (Int × Int)} {ds : List Int} (hv : viB ms = true) (h : ds.length = ms.length) : viB (zipD ms ds) = ds.all (inB 100) := by
  cases hd : ds.all (inB 100) with
  | true => exact zipD_ok hv h (fun d hdd => by have := List.all_eq_true.1 hd d hdd; simpa [inB] using this)
  | false =>
    rw [List.all_eq_false] at hd
    obtain ⟨d, hdd, hb⟩ := hd
    obtain ⟨k, hk, e⟩ := List.mem_iff_getElem.1 hdd
    obtain ⟨a, b, hx⟩ := getM_of_lt (show k < ms.length by omega)
    have hz := zipD_get hx (show ds[k]? = some d by rw [List.getElem?_eq_getElem hk, e])
    rw [viB, all_not hz (by simp [inB] at hb; simp [layB]; omega), Bool.and_false]
section
variable {ops : Array Oper} {o : Oper} {a : Act} {K : Act → World → Prop} {Q : Exit → Act → World → Prop} {E : Prop}
theorem step_app_lay (w : World) (hgd : o.guard = none) (s x : Operand)
    (ho : o.op = .call { callee := .builtin .append, args := #[s, x], argTypes := #[22, 22] })
    (base : Nat) (v : Value) (n : Nat) (xs : List (Int × Int)) (y z : Int) (hs : a.eval s = v) (hown : w.ownsRow base 65 2 v n (xs.flatMap mk2))
    (hx : a.eval x = .slice (some ⟨w.heap.size, 0, none⟩) 1 1) (hn : n ≤ 1000000) (hbase : base ≤ w.heap.size)
    (h : ∀ v' w', w'.ownsRow base 65 2 v' (n + 1) ((xs ++ [(y, z)]).flatMap mk2) → Below base w w' → K (a.put o.dst v') w') :
    if Region.wanted o (yielded ops a.tmps) = true then Oper.wp Try.prog o a (w.alloc (.cells #[.int .i64 y, .int .i64 z] 65)).drew K Q else E := by
  obtain ⟨i0, hi0, hz0, hz1, hz2⟩ := info_parts lay_info
  refine step_app w hgd s x 22 ho base 65 i0 (.agg #[.int .i64 0, .int .i64 0]) 2 16 Try.underlying22 hi0 hz0 hz1 hz2 rfl (by decide) (by decide) v n _ [.int .i64 y, .int .i64 z] hs hown hx rfl ?_ hn hbase ?_
  · intro u hu; simp at hu; rcases hu with rfl | rfl <;> rfl
  · intro v' w' h1 h2 _
    exact h v' w' (by rw [List.flatMap_append]; exact h1) h2
end

/-- The error where something is out of range. -/
theorem estE_two {ms : List (Int × Int)} {T : List (List Int)} {a b : Int} (hv : viB ms = true) (h : ¬ ((0 ≤ a ∧ a ≤ depthN ms) ∧ (0 ≤ b ∧ b ≤ depthN ms) ∧ estB ms.length T = true)) : estE ms T a b = 2 ∧ estL ms T a b = [] := by
  by_cases h0 : lookE ms [a, b] = 0
  · have h1 := lossE_in h0
    refine estE_arg h0 ?_
    cases hb : estB ms.length T with
    | false => rfl
    | true => exact absurd ⟨h1.2.1, h1.2.2, hb⟩ h
  · have h2 := estE_no (T := T) h0
    refine ⟨h2.1.trans ?_, h2.2⟩
    unfold lookE at h0 ⊢
    rw [if_pos hv] at h0 ⊢
    by_cases h3 : [a, b].all (inB (mtL ms).length) = true
    · rw [if_pos h3] at h0; exact absurd rfl h0
    · rw [if_neg h3]
theorem estE_ice {ms : List (Int × Int)} {T : List (List Int)} {a b : Int} (hv : viB ms = false) : estE ms T a b = 40 ∧ estL ms T a b = [] := by
  have h : lookE ms [a, b] = 40 := lookE_ice hv
  have := estE_no (ms := ms) (T := T) (a := a) (b := b) (by rw [h]; decide)
  rw [h] at this; exact this

set_option maxRecDepth 100000 in
set_option maxHeartbeats 4000000 in
theorem refLosses_any (ms : List (Int × Int)) (A : Option Addr) (c : Nat) (T : List (List Int)) (B : Option Addr) (d : Nat) (a b : Int) (w : World) (h : Clk w A c ms) (hT : Tabs w B T) :
    Calls Try.prog 92 #[.slice A ms.length c, .slice B T.length d, .int .i64 a, .int .i64 b] w fun e w' => ∃ (A' : Option Addr) (c' : Nat) (xs : List Int) (E : Int), e = .returned (.tuple #[.slice A' xs.length c', .int .i64 E]) ∧ Out w' A' c' xs ∧ Below w.heap.size w w' ∧ Hid (xs = estL ms T a b ∧ E = estE ms T a b) := by
  have H := Lib.hid h
  have HT := Lib.hid hT
  clear h hT
  cases hv : viB ms with
  | false =>
    have HV := Lib.hid hv
    go_enter Try.func92, Try.ntmps92
    go_wp2_with (go_at_call 22; refine (refValid_any ms _ _ _ H.out.marks H.out.len).mono ?_; rintro e w1 ⟨rfl, n, rfl⟩)
    go_ret2
    exact ⟨none, 0, [], 40, rfl, Out.nil_, below_drewN (Below.refl _ _) n, (estE_ice HV.out).2.symm, (estE_ice HV.out).1.symm⟩
  | true =>
  have HV := Lib.hid hv
  have hlen := (mt_ok hv).2
  have hms := vi_parts hv
  have TA : Hid True := Lib.hid trivial
  have TB : Hid True := Lib.hid trivial
  by_cases h1 : 1 ≤ (T.length : Int) ∧ (T.length : Int) ≤ 10
  case neg =>
    have H1 := Lib.hid h1
    clear h1
    go_enter Try.func92, Try.ntmps92
    go_wp2_with (first
      | (go_at_call 22; refine (refValid_any ms _ _ _ H.out.marks H.out.len).mono ?_; rintro e w1 ⟨rfl, n, rfl⟩)
      | (go_at_call 58; refine (metres_any ms _ _ _ (H.out.below (below_drewN (Below.refl _ _) n)).marks HV.out).mono ?_; rintro e w2 ⟨A2, c2, xs, rfl, hO, hB2, hx⟩; obtain rfl := hx.out; have hW2 := below_step (below_drewN (Below.refl w.heap.size w) n) hB2)
      | (go_at_call 65; refine (refWithin_val _ (decide_eq_false H1.out)).mono ?_; rintro e w3 ⟨rfl, rfl⟩))
    go_ret2
    have e2 := estE_two (ms := ms) (T := T) (a := a) (b := b) HV.out (fun hh => H1.out (by have := (estB_parts hh.2.2).1; omega))
    exact ⟨none, 0, [], 2, rfl, Out.nil_, hW2, e2.2.symm, e2.1.symm⟩
  case pos =>
  by_cases ha : 0 ≤ a ∧ a ≤ ((mtL ms).length : Int)
  case neg =>
    have H1 := Lib.hid h1
    have HA := Lib.hid ha
    clear h1 ha
    go_enter Try.func92, Try.ntmps92
    go_wp2_with (first
      | (go_at_call 22; refine (refValid_any ms _ _ _ H.out.marks H.out.len).mono ?_; rintro e w1 ⟨rfl, n, rfl⟩)
      | (go_at_call 58; refine (metres_any ms _ _ _ (H.out.below (below_drewN (Below.refl _ _) n)).marks HV.out).mono ?_; rintro e w2 ⟨A2, c2, xs, rfl, hO, hB2, hx⟩; obtain rfl := hx.out; have hW2 := below_step (below_drewN (Below.refl w.heap.size w) n) hB2)
      | (go_at_call 65; clear TA; refine (refWithin_val _ (decide_eq_true H1.out)).mono ?_; rintro e w3 ⟨rfl, rfl⟩)
      | (go_at_call 65; refine (refWithin_val _ (decide_eq_false HA.out)).mono ?_; rintro e w3 ⟨rfl, rfl⟩))
    go_ret2
    have e2 := estE_two (ms := ms) (T := T) (a := a) (b := b) HV.out (fun hh => HA.out hh.1)
    exact ⟨none, 0, [], 2, rfl, Out.nil_, hW2, e2.2.symm, e2.1.symm⟩
  case pos =>
  by_cases hb : 0 ≤ b ∧ b ≤ ((mtL ms).length : Int)
  case neg =>
    have H1 := Lib.hid h1
    have HA := Lib.hid ha
    have HBB := Lib.hid hb
    clear h1 ha hb
    go_enter Try.func92, Try.ntmps92
    go_wp2_with (first
      | (go_at_call 22; refine (refValid_any ms _ _ _ H.out.marks H.out.len).mono ?_; rintro e w1 ⟨rfl, n, rfl⟩)
      | (go_at_call 58; refine (metres_any ms _ _ _ (H.out.below (below_drewN (Below.refl _ _) n)).marks HV.out).mono ?_; rintro e w2 ⟨A2, c2, xs, rfl, hO, hB2, hx⟩; obtain rfl := hx.out; have hW2 := below_step (below_drewN (Below.refl w.heap.size w) n) hB2)
      | (go_at_call 65; clear TA; refine (refWithin_val _ (decide_eq_true H1.out)).mono ?_; rintro e w3 ⟨rfl, rfl⟩)
      | (go_at_call 65; clear TB; refine (refWithin_val _ (decide_eq_true HA.out)).mono ?_; rintro e w3 ⟨rfl, rfl⟩)
      | (go_at_call 65; refine (refWithin_val _ (decide_eq_false HBB.out)).mono ?_; rintro e w3 ⟨rfl, rfl⟩))
    go_ret2
    have e2 := estE_two (ms := ms) (T := T) (a := a) (b := b) HV.out (fun hh => HBB.out hh.2.1)
    exact ⟨none, 0, [], 2, rfl, Out.nil_, hW2, e2.2.symm, e2.1.symm⟩
  case pos =>
  have H1 := Lib.hid h1
  have HA := Lib.hid ha
  have HBB := Lib.hid hb
  have hT10 : 1 ≤ T.length ∧ T.length ≤ 10 := by omega
  clear h1 ha hb
  obtain ⟨tb, to, e, hbk, hc⟩ := HT.out (by omega)
  subst e
  have HC := Lib.hid hc
  obtain ⟨mb, mo, e, hmk, hmc⟩ := H.out.marks.open_ (by omega)
  subst e
  have HM := Lib.hid hmc
  clear hc hmc
  go_enter Try.func92, Try.ntmps92
  go_wp2_with (first
    | (go_at_call 22; refine (refValid_any ms _ _ _ H.out.marks H.out.len).mono ?_; rintro e w1 ⟨rfl, n, rfl⟩)
    | (go_at_call 58; refine (metres_any ms _ _ _ (H.out.below (below_drewN (Below.refl _ _) n)).marks HV.out).mono ?_; rintro e w2 ⟨A2, c2, xs, rfl, hO, hB2, hx⟩; obtain rfl := hx.out; have hW2 := below_step (below_drewN (Below.refl w.heap.size w) n) hB2)
    | (go_at_call 65; clear TA; refine (refWithin_val _ (decide_eq_true H1.out)).mono ?_; rintro e w3 ⟨rfl, rfl⟩)
    | (go_at_call 65; clear TB; refine (refWithin_val _ (decide_eq_true HA.out)).mono ?_; rintro e w3 ⟨rfl, rfl⟩)
    | (go_at_call 65; refine (refWithin_val _ (decide_eq_true HBB.out)).mono ?_; rintro e w3 ⟨rfl, rfl⟩))
  clear hO hB2 hx
  go_loopw [11, 12] (fun v i wr => ∃ k : Nat, k ≤ T.length ∧ i = .int .i64 k ∧ ∃ xs : List Int, wr.ownsRow w.heap.size 3 1 v xs.length (xs.map (Value.int .i64)) ∧ xs.length ≤ k ∧ Below w.heap.size w wr ∧ Hid (xs = (T.take k).map (estI ms a b)) ∧ Hid ((T.take k).all (estR ms.length) = true)) (fun _ i _ => T.length - (intOf i).toNat)
  case atStart => exact ⟨0, Nat.zero_le _, rfl, [], World.ownsRow_nil _ _ _ _, Nat.le_refl _, hW2, rfl, rfl⟩
  case round =>
    obtain ⟨k, hk, rfl, xs, hown, hxl, hB, hX, hall⟩ := hrel
    by_cases hlt : k < T.length
    · obtain ⟨ds, hz⟩ := getT_of_lt hlt
      obtain ⟨D, cc, hf0, hI, hzc, hcm⟩ := HC.out k ds hz
      have f0 := (hB.cell (p := ⟨tb, to + k, none⟩) hbk).trans hf0
      have HZ := Lib.hid hz
      have hz0 := hB.size
      have hbw : tb < wr.heap.size := Nat.lt_of_lt_of_le hbk hz0
      unfold maxLen at hcm
      by_cases hd : ds.length = ms.length
      · have v1 : ((ds.length : Int) != (ms.length : Int)) = false := by simp; omega
        have v2 : (ds.length != ms.length) = false := by simp; omega
        have HD := Lib.hid hd
        have hdl : ds.length ≤ 20 := by omega
        have HI := Lib.hid (hI.below hB)
        have HO := Lib.hid hown
        have HW := Lib.hid hB
        obtain ⟨ys0, hys0⟩ : ∃ ys, zipD ms ds = ys := ⟨_, rfl⟩
        have HY := Lib.hid hys0
        have HYL : Hid (ys0.length = ms.length) := by rw [← hys0]; exact zipD_len hd
        obtain ⟨wo, rfl⟩ : ∃ wo : World, wo = wr := ⟨_, rfl⟩
        clear hd hI hown hB hz hf0 hys0
        go_wp2
        go_loopw [13, 14] (fun v i w3 => ∃ m : Nat, m ≤ ms.length ∧ i = .int .i64 m ∧ ∃ ys : List (Int × Int), w3.ownsRow wo.heap.size 65 2 v m (ys.flatMap mk2) ∧ Below wo.heap.size wo w3 ∧ Hid (ys = ys0.take m)) (fun _ i _ => ms.length - (intOf i).toNat)
        case atStart => exact ⟨0, Nat.zero_le _, rfl, [], World.ownsRow_nil _ _ _ _, Below.refl _ _, rfl⟩
        case round =>
          obtain ⟨m, hm, rfl, ys, hown, hB, hY⟩ := hrel
          by_cases hlt2 : m < ms.length
          · obtain ⟨p, q, hx⟩ := getM_of_lt hlt2
            obtain ⟨z, hzz⟩ := getElem?_of_lt (show m < ds.length by have := HD.out; omega)
            obtain ⟨db, dof, e, hdb, hdc⟩ := HI.out.open_ (show 0 < ds.length by have := HD.out; omega)
            subst e
            have g0 := (hB.cell (p := ⟨tb, to + k, none⟩) hbw).trans f0
            have g1 := (hB.cell (p := ⟨mb, mo + m * 2, none⟩) (Nat.lt_of_lt_of_le hmk hz0)).trans ((HW.out.cell (p := ⟨mb, mo + m * 2, none⟩) hmk).trans (HM.out _ _ hx).1)
            have g2 := (hB.cell (p := ⟨db, dof + m, none⟩) hdb).trans (hdc _ _ hzz)
            have HNX : Hid (ys ++ [(p, z)] = ys0.take (m + 1)) := by rw [hY.out]; exact (take_snoc (by rw [← HY.out]; exact zipD_get hx hzz)).symm
            have hz3 := hB.size
            have i1 : (m : Int) < (ms.length : Int) := by omega
            have i2 : (m : Int) < (ds.length : Int) := by have := HD.out; omega
            have i3 : (0 : Int) ≤ (m : Int) := by omega
            have i4 : (k : Int) < (T.length : Int) := by omega
            have i5 : (0 : Int) ≤ (k : Int) := by omega
            have hB3 := hB
            have hmw : mb < wo.heap.size := Nat.lt_of_lt_of_le hmk hz0
            clear hx hzz hdc hY
            go_wp2
            go_region_held3 (fun w' => w'.cell? ⟨tb, to + k, none⟩ = some (.slice (some ⟨db, dof, none⟩) ds.length cc) ∧ w'.cell? ⟨mb, mo + m * 2, none⟩ = some (.int .i64 p) ∧ w'.cell? ⟨db, dof + m, none⟩ = some (.int .i64 z))
              (first | go_keep | exact ⟨(hB2.cell (p := ⟨tb, to + k, none⟩) hbw).trans g0, (hB2.cell (p := ⟨mb, mo + m * 2, none⟩) hmw).trans g1, (hB2.cell (p := ⟨db, dof + m, none⟩) hdb).trans g2⟩)
              ((refine step_app_lay _ rfl (.tmp 57) (.tmp 71) rfl wo.heap.size _ m _ _ _ rfl hown rfl (by omega) hB.size ?_; intro v2 w2 hown2 hB2))
            go_wp2
            go_roundw
            case rel => exact ⟨m + 1, by omega, by go_num, _, hown2, hB3.trans hB2, HNX.out⟩
            case measure => simp [intOf]; omega
          · obtain rfl : m = ms.length := by omega
            have e := hY.out
            rw [List.take_of_length_le (by rw [HYL.out]; omega)] at e
            subst e
            obtain ⟨A4, c4, e4, hO4⟩ := own_layers hown
            subst e4
            have HO4 := Lib.hid hO4
            have HO5 := Lib.hid (own_below HO.out hB)
            have hW3 := below_step HW.out hB
            clear hown hY hB hO4
            cases hba : ds.all (inB 100) with
            | false =>
              have HBA := Lib.hid hba
              clear hba
              go_wp2_with (go_at_call 22; refine (refValid_any ys _ _ _ HO4.out.marks HO4.out.len).mono ?_; rintro e w4 ⟨rfl, n4, rfl⟩; rw [← HY.out, vi_zip HV.out HD.out, HBA.out])
              go_ret2
              have e2 := estE_two (ms := ms) (T := T) (a := a) (b := b) HV.out (fun hh => by
                have h3 := (estB_parts hh.2.2).2 ds (List.mem_of_getElem? HZ.out)
                have h4 : ds.all (inB 100) = true := List.all_eq_true.2 (fun x hx => by have := h3.2 x hx; simpa [inB] using this)
                rw [HBA.out] at h4; cases h4)
              exact ⟨none, 0, [], 2, rfl, Out.nil_, below_drewN hW3 n4, e2.2.symm, e2.1.symm⟩
            | true =>
              have HBA := Lib.hid hba
              have HVY : Hid (viB ys = true) := by rw [← HY.out, vi_zip HV.out HD.out]; exact hba
              have hmt : (mtL ys).length = (mtL ms).length := by rw [← HY.out]; exact zip_depth HD.out
              have HMT := Lib.hid hmt
              clear hba hmt
              go_wp2_with (first
                | (go_at_call 22; refine (refValid_any ys _ _ _ HO4.out.marks HO4.out.len).mono ?_; rintro e w4 ⟨rfl, n4, rfl⟩; rw [HVY.out]; have hW4 := below_drewN hW3 n4)
                | (go_at_call 58; refine (metres_any ys _ _ _ (HO4.out.below (below_drewN (Below.refl _ _) n4)).marks HVY.out).mono ?_; rintro e w5 ⟨A5, c5, ls, rfl, hO5, hB5, hx5⟩; have hW5 := below_step hW4 hB5; have HO6 := Lib.hid (own_below (own_drewB HO5.out n4) hB5))
                | (go_at_call 67; refine (reflossZ_any ls _ _ a b _ hO5.ints (by rw [hx5.out]; exact mt_ok HVY.out) HA.out.1 (by rw [hx5.out, HMT.out]; exact HA.out.2) HBB.out.1 (by rw [hx5.out, HMT.out]; exact HBB.out.2)).mono ?_; rintro e w6 ⟨rfl, n6, rfl⟩)
                | (at_builtin; refine wp_app_intB (w5.drewN n6) rfl (.tmp 76) (.tmp 82) rfl w.heap.size _ xs.length xs _ rfl (own_drewB HO6.out n6) w5.heap.size rfl (by simp) (by omega) hW5.size ?_; intro v2 w7 hown7 hB7))
              go_roundw
              case rel => exact ⟨k + 1, by omega, by go_num, xs ++ [lossI ls a b], by rw [List.length_append]; exact hown7, by simp; omega, (below_drewN hW5 n6).trans hB7, by rw [hX.out, map_take_succ _ HZ.out, estI, HY.out, hx5.out]; rfl, by rw [all_snoc HZ.out, hall.out, estR, decide_eq_true HD.out, HBA.out]; rfl⟩
              case measure => simp [intOf]; omega
      · have v1 : ((ds.length : Int) != (ms.length : Int)) = true := by simp; omega
        have v2 : (ds.length != ms.length) = true := by simp; omega
        have HD := Lib.hid hd
        clear hd
        go_wp2
        go_ret2
        have e2 := estE_two (ms := ms) (T := T) (a := a) (b := b) HV.out (fun hh => HD.out ((estB_parts hh.2.2).2 ds (List.mem_of_getElem? HZ.out)).1)
        exact ⟨none, 0, [], 2, rfl, Out.nil_, hB, e2.2.symm, e2.1.symm⟩
    · obtain rfl : k = T.length := by omega
      go_wp2
      go_ret2
      obtain ⟨A', c', rfl, hI⟩ := own_ints hown
      have hbe : true = estB ms.length T := estB_end hT10 (by have := hall.out; rwa [List.take_length] at this)
      have h0 : lookE ms [a, b] = 0 := lossE_ok HV.out HA.out HBB.out
      exact ⟨A', c', xs, 0, rfl, hI, hB, by rw [hX.out, List.take_length, (estE_ok h0 hbe.symm).2], (estE_ok h0 hbe.symm).1.symm⟩

theorem leastp_at {xs : List Int} {k : Nat} {r z : Int} (hz : xs[k]? = some z) (h0 : xs[0]? = some r ∧ k = 0 ∧ r = z ∨ LeastP (xs.take k) r) : LeastP (xs.take (k + 1)) (min r z) := by
  rcases h0 with ⟨h1, rfl, rfl⟩ | h
  · rw [take_one_eq hz, Int.min_self]; exact leastp_one r
  · rw [take_snoc hz]; exact leastp_snoc h
def LeastK (xs : List Int) (k : Nat) (r : Int) : Prop := (k = 0 ∧ xs[0]? = some r) ∨ LeastP (xs.take k) r
def MostK (xs : List Int) (k : Nat) (r : Int) : Prop := (k = 0 ∧ xs[0]? = some r) ∨ MostP (xs.take k) r
theorem leastk_next {xs : List Int} {k : Nat} {r z : Int} (hz : xs[k]? = some z) (h : LeastK xs k r) : LeastK xs (k + 1) (min r z) := by
  rcases h with ⟨rfl, h1⟩ | h
  · rw [h1] at hz; cases hz
    exact .inr (by rw [take_one_eq h1, Int.min_self]; exact leastp_one r)
  · exact .inr (by rw [take_snoc hz]; exact leastp_snoc h)
theorem mostk_next {xs : List Int} {k : Nat} {r z : Int} (hz : xs[k]? = some z) (h : MostK xs k r) : MostK xs (k + 1) (max r z) := by
  rcases h with ⟨rfl, h1⟩ | h
  · rw [h1] at hz; cases hz
    exact .inr (by rw [take_one_eq h1, Int.max_self]; exact mostp_one r)
  · exact .inr (by rw [take_snoc hz]; exact mostp_snoc h)
theorem leastk_end {xs : List Int} {r : Int} (h0 : 0 < xs.length) (h : LeastK xs xs.length r) : LeastP xs r := by
  rcases h with ⟨h1, _⟩ | h
  · omega
  · rwa [List.take_length] at h
theorem mostk_end {xs : List Int} {r : Int} (h0 : 0 < xs.length) (h : MostK xs xs.length r) : MostP xs r := by
  rcases h with ⟨h1, _⟩ | h
  · omega
  · rwa [List.take_length] at h

set_option maxRecDepth 100000 in
set_option maxHeartbeats 1000000 in
theorem refBetween_any (ms : List (Int × Int)) (A : Option Addr) (c : Nat) (T : List (List Int)) (B : Option Addr) (d : Nat) (a b : Int) (w : World) (h : Clk w A c ms) (hT : Tabs w B T) :
    Calls Try.prog 55 #[.slice A ms.length c, .slice B T.length d, .int .i64 a, .int .i64 b] w fun e w' => ∃ r q E : Int, e = .returned (.tuple #[.int .i64 r, .int .i64 q, .int .i64 E]) ∧ Below w.heap.size w w' ∧ Hid (BetRes ms T a b r q E) := by
  have HE := Lib.hid (refLosses_any ms A c T B d a b w h hT)
  clear h hT
  by_cases h0 : estE ms T a b = 0
  · have H0 := Lib.hid h0
    clear h0
    go_enter Try.func55, Try.ntmps55
    go_wp2_with (go_at_call 92; refine HE.out.mono ?_; rintro e w1 ⟨A1, c1, xs, E, rfl, hO, hB, hF⟩; have eE := hF.out.2.trans H0.out; subst eE)
    have hx : 0 < xs.length ∧ xs.length ≤ 10 := by have := estL_len H0.out; rw [← hF.out.1] at this; omega
    obtain ⟨hx0, hx1⟩ := hx
    obtain ⟨bl, off, e, hbk, hc⟩ := hO.ints.open_ hx0
    subst e
    have HC := Lib.hid hc
    obtain ⟨z0, hz0⟩ := getElem?_of_lt hx0
    have f0 := hc 0 z0 hz0
    rw [Nat.add_zero] at f0
    have HZ0 := Lib.hid hz0
    clear hc hz0
    go_wp2
    go_quiet (fail)
    go_wp2
    go_loopw [8, 9, 13] (fun p q i wr => ∃ k n : Nat, k ≤ xs.length ∧ i = .int .i64 k ∧ wr = w1.drewN n ∧ ∃ r s : Int, p = .int .i64 r ∧ q = .int .i64 s ∧ Hid (LeastK xs k r) ∧ Hid (MostK xs k s)) (fun _ _ i _ => xs.length - (intOf i).toNat)
    case atStart => exact ⟨0, _, by omega, rfl, rfl, z0, z0, rfl, rfl, .inl ⟨rfl, HZ0.out⟩, .inl ⟨rfl, HZ0.out⟩⟩
    case round =>
      clear f0
      obtain ⟨k, n, hk, rfl, rfl, r, s, rfl, rfl, hL, hM⟩ := hrel
      by_cases hlt : k < xs.length
      · obtain ⟨z, hz⟩ := getElem?_of_lt hlt
        have f1 := HC.out k z hz
        have HL := Lib.hid (leastk_next hz hL.out)
        have HM := Lib.hid (mostk_next hz hM.out)
        have i0 : (0 : Int) ≤ (k : Int) := by omega
        have i1 : (k : Int) < (xs.length : Int) := by omega
        clear hz
        rcases Int.lt_or_le z r with c0 | c0 <;> rcases Int.lt_or_le s z with d0 | d0
        all_goals
          first
            | (have HM1 := Lib.hid (Int.min_eq_right (a := r) (b := z) (by omega)); have m1 : (if r < z then r else z) = z := (by split <;> omega); have m2 : (if z < r then z else r) = z := by split <;> omega)
            | (have HM1 := Lib.hid (Int.min_eq_left (a := r) (b := z) (by omega)); have m1 : (if r < z then r else z) = r := (by split <;> omega); have m2 : (if z < r then z else r) = r := by split <;> omega)
          first
            | (have HM2 := Lib.hid (Int.max_eq_right (a := s) (b := z) (by omega)); have m3 : (if s < z then z else s) = z := (by split <;> omega); have m4 : (if z < s then s else z) = z := by split <;> omega)
            | (have HM2 := Lib.hid (Int.max_eq_left (a := s) (b := z) (by omega)); have m3 : (if s < z then z else s) = s := (by split <;> omega); have m4 : (if z < s then s else z) = s := by split <;> omega)
          go_wp2
          go_quiet (fail)
          go_wp2
          go_roundw
          case rel => exact ⟨k + 1, _, by omega, by go_num, (by first | rfl | exact World.drewN_drewN _ _ _), _, _, rfl, rfl, by have := HL.out; rwa [HM1.out] at this, by have := HM.out; rwa [HM2.out] at this⟩
          case measure => simp [intOf]; omega
      · obtain rfl : k = xs.length := by omega
        go_wp2
        go_ret3
        exact ⟨r, s, 0, rfl, below_drewN hB _, H0.out.symm, .inl ⟨H0.out, by have := leastk_end hx0 hL.out; rwa [hF.out.1] at this, by have := mostk_end hx0 hM.out; rwa [hF.out.1] at this⟩⟩
  · have H0 := Lib.hid h0
    clear h0
    go_enter Try.func55, Try.ntmps55
    go_wp2_with (go_at_call 92; refine HE.out.mono ?_; rintro e w1 ⟨A1, c1, xs, E, rfl, hO, hB, hF⟩; have hE0 : (E != 0) = true := (by have := hF.out.2; have := H0.out; simp; omega))
    go_ret3
    exact ⟨0, 0, E, rfl, hB, hF.out.2, .inr ⟨H0.out, rfl, rfl⟩⟩

/-- The first place of the least number so far. -/
def LowK (xs : List Int) (k r : Nat) : Prop := (k = 0 ∧ r = 0) ∨ (r < k ∧ FirstLow (xs.take k) r)
theorem take_get {xs : List Int} {j k : Nat} {y : Int} (h : (xs.take k)[j]? = some y) : xs[j]? = some y ∧ j < k := by
  have hj := (List.getElem?_eq_some_iff.1 h).1
  rw [List.length_take] at hj
  rw [List.getElem?_take_of_lt (by omega)] at h
  exact ⟨h, by omega⟩
theorem lowk_better {xs : List Int} {k r : Nat} {z m : Int} (hz : xs[k]? = some z) (hm : xs[r]? = some m) (h : LowK xs k r) (hzm : z < m) : LowK xs (k + 1) k := by
  rcases h with ⟨rfl, rfl⟩ | ⟨hr, m', h1, h2, h3⟩
  · rw [hm] at hz; cases hz; omega
  · obtain ⟨h4, _⟩ := take_get h1
    rw [hm] at h4
    cases h4
    refine .inr ⟨by omega, z, by rw [take_snoc hz, List.getElem?_append_right (by simp; omega)]; have := (List.getElem?_eq_some_iff.1 hz).1; simp [Nat.min_eq_left (Nat.le_of_lt this)], fun x hx => ?_, fun j y hj hy => ?_⟩
    · rw [take_snoc hz, List.mem_append] at hx
      rcases hx with hx | hx
      · have := h2 x hx; omega
      · simp at hx; omega
    · obtain ⟨h5, _⟩ := take_get hy
      have := h2 y (List.mem_of_getElem? (show (xs.take k)[j]? = some y by rw [List.getElem?_take_of_lt hj]; exact h5))
      omega
theorem lowk_stay {xs : List Int} {k r : Nat} {z m : Int} (hz : xs[k]? = some z) (hm : xs[r]? = some m) (h : LowK xs k r) (hzm : ¬ z < m) : LowK xs (k + 1) r := by
  rcases h with ⟨rfl, rfl⟩ | ⟨hr, m', h1, h2, h3⟩
  · refine .inr ⟨by omega, z, by rw [take_one_eq hz]; rfl, fun x hx => ?_, fun j y hj => by omega⟩
    rw [take_one_eq hz] at hx; simp at hx; omega
  · obtain ⟨h4, _⟩ := take_get h1
    rw [hm] at h4
    cases h4
    refine .inr ⟨by omega, m, by rw [List.getElem?_take_of_lt (by omega)]; exact hm, fun x hx => ?_, fun j y hj hy => ?_⟩
    · rw [take_snoc hz, List.mem_append] at hx
      rcases hx with hx | hx
      · exact h2 x hx
      · simp at hx; omega
    · obtain ⟨h5, _⟩ := take_get hy
      exact h3 j y hj (by rw [List.getElem?_take_of_lt (by omega)]; exact h5)

set_option maxRecDepth 100000 in
set_option maxHeartbeats 1000000 in
theorem refClearest_any (ms : List (Int × Int)) (A : Option Addr) (c : Nat) (T : List (List Int)) (B : Option Addr) (d : Nat) (a b : Int) (w : World) (h : Clk w A c ms) (hT : Tabs w B T) :
    Calls Try.prog 57 #[.slice A ms.length c, .slice B T.length d, .int .i64 a, .int .i64 b] w fun e w' => ∃ (k : Nat) (E : Int), e = .returned (.tuple #[.int .i64 k, .int .i64 E]) ∧ Below w.heap.size w w' ∧ Hid (ClrRes ms T a b k E) := by
  have HE := Lib.hid (refLosses_any ms A c T B d a b w h hT)
  clear h hT
  go_enter Try.func57, Try.ntmps57
  go_wp2_with (go_at_call 92; refine HE.out.mono ?_; rintro e w1 ⟨A1, c1, xs, E, rfl, hO, hB, hF⟩)
  have hx1 : xs.length ≤ 10 := by
    by_cases h0 : estE ms T a b = 0
    · have := estL_len h0; rw [← hF.out.1] at this; omega
    · rw [hF.out.1, estL, if_neg h0]; simp
  have HI := Lib.hid hO.ints
  go_loopw [12, 13] (fun p i wr => ∃ k n r : Nat, k ≤ xs.length ∧ i = .int .i64 k ∧ wr = w1.drewN n ∧ p = .int .i64 r ∧ r ≤ k ∧ Hid (LowK xs k r)) (fun _ i _ => xs.length - (intOf i).toNat)
  case atStart => exact ⟨0, 0, 0, by omega, rfl, rfl, rfl, Nat.le_refl _, .inl ⟨rfl, rfl⟩⟩
  case round =>
    obtain ⟨k, n, r, hk, rfl, rfl, rfl, hrk, hL⟩ := hrel
    by_cases hlt : k < xs.length
    · obtain ⟨bl, off, e, hbk, hc⟩ := HI.out.open_ (show 0 < xs.length by omega)
      subst e
      obtain ⟨z, hz⟩ := getElem?_of_lt hlt
      obtain ⟨m, hm⟩ := getElem?_of_lt (show r < xs.length by omega)
      have f1 := hc k z hz
      have f2 := hc r m hm
      have i0 : (0 : Int) ≤ (k : Int) := by omega
      have i1 : (k : Int) < (xs.length : Int) := by omega
      have i2 : (0 : Int) ≤ (r : Int) := by omega
      have i3 : (r : Int) < (xs.length : Int) := by omega
      by_cases hzm : z < m
      · have t1 : decide (z < m) = true := decide_eq_true hzm
        have HNX := Lib.hid (lowk_better hz hm hL.out hzm)
        clear hz hm hc
        go_wp2
        go_quiet (fail)
        go_wp2
        go_roundw
        case rel => exact ⟨k + 1, _, k, by omega, by go_num, (by first | rfl | exact World.drewN_drewN _ _ _), rfl, by omega, HNX.out⟩
        case measure => simp [intOf]; omega
      · have t1 : decide (z < m) = false := decide_eq_false hzm
        have HNX := Lib.hid (lowk_stay hz hm hL.out hzm)
        clear hz hm hc
        go_wp2
        go_quiet (fail)
        go_wp2
        go_roundw
        case rel => exact ⟨k + 1, _, r, by omega, by go_num, (by first | rfl | exact World.drewN_drewN _ _ _), rfl, by omega, HNX.out⟩
        case measure => simp [intOf]; omega
    · obtain rfl : k = xs.length := by omega
      go_wp2
      go_ret2
      refine ⟨r, E, rfl, below_drewN hB _, hF.out.2, ?_⟩
      by_cases h0 : estE ms T a b = 0
      · have hx0 := (estL_len h0).1
        rw [← hF.out.1] at hx0
        rcases hL.out with ⟨h1, _⟩ | ⟨_, h1⟩
        · omega
        · rw [List.take_length] at h1
          exact .inl ⟨h0, by rwa [hF.out.1] at h1⟩
      · have hx0 : xs.length = 0 := by rw [hF.out.1, estL, if_neg h0]; rfl
        exact .inr ⟨h0, by omega⟩
end Go.Proofs.Ytmndfcjkokolbaa
