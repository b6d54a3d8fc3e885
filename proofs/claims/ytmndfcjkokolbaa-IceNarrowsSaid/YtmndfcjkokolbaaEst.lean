/-
  Contracts: areEstimates, estimated with its function literal (ice).
-/
import Derived.Test.YtmndfcjkokolbaaTabs
import Derived.Test.YtmndfcjkokolbaaRefLightW
namespace Go.Proofs.Ytmndfcjkokolbaa
open Go.RowKit Go.Shelf

def estR (n : Nat) (ds : List Int) : Bool := decide (ds.length = n) && ds.all (inB 100)
def estB (n : Nat) (T : List (List Int)) : Bool := decide (1 ≤ T.length ∧ T.length ≤ 10) && T.all (estR n)
def estE (ms : List (Int × Int)) (T : List (List Int)) (a b : Int) : Int := if lookE ms [a, b] = 0 then (if estB ms.length T then 0 else 2) else lookE ms [a, b]
def estI (ms : List (Int × Int)) (a b : Int) (ds : List Int) : Int := lossI (mtL (zipD ms ds)) a b
def estL (ms : List (Int × Int)) (T : List (List Int)) (a b : Int) : List Int := if estE ms T a b = 0 then T.map (estI ms a b) else []
theorem estE_no {ms : List (Int × Int)} {T : List (List Int)} {a b : Int} (h : lookE ms [a, b] ≠ 0) : estE ms T a b = lookE ms [a, b] ∧ estL ms T a b = [] := by
  have e : estE ms T a b = lookE ms [a, b] := by rw [estE, if_neg h]
  exact ⟨e, by rw [estL, if_neg (by rw [e]; exact h)]⟩
theorem estE_arg {ms : List (Int × Int)} {T : List (List Int)} {a b : Int} (h : lookE ms [a, b] = 0) (hb : estB ms.length T = false) : estE ms T a b = 2 ∧ estL ms T a b = [] := by
  have e : estE ms T a b = 2 := by rw [estE, if_pos h, hb]; rfl
  exact ⟨e, by rw [estL, if_neg (by rw [e]; decide)]⟩
theorem estE_ok {ms : List (Int × Int)} {T : List (List Int)} {a b : Int} (h : lookE ms [a, b] = 0) (hb : estB ms.length T = true) : estE ms T a b = 0 ∧ estL ms T a b = T.map (estI ms a b) := by
  have e : estE ms T a b = 0 := by rw [estE, if_pos h, if_pos hb]
  exact ⟨e, by rw [estL, if_pos e]⟩
theorem estB_parts {n : Nat} {T : List (List Int)} (h : estB n T = true) : (1 ≤ T.length ∧ T.length ≤ 10) ∧ ∀ ds ∈ T, ds.length = n ∧ ∀ d ∈ ds, 0 ≤ d ∧ d ≤ 100 := by
  simp only [estB, Bool.and_eq_true, decide_eq_true_eq, List.all_eq_true, estR] at h
  exact ⟨h.1, fun ds hd => ⟨(h.2 ds hd).1, fun d hdd => by simpa [inB] using (h.2 ds hd).2 d hdd⟩⟩
theorem estB_len {n : Nat} {T : List (List Int)} (h : ¬ (1 ≤ T.length ∧ T.length ≤ 10)) : false = estB n T := by rw [estB, decide_eq_false h]; rfl
theorem estB_at {n k : Nat} {T : List (List Int)} {ds : List Int} (hx : T[k]? = some ds) (h : estR n ds = false) : false = estB n T := by
  rw [estB, all_not hx h, Bool.and_false]
theorem estB_end {n : Nat} {T : List (List Int)} (h : 1 ≤ T.length ∧ T.length ≤ 10) (ha : T.all (estR n) = true) : true = estB n T := by rw [estB, decide_eq_true h, ha]; rfl
theorem zip_depth {ms : List (Int × Int)} {ds : List Int} (h : ds.length = ms.length) : (mtL (zipD ms ds)).length = (mtL ms).length := by
  induction ms generalizing ds with
  | nil => rfl
  | cons m t ih =>
    cases ds with
    | nil => simp at h
    | cons d u =>
      have := ih (ds := u) (by simpa using h)
      simp only [zipD, List.zipWith_cons_cons, mtL, List.flatMap_cons, List.length_append, List.length_replicate] at this ⊢
      omega

set_option maxRecDepth 100000 in
set_option maxHeartbeats 1000000 in
theorem areEst_any (ms : List (Int × Int)) (A : Option Addr) (c : Nat) (T : List (List Int)) (B : Option Addr) (d : Nat) (w : World) (hn : ms.length ≤ 20) (h : Tabs w B T) (hl : T.length ≤ maxLen) :
    Calls Try.prog 98 #[.slice A ms.length c, .slice B T.length d] w fun e w' => e = .returned (.bool (estB ms.length T)) ∧ ∃ n, w' = w.drewN n := by
  unfold maxLen at hl
  have H := Lib.hid h
  clear h
  by_cases h1 : (T.length : Int) < 1
  · have t1 : decide ((T.length : Int) < 1) = true := decide_eq_true h1
    go_enter Try.func98, Try.ntmps98
    go_wp2
    go_ret
    exact ⟨ret_bool (estB_len (by omega)), 0, rfl⟩
  have t1 : decide ((T.length : Int) < 1) = false := decide_eq_false h1
  by_cases h2 : 10 < (T.length : Int)
  · have t2 : decide (10 < (T.length : Int)) = true := decide_eq_true h2
    go_enter Try.func98, Try.ntmps98
    go_wp2
    go_ret
    exact ⟨ret_bool (estB_len (by omega)), 0, rfl⟩
  have t2 : decide (10 < (T.length : Int)) = false := decide_eq_false h2
  have hT : 1 ≤ T.length ∧ T.length ≤ 10 := by omega
  clear h1 h2
  obtain ⟨b, o, e, hbk, hc⟩ := H.out (by omega)
  subst e
  have HC := Lib.hid hc
  clear hc
  go_enter Try.func98, Try.ntmps98
  go_wp2
  go_loopw [17] (fun i wr => ∃ k n : Nat, k ≤ T.length ∧ i = .int .i64 k ∧ wr = w.drewN n ∧ Hid ((T.take k).all (estR ms.length) = true)) (fun i _ => T.length - (intOf i).toNat)
  case atStart => exact ⟨0, 0, Nat.zero_le _, rfl, rfl, rfl⟩
  case round =>
    obtain ⟨k, n, hk, rfl, rfl, hall⟩ := hrel
    by_cases hlt : k < T.length
    · obtain ⟨ds, hz⟩ := getT_of_lt hlt
      obtain ⟨D, cc, f0, hI, hzc, hcm⟩ := HC.out k ds hz
      unfold maxLen at hcm
      have HI := Lib.hid (hI.below (below_drewN (Below.refl w.heap.size w) n))
      have HZ := Lib.hid hz
      clear hz hI
      by_cases hd : ds.length = ms.length
      · have v1 : ((ds.length : Int) != (ms.length : Int)) = false := by simp; omega
        have v2 : (ds.length != ms.length) = false := by simp; omega
        have HD := Lib.hid hd
        have hdl : ds.length ≤ maxLen := by unfold maxLen; omega
        clear hd
        cases hb : ds.all (inB 100) with
        | false =>
          have HBD := Lib.hid hb
          clear hb
          go_wp2_with (go_at_call 64; refine (within_any 100 ds _ _ _ HI.out hdl).mono ?_; rintro e w4 ⟨rfl, m, rfl⟩; rw [HBD.out])
          go_ret
          exact ⟨ret_bool (estB_at HZ.out (by rw [estR, HBD.out, Bool.and_false])), _, (by first | rfl | exact World.drewN_drewN _ _ _)⟩
        | true =>
          have HBD := Lib.hid hb
          clear hb
          go_wp2_with (go_at_call 64; refine (within_any 100 ds _ _ _ HI.out hdl).mono ?_; rintro e w4 ⟨rfl, m, rfl⟩; rw [HBD.out])
          go_roundw
          case rel => exact ⟨k + 1, _, by omega, by go_num, (by first | rfl | exact World.drewN_drewN _ _ _), by rw [all_snoc HZ.out, hall.out, estR, decide_eq_true HD.out, HBD.out]; rfl⟩
          case measure => simp [intOf]; omega
      · have v1 : ((ds.length : Int) != (ms.length : Int)) = true := by simp; omega
        have v2 : (ds.length != ms.length) = true := by simp; omega
        have HD := Lib.hid hd
        clear hd
        go_wp2
        go_ret
        exact ⟨ret_bool (estB_at HZ.out (by rw [estR, decide_eq_false HD.out]; rfl)), _, rfl⟩
    · obtain rfl : k = T.length := by omega
      go_wp2
      go_ret
      exact ⟨ret_bool (estB_end hT (by have := hall.out; rwa [List.take_length] at this)), _, rfl⟩

set_option maxRecDepth 100000 in
theorem dim_est (ds : List Int) (D : Option Addr) (cd B : Nat) (w : World) (h : Ints w D ds) (hc : w.cell? ⟨B, 0, none⟩ = some (.slice D ds.length cd)) (hn : ds.length ≤ 20) :
    DimAt 99 #[.pointer (some ⟨B, 0, none⟩)] ds w := by
  intro W n d hd hB
  have hBs := World.block_lt_of_cell? w _ hc
  have c0 := (hB.cell (p := ⟨B, 0, none⟩) hBs).trans hc
  obtain ⟨hk, _⟩ := List.getElem?_eq_some_iff.1 hd
  obtain ⟨bl, off, rfl, hbk, hcells⟩ := h.open_ (by omega)
  have f1 := (hB.cell (p := ⟨bl, off + n, none⟩) hbk).trans (hcells _ _ hd)
  clear hd hcells h hc hB
  have i0 : (0 : Int) ≤ (n : Int) := by omega
  have i1 : (n : Int) < (ds.length : Int) := by omega
  show Calls Try.prog _ #[.int .i64 n, .pointer (some ⟨B, 0, none⟩)] W _
  go_enter Try.func99, Try.ntmps99
  go_wp2
  go_ret
  exact ⟨rfl, Below.refl _ _⟩

section
variable {ops : Array Oper} {rest : List Oper} {o : Oper} {a : Act} {Q : Exit → Act → World → Prop}
/-- wp_app_int, where the new element's block is spelled another way. -/
theorem wp_app_intB (w : World) (hgd : o.guard = none) (s x : Operand)
    (ho : o.op = .call { callee := .builtin .append, args := #[s, x], argTypes := #[37, 37] })
    (base : Nat) (v : Value) (n : Nat) (xs : List Int) (z : Int) (hs : a.eval s = v) (hown : w.ownsRow base 3 1 v n (xs.map (Value.int .i64))) (B : Nat)
    (hx : a.eval x = .slice (some ⟨B, 0, none⟩) 1 1) (hB : B = w.heap.size) (hn : n ≤ 1000000) (hbase : base ≤ w.heap.size)
    (h : ∀ v' w', w'.ownsRow base 3 1 v' (n + 1) ((xs ++ [z]).map (Value.int .i64)) → Below base w w' → wpList Try.prog ops Q rest (a.put o.dst v') w') :
    wpList Try.prog ops Q (o :: rest) a (w.alloc (.cells #[.int .i64 z] 3)) := by
  subst hB
  exact wp_app_int w hgd s x ho base v n xs z hs hown hx hn hbase h
end
theorem map_take_succ {α β : Type} {ms : List α} {k : Nat} {m : α} (f : α → β) (h : ms[k]? = some m) : (ms.take (k + 1)).map f = (ms.take k).map f ++ [f m] := by
  rw [take_snoc h]; simp

set_option maxRecDepth 100000 in
set_option maxHeartbeats 1000000 in
theorem estimated_any (ms : List (Int × Int)) (A : Option Addr) (c : Nat) (T : List (List Int)) (B : Option Addr) (d : Nat) (a b : Int) (w : World) (h : Clk w A c ms) (hT : Tabs w B T) (hl : T.length ≤ maxLen) :
    Calls Try.prog 89 #[.slice A ms.length c, .slice B T.length d, .int .i64 a, .int .i64 b] w fun e w' => ∃ (A' : Option Addr) (c' : Nat) (xs : List Int) (E : Int), e = .returned (.tuple #[.slice A' xs.length c', .int .i64 E]) ∧ Out w' A' c' xs ∧ Below w.heap.size w w' ∧ Hid (xs = estL ms T a b ∧ E = estE ms T a b) := by
  have H := Lib.hid h
  have HT := Lib.hid hT
  clear h hT
  have hB0 : Below w.heap.size w (w.alloc (.cells #[.int .i64 a, .int .i64 b] 3)) := (Below.refl _ _).alloc (Nat.le_refl _) _
  by_cases h0 : lookE ms [a, b] = 0
  case neg =>
    have H0 := Lib.hid h0
    clear h0
    go_enter Try.func89, Try.ntmps89
    go_wp2_with (go_at_call 60; refine (look_no (ds := [a, b]) (D := some ⟨w.heap.size, 0, none⟩) (H.out.below hB0) (Ints.two (by go_simp) (by go_simp)) (by simp [maxLen]) H0.out).mono ?_; rintro e w1 ⟨E, rfl, hE0, hB1, hE⟩)
    go_ret2
    exact ⟨none, 0, [], E, rfl, Out.nil_, hB0.trans (hB1.mono (by simp)), (estE_no H0.out).2.symm, hE.out.trans (estE_no H0.out).1.symm⟩
  case pos =>
    have H0 := Lib.hid h0
    obtain ⟨hv, ⟨ha0, ha1⟩, hb0, hb1⟩ := lossE_in h0
    unfold depthN at ha1 hb1
    obtain ⟨x, rfl⟩ := Int.eq_ofNat_of_zero_le ha0
    obtain ⟨y, rfl⟩ := Int.eq_ofNat_of_zero_le hb0
    have HV := Lib.hid hv
    have hms := (vi_parts hv).2
    clear h0 hv ha0 hb0
    cases hbe : estB ms.length T with
    | false =>
      have HBE := Lib.hid hbe
      clear hbe
      go_enter Try.func89, Try.ntmps89
      go_wp2_with (first
        | (go_at_call 60; refine (look_ok (ds := [(x : Int), (y : Int)]) (D := some ⟨w.heap.size, 0, none⟩) (H.out.below hB0) (Ints.two (by go_simp) (by go_simp)) (by simp [maxLen]) H0.out).mono ?_; rintro e w1 ⟨A1, c1, rfl, hL, hB1⟩; have hW1 : Below w.heap.size w w1 := hB0.trans (hB1.mono (by simp)))
        | (go_at_call 98; refine (areEst_any ms _ _ T _ _ _ hms (HT.out.below hW1) hl).mono ?_; rintro e w2 ⟨rfl, n, rfl⟩; rw [HBE.out]))
      go_ret2
      exact ⟨none, 0, [], 2, rfl, Out.nil_, below_drewN hW1 n, (estE_arg H0.out HBE.out).2.symm, (estE_arg H0.out HBE.out).1.symm⟩
    | true =>
      have HBE := Lib.hid hbe
      have HP := Lib.hid (estB_parts hbe)
      have hT10 := (estB_parts hbe).1
      have eg : ∀ args w, (callFunc 99 args).run Try.prog w = .ok (.enter 99 args) w := enters_of Try.func99 (by kernel_rfl) rfl
      have HEG := Lib.hid eg
      clear eg hbe
      obtain ⟨tb, to, e, hbk, hc⟩ := HT.out (by omega)
      subst e
      have HC := Lib.hid hc
      clear hc
      go_enter Try.func89, Try.ntmps89
      go_wp2_with (first
        | (go_at_call 60; refine (look_ok (ds := [(x : Int), (y : Int)]) (D := some ⟨w.heap.size, 0, none⟩) (H.out.below hB0) (Ints.two (by go_simp) (by go_simp)) (by simp [maxLen]) H0.out).mono ?_; rintro e w1 ⟨A1, c1, rfl, hL, hB1⟩; have hW1 : Below w.heap.size w w1 := hB0.trans (hB1.mono (by simp)))
        | (go_at_call 98; refine (areEst_any ms _ _ T _ _ _ hms (HT.out.below hW1) hl).mono ?_; rintro e w2 ⟨rfl, n, rfl⟩; rw [HBE.out]))
      go_loopw [12, 33] (fun v i wr => ∃ k : Nat, k ≤ T.length ∧ i = .int .i64 k ∧ ∃ xs : List Int, wr.ownsRow w.heap.size 3 1 v xs.length (xs.map (Value.int .i64)) ∧ xs.length ≤ k ∧ Below w.heap.size w wr ∧ Hid (xs = (T.take k).map (estI ms x y))) (fun _ i _ => T.length - (intOf i).toNat)
      case atStart => exact ⟨0, Nat.zero_le _, rfl, [], World.ownsRow_nil _ _ _ _, Nat.le_refl _, below_drewN hW1 n, rfl⟩
      case round =>
        obtain ⟨k, hk, rfl, xs, hown, hxl, hB, hX⟩ := hrel
        by_cases hlt : k < T.length
        · obtain ⟨ds, hz⟩ := getT_of_lt hlt
          obtain ⟨D, cc, hf0, hI, hzc, hcm⟩ := HC.out k ds hz
          have f0 := (hB.cell (p := ⟨tb, to + k, none⟩) hbk).trans hf0
          have HZ := Lib.hid hz
          have HDS := Lib.hid (HP.out.2 ds (List.mem_of_getElem? hz))
          have hdl : ds.length ≤ 20 := by have := HDS.out.1; omega
          have hB1' : Below w.heap.size w (wr.alloc (.cells #[.slice D ds.length cc] 37)) := hB.alloc hB.size _
          have HW := Lib.hid hB1'
          have HO := Lib.hid (hown.alloc (.cells #[.slice D ds.length cc] 37))
          have HI := Lib.hid (hI.below hB1')
          have HDP := Lib.hid (zip_depth HDS.out.1)
          have hz0 := hB.size
          have hbw : tb < wr.heap.size := Nat.lt_of_lt_of_le hbk hz0
          obtain ⟨l, hl0⟩ : ∃ l, mtL (zipD ms ds) = l := ⟨_, rfl⟩
          have HL0 := Lib.hid hl0
          have hlx : x ≤ l.length := by rw [← hl0, zip_depth HDS.out.1]; omega
          have hly : y ≤ l.length := by rw [← hl0, zip_depth HDS.out.1]; omega
          have HDI : Hid (dimsB l) := by rw [← hl0]; exact mt_ok (zipD_ok HV.out HDS.out.1 HDS.out.2)
          clear hz hf0 hI hown hB hB1' hl0
          go_wp2_with (first
            | (go_at_call 94; refine (lossesOf_any _ _ ds HEG.out ms A c _ (dim_est ds D cc wr.heap.size _ HI.out (by go_simp) hdl) (H.out.marks.below HW.out) HV.out HDS.out.1 HDS.out.2).mono ?_; rintro e w2 ⟨A2, c2, ys, rfl, hO, hB2, hx⟩; have hx2 := hx.out; rw [HL0.out] at hx2; subst hx2; rw [preL_len]; have hW2 := below_step HW.out hB2; have HO2 := Lib.hid (own_below HO.out hB2))
            | (go_at_call 66; refine (loss_any l _ _ x y _ ⟨hO.ints, HDI.out⟩ hlx hly).mono ?_; rintro e w3 ⟨rfl, m, rfl⟩)
            | (at_builtin; refine wp_app_intB (w2.drewN m) rfl (.tmp 40) (.tmp 45) rfl w.heap.size _ xs.length xs _ rfl (own_drewB HO2.out m) w2.heap.size rfl (by simp) (by omega) hW2.size ?_; intro v2 w4 hown4 hB4))
          go_roundw
          case rel => exact ⟨k + 1, by omega, by go_num, xs ++ [lossI l x y], by rw [List.length_append]; exact hown4, by simp; omega, (below_drewN hW2 m).trans hB4, by rw [hX.out, map_take_succ _ HZ.out, estI, HL0.out]; rfl⟩
          case measure => simp [intOf]; omega
        · obtain rfl : k = T.length := by omega
          go_wp2
          go_ret2
          obtain ⟨A', c', rfl, hI⟩ := own_ints hown
          exact ⟨A', c', xs, 0, rfl, hI, hB, by rw [hX.out, List.take_length, (estE_ok H0.out HBE.out).2], (estE_ok H0.out HBE.out).1.symm⟩
end Go.Proofs.Ytmndfcjkokolbaa
