/-
  The walk of AlertWorks: it returns true, whatever it is given.
-/
import Derived.Test.YthanmiifcpajhaaSane
import Derived.Test.YthanmiifcpajhaaEitherM
import Derived.Test.YthanmiifcpajhaaExchM
set_option linter.unusedVariables false
set_option linter.unusedSimpArgs false
namespace Go.Proofs.Ythanmiifcpajhaa
open Go Go.RowKit Go.Shelf

def fillW (ts : List (Int × Int × Int)) (k i : Nat) : Int := if i < k then wkI ts i else 0
theorem fillW_snoc (ts : List (Int × Int × Int)) (k i : Nat) : fillW ts (k + 1) i = if i = k then wkI ts k else fillW ts k i := by
  unfold fillW
  by_cases e : i = k
  · subst e; rw [if_pos (by omega), if_pos rfl]
  · rw [if_neg e]
    by_cases h : i < k
    · rw [if_pos h, if_pos (by omega)]
    · rw [if_neg h, if_neg (by omega)]
/-- What is left of each task behind m minutes of the urgent plan. -/
def lfF (ts : List (Int × Int × Int)) (m i : Nat) : Int := wkI ts i - cn (urF ts) i m
theorem lf_in {ts : List (Int × Int × Int)} {m j : Nat} (h : urF ts m = (j : Int)) (i : Nat) : lfF ts (m + 1) i = if i = j then lfF ts m j - 1 else lfF ts m i := by
  unfold lfF
  rw [cn_in h]
  by_cases e : i = j
  · subst e; rw [if_pos rfl, if_pos rfl]; omega
  · rw [if_neg e, if_neg e]
theorem lf_out {ts : List (Int × Int × Int)} {m : Nat} (h : urF ts m = -1) (i : Nat) : lfF ts (m + 1) i = lfF ts m i := by unfold lfF; rw [cn_out h]
theorem wk_er {ts : List (Int × Int × Int)} {ps : List Int} (hv : vaB ts = true) : erE ts ps = 0 ∨ erE ts ps = 81 := by
  rw [er_yes hv]
  cases hi : isP ts.length ps with
  | true => exact .inl (pl_yes hi).2
  | false => exact .inr (pl_no hi).2
theorem wk_free {ts : List (Int × Int × Int)} {ps : List Int} (hv : vaB ts = true) (h : riV ts ps = true) : frV ts (upL ts) ≤ frV ts ps := by
  obtain ⟨h1, h2⟩ := rt_of h
  rw [up_fr hv, (ri_o h1).2.2]
  exact free_least hv h2
theorem fr_bd (p : Nat → Int) (k : Nat) : 0 ≤ frI p k ∧ frI p k ≤ k := nb_nn _ k
theorem frV_bd (ts : List (Int × Int × Int)) (ps : List Int) : 0 ≤ frV ts ps ∧ frV ts ps ≤ 100 := by
  unfold frV; split
  · have := fr_bd (pF ps) 100; omega
  · omega

set_option maxRecDepth 100000 in
set_option maxHeartbeats 8000000 in
theorem works_core (ts : List (Int × Int × Int)) (A : Option Addr) (cap : Nat) (ps : List Int) (B : Option Addr) (cb : Nat) (w : World) (ri : Bool) (K fu N : Int) (hH : Marks w A ts) (hV : vaB ts = true)
    (hp : ps.length ≤ 300) (hkk : K = 0 ∨ K = 81) (hN : ri = true → fu ≤ N) (hf : 0 ≤ fu ∧ fu ≤ 100) (hn : 0 ≤ N ∧ N ≤ 100)
    (h1 : ∀ W, Calls Try.prog 15 #[.slice A ts.length cap] W fun e w' => e = .returned (.bool false) ∧ W = w')
    (h2 : ∀ W, Below w.heap.size w W → Calls Try.prog 20 #[.slice A ts.length cap] W fun e w' => e = .returned (.bool true) ∧ Below W.heap.size W w')
    (h4 : ∀ W, Below w.heap.size w W → Calls Try.prog 28 #[.slice A ts.length cap] W fun e w' => ∃ D d, e = .returned (.tuple #[.slice D 100 d, .int .i64 0]) ∧ Out w' D d (upL ts) ∧ Below W.heap.size W w')
    (h5 : ∀ W D d, Below w.heap.size w W → Out W D d (upL ts) → Calls Try.prog 17 #[.slice A ts.length cap, .slice D 100 d] W fun e w' => e = .returned (.tuple #[.bool true, .int .i64 0]) ∧ Below W.heap.size W w')
    (h6 : ∀ W D d, Below w.heap.size w W → Out W D d (upL ts) → Calls Try.prog 25 #[.slice A ts.length cap, .slice D 100 d] W fun e w' => e = .returned (.tuple #[.int .i64 fu, .int .i64 0]) ∧ Below W.heap.size W w')
    (h7 : ∀ W, Below w.heap.size w W → Calls Try.prog 17 #[.slice A ts.length cap, .slice B ps.length cb] W fun e w' => e = .returned (.tuple #[.bool ri, .int .i64 K]) ∧ Below W.heap.size W w')
    (h8 : ∀ W, Below w.heap.size w W → Calls Try.prog 25 #[.slice A ts.length cap, .slice B ps.length cb] W fun e w' => e = .returned (.tuple #[.int .i64 N, .int .i64 K]) ∧ Below W.heap.size W w') :
    Calls Try.prog 9 #[.slice A ts.length cap, .slice B ps.length cb] w fun e w' => e = .returned (.bool true) ∧ Below w.heap.size w w' := by
  have H1 := Lib.hid h1
  have H2 := Lib.hid h2
  have H4 := Lib.hid h4
  have H5 := Lib.hid h5
  have H6 := Lib.hid h6
  have H7 := Lib.hid h7
  have H8 := Lib.hid h8
  have HV := Lib.hid hV
  have hl := va_len hV
  obtain ⟨hl1, hl2⟩ := hl
  obtain ⟨bl, off, rfl, hbk, hcells⟩ := hH.open_ (show 0 < ts.length by omega)
  have HC := Lib.hid hcells
  have hW0 : Below w.heap.size w w := Below.refl _ _
  have TA : Hid True := Lib.hid trivial
  have TB : Hid True := Lib.hid trivial
  have tp : decide ((300 : Int) < (ps.length : Int)) = false := decide_eq_false (by omega)
  obtain ⟨i0, hi0, hz0, hz1, hz2⟩ := info_parts int_info
  have HZ2 := Lib.hid hz2
  have HUL : Hid (∀ m, m < 100 → (upL ts)[m]? = some (urF ts m)) := Lib.hid fun m hm => vL_get hm
  clear h1 h2 h4 h5 h6 h7 h8 hp hV hcells hH hz2
  go_enter Try.func9, Try.ntmps9
  go_wp2_with (first
    | (go_at_call 15; refine (H1.out _).mono ?_; rintro e w' ⟨rfl, rfl⟩)
    | (go_at_call 20; refine (H2.out _ hW0).mono ?_; rintro e w1 ⟨rfl, hB1⟩; have hW1 := below_step hW0 hB1; clear hB1)
    | (go_at_call 28; refine (H4.out _ hW1).mono ?_; rintro e w2 ⟨D1, d1, rfl, hOO1, hB2⟩; have hW2 := below_step hW1 hB2; have O1 := Lib.hid hOO1; clear hOO1; clear hB2)
    | (go_at_call 17; clear TA; refine (H5.out _ _ _ hW2 O1.out).mono ?_; rintro e w3 ⟨rfl, hB3⟩; have hW3 := below_step hW2 hB3; have O1 := Lib.hid (O1.out.below hB3); clear hB3)
    | (go_at_call 25; clear TB; refine (H6.out _ _ _ hW3 O1.out).mono ?_; rintro e w4 ⟨rfl, hB4⟩; have hW4 := below_step hW3 hB4; have O1 := Lib.hid (O1.out.below hB4); clear hB4)
    | (at_make; refine wpList_make_full _ rfl _ _ 23 rfl w4.heap.size 3 i0 (.int .i64 0) 1 Try.underlying23 hi0 hz0 hz1 _ _ _ _ ts.length rfl rfl rfl rfl (by rw [HZ2.out]; omega) (by unfold maxLen; omega) (Nat.le_refl _) ?_; intro w5 hown5 hg5)
    | fail)
  have hB5 : Below w4.heap.size w4 w5 := (Below.refl _ _).grown hg5 (Nat.le_refl _) (by simp)
  rw [made_ints] at hown5
  have HO : Hid (OwnV w5 w4.heap.size w4.heap.size (fun _ => 0) ts.length) := Lib.hid hown5
  have HW4 := Lib.hid hW4
  clear hown5 hg5
  go_loopw [12] (fun i wr => ∃ k : Nat, k ≤ ts.length ∧ i = .int .i64 k ∧ Hid (OwnV wr w4.heap.size w4.heap.size (fillW ts k) ts.length) ∧ Below w4.heap.size w4 wr) (fun i _ => ts.length - (intOf i).toNat)
  case atStart => exact ⟨0, Nat.zero_le _, rfl, Lib.hid (HO.out.congr (fun i _ => by simp [fillW])), hB5⟩
  case round =>
    clear HO hB5
    obtain ⟨k, hk, rfl, hO, hB⟩ := hrel
    by_cases hlt : k < ts.length
    · obtain ⟨x, y, d, hx⟩ := getT_of_lt hlt
      have f2 := ((below_step HW4.out hB).cell (p := ⟨bl, off + k * 3 + 2, none⟩) hbk).trans (HC.out _ _ hx).2.2
      have HWK := Lib.hid (getT_parts hx).2.2
      have c1 := hO.out.cell hlt
      have fr1 := hO.out.frozen k
      clear hx
      go_wp2
      go_roundw
      case rel => exact ⟨k + 1, by omega, by go_num, Lib.hid (hO.out.put (fun i => by rw [fillW_snoc, HWK.out])), Below.setCell hB (Nat.le_refl _) _⟩
      case measure => simp [intOf]; omega
    · obtain rfl : k = ts.length := by omega
      rename World => wo
      have hO2 : Hid (OwnV wo w4.heap.size w4.heap.size (lfF ts 0) ts.length) := Lib.hid (hO.out.congr (fun i hi => by rw [fillW, if_pos hi, lfF]; show _ = _ - (0 : Int); omega))
      clear hO
      go_wp2
      go_loopw [13] (fun i wr => ∃ m : Nat, m ≤ 100 ∧ i = .int .i64 m ∧ Hid (OwnV wr w4.heap.size w4.heap.size (lfF ts m) ts.length) ∧ Below w4.heap.size w4 wr) (fun i _ => 100 - (intOf i).toNat)
      case atStart => exact ⟨0, Nat.zero_le _, rfl, hO2, hB⟩
      case round =>
        clear hO2 hB
        obtain ⟨m, hm, rfl, hO, hB⟩ := hrel
        by_cases hltm : m < 100
        · have tm : decide ((m : Int) < 100) = true := decide_eq_true (by omega)
          rename World => wq
          obtain ⟨bu, ou, rfl, hbu, hcu⟩ := O1.out.ints.open_ (by rw [show (upL ts).length = 100 from vL_len _ _]; omega)
          have hbd := ur_bd ts m
          obtain ⟨v, hv⟩ : ∃ v, urF ts m = v := ⟨_, rfl⟩
          have c0 := (hB.cell (p := ⟨bu, ou + m, none⟩) hbu).trans (hcu m v (by rw [HUL.out m hltm, hv]))
          rw [hv] at hbd
          obtain ⟨hb1, hb2⟩ := hbd
          have HVV := Lib.hid hv
          have u1 : decide (v < -1) = false := decide_eq_false (by omega)
          have u2 : decide ((ts.length : Int) ≤ v) = false := decide_eq_false (by omega)
          have HLS := Lib.hid (fun (i : Nat) (hi : i < ts.length) (ho : opB ts i m = true) (hc : cn (urF ts) i m < wkI ts i) => ur_least ts m hi ho hc)
          have hW := below_step HW4.out hB
          have HWq := Lib.hid hW
          clear hcu hv hW
          go_wp2
          go_loopw [15] (fun i wr => ∃ k n : Nat, k ≤ ts.length ∧ i = .int .i64 k ∧ wr = wq.drewN n) (fun i _ => ts.length - (intOf i).toNat)
          case atStart => exact ⟨0, 0, Nat.zero_le _, rfl, rfl⟩
          case round =>
            obtain ⟨k, n, hk, rfl, rfl⟩ := hrel
            by_cases hlt : k < ts.length
            · obtain ⟨x, y, d, hx⟩ := getT_of_lt hlt
              have hp := getT_parts hx
              obtain ⟨l, hl⟩ : ∃ l, lfF ts m k = l := ⟨_, rfl⟩
              obtain ⟨W, hWe⟩ : ∃ W, wq.drewN n = W := ⟨_, rfl⟩
              have HW : Hid (∀ j, ∃ n, W.drewN j = wq.drewN n) := Lib.hid fun j => ⟨n + j, by rw [← hWe, World.drewN_drewN]⟩
              have cl : ∀ j, (W.drewN j).cell? ⟨w4.heap.size, k, none⟩ = some (.int .i64 l) := fun j => by rw [← hWe, ← hl]; exact hO.out.cell hlt
              have f0 : ∀ j, (W.drewN j).cell? ⟨bl, off + k * 3, none⟩ = some (.int .i64 x) := fun j => by rw [← hWe]; exact (HWq.out.cell (p := ⟨bl, off + k * 3, none⟩) hbk).trans (HC.out _ _ hx).1
              have f1 : ∀ j, (W.drewN j).cell? ⟨bl, off + k * 3 + 1, none⟩ = some (.int .i64 y) := fun j => by rw [← hWe]; exact (HWq.out.cell (p := ⟨bl, off + k * 3 + 1, none⟩) hbk).trans (HC.out _ _ hx).2.1
              have hcell := Lib.hid (fun (j : Nat) (q : Int × Int × Int) (hq : ts[j]? = some q) (i : Nat) => show (W.drewN i).cell? ⟨bl, off + j * 3 + 1, none⟩ = some (.int .i64 q.2.1) by rw [← hWe]; exact (HWq.out.cell (p := ⟨bl, off + j * 3 + 1, none⟩) hbk).trans (HC.out _ _ hq).2.1)
              have HCD : Hid (0 < l → x ≤ m → (m : Int) < y → 0 ≤ v ∧ ltI ts v.toNat ≤ y ∧ (y = ltI ts v.toNat → v ≤ k)) := Lib.hid fun g1 g2 g3 => by
                have := HLS.out k hlt (op_iff.2 ⟨by rw [hp.1]; exact g2, by rw [hp.2.1]; exact g3⟩) (by rw [lfF] at hl; omega)
                rwa [HVV.out, hp.2.1] at this
              rw [hWe]
              clear hx hp hl hWe
              have fin : ∀ j, ∃ k' n : Nat, k' ≤ ts.length ∧ Value.int .i64 ((k : Int) + 1) = .int .i64 k' ∧ W.drewN j = wq.drewN n := fun j => by
                obtain ⟨n', hn'⟩ := HW.out j
                exact ⟨k + 1, n', by omega, by go_num, hn'⟩
              have FIN := Lib.hid fin
              clear fin
              by_cases g1 : 0 < l
              · have t1 : decide (0 < l) = true := decide_eq_true g1
                by_cases g2 : x ≤ (m : Int)
                · have t2 : decide (x ≤ (m : Int)) = true := decide_eq_true g2
                  by_cases g3 : (m : Int) < y
                  · have t3 : decide ((m : Int) < y) = true := decide_eq_true g3
                    obtain ⟨e1, e2, e3⟩ := HCD.out g1 g2 g3
                    obtain ⟨j, rfl⟩ : ∃ j : Nat, v = j := ⟨v.toNat, by omega⟩
                    rw [Int.toNat_natCast] at e2 e3
                    have hj : j < ts.length := by omega
                    obtain ⟨x2, L, d2, hxj⟩ := getT_of_lt hj
                    have q1 := hcell.out j _ hxj
                    rw [(getT_parts hxj).2.1] at e2 e3
                    have t4 : decide ((j : Int) < 0) = false := by simp
                    have t5 : decide (y < L) = false := decide_eq_false (by omega)
                    clear hxj g1 g2 g3
                    by_cases g4 : y = L
                    · have t6 : (y == L) = true := by simpa using g4
                      have e4 := e3 g4
                      have t7 : decide ((k : Int) < (j : Int)) = false := decide_eq_false (by omega)
                      have t8 : decide (k < j) = false := decide_eq_false (by omega)
                      have HG := Lib.hid g4
                      clear e3 g4 e2
                      go_wp2
                      go_quiet (fail)
                      go_wp2
                      go_roundw
                      case rel => first | exact FIN.out _ | ((repeat apply Exists.intro); exact ⟨FIN.out _, rfl⟩)
                      case measure => simp [intOf]; omega
                    · have t6 : (y == L) = false := by simpa using g4
                      clear e3 g4 e2
                      go_wp2
                      go_quiet (fail)
                      go_wp2
                      go_roundw
                      case rel => first | exact FIN.out _ | ((repeat apply Exists.intro); exact ⟨FIN.out _, rfl⟩)
                      case measure => simp [intOf]; omega
                  · have t3 : decide ((m : Int) < y) = false := decide_eq_false g3
                    go_wp2
                    go_quiet (fail)
                    go_wp2
                    go_roundw
                    case rel => first | exact FIN.out _ | ((repeat apply Exists.intro); exact ⟨FIN.out _, rfl⟩)
                    case measure => simp [intOf]; omega
                · have t2 : decide (x ≤ (m : Int)) = false := decide_eq_false g2
                  go_wp2
                  go_quiet (fail)
                  go_wp2
                  go_roundw
                  case rel => first | exact FIN.out _ | ((repeat apply Exists.intro); exact ⟨FIN.out _, rfl⟩)
                  case measure => simp [intOf]; omega
              · have t1 : decide (0 < l) = false := decide_eq_false g1
                go_wp2
                go_quiet (fail)
                go_wp2
                go_roundw
                case rel => first | exact FIN.out _ | ((repeat apply Exists.intro); exact ⟨FIN.out _, rfl⟩)
                case measure => simp [intOf]; omega
            · obtain rfl : k = ts.length := by omega
              obtain ⟨W, hWe, hOW, hBW⟩ : ∃ W, wq.drewN n = W ∧ Hid (OwnV W w4.heap.size w4.heap.size (lfF ts m) ts.length) ∧ Below w4.heap.size w4 W := ⟨_, rfl, Lib.hid hO.out, below_drewN hB n⟩
              rw [hWe]
              clear hWe
              by_cases hneg : v = -1
              · subst hneg
                go_wp2
                go_roundw
                case rel => exact ⟨m + 1, by omega, by go_num, Lib.hid (hOW.out.congr (fun i _ => by rw [lf_out HVV.out])), hBW⟩
                case measure => simp [intOf]; omega
              · obtain ⟨j, rfl⟩ : ∃ j : Nat, v = j := ⟨v.toNat, by omega⟩
                have hj : j < ts.length := by omega
                have c1 := hOW.out.cell hj
                have fr1 := hOW.out.frozen j
                have hw := va_at HV.out hj
                have hcn := cn_nn (urF ts) j m
                obtain ⟨u, hu⟩ : ∃ u, lfF ts m j = u := ⟨_, rfl⟩
                have hub : -100 ≤ u ∧ u ≤ 100 := by rw [← hu, lfF]; omega
                obtain ⟨ub1, ub2⟩ := hub
                rw [hu] at c1
                have HU := Lib.hid hu
                clear hu hw hcn
                go_wp2
                go_roundw
                case rel => exact ⟨m + 1, by omega, by go_num, Lib.hid (hOW.out.put (fun i => by rw [lf_in HVV.out, HU.out])), Below.setCell hBW (Nat.le_refl _) _⟩
                case measure => simp [intOf]; omega
        · obtain rfl : m = 100 := by omega
          have hW5 := below_step HW4.out hB
          obtain ⟨f1, f2⟩ := hf
          obtain ⟨n1, n2⟩ := hn
          rcases hkk with rfl | rfl <;> cases ri
          all_goals
            (try have hNN : decide (fu ≤ N) = true := decide_eq_true (hN rfl))
            clear hN
            go_wp2_with (first
              | (go_at_call 17; refine (H7.out _ hW5).mono ?_; rintro e w6 ⟨rfl, hB6⟩; have hW6 := below_step hW5 hB6; clear hB6)
              | (go_at_call 25; refine (H8.out _ hW6).mono ?_; rintro e w7 ⟨rfl, hB7⟩; have hW7 := below_step hW6 hB7; clear hB7)
              | (go_at_call 16; refine (sane_any _).mono ?_; rintro e w8 ⟨rfl, hB8⟩; have hW8 := below_step hW7 hB8)
              | fail)
            go_ret
            exact ⟨rfl, hW8⟩

set_option maxRecDepth 100000 in
set_option maxHeartbeats 4000000 in
theorem alertWorks_walk (ts : List (Int × Int × Int)) (A : Option Addr) (cap : Nat) (ps : List Int) (B : Option Addr) (cb : Nat) (w : World) (hA : Marks w A ts) (hc : ts.length ≤ cap) (hc0 : cap ≤ maxLen) (hB : Ints w B ps) (hd : ps.length ≤ cb) (hd0 : cb ≤ maxLen) :
    Calls Try.prog 9 #[.slice A ts.length cap, .slice B ps.length cb] w fun e w' => e = .returned (.bool true) ∧ Below w.heap.size w w' := by
  have hl : ts.length ≤ maxLen := Nat.le_trans hc hc0
  have hps : ps.length ≤ maxLen := Nat.le_trans hd hd0
  have h := hA
  have hq := hB
  have short : ∀ b : Bool, decide (40 < ts.length) = b → ∀ W, Calls Try.prog 15 #[.slice A ts.length cap] W fun e w' => e = .returned (.bool b) ∧ W = w' := fun b hb W => (long_any ts A cap W).mono fun _ _ h => ⟨by rw [h.1, hb], h.2⟩
  have val : ∀ b : Bool, vaB ts = b → ∀ W, Below w.heap.size w W → Calls Try.prog 20 #[.slice A ts.length cap] W fun e w' => e = .returned (.bool b) ∧ Below W.heap.size W w' := fun b hb W hW => (refValid_any ts A cap W (h.below hW) hl).mono fun _ _ ⟨h, n, hn⟩ => ⟨by rw [h, hb], by rw [hn]; exact below_drewN (Below.refl _ _) _⟩
  have hW0 : Below w.heap.size w w := Below.refl _ _
  cases hm : decide (40 < ts.length) with
  | true =>
    have H1 := Lib.hid (short true hm)
    clear hm short val h hq hA hB
    go_enter Try.func9, Try.ntmps9
    go_wp2_with (first
      | (go_at_call 15; refine (H1.out _).mono ?_; rintro e w' ⟨rfl, rfl⟩)
      | (go_at_call 16; refine (sane_any _).mono ?_; rintro e w1 ⟨rfl, hB1⟩; have hW1 := below_step hW0 hB1; clear hB1)
      | fail)
    go_ret
    exact ⟨rfl, hW1⟩
  | false =>
    have H1 := Lib.hid (short false hm)
    cases hv : vaB ts with
    | false =>
      have H2 := Lib.hid (val false hv)
      clear hm short val h hq hA hB hv
      go_enter Try.func9, Try.ntmps9
      go_wp2_with (first
        | (go_at_call 15; refine (H1.out _).mono ?_; rintro e w' ⟨rfl, rfl⟩)
        | (go_at_call 20; refine (H2.out _ hW0).mono ?_; rintro e w1 ⟨rfl, hB1⟩; have hW1 := below_step hW0 hB1; clear hB1)
        | (go_at_call 16; refine (sane_any _).mono ?_; rintro e w2 ⟨rfl, hB2⟩; have hW2 := below_step hW1 hB2; clear hB2)
        | fail)
      go_ret
      exact ⟨rfl, hW2⟩
    | true =>
      by_cases hp : 300 < ps.length
      · have H2 := Lib.hid (val true hv)
        have tp : decide ((300 : Int) < (ps.length : Int)) = true := decide_eq_true (by omega)
        clear hm short val h hq hA hB hv hp
        go_enter Try.func9, Try.ntmps9
        go_wp2_with (first
          | (go_at_call 15; refine (H1.out _).mono ?_; rintro e w' ⟨rfl, rfl⟩)
          | (go_at_call 20; refine (H2.out _ hW0).mono ?_; rintro e w1 ⟨rfl, hB1⟩; have hW1 := below_step hW0 hB1; clear hB1)
          | (go_at_call 16; refine (sane_any _).mono ?_; rintro e w2 ⟨rfl, hB2⟩; have hW2 := below_step hW1 hB2; clear hB2)
          | fail)
        go_ret
        exact ⟨rfl, hW2⟩
      · have ta := ta_yes hv
        have hul : (upL ts).length = 100 := vL_len _ _
        refine works_core ts A cap ps B cb w (riV ts ps) (erE ts ps) (frV ts (upL ts)) (frV ts ps) h hv (by omega) (wk_er hv) (wk_free hv) (frV_bd _ _) (frV_bd _ _) (short false hm) (val true hv) ?_ ?_ ?_ ?_ ?_
        · exact fun W hW => (urgentX_any ts A cap W (h.below hW) hl).mono fun _ _ ⟨D, d, h1, h2, h3⟩ => ⟨D, d, by rw [h1, ta.1, ta.2.1, vL_len], by rw [ta.2.1] at h2; exact h2, h3⟩
        · exact fun W D d hW hO => by
            have := rightX_any ts A cap (upL ts) D d W (h.below hW) hl hO.ints (Nat.le_trans hO.le hO.cap)
            rw [hul] at this
            exact this.mono fun _ _ h => ⟨by rw [h.1, up_ri hv, up_er hv], h.2⟩
        · exact fun W D d hW hO => by
            have := freeX_any ts A cap (upL ts) D d W (h.below hW) hl hO.ints (Nat.le_trans hO.le hO.cap)
            rw [hul] at this
            exact this.mono fun _ _ h => ⟨by rw [h.1, up_er hv], h.2⟩
        · exact fun W hW => rightX_any ts A cap ps B cb W (h.below hW) hl (hq.below hW) hps
        · exact fun W hW => freeX_any ts A cap ps B cb W (h.below hW) hl (hq.below hW) hps
end Go.Proofs.Ythanmiifcpajhaa
