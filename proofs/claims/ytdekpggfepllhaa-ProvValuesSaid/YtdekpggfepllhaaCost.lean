/-
  Contracts: cost of a sum, both sides; Value and Cost, both sides.
-/
import Derived.Test.YtdekpggfepllhaaValue
set_option linter.unusedVariables false
set_option linter.unusedSimpArgs false
namespace Go.Proofs.Ytdekpggfepllhaa
open Go Go.RowKit

theorem map_snoc {f : Pr → Int} {s : Sm} {k : Nat} {p : Pr} (h : s[k]? = some p) : (s.take (k + 1)).map f = (s.take k).map f ++ [f p] := by rw [take_snoc h]; simp
def pcL (l : List Int) (s : Sm) (k : Nat) : List Int := (s.take k).map (prC l)
theorem pc_snoc {l : List Int} {s : Sm} {k : Nat} {p : Pr} (h : s[k]? = some p) : pcL l s (k + 1) = pcL l s k ++ [prC l p] := by rw [pcL, pcL, take_snoc h]; simp
theorem pc_zero (l : List Int) (s : Sm) : pcL l s 0 = [] := rfl
theorem pc_all (l : List Int) (s : Sm) : pcL l s s.length = s.map (prC l) := by rw [pcL, List.take_length]
theorem pc_len {l : List Int} {s : Sm} {k : Nat} (h : k ≤ s.length) : (pcL l s k).length = k := by simp [pcL]; omega
theorem cs_mem {xs : List Int} {C : Int} (h : ∀ x ∈ xs, 0 ≤ x ∧ x ≤ C) (hC : 0 ≤ C) : 0 ≤ mnI xs ∧ mnI xs ≤ C := by
  induction xs with
  | nil => exact ⟨Int.le_refl _, hC⟩
  | cons x t ih =>
    have hx := h x (by simp)
    cases t with
    | nil => exact hx
    | cons y u =>
      have := ih (fun z hz => h z (List.mem_cons_of_mem _ hz))
      show 0 ≤ min x (mnI (y :: u)) ∧ min x (mnI (y :: u)) ≤ C
      omega
theorem prc_bd {l : List Int} (hn : nuB l 1000 = true) {s : Sm} (hs : vsB s = true) : ∀ x ∈ s.map (prC l), 0 ≤ x ∧ x ≤ 12000 := by
  intro x hx
  obtain ⟨p, hp, rfl⟩ := List.mem_map.1 hx
  obtain ⟨k, hk, rfl⟩ := List.getElem_of_mem hp
  have hv := vs_pr hs (k := k) (q := s[k].1) (t := s[k].2) (by rw [List.getElem?_eq_getElem hk])
  have h1 := sum_bd12 hn hv.1 _ (Nat.le_refl s[k].1.size)
  have h2 := tok_size hv.1
  unfold prC; omega

set_option maxRecDepth 100000 in
set_option maxHeartbeats 2000000 in
theorem cost_any (s : Sm) (A : Option Addr) (c : Nat) (l : List Int) (B : Option Addr) (d0 : Nat) (w : World) (h : Marks w A s) (hv : vsB s = true) (h0 : 0 < s.length) (hi : Ints w B l) (hn : nuB l 1000 = true) :
    Calls Try.prog 46 #[.slice A s.length c, .slice B l.length d0] w fun e w' => e = .returned (.int .i64 (csI l s)) ∧ Below w.heap.size w w' := by
  have H := Lib.hid h
  have HV := Lib.hid hv
  have HI := Lib.hid hi
  have HN := Lib.hid hn
  have hl := vs_len hv
  have hl8 := nu_len hn
  obtain ⟨b2, o2, rfl, hb2, hd⟩ := hi.open_ (by omega)
  have HD := Lib.hid hd
  clear h hv hi hn hd
  go_enter Try.func46, Try.ntmps46
  go_wp2
  go_loopw [5, 12] (fun v i wr => ∃ k : Nat, k ≤ s.length ∧ i = .int .i64 k ∧ wr.ownsRow w.heap.size 3 1 v k ((pcL l s k).map (Value.int .i64)) ∧ Below w.heap.size w wr) (fun _ i _ => s.length - (intOf i).toNat)
  case atStart => exact ⟨0, Nat.zero_le _, rfl, World.ownsRow_nil _ _ _ _, Below.refl _ _⟩
  case round =>
    obtain ⟨k, hk, rfl, hown, hB⟩ := hrel
    rename World => wr
    by_cases hlt : k < s.length
    · obtain ⟨bl, off, rfl, hbk, hcells⟩ := H.out.open_ (show 0 < s.length by omega)
      obtain ⟨q, t, hx⟩ := getP_of_lt hlt
      obtain ⟨hq, ht0, ht1⟩ := vs_pr HV.out hx
      have f0 := (hB.cell (p := ⟨bl, off + k * 2, none⟩) hbk).trans (hcells _ _ hx).1
      have f1 := (hB.cell (p := ⟨bl, off + k * 2 + 1, none⟩) hbk).trans (hcells _ _ hx).2
      have hb2w : b2 < wr.heap.size := Nat.lt_of_lt_of_le hb2 hB.size
      obtain ⟨W1, hW1, q0, q1, HD1, HB1, HZ1, HO1⟩ : ∃ W1, wr.alloc (.cells #[.string q, .int .i64 t] 42) = W1 ∧ W1.cell? ⟨wr.heap.size, 0, none⟩ = some (.string q) ∧ W1.cell? ⟨wr.heap.size, 1, none⟩ = some (.int .i64 t) ∧ Hid (∀ j x, l[j]? = some x → W1.cell? ⟨b2, o2 + j, none⟩ = some (.int .i64 x)) ∧ Hid (Below w.heap.size w W1) ∧ Hid (w.heap.size ≤ W1.heap.size) ∧ Hid (W1.ownsRow w.heap.size 3 1 u5 k ((pcL l s k).map (Value.int .i64))) :=
        ⟨_, rfl, (alloc_cell2 _ _ _ _).1, (alloc_cell2 _ _ _ _).2, Lib.hid (fun j x hj => (World.cell?_alloc_lt _ _ _ hb2w).trans ((hB.cell (p := ⟨b2, o2 + j, none⟩) hb2).trans (HD.out j x hj))), Lib.hid (Below.alloc hB hB.size _), Lib.hid (by simp; exact Nat.le_succ_of_le hB.size), Lib.hid (hown.alloc _)⟩
      have hsz := tok_size hq
      have HQ := Lib.hid hq
      have HNX := Lib.hid (pc_snoc (l := l) hx)
      have HMB := Lib.hid (fun (j : Nat) (hj : j ≤ q.size) => sum_bd12 HN.out hq j hj)
      have HPV : Hid (prC l (q, t) = sumK l q q.size) := Lib.hid rfl
      clear hx hcells hq hown
      go_wp2
      go_loop [8, 19] (fun p i => ∃ m : Nat, m ≤ q.size ∧ i = .int .i64 m ∧ p = .int .i64 (sumK l q m)) (fun _ i => q.size - (intOf i).toNat)
      case atStart => exact ⟨0, Nat.zero_le _, rfl, rfl⟩
      case round =>
        obtain ⟨m, hm, rfl, rfl⟩ := hrel
        by_cases hmt : m < q.size
        · obtain ⟨d, y, hd1, hd2, hd3, hd4, hy0, hy1⟩ := nm_at HN.out HQ.out hmt
          have hq2 : q[m].toNat = d + 97 := (bN_at hmt).trans hd1
          have g0 := HD1.out d y hd3
          have hdl : d < l.length := by omega
          have hP0 := HMB.out m hm
          have HM : Hid (sumK l q (m + 1) = sumK l q m + y) := Lib.hid (by rw [sumK, hd4])
          obtain ⟨P, hP⟩ : ∃ P, sumK l q m = P := ⟨_, rfl⟩
          rw [hP] at hP0 HM ⊢
          obtain ⟨hp2, hp3⟩ := hP0
          have s1 : IntKind.u8.wrap (d : Int) = d := IntWalk.u8_in _ (by omega)
          have s2 : IntKind.i64.wrap (P + y) = P + y := IntWalk.i64_in _ (by omega)
          clear hd1 hd3 hd4 hP
          go_wp2
          go_round
          case rel => exact ⟨m + 1, by omega, by go_num, by rw [HM.out]⟩
          case measure => simp [intOf]; omega
        · obtain rfl : m = q.size := by omega
          have HPV2 := HPV.out
          have hP0 := HMB.out _ (Nat.le_refl q.size)
          obtain ⟨P, hP⟩ : ∃ P, sumK l q q.size = P := ⟨_, rfl⟩
          rw [hP] at HPV2 hP0 ⊢
          rw [HPV2] at HNX
          clear hP HPV2
          go_wp2_with (at_builtin; refine wp_app_int W1 rfl (.tmp 33) (.tmp 35) rfl w.heap.size _ k (pcL l s k) P rfl HO1.out rfl (by omega) HZ1.out ?_; intro v2 w2 hown2 hB2)
          have HO2 := Lib.hid hown2
          clear hown2
          go_roundw
          case rel => exact ⟨_, _, _, _, .int .i64 ((k : Int) + 1), ⟨k + 1, by omega, by go_num, by rw [HNX.out]; exact HO2.out, HB1.out.trans hB2⟩, rfl, rfl, rfl, rfl, rfl⟩
          case measure => simp [intOf]; omega
    · obtain rfl : k = s.length := by omega
      rw [pc_all] at hown
      obtain ⟨D, e1, he, hO⟩ := own_ints hown
      subst he
      have hml : (s.map (prC l)).length = s.length := by simp
      have HMI : Hid (Calls Try.prog 72 #[.slice D s.length e1] wr fun e w' => e = .returned (.int .i64 (csI l s)) ∧ wr = w') := Lib.hid (by
        have := min_any (s.map (prC l)) D e1 wr hO.ints (by rw [hml]; exact h0) (by rw [hml]; omega)
        rw [hml] at this; exact this)
      rw [hml]
      clear hown hO hml
      go_wp2_with (go_at_call 72; refine HMI.out.mono ?_; rintro e w2 ⟨rfl, rfl⟩)
      go_ret
      exact ⟨rfl, hB⟩

set_option maxRecDepth 100000 in
set_option maxHeartbeats 2000000 in
theorem refCost_any (s : Sm) (A : Option Addr) (c : Nat) (l : List Int) (B : Option Addr) (d0 : Nat) (w : World) (h : Marks w A s) (hv : vsB s = true) (h0 : 0 < s.length) (hi : Ints w B l) (hn : nuB l 1000 = true) :
    Calls Try.prog 47 #[.slice A s.length c, .slice B l.length d0] w fun e w' => e = .returned (.int .i64 (csI l s)) ∧ Below w.heap.size w w' := by
  have H := Lib.hid h
  have HV := Lib.hid hv
  have HI := Lib.hid hi
  have HN := Lib.hid hn
  have hl := vs_len hv
  have hl8 := nu_len hn
  obtain ⟨b2, o2, rfl, hb2, hd⟩ := hi.open_ (by omega)
  have HD := Lib.hid hd
  clear h hv hi hn hd
  go_enter Try.func47, Try.ntmps47
  go_wp2
  go_loopw [5, 12] (fun v i wr => ∃ k : Nat, k ≤ s.length ∧ i = .int .i64 k ∧ v = .int .i64 (mnI (pcL l s k)) ∧ Below w.heap.size w wr) (fun _ i _ => s.length - (intOf i).toNat)
  case atStart => exact ⟨0, Nat.zero_le _, rfl, rfl, Below.refl _ _⟩
  case round =>
    obtain ⟨k, hk, rfl, rfl, hB⟩ := hrel
    rename World => wr
    by_cases hlt : k < s.length
    · obtain ⟨bl, off, rfl, hbk, hcells⟩ := H.out.open_ (show 0 < s.length by omega)
      obtain ⟨q, t, hx⟩ := getP_of_lt hlt
      obtain ⟨hq, ht0, ht1⟩ := vs_pr HV.out hx
      have f0 := (hB.cell (p := ⟨bl, off + k * 2, none⟩) hbk).trans (hcells _ _ hx).1
      have f1 := (hB.cell (p := ⟨bl, off + k * 2 + 1, none⟩) hbk).trans (hcells _ _ hx).2
      have hb2w : b2 < wr.heap.size := Nat.lt_of_lt_of_le hb2 hB.size
      obtain ⟨W1, hW1, q0, q1, HD1, HB1, HZ1⟩ : ∃ W1, wr.alloc (.cells #[.string q, .int .i64 t] 42) = W1 ∧ W1.cell? ⟨wr.heap.size, 0, none⟩ = some (.string q) ∧ W1.cell? ⟨wr.heap.size, 1, none⟩ = some (.int .i64 t) ∧ Hid (∀ j x, l[j]? = some x → W1.cell? ⟨b2, o2 + j, none⟩ = some (.int .i64 x)) ∧ Hid (Below w.heap.size w W1) ∧ Hid (w.heap.size ≤ W1.heap.size) :=
        ⟨_, rfl, (alloc_cell2 _ _ _ _).1, (alloc_cell2 _ _ _ _).2, Lib.hid (fun j x hj => (World.cell?_alloc_lt _ _ _ hb2w).trans ((hB.cell (p := ⟨b2, o2 + j, none⟩) hb2).trans (HD.out j x hj))), Lib.hid (Below.alloc hB hB.size _), Lib.hid (by simp; exact Nat.le_succ_of_le hB.size)⟩
      have hsz := tok_size hq
      have HQ := Lib.hid hq
      have HNX := Lib.hid (pc_snoc (l := l) hx)
      have HMB := Lib.hid (fun (j : Nat) (hj : j ≤ q.size) => sum_bd12 HN.out hq j hj)
      have HPV : Hid (prC l (q, t) = sumK l q q.size) := Lib.hid rfl
      have HMN : Hid (0 < k → mnI (pcL l s (k + 1)) = min (mnI (pcL l s k)) (sumK l q q.size)) := Lib.hid (fun hk0 => by rw [pc_snoc hx, mn_snoc (by rw [pc_len hk]; exact hk0)]; rfl)
      have HM1 : Hid (k = 0 → mnI (pcL l s (k + 1)) = sumK l q q.size) := Lib.hid (fun hk0 => by subst hk0; rw [pc_snoc hx]; rfl)
      obtain ⟨S, hS⟩ : ∃ S, mnI (pcL l s k) = S := ⟨_, rfl⟩
      rw [hS] at HMN ⊢
      clear hx hcells hq hS
      go_wp2
      go_loop [8, 20] (fun p i => ∃ m : Nat, m ≤ q.size ∧ i = .int .i64 m ∧ p = .int .i64 (sumK l q m)) (fun _ i => q.size - (intOf i).toNat)
      case atStart => exact ⟨0, Nat.zero_le _, rfl, rfl⟩
      case round =>
        obtain ⟨m, hm, rfl, rfl⟩ := hrel
        by_cases hmt : m < q.size
        · obtain ⟨d, y, hd1, hd2, hd3, hd4, hy0, hy1⟩ := nm_at HN.out HQ.out hmt
          have hq2 : q[m].toNat = d + 97 := (bN_at hmt).trans hd1
          have g0 := HD1.out d y hd3
          have hdl : d < l.length := by omega
          have hP0 := HMB.out m hm
          have HM : Hid (sumK l q (m + 1) = sumK l q m + y) := Lib.hid (by rw [sumK, hd4])
          obtain ⟨P, hP⟩ : ∃ P, sumK l q m = P := ⟨_, rfl⟩
          rw [hP] at hP0 HM ⊢
          obtain ⟨hp2, hp3⟩ := hP0
          have s1 : IntKind.u8.wrap (d : Int) = d := IntWalk.u8_in _ (by omega)
          have s2 : IntKind.i64.wrap (P + y) = P + y := IntWalk.i64_in _ (by omega)
          clear hd1 hd3 hd4 hP
          go_wp2
          go_round
          case rel => exact ⟨m + 1, by omega, by go_num, by rw [HM.out]⟩
          case measure => simp [intOf]; omega
        · obtain rfl : m = q.size := by omega
          have HPV2 := HPV.out
          have hP0 := HMB.out _ (Nat.le_refl q.size)
          obtain ⟨P, hP⟩ : ∃ P, sumK l q q.size = P := ⟨_, rfl⟩
          rw [hP] at HPV2 hP0 ⊢
          rw [hP] at HMN HM1
          clear hP HPV2
          by_cases hk0 : k = 0
          · have HE := Lib.hid (HM1.out hk0)
            have u1 : ((k : Int) == 0) = true := by rw [hk0]; rfl
            have u1n : (k == 0) = true := by rw [hk0]; rfl
            clear hk0
            go_wp2
            go_roundw
            case rel => exact ⟨.int .i64 P, _, _, _, _, .int .i64 ((k : Int) + 1), ⟨k + 1, by omega, by go_num, by rw [HE.out], HB1.out⟩, rfl, rfl, rfl, rfl, rfl, rfl⟩
            case measure => simp [intOf]; omega
          · have u1 : ((k : Int) == 0) = false := by rw [beq_eq_false_iff_ne]; omega
            have u1n : (k == 0) = false := by rw [beq_eq_false_iff_ne]; omega
            have hmn := HMN.out (by omega)
            by_cases hc : P < S
            · have u2 : decide (P < S) = true := decide_eq_true hc
              have HE : Hid (mnI (pcL l s (k + 1)) = P) := Lib.hid (by omega)
              clear hk0 hmn hc
              go_wp2
              go_roundw
              case rel => exact ⟨.int .i64 P, _, _, _, _, .int .i64 ((k : Int) + 1), ⟨k + 1, by omega, by go_num, by rw [HE.out], HB1.out⟩, rfl, rfl, rfl, rfl, rfl, rfl⟩
              case measure => simp [intOf]; omega
            · have u2 : decide (P < S) = false := decide_eq_false hc
              have HE : Hid (mnI (pcL l s (k + 1)) = S) := Lib.hid (by omega)
              clear hk0 hmn hc
              go_wp2
              go_roundw
              case rel => exact ⟨.int .i64 S, _, _, _, _, .int .i64 ((k : Int) + 1), ⟨k + 1, by omega, by go_num, by rw [HE.out], HB1.out⟩, rfl, rfl, rfl, rfl, rfl, rfl⟩
              case measure => simp [intOf]; omega
    · obtain rfl : k = s.length := by omega
      go_wp2
      go_ret
      exact ⟨by rw [pc_all]; rfl, hB⟩

def suE (s : Sm) : Int := if vsB s = true then 0 else 92
def vaE (s : Sm) (l : List Int) : Int := if vsB s = true then (if nuB l 10 = true then 0 else 2) else 92
def vaV (s : Sm) (l : List Int) : Int := if vsB s = true then (if nuB l 10 = true then vlI l s else 0) else 0
def coE (s : Sm) (l : List Int) : Int := if vsB s = true then (if nuB l 1000 = true then (if s.length = 0 then 5 else 0) else 2) else 92
def coV (s : Sm) (l : List Int) : Int := if vsB s = true then (if nuB l 1000 = true then (if s.length = 0 then 0 else csI l s) else 0) else 0
theorem vv_s {s : Sm} {l : List Int} (h : vsB s = false) : vaE s l = 92 ∧ vaV s l = 0 := by simp [vaE, vaV, h]
theorem vv_a {s : Sm} {l : List Int} (h : vsB s = true) (h2 : nuB l 10 = false) : vaE s l = 2 ∧ vaV s l = 0 := by simp [vaE, vaV, h, h2]
theorem vv_o {s : Sm} {l : List Int} (h : vsB s = true) (h2 : nuB l 10 = true) : vaE s l = 0 ∧ vaV s l = vlI l s := by simp [vaE, vaV, h, h2]
theorem cc_s {s : Sm} {l : List Int} (h : vsB s = false) : coE s l = 92 ∧ coV s l = 0 := by simp [coE, coV, h]
theorem cc_a {s : Sm} {l : List Int} (h : vsB s = true) (h2 : nuB l 1000 = false) : coE s l = 2 ∧ coV s l = 0 := by simp [coE, coV, h, h2]
theorem cc_z {s : Sm} {l : List Int} (h : vsB s = true) (h2 : nuB l 1000 = true) (h3 : s.length = 0) : coE s l = 5 ∧ coV s l = 0 := by simp [coE, coV, h, h2, h3]
theorem cc_o {s : Sm} {l : List Int} (h : vsB s = true) (h2 : nuB l 1000 = true) (h3 : s.length ≠ 0) : coE s l = 0 ∧ coV s l = csI l s := by simp only [coE, coV, h, h2, if_true, if_neg h3]; exact ⟨trivial, trivial⟩

set_option maxRecDepth 100000 in
set_option maxHeartbeats 1000000 in
theorem valueX_any (s : Sm) (A : Option Addr) (c : Nat) (l : List Int) (B : Option Addr) (d0 : Nat) (w : World) (h : Marks w A s) (hz : Szs s) (hl : s.length ≤ maxLen) (hi : Ints w B l) (hl2 : l.length ≤ maxLen) :
    Calls Try.prog 19 #[.slice A s.length c, .slice B l.length d0] w fun e w' => e = .returned (.tuple #[.int .i64 (vaV s l), .int .i64 (vaE s l)]) ∧ Below w.heap.size w w' := by
  have H := Lib.hid h
  have HI := Lib.hid hi
  have HVS : Hid (Calls Try.prog 16 #[.slice A s.length c] w fun e w' => e = .returned (.bool (vsB s)) ∧ Below w.heap.size w w') := Lib.hid (validSum_any s A c w h hz hl)
  have HNU : Hid (∀ W, Below w.heap.size w W → Calls Try.prog 43 #[.slice B l.length d0, .int .i64 10] W fun e w' => e = .returned (.bool (nuB l 10)) ∧ Below W.heap.size W w') := Lib.hid fun W hW => validNumbers_any l B d0 10 W (HI.out.below hW)
  clear h hz hl hi hl2
  cases hv : vsB s with
  | false =>
    have HE := Lib.hid (vv_s (l := l) hv)
    rw [hv] at HVS
    clear hv
    go_enter Try.func19, Try.ntmps19
    go_wp2_with (go_at_call 16; refine HVS.out.mono ?_; rintro e w1 ⟨rfl, hB1⟩)
    go_ret2
    exact ⟨by rw [HE.out.1, HE.out.2]; rfl, hB1⟩
  | true =>
    rw [hv] at HVS
    cases hn : nuB l 10 with
    | false =>
      have HE := Lib.hid (vv_a hv hn)
      rw [hn] at HNU
      clear hv hn
      go_enter Try.func19, Try.ntmps19
      go_wp2_with (first
        | (go_at_call 16; refine HVS.out.mono ?_; rintro e w1 ⟨rfl, hB1⟩)
        | (go_at_call 43; refine (HNU.out _ hB1).mono ?_; rintro e w2 ⟨rfl, hB2⟩; have hB2 := below_step hB1 hB2)
        | fail)
      go_ret2
      exact ⟨by rw [HE.out.1, HE.out.2]; rfl, hB2⟩
    | true =>
      rw [hn] at HNU
      have HE := Lib.hid (vv_o hv hn)
      have HV := Lib.hid hv
      have HNU2 := Lib.hid hn
      clear hv hn
      go_enter Try.func19, Try.ntmps19
      go_wp2_with (first
        | (go_at_call 16; refine HVS.out.mono ?_; rintro e w1 ⟨rfl, hB1⟩)
        | (go_at_call 43; refine (HNU.out _ hB1).mono ?_; rintro e w2 ⟨rfl, hB2⟩; have hB2 := below_step hB1 hB2)
        | (go_at_call 44; refine (value_any s _ _ l _ _ _ (H.out.below hB2) HV.out (HI.out.below hB2) HNU2.out).mono ?_; rintro e w3 ⟨rfl, hB3⟩; have hB3 := below_step hB2 hB3)
        | fail)
      go_ret2
      exact ⟨by rw [HE.out.1, HE.out.2]; rfl, hB3⟩

set_option maxRecDepth 100000 in
set_option maxHeartbeats 1000000 in
theorem refValueX_any (s : Sm) (A : Option Addr) (c : Nat) (l : List Int) (B : Option Addr) (d0 : Nat) (w : World) (h : Marks w A s) (hz : Szs s) (hl : s.length ≤ maxLen) (hi : Ints w B l) (hl2 : l.length ≤ maxLen) :
    Calls Try.prog 20 #[.slice A s.length c, .slice B l.length d0] w fun e w' => e = .returned (.tuple #[.int .i64 (vaV s l), .int .i64 (vaE s l)]) ∧ Below w.heap.size w w' := by
  have H := Lib.hid h
  have HI := Lib.hid hi
  have HVS : Hid (Calls Try.prog 17 #[.slice A s.length c] w fun e w' => e = .returned (.bool (vsB s)) ∧ Below w.heap.size w w') := Lib.hid (refValidSum_any s A c w h hz hl)
  have HNU : Hid (∀ W, Below w.heap.size w W → Calls Try.prog 31 #[.slice B l.length d0, .int .i64 10] W fun e w' => e = .returned (.bool (nuB l 10)) ∧ Below W.heap.size W w') := Lib.hid fun W hW => (areNumbers_any l B d0 10 W (HI.out.below hW) hl2).mono fun _ _ h => ⟨h.1, h.2 ▸ Below.refl _ _⟩
  clear h hz hl hi hl2
  cases hv : vsB s with
  | false =>
    have HE := Lib.hid (vv_s (l := l) hv)
    rw [hv] at HVS
    clear hv
    go_enter Try.func20, Try.ntmps20
    go_wp2_with (go_at_call 17; refine HVS.out.mono ?_; rintro e w1 ⟨rfl, hB1⟩)
    go_ret2
    exact ⟨by rw [HE.out.1, HE.out.2]; rfl, hB1⟩
  | true =>
    rw [hv] at HVS
    cases hn : nuB l 10 with
    | false =>
      have HE := Lib.hid (vv_a hv hn)
      rw [hn] at HNU
      clear hv hn
      go_enter Try.func20, Try.ntmps20
      go_wp2_with (first
        | (go_at_call 17; refine HVS.out.mono ?_; rintro e w1 ⟨rfl, hB1⟩)
        | (go_at_call 31; refine (HNU.out _ hB1).mono ?_; rintro e w2 ⟨rfl, hB2⟩; have hB2 := below_step hB1 hB2)
        | fail)
      go_ret2
      exact ⟨by rw [HE.out.1, HE.out.2]; rfl, hB2⟩
    | true =>
      rw [hn] at HNU
      have HE := Lib.hid (vv_o hv hn)
      have HV := Lib.hid hv
      have HNU2 := Lib.hid hn
      clear hv hn
      go_enter Try.func20, Try.ntmps20
      go_wp2_with (first
        | (go_at_call 17; refine HVS.out.mono ?_; rintro e w1 ⟨rfl, hB1⟩)
        | (go_at_call 31; refine (HNU.out _ hB1).mono ?_; rintro e w2 ⟨rfl, hB2⟩; have hB2 := below_step hB1 hB2)
        | (go_at_call 45; refine (refValue_any s _ _ l _ _ _ (H.out.below hB2) HV.out (HI.out.below hB2) HNU2.out).mono ?_; rintro e w3 ⟨rfl, hB3⟩; have hB3 := below_step hB2 hB3)
        | fail)
      go_ret2
      exact ⟨by rw [HE.out.1, HE.out.2]; rfl, hB3⟩

set_option maxRecDepth 100000 in
set_option maxHeartbeats 1000000 in
theorem costX_any (s : Sm) (A : Option Addr) (c : Nat) (l : List Int) (B : Option Addr) (d0 : Nat) (w : World) (h : Marks w A s) (hz : Szs s) (hl : s.length ≤ maxLen) (hi : Ints w B l) (hl2 : l.length ≤ maxLen) :
    Calls Try.prog 21 #[.slice A s.length c, .slice B l.length d0] w fun e w' => e = .returned (.tuple #[.int .i64 (coV s l), .int .i64 (coE s l)]) ∧ Below w.heap.size w w' := by
  have H := Lib.hid h
  have HI := Lib.hid hi
  have HVS : Hid (Calls Try.prog 16 #[.slice A s.length c] w fun e w' => e = .returned (.bool (vsB s)) ∧ Below w.heap.size w w') := Lib.hid (validSum_any s A c w h hz hl)
  have HNU : Hid (∀ W, Below w.heap.size w W → Calls Try.prog 43 #[.slice B l.length d0, .int .i64 1000] W fun e w' => e = .returned (.bool (nuB l 1000)) ∧ Below W.heap.size W w') := Lib.hid fun W hW => validNumbers_any l B d0 1000 W (HI.out.below hW)
  clear h hz hl hi hl2
  cases hv : vsB s with
  | false =>
    have HE := Lib.hid (cc_s (l := l) hv)
    rw [hv] at HVS
    clear hv
    go_enter Try.func21, Try.ntmps21
    go_wp2_with (go_at_call 16; refine HVS.out.mono ?_; rintro e w1 ⟨rfl, hB1⟩)
    go_ret2
    exact ⟨by rw [HE.out.1, HE.out.2]; rfl, hB1⟩
  | true =>
    rw [hv] at HVS
    cases hn : nuB l 1000 with
    | false =>
      have HE := Lib.hid (cc_a hv hn)
      rw [hn] at HNU
      clear hv hn
      go_enter Try.func21, Try.ntmps21
      go_wp2_with (first
        | (go_at_call 16; refine HVS.out.mono ?_; rintro e w1 ⟨rfl, hB1⟩)
        | (go_at_call 43; refine (HNU.out _ hB1).mono ?_; rintro e w2 ⟨rfl, hB2⟩; have hB2 := below_step hB1 hB2)
        | fail)
      go_ret2
      exact ⟨by rw [HE.out.1, HE.out.2]; rfl, hB2⟩
    | true =>
      rw [hn] at HNU
      by_cases h0 : s.length = 0
      · have HE := Lib.hid (cc_z hv hn h0)
        have u1 : ((s.length : Int) == 0) = true := by rw [h0]; rfl
        clear hv hn h0
        go_enter Try.func21, Try.ntmps21
        go_wp2_with (first
          | (go_at_call 16; refine HVS.out.mono ?_; rintro e w1 ⟨rfl, hB1⟩)
          | (go_at_call 43; refine (HNU.out _ hB1).mono ?_; rintro e w2 ⟨rfl, hB2⟩; have hB2 := below_step hB1 hB2)
          | fail)
        go_ret2
        exact ⟨by rw [HE.out.1, HE.out.2]; rfl, hB2⟩
      · have HE := Lib.hid (cc_o hv hn h0)
        have u1 : ((s.length : Int) == 0) = false := by rw [beq_eq_false_iff_ne]; omega
        have HV := Lib.hid hv
        have HNU2 := Lib.hid hn
        have H0 : Hid (0 < s.length) := Lib.hid (by omega)
        clear hv hn h0
        go_enter Try.func21, Try.ntmps21
        go_wp2_with (first
          | (go_at_call 16; refine HVS.out.mono ?_; rintro e w1 ⟨rfl, hB1⟩)
          | (go_at_call 43; refine (HNU.out _ hB1).mono ?_; rintro e w2 ⟨rfl, hB2⟩; have hB2 := below_step hB1 hB2)
          | (go_at_call 46; refine (cost_any s _ _ l _ _ _ (H.out.below hB2) HV.out H0.out (HI.out.below hB2) HNU2.out).mono ?_; rintro e w3 ⟨rfl, hB3⟩; have hB3 := below_step hB2 hB3)
          | fail)
        go_ret2
        exact ⟨by rw [HE.out.1, HE.out.2]; rfl, hB3⟩

set_option maxRecDepth 100000 in
set_option maxHeartbeats 1000000 in
theorem refCostX_any (s : Sm) (A : Option Addr) (c : Nat) (l : List Int) (B : Option Addr) (d0 : Nat) (w : World) (h : Marks w A s) (hz : Szs s) (hl : s.length ≤ maxLen) (hi : Ints w B l) (hl2 : l.length ≤ maxLen) :
    Calls Try.prog 22 #[.slice A s.length c, .slice B l.length d0] w fun e w' => e = .returned (.tuple #[.int .i64 (coV s l), .int .i64 (coE s l)]) ∧ Below w.heap.size w w' := by
  have H := Lib.hid h
  have HI := Lib.hid hi
  have HVS : Hid (Calls Try.prog 17 #[.slice A s.length c] w fun e w' => e = .returned (.bool (vsB s)) ∧ Below w.heap.size w w') := Lib.hid (refValidSum_any s A c w h hz hl)
  have HNU : Hid (∀ W, Below w.heap.size w W → Calls Try.prog 31 #[.slice B l.length d0, .int .i64 1000] W fun e w' => e = .returned (.bool (nuB l 1000)) ∧ Below W.heap.size W w') := Lib.hid fun W hW => (areNumbers_any l B d0 1000 W (HI.out.below hW) hl2).mono fun _ _ h => ⟨h.1, h.2 ▸ Below.refl _ _⟩
  clear h hz hl hi hl2
  cases hv : vsB s with
  | false =>
    have HE := Lib.hid (cc_s (l := l) hv)
    rw [hv] at HVS
    clear hv
    go_enter Try.func22, Try.ntmps22
    go_wp2_with (go_at_call 17; refine HVS.out.mono ?_; rintro e w1 ⟨rfl, hB1⟩)
    go_ret2
    exact ⟨by rw [HE.out.1, HE.out.2]; rfl, hB1⟩
  | true =>
    rw [hv] at HVS
    cases hn : nuB l 1000 with
    | false =>
      have HE := Lib.hid (cc_a hv hn)
      rw [hn] at HNU
      clear hv hn
      go_enter Try.func22, Try.ntmps22
      go_wp2_with (first
        | (go_at_call 17; refine HVS.out.mono ?_; rintro e w1 ⟨rfl, hB1⟩)
        | (go_at_call 31; refine (HNU.out _ hB1).mono ?_; rintro e w2 ⟨rfl, hB2⟩; have hB2 := below_step hB1 hB2)
        | fail)
      go_ret2
      exact ⟨by rw [HE.out.1, HE.out.2]; rfl, hB2⟩
    | true =>
      rw [hn] at HNU
      by_cases h0 : s.length = 0
      · have HE := Lib.hid (cc_z hv hn h0)
        have u1 : ((s.length : Int) == 0) = true := by rw [h0]; rfl
        clear hv hn h0
        go_enter Try.func22, Try.ntmps22
        go_wp2_with (first
          | (go_at_call 17; refine HVS.out.mono ?_; rintro e w1 ⟨rfl, hB1⟩)
          | (go_at_call 31; refine (HNU.out _ hB1).mono ?_; rintro e w2 ⟨rfl, hB2⟩; have hB2 := below_step hB1 hB2)
          | fail)
        go_ret2
        exact ⟨by rw [HE.out.1, HE.out.2]; rfl, hB2⟩
      · have HE := Lib.hid (cc_o hv hn h0)
        have u1 : ((s.length : Int) == 0) = false := by rw [beq_eq_false_iff_ne]; omega
        have HV := Lib.hid hv
        have HNU2 := Lib.hid hn
        have H0 : Hid (0 < s.length) := Lib.hid (by omega)
        clear hv hn h0
        go_enter Try.func22, Try.ntmps22
        go_wp2_with (first
          | (go_at_call 17; refine HVS.out.mono ?_; rintro e w1 ⟨rfl, hB1⟩)
          | (go_at_call 31; refine (HNU.out _ hB1).mono ?_; rintro e w2 ⟨rfl, hB2⟩; have hB2 := below_step hB1 hB2)
          | (go_at_call 47; refine (refCost_any s _ _ l _ _ _ (H.out.below hB2) HV.out H0.out (HI.out.below hB2) HNU2.out).mono ?_; rintro e w3 ⟨rfl, hB3⟩; have hB3 := below_step hB2 hB3)
          | fail)
        go_ret2
        exact ⟨by rw [HE.out.1, HE.out.2]; rfl, hB3⟩
end Go.Proofs.Ytdekpggfepllhaa
