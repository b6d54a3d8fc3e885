/-
  Contracts: value and cost of a sum, both sides; slices.Min at ints.
-/
import Derived.Test.YtdekpggfepllhaaNums
set_option linter.unusedVariables false
set_option linter.unusedSimpArgs false
namespace Go.Proofs.Ytdekpggfepllhaa
open Go Go.RowKit

theorem nm_at {l : List Int} {m : Int} (hn : nuB l m = true) {q : ByteArray} (hq : tokB q = true) {j : Nat} (hj : j < q.size) : ∃ (d : Nat) (y : Int), bN q j = d + 97 ∧ d ≤ 7 ∧ l[d]? = some y ∧ nm l q j = y ∧ 0 ≤ y ∧ y ≤ m := by
  have hb := tok_bd hq hj
  obtain ⟨y, h1, h2⟩ := nu_at hn (j := bN q j - 97) (by omega)
  exact ⟨bN q j - 97, y, by omega, by omega, h1, nm_of h1, h2⟩

set_option maxRecDepth 100000 in
set_option maxHeartbeats 2000000 in
theorem value_any (s : Sm) (A : Option Addr) (c : Nat) (l : List Int) (B : Option Addr) (d0 : Nat) (w : World) (h : Marks w A s) (hv : vsB s = true) (hi : Ints w B l) (hn : nuB l 10 = true) :
    Calls Try.prog 44 #[.slice A s.length c, .slice B l.length d0] w fun e w' => e = .returned (.int .i64 (vlI l s)) ∧ Below w.heap.size w w' := by
  have H := Lib.hid h
  have HV := Lib.hid hv
  have HI := Lib.hid hi
  have HN := Lib.hid hn
  have hl := vs_len hv
  have hl8 := nu_len hn
  obtain ⟨b2, o2, rfl, hb2, hd⟩ := hi.open_ (by omega)
  have HD := Lib.hid hd
  clear h hv hi hn hd
  go_enter Try.func44, Try.ntmps44
  go_wp2
  go_loopw [5, 12] (fun v i wr => ∃ k : Nat, k ≤ s.length ∧ i = .int .i64 k ∧ v = .int .i64 (((s.take k).map (prV l)).sum) ∧ Below w.heap.size w wr) (fun _ i _ => s.length - (intOf i).toNat)
  case atStart => exact ⟨0, Nat.zero_le _, rfl, rfl, Below.refl _ _⟩
  case round =>
    obtain ⟨k, hk, rfl, rfl, hB⟩ := hrel
    rename World => wr
    by_cases hlt : k < s.length
    · obtain ⟨bl, off, rfl, hbk, hcells⟩ := H.out.open_ (show 0 < s.length by omega)
      obtain ⟨q, t, hx⟩ := getP_of_lt hlt
      obtain ⟨hq, ht0, ht1⟩ := vs_pr HV.out hx
      have f0 := (hB.cell (p := ⟨bl, off + k * 2, none⟩) hbk).trans (hcells _ _ hx).1
      have f1 := (hB.cell (p := ⟨bl, off + k * 2 + 1, none⟩) hbk).trans (hcells _ _ hx).2
      have hb2w : b2 < wr.heap.size := Nat.lt_of_lt_of_le hb2 hB.size
      obtain ⟨W1, hW1, q0, q1, HD1, HB1⟩ : ∃ W1, wr.alloc (.cells #[.string q, .int .i64 t] 42) = W1 ∧ W1.cell? ⟨wr.heap.size, 0, none⟩ = some (.string q) ∧ W1.cell? ⟨wr.heap.size, 1, none⟩ = some (.int .i64 t) ∧ Hid (∀ j x, l[j]? = some x → W1.cell? ⟨b2, o2 + j, none⟩ = some (.int .i64 x)) ∧ Hid (Below w.heap.size w W1) :=
        ⟨_, rfl, (alloc_cell2 _ _ _ _).1, (alloc_cell2 _ _ _ _).2, Lib.hid (fun j x hj => (World.cell?_alloc_lt _ _ _ hb2w).trans ((hB.cell (p := ⟨b2, o2 + j, none⟩) hb2).trans (HD.out j x hj))), Lib.hid (Below.alloc hB hB.size _)⟩
      have hsz := tok_size hq
      have HQ := Lib.hid hq
      have HNX := Lib.hid (sum_snoc (f := prV l) hx)
      have hvb := vl_bd HN.out HV.out k hk
      have hpb := mul_bd12 HN.out hq (t := t) (by omega) ht1 (Nat.le_refl q.size)
      have HPB := Lib.hid hpb
      have HMB := Lib.hid (fun (j : Nat) (hj : j ≤ q.size) => mul_bd12 HN.out hq (t := t) (by omega) ht1 hj)
      have HPV : Hid (prV l (q, t) = mulK l q t q.size) := Lib.hid rfl
      obtain ⟨S, hS⟩ : ∃ S, ((s.take k).map (prV l)).sum = S := ⟨_, rfl⟩
      rw [hS] at HNX hvb ⊢
      have HSS := Lib.hid hS
      clear hx hcells hq hpb hS
      go_wp2
      go_loop [8, 21] (fun p i => ∃ m : Nat, m ≤ q.size ∧ i = .int .i64 m ∧ p = .int .i64 (mulK l q t m)) (fun _ i => q.size - (intOf i).toNat)
      case atStart => exact ⟨0, Nat.zero_le _, rfl, rfl⟩
      case round =>
        obtain ⟨m, hm, rfl, rfl⟩ := hrel
        by_cases hmt : m < q.size
        · obtain ⟨d, y, hd1, hd2, hd3, hd4, hy0, hy1⟩ := nm_at HN.out HQ.out hmt
          have hq2 : q[m].toNat = d + 97 := (bN_at hmt).trans hd1
          have g0 := HD1.out d y hd3
          have hdl : d < l.length := by omega
          have hP0 := HMB.out m hm
          have hP1 := HMB.out (m + 1) (by omega)
          have HM : Hid (mulK l q t (m + 1) = mulK l q t m * y) := Lib.hid (by rw [mulK, hd4])
          rw [HM.out] at hP1
          obtain ⟨P, hP⟩ : ∃ P, mulK l q t m = P := ⟨_, rfl⟩
          rw [hP] at hP0 hP1 HM ⊢
          obtain ⟨hp2, hp3⟩ := hP1
          have s1 : IntKind.u8.wrap (d : Int) = d := IntWalk.u8_in _ (by omega)
          have s2 : IntKind.i64.wrap (P * y) = P * y := IntWalk.i64_in _ (by omega)
          clear hd1 hd3 hd4 hP hP0
          go_wp2
          go_round
          case rel => exact ⟨m + 1, by omega, by go_num, by rw [HM.out]⟩
          case measure => simp [intOf]; omega
        · obtain rfl : m = q.size := by omega
          have hP0 := HPB.out
          have HPV2 := HPV.out
          obtain ⟨P, hP⟩ : ∃ P, mulK l q t q.size = P := ⟨_, rfl⟩
          rw [hP] at hP0 HPV2 ⊢
          have HP2 := Lib.hid HPV2
          have s2 : IntKind.i64.wrap (S + P) = S + P := IntWalk.i64_in _ (by omega)
          clear hP HPV2
          go_wp2
          go_roundw
          case rel => exact ⟨.int .i64 (S + P), _, _, _, .int .i64 ((k : Int) + 1), ⟨k + 1, by omega, by go_num, by first | rw [← List.map_take, HNX.out, HP2.out] | rw [HNX.out, HP2.out], HB1.out⟩, rfl, rfl, rfl, rfl, rfl⟩
          case measure => simp [intOf]; omega
    · obtain rfl : k = s.length := by omega
      go_wp2
      go_ret
      exact ⟨by rw [List.take_length]; rfl, hB⟩

set_option maxRecDepth 100000 in
set_option maxHeartbeats 2000000 in
theorem refValue_any (s : Sm) (A : Option Addr) (c : Nat) (l : List Int) (B : Option Addr) (d0 : Nat) (w : World) (h : Marks w A s) (hv : vsB s = true) (hi : Ints w B l) (hn : nuB l 10 = true) :
    Calls Try.prog 45 #[.slice A s.length c, .slice B l.length d0] w fun e w' => e = .returned (.int .i64 (vlI l s)) ∧ Below w.heap.size w w' := by
  have H := Lib.hid h
  have HV := Lib.hid hv
  have HI := Lib.hid hi
  have HN := Lib.hid hn
  have hl := vs_len hv
  have hl8 := nu_len hn
  obtain ⟨b2, o2, rfl, hb2, hd⟩ := hi.open_ (by omega)
  have HD := Lib.hid hd
  clear h hv hi hn hd
  go_enter Try.func45, Try.ntmps45
  go_wp2
  go_loopw [5, 12] (fun v i wr => ∃ k : Nat, k ≤ s.length ∧ i = .int .i64 k ∧ v = .int .i64 (((s.take k).map (prV l)).sum) ∧ Below w.heap.size w wr) (fun _ i _ => s.length - (intOf i).toNat)
  case atStart => exact ⟨0, Nat.zero_le _, rfl, rfl, Below.refl _ _⟩
  case round =>
    obtain ⟨k, hk, rfl, rfl, hB⟩ := hrel
    rename World => wr
    by_cases hlt : k < s.length
    · obtain ⟨bl, off, rfl, hbk, hcells⟩ := H.out.open_ (show 0 < s.length by omega)
      obtain ⟨q, t, hx⟩ := getP_of_lt hlt
      obtain ⟨hq, ht0, ht1⟩ := vs_pr HV.out hx
      have f0 := (hB.cell (p := ⟨bl, off + k * 2, none⟩) hbk).trans (hcells _ _ hx).1
      have f1 := (hB.cell (p := ⟨bl, off + k * 2 + 1, none⟩) hbk).trans (hcells _ _ hx).2
      have hb2w : b2 < wr.heap.size := Nat.lt_of_lt_of_le hb2 hB.size
      obtain ⟨W1, hW1, q0, q1, HD1, HB1⟩ : ∃ W1, wr.alloc (.cells #[.string q, .int .i64 t] 42) = W1 ∧ W1.cell? ⟨wr.heap.size, 0, none⟩ = some (.string q) ∧ W1.cell? ⟨wr.heap.size, 1, none⟩ = some (.int .i64 t) ∧ Hid (∀ j x, l[j]? = some x → W1.cell? ⟨b2, o2 + j, none⟩ = some (.int .i64 x)) ∧ Hid (Below w.heap.size w W1) :=
        ⟨_, rfl, (alloc_cell2 _ _ _ _).1, (alloc_cell2 _ _ _ _).2, Lib.hid (fun j x hj => (World.cell?_alloc_lt _ _ _ hb2w).trans ((hB.cell (p := ⟨b2, o2 + j, none⟩) hb2).trans (HD.out j x hj))), Lib.hid (Below.alloc hB hB.size _)⟩
      have hsz := tok_size hq
      have HQ := Lib.hid hq
      have HNX := Lib.hid (sum_snoc (f := prV l) hx)
      have hvb := vl_bd HN.out HV.out k hk
      have hpb := mul_bd12 HN.out hq (t := t) (by omega) ht1 (Nat.le_refl q.size)
      have HPB := Lib.hid hpb
      have HMB := Lib.hid (fun (j : Nat) (hj : j ≤ q.size) => mul_bd12 HN.out hq (t := t) (by omega) ht1 hj)
      have HPV : Hid (prV l (q, t) = mulK l q t q.size) := Lib.hid rfl
      obtain ⟨S, hS⟩ : ∃ S, ((s.take k).map (prV l)).sum = S := ⟨_, rfl⟩
      rw [hS] at HNX hvb ⊢
      have HSS := Lib.hid hS
      clear hx hcells hq hpb hS
      go_wp2
      go_loop [8, 21] (fun p i => ∃ m : Nat, m ≤ q.size ∧ i = .int .i64 m ∧ p = .int .i64 (mulK l q t m)) (fun _ i => q.size - (intOf i).toNat)
      case atStart => exact ⟨0, Nat.zero_le _, rfl, rfl⟩
      case round =>
        obtain ⟨m, hm, rfl, rfl⟩ := hrel
        by_cases hmt : m < q.size
        · obtain ⟨d, y, hd1, hd2, hd3, hd4, hy0, hy1⟩ := nm_at HN.out HQ.out hmt
          have hq2 : q[m].toNat = d + 97 := (bN_at hmt).trans hd1
          have g0 := HD1.out d y hd3
          have hdl : d < l.length := by omega
          have hP0 := HMB.out m hm
          have hP1 := HMB.out (m + 1) (by omega)
          have HM : Hid (mulK l q t (m + 1) = mulK l q t m * y) := Lib.hid (by rw [mulK, hd4])
          rw [HM.out] at hP1
          obtain ⟨P, hP⟩ : ∃ P, mulK l q t m = P := ⟨_, rfl⟩
          rw [hP] at hP0 hP1 HM ⊢
          obtain ⟨hp2, hp3⟩ := hP1
          have s1 : IntKind.u8.wrap (d : Int) = d := IntWalk.u8_in _ (by omega)
          have s2 : IntKind.i64.wrap (P * y) = P * y := IntWalk.i64_in _ (by omega)
          clear hd1 hd3 hd4 hP hP0
          go_wp2
          go_round
          case rel => exact ⟨m + 1, by omega, by go_num, by rw [HM.out]⟩
          case measure => simp [intOf]; omega
        · obtain rfl : m = q.size := by omega
          have hP0 := HPB.out
          have HPV2 := HPV.out
          obtain ⟨P, hP⟩ : ∃ P, mulK l q t q.size = P := ⟨_, rfl⟩
          rw [hP] at hP0 HPV2 ⊢
          have HP2 := Lib.hid HPV2
          have s2 : IntKind.i64.wrap (S + P) = S + P := IntWalk.i64_in _ (by omega)
          clear hP HPV2
          go_wp2
          go_roundw
          case rel => exact ⟨.int .i64 (S + P), _, _, _, .int .i64 ((k : Int) + 1), ⟨k + 1, by omega, by go_num, by first | rw [← List.map_take, HNX.out, HP2.out] | rw [HNX.out, HP2.out], HB1.out⟩, rfl, rfl, rfl, rfl, rfl⟩
          case measure => simp [intOf]; omega
    · obtain rfl : k = s.length := by omega
      go_wp2
      go_ret
      exact ⟨by rw [List.take_length]; rfl, hB⟩

set_option maxRecDepth 100000 in
set_option maxHeartbeats 1000000 in
theorem min_any (xs : List Int) (A : Option Addr) (c : Nat) (w : World) (h : Ints w A xs) (hn : 0 < xs.length) (hl : xs.length ≤ 1000) :
    Calls Try.prog 72 #[.slice A xs.length c] w fun e w' => e = .returned (.int .i64 (mnI xs)) ∧ w = w' := by
  have H := Lib.hid h
  clear h
  obtain ⟨bl, off, rfl, hbk, hcells⟩ := H.out.open_ hn
  have HC := Lib.hid hcells
  obtain ⟨x0, hx0⟩ := getElem?_of_lt hn
  have f0 := hcells 0 x0 hx0
  rw [Nat.add_zero] at f0
  have t0 : decide ((xs.length : Int) < 1) = false := decide_eq_false (by omega)
  have H0 : Hid (mnI (xs.take 1) = x0) := Lib.hid (by rw [take_snoc hx0]; rfl)
  clear hcells hx0
  go_enter Try.func72, Try.ntmps72
  go_wp2
  go_loop [3, 4] (fun v i => ∃ k : Nat, 1 ≤ k ∧ k ≤ xs.length ∧ i = .int .i64 k ∧ v = .int .i64 (mnI (xs.take k))) (fun _ i => xs.length - (intOf i).toNat)
  case atStart => exact ⟨1, Nat.le_refl _, hn, rfl, by rw [H0.out]⟩
  case round =>
    obtain ⟨k, hk1, hk, rfl, rfl⟩ := hrel
    by_cases hlt : k < xs.length
    · obtain ⟨x, hx⟩ := getElem?_of_lt hlt
      have g0 := HC.out k x hx
      have HN : Hid (mnI (xs.take (k + 1)) = min (mnI (xs.take k)) x) := Lib.hid (by rw [take_snoc hx, mn_snoc (by simp; omega)])
      obtain ⟨M, hM⟩ : ∃ M, mnI (xs.take k) = M := ⟨_, rfl⟩
      rw [hM] at HN ⊢
      clear hx hM
      rcases Int.lt_trichotomy M x with hc | hc | hc
      · have u1 : decide (M < x) = true := decide_eq_true hc
        have u2 : decide (M ≤ x) = true := decide_eq_true (by omega)
        have u3 : decide (x < M) = false := decide_eq_false (by omega)
        have HNN : Hid (min M x = M) := Lib.hid (by omega)
        go_wp2
        go_round
        case rel => exact ⟨k + 1, by omega, by omega, by go_num, by rw [HN.out, HNN.out]⟩
        case measure => simp [intOf]; omega
      · subst hc
        go_wp2
        go_round
        case rel => exact ⟨k + 1, by omega, by omega, by go_num, by rw [HN.out]; (first | rfl | simp; done | (simp; omega))⟩
        case measure => simp [intOf]; omega
      · have u1 : decide (M < x) = false := decide_eq_false (by omega)
        have u2 : decide (M ≤ x) = false := decide_eq_false (by omega)
        have u3 : decide (x < M) = true := decide_eq_true hc
        have HNN : Hid (min M x = x) := Lib.hid (by omega)
        go_wp2
        go_round
        case rel => exact ⟨k + 1, by omega, by omega, by go_num, by rw [HN.out, HNN.out]⟩
        case measure => simp [intOf]; omega
    · obtain rfl : k = xs.length := by omega
      go_wp2
      go_ret
      exact ⟨by first | rfl | rw [List.take_length], rfl⟩
end Go.Proofs.Ytdekpggfepllhaa
