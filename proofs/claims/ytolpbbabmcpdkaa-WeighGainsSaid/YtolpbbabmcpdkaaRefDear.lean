/-
  Contract: dearest (firnref07); all cuts tried one behind the other tell the outcomes with a gain above 0.
-/
import Derived.Test.YtolpbbabmcpdkaaRefGain
set_option linter.unusedVariables false
set_option linter.unusedSimpArgs false
namespace Go.Proofs.Ytolpbbabmcpdkaa
open Go.RowKit Go.Shelf

/-- One cut more: it is taken if it has the greater gain, or as great a one and comes first. -/
def stepC (g : List Int → Int) (b c : List Int) : List Int := if g b < g c ∨ (g c = g b ∧ firstB c b = true) then c else b
def deK (n : Nat) (g : List Int → Int) : Nat → List Int
  | 0 => []
  | k + 1 => stepC g (deK n g k) (ofS n k)
theorem deK_cut (n : Nat) (g : List Int → Int) : ∀ k, cutB n (deK n g k) = true
  | 0 => rfl
  | k + 1 => by
    unfold deK stepC
    split
    · exact ofM_cut _ _
    · exact deK_cut n g k
theorem first_len {c b : List Int} (h : firstB c b = true) : c.length ≤ b.length := by
  unfold firstB at h
  split at h
  · omega
  · have := of_decide_eq_true h; omega
theorem not_first {c b : List Int} (h : firstB c b = false) : b.length ≤ c.length := by
  unfold firstB at h
  split at h
  · omega
  · have := of_decide_eq_false h; omega
/-- None that was tried is better. -/
theorem deK_best (n : Nat) (g : List Int → Int) : ∀ k s, s < k → g (ofS n s) < g (deK n g k) ∨ (g (ofS n s) = g (deK n g k) ∧ (deK n g k).length ≤ (ofS n s).length)
  | 0, s, h => by omega
  | k + 1, s, h => by
    have hdef : deK n g (k + 1) = stepC g (deK n g k) (ofS n k) := rfl
    rw [hdef]
    unfold stepC
    by_cases hs : s < k
    · have ih := deK_best n g k s hs
      split
      · rename_i hc
        rcases hc with hc | ⟨hc, hf⟩
        · left; omega
        · have := first_len hf; omega
      · exact ih
    · obtain rfl : s = k := by omega
      split
      · right; exact ⟨rfl, Nat.le_refl _⟩
      · rename_i hc
        by_cases h1 : g (ofS n s) = g (deK n g s)
        · right
          refine ⟨h1, ?_⟩
          cases hf : firstB (ofS n s) (deK n g s)
          · exact not_first hf
          · exact absurd (.inr ⟨h1, hf⟩) hc
        · left
          have : ¬ g (deK n g s) < g (ofS n s) := fun h => hc (.inl h)
          omega
/-- Each property is that of some set. -/
theorem set_of (n : Nat) (p : Nat → Bool) : ∃ s, s < 2 ^ n ∧ ∀ i, i < n → s.testBit i = p i := by
  induction n with
  | zero => exact ⟨0, by simp, fun i h => by omega⟩
  | succ n ih =>
    obtain ⟨s, hs, h⟩ := ih
    cases hp : p n
    · refine ⟨s, by rw [Nat.pow_succ]; omega, fun i hi => ?_⟩
      by_cases hin : i = n
      · subst hin; rw [hp]; exact Nat.testBit_lt_two_pow hs
      · exact h i (by omega)
    · refine ⟨2 ^ n + s, by rw [Nat.pow_succ]; omega, fun i hi => ?_⟩
      by_cases hin : i = n
      · subst hin; rw [hp, Nat.testBit_two_pow_add_eq, Nat.testBit_lt_two_pow hs]; rfl
      · rw [Nat.testBit_two_pow_add_gt (by omega)]; exact h i (by omega)
theorem ofS_of {n : Nat} {cs : List Int} (h : cutB n cs = true) : ∃ s, s < 2 ^ n ∧ ofS n s = cs := by
  obtain ⟨s, hs, hb⟩ := set_of n (fun i => cs.contains (i : Int))
  refine ⟨s, hs, ?_⟩
  rw [cut_of h]
  exact ofM_congr hb
theorem filter_len {α : Type} (p q : α → Bool) : ∀ (l : List α), (∀ x ∈ l, p x = true → q x = true) → (l.filter p).length ≤ (l.filter q).length ∧ ((l.filter p).length = (l.filter q).length → l.filter p = l.filter q)
  | [], _ => by simp
  | a :: t, h => by
    have ih := filter_len p q t (fun x hx => h x (List.mem_cons_of_mem _ hx))
    have ha := h a (by simp)
    rw [List.filter_cons, List.filter_cons]
    cases hp : p a <;> cases hq : q a <;> simp_all <;> omega
theorem sum_eq_all {l : List Nat} {f g : Nat → Int} (h : ∀ i ∈ l, f i ≤ g i) (he : (l.map f).sum = (l.map g).sum) : ∀ i ∈ l, f i = g i := by
  induction l with
  | nil => simp
  | cons a t ih =>
    simp only [List.map_cons, List.sum_cons] at he
    have h1 := h a (by simp)
    have h2 := sum_mono f g t (fun i hi => h i (List.mem_cons_of_mem _ hi))
    intro i hi
    rcases List.mem_cons.1 hi with rfl | hi
    · omega
    · exact ih (fun i hi => h i (List.mem_cons_of_mem _ hi)) (by omega) i hi
theorem tg_mS' (ns ss : List Int) (p q : Int) (n : Nat) (f : Nat → Bool) : tgV ns ss p q (ofM n f) = ((List.range n).map fun i => if f i then gnV ns ss p q i else 0).sum := by
  unfold tgV ofM
  generalize List.range n = l
  induction l with
  | nil => rfl
  | cons i t ih =>
    rw [List.filter_cons]
    cases h : f i <;> simp [h] <;> simpa using ih
theorem de_le (ns ss : List Int) (p q : Int) (f : Nat → Bool) (i : Nat) : (if f i then gnV ns ss p q i else 0) ≤ (if decide (0 < gnV ns ss p q i) then gnV ns ss p q i else 0) := by
  by_cases h1 : 0 < gnV ns ss p q i
  · rw [decide_eq_true h1, if_pos rfl]; split <;> omega
  · rw [decide_eq_false h1]; simp only [Bool.false_eq_true, if_false]; split <;> omega
/-- All cuts tried: the dearest one is that of the outcomes with a gain above 0. -/
theorem deK_all (ns ss : List Int) (p q : Int) : deK ns.length (tgV ns ss p q) (2 ^ ns.length) = deL ns ss p q := by
  obtain ⟨s, hs, hd⟩ := ofS_of (n := ns.length) (cs := deL ns ss p q) (ofM_cut _ _)
  have hb := deK_best ns.length (tgV ns ss p q) (2 ^ ns.length) s hs
  rw [hd] at hb
  have hc := deK_cut ns.length (tgV ns ss p q) (2 ^ ns.length)
  generalize deK ns.length (tgV ns ss p q) (2 ^ ns.length) = r at *
  have hr := cut_of hc
  generalize (fun i : Nat => r.contains (i : Int)) = f at hr
  have hm : tgV ns ss p q r ≤ tgV ns ss p q (deL ns ss p q) := by
    rw [hr, deL, tg_mS', tg_mS']; exact sum_mono _ _ _ (fun i _ => de_le ns ss p q f i)
  rcases hb with hb | ⟨hb, hl⟩
  · omega
  · rw [hr, deL, tg_mS', tg_mS'] at hb
    have he := sum_eq_all (fun i _ => de_le ns ss p q f i) hb.symm
    have hsub : ∀ i ∈ List.range ns.length, (fun i => decide (0 < gnV ns ss p q i)) i = true → f i = true := by
      intro i hi h1
      have h2 := he i hi
      have h3 : 0 < gnV ns ss p q i := of_decide_eq_true h1
      cases hf : f i
      · rw [hf, decide_eq_true h3] at h2; simp at h2; omega
      · rfl
    have hfl := filter_len _ _ _ hsub
    have l1 : r.length = ((List.range ns.length).filter f).length := by rw [hr]; simp [ofM]
    have l2 : (deL ns ss p q).length = ((List.range ns.length).filter (fun i => decide (0 < gnV ns ss p q i))).length := by simp [deL, ofM]
    have heq := hfl.2 (by omega)
    rw [hr, deL]
    unfold ofM
    rw [heq]

set_option maxRecDepth 100000 in
set_option maxHeartbeats 1600000 in
theorem refdear_any (ns ss : List Int) (A B : Option Addr) (c d : Nat) (ho : Od ns ss) (p q : Int) (hp : 1 ≤ q ∧ q ≤ 10000000 ∧ 0 ≤ p ∧ p ≤ 1000000000) (w : World) (hA : Ints w A ns) (hB : Ints w B ss) :
    Calls Try.prog 88 #[.agg #[.slice A ns.length c, .slice B ss.length d], .agg #[.int .i64 p, .int .i64 q]] w fun e w' => ∃ D' e', e = .returned (.slice D' (deL ns ss p q).length e') ∧ Out w' D' e' (deL ns ss p q) ∧ Below w.heap.size w w' := by
  have hn2 := ho.le
  have HA := Lib.hid hA
  have HB := Lib.hid hB
  have HALL := Lib.hid (deK_all ns ss p q)
  have hpw : (2 : Nat) ^ ns.length ≤ 1024 := Nat.pow_le_pow_right (n := 2) (by omega) (show ns.length ≤ 10 by omega)
  have HPI := Lib.hid (pow_i64 ns.length (by omega))
  obtain ⟨M, hM⟩ : ∃ M : Nat, 2 ^ ns.length = M := ⟨_, rfl⟩
  rw [hM] at HALL hpw HPI
  have hpi : wrap64 ((2 : Int) ^ ns.length) = (M : Int) := by have := HPI.out; rw [Int.one_mul, IntKind.wrap_i64] at this; unfold wrap64; exact this
  clear hA hB hM
  obtain ⟨W0, hW0, HW, H0, H1, z0, z1⟩ := two_new w #[.slice A ns.length c, .slice B ss.length d] #[.int .i64 p, .int .i64 q] 24 28
  go_enter Try.func88, Try.ntmps88
  go_wp2
  rw [← hW0]
  clear hW0
  rw [hpi]
  clear hpi
  go_loopw [5, 14] (fun v i wr => ∃ k : Nat, k ≤ M ∧ i = .int .i64 k ∧ (∃ (Ab : Option Addr) (cb : Nat) (bs : List Int), v = .slice Ab bs.length cb ∧ Hid (Out wr Ab cb bs) ∧ Hid (bs = deK ns.length (tgV ns ss p q) k)) ∧ Below W0.heap.size W0 wr) (fun _ i _ => M - (intOf i).toNat)
  case atStart => exact ⟨0, Nat.zero_le _, rfl, ⟨none, 0, [], rfl, Out.nil_, rfl⟩, Below.refl _ _⟩
  case round =>
    obtain ⟨k, hk, rfl, ⟨Ab, cb, bs, rfl, HBS, hbs⟩, hBr⟩ := hrel
    have HW : Hid (Below w.heap.size w wr) := Lib.hid (below_step HW.out hBr)
    have H0 := Lib.hid ((hBr.block _ z0).trans H0.out)
    have H1 := Lib.hid ((hBr.block _ z1).trans H1.out)
    have HR0 := Lib.hid hBr
    have z0 := Nat.lt_of_lt_of_le z0 hBr.size
    have z1 := Nat.lt_of_lt_of_le z1 hBr.size
    have HBC : Hid (cutB ns.length bs = true) := Lib.hid (by rw [hbs.out]; exact deK_cut _ _ _)
    clear hBr
    by_cases hlt : k < M
    · have HSTEP : Hid (deK ns.length (tgV ns ss p q) (k + 1) = stepC (tgV ns ss p q) bs (ofS ns.length k)) := Lib.hid (by rw [hbs.out]; rfl)
      have hk63 : k < 2 ^ 63 := by omega
      have hn40 : ns.length ≤ 40 := by omega
      have HLC0 : Hid (cutB ns.length (ofS ns.length k) = true) := Lib.hid (ofM_cut _ _)
      have hbl := cutB_len HBC.out
      have hll := cutB_len HLC0.out
      obtain ⟨gl, hgl⟩ : ∃ x, tgV ns ss p q (ofS ns.length k) = x := ⟨_, rfl⟩
      obtain ⟨gb, hgb⟩ : ∃ x, tgV ns ss p q bs = x := ⟨_, rfl⟩
      obtain ⟨fb, hfb⟩ : ∃ x, firstB (ofS ns.length k) bs = x := ⟨_, rfl⟩
      have HG2 := Lib.hid hgb
      have HGL := Lib.hid hgl
      have HFB := Lib.hid hfb
      have hlb : (ofS ns.length k).length ≤ 1000 := by omega
      have hbb : bs.length ≤ 1000 := by omega
      have b0 : World.cell? _ ⟨_, 0, none⟩ = some (.slice A ns.length c) := blk_cell H0.out 0 rfl
      have b1 : World.cell? _ ⟨_, 1, none⟩ = some (.slice B ss.length d) := blk_cell H0.out 1 rfl
      have r0 : World.cell? _ ⟨_, 0, none⟩ = some (.int .i64 p) := blk_cell H1.out 0 rfl
      have r1 : World.cell? _ ⟨_, 1, none⟩ = some (.int .i64 q) := blk_cell H1.out 1 rfl
      clear hgl hgb hfb hbl hll
      by_cases k1 : gb < gl
      · have t1 : decide (gb < gl) = true := decide_eq_true k1
        have HN : Hid (deK ns.length (tgV ns ss p q) (k + 1) = ofS ns.length k) := Lib.hid (by rw [HSTEP.out]; unfold stepC; rw [HGL.out, HG2.out, if_pos (.inl k1)])
        clear k1
        go_wp2_with (go_at_call 80; with_reducible refine (of_any ns ss A B c d k _ (by omega) (by omega)).mono ?_; rintro e w2 ⟨L', l', ls, rfl, hO2, hB2, hls⟩; have HL := Lib.hid hO2; have HBS := Lib.hid (HBS.out.below hB2);  have H0 := Lib.hid ((hB2.block _ z0).trans H0.out); have z0 := Nat.lt_of_lt_of_le z0 hB2.size; have b0 : World.cell? _ ⟨_, 0, none⟩ = some (.slice A ns.length c) := blk_cell H0.out 0 rfl; have b1 : World.cell? _ ⟨_, 1, none⟩ = some (.slice B ss.length d) := blk_cell H0.out 1 rfl; have H1 := Lib.hid ((hB2.block _ z1).trans H1.out); have z1 := Nat.lt_of_lt_of_le z1 hB2.size; have r0 : World.cell? _ ⟨_, 0, none⟩ = some (.int .i64 p) := blk_cell H1.out 0 rfl; have r1 : World.cell? _ ⟨_, 1, none⟩ = some (.int .i64 q) := blk_cell H1.out 1 rfl; have HW : Hid (Below w.heap.size w _) := Lib.hid (below_step (by first | exact HW.out | exact Below.drew HW.out | exact below_drewN HW.out _) hB2); have HR0 := Lib.hid (below_step (by first | exact HR0.out | exact Below.drew HR0.out | exact below_drewN HR0.out _) hB2); have hls' := hls.out; subst hls'; clear hO2 hB2 hls)
        go_region_held3 (fun W => W.cell? ⟨w.heap.size, 0, none⟩ = some (.slice A ns.length c) ∧ W.cell? ⟨w.heap.size, 1, none⟩ = some (.slice B ss.length d) ∧ W.cell? ⟨w.heap.size + 1, 0, none⟩ = some (.int .i64 p) ∧ W.cell? ⟨w.heap.size + 1, 1, none⟩ = some (.int .i64 q))
          ((first | with_reducible exact ⟨b0, b1, r0, r1⟩ | (refine ⟨?_, ?_, ?_, ?_⟩ <;> (repeat (first | with_reducible refine (cell_set1 _ z0).trans ?_ | with_reducible refine (cell_drew1 _ _).trans ?_)) <;> first | with_reducible exact b0 | with_reducible exact b1 | with_reducible exact r0 | with_reducible exact r1)))
          ((first
    | (go_at_call 86; with_reducible refine (refgain_any ns ss A B c d ho p q hp (ofS ns.length k) L' l' _ (HA.out.below (by first | exact HW.out | exact Below.drew HW.out | exact below_drewN HW.out _)) (HB.out.below (by first | exact HW.out | exact Below.drew HW.out | exact below_drewN HW.out _)) (Out.ints (by first | exact HL.out | exact HL.out.below (Below.drew (Below.refl _ _)) | exact HL.out.below (below_drewN (Below.refl _ _) _))) HLC0.out).mono ?_; rintro e w3 ⟨rfl, hB3⟩; rw [HGL.out]; have HL := Lib.hid (Out.below (by first | exact HL.out | exact HL.out.below (Below.drew (Below.refl _ _)) | exact HL.out.below (below_drewN (Below.refl _ _) _)) hB3); have HBS := Lib.hid (Out.below (by first | exact HBS.out | exact HBS.out.below (Below.drew (Below.refl _ _)) | exact HBS.out.below (below_drewN (Below.refl _ _) _)) hB3); have H0 := Lib.hid ((hB3.block _ z0).trans H0.out); have z0 := Nat.lt_of_lt_of_le z0 hB3.size; have b0 : World.cell? _ ⟨_, 0, none⟩ = some (.slice A ns.length c) := blk_cell H0.out 0 rfl; have b1 : World.cell? _ ⟨_, 1, none⟩ = some (.slice B ss.length d) := blk_cell H0.out 1 rfl; have H1 := Lib.hid ((hB3.block _ z1).trans H1.out); have z1 := Nat.lt_of_lt_of_le z1 hB3.size; have r0 : World.cell? _ ⟨_, 0, none⟩ = some (.int .i64 p) := blk_cell H1.out 0 rfl; have r1 : World.cell? _ ⟨_, 1, none⟩ = some (.int .i64 q) := blk_cell H1.out 1 rfl; have HW : Hid (Below w.heap.size w _) := Lib.hid (below_step (by first | exact HW.out | exact Below.drew HW.out | exact below_drewN HW.out _) hB3); have HR0 := Lib.hid (below_step (by first | exact HR0.out | exact Below.drew HR0.out | exact below_drewN HR0.out _) hB3); clear hB3)
    | (go_at_call 86; with_reducible refine (refgain_any ns ss A B c d ho p q hp bs Ab cb _ (HA.out.below (by first | exact HW.out | exact Below.drew HW.out | exact below_drewN HW.out _)) (HB.out.below (by first | exact HW.out | exact Below.drew HW.out | exact below_drewN HW.out _)) (Out.ints (by first | exact HBS.out | exact HBS.out.below (Below.drew (Below.refl _ _)) | exact HBS.out.below (below_drewN (Below.refl _ _) _))) HBC.out).mono ?_; rintro e w4 ⟨rfl, hB4⟩; rw [HG2.out]; have HL := Lib.hid (Out.below (by first | exact HL.out | exact HL.out.below (Below.drew (Below.refl _ _)) | exact HL.out.below (below_drewN (Below.refl _ _) _)) hB4); have HBS := Lib.hid (Out.below (by first | exact HBS.out | exact HBS.out.below (Below.drew (Below.refl _ _)) | exact HBS.out.below (below_drewN (Below.refl _ _) _)) hB4); have H0 := Lib.hid ((hB4.block _ z0).trans H0.out); have z0 := Nat.lt_of_lt_of_le z0 hB4.size; have b0 : World.cell? _ ⟨_, 0, none⟩ = some (.slice A ns.length c) := blk_cell H0.out 0 rfl; have b1 : World.cell? _ ⟨_, 1, none⟩ = some (.slice B ss.length d) := blk_cell H0.out 1 rfl; have H1 := Lib.hid ((hB4.block _ z1).trans H1.out); have z1 := Nat.lt_of_lt_of_le z1 hB4.size; have r0 : World.cell? _ ⟨_, 0, none⟩ = some (.int .i64 p) := blk_cell H1.out 0 rfl; have r1 : World.cell? _ ⟨_, 1, none⟩ = some (.int .i64 q) := blk_cell H1.out 1 rfl; have HW : Hid (Below w.heap.size w _) := Lib.hid (below_step (by first | exact HW.out | exact Below.drew HW.out | exact below_drewN HW.out _) hB4); have HR0 := Lib.hid (below_step (by first | exact HR0.out | exact Below.drew HR0.out | exact below_drewN HR0.out _) hB4); clear hB4)))
        all_goals
          go_wp2
          go_roundw
          case rel => exact ⟨k + 1, by omega, by go_num, ⟨L', l', _, rfl, (by first | exact HL | exact Lib.hid ⟨HL.out.ints.drewN _, HL.out.le, HL.out.cap⟩), Lib.hid HN.out.symm⟩, (by first | exact HR0.out | exact Below.drew HR0.out | exact below_drewN HR0.out _)⟩
          case measure => simp [intOf]; omega
      · have t1 : decide (gb < gl) = false := decide_eq_false k1
        by_cases k2 : gl = gb
        · have t2 : (gl == gb) = true := by simp [k2]
          have HC2 := Lib.hid k2
          have HC1 := Lib.hid k1
          clear k1 k2
          cases fb
          · have HN : Hid (deK ns.length (tgV ns ss p q) (k + 1) = bs) := Lib.hid (by rw [HSTEP.out]; unfold stepC; rw [HGL.out, HG2.out, HFB.out, if_neg (by have := HC1.out; simp; omega)])
            go_wp2_with (go_at_call 80; with_reducible refine (of_any ns ss A B c d k _ (by omega) (by omega)).mono ?_; rintro e w2 ⟨L', l', ls, rfl, hO2, hB2, hls⟩; have HL := Lib.hid hO2; have HBS := Lib.hid (HBS.out.below hB2);  have H0 := Lib.hid ((hB2.block _ z0).trans H0.out); have z0 := Nat.lt_of_lt_of_le z0 hB2.size; have b0 : World.cell? _ ⟨_, 0, none⟩ = some (.slice A ns.length c) := blk_cell H0.out 0 rfl; have b1 : World.cell? _ ⟨_, 1, none⟩ = some (.slice B ss.length d) := blk_cell H0.out 1 rfl; have H1 := Lib.hid ((hB2.block _ z1).trans H1.out); have z1 := Nat.lt_of_lt_of_le z1 hB2.size; have r0 : World.cell? _ ⟨_, 0, none⟩ = some (.int .i64 p) := blk_cell H1.out 0 rfl; have r1 : World.cell? _ ⟨_, 1, none⟩ = some (.int .i64 q) := blk_cell H1.out 1 rfl; have HW : Hid (Below w.heap.size w _) := Lib.hid (below_step (by first | exact HW.out | exact Below.drew HW.out | exact below_drewN HW.out _) hB2); have HR0 := Lib.hid (below_step (by first | exact HR0.out | exact Below.drew HR0.out | exact below_drewN HR0.out _) hB2); have hls' := hls.out; subst hls'; clear hO2 hB2 hls)
            go_region_held3 (fun W => W.cell? ⟨w.heap.size, 0, none⟩ = some (.slice A ns.length c) ∧ W.cell? ⟨w.heap.size, 1, none⟩ = some (.slice B ss.length d) ∧ W.cell? ⟨w.heap.size + 1, 0, none⟩ = some (.int .i64 p) ∧ W.cell? ⟨w.heap.size + 1, 1, none⟩ = some (.int .i64 q))
              ((first | with_reducible exact ⟨b0, b1, r0, r1⟩ | (refine ⟨?_, ?_, ?_, ?_⟩ <;> (repeat (first | with_reducible refine (cell_set1 _ z0).trans ?_ | with_reducible refine (cell_drew1 _ _).trans ?_)) <;> first | with_reducible exact b0 | with_reducible exact b1 | with_reducible exact r0 | with_reducible exact r1)))
              ((first
    | (go_at_call 86; with_reducible refine (refgain_any ns ss A B c d ho p q hp (ofS ns.length k) L' l' _ (HA.out.below (by first | exact HW.out | exact Below.drew HW.out | exact below_drewN HW.out _)) (HB.out.below (by first | exact HW.out | exact Below.drew HW.out | exact below_drewN HW.out _)) (Out.ints (by first | exact HL.out | exact HL.out.below (Below.drew (Below.refl _ _)) | exact HL.out.below (below_drewN (Below.refl _ _) _))) HLC0.out).mono ?_; rintro e w3 ⟨rfl, hB3⟩; rw [HGL.out]; have HL := Lib.hid (Out.below (by first | exact HL.out | exact HL.out.below (Below.drew (Below.refl _ _)) | exact HL.out.below (below_drewN (Below.refl _ _) _)) hB3); have HBS := Lib.hid (Out.below (by first | exact HBS.out | exact HBS.out.below (Below.drew (Below.refl _ _)) | exact HBS.out.below (below_drewN (Below.refl _ _) _)) hB3); have H0 := Lib.hid ((hB3.block _ z0).trans H0.out); have z0 := Nat.lt_of_lt_of_le z0 hB3.size; have b0 : World.cell? _ ⟨_, 0, none⟩ = some (.slice A ns.length c) := blk_cell H0.out 0 rfl; have b1 : World.cell? _ ⟨_, 1, none⟩ = some (.slice B ss.length d) := blk_cell H0.out 1 rfl; have H1 := Lib.hid ((hB3.block _ z1).trans H1.out); have z1 := Nat.lt_of_lt_of_le z1 hB3.size; have r0 : World.cell? _ ⟨_, 0, none⟩ = some (.int .i64 p) := blk_cell H1.out 0 rfl; have r1 : World.cell? _ ⟨_, 1, none⟩ = some (.int .i64 q) := blk_cell H1.out 1 rfl; have HW : Hid (Below w.heap.size w _) := Lib.hid (below_step (by first | exact HW.out | exact Below.drew HW.out | exact below_drewN HW.out _) hB3); have HR0 := Lib.hid (below_step (by first | exact HR0.out | exact Below.drew HR0.out | exact below_drewN HR0.out _) hB3); clear hB3)
    | (go_at_call 86; with_reducible refine (refgain_any ns ss A B c d ho p q hp bs Ab cb _ (HA.out.below (by first | exact HW.out | exact Below.drew HW.out | exact below_drewN HW.out _)) (HB.out.below (by first | exact HW.out | exact Below.drew HW.out | exact below_drewN HW.out _)) (Out.ints (by first | exact HBS.out | exact HBS.out.below (Below.drew (Below.refl _ _)) | exact HBS.out.below (below_drewN (Below.refl _ _) _))) HBC.out).mono ?_; rintro e w4 ⟨rfl, hB4⟩; rw [HG2.out]; have HL := Lib.hid (Out.below (by first | exact HL.out | exact HL.out.below (Below.drew (Below.refl _ _)) | exact HL.out.below (below_drewN (Below.refl _ _) _)) hB4); have HBS := Lib.hid (Out.below (by first | exact HBS.out | exact HBS.out.below (Below.drew (Below.refl _ _)) | exact HBS.out.below (below_drewN (Below.refl _ _) _)) hB4); have H0 := Lib.hid ((hB4.block _ z0).trans H0.out); have z0 := Nat.lt_of_lt_of_le z0 hB4.size; have b0 : World.cell? _ ⟨_, 0, none⟩ = some (.slice A ns.length c) := blk_cell H0.out 0 rfl; have b1 : World.cell? _ ⟨_, 1, none⟩ = some (.slice B ss.length d) := blk_cell H0.out 1 rfl; have H1 := Lib.hid ((hB4.block _ z1).trans H1.out); have z1 := Nat.lt_of_lt_of_le z1 hB4.size; have r0 : World.cell? _ ⟨_, 0, none⟩ = some (.int .i64 p) := blk_cell H1.out 0 rfl; have r1 : World.cell? _ ⟨_, 1, none⟩ = some (.int .i64 q) := blk_cell H1.out 1 rfl; have HW : Hid (Below w.heap.size w _) := Lib.hid (below_step (by first | exact HW.out | exact Below.drew HW.out | exact below_drewN HW.out _) hB4); have HR0 := Lib.hid (below_step (by first | exact HR0.out | exact Below.drew HR0.out | exact below_drewN HR0.out _) hB4); clear hB4)))
            all_goals
              go_wp2_with (go_at_call 81; with_reducible refine (first_any (ofS ns.length k) bs L' Ab l' cb _ (by first | exact HL.out.ints) (by first | exact HBS.out.ints) hlb hbb).mono ?_; rintro e w5 ⟨rfl, j5, rfl⟩; rw [HFB.out])
              go_roundw
              case rel => exact ⟨k + 1, by omega, by go_num, ⟨Ab, cb, bs, rfl, (by first | exact HBS | exact Lib.hid ⟨HBS.out.ints.drewN _, HBS.out.le, HBS.out.cap⟩), Lib.hid HN.out.symm⟩, (by first | exact HR0.out | exact Below.drew HR0.out | exact below_drewN HR0.out _)⟩
              case measure => simp [intOf]; omega
          · have HN : Hid (deK ns.length (tgV ns ss p q) (k + 1) = ofS ns.length k) := Lib.hid (by rw [HSTEP.out]; unfold stepC; rw [HGL.out, HG2.out, HFB.out, if_pos (.inr ⟨HC2.out, rfl⟩)])
            go_wp2_with (go_at_call 80; with_reducible refine (of_any ns ss A B c d k _ (by omega) (by omega)).mono ?_; rintro e w2 ⟨L', l', ls, rfl, hO2, hB2, hls⟩; have HL := Lib.hid hO2; have HBS := Lib.hid (HBS.out.below hB2);  have H0 := Lib.hid ((hB2.block _ z0).trans H0.out); have z0 := Nat.lt_of_lt_of_le z0 hB2.size; have b0 : World.cell? _ ⟨_, 0, none⟩ = some (.slice A ns.length c) := blk_cell H0.out 0 rfl; have b1 : World.cell? _ ⟨_, 1, none⟩ = some (.slice B ss.length d) := blk_cell H0.out 1 rfl; have H1 := Lib.hid ((hB2.block _ z1).trans H1.out); have z1 := Nat.lt_of_lt_of_le z1 hB2.size; have r0 : World.cell? _ ⟨_, 0, none⟩ = some (.int .i64 p) := blk_cell H1.out 0 rfl; have r1 : World.cell? _ ⟨_, 1, none⟩ = some (.int .i64 q) := blk_cell H1.out 1 rfl; have HW : Hid (Below w.heap.size w _) := Lib.hid (below_step (by first | exact HW.out | exact Below.drew HW.out | exact below_drewN HW.out _) hB2); have HR0 := Lib.hid (below_step (by first | exact HR0.out | exact Below.drew HR0.out | exact below_drewN HR0.out _) hB2); have hls' := hls.out; subst hls'; clear hO2 hB2 hls)
            go_region_held3 (fun W => W.cell? ⟨w.heap.size, 0, none⟩ = some (.slice A ns.length c) ∧ W.cell? ⟨w.heap.size, 1, none⟩ = some (.slice B ss.length d) ∧ W.cell? ⟨w.heap.size + 1, 0, none⟩ = some (.int .i64 p) ∧ W.cell? ⟨w.heap.size + 1, 1, none⟩ = some (.int .i64 q))
              ((first | with_reducible exact ⟨b0, b1, r0, r1⟩ | (refine ⟨?_, ?_, ?_, ?_⟩ <;> (repeat (first | with_reducible refine (cell_set1 _ z0).trans ?_ | with_reducible refine (cell_drew1 _ _).trans ?_)) <;> first | with_reducible exact b0 | with_reducible exact b1 | with_reducible exact r0 | with_reducible exact r1)))
              ((first
    | (go_at_call 86; with_reducible refine (refgain_any ns ss A B c d ho p q hp (ofS ns.length k) L' l' _ (HA.out.below (by first | exact HW.out | exact Below.drew HW.out | exact below_drewN HW.out _)) (HB.out.below (by first | exact HW.out | exact Below.drew HW.out | exact below_drewN HW.out _)) (Out.ints (by first | exact HL.out | exact HL.out.below (Below.drew (Below.refl _ _)) | exact HL.out.below (below_drewN (Below.refl _ _) _))) HLC0.out).mono ?_; rintro e w3 ⟨rfl, hB3⟩; rw [HGL.out]; have HL := Lib.hid (Out.below (by first | exact HL.out | exact HL.out.below (Below.drew (Below.refl _ _)) | exact HL.out.below (below_drewN (Below.refl _ _) _)) hB3); have HBS := Lib.hid (Out.below (by first | exact HBS.out | exact HBS.out.below (Below.drew (Below.refl _ _)) | exact HBS.out.below (below_drewN (Below.refl _ _) _)) hB3); have H0 := Lib.hid ((hB3.block _ z0).trans H0.out); have z0 := Nat.lt_of_lt_of_le z0 hB3.size; have b0 : World.cell? _ ⟨_, 0, none⟩ = some (.slice A ns.length c) := blk_cell H0.out 0 rfl; have b1 : World.cell? _ ⟨_, 1, none⟩ = some (.slice B ss.length d) := blk_cell H0.out 1 rfl; have H1 := Lib.hid ((hB3.block _ z1).trans H1.out); have z1 := Nat.lt_of_lt_of_le z1 hB3.size; have r0 : World.cell? _ ⟨_, 0, none⟩ = some (.int .i64 p) := blk_cell H1.out 0 rfl; have r1 : World.cell? _ ⟨_, 1, none⟩ = some (.int .i64 q) := blk_cell H1.out 1 rfl; have HW : Hid (Below w.heap.size w _) := Lib.hid (below_step (by first | exact HW.out | exact Below.drew HW.out | exact below_drewN HW.out _) hB3); have HR0 := Lib.hid (below_step (by first | exact HR0.out | exact Below.drew HR0.out | exact below_drewN HR0.out _) hB3); clear hB3)
    | (go_at_call 86; with_reducible refine (refgain_any ns ss A B c d ho p q hp bs Ab cb _ (HA.out.below (by first | exact HW.out | exact Below.drew HW.out | exact below_drewN HW.out _)) (HB.out.below (by first | exact HW.out | exact Below.drew HW.out | exact below_drewN HW.out _)) (Out.ints (by first | exact HBS.out | exact HBS.out.below (Below.drew (Below.refl _ _)) | exact HBS.out.below (below_drewN (Below.refl _ _) _))) HBC.out).mono ?_; rintro e w4 ⟨rfl, hB4⟩; rw [HG2.out]; have HL := Lib.hid (Out.below (by first | exact HL.out | exact HL.out.below (Below.drew (Below.refl _ _)) | exact HL.out.below (below_drewN (Below.refl _ _) _)) hB4); have HBS := Lib.hid (Out.below (by first | exact HBS.out | exact HBS.out.below (Below.drew (Below.refl _ _)) | exact HBS.out.below (below_drewN (Below.refl _ _) _)) hB4); have H0 := Lib.hid ((hB4.block _ z0).trans H0.out); have z0 := Nat.lt_of_lt_of_le z0 hB4.size; have b0 : World.cell? _ ⟨_, 0, none⟩ = some (.slice A ns.length c) := blk_cell H0.out 0 rfl; have b1 : World.cell? _ ⟨_, 1, none⟩ = some (.slice B ss.length d) := blk_cell H0.out 1 rfl; have H1 := Lib.hid ((hB4.block _ z1).trans H1.out); have z1 := Nat.lt_of_lt_of_le z1 hB4.size; have r0 : World.cell? _ ⟨_, 0, none⟩ = some (.int .i64 p) := blk_cell H1.out 0 rfl; have r1 : World.cell? _ ⟨_, 1, none⟩ = some (.int .i64 q) := blk_cell H1.out 1 rfl; have HW : Hid (Below w.heap.size w _) := Lib.hid (below_step (by first | exact HW.out | exact Below.drew HW.out | exact below_drewN HW.out _) hB4); have HR0 := Lib.hid (below_step (by first | exact HR0.out | exact Below.drew HR0.out | exact below_drewN HR0.out _) hB4); clear hB4)))
            all_goals
              go_wp2_with (go_at_call 81; with_reducible refine (first_any (ofS ns.length k) bs L' Ab l' cb _ (by first | exact HL.out.ints) (by first | exact HBS.out.ints) hlb hbb).mono ?_; rintro e w5 ⟨rfl, j5, rfl⟩; rw [HFB.out])
              go_roundw
              case rel => exact ⟨k + 1, by omega, by go_num, ⟨L', l', _, rfl, (by first | exact HL | exact Lib.hid ⟨HL.out.ints.drewN _, HL.out.le, HL.out.cap⟩), Lib.hid HN.out.symm⟩, (by first | exact HR0.out | exact Below.drew HR0.out | exact below_drewN HR0.out _)⟩
              case measure => simp [intOf]; omega
        · have t2 : (gl == gb) = false := by simpa using k2
          have HN : Hid (deK ns.length (tgV ns ss p q) (k + 1) = bs) := Lib.hid (by rw [HSTEP.out]; unfold stepC; rw [HGL.out, HG2.out, if_neg (by simp; omega)])
          clear k1 k2
          go_wp2_with (go_at_call 80; with_reducible refine (of_any ns ss A B c d k _ (by omega) (by omega)).mono ?_; rintro e w2 ⟨L', l', ls, rfl, hO2, hB2, hls⟩; have HL := Lib.hid hO2; have HBS := Lib.hid (HBS.out.below hB2);  have H0 := Lib.hid ((hB2.block _ z0).trans H0.out); have z0 := Nat.lt_of_lt_of_le z0 hB2.size; have b0 : World.cell? _ ⟨_, 0, none⟩ = some (.slice A ns.length c) := blk_cell H0.out 0 rfl; have b1 : World.cell? _ ⟨_, 1, none⟩ = some (.slice B ss.length d) := blk_cell H0.out 1 rfl; have H1 := Lib.hid ((hB2.block _ z1).trans H1.out); have z1 := Nat.lt_of_lt_of_le z1 hB2.size; have r0 : World.cell? _ ⟨_, 0, none⟩ = some (.int .i64 p) := blk_cell H1.out 0 rfl; have r1 : World.cell? _ ⟨_, 1, none⟩ = some (.int .i64 q) := blk_cell H1.out 1 rfl; have HW : Hid (Below w.heap.size w _) := Lib.hid (below_step (by first | exact HW.out | exact Below.drew HW.out | exact below_drewN HW.out _) hB2); have HR0 := Lib.hid (below_step (by first | exact HR0.out | exact Below.drew HR0.out | exact below_drewN HR0.out _) hB2); have hls' := hls.out; subst hls'; clear hO2 hB2 hls)
          go_region_held3 (fun W => W.cell? ⟨w.heap.size, 0, none⟩ = some (.slice A ns.length c) ∧ W.cell? ⟨w.heap.size, 1, none⟩ = some (.slice B ss.length d) ∧ W.cell? ⟨w.heap.size + 1, 0, none⟩ = some (.int .i64 p) ∧ W.cell? ⟨w.heap.size + 1, 1, none⟩ = some (.int .i64 q))
            ((first | with_reducible exact ⟨b0, b1, r0, r1⟩ | (refine ⟨?_, ?_, ?_, ?_⟩ <;> (repeat (first | with_reducible refine (cell_set1 _ z0).trans ?_ | with_reducible refine (cell_drew1 _ _).trans ?_)) <;> first | with_reducible exact b0 | with_reducible exact b1 | with_reducible exact r0 | with_reducible exact r1)))
            ((first
    | (go_at_call 86; with_reducible refine (refgain_any ns ss A B c d ho p q hp (ofS ns.length k) L' l' _ (HA.out.below (by first | exact HW.out | exact Below.drew HW.out | exact below_drewN HW.out _)) (HB.out.below (by first | exact HW.out | exact Below.drew HW.out | exact below_drewN HW.out _)) (Out.ints (by first | exact HL.out | exact HL.out.below (Below.drew (Below.refl _ _)) | exact HL.out.below (below_drewN (Below.refl _ _) _))) HLC0.out).mono ?_; rintro e w3 ⟨rfl, hB3⟩; rw [HGL.out]; have HL := Lib.hid (Out.below (by first | exact HL.out | exact HL.out.below (Below.drew (Below.refl _ _)) | exact HL.out.below (below_drewN (Below.refl _ _) _)) hB3); have HBS := Lib.hid (Out.below (by first | exact HBS.out | exact HBS.out.below (Below.drew (Below.refl _ _)) | exact HBS.out.below (below_drewN (Below.refl _ _) _)) hB3); have H0 := Lib.hid ((hB3.block _ z0).trans H0.out); have z0 := Nat.lt_of_lt_of_le z0 hB3.size; have b0 : World.cell? _ ⟨_, 0, none⟩ = some (.slice A ns.length c) := blk_cell H0.out 0 rfl; have b1 : World.cell? _ ⟨_, 1, none⟩ = some (.slice B ss.length d) := blk_cell H0.out 1 rfl; have H1 := Lib.hid ((hB3.block _ z1).trans H1.out); have z1 := Nat.lt_of_lt_of_le z1 hB3.size; have r0 : World.cell? _ ⟨_, 0, none⟩ = some (.int .i64 p) := blk_cell H1.out 0 rfl; have r1 : World.cell? _ ⟨_, 1, none⟩ = some (.int .i64 q) := blk_cell H1.out 1 rfl; have HW : Hid (Below w.heap.size w _) := Lib.hid (below_step (by first | exact HW.out | exact Below.drew HW.out | exact below_drewN HW.out _) hB3); have HR0 := Lib.hid (below_step (by first | exact HR0.out | exact Below.drew HR0.out | exact below_drewN HR0.out _) hB3); clear hB3)
    | (go_at_call 86; with_reducible refine (refgain_any ns ss A B c d ho p q hp bs Ab cb _ (HA.out.below (by first | exact HW.out | exact Below.drew HW.out | exact below_drewN HW.out _)) (HB.out.below (by first | exact HW.out | exact Below.drew HW.out | exact below_drewN HW.out _)) (Out.ints (by first | exact HBS.out | exact HBS.out.below (Below.drew (Below.refl _ _)) | exact HBS.out.below (below_drewN (Below.refl _ _) _))) HBC.out).mono ?_; rintro e w4 ⟨rfl, hB4⟩; rw [HG2.out]; have HL := Lib.hid (Out.below (by first | exact HL.out | exact HL.out.below (Below.drew (Below.refl _ _)) | exact HL.out.below (below_drewN (Below.refl _ _) _)) hB4); have HBS := Lib.hid (Out.below (by first | exact HBS.out | exact HBS.out.below (Below.drew (Below.refl _ _)) | exact HBS.out.below (below_drewN (Below.refl _ _) _)) hB4); have H0 := Lib.hid ((hB4.block _ z0).trans H0.out); have z0 := Nat.lt_of_lt_of_le z0 hB4.size; have b0 : World.cell? _ ⟨_, 0, none⟩ = some (.slice A ns.length c) := blk_cell H0.out 0 rfl; have b1 : World.cell? _ ⟨_, 1, none⟩ = some (.slice B ss.length d) := blk_cell H0.out 1 rfl; have H1 := Lib.hid ((hB4.block _ z1).trans H1.out); have z1 := Nat.lt_of_lt_of_le z1 hB4.size; have r0 : World.cell? _ ⟨_, 0, none⟩ = some (.int .i64 p) := blk_cell H1.out 0 rfl; have r1 : World.cell? _ ⟨_, 1, none⟩ = some (.int .i64 q) := blk_cell H1.out 1 rfl; have HW : Hid (Below w.heap.size w _) := Lib.hid (below_step (by first | exact HW.out | exact Below.drew HW.out | exact below_drewN HW.out _) hB4); have HR0 := Lib.hid (below_step (by first | exact HR0.out | exact Below.drew HR0.out | exact below_drewN HR0.out _) hB4); clear hB4)))
          all_goals
            go_wp2
            go_roundw
            case rel => exact ⟨k + 1, by omega, by go_num, ⟨Ab, cb, bs, rfl, (by first | exact HBS | exact Lib.hid ⟨HBS.out.ints.drewN _, HBS.out.le, HBS.out.cap⟩), Lib.hid HN.out.symm⟩, (by first | exact HR0.out | exact Below.drew HR0.out | exact below_drewN HR0.out _)⟩
            case measure => simp [intOf]; omega
    · obtain rfl : k = M := by omega
      have he : bs = deL ns ss p q := by rw [hbs.out, HALL.out]
      subst he
      go_wp2
      go_ret
      exact ⟨Ab, cb, rfl, HBS.out, HW.out⟩
end Go.Proofs.Ytolpbbabmcpdkaa
