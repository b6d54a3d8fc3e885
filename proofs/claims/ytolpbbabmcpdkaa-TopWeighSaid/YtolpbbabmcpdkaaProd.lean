/-
  Contract: products (weigh).
-/
import Derived.Test.YtolpbbabmcpdkaaSort
import Derived.Test.YtolpbbabmcpdkaaJoined
import Derived.Test.YtolpbbabmcpdkaaArea
set_option linter.unusedVariables false
set_option linter.unusedSimpArgs false
namespace Go.Proofs.Ytolpbbabmcpdkaa
open Go.RowKit Go.Shelf

def gcF (L : List Int) : Int := L.foldl (fun g z => (Int.gcd g z : Int)) 0
theorem gcF_snoc (L : List Int) (z : Int) : gcF (L ++ [z]) = (Int.gcd (gcF L) z : Int) := by simp [gcF]
def pdL (xs ys : List Int) : List Int := xs.flatMap (fun x => ys.map (fun y => x * y))
def qdL (xs ys : List Int) : List Int := (pdL xs ys).map (fun z => z / gcF (pdL xs ys))
theorem pd_snoc {xs ys : List Int} {k : Nat} {x : Int} (h : xs[k]? = some x) : pdL (xs.take (k + 1)) ys = pdL (xs.take k) ys ++ ys.map (fun y => x * y) := by
  rw [take_snoc h]; simp [pdL]
theorem row_snoc {ys : List Int} {k : Nat} {x y : Int} (h : ys[k]? = some y) : (ys.take (k + 1)).map (fun y => x * y) = (ys.take k).map (fun y => x * y) ++ [x * y] := by
  rw [take_snoc h]; simp
theorem pd_len (xs ys : List Int) : (pdL xs ys).length = xs.length * ys.length := by
  unfold pdL
  rw [List.length_flatMap]
  simp
  induction xs with
  | nil => simp
  | cons a t ih => simp [ih, Nat.add_mul]; omega
theorem gcF_nn (L : List Int) : 0 ≤ gcF L := by
  unfold gcF
  rw [← List.reverse_reverse L, List.foldl_reverse]
  cases L.reverse with
  | nil => simp
  | cons a t => simp only [List.foldr_cons]; exact Int.natCast_nonneg _
theorem gcF_dvd : ∀ (L : List Int) (g : Int), (L.foldl (fun g z => (Int.gcd g z : Int)) g ∣ g) ∧ ∀ z ∈ L, L.foldl (fun g z => (Int.gcd g z : Int)) g ∣ z
  | [], g => ⟨Int.dvd_refl _, by simp⟩
  | a :: t, g => by
    have h := gcF_dvd t (Int.gcd g a : Int)
    simp only [List.foldl_cons]
    refine ⟨Int.dvd_trans h.1 (Int.gcd_dvd_left g a), fun z hz => ?_⟩
    rcases List.mem_cons.1 hz with rfl | hz
    · exact Int.dvd_trans h.1 (Int.gcd_dvd_right g z)
    · exact h.2 z hz
theorem gcF_mem {L : List Int} {z : Int} (h : z ∈ L) : gcF L ∣ z := (gcF_dvd L 0).2 z h
theorem gcF_pos {L : List Int} {z : Int} (h : z ∈ L) (hz : 0 < z) : 0 < gcF L := by
  have h0 := gcF_nn L
  have h1 := gcF_mem h
  rcases Int.lt_or_eq_of_le h0 with h2 | h2
  · exact h2
  · rw [← h2] at h1
    have := Int.zero_dvd.1 h1
    omega
theorem gcF_le {L : List Int} {C : Int} (hC : 0 ≤ C) (h : ∀ z ∈ L, 0 ≤ z ∧ z ≤ C) : gcF L ≤ C := by
  by_cases hp : ∃ z ∈ L, 0 < z
  · obtain ⟨z, hz, h1⟩ := hp
    have := Int.le_of_dvd h1 (gcF_mem hz)
    have := (h z hz).2
    omega
  · have hz : ∀ z ∈ L, z = 0 := fun z hz => by
      have := (h z hz).1
      rcases Int.lt_or_eq_of_le this with h2 | h2
      · exact absurd ⟨z, hz, h2⟩ hp
      · exact h2.symm
    have : ∀ (M : List Int), (∀ z ∈ M, z = 0) → gcF M = 0 := by
      intro M
      unfold gcF
      induction M with
      | nil => intro _; rfl
      | cons a t ih =>
        intro hm
        rw [List.foldl_cons, hm a (by simp)]
        exact ih (fun z hz => hm z (List.mem_cons_of_mem _ hz))
    rw [this L hz]; exact hC
theorem pd_bd {xs ys : List Int} (hx : ∀ z ∈ xs, 0 ≤ z ∧ z ≤ 1000) (hy : ∀ z ∈ ys, 0 ≤ z ∧ z ≤ 1000) : ∀ z ∈ pdL xs ys, 0 ≤ z ∧ z ≤ 1000000 := by
  intro z hz
  obtain ⟨x, hx1, hz⟩ := List.mem_flatMap.1 hz
  obtain ⟨y, hy1, rfl⟩ := List.mem_map.1 hz
  have := mul_bd (hx x hx1).1 (hx x hx1).2 (hy y hy1).1 (hy y hy1).2
  omega
theorem sum_pos {xs : List Int} (hx : ∀ z ∈ xs, 0 ≤ z) (h : 0 < xs.sum) : ∃ z ∈ xs, 0 < z := by
  induction xs with
  | nil => simp at h
  | cons a t ih =>
    by_cases ha : 0 < a
    · exact ⟨a, by simp, ha⟩
    · have := hx a (by simp)
      obtain ⟨z, hz, h1⟩ := ih (fun z hz => hx z (List.mem_cons_of_mem _ hz)) (by simp only [List.sum_cons] at h; omega)
      exact ⟨z, List.mem_cons_of_mem _ hz, h1⟩
theorem pd_gpos {xs ys : List Int} (hx : ∀ z ∈ xs, 0 ≤ z ∧ z ≤ 1000) (hy : ∀ z ∈ ys, 0 ≤ z ∧ z ≤ 1000) (h1 : 0 < xs.sum) (h2 : 0 < ys.sum) : 0 < gcF (pdL xs ys) := by
  obtain ⟨x, hx1, hx2⟩ := sum_pos (fun z hz => (hx z hz).1) h1
  obtain ⟨y, hy1, hy2⟩ := sum_pos (fun z hz => (hy z hz).1) h2
  exact gcF_pos (List.mem_flatMap.2 ⟨x, hx1, List.mem_map.2 ⟨y, hy1, rfl⟩⟩) (Int.mul_pos hx2 hy2)
/-- The first k divided. -/
def dvK (P : List Int) (g : Int) (k : Nat) : List Int := (P.take k).map (fun z => z / g) ++ P.drop k
theorem dvK_len (P : List Int) (g : Int) (k : Nat) : (dvK P g k).length = P.length := by simp [dvK]; omega
theorem dvK_get {P : List Int} {g : Int} {k : Nat} {z : Int} (h : P[k]? = some z) : (dvK P g k)[k]? = some z := by
  have hk : k < P.length := by
    rcases Nat.lt_or_ge k P.length with q | q
    · exact q
    · rw [List.getElem?_eq_none q] at h; cases h
  unfold dvK
  rw [List.getElem?_append_right (by simp; omega), List.getElem?_drop]
  simp
  rw [show min k P.length = k by omega, Nat.sub_self, Nat.add_zero]
  exact h
theorem dvK_set {P : List Int} {g : Int} {k : Nat} {z : Int} (h : P[k]? = some z) : (dvK P g k).set k (z / g) = dvK P g (k + 1) := by
  have hk : k < P.length := by
    rcases Nat.lt_or_ge k P.length with q | q
    · exact q
    · rw [List.getElem?_eq_none q] at h; cases h
  unfold dvK
  rw [drop_at h, List.set_append_right _ _ (by simp; omega), take_snoc h]
  simp
  rw [show k - min k P.length = 0 by omega]
  rfl

set_option maxRecDepth 100000 in
set_option maxHeartbeats 2000000 in
theorem products_own (xs ys : List Int) (A B : Option Addr) (c d : Nat) (w : World) (hA : Ints w A xs) (hB : Ints w B ys) (hl1 : xs.length ≤ 10) (hl2 : ys.length ≤ 10)
    (hx : ∀ z ∈ xs, 0 ≤ z ∧ z ≤ 1000) (hy : ∀ z ∈ ys, 0 ≤ z ∧ z ≤ 1000) (hs1 : 0 < xs.sum) (hs2 : 0 < ys.sum) :
    Calls Try.prog 96 #[.slice A xs.length c, .slice B ys.length d] w fun e w' => ∃ A' c', e = .returned (.slice A' (xs.length * ys.length) c') ∧ Out w' A' c' (qdL xs ys) ∧ Below w.heap.size w w' ∧ (∀ x, A' = some x → w.heap.size ≤ x.block) := by
  have HA := Lib.hid hA
  have HB := Lib.hid hB
  have HX := Lib.hid hx
  have HY := Lib.hid hy
  have HPB := Lib.hid (pd_bd hx hy)
  have HG := Lib.hid (pd_gpos hx hy hs1 hs2)
  have hmul : xs.length * ys.length ≤ 100 := Nat.mul_le_mul hl1 hl2
  have HML := Lib.hid hmul
  have HPL := Lib.hid (pd_len xs ys)
  clear hA hB hx hy hs1 hs2 hmul
  go_enter Try.func96, Try.ntmps96
  go_wp2
  go_loopw [5, 6, 14] (fun v g i wr => ∃ k : Nat, k ≤ xs.length ∧ i = .int .i64 k ∧ g = .int .i64 (gcF (pdL (xs.take k) ys)) ∧ wr.ownsRow w.heap.size 3 1 v (pdL (xs.take k) ys).length ((pdL (xs.take k) ys).map (Value.int .i64)) ∧ Below w.heap.size w wr) (fun _ _ i _ => xs.length - (intOf i).toNat)
  case atStart => exact ⟨0, Nat.zero_le _, rfl, rfl, World.ownsRow_nil _ _ _ _, Below.refl _ _⟩
  case round =>
    obtain ⟨k, hk, rfl, rfl, hown, hBr⟩ := hrel
    by_cases hlt : k < xs.length
    · obtain ⟨ad, x, rfl, hbk, hxk, hc⟩ := (HA.out.below hBr).get hlt
      have hxb := HX.out x (List.mem_of_getElem? hxk.out)
      have HPD := Lib.hid (pd_snoc (ys := ys) hxk.out)
      have HTB : Hid (∀ z ∈ pdL (xs.take k) ys, 0 ≤ z ∧ z ≤ 1000000) := Lib.hid (pd_bd (fun z hz => HX.out z (List.mem_of_mem_take hz)) HY.out)
      have HTL : Hid ((pdL (xs.take k) ys).length ≤ 100) := Lib.hid (by
        rw [pd_len, List.length_take]
        exact Nat.le_trans (Nat.mul_le_mul (Nat.le_trans (Nat.min_le_left _ _) (Nat.le_trans hk hl1)) hl2) (Nat.le_refl _))
      generalize hP : pdL (xs.take k) ys = P at *
      have hx0 : 0 ≤ x := hxb.1
      have hx1 : x ≤ 1000 := hxb.2
      have HO := Lib.hid hown
      have HBR := Lib.hid hBr
      clear hP hxb hown hBr
      go_wp2
      go_loopw [5, 6, 20] (fun v g j wr => ∃ m : Nat, m ≤ ys.length ∧ j = .int .i64 m ∧ g = .int .i64 (gcF (P ++ (ys.take m).map (fun y => x * y))) ∧ wr.ownsRow w.heap.size 3 1 v (P ++ (ys.take m).map (fun y => x * y)).length ((P ++ (ys.take m).map (fun y => x * y)).map (Value.int .i64)) ∧ Below w.heap.size w wr) (fun _ _ j _ => ys.length - (intOf j).toNat)
      case atStart => exact ⟨0, Nat.zero_le _, rfl, by simp, by simpa using HO.out, HBR.out⟩
      case round =>
        clear HO HBR hc hbk
        obtain ⟨m, hm, rfl, rfl, hown, hBr⟩ := hrel
        by_cases hlm : m < ys.length
        · obtain ⟨bd, y, rfl, hbk2, hyk, hc2⟩ := (HB.out.below hBr).get hlm
          have hyb := HY.out y (List.mem_of_getElem? hyk.out)
          have HRS := Lib.hid (row_snoc (x := x) hyk.out)
          obtain ⟨p0, p1⟩ := mul_bd (a := x) (b := y) (A := 1000) (B := 1000) hx0 hx1 hyb.1 hyb.2
          have HQB : Hid (∀ z ∈ P ++ (ys.take m).map (fun y => x * y), 0 ≤ z ∧ z ≤ 1000000) := Lib.hid (by
            intro z hz
            rcases List.mem_append.1 hz with hz | hz
            · exact HTB.out z hz
            · obtain ⟨y', hy', rfl⟩ := List.mem_map.1 hz
              have hb' := HY.out y' (List.mem_of_mem_take hy')
              have := mul_bd (a := x) (b := y') (A := 1000) (B := 1000) hx0 hx1 hb'.1 hb'.2
              omega)
          have hql : (P ++ (ys.take m).map (fun y => x * y)).length ≤ 200 := by
            have := HTL.out
            simp only [List.length_append, List.length_map, List.length_take]; omega
          generalize hQ : P ++ (ys.take m).map (fun y => x * y) = Q at *
          have HQ := Lib.hid hQ
          have g0 := gcF_nn Q
          have g1 := gcF_le (C := 1000000) (by omega) HQB.out
          have HGS := Lib.hid (gcF_snoc Q (x * y))
          generalize gcF Q = g at *
          have hz := hBr.size
          have HBR := Lib.hid hBr
          have HOW := Lib.hid hown
          clear hQ hyb hown hBr
          go_wp2_with (first
            | (at_builtin; refine wp_app_int _ rfl (.tmp 24) (.tmp 28) rfl w.heap.size _ Q.length Q (x * y) rfl HOW.out rfl (by omega) hz ?_; intro v2 w2 hown2 hB2; have HO2 := Lib.hid hown2; have HB2 := Lib.hid (HBR.out.trans hB2); clear hown2 hB2)
            | (go_at_call 100; refine (divisor_any g (x * y) _ g0 (by omega) p0 (by omega)).mono ?_; rintro e w3 ⟨g', rfl, ⟨j, rfl⟩, hg'⟩))
          go_roundw
          case rel => exact ⟨m + 1, by omega, by go_num, by rw [HRS.out, ← List.append_assoc, HQ.out, HGS.out, hg'.out], by rw [HRS.out, ← List.append_assoc, HQ.out, List.length_append]; exact HO2.out, below_drewN HB2.out _⟩
          case measure => simp [intOf]; omega
        · obtain rfl : m = ys.length := by omega
          rw [List.take_length, ← HPD.out] at hown
          rw [List.take_length, ← HPD.out]
          go_wp2
          go_roundw
          case rel => exact ⟨k + 1, by omega, by go_num, rfl, hown, hBr⟩
          case measure => simp [intOf]; omega
    · obtain rfl : k = xs.length := by omega
      rw [List.take_length] at hown
      rw [List.take_length]
      have hpl : 0 < (pdL xs ys).length := by
        rcases Nat.eq_zero_or_pos (pdL xs ys).length with h0 | h0
        · have := HG.out
          rw [List.eq_nil_of_length_eq_zero h0] at this
          simp [gcF] at this
        · exact h0
      have hml : (pdL xs ys).length ≤ 100 := by rw [HPL.out]; exact HML.out
      have HGL := Lib.hid (gcF_le (C := 1000000) (by omega) HPB.out)
      have HQD : Hid (qdL xs ys = dvK (pdL xs ys) (gcF (pdL xs ys)) (pdL xs ys).length) := Lib.hid (by unfold qdL dvK; simp)
      obtain ⟨gb, cap, rfl, hgb, _⟩ := hown.form hpl
      have HPL2 := Lib.hid HPL.out
      have gpos := HG.out
      have gle := HGL.out
      generalize hP : pdL xs ys = P at *
      generalize gcF P = g at *
      have HO0 : Hid (dvK P g 0 = P) := Lib.hid (by simp [dvK])
      have hgn : (g == 0) = false := by simp; omega
      have hg0 : g ≠ 0 := by omega
      clear hP
      go_wp2
      go_loopw [39] (fun i wr => ∃ k : Nat, k ≤ P.length ∧ i = .int .i64 k ∧ wr.ownsRow w.heap.size 3 1 (.slice (some ⟨gb, 0, none⟩) P.length cap) P.length ((dvK P g k).map (Value.int .i64)) ∧ Below w.heap.size w wr) (fun i _ => P.length - (intOf i).toNat)
      case atStart => exact ⟨0, Nat.zero_le _, rfl, by rw [HO0.out]; exact hown, hBr⟩
      case round =>
        clear hown hBr
        obtain ⟨k, hk, rfl, hown, hBr⟩ := hrel
        by_cases hlk : k < P.length
        · obtain ⟨z, hz⟩ := getElem?_of_lt hlk
          have hzb := HPB.out z (List.mem_of_getElem? hz)
          have hcz := hown.cellAt k (by omega)
          rw [List.getElem?_map, dvK_get hz, Option.map_some] at hcz
          have hf := hown.frozenAt k
          have HSET := Lib.hid (dvK_set (g := g) hz)
          have hq : IntKind.i64.wrap (z.tdiv g) = z / g := by
            rw [Int.tdiv_eq_ediv_of_nonneg hzb.1]
            exact IntWalk.i64_in _ (by
              have h1 := Int.ediv_nonneg hzb.1 (show 0 ≤ g by omega)
              have h2 := Int.ediv_le_self g hzb.1
              omega)
          have hz0 : 0 ≤ z := hzb.1
          have hge : w.heap.size ≤ gb := (hown.lt gb rfl).1
          clear hz hzb
          go_wp2
          go_roundw
          case rel => exact ⟨k + 1, by omega, by go_num, by rw [← HSET.out, List.map_set]; exact (hown.stored k _).1, hBr.setCell hge _⟩
          case measure => simp [intOf]; omega
        · obtain rfl : k = P.length := by omega
          rw [← HQD.out] at hown
          have hge : w.heap.size ≤ gb := (hown.lt gb rfl).1
          have hll : (qdL xs ys).length = P.length := by rw [HQD.out, dvK_len]
          rw [← hll] at hown
          obtain ⟨A', c', he, hO⟩ := own_ints hown
          have HE : Hid (A' = some ⟨gb, 0, none⟩ ∧ c' = cap) := Lib.hid (by injection he with h1 h2 h3; exact ⟨h1.symm, h3.symm⟩)
          have hO2 : Out wr (some ⟨gb, 0, none⟩) cap (qdL xs ys) := by rw [← HE.out.1, ← HE.out.2]; exact hO
          clear he hll
          go_wp2
          go_ret
          exact ⟨some ⟨gb, 0, none⟩, cap, by rw [← HPL2.out]; rfl, hO2, hBr, fun x hx => by cases hx; exact hge⟩
end Go.Proofs.Ytolpbbabmcpdkaa
