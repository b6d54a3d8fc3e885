/-
  Contracts: rest, Valid, asked, sums (firnref05).
-/
import Derived.Test.YtoilbgngefleiaaRefPoint
import Derived.Test.YtoilbgngefleiaaRefLineV
namespace Go.Proofs.Ytoilbgngefleiaa
open Go Go.RowKit Go.Shelf

set_option maxRecDepth 100000 in
theorem refRest_any (x y a b d : Int) (w : World) (hL : LnB a b d) (hq : ptB (x, y) = true) :
    Calls Try.prog 61 #[.agg #[.int .i64 x, .int .i64 y], .agg #[.int .i64 a, .int .i64 b, .int .i64 d]] w fun e w' => e = .returned (.int .i64 (rsI a b d (x, y))) ∧ Below w.heap.size w w' := by
  obtain ⟨⟨p0, p1⟩, ⟨p2, p3⟩, p4, p5⟩ := rs_box hL hq
  have HB := hL.2.1
  simp only [rsI] at p0 p1 p2 p3 p4 p5
  rw [Int.mul_comm x a] at p2 p3 p4 p5
  have HE : Hid (y * d - a * x - b = rsI a b d (x, y)) := Lib.hid (by simp only [rsI]; rw [Int.mul_comm x a])
  go_enter Try.func61, Try.ntmps61
  go_wp2
  go_ret
  exact ⟨ret_int HE.out, (by repeat (first | with_reducible exact Below.refl _ _ | with_reducible assumption | refine below_drewN ?_ _ | with_reducible refine Below.drew ?_ | (refine Below.setCell ?_ (by first | (simp; done) | (simp; omega) | omega) _) | (refine Below.alloc ?_ (by first | (simp; done) | (simp; omega) | omega) _)))⟩

def anV (ms : List (Int × Int)) (x : Int) (k : Nat) : Bool := (ms.take k).any fun q => decide (q.1 ≠ x)
theorem an_snoc {ms : List (Int × Int)} {x0 : Int} {k : Nat} {x y : Int} (h : ms[k]? = some (x, y)) : anV ms x0 (k + 1) = (anV ms x0 k || decide (x ≠ x0)) := any_snoc h

set_option maxRecDepth 100000 in
set_option maxHeartbeats 1000000 in
theorem refValid_any (ms : List (Int × Int)) (A : Option Addr) (c : Nat) (w : World) (h : Marks w A ms) (hl : ms.length ≤ maxLen) :
    Calls Try.prog 20 #[.slice A ms.length c] w fun e w' => e = .returned (.bool (viP ms)) ∧ Below w.heap.size w w' := by
  unfold maxLen at hl
  have H := Lib.hid h
  clear h
  by_cases n1 : (ms.length : Int) < 2
  · have n2 : decide ((ms.length : Int) < 2) = true := decide_eq_true n1
    go_enter Try.func20, Try.ntmps20
    go_wp2
    go_ret
    exact ⟨ret_bool (vi_len (by omega)), (by repeat (first | with_reducible exact Below.refl _ _ | with_reducible assumption | refine below_drewN ?_ _ | with_reducible refine Below.drew ?_ | (refine Below.setCell ?_ (by first | (simp; done) | (simp; omega) | omega) _) | (refine Below.alloc ?_ (by first | (simp; done) | (simp; omega) | omega) _)))⟩
  · have n2 : decide ((ms.length : Int) < 2) = false := decide_eq_false n1
    by_cases n3 : 12 < (ms.length : Int)
    · have n4 : decide (12 < (ms.length : Int)) = true := decide_eq_true n3
      go_enter Try.func20, Try.ntmps20
      go_wp2
      go_ret
      exact ⟨ret_bool (vi_len (by omega)), (by repeat (first | with_reducible exact Below.refl _ _ | with_reducible assumption | refine below_drewN ?_ _ | with_reducible refine Below.drew ?_ | (refine Below.setCell ?_ (by first | (simp; done) | (simp; omega) | omega) _) | (refine Below.alloc ?_ (by first | (simp; done) | (simp; omega) | omega) _)))⟩
    · have n4 : decide (12 < (ms.length : Int)) = false := decide_eq_false n3
      obtain ⟨bl, off, rfl, hbk, hcells⟩ := H.out.open_ (show 0 < ms.length by omega)
      obtain ⟨x0, y0, hxy0⟩ := getM_of_lt (show 0 < ms.length by omega)
      have HC0 := Lib.hid ((hcells 0 _ hxy0).1)
      have HX0 : Hid ((ms.headD (0, 0)).1 = x0) := Lib.hid (by cases ms <;> simp_all)
      have HC := Lib.hid hcells
      clear hcells hxy0
      go_enter Try.func20, Try.ntmps20
      go_wp2
      go_loopw [3, 16] (fun t i wr => ∃ k : Nat, k ≤ ms.length ∧ i = .int .i64 k ∧ t = .bool (anV ms x0 k) ∧ Hid ((ms.take k).all ptB = true) ∧ Below w.heap.size w wr) (fun _ i _ => ms.length - (intOf i).toNat)
      case atStart => exact ⟨0, Nat.zero_le _, rfl, rfl, rfl, Below.refl _ _⟩
      case round =>
        obtain ⟨k, hk, rfl, rfl, hall, hB⟩ := hrel
        have hs := hB.size
        by_cases hlt : k < ms.length
        · obtain ⟨x, y, hxy⟩ := getM_of_lt hlt
          have f0 := (hB.cell (p := ⟨bl, off + k * 2, none⟩) hbk).trans (by simpa using (HC.out k _ hxy).1)
          have f1 := (hB.cell (p := ⟨bl, off + k * 2 + 1, none⟩) hbk).trans (by simpa using (HC.out k _ hxy).2)
          have hbw : bl < wr.heap.size := by omega
          have HXY := Lib.hid hxy
          have HAN := Lib.hid (an_snoc (x0 := x0) hxy)
          clear hxy
          cases hp : ptB (x, y) with
          | false =>
            have HF : Hid (false = viP ms) := Lib.hid (vi_out (all_not HXY.out hp))
            have HP := Lib.hid hp
            clear hp
            go_wp2_with (go_at_call 54; refine (isPoint_any x y _).mono ?_; rintro e w1 ⟨rfl, hB1⟩; rw [HP.out])
            go_ret
            exact ⟨ret_bool HF.out, hB.trans (((Below.refl w.heap.size wr).alloc hs _).trans (hB1.mono (by simp; omega)))⟩
          | true =>
            have HP := Lib.hid hp
            have HALL : Hid ((ms.take (k + 1)).all ptB = true) := Lib.hid (by rw [all_snoc HXY.out, hall.out, hp]; rfl)
            clear hp
            have h00 := Lib.hid (heap_alloc_new wr (.cells #[.int .i64 x, .int .i64 y] 54))
            go_wp2_with (go_at_call 54; refine (isPoint_any x y _).mono ?_; rintro e w1 ⟨rfl, hB1⟩; rw [HP.out])
            have hW1 : Below w.heap.size w w1 := hB.trans (((Below.refl w.heap.size wr).alloc hs _).trans (hB1.mono (by simp; omega)))
            have g0 := (hB1.block wr.heap.size (by simp)).trans h00.out
            have d0 : w1.cell? ⟨wr.heap.size, 0, none⟩ = some (.int .i64 x) := by rw [cell_of_row w1 _ 0 _ _ (0, 0) g0]; rfl
            have d1 : w1.cell? ⟨bl, off, none⟩ = some (.int .i64 x0) := (hW1.cell (p := ⟨bl, off, none⟩) hbk).trans (by simpa using HC0.out)
            have HW1 := Lib.hid hW1
            clear f0 f1 g0 hB1 hW1
            cases hb : anV ms x0 k with
            | true =>
              have HA : Hid (true = anV ms x0 (k + 1)) := Lib.hid (by rw [HAN.out, hb]; rfl)
              clear hb
              go_quiet (fail)
              go_wp2
              go_roundw
              case rel => exact ⟨k + 1, by omega, by go_num, by rw [← HA.out], HALL, below_drewN HW1.out _⟩
              case measure => simp [intOf]; omega
            | false =>
              by_cases h1 : x = x0
              · subst h1
                have t1 : (x == x) = true := by simp
                have t2 : (x != x) = false := by simp
                have HA : Hid (false = anV ms x (k + 1)) := Lib.hid (by rw [HAN.out, hb]; simp)
                clear hb
                go_quiet (fail)
                go_wp2
                go_roundw
                case rel => exact ⟨k + 1, by omega, by go_num, by rw [← HA.out], HALL, below_drewN HW1.out _⟩
                case measure => simp [intOf]; omega
              · have t1 : (x == x0) = false := by simpa using h1
                have t2 : (x != x0) = true := by simpa using h1
                have HA : Hid (true = anV ms x0 (k + 1)) := Lib.hid (by rw [HAN.out, hb]; simp [h1])
                clear hb
                go_quiet (fail)
                go_wp2
                go_roundw
                case rel => exact ⟨k + 1, by omega, by go_num, by rw [← HA.out], HALL, below_drewN HW1.out _⟩
                case measure => simp [intOf]; omega
        · obtain rfl : k = ms.length := by omega
          have HF : Hid (anV ms x0 ms.length = viP ms) := Lib.hid (by
            rw [← vi_all (by omega) (by simpa using hall.out), HX0.out, anV, List.take_length])
          go_wp2
          go_ret
          exact ⟨ret_bool HF.out, hB⟩

set_option maxRecDepth 100000 in
theorem asked_any (ms : List (Int × Int)) (A : Option Addr) (c : Nat) (a b d : Int) (w : World) (h : Marks w A ms) (hl : ms.length ≤ maxLen) :
    Calls Try.prog 60 #[.slice A ms.length c, .agg #[.int .i64 a, .int .i64 b, .int .i64 d]] w fun e w' => e = .returned (.int .i64 (ckE ms a b d)) ∧ Below w.heap.size w w' := by
  have H := Lib.hid h
  have HL := Lib.hid hl
  clear h hl
  cases h1 : viP ms with
  | false =>
    have HP : Hid (ckE ms a b d = 50) := Lib.hid (by simp [ckE, h1])
    have H1 := Lib.hid h1
    clear h1
    go_enter Try.func60, Try.ntmps60
    go_wp2_with (go_at_call 20; refine (refValid_any ms A c _ (H.out.below (by repeat (first | with_reducible exact Below.refl _ _ | with_reducible assumption | refine below_drewN ?_ _ | with_reducible refine Below.drew ?_ | (refine Below.setCell ?_ (by first | (simp; done) | (simp; omega) | omega) _) | (refine Below.alloc ?_ (by first | (simp; done) | (simp; omega) | omega) _)))) HL.out).mono ?_; rintro e w1 ⟨rfl, hB1⟩; rw [H1.out])
    go_ret
    exact ⟨ret_int HP.out.symm, below_step ((Below.refl _ _).alloc (Nat.le_refl _) _) hB1⟩
  | true =>
    have H1 := Lib.hid h1
    cases h2 : lnB a b d with
    | false =>
      have HP : Hid (ckE ms a b d = 51) := Lib.hid (by simp [ckE, h1, h2])
      have H2 := Lib.hid h2
      clear h1 h2
      have W0c : Hid ((w.alloc (.cells #[.int .i64 a, .int .i64 b, .int .i64 d] 24)).heap[w.heap.size]? = some (.cells #[.int .i64 a, .int .i64 b, .int .i64 d] 24 (0, 0))) := Lib.hid (heap_alloc_new w _)
      go_enter Try.func60, Try.ntmps60
      go_wp2_with (first
        | (go_at_call 20; refine (refValid_any ms A c _ (H.out.below (by repeat (first | with_reducible exact Below.refl _ _ | with_reducible assumption | refine below_drewN ?_ _ | with_reducible refine Below.drew ?_ | (refine Below.setCell ?_ (by first | (simp; done) | (simp; omega) | omega) _) | (refine Below.alloc ?_ (by first | (simp; done) | (simp; omega) | omega) _)))) HL.out).mono ?_; rintro e w1 ⟨rfl, hB1⟩; rw [H1.out]; have k1 := (hB1.block w.heap.size (by simp)).trans W0c.out; have c0 : w1.cell? ⟨w.heap.size, 0, none⟩ = some (.int .i64 a) := (by rw [cell_of_row w1 _ 0 _ _ (0, 0) k1]; rfl); have c1 : w1.cell? ⟨w.heap.size, 1, none⟩ = some (.int .i64 b) := (by rw [cell_of_row w1 _ 1 _ _ (0, 0) k1]; rfl); have c2 : w1.cell? ⟨w.heap.size, 2, none⟩ = some (.int .i64 d) := (by rw [cell_of_row w1 _ 2 _ _ (0, 0) k1]; rfl); have hW := below_step ((Below.refl _ _).alloc (Nat.le_refl _) _) hB1; clear k1 hB1)
        | (go_at_call 22; refine (refValidLine_any a b d _).mono ?_; rintro e w2 ⟨rfl, hB2⟩; rw [H2.out]; have hW2 := below_step hW hB2))
      go_ret
      exact ⟨ret_int HP.out.symm, hW2⟩
    | true =>
      have HP : Hid (ckE ms a b d = 0) := Lib.hid (by simp [ckE, h1, h2])
      have H2 := Lib.hid h2
      clear h1 h2
      have W0c : Hid ((w.alloc (.cells #[.int .i64 a, .int .i64 b, .int .i64 d] 24)).heap[w.heap.size]? = some (.cells #[.int .i64 a, .int .i64 b, .int .i64 d] 24 (0, 0))) := Lib.hid (heap_alloc_new w _)
      go_enter Try.func60, Try.ntmps60
      go_wp2_with (first
        | (go_at_call 20; refine (refValid_any ms A c _ (H.out.below (by repeat (first | with_reducible exact Below.refl _ _ | with_reducible assumption | refine below_drewN ?_ _ | with_reducible refine Below.drew ?_ | (refine Below.setCell ?_ (by first | (simp; done) | (simp; omega) | omega) _) | (refine Below.alloc ?_ (by first | (simp; done) | (simp; omega) | omega) _)))) HL.out).mono ?_; rintro e w1 ⟨rfl, hB1⟩; rw [H1.out]; have k1 := (hB1.block w.heap.size (by simp)).trans W0c.out; have c0 : w1.cell? ⟨w.heap.size, 0, none⟩ = some (.int .i64 a) := (by rw [cell_of_row w1 _ 0 _ _ (0, 0) k1]; rfl); have c1 : w1.cell? ⟨w.heap.size, 1, none⟩ = some (.int .i64 b) := (by rw [cell_of_row w1 _ 1 _ _ (0, 0) k1]; rfl); have c2 : w1.cell? ⟨w.heap.size, 2, none⟩ = some (.int .i64 d) := (by rw [cell_of_row w1 _ 2 _ _ (0, 0) k1]; rfl); have hW := below_step ((Below.refl _ _).alloc (Nat.le_refl _) _) hB1; clear k1 hB1)
        | (go_at_call 22; refine (refValidLine_any a b d _).mono ?_; rintro e w2 ⟨rfl, hB2⟩; rw [H2.out]; have hW2 := below_step hW hB2))
      go_ret
      exact ⟨ret_int HP.out.symm, hW2⟩

def sumAt (ms : List (Int × Int)) (a b d : Int) (k : Nat) : Int := sumA ((ms.map (rsI a b d)).take k)
def mostAt (ms : List (Int × Int)) (a b d : Int) (k : Nat) : Int := mostA ((ms.map (rsI a b d)).take k)
set_option maxRecDepth 100000 in
set_option maxHeartbeats 1000000 in
theorem refSums_any (ms : List (Int × Int)) (A : Option Addr) (c : Nat) (a b d : Int) (w : World) (h : Marks w A ms) (hl : ms.length ≤ 1000) (hL : LnB a b d) (hv : ms.all ptB = true) :
    Calls Try.prog 67 #[.slice A ms.length c, .agg #[.int .i64 a, .int .i64 b, .int .i64 d]] w fun e w' => e = .returned (.tuple #[.int .i64 (costI ms a b d), .int .i64 (widI ms a b d)]) ∧ Below w.heap.size w w' := by
  have H := Lib.hid h
  have HL := Lib.hid hL
  have HZB : Hid (∀ z ∈ ms.map (rsI a b d), -1200000000 ≤ z ∧ z ≤ 1200000000) := Lib.hid (rs_all hL hv)
  have HV : Hid (∀ q ∈ ms, ptB q = true) := Lib.hid (by simpa using hv)
  clear h hL hv
  have HE : Hid (sumAt ms a b d ms.length = costI ms a b d ∧ mostAt ms a b d ms.length = widI ms a b d) := Lib.hid (by
    have e : ms.length = (ms.map (rsI a b d)).length := by simp
    simp only [sumAt, mostAt, costI, widI]
    rw [e, List.take_length]; exact ⟨rfl, rfl⟩)
  go_enter Try.func67, Try.ntmps67
  go_wp2
  obtain ⟨W0, hW0⟩ : ∃ W0, W0 = w.alloc (.cells #[.int .i64 a, .int .i64 b, .int .i64 d] 24) := ⟨_, rfl⟩
  rw [← hW0]
  have hs0 : W0.heap.size = w.heap.size + 1 := by rw [hW0]; simp
  have hBW : Below w.heap.size w W0 := by rw [hW0]; exact (Below.refl _ _).alloc (Nat.le_refl _) _
  have x0 : W0.cell? ⟨w.heap.size, 0, none⟩ = some (.int .i64 a) := by rw [hW0]; exact cell_of_row _ _ 0 _ _ _ (heap_alloc_new w _)
  have x1 : W0.cell? ⟨w.heap.size, 1, none⟩ = some (.int .i64 b) := by rw [hW0]; exact cell_of_row _ _ 1 _ _ _ (heap_alloc_new w _)
  have x2 : W0.cell? ⟨w.heap.size, 2, none⟩ = some (.int .i64 d) := by rw [hW0]; exact cell_of_row _ _ 2 _ _ _ (heap_alloc_new w _)
  have HX : Hid ((W0.cell? ⟨w.heap.size, 0, none⟩ = some (.int .i64 a)) ∧ (W0.cell? ⟨w.heap.size, 1, none⟩ = some (.int .i64 b)) ∧ (W0.cell? ⟨w.heap.size, 2, none⟩ = some (.int .i64 d))) := Lib.hid ⟨x0, x1, x2⟩
  have HBW := Lib.hid hBW
  have HS0 := Lib.hid hs0
  clear x0 x1 x2 hBW hs0 hW0
  go_loopw [4, 5, 10] (fun s m i wr => ∃ k : Nat, k ≤ ms.length ∧ i = .int .i64 k ∧ s = .int .i64 (sumAt ms a b d k) ∧ m = .int .i64 (mostAt ms a b d k) ∧ Below (w.heap.size + 1) W0 wr) (fun _ _ i _ => ms.length - (intOf i).toNat)
  case atStart => exact ⟨0, Nat.zero_le _, rfl, rfl, rfl, Below.refl _ _⟩
  case round =>
    obtain ⟨k, hk, rfl, rfl, rfl, hB⟩ := hrel
    have hsz : w.heap.size + 1 ≤ wr.heap.size := by have := hB.size; have := HS0.out; omega
    have hBw : Below w.heap.size w wr := below_step HBW.out (hB.mono (by have := HS0.out; omega))
    by_cases hlt : k < ms.length
    · obtain ⟨bl, off, rfl, hbk, hcells⟩ := H.out.open_ (show 0 < ms.length by omega)
      obtain ⟨x, y, hxy⟩ := getM_of_lt hlt
      have HP : Hid (ptB (x, y) = true) := Lib.hid (HV.out _ (List.mem_of_getElem? hxy))
      obtain ⟨hc0, hc1⟩ := hcells k _ hxy
      have c0 := (hBw.cell (p := ⟨bl, off + k * 2, none⟩) hbk).trans (by simpa using hc0)
      have c1 := (hBw.cell (p := ⟨bl, off + k * 2 + 1, none⟩) hbk).trans (by simpa using hc1)
      have x0 := (hB.cell (p := ⟨w.heap.size, 0, none⟩) (by simp)).trans HX.out.1
      have x1 := (hB.cell (p := ⟨w.heap.size, 1, none⟩) (by simp)).trans HX.out.2.1
      have x2 := (hB.cell (p := ⟨w.heap.size, 2, none⟩) (by simp)).trans HX.out.2.2
      have hz : (ms.map (rsI a b d))[k]? = some (rsI a b d (x, y)) := by rw [List.getElem?_map, hxy]; rfl
      obtain ⟨r, hr⟩ : ∃ r, rsI a b d (x, y) = r := ⟨_, rfl⟩
      rw [hr] at hz
      have hrb := HZB.out r (List.mem_of_getElem? hz)
      have HSU : Hid (sumAt ms a b d (k + 1) = sumAt ms a b d k + absI r) := Lib.hid (sumA_snoc hz)
      have HMO : Hid (mostAt ms a b d (k + 1) = max (mostAt ms a b d k) (absI r)) := Lib.hid (mostA_snoc hz)
      have hsb := sumA_bd ((ms.map (rsI a b d)).take k) (fun z hz => HZB.out z (List.mem_of_mem_take hz))
      have hmb := mostA_bd ((ms.map (rsI a b d)).take k) (fun z hz => HZB.out z (List.mem_of_mem_take hz))
      have hab := abs_bd hrb
      obtain ⟨s, hs⟩ : ∃ s, sumAt ms a b d k = s := ⟨_, rfl⟩
      obtain ⟨m, hm⟩ : ∃ m, mostAt ms a b d k = m := ⟨_, rfl⟩
      change 0 ≤ sumAt ms a b d k ∧ sumAt ms a b d k ≤ _ at hsb
      change 0 ≤ mostAt ms a b d k ∧ mostAt ms a b d k ≤ _ at hmb
      simp only [List.length_take, List.length_map] at hsb hmb
      rw [hs] at hsb HSU
      rw [hm] at hmb HMO
      simp only [hs, hm]
      have hsb2 : s ≤ 1200000000000 := by omega
      have hmb2 : m ≤ 1200000000000 := by omega
      have hsb1 := hsb.1
      have hmb1 := hmb.1
      obtain ⟨v, hv⟩ : ∃ v, absI r = v := ⟨_, rfl⟩
      rw [hv] at hab HSU HMO
      have HRC : Hid (∀ V, Calls Try.prog 61 #[.agg #[.int .i64 x, .int .i64 y], .agg #[.int .i64 a, .int .i64 b, .int .i64 d]] V fun e w' => e = .returned (.int .i64 r) ∧ Below V.heap.size V w') := Lib.hid fun V => by
        have := refRest_any x y a b d V HL.out HP.out
        rw [hr] at this
        exact this
      have HSC : Hid (∀ V, Calls Try.prog 93 #[.int .i64 r] V fun e w' => e = .returned (.int .i64 v) ∧ V = w') := Lib.hid fun V => by
        have := refsize_any r V (by omega) (by omega)
        rw [hv] at this
        exact this
      have hmx : -9223372036854775808 ≤ max m v ∧ max m v ≤ 9223372036854775807 := by omega
      clear hcells hc0 hc1 hz hsb hmb hs hm hv
      have HXY := Lib.hid hxy
      have HBw := Lib.hid hBw
      have HR := Lib.hid hr
      clear hxy hBw hr
      have g1 : w.heap.size < wr.heap.size := by omega
      have g2 : bl < wr.heap.size := by omega
      have h00 := Lib.hid (heap_alloc_new wr (.cells #[.int .i64 x, .int .i64 y] 54))
      have TA : Hid True := Lib.hid trivial
      have hA0 : Below wr.heap.size wr (wr.alloc (.cells #[.int .i64 x, .int .i64 y] 54)) := (Below.refl _ _).alloc (Nat.le_refl _) _
      have HA0 := Lib.hid hA0
      clear hA0
      go_wp2_with (first
        | (go_at_call 61; clear TA; refine (HRC.out _).mono ?_; rintro e w2 ⟨rfl, hB2⟩; have hB3 : Below wr.heap.size wr w2 := below_step HA0.out hB2; have gg := (hB2.block wr.heap.size (by simp)).trans h00.out; have d0 : w2.cell? ⟨wr.heap.size, 0, none⟩ = some (.int .i64 x) := (by rw [cell_of_row w2 _ 0 _ _ (0, 0) gg]; rfl); have d1 : w2.cell? ⟨wr.heap.size, 1, none⟩ = some (.int .i64 y) := (by rw [cell_of_row w2 _ 1 _ _ (0, 0) gg]; rfl); have x0 := (hB3.cell (p := ⟨w.heap.size, 0, none⟩) g1).trans x0; have x1 := (hB3.cell (p := ⟨w.heap.size, 1, none⟩) g1).trans x1; have x2 := (hB3.cell (p := ⟨w.heap.size, 2, none⟩) g1).trans x2)
        | (go_at_call 61; refine (HRC.out _).mono ?_; rintro e w4 ⟨rfl, hB4⟩; have hB5 : Below wr.heap.size wr w4 := hB3.trans (hB4.mono hB3.size))
        | (go_at_call 93; refine (HSC.out _).mono ?_; rintro e w3 ⟨rfl, rfl⟩)
        | fail)
      go_roundw
      case rel => exact ⟨k + 1, by omega, by go_num, by rw [HSU.out], by rw [HMO.out]; congr 1; omega, hB.trans (hB5.mono (by omega))⟩
      case measure => simp [intOf]; omega
    · obtain rfl : k = ms.length := by omega
      rw [HE.out.1, HE.out.2]
      go_wp2
      go_ret2
      exact ⟨rfl, hBw⟩
end Go.Proofs.Ytoilbgngefleiaa
