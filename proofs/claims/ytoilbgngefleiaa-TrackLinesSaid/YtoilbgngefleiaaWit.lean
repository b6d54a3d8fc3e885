/-
  Contracts: isWitness, Tells (track).
-/
import Derived.Test.YtoilbgngefleiaaTellsT
import Derived.Test.YtoilbgngefleiaaAwake
namespace Go.Proofs.Ytoilbgngefleiaa
open Go.RowKit Go.Shelf
set_option linter.unusedVariables false
set_option linter.unusedSimpArgs false

def inL (ms : List (Int × Int)) (l : List Int) : Bool := l.all fun z => decide (0 ≤ z ∧ z < (ms.length : Int))
def wiS (ms : List (Int × Int)) : List Int → Bool
  | [a, b] => decide (a ≠ b) && decide ((ptK ms a).1 = (ptK ms b).1)
  | [a, b, c] => decide ((ptK ms a).1 < (ptK ms b).1) && decide ((ptK ms b).1 < (ptK ms c).1)
  | _ => false
def wiB (ms : List (Int × Int)) (l : List Int) : Bool := inL ms l && wiS ms l
def tlV (ms : List (Int × Int)) : List Int → Int × Int
  | [a, b] => tl2 ms a.toNat b.toNat
  | [a, b, c] => tl3 ms a.toNat b.toNat c.toNat
  | _ => (0, 0)
theorem inL_mem {ms : List (Int × Int)} {l : List Int} (h : inL ms l = true) {z : Int} (hz : z ∈ l) : ∃ j : Nat, z = j ∧ j < ms.length := by
  have := List.all_eq_true.1 h z hz
  simp only [decide_eq_true_eq] at this
  exact ⟨z.toNat, by omega, by omega⟩
theorem inL_bad {ms : List (Int × Int)} {l : List Int} {z : Int} (hz : z ∈ l) (h : ¬ (0 ≤ z ∧ z < (ms.length : Int))) : inL ms l = false := by
  unfold inL; rw [List.all_eq_false]; exact ⟨z, hz, by simpa using h⟩
theorem ptK_nat {ms : List (Int × Int)} {j : Nat} {q : Int × Int} (h : ms[j]? = some q) : ptK ms (j : Int) = q := by unfold ptK; rw [Int.toNat_natCast, List.getD_eq_getElem?_getD, h]; rfl
theorem len_two {l : List Int} (h : l.length = 2) : ∃ a b, l = [a, b] := by
  match l, h with
  | [a, b], _ => exact ⟨a, b, rfl⟩
theorem len_three {l : List Int} (h : l.length = 3) : ∃ a b d, l = [a, b, d] := by
  match l, h with
  | [a, b, d], _ => exact ⟨a, b, d, rfl⟩
theorem wiS_other {ms : List (Int × Int)} {l : List Int} (h2 : l.length ≠ 2) (h3 : l.length ≠ 3) : wiS ms l = false := by
  match l with
  | [] => rfl
  | [_] => rfl
  | [_, _] => simp at h2
  | [_, _, _] => simp at h3
  | _ :: _ :: _ :: _ :: _ => rfl

set_option maxRecDepth 100000 in
set_option maxHeartbeats 4000000 in
theorem isWitness_any (ms : List (Int × Int)) (A : Option Addr) (c : Nat) (l : List Int) (B : Option Addr) (cb : Nat) (w : World) (h : Clk w A c ms) (hB : Ints w B l) (hl : l.length ≤ 1000) :
    Calls Try.prog 78 #[.slice A ms.length c, .slice B l.length cb] w fun e w' => e = .returned (.bool (wiB ms l)) ∧ Below w.heap.size w w' := by
  have H := Lib.hid h
  have HB := Lib.hid hB
  clear h hB
  go_enter Try.func78, Try.ntmps78
  go_wp2
  go_loopw [9] (fun i wr => ∃ k : Nat, k ≤ l.length ∧ i = .int .i64 k ∧ wr = w ∧ Hid (∀ j z, j < k → l[j]? = some z → 0 ≤ z ∧ z < (ms.length : Int))) (fun i _ => l.length - (intOf i).toNat)
  case atStart => exact ⟨0, Nat.zero_le _, rfl, rfl, Lib.hid (fun j z hj => absurd hj (by omega))⟩
  case round =>
    obtain ⟨k, hk, rfl, rfl, hin⟩ := hrel
    by_cases hlt : k < l.length
    · obtain ⟨ad, z, rfl, hbk, hz, hc⟩ := HB.out.get hlt
      by_cases h0 : z < 0
      · have t0 : decide (z < 0) = true := decide_eq_true h0
        have HN : Hid (false = wiB ms l) := Lib.hid (by rw [wiB, inL_bad (List.mem_of_getElem? hz.out) (by omega)]; rfl)
        clear h0
        go_wp2
        go_ret
        exact ⟨ret_bool HN.out, Below.refl _ _⟩
      · have t0 : decide (z < 0) = false := decide_eq_false h0
        by_cases h1 : (ms.length : Int) ≤ z
        · have t1 : decide ((ms.length : Int) ≤ z) = true := decide_eq_true h1
          have HN : Hid (false = wiB ms l) := Lib.hid (by rw [wiB, inL_bad (List.mem_of_getElem? hz.out) (by omega)]; rfl)
          clear h0 h1
          go_wp2
          go_ret
          exact ⟨ret_bool HN.out, Below.refl _ _⟩
        · have t1 : decide ((ms.length : Int) ≤ z) = false := decide_eq_false h1
          have HZB : Hid (0 ≤ z ∧ z < (ms.length : Int)) := Lib.hid (by omega)
          clear h0 h1
          go_wp2
          go_roundw
          case rel => exact ⟨k + 1, by omega, by go_num, (by first | trivial | rfl), Lib.hid (fun j y hj hy => by
            rcases Nat.lt_or_eq_of_le (Nat.le_of_lt_succ hj) with h | h
            · exact hin.out j y h hy
            · subst h
              rw [hz.out] at hy
              cases hy
              exact HZB.out)⟩
          case measure => simp [intOf]; omega
    · obtain rfl : k = l.length := by omega
      have HIN : Hid (inL ms l = true) := Lib.hid (by
        unfold inL
        rw [List.all_eq_true]
        intro z hz
        obtain ⟨j, hj⟩ := List.mem_iff_getElem?.1 hz
        have := hin.out j z (List.getElem?_eq_some_iff.1 hj).1 hj
        simpa using this)
      clear hin hlt hk
      by_cases h2 : l.length = 2
      · obtain ⟨a, b, rfl⟩ := len_two h2
        obtain ⟨i, rfl, hi⟩ := inL_mem HIN.out (show a ∈ [a, b] by simp)
        obtain ⟨j, rfl, hj⟩ := inL_mem HIN.out (show b ∈ [(i : Int), b] by simp)
        obtain ⟨bl, off, rfl, hbl, hcells⟩ := H.out.marks.open_ (show 0 < ms.length by omega)
        obtain ⟨bq, oq, rfl, hbq, hlc⟩ := HB.out.open_ (by simp)
        have l0 := hlc 0 (i : Int) rfl
        have l1 := hlc 1 (j : Int) rfl
        obtain ⟨xi, yi, hpi⟩ := getM_of_lt hi
        obtain ⟨xj, yj, hpj⟩ := getM_of_lt hj
        have p0 := (hcells i _ hpi).1
        have p1 := (hcells j _ hpj).1
        dsimp only at p0 p1
        have HE : Hid (wiB ms [(i : Int), (j : Int)] = (decide ((i : Int) ≠ j) && decide (xi = xj))) := Lib.hid (by rw [wiB, HIN.out, wiS, ptK_nat hpi, ptK_nat hpj]; rfl)
        simp only [Nat.add_zero] at l0
        clear hlc hcells hpi hpj h2
        by_cases hij : (i : Int) = j
        · have t0 : ((i : Int) == j) = true := by simpa using hij
          have t0' : ((i : Int) != j) = false := by simpa using hij
          have HF : Hid (false = wiB ms [(i : Int), (j : Int)]) := Lib.hid (by rw [HE.out, decide_eq_false (fun h => h hij)]; rfl)
          go_wp2
          go_quiet (fail)
          go_wp2
          go_ret
          exact ⟨ret_bool HF.out, below_drewN (Below.refl _ _) _⟩
        · have t0 : ((i : Int) == j) = false := by simpa using hij
          have t0' : ((i : Int) != j) = true := by simpa using hij
          have HF : Hid (decide (xi = xj) = wiB ms [(i : Int), (j : Int)]) := Lib.hid (by rw [HE.out, decide_eq_true hij]; rfl)
          clear hij
          by_cases hx : xi = xj
          · have t2 : (xi == xj) = true := by simpa using hx
            have HF2 : Hid (true = wiB ms [(i : Int), (j : Int)]) := Lib.hid (by rw [← HF.out]; simp [hx])
            clear hx
            go_wp2
            go_quiet (fail)
            go_wp2
            go_ret
            exact ⟨ret_bool HF2.out, below_drewN (Below.refl _ _) _⟩
          · have t2 : (xi == xj) = false := by simpa using hx
            have HF2 : Hid (false = wiB ms [(i : Int), (j : Int)]) := Lib.hid (by rw [← HF.out]; simp [hx])
            clear hx
            go_wp2
            go_quiet (fail)
            go_wp2
            go_ret
            exact ⟨ret_bool HF2.out, below_drewN (Below.refl _ _) _⟩
      · have t2 : ((l.length : Int) == 2) = false := by simp; omega
        by_cases h3 : l.length = 3
        · obtain ⟨a, b, d, rfl⟩ := len_three h3
          obtain ⟨i, rfl, hi⟩ := inL_mem HIN.out (show a ∈ [a, b, d] by simp)
          obtain ⟨j, rfl, hj⟩ := inL_mem HIN.out (show b ∈ [(i : Int), b, d] by simp)
          obtain ⟨k, rfl, hk⟩ := inL_mem HIN.out (show d ∈ [(i : Int), (j : Int), d] by simp)
          obtain ⟨bl, off, rfl, hbl, hcells⟩ := H.out.marks.open_ (show 0 < ms.length by omega)
          obtain ⟨bq, oq, rfl, hbq, hlc⟩ := HB.out.open_ (by simp)
          have l0 := hlc 0 (i : Int) rfl
          have l1 := hlc 1 (j : Int) rfl
          have l2 := hlc 2 (k : Int) rfl
          obtain ⟨xi, yi, hpi⟩ := getM_of_lt hi
          obtain ⟨xj, yj, hpj⟩ := getM_of_lt hj
          obtain ⟨xk, yk, hpk⟩ := getM_of_lt hk
          have p0 := (hcells i _ hpi).1
          have p1 := (hcells j _ hpj).1
          have p2 := (hcells k _ hpk).1
          dsimp only at p0 p1 p2
          have HE : Hid (wiB ms [(i : Int), (j : Int), (k : Int)] = (decide (xi < xj) && decide (xj < xk))) := Lib.hid (by rw [wiB, HIN.out, wiS, ptK_nat hpi, ptK_nat hpj, ptK_nat hpk]; rfl)
          simp only [Nat.add_zero] at l0
          clear hlc hcells hpi hpj hpk h2 h3 t2
          by_cases hx : xi < xj
          · have t0 : decide (xi < xj) = true := decide_eq_true hx
            by_cases hx2 : xj < xk
            · have t1 : decide (xj < xk) = true := decide_eq_true hx2
              have HF : Hid (true = wiB ms [(i : Int), (j : Int), (k : Int)]) := Lib.hid (by rw [HE.out, t0, t1]; rfl)
              clear hx hx2
              go_wp2
              go_quiet (fail)
              go_wp2
              go_ret
              exact ⟨ret_bool HF.out, below_drewN (Below.refl _ _) _⟩
            · have t1 : decide (xj < xk) = false := decide_eq_false hx2
              have HF : Hid (false = wiB ms [(i : Int), (j : Int), (k : Int)]) := Lib.hid (by rw [HE.out, t0, t1]; rfl)
              clear hx hx2
              go_wp2
              go_quiet (fail)
              go_wp2
              go_ret
              exact ⟨ret_bool HF.out, below_drewN (Below.refl _ _) _⟩
          · have t0 : decide (xi < xj) = false := decide_eq_false hx
            have HF : Hid (false = wiB ms [(i : Int), (j : Int), (k : Int)]) := Lib.hid (by rw [HE.out, t0]; rfl)
            clear hx
            go_wp2
            go_quiet (fail)
            go_wp2
            go_ret
            exact ⟨ret_bool HF.out, below_drewN (Below.refl _ _) _⟩
        · have t3 : ((l.length : Int) == 3) = false := by simp; omega
          have HF : Hid (false = wiB ms l) := Lib.hid (by rw [wiB, wiS_other h2 h3, Bool.and_false])
          clear h2 h3
          go_wp2
          go_ret
          exact ⟨ret_bool HF.out, Below.refl _ _⟩

/-- What tells says of a witness. -/
theorem tells_any (ms : List (Int × Int)) (A : Option Addr) (c : Nat) (l : List Int) (B : Option Addr) (cb : Nat) (w : World) (h : Clk w A c ms) (hB : Ints w B l) (hv : ∀ q ∈ ms, ptB q = true) (hw : wiB ms l = true) :
    Calls Try.prog 75 #[.slice A ms.length c, .slice B l.length cb] w fun e w' => e = .returned (.agg #[.int .i64 (tlV ms l).1, .int .i64 (tlV ms l).2]) ∧ Below w.heap.size w w' := by
  rw [wiB, Bool.and_eq_true] at hw
  obtain ⟨h1, h2⟩ := hw
  by_cases l2 : l.length = 2
  · obtain ⟨a, b, rfl⟩ := len_two l2
    obtain ⟨i, rfl, hi⟩ := inL_mem h1 (show a ∈ [a, b] by simp)
    obtain ⟨j, rfl, hj⟩ := inL_mem h1 (show b ∈ [(i : Int), b] by simp)
    exact tells2_any ms A c i j B cb w h hv hB hi hj
  · by_cases l3 : l.length = 3
    · obtain ⟨a, b, d, rfl⟩ := len_three l3
      obtain ⟨i, rfl, hi⟩ := inL_mem h1 (show a ∈ [a, b, d] by simp)
      obtain ⟨j, rfl, hj⟩ := inL_mem h1 (show b ∈ [(i : Int), b, d] by simp)
      obtain ⟨k, rfl, hk⟩ := inL_mem h1 (show d ∈ [(i : Int), (j : Int), d] by simp)
      simp only [wiS, Bool.and_eq_true, decide_eq_true_eq] at h2
      exact tells3_any ms A c i j k B cb w h hv hB hi hj hk (by
        have e1 : ptK ms (i : Int) = ptN ms i := by unfold ptK ptN; rw [Int.toNat_natCast]
        have e2 : ptK ms (k : Int) = ptN ms k := by unfold ptK ptN; rw [Int.toNat_natCast]
        rw [← e1, ← e2]; omega)
    · rw [wiS_other l2 l3] at h2; cases h2
def teV (ms : List (Int × Int)) (l : List Int) : Int × Int := if viP ms && wiB ms l then tlV ms l else (0, 0)
def teE (ms : List (Int × Int)) (l : List Int) : Int := if viP ms then (if wiB ms l then 0 else 2) else 50
end Go.Proofs.Ytoilbgngefleiaa
