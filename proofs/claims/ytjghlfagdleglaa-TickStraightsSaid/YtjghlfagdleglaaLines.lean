/-
  Contracts: Equal, lines, firstLocal, firstTrue.
-/
import Derived.Test.YtjghlfagdleglaaJoined
namespace Go.Proofs.Ytjghlfagdleglaa
open Go.RowKit

/-- A clock as it is handed from call to call. -/
structure Clk (w : World) (A : Option Addr) (c : Nat) (ms : List (Int × Int)) : Prop where
  marks : Marks w A ms
  le : ms.length ≤ c
  cap : c ≤ maxLen
theorem Clk.nil_ {w : World} {A : Option Addr} : Clk w A 0 [] := ⟨Marks.nil_, Nat.le_refl _, Nat.zero_le _⟩
theorem Clk.below {w w' : World} {A : Option Addr} {c : Nat} {ms : List (Int × Int)} (h : Clk w A c ms) (hb : Below w.heap.size w w') : Clk w' A c ms := ⟨h.marks.below hb, h.le, h.cap⟩
theorem Clk.len {w : World} {A : Option Addr} {c : Nat} {ms : List (Int × Int)} (h : Clk w A c ms) : ms.length ≤ maxLen := Nat.le_trans h.le h.cap

abbrev Quad := (Int × Int) × (Int × Int)
def mk4 (q : Quad) : List Value := [.int .i64 q.1.1, .int .i64 q.1.2, .int .i64 q.2.1, .int .i64 q.2.2]
def Quads (w : World) (A : Option Addr) (qs : List Quad) : Prop := Reads w w.heap.size 4 A qs.length (qs.flatMap mk4)
theorem flat4_get : ∀ (qs : List Quad) (k : Nat) (q : Quad), qs[k]? = some q →
    (qs.flatMap mk4)[4 * k]? = some (.int .i64 q.1.1) ∧ (qs.flatMap mk4)[4 * k + 1]? = some (.int .i64 q.1.2) ∧ (qs.flatMap mk4)[4 * k + 2]? = some (.int .i64 q.2.1) ∧ (qs.flatMap mk4)[4 * k + 3]? = some (.int .i64 q.2.2)
  | [], k, q, h => by simp at h
  | a :: t, 0, q, h => by simp at h; subst h; simp [mk4]
  | a :: t, k + 1, q, h => by
    have := flat4_get t k q (by simpa using h)
    rw [show 4 * (k + 1) = 4 * k + 4 by omega]
    simpa [mk4] using this
theorem Quads.below {w w' : World} {A : Option Addr} {qs : List Quad} (h : Quads w A qs) (hb : Below w.heap.size w w') : Quads w' A qs := (Reads.below h hb).more hb.size
theorem Quads.open_ {w : World} {A : Option Addr} {qs : List Quad} (h : Quads w A qs) (hn : 0 < qs.length) :
    ∃ b o, A = some ⟨b, o, none⟩ ∧ b < w.heap.size ∧ ∀ (k : Nat) (q : Quad), qs[k]? = some q →
      w.cell? ⟨b, o + k * 4, none⟩ = some (.int .i64 q.1.1) ∧ w.cell? ⟨b, o + k * 4 + 1, none⟩ = some (.int .i64 q.1.2) ∧ w.cell? ⟨b, o + k * 4 + 2, none⟩ = some (.int .i64 q.2.1) ∧ w.cell? ⟨b, o + k * 4 + 3, none⟩ = some (.int .i64 q.2.2) := by
  obtain ⟨ad, e, hb, hall⟩ := h.2 hn
  obtain ⟨q0, hq0⟩ : ∃ q, qs[0]? = some q := ⟨_, List.getElem?_eq_getElem hn⟩
  have hc := hall 0 _ (flat4_get qs 0 q0 hq0).1
  obtain ⟨b, o, s⟩ := ad
  have hs : s = none := by simpa [Addr.add] using World.cell?_spot hc
  subst hs
  refine ⟨b, o, e, hb, fun k q hq => ?_⟩
  have h2 := flat4_get qs k q hq
  rw [Nat.mul_comm k 4, Nat.add_assoc, Nat.add_assoc, Nat.add_assoc, ← add_mk, ← add_mk, ← add_mk, ← add_mk]
  exact ⟨hall _ _ h2.1, hall _ _ h2.2.1, hall _ _ h2.2.2.1, hall _ _ h2.2.2.2⟩

theorem ne_lenM {xs ys : List (Int × Int)} (h : xs.length ≠ ys.length) : false = decide (xs = ys) := by
  rw [eq_comm, decide_eq_false_iff_not]; rintro rfl; exact h rfl
theorem ne_atM {xs ys : List (Int × Int)} {k : Nat} {x y : Int × Int} (hx : xs[k]? = some x) (hy : ys[k]? = some y) (h : x ≠ y) : false = decide (xs = ys) := by
  rw [eq_comm, decide_eq_false_iff_not]; rintro rfl; rw [hx] at hy; exact h (Option.some.inj hy)
theorem eq_nextM {xs ys : List (Int × Int)} {k : Nat} {x y : Int × Int} (hx : xs[k]? = some x) (hy : ys[k]? = some y) (h : x = y) (ht : xs.take k = ys.take k) : xs.take (k + 1) = ys.take (k + 1) := by
  rw [take_snoc hx, take_snoc hy, ht, h]
theorem eq_endM {xs ys : List (Int × Int)} {k : Nat} (hl : xs.length = ys.length) (hk : xs.length ≤ k) (ht : xs.take k = ys.take k) : true = decide (xs = ys) := by
  rw [List.take_of_length_le hk, List.take_of_length_le (by omega)] at ht; simp [ht]

set_option maxRecDepth 100000 in
theorem equal_any (xs ys : List (Int × Int)) (A B : Option Addr) (c d : Nat) (w : World) (hA : Marks w A xs) (hB : Marks w B ys) (hl : xs.length ≤ maxLen) :
    Calls Try.prog 42 #[.slice A xs.length c, .slice B ys.length d] w fun e w' => e = .returned (.bool (decide (xs = ys))) ∧ ∃ n, w' = w.drewN n := by
  unfold maxLen at hl
  have HA := Lib.hid hA
  have HB := Lib.hid hB
  clear hA hB
  by_cases hlen : xs.length = ys.length
  · have HL := Lib.hid hlen
    have hn : (((xs.length : Int) != (ys.length : Int)) = false) := by rw [hlen]; simp
    have hle : xs.length ≤ ys.length := by omega
    clear hlen
    go_enter Try.func42, Try.ntmps42
    go_wp2
    go_loopw [5, 13] (fun _ i wr => ∃ k m : Nat, k ≤ xs.length ∧ i = .int .i64 k ∧ wr = w.drewN m ∧ Hid (xs.take k = ys.take k)) (fun _ i _ => xs.length - (intOf i).toNat)
    case atStart => exact ⟨0, 0, Nat.zero_le _, rfl, rfl, rfl⟩
    case round =>
      obtain ⟨k, m, hk, rfl, rfl, ht⟩ := hrel
      by_cases hlt : k < xs.length
      · obtain ⟨bl, off, rfl, _, hc⟩ := HA.out.open_ (show 0 < xs.length by omega)
        obtain ⟨bl2, off2, rfl, _, hd⟩ := HB.out.open_ (show 0 < ys.length by omega)
        obtain ⟨a, b, hx⟩ := getM_of_lt hlt
        obtain ⟨a2, b2, hy⟩ := getM_of_lt (show k < ys.length by omega)
        have hlt2 : k < ys.length := by omega
        have c1 := (hc k _ hx).1
        have c2 := (hc k _ hx).2
        have c3 := (hd k _ hy).1
        have c4 := (hd k _ hy).2
        have HX := Lib.hid hx
        have HY := Lib.hid hy
        clear hx hy hc hd
        by_cases h1 : a = a2
        · subst h1
          by_cases h2 : b = b2
          · subst h2
            go_wp2
            go_quiet (fail)
            go_wp2
            go_roundw
            case rel => exact ⟨k + 1, _, by omega, by go_num, rfl, eq_nextM HX.out HY.out rfl ht.out⟩
            case measure => simp [intOf]; omega
          · have t2 : (b == b2) = false := by simpa using h2
            go_wp2
            go_quiet (fail)
            go_wp2
            go_ret
            exact ⟨ret_bool (ne_atM HX.out HY.out (by simpa using h2)), _, World.drewN_drewN _ _ _⟩
        · have t1 : (a == a2) = false := by simpa using h1
          go_wp2
          go_quiet (fail)
          go_wp2
          go_ret
          exact ⟨ret_bool (ne_atM HX.out HY.out (by simp; intro h; exact absurd h h1)), _, World.drewN_drewN _ _ _⟩
      · go_wp2
        go_ret
        exact ⟨ret_bool (eq_endM HL.out (by omega) ht.out), m, rfl⟩
  · have hn : (((xs.length : Int) != (ys.length : Int)) = true) := by simp; omega
    have HL := Lib.hid hlen
    clear hlen
    go_enter Try.func42, Try.ntmps42
    go_wp2
    go_ret
    exact ⟨ret_bool (ne_lenM HL.out), 0, rfl⟩

theorem firstLocal_any (a b c d : Int) (w : World) :
    Calls Try.prog 68 #[.agg #[.int .i64 a, .int .i64 b, .int .i64 c, .int .i64 d]] w fun e w' => e = .returned (.int .i64 a) ∧ Below w.heap.size w w' := by
  go_enter Try.func68, Try.ntmps68
  go_wp2
  go_ret
  exact ⟨rfl, (by repeat (first | with_reducible exact Below.refl _ _ | with_reducible assumption | refine below_drewN ?_ _ | with_reducible refine Below.drew ?_ | (refine Below.setCell ?_ (by first | (simp; done) | (simp; omega) | omega) _) | (refine Below.alloc ?_ (by first | (simp; done) | (simp; omega) | omega) _)))⟩
theorem firstTrue_any (a b c d : Int) (w : World) :
    Calls Try.prog 65 #[.agg #[.int .i64 a, .int .i64 b, .int .i64 c, .int .i64 d]] w fun e w' => e = .returned (.int .i64 b) ∧ Below w.heap.size w w' := by
  go_enter Try.func65, Try.ntmps65
  go_wp2
  go_ret
  exact ⟨rfl, (by repeat (first | with_reducible exact Below.refl _ _ | with_reducible assumption | refine below_drewN ?_ _ | with_reducible refine Below.drew ?_ | (refine Below.setCell ?_ (by first | (simp; done) | (simp; omega) | omega) _) | (refine Below.alloc ?_ (by first | (simp; done) | (simp; omega) | omega) _)))⟩

def segs (ms : List (Int × Int)) (n : Nat) : List Quad := (List.range n).map fun i => (ms.getD i (0, 0), ms.getD (i + 1) (0, 0))
theorem segs_len (ms : List (Int × Int)) (n : Nat) : (segs ms n).length = n := by simp [segs]
theorem getDM {ms : List (Int × Int)} {k : Nat} {m : Int × Int} (h : ms[k]? = some m) : ms.getD k (0, 0) = m := by rw [List.getD_eq_getElem?_getD, h]; rfl
theorem segs_succ {ms : List (Int × Int)} {k : Nat} {x y : Int × Int} (hx : ms[k]? = some x) (hy : ms[k + 1]? = some y) : segs ms (k + 1) = segs ms k ++ [(x, y)] := by
  simp [segs, List.range_succ, hx, hy]
theorem segs_get {ms : List (Int × Int)} {n k : Nat} {x y : Int × Int} (hk : k < n) (hx : ms[k]? = some x) (hy : ms[k + 1]? = some y) : (segs ms n)[k]? = some (x, y) := by
  rw [segs, List.getElem?_map, List.getElem?_range hk, Option.map_some, getDM hx, getDM hy]

theorem line_info : (Try.prog.info? 70).map (fun i => (i.zero, i.size, i.bytes)) = some (some (.agg #[.int .i64 0, .int .i64 0, .int .i64 0, .int .i64 0]), 4, 32) := by kernel_rfl
end Go.Proofs.Ytjghlfagdleglaa
