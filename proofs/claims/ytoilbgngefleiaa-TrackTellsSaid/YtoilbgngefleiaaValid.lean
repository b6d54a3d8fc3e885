/-
  Contracts: within, placed with its function literal, IndexFunc and ContainsFunc at points, Valid, ValidLine (track).
-/
import Derived.Test.YtoilbgngefleiaaPairs
import Derived.Shelf.Abstract
namespace Go.Proofs.Ytoilbgngefleiaa
open Go.RowKit Go.Shelf

def inB (m : Int) (x : Int) : Bool := decide (-m ≤ x ∧ x ≤ m)
theorem in_low {m x : Int} (h : x < -m) : inB m x = false := by simp [inB]; omega
theorem in_high {m x : Int} (h : m < x) : inB m x = false := by simp [inB]; omega
theorem in_ok {m x : Int} (h : ¬ x < -m) (h2 : ¬ m < x) : inB m x = true := by simp [inB]; omega

set_option maxRecDepth 100000 in
theorem within_any (m : Int) (ns : List Int) (A : Option Addr) (c : Nat) (w : World) (hm0 : 0 ≤ m) (hm1 : m ≤ 1000000000) (h : Ints w A ns) (hl : ns.length ≤ maxLen) :
    Calls Try.prog 65 #[.int .i64 m, .slice A ns.length c] w fun e w' => e = .returned (.bool (ns.all (inB m))) ∧ ∃ n, w' = w.drewN n := by
  unfold maxLen at hl
  have H := Lib.hid h
  clear h
  go_enter Try.func65, Try.ntmps65
  go_wp2
  go_loopw [9] (fun i wr => ∃ k n : Nat, k ≤ ns.length ∧ i = .int .i64 k ∧ wr = w.drewN n ∧ Hid ((ns.take k).all (inB m) = true)) (fun i _ => ns.length - (intOf i).toNat)
  case atStart => exact ⟨0, 0, Nat.zero_le _, rfl, rfl, rfl⟩
  case round =>
    obtain ⟨k, n, hk, rfl, rfl, hall⟩ := hrel
    by_cases hlt : k < ns.length
    · obtain ⟨ad, z, rfl, hbk, hz, hc⟩ := H.out.get hlt
      by_cases h1 : z < -m
      · have HZ : Hid (inB m z = false) := in_low h1
        have t1 : decide (z < -m) = true := decide_eq_true h1
        go_wp2
        go_ret
        exact ⟨ret_bool (all_not hz.out HZ.out).symm, _, rfl⟩
      · have t1 : decide (z < -m) = false := decide_eq_false h1
        by_cases h2 : m < z
        · have HZ : Hid (inB m z = false) := in_high h2
          have t2 : decide (m < z) = true := decide_eq_true h2
          go_wp2
          go_ret
          exact ⟨ret_bool (all_not hz.out HZ.out).symm, _, rfl⟩
        · have HZ : Hid (inB m z = true) := in_ok h1 h2
          have t2 : decide (m < z) = false := decide_eq_false h2
          go_wp2
          go_roundw
          case rel => exact ⟨k + 1, n, by omega, by go_num, rfl, (by rw [all_snoc hz.out, hall.out, HZ.out]; rfl : (ns.take (k + 1)).all (inB m) = true)⟩
          case measure => simp [intOf]; omega
    · go_wp2
      go_ret
      exact ⟨ret_bool (by rw [← all_full (p := inB m) (show ns.length ≤ k by omega), hall.out]), _, rfl⟩

theorem Ints.one {w : World} {g : Nat} {x : Int} (h : w.cell? ⟨g, 0, none⟩ = some (.int .i64 x)) : Ints w (some ⟨g, 0, none⟩) [x] :=
  ⟨rfl, fun _ => ⟨_, rfl, World.block_lt_of_cell? w _ h, fun j u hj => by
    obtain rfl : j = 0 := by have := (List.getElem?_eq_some_iff.1 hj).1; simp at this; exact this
    simp at hj; subst hj; exact h⟩⟩

/-- Coordinates in range. -/
def ptB (p : Int × Int) : Bool := inB 100 p.1 && inB 1000 p.2
set_option maxRecDepth 100000 in
theorem placedLit_any (a b : Int) (w : World) :
    Calls Try.prog 91 #[.agg #[.int .i64 a, .int .i64 b]] w fun e w' => e = .returned (.bool (!ptB (a, b))) ∧ Below w.heap.size w w' := by
  have TA : Hid True := Lib.hid trivial
  cases h1 : inB 100 a with
  | false =>
    have H1 : Hid ([a].all (inB 100) = false) := Lib.hid (by simp [h1])
    have HP : Hid (ptB (a, b) = false) := Lib.hid (by simp [ptB, h1])
    clear h1
    go_enter Try.func91, Try.ntmps91
    go_wp2_with (go_at_call 65; refine (within_any 100 [a] (some ⟨w.heap.size + 1, 0, none⟩) 1 _ (by omega) (by omega) (Ints.one (by go_simp)) (by simp [maxLen])).mono ?_; rintro e w1 ⟨rfl, n, rfl⟩; rw [H1.out])
    go_ret
    exact ⟨ret_bool (by rw [HP.out]; rfl), (by repeat (first | with_reducible exact Below.refl _ _ | with_reducible assumption | refine below_drewN ?_ _ | with_reducible refine Below.drew ?_ | (refine Below.setCell ?_ (by first | (simp; done) | (simp; omega) | omega) _) | (refine Below.alloc ?_ (by first | (simp; done) | (simp; omega) | omega) _)))⟩
  | true =>
    have H1 : Hid ([a].all (inB 100) = true) := Lib.hid (by simp [h1])
    have HP : Hid (ptB (a, b) = [b].all (inB 1000)) := Lib.hid (by simp [ptB, h1])
    clear h1
    go_enter Try.func91, Try.ntmps91
    go_wp2_with (first
      | (go_at_call 65; clear TA; refine (within_any 100 [a] (some ⟨w.heap.size + 1, 0, none⟩) 1 _ (by omega) (by omega) (Ints.one (by go_simp)) (by simp [maxLen])).mono ?_; rintro e w1 ⟨rfl, n, rfl⟩; rw [H1.out])
      | (go_at_call 65; refine (within_any 1000 [b] _ 1 _ (by omega) (by omega) (Ints.one (by go_simp)) (by simp [maxLen])).mono ?_; rintro e w1 ⟨rfl, n2, rfl⟩))
    go_ret
    exact ⟨ret_bool (by rw [HP.out]; simp), (by repeat (first | with_reducible exact Below.refl _ _ | with_reducible assumption | refine below_drewN ?_ _ | with_reducible refine Below.drew ?_ | (refine Below.setCell ?_ (by first | (simp; done) | (simp; omega) | omega) _) | (refine Below.alloc ?_ (by first | (simp; done) | (simp; omega) | omega) _)))⟩

/-- What is asked of a function value that says yes or no to a layer of a list. -/
def KeepAtM (g : Nat) (lb : Array Value) (p : Int × Int → Bool) (w : World) : Prop :=
  ∀ (W : World) (a b : Int), Below w.heap.size w W → Calls Try.prog g (#[.agg #[.int .i64 a, .int .i64 b]] ++ lb) W fun e w' => e = .returned (.bool (p (a, b))) ∧ Below W.heap.size W w'

set_option maxRecDepth 100000 in
set_option maxHeartbeats 400000 in
theorem indexM_any (g : Nat) (lb : Array Value) (p : Int × Int → Bool) (eg : ∀ args w, (callFunc g args).run Try.prog w = .ok (.enter g args) w) (ms : List (Int × Int)) (A : Option Addr) (c : Nat) (w : World) (hK : KeepAtM g lb p w) (h : Marks w A ms) (hn : ms.length ≤ 1000) :
    Calls Try.prog 92 #[.slice A ms.length c, .func (.func g) #[] lb] w fun e w' => ∃ r : Int, e = .returned (.int .i64 r) ∧ Below w.heap.size w w' ∧ -1 ≤ r ∧ r ≤ 1000 ∧ Hid (decide (0 ≤ r) = ms.any p) := by
  have H := Lib.hid h
  have HK := Lib.hid hK
  clear h hK
  go_enter Try.func92, Try.ntmps92
  go_wp2
  go_loopw [8] (fun i wr => ∃ k : Nat, k ≤ ms.length ∧ i = .int .i64 k ∧ Hid ((ms.take k).any p = false) ∧ Below w.heap.size w wr) (fun i _ => ms.length - (intOf i).toNat)
  case atStart => exact ⟨0, Nat.zero_le _, rfl, rfl, Below.refl _ _⟩
  case round =>
    obtain ⟨k, hk, rfl, hno, hB⟩ := hrel
    by_cases hlt : k < ms.length
    · obtain ⟨bl, off, rfl, hbk, hcells⟩ := H.out.open_ (show 0 < ms.length by omega)
      obtain ⟨a, b, hx⟩ := getM_of_lt hlt
      have f0 := (hB.cell (p := ⟨bl, off + k * 2, none⟩) hbk).trans (hcells _ _ hx).1
      have f1 := (hB.cell (p := ⟨bl, off + k * 2 + 1, none⟩) hbk).trans (hcells _ _ hx).2
      have hcall := HK.out wr a b hB
      have HX := Lib.hid hx
      clear hx hcells
      cases hp : p (a, b) with
      | true =>
        rw [hp] at hcall
        have HP := Lib.hid hp
        clear hp
        go_wp2_with (go_at_fn g; refine hcall.mono ?_; rintro e w3 ⟨rfl, hB3⟩; have hW3 : Below w.heap.size w w3 := below_step hB hB3)
        go_ret
        refine ⟨k, rfl, hW3, by omega, by omega, ?_⟩
        show _ = _
        rw [List.any_eq_true.2 ⟨_, List.mem_of_getElem? HX.out, HP.out⟩]
        exact decide_eq_true (by omega)
      | false =>
        rw [hp] at hcall
        have HP := Lib.hid hp
        clear hp
        go_wp2_with (go_at_fn g; refine hcall.mono ?_; rintro e w3 ⟨rfl, hB3⟩; have hW3 : Below w.heap.size w w3 := below_step hB hB3)
        go_roundw
        case rel => exact ⟨k + 1, by omega, by go_num, (by rw [any_snoc HX.out, hno.out, HP.out]; rfl : (ms.take (k + 1)).any p = false), hW3⟩
        case measure => simp [intOf]; omega
    · obtain rfl : k = ms.length := by omega
      go_wp2
      go_ret
      refine ⟨-1, rfl, hB, by omega, by omega, ?_⟩
      have := hno.out
      rw [List.take_length] at this
      show _ = _
      rw [this]; rfl
theorem containsM_any (g : Nat) (lb : Array Value) (p : Int × Int → Bool) (eg : ∀ args w, (callFunc g args).run Try.prog w = .ok (.enter g args) w) (ms : List (Int × Int)) (A : Option Addr) (c : Nat) (w : World) (hK : KeepAtM g lb p w) (h : Marks w A ms) (hn : ms.length ≤ 1000) :
    Calls Try.prog 63 #[.slice A ms.length c, .func (.func g) #[] lb] w fun e w' => e = .returned (.bool (ms.any p)) ∧ Below w.heap.size w w' := by
  have H := Lib.hid h
  have HK := Lib.hid hK
  clear h hK
  go_enter Try.func63, Try.ntmps63
  go_wp2_with (go_at_call 92; refine (indexM_any g lb p eg ms A c _ HK.out H.out hn).mono ?_; rintro e w1 ⟨r, rfl, hB, h0, h1, hr⟩)
  all_goals
    go_ret
    exact ⟨ret_bool (by rw [← hr.out]; try (simp; try omega)), hB⟩


set_option maxRecDepth 100000 in
theorem placed_any (ms : List (Int × Int)) (A : Option Addr) (c : Nat) (w : World) (h : Marks w A ms) (hl : ms.length ≤ 1000) :
    Calls Try.prog 62 #[.slice A ms.length c] w fun e w' => e = .returned (.bool (ms.all ptB)) ∧ Below w.heap.size w w' := by
  have H := Lib.hid h
  have eg : ∀ args w, (callFunc 91 args).run Try.prog w = .ok (.enter 91 args) w := enters_of Try.func91 (by kernel_rfl) rfl
  have HK : Hid (KeepAtM 91 #[] (fun m => !ptB m) w) := fun W a b _ => placedLit_any a b W
  have HA : Hid ((!ms.any fun m => !ptB m) = ms.all ptB) := Lib.hid (by
    rw [Bool.eq_iff_iff]; simp)
  clear h
  go_enter Try.func62, Try.ntmps62
  go_wp2_with (go_at_call 63; refine (containsM_any _ #[] _ eg ms A c _ HK.out H.out (by omega)).mono ?_; rintro e w1 ⟨rfl, hB⟩)
  go_ret
  exact ⟨ret_bool HA.out, hB⟩

/-- What the function literal of Valid has caught: the points. -/
def CatchP (B : Nat) (x : Int) (w : World) : Prop := ∃ (b o n c : Nat), B < w.heap.size ∧ b < w.heap.size ∧ 0 < n ∧ w.cell? ⟨B, 0, none⟩ = some (.slice (some ⟨b, o, none⟩) n c) ∧ w.cell? ⟨b, o, none⟩ = some (.int .i64 x)
set_option maxRecDepth 100000 in
theorem validLit_any (B : Nat) (x a b : Int) (w : World) (h : CatchP B x w) :
    Calls Try.prog 64 #[.agg #[.int .i64 a, .int .i64 b], .pointer (some ⟨B, 0, none⟩)] w fun e w' => e = .returned (.bool (decide (a ≠ x))) ∧ Below w.heap.size w w' := by
  obtain ⟨bl, o, n, c, hB, hb, hn, c0, c1⟩ := h
  have i0 : (0 : Int) < (n : Int) := by omega
  have hne1 : w.heap.size ≠ B := by omega
  have hne2 : w.heap.size ≠ bl := by omega
  go_enter Try.func64, Try.ntmps64
  go_wp2
  go_quiet (fail)
  go_wp2
  go_ret
  exact ⟨ret_bool (by rw [Bool.eq_iff_iff]; simp), (by repeat (first | with_reducible exact Below.refl _ _ | with_reducible assumption | refine below_drewN ?_ _ | with_reducible refine Below.drew ?_ | (refine Below.setCell ?_ (by first | (simp; done) | (simp; omega) | omega) _) | (refine Below.alloc ?_ (by first | (simp; done) | (simp; omega) | omega) _)))⟩
end Go.Proofs.Ytoilbgngefleiaa
