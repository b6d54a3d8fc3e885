/-
  Contracts for TopCone: the reference at valid hits, First, the first of the layers, inside.
-/
import Derived.Test.YtmlkdjcjfkfdiaaBothC
import Derived.Test.YtmlkdjcjfkfdiaaTopM
namespace Go.Proofs.Ytmlkdjcjfkfdiaa
open Go.RowKit Go.Shelf

section
variable {ms : List (Int × Int)} {A : Option Addr} {c : Nat} {w : World}
theorem ref_6 (h : Clk w A c ms) (hv : vhB ms = true) {l : List Int} {A2 : Option Addr} {c2 : Nat} (hO : Ints w A2 l) (hl : l.length ≤ maxLen) {n : Nat} (hn : l.length = n) {b : Bool} (hb : ischB ms l = b) : ∀ W, Below w.heap.size w W → Calls Try.prog 29 #[.slice A ms.length c, .slice A2 n c2] W fun e w' => e = .returned (.tuple #[.bool b, .int .i64 0]) ∧ Below W.heap.size W w' := fun W hB => by
  have q := refConeIsChain_any ms A c l A2 c2 W (h.below hB) (hO.below hB) hl
  rw [hn] at q
  exact q.mono fun e w' ⟨x, E, he, hB', hF⟩ => ⟨by rw [he, hF.out.1, hF.out.2, hitsE_yes hv, ischF_yes hv, hb], hB'⟩
theorem ref_8 (h : Clk w A c ms) (hv : vhB ms = true) {l : List Int} {A2 : Option Addr} {c2 : Nat} (hO : Ints w A2 l) (hl : l.length ≤ maxLen) {n : Nat} (hn : l.length = n) {b : Bool} (hb : islB ms l = b) : ∀ W, Below w.heap.size w W → Calls Try.prog 41 #[.slice A ms.length c, .slice A2 n c2] W fun e w' => e = .returned (.tuple #[.bool b, .int .i64 0]) ∧ Below W.heap.size W w' := fun W hB => by
  have q := refConeIsLayer_any ms A c l A2 c2 W (h.below hB) (hO.below hB) hl
  rw [hn] at q
  exact q.mono fun e w' ⟨x, E, he, hB', hF⟩ => ⟨by rw [he, hF.out.1, hF.out.2, hitsE_yes hv, islF_yes hv, hb], hB'⟩
theorem ref_7 (h : Clk w A c ms) (hv : vhB ms = true) {l : List (List Int)} {A2 : Option Addr} {c2 : Nat} (hO : Tabs w A2 l) (hl : l.length ≤ maxLen) {n : Nat} (hn : l.length = n) {b : Bool} (hb : aryB ms l = b) : ∀ W, Below w.heap.size w W → Calls Try.prog 36 #[.slice A ms.length c, .slice A2 n c2] W fun e w' => e = .returned (.tuple #[.bool b, .int .i64 0]) ∧ Below W.heap.size W w' := fun W hB => by
  have q := refConeAreLayers_any ms A c l A2 c2 W (h.below hB) (hO.below hB) hl
  rw [hn] at q
  exact q.mono fun e w' ⟨x, E, he, hB', hF⟩ => ⟨by rw [he, hF.out.1, hF.out.2, hitsE_yes hv, aryF_yes hv, hb], hB'⟩
theorem ref_9 (h : Clk w A c ms) (hv : vhB ms = true) {l : List (List Int)} {A2 : Option Addr} {c2 : Nat} (hO : Tabs w A2 l) (hl : l.length ≤ maxLen) {n : Nat} (hn : l.length = n) {b : Bool} (hb : thyB ms l = b) : ∀ W, Below w.heap.size w W → Calls Try.prog 43 #[.slice A ms.length c, .slice A2 n c2] W fun e w' => e = .returned (.tuple #[.bool b, .int .i64 0]) ∧ Below W.heap.size W w' := fun W hB => by
  have q := refConeAreThreads_any ms A c l A2 c2 W (h.below hB) (hO.below hB) hl
  rw [hn] at q
  exact q.mono fun e w' ⟨x, E, he, hB', hF⟩ => ⟨by rw [he, hF.out.1, hF.out.2, hitsE_yes hv, thyF_yes hv, hb], hB'⟩
theorem both_1 (h : Clk w A c ms) (hv : vhB ms = true) {n3 : Nat} (e4 : (firstL ms).length = n3) : Calls Try.prog 24 #[.slice A ms.length c] w fun e w' => ∃ (A' : Option Addr) (c' : Nat) (ys : List Int), e = .returned (.tuple #[.slice A' n3 c', .int .i64 0]) ∧ Out w' A' c' ys ∧ Below w.heap.size w w' ∧ Hid (ys = firstL ms) :=
  (coneFirst_any ms A c w h).mono fun e w' ⟨A', c', ys, E, he, hO, hB, hF⟩ => by
    have hy : ys = firstL ms := by rw [hF.out.1, firstF, hv]; rfl
    exact ⟨A', c', ys, by rw [he, hF.out.2, hitsE_yes hv, hy, e4], hO, hB, hy⟩
theorem same_n {xs ys : List Int} {A B : Option Addr} {c d n : Nat} (hx : xs = ys) (hn : ys.length = n) (hA : Ints w A xs) (hB : Ints w B ys) (hl : ys.length ≤ maxLen) : ∀ W, Below w.heap.size w W →
    Calls Try.prog 23 #[.slice A n c, .slice B n d] W fun e w' => e = .returned (.bool true) ∧ Below W.heap.size W w' := fun W hW => by
  subst hx
  have q := sameInts_any xs xs A B c d W (hA.below hW) (hB.below hW) hl
  rw [hn] at q
  exact q.mono fun e w' ⟨he, n, hw⟩ => ⟨by rw [he]; simp, by rw [hw]; exact below_drewN (Below.refl _ _) n⟩
end
/-- The first of the layers, as it lies in the table. -/
theorem layers_cell {ms : List (Int × Int)} {w : World} {A : Option Addr} {c : Nat} {Ts : List (List Int)} (hn : 1 ≤ ms.length) (h : TOut w A c Ts) (hT : Ts = layersL ms) {n3 : Nat} (e4 : (firstL ms).length = n3) :
    ∃ (b o : Nat) (B : Option Addr) (cB : Nat), A = some ⟨b, o, none⟩ ∧ b < w.heap.size ∧ w.cell? ⟨b, o, none⟩ = some (.slice B n3 cB) ∧ Out w B cB (firstL ms) := by
  obtain ⟨Us, hU⟩ := layers_first hn
  rw [hU] at hT
  subst hT
  obtain ⟨b, o, e, hb, hall⟩ := h.tabs (by simp)
  obtain ⟨B, cB, h1, h2⟩ := hall 0 (firstL ms) (by simp)
  rw [Nat.add_zero, e4] at h1
  exact ⟨b, o, B, cB, e, hb, h1, h2⟩
set_option maxRecDepth 100000 in
theorem inside_any (zs : List Int) (A : Option Addr) (c : Nat) (x : Int) (w : World) (h : Ints w A zs) (hl : zs.length ≤ 1000) :
    Calls Try.prog 57 #[.slice A zs.length c, .int .i64 x] w fun e w' => e = .returned (.bool (zs.contains x)) ∧ w = w' := by
  have H := Lib.hid h
  clear h
  go_enter Try.func57, Try.ntmps57
  go_wp2
  go_loop [5] (fun i => ∃ k : Nat, k ≤ zs.length ∧ i = .int .i64 k ∧ Hid (∀ z ∈ zs.take k, z ≠ x)) (fun i => zs.length - (intOf i).toNat)
  case atStart => exact ⟨0, Nat.zero_le _, rfl, Lib.hid (by intro z hz; simp at hz)⟩
  case round =>
    obtain ⟨k, hk, rfl, ha⟩ := hrel
    by_cases hlt : k < zs.length
    · obtain ⟨ad, z, rfl, hbk, hz, hc⟩ := H.out.get hlt
      have HZ := Lib.hid hz.out
      clear hz
      by_cases h1 : z = x
      · subst h1
        have HX : Hid (true = zs.contains z) := Lib.hid (List.contains_iff_mem.2 (List.mem_of_getElem? HZ.out)).symm
        go_wp2
        go_ret
        exact ⟨ret_bool (by have := HX.out; simpa using this), rfl⟩
      · have t1 : (z == x) = false := by simpa using h1
        have HN := Lib.hid h1
        clear h1
        have HA : Hid (∀ y ∈ zs.take (k + 1), y ≠ x) := Lib.hid (by
          intro y hy
          rw [List.take_add_one, HZ.out, Option.toList_some, List.mem_append, List.mem_singleton] at hy
          rcases hy with hy | rfl
          · exact ha.out y hy
          · exact HN.out)
        go_wp2
        go_round
        case rel => exact ⟨k + 1, by omega, by go_num, HA⟩
        case measure => simp [intOf]; omega
    · obtain rfl : k = zs.length := by omega
      have HC : Hid (false = zs.contains x) := Lib.hid (by
        rw [eq_comm, ← Bool.not_eq_true, List.contains_iff_mem]
        intro hm
        exact ha.out x (by rw [List.take_length]; exact hm) rfl)
      clear ha
      go_wp2
      go_ret
      exact ⟨ret_bool (by have := HC.out; simpa using this), rfl⟩
/-- The hits of the rest among the first k. -/
def restK (ms : List (Int × Int)) (k : Nat) : List (Int × Int) := ((allL k).filter fun a => !(firstL ms).contains a).map (hAt ms)
theorem restK_full (ms : List (Int × Int)) : restK ms ms.length = restM ms := rfl
theorem restK_in {ms : List (Int × Int)} {k : Nat} (h : (firstL ms).contains (k : Int) = true) : restK ms (k + 1) = restK ms k := by
  rw [restK, allL_succ, List.filter_append, List.filter_cons, h]; simp [restK]
theorem restK_out {ms : List (Int × Int)} {k : Nat} {m : Int × Int} (h : (firstL ms).contains (k : Int) = false) (hm : ms[k]? = some m) : restK ms (k + 1) = restK ms k ++ [(m.1, m.2)] := by
  rw [restK, allL_succ, List.filter_append, List.filter_cons, h, Bool.not_false, if_pos rfl, List.map_append, List.filter_nil, List.map_cons, List.map_nil, hAt_of hm]; rfl
theorem restK_len (ms : List (Int × Int)) (k : Nat) : (restK ms k).length ≤ k := by
  rw [restK, List.length_map]
  have := List.length_filter_le (fun a => !(firstL ms).contains a) (allL k)
  rw [allL_len] at this
  exact this
end Go.Proofs.Ytmlkdjcjfkfdiaa
