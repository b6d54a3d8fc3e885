/-
  Contract: stepsOf (wave); the builder, written so that other blocks stay.
-/
import Derived.Test.YtcmnjmhedmneiaaDoorRefPlan
import Derived.Shelf.Strings.BuilderK
namespace Go.Proofs.YtcmnjmhedmneiaaDoor
open Go.RowKit Go.Shelf

def stI (ks : List Nat) : List Int := ks.map fun (k : Nat) => (k : Int)
theorem stI_at {ks : List Nat} {m k : Nat} (h : ks[m]? = some k) : (stI ks)[m]? = some (k : Int) := by rw [stI, List.getElem?_map, h]; rfl
theorem stI_next {ks : List Nat} {m k : Nat} (h : ks[m]? = some k) : stI (ks.take (m + 1)) = stI (ks.take m) ++ [(k : Int)] := by
  rw [take_snoc h, stI, List.map_append]; rfl

set_option maxRecDepth 100000 in
set_option maxHeartbeats 1000000 in
theorem stepsOf_any (ws : List Int) (B : Option Addr) (c : Nat) (w : World) (h : Ints w B ws) (hl : ws.length ≤ 100) (hW : Wids w) :
    Calls Tryd.prog 86 #[.slice B ws.length c] w fun e w' => Below w.heap.size w w' ∧ ((kindsB ws = false ∧ e = .returned (.tuple #[.slice none 0 0, .bool false])) ∨ (kindsB ws = true ∧ ∃ (A' : Option Addr) (c' : Nat) (zs : List Int), e = .returned (.tuple #[.slice A' zs.length c', .bool true]) ∧ Out w' A' c' zs ∧ Hid (zs = stI (ksL ws)))) := by
  have H := Lib.hid h
  have HW := Lib.hid hW
  clear h hW
  go_enter Tryd.func86, Tryd.ntmps86
  go_wp2
  go_loopw [4, 11] (fun v i wr => ∃ m : Nat, m ≤ ws.length ∧ i = .int .i64 m ∧ ∃ xs : List Int, wr.ownsRow w.heap.size 3 1 v m (xs.map (Value.int .i64)) ∧ Below w.heap.size w wr ∧ Hid (xs = stI ((ksL ws).take m)) ∧ Hid ((ws.take m).all kindB = true)) (fun _ i _ => ws.length - (intOf i).toNat)
  case atStart => exact ⟨0, Nat.zero_le _, rfl, [], World.ownsRow_nil _ _ _ _, Below.refl _ _, Lib.hid rfl, Lib.hid rfl⟩
  case round =>
    obtain ⟨m, hm, rfl, xs, hown, hB, hX, hK⟩ := hrel
    by_cases hlt : m < ws.length
    · obtain ⟨ad, x, rfl, hbk, hx, hc⟩ := H.out.get hlt
      have f0 := (hB.cell (p := ad.add m) (by rw [block_of_add]; exact hbk)).trans hc
      have hstep := stepOf_any x wr (HW.out.below hB)
      cases hkb : kindB x with
      | false =>
        have HO : Hid (ksF x = none) := Lib.hid (by rw [kindB] at hkb; cases ho : ksF x with | none => rfl | some k => rw [ho] at hkb; cases hkb)
        have HKF : Hid (kindsB ws = false) := Lib.hid (by rw [kindsB, all_not hx.out hkb])
        have HST := Lib.hid hstep
        clear hkb hc hstep
        go_wp2_with (go_at_call 64; refine HST.out.mono ?_; rintro e w1 ⟨rfl, hB1⟩; have hW1 := below_step hB hB1; rw [HO.out, st_none])
        go_ret2
        exact ⟨hW1, .inl ⟨HKF.out, rfl⟩⟩
      | true =>
        have HO := Lib.hid (kind_of hkb).2.2
        have HNX := Lib.hid (all_snoc (p := kindB) hx.out)
        have HKB := Lib.hid hkb
        have HSN := Lib.hid (stI_next (ksL_at hx.out))
        have HST := Lib.hid hstep
        have HOW := Lib.hid hown
        clear hkb hc hstep hown
        go_wp2_with (first
          | (go_at_call 64; refine HST.out.mono ?_; rintro e w1 ⟨rfl, hB1⟩; have hW1 := below_step hB hB1; have hown1 := own_below HOW.out hB1; rw [HO.out, st_some])
          | (at_builtin; refine wp_app_int _ rfl (.tmp 22) (.tmp 24) rfl w.heap.size _ m xs _ rfl hown1 rfl (by omega) hW1.size ?_; intro v2 w2 hown2 hB2))
        go_roundw
        case rel => exact ⟨m + 1, by omega, by go_num, _, hown2, hW1.trans hB2, Lib.hid (by rw [HSN.out, hX.out]), Lib.hid (by rw [HNX.out, hK.out, HKB.out]; rfl)⟩
        case measure => simp [intOf]; omega
    · obtain rfl : m = ws.length := by omega
      go_wp2
      go_ret2
      obtain ⟨A', c', rfl, hO⟩ := own_ints hown
      exact ⟨hB, .inr ⟨by have h4 := hK.out; rwa [List.take_length] at h4, A', c', xs, rfl, hO, Lib.hid (by have h4 := hX.out; rwa [List.take_of_length_le (by rw [ksL, List.length_map]; exact Nat.le_refl _)] at h4)⟩⟩

/-! ### the builder -/
abbrev BuF (S : Nat) (l : List UInt8) (w : World) : Prop := Lib.IsBuilderF 85 5 S S (Lib.byteCells l) w
theorem strCells_eq (m : List UInt8) : Lib.strCells ⟨m.toArray⟩ = Lib.byteCells m := by
  simp [Lib.strCells, Lib.byteCells]
theorem ownF_below {w w3 : World} {base : Nat} {e : TypeId} {size n : Nat} {v : Value} {xs : List Value} (h : w.ownsRowF base e size v n xs) (hB : Below w.heap.size w w3) : w3.ownsRowF base e size v n xs :=
  h.kept (World.grownBy.mk hB.os hB.tape hB.output hB.size (fun i hi _ => hB.block i hi) : World.grownBy _ w3 none) (by cases hh : Value.ownBlock v with | none => exact .inl rfl | some g => exact .inr (by simp))
theorem builderAtF_lt {T e : TypeId} {B b : Nat} {p : Value} {bs : List Value} {w : World} (h : Lib.BuilderAtF T e B b p bs w) : b < w.heap.size := by
  obtain ⟨_, v, h2, _⟩ := h
  exact (Array.getElem?_eq_some_iff.1 h2).1
theorem builderAtF_below {T e : TypeId} {B b : Nat} {p : Value} {bs : List Value} {w w' : World} (h : Lib.BuilderAtF T e B b p bs w) (hB : Below w.heap.size w w') : Lib.BuilderAtF T e B b p bs w' := by
  have hlt := builderAtF_lt h
  obtain ⟨h1, v, h2, h3, h4⟩ := h
  exact ⟨h1, v, (hB.block b hlt).trans h2, ownF_below h3 hB, h4⟩
theorem buF_below {S : Nat} {l : List UInt8} {w w' : World} (h : BuF S l w) (hB : Below w.heap.size w w') : BuF S l w' :=
  h.elim (fun h => .inl (builderAtF_below h hB)) (fun h => .inr (builderAtF_below h hB))
theorem buF_new (w : World) : BuF w.heap.size [] (w.alloc (.cells #[.pointer none, .slice none 0 0] 85)) := Lib.IsBuilderF.of (fresh_builder w)
theorem writeF_some (S : Nat) (l m : List UInt8) (s : ByteArray) (w : World) (h : BuF S l w) (hs : s = ⟨m.toArray⟩) (hl : l.length + m.length ≤ 100000) (hB : S ≤ w.heap.size) :
    Calls Tryd.prog 87 #[.pointer (some ⟨S, 0, none⟩), .string s] w fun e w' => ∃ v, e = .returned v ∧ BuF S (l ++ m) w' ∧ Below S w w' ∧ Lib.OthersKept 5 (some S) w w' := by
  subst hs
  have hz : (⟨m.toArray⟩ : ByteArray).size = m.length := by simp [ByteArray.size]
  refine (Any.Builder_WriteString_k { lays105 with } { Builder_Extra_105 with } S S (Lib.byteCells l) ⟨m.toArray⟩ w h (by rw [hz, Lib.byteCells_length]; omega) hB).mono ?_
  rintro e w' ⟨rfl, h1, h2, h3⟩
  refine ⟨_, rfl, .inr ?_, h2, h3⟩
  rw [Lib.byteCells_append]
  rw [strCells_eq] at h1
  exact h1
theorem lenF_some (S : Nat) (l : List UInt8) (w : World) (h : BuF S l w) :
    Calls Tryd.prog 89 #[.pointer (some ⟨S, 0, none⟩)] w fun e w' => e = .returned (.int .i64 l.length) ∧ w' = w := by
  have := Any.Builder_Len_f lays170 S S (Lib.byteCells l) w h
  rw [Lib.byteCells_length] at this
  exact this
theorem stringF_some (S : Nat) (l : List UInt8) (w : World) (h : BuF S l w) (hB : S ≤ w.heap.size) :
    Calls Tryd.prog 90 #[.pointer (some ⟨S, 0, none⟩)] w fun e w' => ∃ q : ByteArray, e = .returned (.string q) ∧ Below S w w' ∧ Hid (q = ⟨l.toArray⟩) :=
  (Any.Builder_String_any_k lays169 Builder_Extra_169 S S l w h hB).mono fun _ _ ⟨h1, _, h2, _⟩ => ⟨_, h1, h2, rfl⟩
/-- A row of ints stays, whatever is written into the builder. -/
theorem kept_cell {S g o : Nat} {w w' : World} (h : Lib.OthersKept 5 (some S) w w') {cs : Array Value} {fz : Nat × Nat} (hg : w.heap[g]? = some (.cells cs 3 fz)) (hne : g ≠ S) {v : Value} (hc : w.cell? ⟨g, o, none⟩ = some v) : w'.cell? ⟨g, o, none⟩ = some v ∧ w'.heap[g]? = some (.cells cs 3 fz) := by
  have h1 := h g _ hg (by intro e; exact hne (Option.some.inj e)) (by intro c f e; injection e with _ e2; exact absurd e2 (by decide))
  exact ⟨(World.cell?_of_block (by show w'.heap[g]? = w.heap[g]?; rw [h1, hg])).trans hc, h1⟩
end Go.Proofs.YtcmnjmhedmneiaaDoor
