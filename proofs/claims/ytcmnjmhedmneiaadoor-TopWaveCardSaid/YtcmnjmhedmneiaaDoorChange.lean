/-
  Contract: change (wave).
-/
import Derived.Test.YtcmnjmhedmneiaaDoorWords2
import Derived.Laws.OwnMore
namespace Go.Proofs.YtcmnjmhedmneiaaDoor
open Go.RowKit Go.Shelf

theorem sign_some (k : Nat) (w : World) :
    Calls Tryd.prog 101 #[.int .i64 (wdN k)] w fun e w' => ∃ q : ByteArray, e = .returned (.string q) ∧ q.size ≤ 11 ∧ Below w.heap.size w w' ∧ Hid (q = ⟨(signL (wdN k)).toArray⟩) :=
  (sign_any k w).mono fun e w' ⟨he, hB⟩ => ⟨_, he, by rw [sv_size, sign_len _ (wd_bd k).1]; exact (wd_bd k).2, hB, rfl⟩
theorem write_some (B b : Nat) (l m : List UInt8) (s : ByteArray) (w : World) (h : Lib.IsBuilder 85 5 B b (Lib.byteCells l) w) (hs : s = ⟨m.toArray⟩) (hl : l.length + m.length ≤ 100000) (hB : B ≤ w.heap.size) :
    Calls Tryd.prog 87 #[.pointer (some ⟨b, 0, none⟩), .string s] w fun e w' => ∃ v, e = .returned v ∧ Lib.IsBuilder 85 5 B b (Lib.byteCells (l ++ m)) w' ∧ Below B w w' := by
  subst hs
  exact (write_any B b l m w h hl hB).mono fun e w' ⟨h1, h2, h3⟩ => ⟨_, h1, h2, h3⟩
theorem fresh_builder (w : World) : Lib.IsBuilder 85 5 w.heap.size w.heap.size (Lib.byteCells []) (w.alloc (.cells #[.pointer none, .slice none 0 0] 85)) :=
  .inl ⟨Nat.le_refl _, _, heap_alloc_new w _, World.ownsRow_nil _ _ _ _, by simp [Value.ownBlock]⟩
theorem own_below {w w3 : World} {base : Nat} {e : TypeId} {size n : Nat} {v : Value} {xs : List Value} (h : w.ownsRow base e size v n xs) (hB : Below w.heap.size w w3) : w3.ownsRow base e size v n xs :=
  h.kept (World.grownBy.mk hB.os hB.tape hB.output hB.size (fun i hi _ => hB.block i hi) : World.grownBy _ w3 none) (by cases hh : Value.ownBlock v with | none => exact .inl rfl | some g => exact .inr (by simp))
theorem own_drewB {w : World} {base : Nat} {e : TypeId} {size n : Nat} {v : Value} {xs : List Value} (h : w.ownsRow base e size v n xs) (m : Nat) : (w.drewN m).ownsRow base e size v n xs := h
theorem builderAt_below {T e : TypeId} {B b : Nat} {p : Value} {bs : List Value} {w w' : World} (h : Lib.BuilderAt T e B b p bs w) (hB : Below w.heap.size w w') : Lib.BuilderAt T e B b p bs w' := by
  have hlt := h.lt
  obtain ⟨h1, v, h2, h3, h4⟩ := h
  exact ⟨h1, v, (hB.block b hlt).trans h2, own_below h3 hB, h4⟩
theorem builder_below {T e : TypeId} {B b : Nat} {bs : List Value} {w w' : World} (h : Lib.IsBuilder T e B b bs w) (hB : Below w.heap.size w w') : Lib.IsBuilder T e B b bs w' :=
  h.elim (fun h => .inl (builderAt_below h hB)) (fun h => .inr (builderAt_below h hB))
theorem change_end (a b : Nat) : upsL a (b - a) ++ dnsL (a + (b - a)) (a + (b - a) - b) = changeL a b := by
  rw [changeL]
  rcases Nat.le_total a b with h | h
  · rw [show a + (b - a) - b = 0 by omega, show a - b = 0 by omega]; rfl
  · rw [show a + (b - a) = a by omega]

set_option maxRecDepth 100000 in
set_option maxHeartbeats 1000000 in
theorem change_any (a b : Nat) (ha : a < 5) (hb : b < 5) (w : World) (hw : Wids w) :
    Calls Tryd.prog 88 #[.int .i64 a, .int .i64 b] w fun e w' => e = .returned (sv (changeL a b)) ∧ Below w.heap.size w w' := by
  have HW := Lib.hid hw
  clear hw
  go_enter Tryd.func88, Tryd.ntmps88
  go_wp2
  have hB0 : Below w.heap.size w (w.alloc (.cells #[.pointer none, .slice none 0 0] 85)) := (by repeat (first | with_reducible exact Below.refl _ _ | with_reducible assumption | refine below_drewN ?_ _ | with_reducible refine Below.drew ?_ | (refine Below.setCell ?_ (by first | (simp; done) | (simp; omega) | omega) _) | (refine Below.alloc ?_ (by first | (simp; done) | (simp; omega) | omega) _)))
  go_loopw [0] (fun v wr => ∃ i : Nat, i ≤ b - a ∧ v = .int .i64 ((a + i : Nat) : Int) ∧ Lib.IsBuilder 85 5 w.heap.size w.heap.size (Lib.byteCells (upsL a i)) wr ∧ Below w.heap.size w wr) (fun v _ => b - (intOf v).toNat)
  case atStart => exact ⟨0, Nat.zero_le _, by simp, fresh_builder w, hB0⟩
  case round =>
    clear hB0
    obtain ⟨i, hi, rfl, hI, hB⟩ := hrel
    by_cases hlt : a + i < b
    · have f0 := (HW.out.below hB).2 (a + i) (by omega)
      obtain ⟨c, hc⟩ : ∃ c, a + i = c := ⟨_, rfl⟩
      rw [hc] at hlt f0
      rw [hc]
      have HC := Lib.hid hc
      have hu := ups_len a i
      have HI := Lib.hid hI
      have t0 : decide ((c : Int) < (b : Int)) = true := decide_eq_true (by omega)
      have i0 : (0 : Int) ≤ (c : Int) := by omega
      have i1 : (c : Int) < 5 := by omega
      have hi4 : i ≤ 4 := by omega
      clear hc hI
      go_wp2_with (first
        | (go_at_call 101; refine (sign_some c _).mono ?_; rintro e w1 ⟨q, rfl, hq, hB1, hQ⟩; have hW1 := below_step hB hB1; have HI1 := Lib.hid (builder_below HI.out hB1))
        | (go_at_call 87; refine (write_some w.heap.size w.heap.size (upsL a i) (signL (wdN c) ++ [49]) _ _ HI1.out (by rw [hQ.out]; exact sv_append _ [49]) (by rw [List.length_append, sign_len _ (wd_bd c).1]; have := wd_bd c; simp; omega) hW1.size).mono ?_; rintro e w2 ⟨v, rfl, hI2, hB2⟩))
      go_roundw
      case rel => exact ⟨i + 1, by have := HC.out; omega, by have := HC.out; rw [show (((a + (i + 1) : Nat)) : Int) = (c : Int) + 1 by omega], by rw [ups_succ, HC.out]; exact hI2, hW1.trans hB2⟩
      case measure => simp [intOf]; omega
    · obtain rfl : i = b - a := by omega
      obtain ⟨c, hc⟩ : ∃ c, a + (b - a) = c := ⟨_, rfl⟩
      have hbc : b ≤ c := by omega
      have hc5 : c < 5 := by omega
      rw [hc]
      have HC := Lib.hid hc
      have HI := Lib.hid hI
      have HU := Lib.hid (ups_len a (b - a))
      have t0 : decide ((c : Int) < (b : Int)) = false := decide_eq_false (by omega)
      have t0n : decide (c < b) = false := decide_eq_false (by omega)
      have hB1 := Lib.hid hB
      clear hlt hI hB hi hc
      go_wp2
      go_loopw [0] (fun v wr => ∃ j d : Nat, j ≤ c - b ∧ d + j = c ∧ v = .int .i64 (d : Int) ∧ Lib.IsBuilder 85 5 w.heap.size w.heap.size (Lib.byteCells (upsL a (b - a) ++ dnsL c j)) wr ∧ Below w.heap.size w wr) (fun v _ => (intOf v).toNat - b)
      case atStart => exact ⟨0, c, Nat.zero_le _, rfl, rfl, by have := HI.out; rwa [show dnsL c 0 = [] from rfl, List.append_nil], hB1.out⟩
      case round =>
        obtain ⟨j, d, hj, hd, rfl, hI, hB⟩ := hrel
        by_cases hlt : b < d
        · have f0 := (HW.out.below hB).2 d (by omega)
          have hu := dns_len c j
          have hv := HU.out
          have HI := Lib.hid hI
          have t1 : decide ((b : Int) < (d : Int)) = true := decide_eq_true (by omega)
          have i0 : (0 : Int) ≤ (d : Int) := by omega
          have i1 : (d : Int) < 5 := by omega
          have hj4 : j ≤ 4 := by omega
          have s1 : IntKind.i64.wrap ((d : Int) - 1) = (d : Int) - 1 := IntWalk.i64_in _ (by omega)
          have HD := Lib.hid hd
          clear hI hd
          go_wp2_with (first
            | (go_at_call 101; refine (sign_some d _).mono ?_; rintro e w1 ⟨q, rfl, hq, hB1, hQ⟩; have hW1 := below_step hB hB1; have HI1 := Lib.hid (builder_below HI.out hB1))
            | (go_at_call 87; refine (write_some w.heap.size w.heap.size (upsL a (b - a) ++ dnsL c j) (signL (wdN d) ++ [48]) _ _ HI1.out (by rw [hQ.out]; exact sv_append _ [48]) (by rw [List.length_append, List.length_append, sign_len _ (wd_bd d).1]; have := wd_bd d; simp; omega) hW1.size).mono ?_; rintro e w2 ⟨v, rfl, hI2, hB2⟩))
          go_roundw
          case rel => exact ⟨j + 1, d - 1, by have := HD.out; omega, by have := HD.out; omega, by rw [show ((d - 1 : Nat) : Int) = (d : Int) - 1 by omega], by rw [dns_succ, show c - j = d by have := HD.out; omega, ← List.append_assoc]; exact hI2, hW1.trans hB2⟩
          case measure => simp [intOf]; omega
        · obtain rfl : d = b := by omega
          have HI := Lib.hid hI
          have HD := Lib.hid hd
          have t1 : decide ((d : Int) < (d : Int)) = false := decide_eq_false (by omega)
          clear hI hd
          go_wp2_with (go_at_call 90; refine (Builder_String_any w.heap.size w.heap.size (upsL a (d - a) ++ dnsL c j) _ HI.out hB.size).mono ?_; rintro e w2 ⟨rfl, hB2⟩)
          go_ret
          refine ⟨?_, hB.trans hB2⟩
          have e := change_end a d
          rw [HC.out, show c - d = j by have := HD.out; omega] at e
          rw [e]; rfl
end Go.Proofs.YtcmnjmhedmneiaaDoor
