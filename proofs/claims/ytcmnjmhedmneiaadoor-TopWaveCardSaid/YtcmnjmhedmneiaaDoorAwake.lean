/-
  Contracts: Length (wave), Awake (firnlaw03).
-/
import Derived.Test.YtcmnjmhedmneiaaDoorEncode
namespace Go.Proofs.YtcmnjmhedmneiaaDoor
open Go.RowKit Go.Shelf

theorem encode_some (s : List Int) (A : Option Addr) (c : Nat) (w : World) (h : Ints w A s) (hl : s.length ≤ maxLen) (hw : Wids w) :
    Calls Tryd.prog 33 #[.slice A s.length c] w fun e w' => ∃ (q : ByteArray) (E : Int), e = .returned (.tuple #[.string q, .int .i64 E]) ∧ Below w.heap.size w w' ∧ Hid (q = ⟨(encT s).toArray⟩ ∧ E = encE s) :=
  (encode_any s A c w h hl hw).mono fun _ _ ⟨he, hB⟩ => ⟨_, _, he, hB, rfl, rfl⟩
theorem encT_len (s : List Int) : (encT s).length ≤ 2400 := by
  unfold encT
  cases hv : vwB s with
  | false => simp
  | true =>
    have h1 := enc_len (difL s) 2 (by omega)
    have h2 := (vw_parts hv).1
    rw [show (difL s).length = s.length from difG_len 0 s] at h1
    simp only [if_true]; omega
set_option maxRecDepth 100000 in
theorem length_any (s : List Int) (A : Option Addr) (c : Nat) (w : World) (h : Ints w A s) (hl : s.length ≤ maxLen) (hw : Wids w) :
    Calls Tryd.prog 35 #[.slice A s.length c] w fun e w' => ∃ n E : Int, e = .returned (.tuple #[.int .i64 n, .int .i64 E]) ∧ Below w.heap.size w w' ∧ Hid (n = (encT s).length ∧ E = encE s) := by
  have HE := Lib.hid (encode_some s A c w h hl hw)
  clear h hw
  go_enter Tryd.func35, Tryd.ntmps35
  go_wp2_with (go_at_call 33; refine HE.out.mono ?_; rintro e w1 ⟨q, E, rfl, hB, hF⟩)
  go_ret2
  exact ⟨_, E, rfl, hB, by rw [hF.out.1, sv_size], hF.out.2⟩
theorem awake_val : ((encT [2, 2, 2, 2]).length : Int) = 12 ∧ encE [2, 2, 2, 2] = 0 := by decide +kernel
set_option maxRecDepth 100000 in
theorem awake_any (w : World) (hw : Wids w) :
    Calls Tryd.prog 19 #[] w fun e w' => e = .returned (.bool true) ∧ Below w.heap.size w w' := by
  have HW := Lib.hid hw
  clear hw
  have hB0 : Below w.heap.size w (w.alloc (.cells #[.int .i64 2, .int .i64 2, .int .i64 2, .int .i64 2] 3)) := (by repeat (first | with_reducible exact Below.refl _ _ | with_reducible assumption | refine below_drewN ?_ _ | with_reducible refine Below.drew ?_ | (refine Below.setCell ?_ (by first | (simp; done) | (simp; omega) | omega) _) | (refine Below.alloc ?_ (by first | (simp; done) | (simp; omega) | omega) _)))
  have HI : Hid (Ints (w.alloc (.cells #[.int .i64 2, .int .i64 2, .int .i64 2, .int .i64 2] 3)) (some ⟨w.heap.size, 0, none⟩) [2, 2, 2, 2]) := ⟨rfl, fun _ => ⟨_, rfl, by simp, cells_new w [.int .i64 2, .int .i64 2, .int .i64 2, .int .i64 2] 3⟩⟩
  go_enter Tryd.func19, Tryd.ntmps19
  go_wp2_with (go_at_call 35; refine (length_any [2, 2, 2, 2] _ 4 _ HI.out (by simp [maxLen]) (HW.out.below hB0)).mono ?_; rintro e w1 ⟨n, E, rfl, hB, hF⟩; have e1 := hF.out.1.trans awake_val.1; subst e1; have e2 := hF.out.2.trans awake_val.2; subst e2)
  go_ret
  exact ⟨rfl, hB0.trans (hB.mono (by simp))⟩
end Go.Proofs.YtcmnjmhedmneiaaDoor
