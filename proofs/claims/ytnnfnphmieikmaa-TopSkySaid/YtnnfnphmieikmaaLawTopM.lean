/-
  For the walk of TopSky: a set that is handed back has what it should.
-/
import Derived.Test.YtnnfnphmieikmaaLawRules
import Derived.Test.YtnnfnphmieikmaaLawThere
import Derived.Test.YtnnfnphmieikmaaLawAll
namespace Go.Proofs.Ytnnfnphmieikmaa
open Go Go.RowKit Go.Shelf

theorem blk_step {W W' : World} {g : Nat} {b : Obj} (h : W.heap[g]? = some b) (hB : Below W.heap.size W W') : W'.heap[g]? = some b :=
  (hB.block g (Array.getElem?_eq_some_iff.1 h).1).trans h
theorem full_four (P : Nat → Bool) (p : Nat) : fullB P 4 p = P p := by
  simp [fullB, wN_four, List.range_succ]
theorem ha_four {l : List (Int × Int)} {p : Nat} (hl : vaB l = true) (hp : p < 3072) : haB l 4 (p : Int) = inL l p ∧ haE l 4 (p : Int) = 0 := by
  have hc : cellB ((4 : Int), (p : Int)) = true := cellB_mk (o := 4) (by omega) (by rw [px_top]; exact hp)
  refine ⟨?_, ?_⟩
  · rw [haB, haOk, hl, hc]
    exact full_four _ _
  · rw [haE, hl, hc]; rfl
set_option maxRecDepth 100000 in
set_option maxHeartbeats 1000000 in
theorem holds_any (P : Nat → Bool) (p : Nat) (hp : p < 3072) (A : Option Addr) (c : Nat) (b : Bool) (hb : P p = b) (w : World) (hA : Marks w A (stL P)) :
    Calls Try.prog 64 #[.slice A (stL P).length c, .int .i64 (stE P), .agg #[.int .i64 4, .int .i64 (p : Int)], .bool b] w fun e w' => e = .returned (.bool true) ∧ Below w.heap.size w w' := by
  have HA := Lib.hid hA
  clear hA
  rcases st_cases P with h0 | ⟨h4, hnil⟩
  · rw [h0]
    have e1 : haB (stL P) 4 (p : Int) = b := by rw [(ha_four (st_valid P) hp).1, st_in h0 hp, hb]
    have e2 := (ha_four (st_valid P) hp).2
    have CH := fun W (hM : Marks W A (stL P)) => skyHas_any (stL P) A c 4 (p : Int) W hM (stL_max P)
    rw [e1, e2] at CH
    have CH := Lib.hid CH
    have VV := Lib.hid (st_valid P)
    have LL := Lib.hid (stL_max P)
    clear e1 e2 h0 hb
    go_enter Try.func64, Try.ntmps64
    go_wp2_with (first
      | (go_at_call 48; with_reducible refine (CH.out _ (HA.out.below (Below.alloc (Below.refl _ _) (Nat.le_refl _) _))).mono ?_; rintro e w1 ⟨rfl, hB1⟩; have hW1 : Below w.heap.size w w1 := (Below.trans (Below.alloc (Below.refl _ _) (Nat.le_refl _) _) (hB1.mono (by simp))); clear hB1)
      | (go_at_call 43; with_reducible refine (skyValid_any (stL P) _ _ _ (HA.out.below hW1) LL.out).mono ?_; rintro e w2 ⟨he, hB2⟩; rw [VV.out] at he; subst he; have hW2 := below_step hW1 hB2; clear hB2)
      | fail)
    go_ret
    exact ⟨rfl, hW2⟩
  · rw [h4, hnil]
    clear h4 hnil HA hb
    go_enter Try.func64, Try.ntmps64
    go_wp2
    go_ret
    exact ⟨rfl, Below.alloc (Below.refl _ _) (Nat.le_refl _) _⟩

end Go.Proofs.Ytnnfnphmieikmaa
