/-
  Contract: better (weigh).
-/
import Derived.Test.YtolpbbabmcpdkaaCmpL
import Derived.Test.YtolpbbabmcpdkaaCutW
set_option linter.unusedVariables false
set_option linter.unusedSimpArgs false
namespace Go.Proofs.Ytolpbbabmcpdkaa
open Go.RowKit Go.Shelf

def btV (ss cs ds : List Int) : Int := orL [cmpV (keptL ss ds) (keptL ss cs), cmpV cs.length ds.length, cmL cs ds]
set_option maxRecDepth 100000 in
set_option maxHeartbeats 4000000 in
theorem better_any (ns ss cs ds : List Int) (A B C E : Option Addr) (c d e0 f0 : Nat) (w : World) (ho : Od ns ss) (hB : Ints w B ss) (hC : Ints w C cs) (hE : Ints w E ds) (hc : cutB ns.length cs = true) (hd : cutB ns.length ds = true) :
    Calls Try.prog 79 #[.agg #[.slice A ns.length c, .slice B ss.length d, .int .i64 ns.sum, .int .i64 ss.sum], .slice C cs.length e0, .slice E ds.length f0] w fun e w' => e = .returned (.int .i64 (btV ss cs ds)) ∧ Below w.heap.size w w' := by
  have hl1 := cutB_len hc
  have hl2 := cutB_len hd
  have hn := ho.le
  have HB := Lib.hid hB
  have HC := Lib.hid hC
  have HE := Lib.hid hE
  have HSB := Lib.hid ho.sb9
  have HM1 : Hid (∀ a ∈ cs, 0 ≤ a ∧ a < ss.length) := Lib.hid (by rw [← ho.len]; exact cutB_mem hc)
  have HM2 : Hid (∀ a ∈ ds, 0 ≤ a ∧ a < ss.length) := Lib.hid (by rw [← ho.len]; exact cutB_mem hd)
  clear hB hC hE hc hd ho
  obtain ⟨W0, hW0, HW, H0, z0⟩ := one_new w #[.slice A ns.length c, .slice B ss.length d, .int .i64 ns.sum, .int .i64 ss.sum] 67
  have HK : Hid (∀ W, Below W0.heap.size W0 W → W.cell? ⟨w.heap.size, 1, none⟩ = some (.slice B ss.length d)) := Lib.hid fun W hW => blk_cell ((hW.block _ z0).trans H0.out) 1 rfl
  have HK1 : Hid (∀ V, Below W0.heap.size W0 V → Calls Try.prog 67 #[.slice B ss.length d, .slice E ds.length f0] V fun e w' => e = .returned (.int .i64 (keptL ss ds)) ∧ V = w') := Lib.hid fun V hV => kept_any ss ds B E d f0 V (HB.out.below (below_step HW.out hV)) (HE.out.below (below_step HW.out hV)) (by omega) HSB.out HM2.out
  have HK2 : Hid (∀ V, Below W0.heap.size W0 V → Calls Try.prog 67 #[.slice B ss.length d, .slice C cs.length e0] V fun e w' => e = .returned (.int .i64 (keptL ss cs)) ∧ V = w') := Lib.hid fun V hV => kept_any ss cs B C d e0 V (HB.out.below (below_step HW.out hV)) (HC.out.below (below_step HW.out hV)) (by omega) HSB.out HM1.out
  have HS : Hid (∀ V, Below W0.heap.size W0 V → Calls Try.prog 109 #[.slice C cs.length e0, .slice E ds.length f0] V fun e w' => e = .returned (.int .i64 (cmL cs ds)) ∧ V = w') := Lib.hid fun V hV => sCmp_any cs ds C E e0 f0 V (HC.out.below (below_step HW.out hV)) (HE.out.below (below_step HW.out hV)) (by omega) (by omega)
  have HR : Hid (btV ss cs ds = orL [cmpV (keptL ss ds) (keptL ss cs), cmpV cs.length ds.length, cmL cs ds]) := Lib.hid rfl
  obtain ⟨k1, hk1⟩ : ∃ x, keptL ss ds = x := ⟨_, rfl⟩
  obtain ⟨k2, hk2⟩ : ∃ x, keptL ss cs = x := ⟨_, rfl⟩
  obtain ⟨m1, hm1⟩ : ∃ x, cmL cs ds = x := ⟨_, rfl⟩
  rw [hk1] at HK1 HR
  rw [hk2] at HK2 HR
  rw [hm1] at HS HR
  have HC1 : Hid (∀ V : World, Calls Try.prog 108 #[.int .i64 k1, .int .i64 k2] V fun e w' => e = .returned (.int .i64 (cmpV k1 k2)) ∧ V = w') := Lib.hid fun V => compare_any k1 k2 V
  have HC2 : Hid (∀ V : World, Calls Try.prog 108 #[.int .i64 cs.length, .int .i64 ds.length] V fun e w' => e = .returned (.int .i64 (cmpV cs.length ds.length)) ∧ V = w') := Lib.hid fun V => compare_any cs.length ds.length V
  generalize btV ss cs ds = R at HR ⊢
  generalize cmpV k1 k2 = v1 at HC1 HR
  generalize cmpV (cs.length : Int) (ds.length : Int) = v2 at HC2 HR
  clear hk1 hk2 hm1
  go_enter Try.func79, Try.ntmps79
  go_wp2
  rw [← hW0]
  have HOR : Hid (∀ V, Below W0.heap.size W0 V → Calls Try.prog 107 #[.slice (some ⟨V.heap.size, 0, none⟩) 3 3] (V.alloc (.cells #[.int .i64 v1, .int .i64 v2, .int .i64 m1] 3)) fun e w' => e = .returned (.int .i64 R) ∧ Below W0.heap.size W0 w') := Lib.hid fun V hV => by
    have hq : Ints (V.alloc (.cells #[.int .i64 v1, .int .i64 v2, .int .i64 m1] 3)) (some ⟨V.heap.size, 0, none⟩) [v1, v2, m1] := by
      refine ⟨by simp, fun _ => ⟨_, rfl, by simp, ?_⟩⟩
      intro j x hj
      have hb := heap_alloc_new V (.cells #[.int .i64 v1, .int .i64 v2, .int .i64 m1] 3)
      match j, hj with
      | 0, hj => simp at hj; subst hj; exact blk_cell hb 0 rfl
      | 1, hj => simp at hj; subst hj; exact blk_cell hb 1 rfl
      | 2, hj => simp at hj; subst hj; exact blk_cell hb 2 rfl
      | n + 3, hj => simp at hj
    refine (or_any [v1, v2, m1] _ 3 _ hq (by simp)).mono ?_
    rintro e w' ⟨rfl, rfl⟩
    exact ⟨by rw [HR.out], Below.alloc hV hV.size _⟩
  have hX : Below W0.heap.size W0 W0 := Below.refl _ _
  have b1 := HK.out W0 hX
  clear hW0
  go_region_held3 (fun W => W.cell? ⟨w.heap.size, 1, none⟩ = some (.slice B ss.length d))
    ((first | with_reducible exact HK.out _ hX | with_reducible exact HK.out _ (Below.drew hX) | with_reducible exact HK.out _ (below_drewN hX _) | with_reducible exact HK.out _ (Below.alloc hX hX.size _) | with_reducible exact HK.out _ (Below.alloc (Below.drew hX) hX.size _) | with_reducible exact HK.out _ (Below.drew (Below.alloc hX hX.size _))))
    ((first
      | (go_at_call 67; with_reducible refine (HK1.out _ (by first | with_reducible exact hX | with_reducible exact Below.drew hX | exact below_drewN hX _)).mono ?_; rintro e wt ⟨rfl, rfl⟩)
      | (go_at_call 67; with_reducible refine (HK2.out _ (by first | with_reducible exact hX | with_reducible exact Below.drew hX | exact below_drewN hX _)).mono ?_; rintro e wt ⟨rfl, rfl⟩)
      | (go_at_call 108; with_reducible refine (HC1.out _).mono ?_; rintro e wt ⟨rfl, rfl⟩)
      | (go_at_call 108; with_reducible refine (HC2.out _).mono ?_; rintro e wt ⟨rfl, rfl⟩)
      | (go_at_call 109; with_reducible refine (HS.out _ (by first | with_reducible exact hX | with_reducible exact Below.drew hX | exact below_drewN hX _)).mono ?_; rintro e wt ⟨rfl, rfl⟩)
      | (go_at_call 107; refine (HOR.out W0.drew (Below.drew hX)).mono ?_; rintro e wo ⟨rfl, hXo⟩; clear hX; have hX := hXo; clear hXo)
      | (go_at_call 107; refine (HOR.out W0 hX).mono ?_; rintro e wo ⟨rfl, hXo⟩; clear hX; have hX := hXo; clear hXo)
      | fail))
  all_goals
    go_wp2
    go_ret
    exact ⟨rfl, below_step HW.out (by first | with_reducible exact hX | with_reducible exact Below.drew hX | exact below_drewN hX _)⟩
end Go.Proofs.Ytolpbbabmcpdkaa
