/-
  Contract: firnref04's Light.
-/
import Derived.Test.YtmndfcjkokolbaaRefLight
namespace Go.Proofs.Ytmndfcjkokolbaa
open Go.RowKit Go.Shelf

theorem bool_info : (Try.prog.info? 4).map (fun i => (i.zero, i.size, i.bytes)) = some (some (.bool false), 1, 1) := by kernel_rfl
theorem made_dark (n : Nat) : (madeCells (Value.bool false).cells (n * 1)).toList = ((List.range n).map fun _ => false).map Value.bool := by
  have e : ((List.range n).map fun _ => false).map Value.bool = List.replicate n (Value.bool false) := by
    rw [List.map_map, List.eq_replicate_iff]; simp
  rw [e, List.eq_replicate_iff]; simp [madeCells, Value.cells, Nat.mod_one]
theorem own_drewB {w : World} {base : Nat} {e : TypeId} {size n : Nat} {v : Value} {xs : List Value} (h : w.ownsRow base e size v n xs) (m : Nat) : (w.drewN m).ownsRow base e size v n xs := h
def rowB (n : Nat) (p : Nat → Bool) : List Bool := (List.range n).map p
theorem rowB_get {n : Nat} {p : Nat → Bool} {x : Nat} (h : x < n) : ((rowB n p).map Value.bool)[x]? = some (.bool (p x)) := by
  simp [rowB, h]
theorem rowB_set {n : Nat} {p q : Nat → Bool} {x : Nat} (hq : ∀ y, q y = (p y || decide (y = x))) : ((rowB n p).map Value.bool).set x (.bool true) = (rowB n q).map Value.bool := by
  apply List.ext_getElem?
  intro i
  by_cases hi : i < n
  · by_cases hx : x = i
    · subst hx; simp [rowB, hi, hq]
    · rw [List.getElem?_set_ne hx, rowB_get hi, rowB_get hi, hq, decide_eq_false (fun e => hx e.symm), Bool.or_false]
  · by_cases hx : x = i
    · subst hx; simp [rowB, hi]
    · rw [List.getElem?_set_ne hx]; simp [rowB, hi]
/-- What is lit so far. -/
def litF (l : List Int) (s : Int) (ns : List Int) (k u x : Nat) (y : Nat) : Bool := litBy l s (ns.take k) y || decide (u ≤ y ∧ y < x)
theorem litF_start {l : List Int} {s : Int} {ns : List Int} {k u : Nat} : litBy l s (ns.take k) = litF l s ns k u u := by
  funext y; rw [litF, decide_eq_false (by omega), Bool.or_false]
theorem litF_next {l : List Int} {s : Int} {ns : List Int} {k u x : Nat} (h : u ≤ x) : ∀ y, litF l s ns k u (x + 1) y = (litF l s ns k u x y || decide (y = x)) := by
  intro y
  unfold litF
  rw [Bool.or_assoc, ← Bool.decide_or]
  congr 1
  exact decide_eq_decide.2 (by omega)
theorem litF_end {l : List Int} {s : Int} {ns : List Int} {k : Nat} {a : Int} (h : ns[k]? = some a) : litF l s ns k (upN l a.toNat s) (dnN l a.toNat s) = litBy l s (ns.take (k + 1)) := by
  funext y; rw [lit_snoc h]; rfl
theorem lightE_bad {ms : List (Int × Int)} {s : Int} {ns : List Int} (hv : viB ms = true) (h : (ns.all (inB (mtL ms).length) && ascB ns) = false) : lightE ms s ns = 2 := by
  refine lightE_arg hv fun h0 => ?_
  obtain ⟨h1, h2⟩ := lightE_in h0
  have h3 := (look_parts (lookByE_parts h1).1).2
  rw [h3, h2] at h; cases h

set_option maxRecDepth 100000 in
set_option maxHeartbeats 2000000 in
theorem refLight_any (ms : List (Int × Int)) (A : Option Addr) (c : Nat) (s : Int) (ns : List Int) (D : Option Addr) (cd : Nat) (w : World) (h : Clk w A c ms) (hD : Ints w D ns) (hl : ns.length ≤ 700) :
    Calls Try.prog 40 #[.slice A ms.length c, .int .i64 s, .slice D ns.length cd] w fun e w' => ∃ (b : Bool) (E : Int), e = .returned (.tuple #[.bool b, .int .i64 E]) ∧ Below w.heap.size w w' ∧ Hid (b = lightR ms s ns ∧ E = lightE ms s ns) := by
  have H := Lib.hid (And.intro h hD)
  have hml : ns.length ≤ maxLen := by unfold maxLen; omega
  clear h hD
  by_cases h0 : lookByE ms [] s = 0
  · have H0 := Lib.hid h0
    have HV := Lib.hid (askedE_in h0)
    have hlen := (mt_ok HV.out.1).2
    clear h0
    cases ha : (ns.all (inB (mtL ms).length) && ascB ns) with
    | false =>
      have HA := Lib.hid ha
      clear ha
      go_enter Try.func40, Try.ntmps40
      go_wp2_with (first
        | (go_at_call 78; refine (asked_any ms _ _ _ _ H.out.1).mono ?_; rintro e w1 ⟨E, rfl, ⟨n, rfl⟩, hE⟩; obtain rfl : E = 0 := hE.out.trans H0.out)
        | (go_at_call 58; refine (metres_any ms _ _ _ (H.out.1.below (below_drewN (Below.refl _ _) n)).marks HV.out.1).mono ?_; rintro e w2 ⟨A2, c2, xs, rfl, hO, hB2, hx⟩; obtain rfl := hx.out; have hW2 := below_step (below_drewN (Below.refl w.heap.size w) n) hB2)
        | (go_at_call 82; refine (ascends_any ns _ _ _ _ (H.out.2.below hW2) hml).mono ?_; rintro e w3 ⟨rfl, n3, rfl⟩; rw [HA.out]))
      go_ret2
      have e2 := lightE_bad (s := s) HV.out.1 HA.out
      exact ⟨false, 2, rfl, below_drewN hW2 _, (lightR_no (by rw [e2]; decide)).symm, e2.symm⟩
    | true =>
      have HA := Lib.hid ha
      have HA2 : Hid (ns.all (inB (mtL ms).length) = true ∧ ascB ns = true) := by have := ha; rwa [Bool.and_eq_true] at this
      have HE : Hid (lightE ms s ns = 0) := lightE_zero HV.out.1 HV.out.2 HA2.out.1 HA2.out.2
      have HIN : Hid (∀ x ∈ ns, 0 ≤ x ∧ x ≤ (mtL ms).length) := fun x hx => by have := List.all_eq_true.1 HA2.out.1 x hx; simpa [inB] using this
      clear ha
      obtain ⟨i0, hi0, hz0, hz1, hz2⟩ := info_parts bool_info
      have HZ2 := Lib.hid hz2
      clear hz2
      go_enter Try.func40, Try.ntmps40
      go_wp2_with (first
        | (go_at_call 78; refine (asked_any ms _ _ _ _ H.out.1).mono ?_; rintro e w1 ⟨E, rfl, ⟨n, rfl⟩, hE⟩; obtain rfl : E = 0 := hE.out.trans H0.out)
        | (go_at_call 58; refine (metres_any ms _ _ _ (H.out.1.below (below_drewN (Below.refl _ _) n)).marks HV.out.1).mono ?_; rintro e w2 ⟨A2, c2, xs, rfl, hO, hB2, hx⟩; obtain rfl := hx.out; have hW2 := below_step (below_drewN (Below.refl w.heap.size w) n) hB2)
        | (go_at_call 82; refine (ascends_any ns _ _ _ _ (H.out.2.below hW2) hml).mono ?_; rintro e w3 ⟨rfl, n3, rfl⟩; rw [HA.out]; have hW3 := below_drewN hW2 n3; have hO3 := hO.below (below_drewN (Below.refl w2.heap.size w2) n3); clear hO hW2 hB2; generalize w2.drewN n3 = wm at hW3 hO3 ⊢)
        | (at_make; refine wpList_make_full _ rfl _ _ 88 rfl wm.heap.size 4 i0 (.bool false) 1 Try.underlying88 hi0 hz0 hz1 _ _ _ _ (mtL ms).length rfl rfl rfl rfl (by rw [HZ2.out]; omega) (by unfold maxLen; omega) (Nat.le_refl _) ?_; intro w4 hown4 hg4))
      have hB4 : Below wm.heap.size wm w4 := (Below.refl _ _).grown hg4 (Nat.le_refl _) (by simp)
      rw [made_dark] at hown4
      clear hg4 HZ2 hz0 hz1 hi0
      have HI := Lib.hid hO3.ints
      have HD := Lib.hid (H.out.2.below hW3)
      clear hO3
      go_loopw [11] (fun i wr => ∃ k : Nat, k ≤ ns.length ∧ i = .int .i64 k ∧ wr.ownsRow wm.heap.size 4 1 (.slice (some ⟨wm.heap.size, 0, none⟩) (mtL ms).length (mtL ms).length) (mtL ms).length ((rowB (mtL ms).length (litBy (mtL ms) s (ns.take k))).map Value.bool) ∧ Below wm.heap.size wm wr) (fun i _ => ns.length - (intOf i).toNat)
      case atStart => exact ⟨0, Nat.zero_le _, rfl, hown4, hB4⟩
      case round =>
        clear hown4 hB4
        obtain ⟨k, hk, rfl, hown, hB⟩ := hrel
        by_cases hlt : k < ns.length
        · obtain ⟨ad, a, rfl, hbk, hx, hc⟩ := HD.out.get hlt
          have hcr := (hB.cell (p := ad.add k) (by rw [block_of_add]; exact hbk)).trans hc
          have hai := HIN.out a (List.mem_of_getElem? hx.out)
          obtain ⟨y, rfl⟩ := Int.eq_ofNat_of_zero_le hai.1
          have hy : y ≤ (mtL ms).length := by omega
          have hub := up_bd (l := mtL ms) (f := y) (s := s)
          have hdb := dn_bd (l := mtL ms) (f := y) (s := s) hy
          have HEND := Lib.hid (litF_end (l := mtL ms) (s := s) hx.out)
          have HS2 : Hid (0 ≤ s ∧ s ≤ 1000000) := by have := HV.out.2; show _ ∧ _; omega
          generalize hU : upN (mtL ms) y s = u at *
          generalize hN : dnN (mtL ms) y s = d at *
          have HUD := Lib.hid (And.intro hU hN)
          have HC := Lib.hid hc
          clear hc hU hN
          have i1 : (k : Int) < (ns.length : Int) := by omega
          go_wp2_with (go_at_call 72; refine (refup_any (mtL ms) _ _ y s _ (HI.out.below hB) (mt_ok HV.out.1) hy HS2.out.1 HS2.out.2).mono ?_; rintro e w5 ⟨rfl, n5, rfl⟩; rw [HUD.out.1]; have hown := own_drewB hown n5; have hB := below_drewN hB n5; generalize wr.drewN n5 = w5 at hown hB ⊢)
          go_loopw [12] (fun i w6 => ∃ x : Nat, u ≤ x ∧ x ≤ d ∧ i = .int .i64 x ∧ w6.ownsRow wm.heap.size 4 1 (.slice (some ⟨wm.heap.size, 0, none⟩) (mtL ms).length (mtL ms).length) (mtL ms).length ((rowB (mtL ms).length (litF (mtL ms) s ns k u x)).map Value.bool) ∧ Below wm.heap.size wm w6) (fun i _ => d - (intOf i).toNat)
          case atStart => exact ⟨u, Nat.le_refl _, by omega, rfl, by rw [← litF_start]; exact hown, hB⟩
          case round =>
            clear hown hB hcr
            obtain ⟨x, hx0, hx1, rfl, hown, hB⟩ := hrel
            have hcr := (hB.cell (p := ad.add k) (by rw [block_of_add]; exact hbk)).trans HC.out
            have HOWN := Lib.hid hown
            by_cases hxd : x < d
            · have t1 : decide ((x : Int) < (d : Int)) = true := decide_eq_true (by omega)
              have hcx := hown.cellAt x (by omega)
              rw [rowB_get (by omega)] at hcx
              have hfx := hown.frozenAt x
              have j0 : (0 : Int) ≤ (x : Int) := by omega
              have j1 : (x : Int) < ((mtL ms).length : Int) := by omega
              clear hown
              generalize litF (mtL ms) s ns k u x x = bx at hcx
              go_wp2_with (go_at_call 73; refine (refdown_any (mtL ms) _ _ y s _ (HI.out.below hB) (mt_ok HV.out.1) hy HS2.out.1 HS2.out.2).mono ?_; rintro e w7 ⟨rfl, n7, rfl⟩; rw [HUD.out.2])
              go_roundw
              case rel => exact ⟨x + 1, by omega, by omega, by go_num, by rw [← rowB_set (litF_next hx0)]; exact ((own_drewB HOWN.out n7).stored x _).1, (below_drewN hB n7).setCell (Nat.le_refl _) _⟩
              case measure => simp [intOf]; omega
            · obtain rfl : x = d := by omega
              have t1 : decide ((x : Int) < (x : Int)) = false := decide_eq_false (by omega)
              clear hown
              go_wp2_with (go_at_call 73; refine (refdown_any (mtL ms) _ _ y s _ (HI.out.below hB) (mt_ok HV.out.1) hy HS2.out.1 HS2.out.2).mono ?_; rintro e w7 ⟨rfl, n7, rfl⟩; rw [HUD.out.2])
              go_roundw
              case rel => exact ⟨k + 1, by omega, by go_num, by have := HEND.out; simp only [Int.toNat_natCast] at this; rw [HUD.out.1, HUD.out.2] at this; rw [← this]; exact own_drewB HOWN.out n7, below_drewN hB n7⟩
              case measure => simp [intOf]; omega
        · have HOWN : Hid (wr.ownsRow wm.heap.size 4 1 (.slice (some ⟨wm.heap.size, 0, none⟩) (mtL ms).length (mtL ms).length) (mtL ms).length ((rowB (mtL ms).length (litBy (mtL ms) s ns)).map Value.bool)) := by
            rw [List.take_of_length_le (by omega)] at hown; exact hown
          have HBW := Lib.hid (below_step hW3 hB)
          clear hown
          obtain ⟨we, hwe⟩ : ∃ we : World, we = wr := ⟨_, rfl⟩
          subst hwe
          go_wp2
          go_loopw [13] (fun i w6 => ∃ x n6 : Nat, x ≤ (mtL ms).length ∧ i = .int .i64 x ∧ w6 = we.drewN n6 ∧ Hid (∀ y, y < x → litBy (mtL ms) s ns y = true)) (fun i _ => (mtL ms).length - (intOf i).toNat)
          case atStart => exact ⟨0, 0, Nat.zero_le _, rfl, rfl, fun y hy => absurd hy (Nat.not_lt_zero _)⟩
          case round =>
            obtain ⟨x, n6, hx, rfl, rfl, hP⟩ := hrel
            by_cases hxl : x < (mtL ms).length
            · have hcx := HOWN.out.cellAt x (by omega)
              rw [rowB_get (by omega)] at hcx
              have j0 : (0 : Int) ≤ (x : Int) := by omega
              have j1 : (x : Int) < ((mtL ms).length : Int) := by omega
              cases hb : litBy (mtL ms) s ns x with
              | true =>
                rw [hb] at hcx
                have HBX := Lib.hid hb
                clear hb
                go_wp2
                go_roundw
                case rel => exact ⟨x + 1, n6, by omega, by go_num, rfl, fun y hy => by
                  rcases Nat.lt_or_ge y x with h | h
                  · exact hP.out y h
                  · obtain rfl : y = x := by omega
                    exact HBX.out⟩
                case measure => simp [intOf]; omega
              | false =>
                rw [hb] at hcx
                have HBX := Lib.hid hb
                clear hb
                go_wp2
                go_ret2
                exact ⟨_, _, rfl, below_drewN HBW.out _, by rw [lightR_ok HE.out, lit_none hxl HBX.out, Bool.and_false], HE.out.symm⟩
            · have HLIT : Hid (litB (mtL ms) s ns = true) := by
                show _ = _
                rw [litB, List.all_eq_true]
                intro y hy
                exact hP.out y (by have := List.mem_range.1 hy; omega)
              go_wp2
              go_ret2
              exact ⟨_, _, rfl, below_drewN HBW.out _, by rw [lightR_ok HE.out, HLIT.out, Bool.and_true]; (first | (simp; omega) | simp), HE.out.symm⟩
  · have H0 := Lib.hid h0
    clear h0
    go_enter Try.func40, Try.ntmps40
    go_wp2_with (go_at_call 78; refine (asked_any ms _ _ _ _ H.out.1).mono ?_; rintro e w1 ⟨E, rfl, ⟨n, rfl⟩, hE⟩; have hE0 : (E != 0) = true := (by have := hE.out; have := H0.out; simp; omega))
    go_ret2
    have e2 : lightE ms s ns = lookByE ms [] s := by
      cases hv : viB ms with
      | false => rw [lightE_ice hv, askedE_ice hv]
      | true =>
        have hs : ¬ (0 ≤ s ∧ s ≤ 100000) := fun hs => H0.out (askedE_ok hv hs)
        rw [askedE_arg hv hs]
        refine lightE_arg hv fun h => hs (lookBy_all (lightE_in h).1).2.2
    exact ⟨_, _, rfl, (by repeat (first | with_reducible exact Below.refl _ _ | with_reducible assumption | refine below_drewN ?_ _ | with_reducible refine Below.drew ?_ | (refine Below.setCell ?_ (by first | (simp; done) | (simp; omega) | omega) _) | (refine Below.alloc ?_ (by first | (simp; done) | (simp; omega) | omega) _))), (lightR_no (by rw [e2]; exact H0.out)).symm, by rw [e2]; exact hE.out⟩
end Go.Proofs.Ytmndfcjkokolbaa
