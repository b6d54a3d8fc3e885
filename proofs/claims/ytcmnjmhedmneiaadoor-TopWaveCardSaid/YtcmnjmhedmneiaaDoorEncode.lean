/-
  Contract: Encode (wave).
-/
import Derived.RangeFuncNested
import Derived.RangeFuncBound
import Derived.RangeFuncCalls
import Derived.Shelf.RegionOpen
import Derived.WalkKit
import Derived.Deep.CutRange
import Derived.Test.YtcmnjmhedmneiaaDoorRoundQuiet
import Derived.Test.YtcmnjmhedmneiaaDoorBackward
import Derived.Test.YtcmnjmhedmneiaaDoorDiffs
namespace Go.Proofs.YtcmnjmhedmneiaaDoor
open Go.RowKit Go.Shelf
attribute [local go_sem] Oper.semAt_some

/-- All below n₀ but one block is as it was. -/
def KeepX (n₀ gb : Nat) (W W' : World) : Prop := W.heap.size ≤ W'.heap.size ∧ ∀ p : Addr, p.block < n₀ → p.block ≠ gb → W'.cell? p = W.cell? p
theorem KeepX.refl (n₀ gb : Nat) (W : World) : KeepX n₀ gb W W := ⟨Nat.le_refl _, fun _ _ _ => rfl⟩
theorem KeepX.trans {n₀ gb : Nat} {A B C : World} (h : KeepX n₀ gb A B) (k : KeepX n₀ gb B C) : KeepX n₀ gb A C :=
  ⟨Nat.le_trans h.1 k.1, fun p h1 h2 => (k.2 p h1 h2).trans (h.2 p h1 h2)⟩
theorem KeepX.of_below {n₀ gb : Nat} {A B : World} (h : Below n₀ A B) : KeepX n₀ gb A B := ⟨h.size, fun _ h1 _ => h.cell h1⟩
theorem keepsOthers_of_below {A B : World} (h : Below A.heap.size A B) : KeepsOthers A B := ⟨h.size, fun k _ hk _ => (h.block k (Array.getElem?_eq_some_iff.1 hk).1).trans hk⟩
theorem keepX_store {n₀ gb : Nat} (off : Nat) (W : World) (u : Value) : KeepX n₀ gb W (W.setCell ⟨gb, off, none⟩ u) :=
  ⟨(KeepsOthers.setCell W _ u).size, fun p _ h2 => World.cell?_setCell_other _ _ _ _ (by intro e; rw [← e] at h2; exact h2 rfl)⟩
theorem add_off (g j : Nat) : (⟨g, 0, none⟩ : Addr).add j = ⟨g, j, none⟩ := by
  unfold Addr.add
  split <;> simp_all
theorem keepX_own {β : Type} {n₀ gb : Nat} {w4 : World} (h4 : n₀ ≤ w4.heap.size) : OwnFrom n₀ (fun (_ : β) W => KeepX n₀ gb w4 W) := fun _ W W' row hs hg hr =>
  ⟨Nat.le_trans hs.1 hg.size, fun p h1 h2 => (World.cell?_of_block (hg.block p.block (Nat.lt_of_lt_of_le h1 (Nat.le_trans h4 hs.1)) (fun e => by have := (hr _ e.symm).1; omega))).trans (hs.2 p h1 h2)⟩

/-- The block of five texts. -/
def WaysAt (gb : Nat) (f : Nat → List UInt8) (W : World) : Prop := ∀ j, j < 5 → W.cell? ⟨gb, j, none⟩ = some (sv (f j)) ∧ W.frozen? ⟨gb, j, none⟩ = false
theorem WaysAt.below {gb : Nat} {f : Nat → List UInt8} {W W' : World} (h : WaysAt gb f W) (hB : Below W.heap.size W W') (hg : gb < W.heap.size) : WaysAt gb f W' :=
  fun j hj => ⟨(hB.cell (p := ⟨gb, j, none⟩) hg).trans (h j hj).1, (hB.frozen (p := ⟨gb, j, none⟩) hg).trans (h j hj).2⟩
theorem waysAt_own {β : Type} {gb : Nat} (G : β → (Nat → List UInt8) → Prop) : Own (fun (s : β) W => ∃ f, WaysAt gb f W ∧ G s f) := fun _ W W' row hs hg hr => by
  obtain ⟨f, hN, hG⟩ := hs
  exact ⟨f, fun j hj => ⟨cell_kept (hN j hj).1 hg hr, (frozen_kept (hN j hj).1 hg hr).trans (hN j hj).2⟩, hG⟩
/-- The element that the k-th round is handed. -/
def encD (ds : List Int) (n : Nat) (k : Fin n) : Array Value := #[.int .i64 ((n - 1 - k.val : Nat) : Int), .int .i64 (ds[n - 1 - k.val]?.getD 0)]
def elD {n : Nat} (hn : 0 < n) (k : Nat) : Fin n := ⟨k % n, Nat.mod_lt _ hn⟩
theorem fromEnd_D {ds : List Int} {n : Nat} (hn : 0 < n) (hl : ds.length = n) : FromEnd (encD ds n) (elD hn) ds := by
  intro m hm
  have e : (n - (m + 1)) % n = n - (m + 1) := Nat.mod_eq_of_lt (by omega)
  have e2 : n - 1 - (n - (m + 1)) = m := by omega
  rw [hl]
  simp only [encD, elD, e, e2]
/-- Behind the five stores. -/
def put5 (W : World) (gb : Nat) (f : Nat → List UInt8) : World := ((((W.setCell ⟨gb, 0, none⟩ (sv (f 0))).setCell ⟨gb, 1, none⟩ (sv (f 1))).setCell ⟨gb, 2, none⟩ (sv (f 2))).setCell ⟨gb, 3, none⟩ (sv (f 3))).setCell ⟨gb, 4, none⟩ (sv (f 4))
theorem put5_keeps (W : World) (gb : Nat) (f : Nat → List UInt8) {A : World} (h : KeepsOthers A W) : KeepsOthers A (put5 W gb f) :=
  ((((h.trans (KeepsOthers.setCell _ _ _)).trans (KeepsOthers.setCell _ _ _)).trans (KeepsOthers.setCell _ _ _)).trans (KeepsOthers.setCell _ _ _)).trans (KeepsOthers.setCell _ _ _)
theorem put5_keepX {n₀ gb : Nat} {A W : World} (f : Nat → List UInt8) (h : KeepX n₀ gb A W) : KeepX n₀ gb A (put5 W gb f) :=
  ((((h.trans (keepX_store _ _ _)).trans (keepX_store _ _ _)).trans (keepX_store _ _ _)).trans (keepX_store _ _ _)).trans (keepX_store _ _ _)
theorem put5_below {B gb : Nat} {A W : World} (f : Nat → List UInt8) (h : Below B A W) (hg : B ≤ gb) : Below B A (put5 W gb f) :=
  ((((h.setCell hg _).setCell hg _).setCell hg _).setCell hg _).setCell hg _
theorem put5_ways {gb : Nat} {W : World} {f g : Nat → List UInt8} (h : WaysAt gb f W) : WaysAt gb g (put5 W gb g) := by
  obtain ⟨c0, c1, c2, c3, c4⟩ := set5 (x0 := sv (g 0)) (x1 := sv (g 1)) (x2 := sv (g 2)) (x3 := sv (g 3)) (x4 := sv (g 4)) (h 0 (by omega)).1 (h 1 (by omega)).1 (h 2 (by omega)).1 (h 3 (by omega)).1 (h 4 (by omega)).1 (put5 W gb g) rfl
  intro j hj
  refine ⟨?_, ?_⟩
  · rcases (show j = 0 ∨ j = 1 ∨ j = 2 ∨ j = 3 ∨ j = 4 by omega) with rfl | rfl | rfl | rfl | rfl
    · exact c0
    · exact c1
    · exact c2
    · exact c3
    · exact c4
  · unfold put5
    rw [World.frozen?_setCell, World.frozen?_setCell, World.frozen?_setCell, World.frozen?_setCell, World.frozen?_setCell]
    exact (h j hj).2
/-- What holds of the best ways when some rounds are over. -/
def InvD (ds : List Int) {n : Nat} (hn : 0 < n) (pre : List (Fin n)) (f : Nat → List UInt8) : Prop :=
  (∀ k, k < 5 → (f k).length ≤ 59 * pre.length) ∧ (pre = comeK (elD hn) pre.length → ∀ k, k < 5 → f k = encL (ds.drop (n - pre.length)) k)
theorem front_len {d : Int} {f : Nat → List UInt8} {n k : Nat} (hk : k < 5) (h : ∀ j, j < 5 → (f j).length ≤ 59 * n) : (frontL d f k).length ≤ 59 * (n + 1) := by
  have := best_len (d := d) hk h 5 (Nat.le_refl _)
  unfold frontL
  omega
theorem via_same {d : Int} {f g : Nat → List UInt8} (h : ∀ j, j < 5 → f j = g j) {a b : Nat} (hb : b < 5) : viaL d f a b = viaL d g a b := by
  unfold viaL; rw [h b hb]
theorem best_same {d : Int} {f g : Nat → List UInt8} (h : ∀ j, j < 5 → f j = g j) (a : Nat) : ∀ k, k ≤ 5 → bestK d f a k = bestK d g a k
  | 0, _ => rfl
  | k + 1, hk => by rw [best_succ, best_succ, best_same h a k (by omega), bestS, bestS, via_same h (by omega)]
theorem front_same {d : Int} {f g : Nat → List UInt8} (h : ∀ j, j < 5 → f j = g j) (a : Nat) : frontL d f a = frontL d g a := best_same h a 5 (Nat.le_refl _)
theorem invD_step {ds : List Int} {n : Nat} (hn : 0 < n) (hl : ds.length = n) {pre : List (Fin n)} {f : Nat → List UInt8} (h : InvD ds hn pre f) (x : Fin n) (hp : pre.length < n) :
    InvD ds hn (pre ++ [x]) (frontL (ds[n - 1 - x.val]?.getD 0) f) := by
  refine ⟨fun k hk => ?_, fun he k hk => ?_⟩
  · rw [List.length_append]; exact front_len hk h.1
  · rw [List.length_append, List.length_singleton, comeK_succ] at he
    obtain ⟨h1, h2⟩ := List.append_inj he (by rw [comeK_length])
    have hx : x.val = pre.length := by
      injection h2 with h2
      rw [h2]; exact Nat.mod_eq_of_lt hp
    have hf := h.2 h1
    rw [front_same hf, List.length_append, List.length_singleton, hx]
    obtain ⟨d, hd⟩ := getElem?_of_lt (show n - 1 - pre.length < ds.length by omega)
    rw [hd]
    have e : ds.drop (n - (pre.length + 1)) = d :: ds.drop (n - pre.length) := by
      obtain ⟨hk2, e⟩ := List.getElem?_eq_some_iff.1 hd
      rw [show n - (pre.length + 1) = n - 1 - pre.length by omega, List.drop_eq_getElem_cons hk2, e, show n - 1 - pre.length + 1 = n - pre.length by omega]
    rw [e, enc_cons]; rfl
theorem invD_end {ds : List Int} {n : Nat} {hn : 0 < n} {f : Nat → List UInt8} (h : InvD ds hn (comeK (elD hn) n) f) : ∀ k, k < 5 → f k = encL ds k := by
  intro k hk
  have := h.2 (by rw [comeK_length]) k hk
  rw [comeK_length, Nat.sub_self, List.drop_zero] at this
  exact this

def encE (s : List Int) : Int := if vwB s then 0 else 30
def encT (s : List Int) : List UInt8 := if vwB s then encL (difL s) 2 else []

set_option maxRecDepth 100000 in
set_option maxHeartbeats 4000000 in
theorem encode_any (s : List Int) (A : Option Addr) (c : Nat) (w : World) (h : Ints w A s) (hl : s.length ≤ maxLen) (hw : Wids w) :
    Calls Tryd.prog 33 #[.slice A s.length c] w fun e w' => e = .returned (.tuple #[sv (encT s), .int .i64 (encE s)]) ∧ Below w.heap.size w w' := by
  have H := Lib.hid h
  have HW := Lib.hid hw
  clear h hw
  cases hv : vwB s with
  | false =>
    have HV := Lib.hid hv
    go_enter Tryd.func33, Tryd.ntmps33
    go_wp2_with (go_at_call 24; refine (valid_any s _ _ _ H.out hl).mono ?_; rintro e w1 ⟨rfl, rfl⟩; rw [HV.out])
    go_ret2
    exact ⟨by rw [encT, encE, HV.out]; rfl, Below.refl _ _⟩
  | true =>
    have HV := Lib.hid hv
    obtain ⟨⟨hn1, hn2⟩, hall⟩ := vw_parts hv
    have HA := Lib.hid hall
    have HDL := Lib.hid (show (difL s).length = s.length from difG_len 0 s)
    have HDB := Lib.hid (fun d (hd : d ∈ difL s) => dif_bd 0 s (by omega) hall d hd)
    clear hall
    refine (callsIn_wide (n := 3)).1 ?_
    refine callsIn_of_wp_marks Tryd.func33 rfl trivial ?_ rfl
    simp only [Tryd.ntmps33, List.size_toArray, List.length_cons, List.length_nil, Nat.reduceAdd, Nat.reduceSub, Array.replicate_succ, Array.replicate_zero, List.push_toArray, List.append_toArray, List.nil_append, List.cons_append]
    refine wpIn_wide.2 ?_
    have hB0 : Below w.heap.size w (w.alloc (.cells #[sv [], sv [], sv [], sv [], sv []] 65)) := (by repeat (first | with_reducible exact Below.refl _ _ | with_reducible assumption | refine below_drewN ?_ _ | with_reducible refine Below.drew ?_ | (refine Below.setCell ?_ (by first | (simp; done) | (simp; omega) | omega) _) | (refine Below.alloc ?_ (by first | (simp; done) | (simp; omega) | omega) _)))
    go_wp2_with (first
      | (go_at_call 24; refine (valid_any s _ _ _ H.out hl).mono ?_; rintro e w1 ⟨rfl, rfl⟩; rw [HV.out])
      | (go_at_call 58; refine (differences_any s _ _ _ (H.out.below hB0) HV.out).mono ?_; rintro e w3 ⟨gl, c3, rfl, hgl, hO3, hB3⟩)
      | (go_at_call 72; refine (callsIn_wide.1 (backward_in Fence.wide 3 trivial rfl _ _ _ _)).mono ?_; rintro e w4 ⟨rfl, rfl⟩))
    obtain ⟨w4, hw4⟩ : ∃ w4, w4 = w3.alloc (.cells #[.slice (some ⟨gl, 0, none⟩) s.length c3] 22) := ⟨_, rfl⟩
    obtain ⟨bs, hbs⟩ : ∃ bs, bs = w3.heap.size := ⟨_, rfl⟩
    obtain ⟨gb, hgb⟩ : ∃ gb, gb = w.heap.size := ⟨_, rfl⟩
    rw [← hw4, ← hbs, ← hgb]
    simp at hgl
    have hB34 : Below w3.heap.size w3 w4 := by rw [hw4]; exact (Below.refl _ _).alloc (Nat.le_refl _) _
    have cB : w4.cell? ⟨bs, 0, none⟩ = some (.slice (some ⟨gl, 0, none⟩) s.length c3) := by rw [hw4, hbs]; simp
    have hz4 : w4.heap.size = bs + 1 := by rw [hw4, hbs]; simp
    have hsz3 : w.heap.size + 1 ≤ w3.heap.size := by have := hB3.size; simpa using this
    have hB04 : Below (w.heap.size + 1) (w.alloc (.cells #[sv [], sv [], sv [], sv [], sv []] 65)) w4 := by
      have h1 : Below (w.heap.size + 1) (w.alloc (.cells #[sv [], sv [], sv [], sv [], sv []] 65)) w3 := hB3.mono (by simp)
      exact h1.trans (hB34.mono hsz3)
    have hr4 : WaysAt gb (fun _ => []) w4 := by
      intro j hj
      refine ⟨(hB04.cell (p := ⟨gb, j, none⟩) (by show gb < _; omega)).trans ?_, (hB04.frozen (p := ⟨gb, j, none⟩) (by show gb < _; omega)).trans ?_⟩
      · rw [hgb]
        rcases (show j = 0 ∨ j = 1 ∨ j = 2 ∨ j = 3 ∨ j = 4 by omega) with rfl | rfl | rfl | rfl | rfl <;> go_simp
      · rw [hgb]
        rcases (show j = 0 ∨ j = 1 ∨ j = 2 ∨ j = 3 ∨ j = 4 by omega) with rfl | rfl | rfl | rfl | rfl <;> go_simp
    have hW4 : Below w.heap.size w w4 := hB0.trans (hB04.mono (by omega))
    have hgl3 : gl < bs := by
      obtain ⟨b0, o0, e, hb, _⟩ := hO3.ints.open_ (by rw [HDL.out]; omega)
      cases e; rw [hbs]; exact hb
    have hcl : ∀ j, j < (difL s).length → w4.cell? ⟨gl, j, none⟩ = some (.int .i64 ((difL s)[j]?.getD 0)) := by
      intro j hj
      obtain ⟨ad, e, hb, hc⟩ := (hO3.ints.below hB34).at_ hj
      cases e
      rw [List.getD_eq_getElem?_getD] at hc
      rw [add_off] at hc
      exact hc
    obtain ⟨n, hn⟩ : ∃ n, s.length = n := ⟨_, rfl⟩
    have hdn : (difL s).length = n := HDL.out.trans hn
    have HDN := Lib.hid hdn
    rw [hn] at hn1 hn2 cB
    rw [hn]
    have hfe := fromEnd_D (ds := difL s) hn1 hdn
    have hgln : gl ≠ gb := by omega
    have hgb3 : gb < bs := by omega
    have hx0 : InvD (difL s) hn1 [] (fun _ => []) := ⟨fun k _ => by simp, fun _ k _ => by
      rw [List.length_nil, Nat.sub_zero, List.drop_eq_nil_of_le (by rw [hdn]; exact Nat.le_refl _)]; rfl⟩
    have hbs4 : bs < w4.heap.size := by omega
    have hdl2 : (difL s).length ≤ 1000 := by omega
    have HG := Lib.hid (And.intro hgb (And.intro hbs hn))
    have hB34' := Lib.hid hB34
    clear hw4 hB34 hB3 hO3 hB04 hB0 hgb hbs hn hdn
    refine (wpIn_wide (n := 3)).1 ?_
    refine wpIn_rangeFunc_ownG rfl (by omega) (gf := 95) (lb := #[.pointer (some ⟨bs, 0, none⟩)]) rfl trivial (enters_of Tryd.func95 (by kernel_rfl) rfl)
      (backward_stops (encD (difL s) n) (elD hn1) Fence.wide 2 trivial rfl (by omega) bs (some ⟨gl, 0, none⟩) c3 (difL s) hdl2 hfe (KeepX w4.heap.size gb) KeepX.trans (KeepX.refl _ _) w4 ?hBs ?hc)
      KeepX.trans (fun W l o o' hl h1 h2 h3 => KeepX.of_below (belowK_b (w := w4) (Nat.le_refl _) W l o o' hl h1 h2 h3)) (Below.refl _ _) (fun _ => rfl)
      (fun pre W => (KeepX w4.heap.size gb w4 W ∧ ∃ f, WaysAt gb f W ∧ InvD (difL s) hn1 pre f) ∧ Below w.heap.size w W)
      (fun _ _ _ => False)
      (OwnFrom.and (OwnFrom.and (keepX_own (Nat.le_refl _)) (Own.from (waysAt_own _) _)) (ownFrom_below (Nat.le_refl _) (by omega)))
      (fun _ _ _ _ _ hs _ _ => hs)
      ⟨⟨KeepX.refl _ _ _, _, hr4, hx0⟩, hW4⟩
      (fun x => { tmps := #[.slice A n c, undef, sv [], .int .i64 0, .pointer (some ⟨gb, 0, none⟩), undef, .int .i64 ((difL s)[n - 1 - x.val]?.getD 0), .slice A n c, .bool true, .bool false, .slice A n c, .slice (some ⟨gl, 0, none⟩) n c3, .func (.func 95) #[] #[.pointer (some ⟨bs, 0, none⟩)], .int .i64 ((n - 1 - x.val : Nat) : Int), .int .i64 ((difL s)[n - 1 - x.val]?.getD 0), undef, undef, undef, undef, undef], defers := [] }) ?assign ?body ?done ?stop
    case hBs =>
      intro W W' hB hK
      rw [HDN.out]
      exact ((hK.2 ⟨bs, 0, none⟩ (by show bs < _; omega) (by show bs ≠ _; omega)).trans (hB.cell (p := ⟨bs, 0, none⟩) (by show bs < _; omega))).trans cB
    case hc =>
      intro W W' hB hK j hj
      refine ⟨_, rfl, ?_⟩
      rw [add_off]
      exact ((hK.2 ⟨gl, j, none⟩ (by show gl < _; omega) (by show gl ≠ _; omega)).trans (hB.cell (p := ⟨gl, j, none⟩) (by show gl < _; omega))).trans (hcl j hj)
    case assign =>
      intro l x W K hK
      simp only [encD]
      gi_wp2
      exact hK
    case body =>
      rintro l pre x W ⟨⟨hK, f, hN, hX⟩, hBw⟩ hpl
      have hplen : pre.length < n := by rw [HDN.out] at hpl; exact hpl
      have HST := Lib.hid (invD_step hn1 HDN.out hX x hplen)
      obtain ⟨d, hd⟩ : ∃ d, (difL s)[n - 1 - x.val]?.getD 0 = d := ⟨_, rfl⟩
      rw [hd] at HST ⊢
      have hdb : -1023 ≤ d ∧ d ≤ 1023 := by
        rw [← hd]
        obtain ⟨z, hz⟩ := getElem?_of_lt (show n - 1 - x.val < (difL s).length by rw [HDN.out]; omega)
        rw [hz]
        exact HDB.out z (List.mem_of_getElem? hz)
      have hlen : ∀ k, k < 5 → (f k).length ≤ 10000 := fun k hk => by have := hX.1 k hk; omega
      have HAF : Hid (Calls Tryd.prog 73 #[.int .i64 d, .agg #[sv (f 0), sv (f 1), sv (f 2), sv (f 3), sv (f 4)]] W fun e w' => e = .returned (.agg #[sv (frontL d f 0), sv (frontL d f 1), sv (frontL d f 2), sv (frontL d f 3), sv (frontL d f 4)]) ∧ Below W.heap.size W w') :=
        Lib.hid (inFront_any d f W (HW.out.below hBw) (by omega) (by omega) hlen)
      have c0 := (hN 0 (by omega)).1
      have c1 := (hN 1 (by omega)).1
      have c2 := (hN 2 (by omega)).1
      have c3' := (hN 3 (by omega)).1
      have c4 := (hN 4 (by omega)).1
      have HX := Lib.hid (And.intro hK (And.intro hBw (And.intro hd hN)))
      have hgW : gb < W.heap.size := Nat.lt_of_lt_of_le (show gb < w4.heap.size by omega) hK.1
      clear hX hK hBw hlen hN hdb hpl hd
      gi_wp2_with (refine ⟨trivial, ?_⟩; gi_at_call 73; refine (CallsIn.inRound l (callsIn_wide.2 HAF.out)).mono ?_; rintro e w5 ⟨rfl, hB5⟩; have hN5 := (HX.out.2.2.2).below hB5 hgW; have d0 := hN5 0 (by omega); have d1 := hN5 1 (by omega); have d2 := hN5 2 (by omega); have d3 := hN5 3 (by omega); have d4 := hN5 4 (by omega); obtain ⟨d0, z0⟩ := d0; obtain ⟨d1, z1⟩ := d1; obtain ⟨d2, z2⟩ := d2; obtain ⟨d3, z3⟩ := d3; obtain ⟨d4, z4⟩ := d4; have HN5 := Lib.hid hN5; clear hN5)
      have hsz := HX.out.1.1
      have hK6 : KeepX w4.heap.size gb W w5 := KeepX.of_below (hB5.mono hsz)
      show ownPostG _ _ _ _ _ _ _ _ (put5 w5 gb (frontL d f))
      refine ⟨(put5_keeps _ _ _ (keepsOthers_of_below hB5)).from _, put5_keepX _ hK6, ⟨put5_keepX _ (HX.out.1.trans hK6), frontL d f, put5_ways HN5.out, HST.out⟩, put5_below _ (below_step HX.out.2.1 hB5) (by have := HG.out.1; omega)⟩
    case done =>
      rintro D pre W hD rfl ⟨⟨hK, f, hN, hX⟩, hBw⟩ hKD
      rw [HDN.out] at hX
      have HE := Lib.hid (invD_end hX 2 (by omega))
      have c2 := (hN 2 (by omega)).1
      have hB7 := Lib.hid (belowK_b (w := w4) (Nat.le_refl _) W D _ (.deferred none) hD hKD rfl rfl)
      clear hX hN
      go_wp2
      refine ⟨by simp, .inl ⟨_, _, rfl, run_takeDeferred hKD, ?_⟩⟩
      refine ⟨.tuple #[sv (f 2), .int .i64 0], (by simp [results, Tryd.f33, go_sem]), ?_, hBw.trans (hB7.out.mono hW4.size)⟩
      rw [encT, encE, HV.out, HE.out]; rfl
    case stop =>
      rintro D c pre W _ _ h _
      exact h.elim
end Go.Proofs.YtcmnjmhedmneiaaDoor
