/-
  Contract: longestLayer (cone).
-/
import Derived.Test.YtmlkdjcjfkfdiaaFirst
import Derived.ChangeAlike
import Derived.BigRegion
import Derived.Deep.RegionHeld3
namespace Go.Proofs.Ytmlkdjcjfkfdiaa
open Go.RowKit Go.Shelf

set_option maxRecDepth 100000 in
theorem keep_strange (ms : List (Int × Int)) (A : Option Addr) (c : Nat) (a : Int) (S : List Int) (B0 B1 : Nat) (w : World) (h : Marks w A ms) (hv : vhB ms = true) (ha : hasB ms a = true) (hS : ∀ b ∈ S, hasB ms b = true) (hC : Caught w B0 B1 A ms.length c a) :
    KeepAt 123 #[.pointer (some ⟨B0, 0, none⟩), .pointer (some ⟨B1, 0, none⟩)] (fun b => !knowI ms a b) S w := by
  intro W b hb hB
  have H := Lib.hid (And.intro (h.below hB) (And.intro hv (And.intro ha (hS b hb))))
  obtain ⟨l0, l1, c0, c1⟩ := hC.below hB
  clear h hv ha hS hC hB hb
  show Calls Try.prog _ #[.int .i64 b, .pointer (some ⟨B0, 0, none⟩), .pointer (some ⟨B1, 0, none⟩)] W _
  go_enter Try.func123, Try.ntmps123
  go_wp2_with (go_at_call 111; refine (know_any ms A c a b _ H.out.1 H.out.2.1 H.out.2.2.1 H.out.2.2.2).mono ?_; rintro e w' ⟨rfl, n, rfl⟩)
  go_ret
  exact ⟨rfl, below_drewN (Below.refl _ _) n⟩

theorem Ints.tail_ {w : World} {bl off : Nat} {f : Int} {t : List Int} (h : Ints w (some ⟨bl, off, none⟩) (f :: t)) : Ints w (some ⟨bl, off + 1, none⟩) t := by
  refine ⟨by simp, fun hn => ?_⟩
  obtain ⟨ad, e, hb, hc⟩ := h.2 (by simp)
  cases e
  refine ⟨_, rfl, hb, fun j u hj => ?_⟩
  rw [add_mk]
  have := hc (j + 1) u (by simpa using hj)
  rw [add_mk] at this
  rw [← this]; congr 2; omega

section
variable {ops : Array Oper} {o : Oper} {a : Act} {K : Act → World → Prop} {Q : Exit → Act → World → Prop} {E : Prop}
/-- Appending the ints of a slice (nil where there are none) to the call's own ints, in a region that draws. -/
theorem step_app_ints (w : World) (hgd : o.guard = none) (s x : Operand)
    (ho : o.op = .call { callee := .builtin .append, args := #[s, x], argTypes := #[28, 28] })
    (base : Nat) (v : Value) (n : Nat) (xs ys : List Int) (A : Option Addr) (c : Nat) (hs : a.eval s = v) (hown : w.ownsRow base 3 1 v n (xs.map (Value.int .i64)))
    (hx : a.eval x = .slice A ys.length c) (hy : Ints w A ys) (hnil : ys = [] → A = none ∧ c = 0) (hy1 : ys.length ≤ 1000) (hn : n ≤ 1000) (hbase : base ≤ w.heap.size)
    (h : ∀ v' w', w'.ownsRow base 3 1 v' (n + ys.length) ((xs ++ ys).map (Value.int .i64)) → Below base w w' → K (a.put o.dst v') w') :
    if Region.wanted o (yielded ops a.tmps) = true then Oper.wp Try.prog o a w K Q else E := by
  have hw : Region.wanted o (yielded ops a.tmps) = true := by simp [Region.wanted, hgd]
  rw [if_pos hw]
  obtain ⟨i0, hi0, hz0, hz1, hz2⟩ := info_parts int_info
  by_cases hys : ys = []
  · obtain ⟨rfl, rfl⟩ := hnil hys
    subst hys
    have hrun := run_append_owned_none (P := Try.prog) (w := w) base 28 o.type 3 i0 1 Try.underlying28 hi0 v n _ hown
    unfold Oper.wp
    simp [execOp, ho, resolve, invoke, builtin, hs, hx, hrun, Result.andThen]
    exact h v w (by simpa using hown) (Below.refl _ _)
  · have hy0 : 0 < ys.length := List.length_pos_iff.2 hys
    obtain ⟨ad, rfl, hb, hall⟩ := hy.2 hy0
    refine wp_append_own _ s x 28 ho base 3 i0 (.int .i64 0) 1 8 Try.underlying28 hi0 hz0 hz1 hz2 rfl (by decide) v n _ hs hown ad ys.length c (ys.map (Value.int .i64)) hx (by simp) hall ?_ (by unfold maxLen; omega) (by omega) hbase ?_
    · intro u hu
      simp only [List.mem_map] at hu
      obtain ⟨m, _, rfl⟩ := hu
      rfl
    · intro v' w' ho' hg _
      refine h v' w' (by rw [List.map_append]; exact ho') ((Below.refl base w).grown hg hbase ?_)
      intro k hk
      exact (hown.lt k hk).1
end
theorem cell_drew' (w : World) (p : Addr) : w.drew.cell? p = w.cell? p := rfl
theorem own_one (w : World) (base : Nat) (f : Int) (hb : base ≤ w.heap.size) : (w.alloc (.cells #[.int .i64 f] 3)).ownsRow base 3 1 (.slice (some ⟨w.heap.size, 0, none⟩) 1 1) 1 ([f].map (Value.int .i64)) :=
  World.ownsRow_lit w #[.int .i64 f] 1 hb (by unfold maxLen; omega) rfl
theorem Ints.alloc_ {w : World} {A : Option Addr} {zs : List Int} (h : Ints w A zs) (o : Obj) : Ints (w.alloc o) A zs := h.below ((Below.refl _ _).alloc (Nat.le_refl _) _)
theorem longL_nil {ms : List (Int × Int)} {m : Nat} {f : Int} {t : List Int} : longL ms (m + 1) (f :: t) ≠ [] := by
  rw [longL]; split
  · simp
  · split
    · intro h; rename_i h1; rw [h] at h1; simp at h1
    · simp

/-- What longestLayer says of lists of at most m numbers. -/
def LongAt (ms : List (Int × Int)) (A : Option Addr) (c m : Nat) : Prop :=
  ∀ (S : List Int) (A2 : Option Addr) (c2 : Nat) (w : World), S.length ≤ m → S.length ≤ 100 → Marks w A ms → Out w A2 c2 S → (∀ b ∈ S, hasB ms b = true) →
      Calls Try.prog 110 #[.slice A ms.length c, .slice A2 S.length c2] w fun e w' => ∃ (A' : Option Addr) (c' : Nat) (ys : List Int), e = .returned (.slice A' ys.length c') ∧ Out w' A' c' ys ∧ Below w.heap.size w w' ∧ (ys = [] → A' = none ∧ c' = 0) ∧ Hid (ys = longL ms m S)

set_option maxRecDepth 100000 in
set_option maxHeartbeats 2000000 in
theorem long_cons1 (ms : List (Int × Int)) (A : Option Addr) (c m : Nat) (hv : vhB ms = true) (ih : LongAt ms A c m)
    (f : Int) (bl off : Nat) (w : World) (h : Marks w A ms) (hO : Out w (some ⟨bl, off, none⟩) 1 (f :: [])) (hS : ∀ b ∈ f :: [], hasB ms b = true) :
    Calls Try.prog 110 #[.slice A ms.length c, .slice (some ⟨bl, off, none⟩) 1 1] w fun e w' => ∃ (A' : Option Addr) (c' : Nat) (ys : List Int), e = .returned (.slice A' ys.length c') ∧ Out w' A' c' ys ∧ Below w.heap.size w w' ∧ (ys = [] → A' = none ∧ c' = 0) ∧ Hid (ys = longL ms (m + 1) (f :: [])) := by
  skip
  skip
  skip
  obtain ⟨ad, e, hb, hcells⟩ := hO.ints.2 (by simp)
  cases e
  have f0 : w.cell? ⟨bl, off, none⟩ = some (.int .i64 f) := by
    have := hcells 0 (.int .i64 f) (by simp)
    rwa [add_mk] at this
  simp only at hb
  have HOT : Hid (Out w (some ⟨bl, off, none⟩) (0) []) := ⟨Ints.nil_, Nat.le_refl _, by unfold maxLen; omega⟩
  have H := Lib.hid (And.intro h (And.intro hv (And.intro hO hS)))
  have IH := Lib.hid ih
  have EG : Hid (∀ args w, (callFunc 123 args).run Try.prog w = .ok (.enter 123 args) w) := enters_of Try.func123 (by kernel_rfl) rfl
  clear h hv hO hS ih hcells
  go_enter Try.func110, Try.ntmps110
  go_wp2_with fail
  go_region
  go_wp2_with fail
  have hB1 : Below w.heap.size w ((w.alloc (.cells #[.slice A ms.length c] 65)).alloc (.cells #[.int .i64 f] 3)).drew := (by repeat (first | with_reducible exact Below.refl _ _ | with_reducible assumption | refine below_drewN ?_ _ | with_reducible refine Below.drew ?_ | (refine Below.setCell ?_ (by first | (simp; done) | (simp; omega) | omega) _) | (refine Below.alloc ?_ (by first | (simp; done) | (simp; omega) | omega) _)))
  have hC1 : Caught ((w.alloc (.cells #[.slice A ms.length c] 65)).alloc (.cells #[.int .i64 f] 3)).drew w.heap.size (w.heap.size + 1) A ms.length c f := ⟨(by first | (simp; done) | (simp; omega) | omega), (by first | (simp; done) | (simp; omega) | omega), by simp, by simp⟩
  have hcon := kept_any _ _ _ EG.out [] (some ⟨bl, off, none⟩) (0) _ (keep_strange ms A c f [] _ _ _ (H.out.1.below hB1) H.out.2.1 (H.out.2.2.2 f (by simp)) (fun b hb => H.out.2.2.2 b (by simp [hb])) hC1) (HOT.out.ints.below hB1) (by first | omega | simp)
  refine hcon.mono ?_
  clear hcon
  rintro e w2 ⟨A3, c3, zs, rfl, hO3, hB2, hzs⟩
  obtain rfl : zs = [] := hzs.out
  have c0 := (hB2.cell (p := ⟨w.heap.size, 0, none⟩) (by first | (simp; done) | (simp; omega) | omega)).trans hC1.hits
  have c1 := (hB2.cell (p := ⟨w.heap.size + 1, 0, none⟩) (by first | (simp; done) | (simp; omega) | omega)).trans hC1.num
  have hz2 : w.heap.size + 1 < w2.heap.size := by have := hB2.size; simp at this; omega
  have hB02 : Below w.heap.size w w2 := hB1.trans (hB2.mono (by first | (simp; done) | (simp; omega) | omega))
  have HM2 := Lib.hid (H.out.1.below hB02)
  have HO3 := Lib.hid hO3
  have HB02 := Lib.hid hB02
  skip
  skip
  have HZS := Lib.hid (show ∀ b ∈ ([] : List Int), hasB ms b = true from fun b hb => by cases hb)
  skip
  clear hC1 hB1 hB2 hO3 hB02
  obtain ⟨B, hBe⟩ : ∃ B, B = w.heap.size := ⟨_, rfl⟩
  rw [← hBe] at c0 c1 hz2 hb ⊢
  have HBE := Lib.hid hBe
  clear hBe f0 hb
  go_wp2_with fail
  have hBz : B < w2.heap.size := by omega
  go_region_held3 (fun w' => w'.cell? ⟨B, 0, none⟩ = some (.slice A ms.length c) ∧ w'.cell? ⟨B + 1, 0, none⟩ = some (.int .i64 f))
    (((try simp only [cell_drew']); first | with_reducible exact ⟨c0, c1⟩ | exact ⟨(World.cell?_alloc_lt _ _ _ (by first | omega | (simp; omega))).trans c0, (World.cell?_alloc_lt _ _ _ (by first | omega | (simp; omega))).trans c1⟩))
    ((first
      | (go_at_call 110; refine (IH.out [] A3 c3 _ (Nat.zero_le _) (Nat.zero_le _) (HM2.out.below (by repeat (first | with_reducible exact Below.refl _ _ | with_reducible assumption | refine below_drewN ?_ _ | with_reducible refine Below.drew ?_ | (refine Below.setCell ?_ (by first | (simp; done) | (simp; omega) | omega) _) | (refine Below.alloc ?_ (by first | (simp; done) | (simp; omega) | omega) _)))) (HO3.out.below (by repeat (first | with_reducible exact Below.refl _ _ | with_reducible assumption | refine below_drewN ?_ _ | with_reducible refine Below.drew ?_ | (refine Below.setCell ?_ (by first | (simp; done) | (simp; omega) | omega) _) | (refine Below.alloc ?_ (by first | (simp; done) | (simp; omega) | omega) _)))) HZS.out).mono ?_; rintro e w3 ⟨A4, c4, ys, rfl, hO4, hB4, hn4, hy4⟩; have hz4 : w2.heap.size ≤ w3.heap.size := (by have := hB4.size; simp at this; omega); have HB4 : Hid (Below w2.heap.size w2 w3) := (Below.trans (by repeat (first | with_reducible exact Below.refl _ _ | with_reducible assumption | refine below_drewN ?_ _ | with_reducible refine Below.drew ?_ | (refine Below.setCell ?_ (by first | (simp; done) | (simp; omega) | omega) _) | (refine Below.alloc ?_ (by first | (simp; done) | (simp; omega) | omega) _))) (hB4.mono (by first | (simp; done) | (simp; omega) | omega))); have HB4' := Lib.hid hB4; have HY4 : Hid (ys.length ≤ 100) := (show ys.length ≤ 100 by rw [hy4.out]; exact Nat.le_trans (longL_len ms m []) (by first | omega | simp)); clear hB4; have c0 := (HB4.out.cell (p := ⟨B, 0, none⟩) hBz).trans c0; have c1 := (HB4.out.cell (p := ⟨B + 1, 0, none⟩) hz2).trans c1)
      | (refine step_app_ints w3 rfl (.tmp 22) (.tmp 25) rfl w2.heap.size (.slice (some ⟨w2.heap.size, 0, none⟩) 1 1) 1 [f] ys A4 c4 rfl (own_below (World.ownsRow.drew (own_one w2 w2.heap.size f (Nat.le_refl _))) HB4'.out) rfl hO4.ints hn4 (by have := HY4.out; omega) (by omega) hz4 ?_; intro v2 w5 hown5 hB5; have c0 := (hB5.cell (p := ⟨B, 0, none⟩) hBz).trans c0; have c1 := (hB5.cell (p := ⟨B + 1, 0, none⟩) hz2).trans c1; have HB5 : Hid (Below w2.heap.size w2 w5) := HB4.out.trans hB5; clear hB5)
      | (refine step_app_ints (w3.alloc (.cells #[.int .i64 f] 3)) rfl (.tmp 22) (.tmp 25) rfl w2.heap.size (.slice (some ⟨w3.heap.size, 0, none⟩) 1 1) 1 [f] ys A4 c4 rfl (own_one w3 w2.heap.size f hz4) rfl (hO4.ints.alloc_ _) hn4 (by have := HY4.out; omega) (by omega) (by simp; omega) ?_; intro v2 w5 hown5 hB5; have c0 := (hB5.cell (p := ⟨B, 0, none⟩) hBz).trans ((World.cell?_alloc_lt w3 _ ⟨B, 0, none⟩ (by show B < _; omega)).trans c0); have c1 := (hB5.cell (p := ⟨B + 1, 0, none⟩) hz2).trans ((World.cell?_alloc_lt w3 _ ⟨B + 1, 0, none⟩ (by show B + 1 < _; omega)).trans c1); have HB5 : Hid (Below w2.heap.size w2 w5) := (HB4.out.alloc hz4 _).trans hB5; clear hB5)
      | (refine step_app_ints (w3.alloc (.cells #[.int .i64 f] 3)).drew rfl (.tmp 22) (.tmp 25) rfl w2.heap.size (.slice (some ⟨w3.heap.size, 0, none⟩) 1 1) 1 [f] ys A4 c4 rfl (World.ownsRow.drew (own_one w3 w2.heap.size f hz4)) rfl (hO4.ints.alloc_ _) hn4 (by have := HY4.out; omega) (by omega) (by simp; omega) ?_; intro v2 w5 hown5 hB5; have c0 := (hB5.cell (p := ⟨B, 0, none⟩) hBz).trans ((World.cell?_alloc_lt w3 _ ⟨B, 0, none⟩ (by show B < _; omega)).trans c0); have c1 := (hB5.cell (p := ⟨B + 1, 0, none⟩) hz2).trans ((World.cell?_alloc_lt w3 _ ⟨B + 1, 0, none⟩ (by show B + 1 < _; omega)).trans c1); have HB5 : Hid (Below w2.heap.size w2 w5) := (HB4.out.alloc hz4 _).trans hB5; clear hB5)))
  all_goals
    obtain ⟨us, hus⟩ : ∃ us, us = [f] ++ ys := ⟨_, rfl⟩
    rw [← hus] at hown5
    have hul : us.length = ys.length + 1 := by rw [hus]; simp
    have HUL := Lib.hid hul
    obtain ⟨A5, c5, rfl, hO5⟩ := own_ints hown5
    have HO5 := Lib.hid hO5
    have HUS := Lib.hid (show us = f :: longL ms m (strangersL ms f []) by rw [hus, hy4.out]; rfl)
    have HZL := Lib.hid (show (strangersL ms f []).length = 0 from rfl)
    have HNE := Lib.hid (show us ≠ [] by rw [HUS.out]; simp)
    have HBW := Lib.hid (show Below w.heap.size w w5 from HB02.out.trans (HB5.out.mono HB02.out.size))
    have HMW := Lib.hid (H.out.1.below HBW.out)
    have HOW := Lib.hid (HOT.out.below HBW.out)
    have hHY := HY4.out
    clear hown5 hO5 hO4 hn4 hy4 hus hul c0 c1 HZS HO3 HM2 hzs
    go_wp2_with fail
    go_ret
    exact ⟨A5, c5, us, rfl, HO5.out, HBW.out, fun h => absurd h HNE.out, (by rw [longL, if_pos (by rw [HZL.out]; rfl), HUS.out] : us = longL ms (m + 1) (f :: []))⟩

set_option maxRecDepth 100000 in
set_option maxHeartbeats 2000000 in
theorem long_cons2 (ms : List (Int × Int)) (A : Option Addr) (c m : Nat) (hv : vhB ms = true) (ih : LongAt ms A c m)
    (f : Int) (others : List Int) (bl off : Nat) (c2 : Nat) (w : World) (hm : others.length ≤ m) (hm1 : others.length ≤ 100) (h : Marks w A ms) (hO : Out w (some ⟨bl, off, none⟩) c2 (f :: others)) (hS : ∀ b ∈ f :: others, hasB ms b = true) (h1 : 1 < c2) :
    Calls Try.prog 110 #[.slice A ms.length c, .slice (some ⟨bl, off, none⟩) (others.length + 1) c2] w fun e w' => ∃ (A' : Option Addr) (c' : Nat) (ys : List Int), e = .returned (.slice A' ys.length c') ∧ Out w' A' c' ys ∧ Below w.heap.size w w' ∧ (ys = [] → A' = none ∧ c' = 0) ∧ Hid (ys = longL ms (m + 1) (f :: others)) := by
  have hl0 : ((((others.length + 1 : Nat) : Int)) == 0) = false := by simp; omega
  have hlc : others.length + 1 ≤ c2 := hO.le
  have hcm : c2 ≤ 9223372036854775807 := hO.cap
  obtain ⟨ad, e, hb, hcells⟩ := hO.ints.2 (by simp)
  cases e
  have f0 : w.cell? ⟨bl, off, none⟩ = some (.int .i64 f) := by
    have := hcells 0 (.int .i64 f) (by simp)
    rwa [add_mk] at this
  simp only at hb
  have HOT : Hid (Out w (some ⟨bl, off + 1, none⟩) (c2 - 1) others) := ⟨hO.ints.tail_, by omega, by unfold maxLen; omega⟩
  have H := Lib.hid (And.intro h (And.intro hv (And.intro hO hS)))
  have IH := Lib.hid ih
  have EG : Hid (∀ args w, (callFunc 123 args).run Try.prog w = .ok (.enter 123 args) w) := enters_of Try.func123 (by kernel_rfl) rfl
  clear h hv hO hS ih hcells
  go_enter Try.func110, Try.ntmps110
  go_wp2_with fail
  go_region
  go_wp2_with fail
  have hB1 : Below w.heap.size w ((w.alloc (.cells #[.slice A ms.length c] 65)).alloc (.cells #[.int .i64 f] 3)).drew := (by repeat (first | with_reducible exact Below.refl _ _ | with_reducible assumption | refine below_drewN ?_ _ | with_reducible refine Below.drew ?_ | (refine Below.setCell ?_ (by first | (simp; done) | (simp; omega) | omega) _) | (refine Below.alloc ?_ (by first | (simp; done) | (simp; omega) | omega) _)))
  have hC1 : Caught ((w.alloc (.cells #[.slice A ms.length c] 65)).alloc (.cells #[.int .i64 f] 3)).drew w.heap.size (w.heap.size + 1) A ms.length c f := ⟨(by first | (simp; done) | (simp; omega) | omega), (by first | (simp; done) | (simp; omega) | omega), by simp, by simp⟩
  have hcon := kept_any _ _ _ EG.out others (some ⟨bl, off + 1, none⟩) (c2 - 1) _ (keep_strange ms A c f others _ _ _ (H.out.1.below hB1) H.out.2.1 (H.out.2.2.2 f (by simp)) (fun b hb => H.out.2.2.2 b (by simp [hb])) hC1) (HOT.out.ints.below hB1) (by first | omega | simp)
  refine hcon.mono ?_
  clear hcon
  rintro e w2 ⟨A3, c3, zs, rfl, hO3, hB2, hzs⟩
  have c0 := (hB2.cell (p := ⟨w.heap.size, 0, none⟩) (by first | (simp; done) | (simp; omega) | omega)).trans hC1.hits
  have c1 := (hB2.cell (p := ⟨w.heap.size + 1, 0, none⟩) (by first | (simp; done) | (simp; omega) | omega)).trans hC1.num
  have hz2 : w.heap.size + 1 < w2.heap.size := by have := hB2.size; simp at this; omega
  have hB02 : Below w.heap.size w w2 := hB1.trans (hB2.mono (by first | (simp; done) | (simp; omega) | omega))
  have HM2 := Lib.hid (H.out.1.below hB02)
  have HO3 := Lib.hid hO3
  have HB02 := Lib.hid hB02
  have HL3 := Lib.hid (show zs.length ≤ others.length by rw [hzs.out]; exact List.length_filter_le _ _)
  have HL4 := HL3.out
  have HZS := Lib.hid (show ∀ b ∈ zs, hasB ms b = true from fun b hb => H.out.2.2.2 b (by rw [hzs.out] at hb; simp at hb; simp [hb.1]))
  have HOS := Lib.hid (show ∀ b ∈ others, hasB ms b = true from fun b hb => H.out.2.2.2 b (by simp [hb]))
  clear hC1 hB1 hB2 hO3 hB02
  obtain ⟨B, hBe⟩ : ∃ B, B = w.heap.size := ⟨_, rfl⟩
  rw [← hBe] at c0 c1 hz2 hb ⊢
  have HBE := Lib.hid hBe
  clear hBe f0 hb
  go_wp2_with fail
  have hBz : B < w2.heap.size := by omega
  go_region_held3 (fun w' => w'.cell? ⟨B, 0, none⟩ = some (.slice A ms.length c) ∧ w'.cell? ⟨B + 1, 0, none⟩ = some (.int .i64 f))
    (((try simp only [cell_drew']); first | with_reducible exact ⟨c0, c1⟩ | exact ⟨(World.cell?_alloc_lt _ _ _ (by first | omega | (simp; omega))).trans c0, (World.cell?_alloc_lt _ _ _ (by first | omega | (simp; omega))).trans c1⟩))
    ((first
      | (go_at_call 110; refine (IH.out zs A3 c3 _ (by omega) (by omega) (HM2.out.below (by repeat (first | with_reducible exact Below.refl _ _ | with_reducible assumption | refine below_drewN ?_ _ | with_reducible refine Below.drew ?_ | (refine Below.setCell ?_ (by first | (simp; done) | (simp; omega) | omega) _) | (refine Below.alloc ?_ (by first | (simp; done) | (simp; omega) | omega) _)))) (HO3.out.below (by repeat (first | with_reducible exact Below.refl _ _ | with_reducible assumption | refine below_drewN ?_ _ | with_reducible refine Below.drew ?_ | (refine Below.setCell ?_ (by first | (simp; done) | (simp; omega) | omega) _) | (refine Below.alloc ?_ (by first | (simp; done) | (simp; omega) | omega) _)))) HZS.out).mono ?_; rintro e w3 ⟨A4, c4, ys, rfl, hO4, hB4, hn4, hy4⟩; have hz4 : w2.heap.size ≤ w3.heap.size := (by have := hB4.size; simp at this; omega); have HB4 : Hid (Below w2.heap.size w2 w3) := (Below.trans (by repeat (first | with_reducible exact Below.refl _ _ | with_reducible assumption | refine below_drewN ?_ _ | with_reducible refine Below.drew ?_ | (refine Below.setCell ?_ (by first | (simp; done) | (simp; omega) | omega) _) | (refine Below.alloc ?_ (by first | (simp; done) | (simp; omega) | omega) _))) (hB4.mono (by first | (simp; done) | (simp; omega) | omega))); have HB4' := Lib.hid hB4; have HY4 : Hid (ys.length ≤ 100) := (show ys.length ≤ 100 by rw [hy4.out]; exact Nat.le_trans (longL_len ms m zs) (by first | omega | simp)); clear hB4; have c0 := (HB4.out.cell (p := ⟨B, 0, none⟩) hBz).trans c0; have c1 := (HB4.out.cell (p := ⟨B + 1, 0, none⟩) hz2).trans c1)
      | (refine step_app_ints w3 rfl (.tmp 22) (.tmp 25) rfl w2.heap.size (.slice (some ⟨w2.heap.size, 0, none⟩) 1 1) 1 [f] ys A4 c4 rfl (own_below (World.ownsRow.drew (own_one w2 w2.heap.size f (Nat.le_refl _))) HB4'.out) rfl hO4.ints hn4 (by have := HY4.out; omega) (by omega) hz4 ?_; intro v2 w5 hown5 hB5; have c0 := (hB5.cell (p := ⟨B, 0, none⟩) hBz).trans c0; have c1 := (hB5.cell (p := ⟨B + 1, 0, none⟩) hz2).trans c1; have HB5 : Hid (Below w2.heap.size w2 w5) := HB4.out.trans hB5; clear hB5)
      | (refine step_app_ints (w3.alloc (.cells #[.int .i64 f] 3)) rfl (.tmp 22) (.tmp 25) rfl w2.heap.size (.slice (some ⟨w3.heap.size, 0, none⟩) 1 1) 1 [f] ys A4 c4 rfl (own_one w3 w2.heap.size f hz4) rfl (hO4.ints.alloc_ _) hn4 (by have := HY4.out; omega) (by omega) (by simp; omega) ?_; intro v2 w5 hown5 hB5; have c0 := (hB5.cell (p := ⟨B, 0, none⟩) hBz).trans ((World.cell?_alloc_lt w3 _ ⟨B, 0, none⟩ (by show B < _; omega)).trans c0); have c1 := (hB5.cell (p := ⟨B + 1, 0, none⟩) hz2).trans ((World.cell?_alloc_lt w3 _ ⟨B + 1, 0, none⟩ (by show B + 1 < _; omega)).trans c1); have HB5 : Hid (Below w2.heap.size w2 w5) := (HB4.out.alloc hz4 _).trans hB5; clear hB5)
      | (refine step_app_ints (w3.alloc (.cells #[.int .i64 f] 3)).drew rfl (.tmp 22) (.tmp 25) rfl w2.heap.size (.slice (some ⟨w3.heap.size, 0, none⟩) 1 1) 1 [f] ys A4 c4 rfl (World.ownsRow.drew (own_one w3 w2.heap.size f hz4)) rfl (hO4.ints.alloc_ _) hn4 (by have := HY4.out; omega) (by omega) (by simp; omega) ?_; intro v2 w5 hown5 hB5; have c0 := (hB5.cell (p := ⟨B, 0, none⟩) hBz).trans ((World.cell?_alloc_lt w3 _ ⟨B, 0, none⟩ (by show B < _; omega)).trans c0); have c1 := (hB5.cell (p := ⟨B + 1, 0, none⟩) hz2).trans ((World.cell?_alloc_lt w3 _ ⟨B + 1, 0, none⟩ (by show B + 1 < _; omega)).trans c1); have HB5 : Hid (Below w2.heap.size w2 w5) := (HB4.out.alloc hz4 _).trans hB5; clear hB5)))
  all_goals
    obtain ⟨us, hus⟩ : ∃ us, us = [f] ++ ys := ⟨_, rfl⟩
    rw [← hus] at hown5
    have hul : us.length = ys.length + 1 := by rw [hus]; simp
    have HUL := Lib.hid hul
    obtain ⟨A5, c5, rfl, hO5⟩ := own_ints hown5
    have HO5 := Lib.hid hO5
    have HUS := Lib.hid (show us = f :: longL ms m (strangersL ms f others) by rw [hus, hy4.out, hzs.out]; rfl)
    have HZL := Lib.hid (show (strangersL ms f others).length = zs.length by rw [hzs.out]; rfl)
    have HNE := Lib.hid (show us ≠ [] by rw [HUS.out]; simp)
    have HBW := Lib.hid (show Below w.heap.size w w5 from HB02.out.trans (HB5.out.mono HB02.out.size))
    have HMW := Lib.hid (H.out.1.below HBW.out)
    have HOW := Lib.hid (HOT.out.below HBW.out)
    have hHY := HY4.out
    clear hown5 hO5 hO4 hn4 hy4 hus hul c0 c1 HZS HO3 HM2 hzs
    by_cases hse : zs.length = others.length
    · have hse1 : ((zs.length : Int) == (others.length : Int)) = true := by simp [hse]
      have HSE := Lib.hid hse
      clear hse
      go_wp2_with fail
      go_ret
      exact ⟨A5, c5, us, rfl, HO5.out, HBW.out, fun h => absurd h HNE.out, (by rw [longL, if_pos (by rw [HZL.out, HSE.out]), HUS.out] : us = longL ms (m + 1) (f :: others))⟩
    · have hse1 : ((zs.length : Int) == (others.length : Int)) = false := by simp; omega
      have HSE := Lib.hid hse
      clear hse
      go_wp2_with (go_at_call 110; refine (IH.out others (some ⟨bl, off + 1, none⟩) (c2 - 1) _ (by omega) (by omega) HMW.out HOW.out HOS.out).mono ?_; rintro e w6 ⟨A6, c6, xs, rfl, hO6, hB6, hn6, hx6⟩)
      · have hgt : us.length < xs.length := by assumption
        go_ret
        exact ⟨A6, c6, xs, rfl, hO6, below_step HBW.out hB6, hn6, (by rw [longL, if_neg (by rw [HZL.out]; exact HSE.out), if_pos (by rw [← HUS.out, ← hx6.out]; exact hgt), hx6.out] : xs = longL ms (m + 1) (f :: others))⟩
      · have hgt : ¬ us.length < xs.length := by assumption
        go_ret
        exact ⟨A5, c5, us, rfl, HO5.out.below hB6, below_step HBW.out hB6, fun h => absurd h HNE.out, (by rw [longL, if_neg (by rw [HZL.out]; exact HSE.out), if_neg (by rw [← HUS.out, ← hx6.out]; exact hgt), HUS.out] : us = longL ms (m + 1) (f :: others))⟩

set_option maxRecDepth 100000 in
theorem long_nil (ms : List (Int × Int)) (A : Option Addr) (c : Nat) (A2 : Option Addr) (c2 m : Nat) (w : World) :
    Calls Try.prog 110 #[.slice A ms.length c, .slice A2 0 c2] w fun e w' => ∃ (A' : Option Addr) (c' : Nat) (ys : List Int), e = .returned (.slice A' ys.length c') ∧ Out w' A' c' ys ∧ Below w.heap.size w w' ∧ (ys = [] → A' = none ∧ c' = 0) ∧ Hid (ys = longL ms m []) := by
  go_enter Try.func110, Try.ntmps110
  go_wp2_with fail
  go_ret
  exact ⟨none, 0, [], rfl, Out.nil_, (by repeat (first | with_reducible exact Below.refl _ _ | with_reducible assumption | refine below_drewN ?_ _ | with_reducible refine Below.drew ?_ | (refine Below.setCell ?_ (by first | (simp; done) | (simp; omega) | omega) _) | (refine Below.alloc ?_ (by first | (simp; done) | (simp; omega) | omega) _))), fun _ => ⟨rfl, rfl⟩, (by cases m <;> rfl : [] = longL ms m [])⟩
theorem long_any (ms : List (Int × Int)) (A : Option Addr) (c : Nat) (hv : vhB ms = true) : ∀ m, LongAt ms A c m
  | 0 => fun S A2 c2 w hm _ _ _ _ => by
    have : S = [] := List.eq_nil_of_length_eq_zero (by omega)
    subst this
    exact long_nil ms A c A2 c2 0 w
  | m + 1 => fun S A2 c2 w hm h100 h hO hS => by
    match S, hm, h100, hO, hS with
    | [], _, _, _, _ => exact long_nil ms A c A2 c2 (m + 1) w
    | f :: others, hm, h100, hO, hS =>
      simp only [List.length_cons] at hm h100
      obtain ⟨bl, off, rfl, _, _⟩ := hO.ints.open_ (by simp)
      have hle : others.length + 1 ≤ c2 := hO.le
      by_cases h1 : c2 = 1
      · subst h1
        obtain rfl : others = [] := List.eq_nil_of_length_eq_zero (by omega)
        exact long_cons1 ms A c m hv (long_any ms A c hv m) f bl off w h hO hS
      · exact long_cons2 ms A c m hv (long_any ms A c hv m) f others bl off c2 w (by omega) (by omega) h hO hS (by omega)

set_option maxRecDepth 100000 in
theorem layer_any (ms : List (Int × Int)) (A : Option Addr) (c : Nat) (w : World) (h : Marks w A ms) (hv : vhB ms = true) :
    Calls Try.prog 82 #[.slice A ms.length c] w fun e w' => ∃ (A' : Option Addr) (c' : Nat) (ys : List Int), e = .returned (.slice A' ys.length c') ∧ Out w' A' c' ys ∧ Below w.heap.size w w' ∧ Hid (ys = layerL ms) := by
  have hn := (vh_parts hv).2
  have H := Lib.hid (And.intro h hv)
  have HL := Lib.hid (allL_len ms.length)
  clear h hv
  go_enter Try.func82, Try.ntmps82
  go_wp2_with fail
  refine (all_any ms.length A c _ (by omega)).mono ?_
  rintro e w1 ⟨A1, c1, rfl, hO1, hB1⟩
  have hcon := long_any ms A c H.out.2 ms.length (allL ms.length) A1 c1 w1 (by rw [HL.out]; omega) (by rw [HL.out]; omega) (H.out.1.below hB1) hO1 (fun b hb => allL_has hb)
  rw [HL.out] at hcon
  have HQ := Lib.hid hcon
  have HO := Lib.hid hO1
  clear hcon hO1
  go_wp2_with (go_at_call 110; refine HQ.out.mono ?_; rintro e w2 ⟨A2, c2, ys, rfl, hO2, hB2, _, hy⟩)
  go_ret
  exact ⟨A2, c2, ys, rfl, hO2, below_step hB1 hB2, hy⟩
def layerF (ms : List (Int × Int)) : List Int := if vhB ms then layerL ms else []
set_option maxRecDepth 100000 in
theorem toldLayer_any (ms : List (Int × Int)) (A : Option Addr) (c : Nat) (w : World) (h : Clk w A c ms) :
    Calls Try.prog 65 #[.slice A ms.length c, .func (Fn.func 82) #[.slice A ms.length c] #[]] w fun e w' => ∃ (A' : Option Addr) (c' : Nat) (ys : List Int) (E : Int), e = .returned (.tuple #[.slice A' ys.length c', .int .i64 E]) ∧ Out w' A' c' ys ∧ Below w.heap.size w w' ∧ Hid (ys = layerF ms ∧ E = hitsE ms) := by
  have H := Lib.hid h
  clear h
  cases hv : vhB ms with
  | true =>
    have HV := Lib.hid hv
    clear hv
    go_enter Try.func65, Try.ntmps65
    go_wp2_with (first
      | (go_at_call 21; refine (valid_any ms A c _ H.out.marks H.out.len).mono ?_; rintro e w1 ⟨he, hB1⟩; rw [HV.out] at he; subst he)
      | (go_at_call 82; refine (layer_any ms A c _ (H.out.marks.below hB1) HV.out).mono ?_; rintro e w2 ⟨A2, c2, ys, rfl, hO2, hB2, hy⟩))
    go_ret2
    exact ⟨A2, c2, ys, _, rfl, hO2, below_step hB1 hB2, by rw [hy.out, layerF, HV.out]; rfl, (hitsE_yes HV.out).symm⟩
  | false =>
    have HV := Lib.hid hv
    clear hv
    go_enter Try.func65, Try.ntmps65
    go_wp2_with (go_at_call 21; refine (valid_any ms A c _ H.out.marks H.out.len).mono ?_; rintro e w1 ⟨he, hB1⟩; rw [HV.out] at he; subst he)
    go_ret2
    exact ⟨none, 0, [], _, rfl, Out.nil_, hB1, by rw [layerF, HV.out]; rfl, (hitsE_no HV.out).symm⟩
set_option maxRecDepth 100000 in
theorem coneLayer_any (ms : List (Int × Int)) (A : Option Addr) (c : Nat) (w : World) (h : Clk w A c ms) :
    Calls Try.prog 38 #[.slice A ms.length c] w fun e w' => ∃ (A' : Option Addr) (c' : Nat) (ys : List Int) (E : Int), e = .returned (.tuple #[.slice A' ys.length c', .int .i64 E]) ∧ Out w' A' c' ys ∧ Below w.heap.size w w' ∧ Hid (ys = layerF ms ∧ E = hitsE ms) := by
  have H := Lib.hid h
  clear h
  go_enter Try.func38, Try.ntmps38
  go_wp2_with (go_at_call 65; refine (toldLayer_any ms A c _ H.out).mono ?_; rintro e w2 ⟨A2, c2, ys, E, rfl, hO2, hB2, hy⟩)
  go_ret2
  exact ⟨A2, c2, ys, E, rfl, hO2, hB2, hy⟩
end Go.Proofs.Ytmlkdjcjfkfdiaa
