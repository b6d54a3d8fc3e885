/-
  Contract: fromEach (cone), for both joins.
-/
import Derived.RangeFuncNested
import Derived.RangeFuncBound
import Derived.RangeFuncCalls
import Derived.Shelf.RegionOpen
import Derived.WalkKit
import Derived.Deep.CutRange
import Derived.Test.YtmlkdjcjfkfdiaaRoundQuiet
import Derived.Test.YtmlkdjcjfkfdiaaBackward
import Derived.Test.YtmlkdjcjfkfdiaaAfter
import Derived.Test.YtmlkdjcjfkfdiaaNumStep
namespace Go.Proofs.Ytmlkdjcjfkfdiaa
open Go.RowKit Go.Shelf
attribute [local go_sem] Oper.semAt_some

theorem made_rowK' (n : Nat) : (madeCells (Value.int .i64 0).cells (n * 1)).toList = (List.replicate n (0 : Int)).map (Value.int .i64) := by
  rw [List.map_replicate, List.eq_replicate_iff]
  refine ⟨by simp [madeCells], fun b hb => ?_⟩
  simp only [madeCells, Value.cells] at hb
  simp at hb
  obtain ⟨i, _, rfl⟩ := hb
  simp [Nat.mod_one]
/-- All below n₀ but one block is as it was. -/
def KeepX (n₀ gb : Nat) (W W' : World) : Prop := W.heap.size ≤ W'.heap.size ∧ ∀ p : Addr, p.block < n₀ → p.block ≠ gb → W'.cell? p = W.cell? p
theorem KeepX.refl (n₀ gb : Nat) (W : World) : KeepX n₀ gb W W := ⟨Nat.le_refl _, fun _ _ _ => rfl⟩
theorem KeepX.trans {n₀ gb : Nat} {A B C : World} (h : KeepX n₀ gb A B) (k : KeepX n₀ gb B C) : KeepX n₀ gb A C :=
  ⟨Nat.le_trans h.1 k.1, fun p h1 h2 => (k.2 p h1 h2).trans (h.2 p h1 h2)⟩
theorem KeepX.of_below {n₀ gb : Nat} {A B : World} (h : Below n₀ A B) : KeepX n₀ gb A B := ⟨h.size, fun _ h1 _ => h.cell h1⟩

/-- The block of the numbers. -/
def NumsAt (gb n : Nat) (xs : List Int) (W : World) : Prop := xs.length = n ∧ ∀ j, j < n → W.cell? ⟨gb, j, none⟩ = some (.int .i64 (xs.getD j 0)) ∧ W.frozen? ⟨gb, j, none⟩ = false
theorem NumsAt.below {gb n : Nat} {xs : List Int} {W W' : World} (h : NumsAt gb n xs W) (hB : Below W.heap.size W W') (hg : gb < W.heap.size) : NumsAt gb n xs W' :=
  ⟨h.1, fun j hj => ⟨(hB.cell (p := ⟨gb, j, none⟩) hg).trans (h.2 j hj).1, (hB.frozen (p := ⟨gb, j, none⟩) hg).trans (h.2 j hj).2⟩⟩
theorem nums_of_own {base gb n : Nat} {xs : List Int} {W : World} (h : W.ownsRow base 3 1 (.slice (some ⟨gb, 0, none⟩) n n) n (xs.map (Value.int .i64))) : NumsAt gb n xs W := by
  have hl : xs.length = n := by have := h.1; simpa using this
  refine ⟨hl, fun j hj => ⟨?_, ?_⟩⟩
  · have := h.cellAt j (by omega)
    rw [List.getElem?_map, List.getElem?_eq_getElem (by omega)] at this
    rw [List.getD_eq_getElem?_getD, List.getElem?_eq_getElem (by omega)]
    simpa using this
  · exact h.frozenAt j
theorem keepsOthers_of_below {A B : World} (h : Below A.heap.size A B) : KeepsOthers A B := ⟨h.size, fun k _ hk _ => (h.block k (Array.getElem?_eq_some_iff.1 hk).1).trans hk⟩
theorem keepX_store {n₀ gb : Nat} (off : Nat) (W : World) (u : Value) : KeepX n₀ gb W (W.setCell ⟨gb, off, none⟩ u) :=
  ⟨(KeepsOthers.setCell W _ u).size, fun p _ h2 => World.cell?_setCell_other _ _ _ _ (by intro e; rw [← e] at h2; exact h2 rfl)⟩
theorem add_off (g j : Nat) : (⟨g, 0, none⟩ : Addr).add j = ⟨g, j, none⟩ := by
  unfold Addr.add
  split <;> simp_all
theorem ints_of_nums {gb n : Nat} {xs : List Int} {W : World} (h : NumsAt gb n xs W) (hg : gb < W.heap.size) : Ints W (some ⟨gb, 0, none⟩) xs := by
  refine ⟨by simp, fun _ => ⟨_, rfl, hg, fun j u hj => ?_⟩⟩
  rw [List.getElem?_map] at hj
  have hl : j < xs.length := by
    rcases Nat.lt_or_ge j xs.length with q | q
    · exact q
    · rw [List.getElem?_eq_none q] at hj; cases hj
  rw [List.getElem?_eq_getElem hl] at hj
  simp only [Option.map_some, Option.some.injEq] at hj
  rw [add_off, (h.2 j (by have := h.1; omega)).1, ← hj, List.getD_eq_getElem?_getD, List.getElem?_eq_getElem hl]; rfl
theorem keepX_own {β : Type} {n₀ gb : Nat} {w4 : World} (h4 : n₀ ≤ w4.heap.size) : OwnFrom n₀ (fun (_ : β) W => KeepX n₀ gb w4 W) := fun _ W W' row hs hg hr =>
  ⟨Nat.le_trans hs.1 hg.size, fun p h1 h2 => (World.cell?_of_block (hg.block p.block (Nat.lt_of_lt_of_le h1 (Nat.le_trans h4 hs.1)) (fun e => by have := (hr _ e.symm).1; omega))).trans (hs.2 p h1 h2)⟩
theorem numsAt_own {β : Type} {gb n : Nat} (G : β → List Int → Prop) : Own (fun (s : β) W => ∃ xs, NumsAt gb n xs W ∧ G s xs) := fun _ W W' row hs hg hr => by
  obtain ⟨xs, hN, hG⟩ := hs
  exact ⟨xs, ⟨hN.1, fun j hj => ⟨cell_kept (hN.2 j hj).1 hg hr, (frozen_kept (hN.2 j hj).1 hg hr).trans (hN.2 j hj).2⟩⟩, hG⟩
def encE (ys : List Int) (n : Nat) (k : Fin n) : Array Value := #[.int .i64 ((n - 1 - k.val : Nat) : Int), .int .i64 (valE ys n k.val)]
def elE {n : Nat} (hn : 0 < n) (k : Nat) : Fin n := ⟨k % n, Nat.mod_lt _ hn⟩
theorem fromEnd_E {ys : List Int} {n : Nat} (hn : 0 < n) (hl : ys.length = n) : FromEnd (encE ys n) (elE hn) ys := by
  intro m hm
  have e : (n - (m + 1)) % n = n - (m + 1) := Nat.mod_eq_of_lt (by omega)
  have e2 : n - 1 - (n - (m + 1)) = m := by omega
  rw [hl]
  simp only [encE, elE, valE, e, e2]
theorem numsAll {ms : List (Int × Int)} {J : Int → Int → Int} {ys xs : List Int} (hp : ys.Perm (allL ms.length)) (hn : 0 < ms.length) (hx : xs.length = ms.length) (h : InvN ms J ys ms.length (comeK (elE hn) ms.length) xs) : xs = (allL ms.length).map (numI ms J) := by
  have hyl : ys.length = ms.length := hp.length_eq.trans (allL_len _)
  have hr : (comeK (elE hn) ms.length).map Fin.val = List.range (comeK (elE hn) ms.length).length := by
    rw [comeK_length, comeK, List.map_map]
    refine Eq.trans (List.map_congr_left fun k hk => ?_) (List.map_id _)
    have := List.mem_range.1 hk
    simp [elE, Nat.mod_eq_of_lt this]
  have hv := h.2 hr
  rw [comeK_length] at hv
  refine List.ext_getElem (by rw [hx, List.length_map, allL_len]) fun j h1 h2 => ?_
  have hj : ((j : Nat) : Int) ∈ ys := hp.mem_iff.2 (List.mem_map.2 ⟨j, List.mem_range.2 (by omega), rfl⟩)
  obtain ⟨p, hp1, hp2⟩ := List.getElem_of_mem hj
  have e2 : valE ys ms.length (ms.length - 1 - p) = (j : Int) := by
    rw [valE, show ms.length - 1 - (ms.length - 1 - p) = p by omega, List.getElem?_eq_getElem hp1, hp2]; rfl
  have := hv (ms.length - 1 - p) (by omega)
  rw [e2, Int.toNat_natCast, List.getD_eq_getElem?_getD, List.getElem?_eq_getElem h1] at this
  rw [List.getElem_map]
  simp only [allL, List.getElem_map, List.getElem_range]
  exact this
theorem valE_has {ms : List (Int × Int)} {ys : List Int} (hp : ys.Perm (allL ms.length)) {k : Nat} (hk : k < ms.length) : ∃ v : Nat, v < ms.length ∧ valE ys ms.length k = (v : Int) := by
  have hl : ys.length = ms.length := hp.length_eq.trans (allL_len _)
  have hm : ys[ms.length - 1 - k]'(by omega) ∈ allL ms.length := hp.mem_iff.1 (List.getElem_mem _)
  have h2 := allL_mem hm
  have e : valE ys ms.length k = ys[ms.length - 1 - k]'(by omega) := by rw [valE, List.getElem?_eq_getElem (by omega)]; rfl
  rw [← e] at h2
  exact ⟨(valE ys ms.length k).toNat, by omega, by omega⟩
theorem jX_snoc {J : Int → Int → Int} {xs l : List Int} {k : Nat} {b : Int} (h : l[k]? = some b) : jX J xs (l.take (k + 1)) = J (jX J xs (l.take k)) (xs.getD b.toNat 0) := by
  rw [take_snoc h, jX, List.map_append, List.foldl_append]; rfl
theorem pow_box {k : Nat} (h : k ≤ 13) : (0 : Int) ≤ 15 ^ k ∧ (15 : Int) ^ k ≤ 1946195068359375 := by
  have h2 : (15 : Nat) ^ k ≤ 15 ^ 13 := Nat.pow_le_pow_right (by omega) h
  have h3 : (15 : Int) ^ k ≤ 15 ^ 13 := by exact_mod_cast h2
  exact ⟨Int.pow_nonneg (by omega), by simpa using h3⟩
theorem wpListIn_make_all {F : Fence} {n : Nat} {P : Program} (w : World) {ops : Array Oper} {rest : List Oper} {o : Oper} {a : Act} {Q : Exit → Act → World → Prop}
    (hg : o.guard = none) (l c : Operand) (t : TypeId) (hop : o.op = Op.makeSlice t l c)
    (base : Nat) (e : TypeId) (i : TypeInfo) (z : Value) (size : Nat) (h1 : P.underlying t = some (.slice e)) (h2 : P.info? e = some i) (h3 : i.zero = some z) (h4 : i.size = size)
    (kl kc : IntKind) (L C : Int) (m : Nat) (hl : a.eval l = .int kl L) (hc : a.eval c = .int kc C) (hL : L = (m : Int)) (hC : C = (m : Int)) (b2 : i.bytes * m ≤ 281474976710656) (b3 : m ≤ maxLen) (b4 : base ≤ w.heap.size)
    (hK : ∀ w', w'.ownsRow base e size (.slice (some ⟨w.heap.size, 0, none⟩) m m) m (madeCells z.cells (m * size)).toList → w.grownBy w' none → wpListIn F n P ops Q rest (a.put o.dst (.slice (some ⟨w.heap.size, 0, none⟩) m m)) w') :
    wpListIn F n P ops Q (o :: rest) a w := by
  refine wpListIn_plain hg fun K hK' => ?_
  obtain ⟨w', hrun, r1, r2⟩ := run_make_full (P := P) w base t e i z size h1 h2 h3 h4 kl kc m b2 b3 b4
  subst hL
  subst hC
  unfold Oper.wpIn
  refine ⟨?_, ?_⟩
  · simp [Oper.about, hop]
  · rw [Oper.semAt_plain F _ _ (by rw [hop]; intro c hc'; cases hc')]
    simp [execOp, hop, hl, hc, hrun, Result.andThen]
    exact hK' _ _ (hK w' r1 r2)

set_option maxRecDepth 100000 in
set_option maxHeartbeats 2000000 in
theorem fromEach_any (g : Nat) (J : Int → Int → Int) (hg : JoinAt g J) (hJ : Small J) (ms : List (Int × Int)) (A : Option Addr) (c : Nat) (w : World) (h : Marks w A ms) (hv : vhB ms = true) :
    Calls Try.prog 101 #[.slice A ms.length c, .func (.func g) #[] #[]] w fun e w' => ∃ (A' : Option Addr) (c' : Nat) (ys : List Int), e = .returned (.slice A' ys.length c') ∧ Out w' A' c' ys ∧ Below w.heap.size w w' ∧ Hid (ys = (allL ms.length).map (numI ms J)) := by
  obtain ⟨hn1, hn2⟩ := vh_parts hv
  have H := Lib.hid (And.intro h hv)
  obtain ⟨i0, hi0, hz0, hz1, hz2⟩ := info_parts int_info
  have HZ2 := Lib.hid hz2
  clear hz2 h hv
  refine (callsIn_wide (n := 3)).1 ?_
  refine callsIn_of_wp_marks Try.func101 rfl trivial ?_ rfl
  simp only [Try.ntmps101, List.size_toArray, List.length_cons, List.length_nil, Nat.reduceAdd, Nat.reduceSub, Array.replicate_succ, Array.replicate_zero, List.push_toArray, List.append_toArray, List.nil_append, List.cons_append]
  refine wpIn_wide.2 ?_
  go_upto_region 2 with (at_make; refine wpList_make_full _ rfl _ _ 28 rfl w.heap.size 3 i0 (.int .i64 0) 1 Try.underlying28 hi0 hz0 hz1 _ _ _ _ ms.length rfl rfl rfl rfl (by rw [HZ2.out]; omega) (by unfold maxLen; omega) (by first | (simp; done) | (simp; omega) | omega) ?_; intro w1 hown1 hg1)
  rw [made_rowK'] at hown1
  simp only [World.size_alloc] at hown1
  have hb1 := (Below.refl ((w.alloc (.cells #[.slice A ms.length c] 65)).alloc (.cells #[.func (.func g) #[] #[]] 86)).heap.size _).grown hg1 (Nat.le_refl _) (by simp)
  have cO := (hb1.cell (p := ⟨w.heap.size, 0, none⟩) (by first | (simp; done) | (simp; omega) | omega)).trans (show _ = some (Value.slice A ms.length c) by simp)
  have cJ := (hb1.cell (p := ⟨w.heap.size + 1, 0, none⟩) (by first | (simp; done) | (simp; omega) | omega)).trans (show _ = some (Value.func (.func g) #[] #[]) by simp)
  have hlt1 : w.heap.size + 1 + 1 < w1.heap.size := by have := (hown1.lt (w.heap.size + 1 + 1) (by simp [Value.ownBlock])).2; omega
  have hr1 : NumsAt (w.heap.size + 1 + 1) ms.length (List.replicate ms.length 0) w1 := nums_of_own hown1
  obtain ⟨gb, hgb⟩ : ∃ gb, gb = w.heap.size + 1 + 1 := ⟨_, rfl⟩
  rw [← hgb] at hlt1 hr1
  obtain ⟨w2, hw2⟩ : ∃ w2, w2 = w1.alloc (.cells #[.slice (some ⟨gb, 0, none⟩) ms.length ms.length] 28) := ⟨_, rfl⟩
  obtain ⟨nb, hnb⟩ : ∃ nb, nb = w1.heap.size := ⟨_, rfl⟩
  rw [← hgb, ← hw2, ← hnb]
  have hB12 : Below w1.heap.size w1 w2 := by rw [hw2]; exact (Below.refl _ _).alloc (Nat.le_refl _) _
  have cN : w2.cell? ⟨nb, 0, none⟩ = some (.slice (some ⟨gb, 0, none⟩) ms.length ms.length) := by rw [hw2, hnb]; simp
  have hsz2 : w2.heap.size = nb + 1 := by rw [hw2, hnb]; simp
  have cO := (hB12.cell (p := ⟨w.heap.size, 0, none⟩) (show w.heap.size < w1.heap.size by omega)).trans cO
  have cJ := (hB12.cell (p := ⟨w.heap.size + 1, 0, none⟩) (show w.heap.size + 1 < w1.heap.size by omega)).trans cJ
  have hr2 : NumsAt gb ms.length (List.replicate ms.length 0) w2 := hr1.below hB12 hlt1
  have hW2 : Below w.heap.size w w2 := (Below.trans (((Below.refl _ w).alloc (Nat.le_refl _) _).alloc (by first | (simp; done) | (simp; omega) | omega) _) (hb1.mono (by first | (simp; done) | (simp; omega) | omega))).trans (hB12.mono (by omega))
  have HBT := Lib.hid (byTimeNew_any ms A c w2 (H.out.1.below hW2) H.out.2)
  rw [← hnb] at hlt1
  clear hown1 hg1 hb1 hr1 hB12 hw2 hnb HZ2 hz0 hz1 hi0
  go_wp2_with (first
    | (go_at_call 91; refine HBT.out.mono ?_; rintro e w3 ⟨ys, rfl, hO3, hB3, hP3⟩)
    | (go_at_call 119; refine (callsIn_wide.1 (backward_in Fence.wide 3 trivial rfl _ _ _ _)).mono ?_; rintro e w4 ⟨rfl, rfl⟩))
  obtain ⟨w4, hw4⟩ : ∃ w4, w4 = w3.alloc (.cells #[.slice (some ⟨nb + 1 + 1, 0, none⟩) ys.length ms.length] 28) := ⟨_, rfl⟩
  obtain ⟨bs, hbs⟩ : ∃ bs, bs = w3.heap.size := ⟨_, rfl⟩
  obtain ⟨gl, hgl⟩ : ∃ gl, gl = nb + 1 + 1 := ⟨_, rfl⟩
  rw [← hgl, ← hbs]
  rw [hsz2] at hO3
  rw [← hgl] at hw4
  rw [← hw4]
  rw [← hgl] at hO3
  have hyl : ys.length = ms.length := hP3.out.1.length_eq.trans (allL_len _)
  have hB34 : Below w3.heap.size w3 w4 := by rw [hw4]; exact (Below.refl _ _).alloc (Nat.le_refl _) _
  have cB : w4.cell? ⟨bs, 0, none⟩ = some (.slice (some ⟨gl, 0, none⟩) ys.length ms.length) := by rw [hw4, hbs]; simp
  have hB24 : Below w2.heap.size w2 w4 := hB3.trans (hB34.mono hB3.size)
  have hz4 : w4.heap.size = bs + 1 := by rw [hw4, hbs]; simp
  have cO4 := (hB24.cell (p := ⟨w.heap.size, 0, none⟩) (show w.heap.size < w2.heap.size by omega)).trans cO
  have cJ4 := (hB24.cell (p := ⟨w.heap.size + 1, 0, none⟩) (show w.heap.size + 1 < w2.heap.size by omega)).trans cJ
  have cN4 := (hB24.cell (p := ⟨nb, 0, none⟩) (show nb < w2.heap.size by omega)).trans cN
  have hr4 := hr2.below hB24 (by omega)
  have hW4 := below_step hW2 hB24
  have hgl3 : gl < bs := by
    obtain ⟨ad, _, e, hb, _, _⟩ := Reads.at_ hO3.ints (show 0 < ys.length by omega)
    cases e; rw [hbs]; exact hb
  have hcl : ∀ j, j < ys.length → w4.cell? ⟨gl, j, none⟩ = some (.int .i64 (ys[j]?.getD 0)) := by
    intro j hj
    obtain ⟨ad, e, hb, hc⟩ := (hO3.ints.below hB34).at_ hj
    cases e
    rw [List.getD_eq_getElem?_getD] at hc
    rw [add_off] at hc
    exact hc
  have hgb2 : gb < gl := by omega
  have HP := Lib.hid hP3.out
  have HY := Lib.hid hyl
  have hx0 : InvN ms J ys ms.length [] (List.replicate ms.length 0) := ⟨fun x hx => by rw [(List.mem_replicate.1 hx).2]; simp, fun _ k hk => absurd hk (by simp)⟩
  have hbs4 : bs < w4.heap.size := by omega
  have hnb4 : nb < gl := by omega
  have hgn : gb < nb := hlt1
  have hw2b : w.heap.size + 1 < gb := by omega
  have hfe := fromEnd_E hn1 hyl
  have hyl2 : ys.length ≤ 1000 := by omega
  have HG := Lib.hid (And.intro hgl (And.intro hbs (And.intro hgb (And.intro hz4 hsz2))))
  clear hw4 hB34 hB3 hO3 cO cJ cN hr2 hW2 HBT hP3 hgl hbs hgb hz4 hsz2 hyl hlt1 hB24
  refine (wpIn_wide (n := 3)).1 ?_
  refine wpIn_rangeFunc_ownG rfl (by omega) (gf := 127) (lb := #[.pointer (some ⟨bs, 0, none⟩)]) rfl trivial (enters_of Try.func127 (by kernel_rfl) rfl)
    (backward_stops (encE ys ms.length) (elE hn1) Fence.wide 2 trivial rfl (by omega) bs (some ⟨gl, 0, none⟩) ms.length ys hyl2 hfe (KeepX w4.heap.size gb) KeepX.trans (KeepX.refl _ _) w4 ?hBs ?hc)
    KeepX.trans (fun W l o o' hl h1 h2 h3 => KeepX.of_below (belowK_b (w := w4) (Nat.le_refl _) W l o o' hl h1 h2 h3)) (Below.refl _ _) (fun _ => rfl)
    (fun pre W => (KeepX w4.heap.size gb w4 W ∧ ∃ xs, NumsAt gb ms.length xs W ∧ InvN ms J ys ms.length pre xs) ∧ Below w.heap.size w W)
    (fun _ _ _ => False)
    (OwnFrom.and (OwnFrom.and (keepX_own (Nat.le_refl _)) (Own.from (numsAt_own _) _)) (ownFrom_below (Nat.le_refl _) (by omega)))
    (fun _ _ _ _ _ hs _ _ => hs)
    ⟨⟨KeepX.refl _ _ _, _, hr4, hx0⟩, hW4⟩
    (fun x => { tmps := #[.slice A ms.length c, .func (.func g) #[] #[], .pointer (some ⟨w.heap.size, 0, none⟩), .pointer (some ⟨w.heap.size + 1, 0, none⟩), .slice none 0 0, .pointer (some ⟨nb, 0, none⟩), undef, .int .i64 (valE ys ms.length x.val), undef, undef, undef, .slice A ms.length c, .int .i64 ms.length, .slice (some ⟨w.heap.size + 1 + 1, 0, none⟩) ms.length ms.length, .slice A ms.length c, .slice (some ⟨gl, 0, none⟩) ys.length ms.length, .func (.func 127) #[] #[.pointer (some ⟨bs, 0, none⟩)], .int .i64 ((ms.length - 1 - x.val : Nat) : Int), .int .i64 (valE ys ms.length x.val), undef, undef, undef, undef, undef, undef, undef, undef, undef, undef, undef, undef, undef, undef, undef, undef, undef, undef, undef, undef, undef, undef], defers := [] }) ?assign ?body ?done ?stop
  case hBs => exact fun W W' hB hK => ((hK.2 ⟨bs, 0, none⟩ (by show bs < _; omega) (by show bs ≠ _; omega)).trans (hB.cell (p := ⟨bs, 0, none⟩) (by show bs < _; omega))).trans cB
  case hc => exact fun W W' hB hK j hj => ⟨_, rfl, by
    rw [add_off]
    exact ((hK.2 ⟨gl, j, none⟩ (by show gl < _; omega) (by show gl ≠ _; omega)).trans (hB.cell (p := ⟨gl, j, none⟩) (by show gl < _; omega))).trans (hcl j hj)⟩
  case assign =>
    intro l x W K hK
    simp only [encE]
    gi_wp2
    exact hK
  case body =>
    rintro l pre x W ⟨⟨hK, xs, hN, hX⟩, hBw⟩ hpl
    obtain ⟨v, hv, ev⟩ := valE_has HP.out.1 x.isLt
    rw [ev]
    have cO := (hK.2 ⟨w.heap.size, 0, none⟩ (show w.heap.size < w4.heap.size by omega) (show w.heap.size ≠ gb by omega)).trans cO4
    have cJ := (hK.2 ⟨w.heap.size + 1, 0, none⟩ (show w.heap.size + 1 < w4.heap.size by omega) (show w.heap.size + 1 ≠ gb by omega)).trans cJ4
    have cN := (hK.2 ⟨nb, 0, none⟩ (show nb < w4.heap.size by omega) (show nb ≠ gb by omega)).trans cN4
    have HAF := Lib.hid (after_any ms A c v W (H.out.1.below hBw) H.out.2 (by simp [hasB]; omega))
    have HX := Lib.hid (And.intro hX (And.intro hK (And.intro ev hpl)))
    clear hX ev hK
    gi_wp2_with (refine ⟨trivial, ?_⟩; gi_at_call 103; refine (CallsIn.inRound l (callsIn_wide.2 HAF.out)).mono ?_; rintro e w5 ⟨A5, c5, zs, rfl, hO5, hB5, hz5⟩)
    have hzl := Lib.hid (after_len14 hn2 v)
    have HZ := Lib.hid (fun (b : Int) (hb : b ∈ zs) => (show ∃ bn : Nat, bn < ms.length ∧ b = (bn : Int) by
      rw [hz5.out] at hb
      have := allL_mem (mem_after.1 hb).1
      exact ⟨b.toNat, by omega, by omega⟩))
    have cJ5 := (hB5.cell (p := ⟨w.heap.size + 1, 0, none⟩) (show w.heap.size + 1 < W.heap.size by have := HX.out.2.1.1; omega)).trans cJ
    have cN5 := (hB5.cell (p := ⟨nb, 0, none⟩) (show nb < W.heap.size by have := HX.out.2.1.1; omega)).trans cN
    have hN5 := hN.below hB5 (by have := HX.out.2.1.1; omega)
    have HN5 := Lib.hid hN5
    have hMb := pow_box (k := pre.length) (by have := HY.out; omega)
    have HM := Lib.hid (And.intro HX.out.1.1 hMb)
    have HO5 := Lib.hid hO5
    have hzl14 : zs.length ≤ 14 := by rw [hz5.out]; exact hzl.out
    clear hN hN5 hMb hO5 cO cJ cN
    gi_loopw [8, 23] (fun s i wr => ∃ (k m : Nat) (z : Int), k ≤ zs.length ∧ i = .int .i64 k ∧ s = .int .i64 z ∧ wr = w5.drewN m ∧ (0 ≤ z ∧ z ≤ 27246730957031250) ∧ Hid (z = jX J xs (zs.take k))) (fun _ i _ => zs.length - (intOf i).toNat)
    case atStart => exact ⟨0, 0, 0, Nat.zero_le _, rfl, rfl, rfl, by omega, rfl⟩
    case round =>
      obtain ⟨k, m, z, hk, rfl, rfl, rfl, hzb, hz⟩ := hrel
      by_cases hlt : k < zs.length
      · obtain ⟨ad, b, rfl, hbk, hb, hcb⟩ := HO5.out.ints.get hlt
        obtain ⟨bn, hbn, rfl⟩ := HZ.out b (List.mem_of_getElem? hb.out)
        obtain ⟨hcn, _⟩ := HN5.out.2 bn hbn
        have hyb := getD_box HM.out.1 HM.out.2.1 bn
        have HS := Lib.hid (jX_snoc (J := J) (xs := xs) hb.out)
        generalize hy : xs.getD bn 0 = y at hcn hyb
        have HYY := Lib.hid hy
        have hM2 := HM.out.2.2
        have HJ := Lib.hid (fun W2 => hg.calls z y W2 hzb.1 hyb.1 (by omega))
        have HJB := Lib.hid (jX_box hJ HM.out.1 HM.out.2.1 (l := zs.take (k + 1)) (by rw [List.length_take]; omega))
        clear hy hM2
        have eg := hg.enters
        have hmx : Try.prog.follows .mixedOrders = true := by kernel_rfl
        gi_wp2
        refine quiet_inRound (F := Fence.wide) rfl hmx (by kernel_rfl) (by kernel_rfl) ?_
        repeat (gi_big_quiet_step ((gi_at_fn g; exact CallsIn.quiet_of_same (callsIn_wide.2 (HJ.out _)))))
        refine Go.BigFrame.wpQuietIn_want (fun _ _ _ _ => trivial) rfl ?_
        intro K hK
        gi_big_quiet_op
        refine ⟨.int .i64 (J z y), fun k2 => (callsIn_wide.2 (HJ.out _)).mono fun e w' h => ⟨h.1, k2, h.2⟩, ?_⟩
        refine hK _ ?_
        repeat (gi_big_quiet_step (fail))
        refine wpQuietIn_nil ?_
        intro _ hw'
        obtain ⟨nq, hw''⟩ := hw'
        subst hw''
        have HB : Hid (0 ≤ J z y ∧ J z y ≤ 27246730957031250) := by
          have e : J z y = jX J xs (zs.take (k + 1)) := by rw [HS.out, ← hz.out, Int.toNat_natCast, HYY.out]
          have h1 := HJB.out
          have h2 := HM.out.2.2
          rw [← e] at h1
          show 0 ≤ J z y ∧ J z y ≤ 27246730957031250
          omega
        gi_wp2
        go_roundw
        case rel => exact ⟨k + 1, _, _, by omega, by go_num, rfl, (by first | rfl | exact World.drewN_drewN _ _ _), HB.out, (by rw [HS.out, ← hz.out, Int.toNat_natCast, HYY.out] : J z y = _)⟩
        case measure => simp [intOf]; omega
      · obtain rfl : k = zs.length := by omega
        obtain ⟨hcv, hfv⟩ := HN5.out.2 v hv
        have ez : z = jX J xs (afterL ms v) := by rw [hz.out, List.take_length, hz5.out]
        have HST := Lib.hid (invN_step hJ hn2 HP.out.1 HP.out.2 HX.out.1 HN5.out.1 HX.out.2.2.1 hv)
        have HE := Lib.hid ez
        clear ez
        gi_wp2
        have hsz := HX.out.2.1.1
        have hB6 : Below W.heap.size W (w5.drewN m) := below_drewN hB5 m
        have hlen := HN5.out.1
        refine ⟨?_, ?_, ⟨?_, xs.set v (1 + z), ⟨by rw [List.length_set]; exact hlen, fun j hj => ⟨?_, ?_⟩⟩, by rw [HE.out]; exact HST.out⟩, ?_⟩
        · exact ((keepsOthers_of_below hB6).trans (KeepsOthers.setCell _ _ _)).from _
        · exact (KeepX.of_below (hB6.mono hsz)).trans (keepX_store _ _ _)
        · exact (HX.out.2.1.trans (KeepX.of_below (hB6.mono hsz))).trans (keepX_store _ _ _)
        · by_cases e : v = j
          · subst e
            rw [List.getD_eq_getElem?_getD, List.getElem?_set_self (by omega)]
            exact World.cell?_setCell_same' _ _ _ (by show ((w5.drewN m).cell? _).isSome = true; exact (congrArg Option.isSome hcv).trans rfl)
          · rw [World.cell?_setCell_other _ _ _ _ (by intro h; cases h; exact e rfl), List.getD_eq_getElem?_getD, List.getElem?_set_ne e, ← List.getD_eq_getElem?_getD]
            exact (HN5.out.2 j hj).1
        · rw [World.frozen?_setCell]; exact (HN5.out.2 j hj).2
        · exact ((hBw.trans (hB6.mono hBw.size)).setCell (by show w.heap.size ≤ gb; omega) _)
  case done =>
    rintro D pre W hD rfl ⟨⟨hK, xs, hN, hX⟩, hBw⟩ hKD
    have cN := (hK.2 ⟨nb, 0, none⟩ (show nb < w4.heap.size by omega) (show nb ≠ gb by omega)).trans cN4
    have HX := Lib.hid (numsAll HP.out.1 hn1 hN.1 (by have h := hX; rw [HY.out] at h; exact h))
    have HN := Lib.hid hN
    have hB7 := Lib.hid (belowK_b (w := w4) (Nat.le_refl _) W D _ (.deferred none) hD hKD rfl rfl)
    clear hX hN
    go_wp2
    refine ⟨by simp, .inl ⟨_, _, rfl, run_takeDeferred hKD, ?_⟩⟩
    have hgl4 : gb < w4.heap.size := by omega
    have hN7 : NumsAt gb ms.length xs (W.putObj D (.deferred none)) := ⟨HN.out.1, fun j hj => ⟨(hB7.out.cell (p := ⟨gb, j, none⟩) hgl4).trans (HN.out.2 j hj).1, (hB7.out.frozen (p := ⟨gb, j, none⟩) hgl4).trans (HN.out.2 j hj).2⟩⟩
    refine ⟨.slice (some ⟨gb, 0, none⟩) ms.length ms.length, (by simp [results, Try.f101, go_sem]), some ⟨gb, 0, none⟩, ms.length, xs, by rw [HN.out.1], ⟨ints_of_nums hN7 (Nat.lt_of_lt_of_le hgl4 (Nat.le_trans hK.1 hB7.out.size)), by rw [HN.out.1]; exact Nat.le_refl _, by unfold maxLen; omega⟩, hBw.trans (hB7.out.mono hW4.size), HX.out⟩
  case stop =>
    rintro D c pre W _ _ h _
    exact h.elim
end Go.Proofs.Ytmlkdjcjfkfdiaa
