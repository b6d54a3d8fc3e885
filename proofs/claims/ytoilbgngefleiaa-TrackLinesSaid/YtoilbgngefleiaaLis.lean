/-
  A table of lists of ints, each in an array of its own, that grows by whole lists; the witnesses in their order (plain).
-/
import Derived.Test.YtoilbgngefleiaaRefTells
import Derived.Test.YtoilbgngefleiaaStripW
import Derived.Test.YtoilbgngefleiaaWei1
import Derived.Deep.CutRange
namespace Go.Proofs.Ytoilbgngefleiaa
open Go.RowKit Go.Shelf
set_option linter.unusedVariables false
set_option linter.unusedSimpArgs false

theorem slice_info : (Try.prog.info? 37).map (fun i => (i.zero, i.size, i.bytes)) = some (some (.slice none 0 0), 1, 24) := by kernel_rfl
def LisR (w : World) (base : Nat) (v : Value) (T : List (List Int)) : Prop :=
  ∃ svs : List Value, w.ownsRow base 37 1 v T.length svs ∧ ∀ (k : Nat) (zs : List Int), T[k]? = some zs → ∃ g : Nat, base ≤ g ∧ svs[k]? = some (.slice (some ⟨g, 0, none⟩) zs.length zs.length) ∧ w.heap[g]? = some (.cells (zs.map (Value.int .i64)).toArray 3 (0, 0))
theorem LisR.nil_ (w : World) (base : Nat) : LisR w base (.slice none 0 0) [] := ⟨[], World.ownsRow_nil _ _ _ _, fun k zs h => by simp at h⟩
theorem LisR.below {w w' : World} {base : Nat} {v : Value} {T : List (List Int)} (h : LisR w base v T) (hb : Below w.heap.size w w') : LisR w' base v T := by
  obtain ⟨svs, h1, h2⟩ := h
  refine ⟨svs, own_below h1 hb, fun k zs hz => ?_⟩
  obtain ⟨g, hge, h3, h4⟩ := h2 k zs hz
  exact ⟨g, hge, h3, (hb.block g (Array.getElem?_eq_some_iff.1 h4).1).trans h4⟩
theorem LisR.alloc {w : World} {base : Nat} {v : Value} {T : List (List Int)} (h : LisR w base v T) (o : Obj) : LisR (w.alloc o) base v T := h.below ((Below.refl _ _).alloc (Nat.le_refl _) _)
theorem blk_ints {w : World} {g : Nat} {zs : List Int} (h : w.heap[g]? = some (.cells (zs.map (Value.int .i64)).toArray 3 (0, 0))) : Ints w (some ⟨g, 0, none⟩) zs := by
  refine ⟨by simp, fun _ => ⟨_, rfl, (Array.getElem?_eq_some_iff.1 h).1, fun j u hj => ?_⟩⟩
  rw [add_mk, cell_of_row w g (0 + j) _ _ (0, 0) h]
  simpa using hj
section
variable {ops : Array Oper} {rest : List Oper} {o : Oper} {a : Act} {Q : Exit → Act → World → Prop}
theorem wp_app_lis (w : World) (hgd : o.guard = none) (s x : Operand)
    (ho : o.op = .call { callee := .builtin .append, args := #[s, x], argTypes := #[110, 110] })
    (base : Nat) (v : Value) (T : List (List Int)) (zs : List Int) (cs : Array Value) (hcs : cs = (zs.map (Value.int .i64)).toArray) (hs : a.eval s = v) (hown : LisR w base v T)
    (hx : a.eval x = .slice (some ⟨w.heap.size + 1, 0, none⟩) 1 1) (hn : T.length ≤ 1000000) (hbase : base ≤ w.heap.size)
    (h : ∀ v' w', LisR w' base v' (T ++ [zs]) → Below base w w' → (∀ (g : Nat) (b : Array Value), w.heap[g]? = some (.cells b 34 (0, 0)) → w'.heap[g]? = some (.cells b 34 (0, 0))) → wpList Try.prog ops Q rest (a.put o.dst v') w') :
    wpList Try.prog ops Q (o :: rest) a ((w.alloc (.cells cs 3)).alloc (.cells #[.slice (some ⟨w.heap.size, 0, none⟩) zs.length zs.length] 37)) := by
  subst hcs
  obtain ⟨i0, hi0, hz0, hz1, hz2⟩ := info_parts slice_info
  obtain ⟨svs, h1, h2⟩ := hown
  have hsl : svs.length = T.length := by have := h1.1; simpa using this
  obtain ⟨w1, hw1⟩ : ∃ w1, w.alloc (.cells (zs.map (Value.int .i64)).toArray 3) = w1 := ⟨_, rfl⟩
  have hB1 : Below w.heap.size w w1 := by rw [← hw1]; exact (Below.refl _ _).alloc (Nat.le_refl _) _
  have hz : w1.heap.size = w.heap.size + 1 := by rw [← hw1]; simp
  have hnew : w1.heap[w.heap.size]? = some (.cells (zs.map (Value.int .i64)).toArray 3 (0, 0)) := by rw [← hw1]; exact heap_alloc_new w _
  have h1' := own_below h1 hB1
  rw [hw1]
  refine wpList_append_own _ hgd s x 110 ho base 37 i0 (.slice none 0 0) 1 24 Try.underlying110 hi0 hz0 hz1 hz2 rfl (by decide) v T.length svs hs (h1'.alloc _) ⟨w1.heap.size, 0, none⟩ 1 1 [.slice (some ⟨w.heap.size, 0, none⟩) zs.length zs.length] (by rw [hz]; exact hx) rfl
    (cells_new w1 [.slice (some ⟨w.heap.size, 0, none⟩) zs.length zs.length] 37) ?_ (by unfold maxLen; omega) (by omega) (by simp; omega) ?_
  · intro u hu; simp at hu; subst hu; rfl
  · intro v' w' ho' hg _
    have hfar : ∀ g, g < w1.heap.size → v.ownBlock ≠ some g → w'.heap[g]? = w1.heap[g]? := fun g hg1 hg2 => (hg.block g (by simp; omega) (fun e => hg2 e.symm)).trans (Below.heap_alloc w1 _ g hg1)
    have hkeep : ∀ (g : Nat) (b : Array Value), w1.heap[g]? = some (.cells b 3 (0, 0)) → w'.heap[g]? = some (.cells b 3 (0, 0)) := fun g b hgb => (hfar g (Array.getElem?_eq_some_iff.1 hgb).1 (own_ne h1' hgb (by decide))).trans hgb
    refine h v' w' ⟨svs ++ [.slice (some ⟨w.heap.size, 0, none⟩) zs.length zs.length], by simpa using ho', fun k ys hy => ?_⟩ ((hB1.mono hbase).trans (((Below.refl base w1).alloc (by omega) _).grown hg (by simp; omega) ?_)) (fun g b hgb => ?_)
    · rcases Nat.lt_or_ge k T.length with hk | hk
      · rw [List.getElem?_append_left hk] at hy
        obtain ⟨g, hge, g3, g4⟩ := h2 k ys hy
        exact ⟨g, hge, by rw [List.getElem?_append_left (by omega)]; exact g3, hkeep g _ ((hB1.block g (Array.getElem?_eq_some_iff.1 g4).1).trans g4)⟩
      · rw [List.getElem?_append_right hk] at hy
        have hk0 : k - T.length = 0 := by have := (List.getElem?_eq_some_iff.1 hy).1; simp at this; omega
        rw [hk0] at hy
        simp at hy
        subst hy
        refine ⟨w.heap.size, hbase, ?_, hkeep _ _ hnew⟩
        rw [List.getElem?_append_right (by omega), hsl, hk0]; rfl
    · intro k hk
      exact (h1'.lt k hk).1
    · have h0 := (hB1.block g (Array.getElem?_eq_some_iff.1 hgb).1).trans hgb
      exact (hfar g (Array.getElem?_eq_some_iff.1 h0).1 (own_ne h1' h0 (by decide))).trans h0
end
/-- The witnesses in their order. -/
def in2 (ms : List (Int × Int)) (a b : Nat) : List (List Int) := if wiB ms [(a : Int), (b : Int)] then [[(a : Int), (b : Int)]] else []
def part2 (ms : List (Int × Int)) (a m : Nat) : List (List Int) := (List.range m).flatMap fun b => if a < b then in2 ms a b else []
def all2 (ms : List (Int × Int)) (k : Nat) : List (List Int) := (List.range k).flatMap fun a => part2 ms a ms.length
def in3 (ms : List (Int × Int)) (a b c : Nat) : List (List Int) := if wiB ms [(a : Int), (b : Int), (c : Int)] then [[(a : Int), (b : Int), (c : Int)]] else []
def part3c (ms : List (Int × Int)) (a b m : Nat) : List (List Int) := (List.range m).flatMap fun c => in3 ms a b c
def part3b (ms : List (Int × Int)) (a m : Nat) : List (List Int) := (List.range m).flatMap fun b => part3c ms a b ms.length
def all3 (ms : List (Int × Int)) (k : Nat) : List (List Int) := (List.range k).flatMap fun a => part3b ms a ms.length
def witL (ms : List (Int × Int)) : List (List Int) := all2 ms ms.length ++ all3 ms ms.length
theorem range_flat {α : Type} (f : Nat → List α) (k : Nat) : (List.range (k + 1)).flatMap f = (List.range k).flatMap f ++ f k := by rw [List.range_succ, List.flatMap_append]; simp
theorem part2_start (ms : List (Int × Int)) (a : Nat) : part2 ms a (a + 1) = [] := by
  unfold part2
  rw [List.flatMap_eq_nil_iff]
  intro b hb
  rw [if_neg (by have := List.mem_range.1 hb; omega)]
theorem part2_next (ms : List (Int × Int)) {a b : Nat} (h : a < b) : part2 ms a (b + 1) = part2 ms a b ++ in2 ms a b := by rw [part2, range_flat, if_pos h]; rfl
theorem flat_len_le {α β : Type} (f : α → List β) (K : Nat) : ∀ (l : List α), (∀ x ∈ l, (f x).length ≤ K) → (l.flatMap f).length ≤ K * l.length
  | [], _ => by simp
  | x :: t, h => by
    rw [List.flatMap_cons, List.length_append, List.length_cons, Nat.mul_succ]
    have := h x (by simp)
    have := flat_len_le f K t fun y hy => h y (by simp [hy])
    omega
theorem part2_len (ms : List (Int × Int)) (a m : Nat) : (part2 ms a m).length ≤ m := by
  have := flat_len_le (fun b => if a < b then in2 ms a b else []) 1 (List.range m) (fun b _ => by
    split
    · unfold in2; split <;> simp
    · simp)
  rw [List.length_range] at this
  unfold part2; omega
theorem part3c_len (ms : List (Int × Int)) (a b m : Nat) : (part3c ms a b m).length ≤ m := by
  have := flat_len_le (fun c => in3 ms a b c) 1 (List.range m) (fun c _ => by unfold in3; split <;> simp)
  rw [List.length_range] at this
  unfold part3c; omega
theorem all2_len (ms : List (Int × Int)) (k : Nat) : (all2 ms k).length ≤ ms.length * k := by
  have := flat_len_le (fun a => part2 ms a ms.length) ms.length (List.range k) (fun a _ => part2_len ms a _)
  rwa [List.length_range] at this
theorem part3b_len (ms : List (Int × Int)) (a m : Nat) : (part3b ms a m).length ≤ ms.length * m := by
  have := flat_len_le (fun b => part3c ms a b ms.length) ms.length (List.range m) (fun b _ => part3c_len ms a b _)
  rwa [List.length_range] at this
theorem all3_len (ms : List (Int × Int)) (k : Nat) : (all3 ms k).length ≤ ms.length * ms.length * k := by
  have := flat_len_le (fun a => part3b ms a ms.length) (ms.length * ms.length) (List.range k) (fun a _ => part3b_len ms a _)
  rwa [List.length_range] at this
theorem witL_wi {ms : List (Int × Int)} {l : List Int} (h : l ∈ witL ms) : wiB ms l = true := by
  rcases List.mem_append.1 h with h | h
  · obtain ⟨a, _, h⟩ := List.mem_flatMap.1 h
    obtain ⟨b, _, h⟩ := List.mem_flatMap.1 h
    split at h
    · unfold in2 at h
      split at h
      · rename_i hw
        simp at h; subst h; exact hw
      · cases h
    · cases h
  · obtain ⟨a, _, h⟩ := List.mem_flatMap.1 h
    obtain ⟨b, _, h⟩ := List.mem_flatMap.1 h
    obtain ⟨c, _, h⟩ := List.mem_flatMap.1 h
    unfold in3 at h
    split at h
    · rename_i hw
      simp at h; subst h; exact hw
    · cases h
theorem abs_sub (x y : Int) : absI (x - y) = absI (y - x) := by unfold absI; omega
/-- For each witness one of the list tells the same. -/
theorem wi_witL {ms : List (Int × Int)} {l : List Int} (hw : wiB ms l = true) : ∃ l' ∈ witL ms, tlV ms l' = tlV ms l := by
  have hw0 := hw
  rw [wiB, Bool.and_eq_true] at hw
  obtain ⟨h1, h2⟩ := hw
  by_cases l2 : l.length = 2
  · obtain ⟨x, y, rfl⟩ := len_two l2
    obtain ⟨i, rfl, hi⟩ := inL_mem h1 (show x ∈ [x, y] by simp)
    obtain ⟨j, rfl, hj⟩ := inL_mem h1 (show y ∈ [(i : Int), y] by simp)
    simp only [wiS, Bool.and_eq_true, decide_eq_true_eq, ptK_N] at h2
    rcases Nat.lt_trichotomy i j with c | c | c
    · refine ⟨[(i : Int), (j : Int)], List.mem_append_left _ (List.mem_flatMap.2 ⟨i, List.mem_range.2 hi, List.mem_flatMap.2 ⟨j, List.mem_range.2 hj, ?_⟩⟩), rfl⟩
      rw [if_pos c, in2, if_pos hw0]; simp
    · omega
    · have hw1 : wiB ms [(j : Int), (i : Int)] = true := by
        rw [wiB, inL_two hj hi, wiS, ptK_N, ptK_N, decide_eq_true h2.2.symm, decide_eq_true (by omega)]; rfl
      refine ⟨[(j : Int), (i : Int)], List.mem_append_left _ (List.mem_flatMap.2 ⟨j, List.mem_range.2 hj, List.mem_flatMap.2 ⟨i, List.mem_range.2 hi, ?_⟩⟩), ?_⟩
      · rw [if_pos c, in2, if_pos hw1]; simp
      · show tl2 ms (j : Int).toNat (i : Int).toNat = tl2 ms (i : Int).toNat (j : Int).toNat
        rw [Int.toNat_natCast, Int.toNat_natCast, tl2, tl2, abs_sub]
  · by_cases l3 : l.length = 3
    · obtain ⟨x, y, z, rfl⟩ := len_three l3
      obtain ⟨i, rfl, hi⟩ := inL_mem h1 (show x ∈ [x, y, z] by simp)
      obtain ⟨j, rfl, hj⟩ := inL_mem h1 (show y ∈ [(i : Int), y, z] by simp)
      obtain ⟨k, rfl, hk⟩ := inL_mem h1 (show z ∈ [(i : Int), (j : Int), z] by simp)
      refine ⟨[(i : Int), (j : Int), (k : Int)], List.mem_append_right _ (List.mem_flatMap.2 ⟨i, List.mem_range.2 hi, List.mem_flatMap.2 ⟨j, List.mem_range.2 hj, List.mem_flatMap.2 ⟨k, List.mem_range.2 hk, ?_⟩⟩⟩), rfl⟩
      rw [in3, if_pos hw0]; simp
    · rw [wiS_other l2 l3] at h2; cases h2
end Go.Proofs.Ytoilbgngefleiaa
