/-
  A slice of tasks that reads as a list of triples; appends to one; arrays of ints in memory, as functions.
-/
import Derived.Test.YthanmiifcpajhaaOwn
import Derived.Test.YthanmiifcpajhaaEdfM
import Derived.StillTailTactics
import Derived.Deep.RegionHeld3
import Derived.Deep.WholeRow
import Derived.Deep.Heap
set_option linter.unusedVariables false
set_option linter.unusedSimpArgs false
namespace Go.Proofs.Ythanmiifcpajhaa
open Go Go.RowKit

def mk3 (m : Int × Int × Int) : List Value := [.int .i64 m.1, .int .i64 m.2.1, .int .i64 m.2.2]
/-- A slice of tasks that reads as the list ms. -/
def Marks (w : World) (A : Option Addr) (ms : List (Int × Int × Int)) : Prop := Reads w w.heap.size 3 A ms.length (ms.flatMap mk3)

theorem flat_get : ∀ (ms : List (Int × Int × Int)) (k : Nat) (m : Int × Int × Int), ms[k]? = some m → (ms.flatMap mk3)[3 * k]? = some (.int .i64 m.1) ∧ (ms.flatMap mk3)[3 * k + 1]? = some (.int .i64 m.2.1) ∧ (ms.flatMap mk3)[3 * k + 2]? = some (.int .i64 m.2.2)
  | [], k, m, h => by simp at h
  | a :: t, 0, m, h => by simp at h; subst h; simp [mk3]
  | a :: t, k + 1, m, h => by
    have := flat_get t k m (by simpa using h)
    rw [show 3 * (k + 1) = 3 * k + 3 by omega]
    simpa [mk3] using this
theorem flat_len (ms : List (Int × Int × Int)) : (ms.flatMap mk3).length = ms.length * 3 := by
  induction ms with
  | nil => rfl
  | cons a t ih => rw [List.flatMap_cons, List.length_append, ih]; simp [mk3]; omega
theorem Marks.below {w w' : World} {A : Option Addr} {ms : List (Int × Int × Int)} (h : Marks w A ms) (hb : Below w.heap.size w w') : Marks w' A ms :=
  (Reads.below h hb).more hb.size
theorem Marks.drewN {w : World} {A : Option Addr} {ms : List (Int × Int × Int)} (h : Marks w A ms) (n : Nat) : Marks (w.drewN n) A ms := h
theorem Marks.nil_ {w : World} {A : Option Addr} : Marks w A [] := Reads.none_
theorem Marks.open_ {w : World} {A : Option Addr} {ms : List (Int × Int × Int)} (h : Marks w A ms) (hn : 0 < ms.length) :
    ∃ b o, A = some ⟨b, o, none⟩ ∧ b < w.heap.size ∧ ∀ (k : Nat) (m : Int × Int × Int), ms[k]? = some m → w.cell? ⟨b, o + k * 3, none⟩ = some (.int .i64 m.1) ∧ w.cell? ⟨b, o + k * 3 + 1, none⟩ = some (.int .i64 m.2.1) ∧ w.cell? ⟨b, o + k * 3 + 2, none⟩ = some (.int .i64 m.2.2) := by
  obtain ⟨ad, e, hb, hall⟩ := h.2 hn
  obtain ⟨m0, hm0⟩ : ∃ m, ms[0]? = some m := ⟨_, List.getElem?_eq_getElem hn⟩
  have hc := hall 0 _ (flat_get ms 0 m0 hm0).1
  obtain ⟨b, o, s⟩ := ad
  have hs : s = none := by simpa [Addr.add] using World.cell?_spot hc
  subst hs
  refine ⟨b, o, e, hb, fun k m hm => ?_⟩
  have h2 := flat_get ms k m hm
  rw [Nat.mul_comm k 3, Nat.add_assoc, Nat.add_assoc, ← add_mk, ← add_mk, ← add_mk]
  exact ⟨hall _ _ h2.1, hall _ _ h2.2.1, hall _ _ h2.2.2⟩
theorem getT_of_lt {ms : List (Int × Int × Int)} {k : Nat} (h : k < ms.length) : ∃ a b c, ms[k]? = some (a, b, c) := ⟨_, _, _, List.getElem?_eq_getElem h⟩
theorem getT_parts {ms : List (Int × Int × Int)} {k : Nat} {a b c : Int} (h : ms[k]? = some (a, b, c)) : cmI ms k = a ∧ ltI ms k = b ∧ wkI ms k = c := by
  unfold cmI ltI wkI; rw [List.getD_eq_getElem?_getD, h]; exact ⟨rfl, rfl, rfl⟩

/-- Tasks as they are handed from call to call. -/
structure Clk (w : World) (A : Option Addr) (c : Nat) (ms : List (Int × Int × Int)) : Prop where
  marks : Marks w A ms
  le : ms.length ≤ c
  cap : c ≤ maxLen
theorem Clk.nil_ {w : World} {A : Option Addr} : Clk w A 0 [] := ⟨Marks.nil_, Nat.le_refl _, Nat.zero_le _⟩
theorem Clk.below {w w' : World} {A : Option Addr} {c : Nat} {ms : List (Int × Int × Int)} (h : Clk w A c ms) (hb : Below w.heap.size w w') : Clk w' A c ms := ⟨h.marks.below hb, h.le, h.cap⟩
theorem Clk.len {w : World} {A : Option Addr} {c : Nat} {ms : List (Int × Int × Int)} (h : Clk w A c ms) : ms.length ≤ maxLen := Nat.le_trans h.le h.cap

theorem lay_info : (Try.prog.info? 53).map (fun i => (i.zero, i.size, i.bytes)) = some (some (.agg #[.int .i64 0, .int .i64 0, .int .i64 0]), 3, 24) := by kernel_rfl
section
variable {ops : Array Oper} {rest : List Oper} {o : Oper} {a : Act} {Q : Exit → Act → World → Prop}
theorem wp_app_task (w : World) (hgd : o.guard = none) (s x : Operand)
    (ho : o.op = .call { callee := .builtin .append, args := #[s, x], argTypes := #[22, 22] })
    (base : Nat) (v : Value) (n : Nat) (xs : List (Int × Int × Int)) (y z u : Int) (hs : a.eval s = v) (hown : w.ownsRow base 53 3 v n (xs.flatMap mk3))
    (hx : a.eval x = .slice (some ⟨w.heap.size, 0, none⟩) 1 1) (hn : n ≤ 1000000) (hbase : base ≤ w.heap.size)
    (h : ∀ v' w', w'.ownsRow base 53 3 v' (n + 1) ((xs ++ [(y, z, u)]).flatMap mk3) → Below base w w' → wpList Try.prog ops Q rest (a.put o.dst v') w') :
    wpList Try.prog ops Q (o :: rest) a (w.alloc (.cells #[.int .i64 y, .int .i64 z, .int .i64 u] 53)) := by
  obtain ⟨i0, hi0, hz0, hz1, hz2⟩ := info_parts lay_info
  refine wp_app w hgd s x 22 ho base 53 i0 (.agg #[.int .i64 0, .int .i64 0, .int .i64 0]) 3 24 Try.underlying22 hi0 hz0 hz1 hz2 rfl (by decide) (by decide) v n _ [.int .i64 y, .int .i64 z, .int .i64 u] hs hown hx rfl ?_ hn hbase ?_
  · intro u hu; simp at hu; rcases hu with rfl | rfl | rfl <;> rfl
  · intro v' w' h1 h2
    exact h v' w' (by rw [List.flatMap_append]; exact h1) h2
end
theorem own_tasks {w : World} {base n : Nat} {v : Value} {xs : List (Int × Int × Int)} (h : w.ownsRow base 53 3 v n (xs.flatMap mk3)) :
    ∃ A c, v = .slice A xs.length c ∧ Clk w A c xs := by
  have hl : xs.length = n := by have := h.1; rw [flat_len] at this; omega
  subst hl
  rcases h.2 with ⟨rfl, h0⟩ | ⟨g, cap, cur, rfl, _, _, h1, h2, _⟩
  · have : xs = [] := List.eq_nil_of_length_eq_zero h0
    subst this
    exact ⟨none, 0, rfl, Clk.nil_⟩
  · exact ⟨_, cap, rfl, Reads.of_own h, h1, h2⟩

theorem blk_cell {w : World} {g : Nat} {cs : Array Value} {t : TypeId} (h : w.heap[g]? = some (.cells cs t (0, 0))) (i : Nat) {u : Value} (hu : cs[i]? = some u) : w.cell? ⟨g, i, none⟩ = some u := (cell_of_row w g i cs t (0, 0) h).trans hu
theorem blk_frozen {w : World} {g : Nat} {cs : Array Value} {t : TypeId} (h : w.heap[g]? = some (.cells cs t (0, 0))) (i : Nat) : w.frozen? ⟨g, i, none⟩ = false := by simp [World.frozen?, h]
/-- An array of n ints, as a function. -/
def vC (p : Nat → Int) (n : Nat) : Array Value := ((List.range n).map fun i => Value.int .i64 (p i)).toArray
theorem vC_size (p : Nat → Int) (n : Nat) : (vC p n).size = n := by simp [vC]
theorem vC_get {p : Nat → Int} {n i : Nat} (h : i < n) : (vC p n)[i]? = some (.int .i64 (p i)) := by
  rw [vC, List.getElem?_toArray, List.getElem?_map, List.getElem?_range h]; rfl
theorem vC_one (p : Nat → Int) (n : Nat) : (vC p n).all (·.oneCell') = true := by
  rw [vC, List.all_toArray, List.all_map, List.all_eq_true]; intro i _; rfl
theorem vC_ext {p : Nat → Int} {n : Nat} {cs : Array Value} (hs : cs.size = n) (h : ∀ i, i < n → cs[i]? = some (.int .i64 (p i))) : cs = vC p n := by
  refine Array.ext_getElem? fun i => ?_
  by_cases hn : i < n
  · rw [h i hn, vC_get hn]
  · rw [Array.getElem?_eq_none (by omega), Array.getElem?_eq_none (by rw [vC_size]; omega)]
theorem vC_congr {p q : Nat → Int} {n : Nat} (h : ∀ i, i < n → p i = q i) : vC p n = vC q n :=
  vC_ext (vC_size p n) fun i hi => by rw [vC_get hi, h i hi]
def Arr (w : World) (g : Nat) (t : TypeId) (p : Nat → Int) (n : Nat) : Prop := w.heap[g]? = some (.cells (vC p n) t (0, 0))
section
variable {w w' : World} {g n : Nat} {t : TypeId} {p q : Nat → Int}
theorem Arr.lt (h : Arr w g t p n) : g < w.heap.size := (Array.getElem?_eq_some_iff.1 h).1
theorem Arr.below (h : Arr w g t p n) (hb : Below w.heap.size w w') : Arr w' g t p n := (hb.block g h.lt).trans h
theorem Arr.cell {i : Nat} (h : Arr w g t p n) (hi : i < n) : w.cell? ⟨g, i, none⟩ = some (.int .i64 (p i)) := blk_cell h i (vC_get hi)
theorem Arr.congr (h : Arr w g t p n) (e : ∀ i, i < n → p i = q i) : Arr w g t q n := by unfold Arr at *; rwa [← vC_congr e]
theorem Arr.put {i : Nat} {v : Int} (h : Arr w g t p n) (hi : i < n) (e : ∀ j, q j = if j = i then v else p j) : Arr (w.setCell ⟨g, i, none⟩ (.int .i64 v)) g t q n := by
  unfold Arr at *
  rw [heap_setCell_same w g i _ _ _ h]
  congr 2
  refine vC_ext (by simp [vC_size]) fun m hm => ?_
  rw [Array.getElem?_setIfInBounds, e]
  by_cases hmn : i = m
  · subst hmn; rw [if_pos rfl, if_pos (by rw [vC_size]; exact hm), if_pos rfl]
  · rw [if_neg hmn, vC_get hm, if_neg (fun h => hmn h.symm)]
theorem Arr.other {a : Addr} {v : Value} (h : Arr w g t p n) (hg : g ≠ a.block) : Arr (w.setCell a v) g t p n := (Go.Deep.blk_setCell_other w a v g hg).trans h
theorem Arr.drewN (h : Arr w g t p n) (k : Nat) : Arr (w.drewN k) g t p n := h
theorem Arr.alloc (h : Arr w g t p n) (o : Obj) : Arr (w.alloc o) g t p n := ((Below.heap_alloc w o g h.lt)).trans h
theorem Arr.new (w : World) (t : TypeId) (p : Nat → Int) (n : Nat) : Arr (w.alloc (.cells (vC p n) t)) w.heap.size t p n := heap_alloc_new w _
end
theorem zero12 : (#[.int .i64 0, .int .i64 0, .int .i64 0, .int .i64 0, .int .i64 0, .int .i64 0, .int .i64 0, .int .i64 0, .int .i64 0, .int .i64 0, .int .i64 0, .int .i64 0] : Array Value) = vC (fun _ => 0) 12 := by kernel_rfl
end Go.Proofs.Ythanmiifcpajhaa
