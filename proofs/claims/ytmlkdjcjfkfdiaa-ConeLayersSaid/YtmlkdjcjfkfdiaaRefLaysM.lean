/-
  Plain facts: what is left behind some hits that are cleared, of the reference's Layers.
-/
import Derived.Test.YtmlkdjcjfkfdiaaLayers
import Derived.Test.YtmlkdjcjfkfdiaaRefFirst
namespace Go.Proofs.Ytmlkdjcjfkfdiaa
open Go.RowKit Go.Shelf

def leftL (n : Nat) (bs : List Bool) : List Int := (allL n).filter (leftB bs)
theorem firstB_left (ms : List (Int × Int)) (bs : List Bool) : firstB ms bs = firstOfL ms (leftL ms.length bs) := by
  rw [firstB, firstOfL, leftL, List.filter_filter]
  refine List.filter_congr fun a _ => ?_
  rw [List.any_filter, Bool.and_comm]
  rfl
def clrB (bs : List Bool) (l : List Int) : List Bool := l.foldl (fun bs a => bs.set a.toNat false) bs
theorem clrB_snoc (bs : List Bool) (l : List Int) (a : Int) : clrB bs (l ++ [a]) = (clrB bs l).set a.toNat false := by
  rw [clrB, List.foldl_append]; rfl
theorem clrB_len : ∀ (l : List Int) (bs : List Bool), (clrB bs l).length = bs.length
  | [], _ => rfl
  | a :: l, bs => by
    show (clrB (bs.set a.toNat false) l).length = _
    rw [clrB_len l, List.length_set]
theorem leftB_set {bs : List Bool} {a b : Int} (ha : 0 ≤ a) (hb : 0 ≤ b) : leftB (bs.set a.toNat false) b = (leftB bs b && !(a == b)) := by
  rw [leftB, leftB, List.getD_eq_getElem?_getD, List.getD_eq_getElem?_getD, List.getElem?_set]
  by_cases h : a = b
  · subst h
    simp
    split <;> rfl
  · have h1 : ¬ a.toNat = b.toNat := by omega
    have h2 : (a == b) = false := by simpa using h
    rw [if_neg h1, h2, Bool.not_false, Bool.and_true]
theorem leftB_clr : ∀ (l : List Int) (bs : List Bool) (b : Int), (∀ a ∈ l, 0 ≤ a) → 0 ≤ b → leftB (clrB bs l) b = (leftB bs b && !(l.contains b))
  | [], bs, b, _, _ => by simp [clrB]
  | a :: l, bs, b, h, hb => by
    show leftB (clrB (bs.set a.toNat false) l) b = _
    rw [leftB_clr l _ b (fun x hx => h x (List.mem_cons_of_mem _ hx)) hb, leftB_set (h a (by simp)) hb, List.contains_cons, Bool.not_or, Bool.and_assoc]
    have : (b == a) = (a == b) := BEq.comm
    rw [this]
theorem left_clr {n : Nat} {bs : List Bool} {l : List Int} (h : ∀ a ∈ l, 0 ≤ a) : leftL n (clrB bs l) = (leftL n bs).filter fun a => !l.contains a := by
  rw [leftL, leftL, List.filter_filter]
  refine List.filter_congr fun a ha => ?_
  rw [leftB_clr l bs a h (allL_mem ha).1, Bool.and_comm]
theorem len_parts (p : Int → Bool) : ∀ l : List Int, (l.filter fun a => !p a).length + (l.filter p).length = l.length
  | [] => rfl
  | a :: l => by
    have := len_parts p l
    cases h : p a <;> simp [h] <;> omega
theorem len_rest (p : Int → Bool) (l : List Int) : (l.filter fun a => !(l.filter p).contains a).length + (l.filter p).length = l.length := by
  have : (l.filter fun a => !(l.filter p).contains a) = l.filter fun a => !p a := by
    refine List.filter_congr fun a ha => ?_
    congr 1
    rw [Bool.eq_iff_iff, List.contains_iff_mem, List.mem_filter]
    exact ⟨fun h => h.2, fun h => ⟨ha, h⟩⟩
  rw [this]
  exact len_parts p l
theorem left_mem {n : Nat} {bs : List Bool} {a : Int} (h : a ∈ leftL n bs) : 0 ≤ a ∧ a < n := allL_mem (List.mem_filter.1 h).1
theorem left_all (n : Nat) : leftL n (List.replicate n true) = allL n := by
  rw [leftL, List.filter_eq_self]
  intro a ha
  obtain ⟨h0, h1⟩ := allL_mem ha
  obtain ⟨k, rfl⟩ := Int.eq_ofNat_of_zero_le h0
  exact leftB_of (by rw [List.getElem?_replicate]; simp; omega)
end Go.Proofs.Ytmlkdjcjfkfdiaa
