/-
  Plain words for hits: valid ones, what is before what, the past, the first, the longest layer; nothing of the program.
-/
import Derived.Test.YtmlkdjcjfkfdiaaPlain
namespace Go.Proofs.Ytmlkdjcjfkfdiaa
open Go Go.RowKit

def plB (x : Int) : Bool := decide (-1000 ≤ x ∧ x ≤ 1000)
def hitB (m : Int × Int) : Bool := plB m.1 && plB m.2
/-- Whether hits are valid. -/
def vhB (ms : List (Int × Int)) : Bool := decide (1 ≤ ms.length ∧ ms.length ≤ 14) && ms.all hitB && decide ms.Nodup
theorem vh_parts {ms : List (Int × Int)} (h : vhB ms = true) : 1 ≤ ms.length ∧ ms.length ≤ 14 := by
  simp [vhB] at h; exact h.1.1
theorem vh_at {ms : List (Int × Int)} (h : vhB ms = true) {k : Nat} {m : Int × Int} (hm : ms[k]? = some m) : (-1000 ≤ m.1 ∧ m.1 ≤ 1000) ∧ (-1000 ≤ m.2 ∧ m.2 ≤ 1000) := by
  have h2 : ms.all hitB = true := by simp [vhB] at h ⊢; exact h.1.2
  have := List.all_eq_true.1 h2 m (List.mem_of_getElem? hm)
  simpa [hitB, plB] using this
theorem vh_nodup {ms : List (Int × Int)} (h : vhB ms = true) : ms.Nodup := by
  simp [vhB] at h; exact h.2
theorem vh_len {ms : List (Int × Int)} (h : ¬ (1 ≤ ms.length ∧ ms.length ≤ 14)) : false = vhB ms := by
  unfold vhB; rw [decide_eq_false h]; simp
theorem vh_bad {ms : List (Int × Int)} {k : Nat} {m : Int × Int} (hm : ms[k]? = some m) (h : hitB m = false) : false = vhB ms := by
  unfold vhB; rw [all_not hm h]; simp
theorem vh_twice {ms : List (Int × Int)} {k : Nat} {m : Int × Int} (hm : ms[k]? = some m) (h : m ∈ ms.take k) : false = vhB ms := by
  unfold vhB
  have : ¬ ms.Nodup := by
    intro hn
    obtain ⟨j, hj, e⟩ := List.mem_iff_getElem.1 h
    rw [List.getElem_take] at e
    obtain ⟨hk, e2⟩ := List.getElem?_eq_some_iff.1 hm
    simp at hj
    exact (List.pairwise_iff_getElem.1 hn) j k (by omega) hk (by omega) (e.trans e2.symm)
  rw [decide_eq_false this]; simp
theorem nodup_snoc {α : Type} {zs : List α} {k : Nat} {z : α} (h : zs[k]? = some z) (hn : (zs.take k).Nodup) (hz : z ∉ zs.take k) : (zs.take (k + 1)).Nodup := by
  rw [take_snoc h, List.nodup_append]
  exact ⟨hn, by simp, fun a ha b hb => by simp at hb; subst hb; rintro rfl; exact hz ha⟩
theorem vh_all {ms : List (Int × Int)} {k : Nat} (hn : 1 ≤ ms.length ∧ ms.length ≤ 14) (hk : ms.length ≤ k) (h : (ms.take k).all hitB = true) (hd : (ms.take k).Nodup) : true = vhB ms := by
  rw [all_full hk] at h
  rw [List.take_of_length_le hk] at hd
  unfold vhB; rw [decide_eq_true hn, h, decide_eq_true hd]; rfl

/-- Whether a hit is before another one. -/
def bef (x y : Int × Int) : Bool := decide (0 < y.2 - x.2 ∧ y.1 - x.1 ≤ y.2 - x.2 ∧ -(y.1 - x.1) ≤ y.2 - x.2)
def hAt (ms : List (Int × Int)) (a : Int) : Int × Int := ms.getD a.toNat (0, 0)
def befI (ms : List (Int × Int)) (a b : Int) : Bool := bef (hAt ms a) (hAt ms b)
def knowI (ms : List (Int × Int)) (a b : Int) : Bool := befI ms a b || befI ms b a
theorem hAt_of {ms : List (Int × Int)} {k : Nat} {m : Int × Int} (h : ms[k]? = some m) : hAt ms (k : Int) = m := by
  rw [hAt, Int.toNat_natCast, List.getD_eq_getElem?_getD, h]; rfl
theorem bef_irr (x : Int × Int) : bef x x = false := by simp [bef]
theorem bef_asym {x y : Int × Int} (h : bef x y = true) : bef y x = false := by
  simp [bef] at h ⊢; omega
theorem bef_trans {x y z : Int × Int} (h : bef x y = true) (k : bef y z = true) : bef x z = true := by
  simp [bef] at h k ⊢; omega
/-- All hits, by index. -/
def allL (n : Nat) : List Int := (List.range n).map Int.ofNat
theorem allL_len (n : Nat) : (allL n).length = n := by simp [allL]
theorem allL_succ (n : Nat) : allL (n + 1) = allL n ++ [(n : Int)] := by simp [allL, List.range_succ]
theorem allL_get {n k : Nat} (h : k < n) : (allL n)[k]? = some (k : Int) := by simp [allL, List.getElem?_map, List.getElem?_range h]
theorem allL_mem {n : Nat} {a : Int} (h : a ∈ allL n) : 0 ≤ a ∧ a < n := by
  simp [allL] at h; obtain ⟨k, hk, rfl⟩ := h; omega
def pastL (ms : List (Int × Int)) (a : Int) : List Int := (allL ms.length).filter fun b => befI ms b a
def afterL (ms : List (Int × Int)) (a : Int) : List Int := (allL ms.length).filter fun b => befI ms a b
def firstOfL (ms : List (Int × Int)) (some : List Int) : List Int := some.filter fun a => !(some.any fun b => befI ms b a)
def firstL (ms : List (Int × Int)) : List Int := firstOfL ms (allL ms.length)

def strangersL (ms : List (Int × Int)) (f : Int) (others : List Int) : List Int := others.filter fun a => !knowI ms f a
/-- The longest layer of some hits, with no more than m calls one in the other. -/
def longL (ms : List (Int × Int)) : Nat → List Int → List Int
  | 0, _ => []
  | _ + 1, [] => []
  | m + 1, f :: others =>
    if (strangersL ms f others).length = others.length then f :: longL ms m (strangersL ms f others)
    else if (f :: longL ms m (strangersL ms f others)).length < (longL ms m others).length then longL ms m others else f :: longL ms m (strangersL ms f others)
theorem longL_enough (ms : List (Int × Int)) : ∀ (m n : Nat) (l : List Int), l.length ≤ m → l.length ≤ n → longL ms m l = longL ms n l
  | 0, n, l, h, _ => by
    have : l = [] := List.eq_nil_of_length_eq_zero (by omega)
    subst this; cases n <;> rfl
  | m + 1, 0, l, _, h => by
    have : l = [] := List.eq_nil_of_length_eq_zero (by omega)
    subst this; rfl
  | m + 1, n + 1, [], _, _ => rfl
  | m + 1, n + 1, f :: others, h1, h2 => by
    simp only [List.length_cons] at h1 h2
    have hs : (strangersL ms f others).length ≤ others.length := List.length_filter_le _ _
    have e1 := longL_enough ms m n others (by omega) (by omega)
    have e2 := longL_enough ms m n (strangersL ms f others) (by omega) (by omega)
    rw [longL, longL, e1, e2]
def layerL (ms : List (Int × Int)) : List Int := longL ms ms.length (allL ms.length)
theorem longL_len (ms : List (Int × Int)) : ∀ (m : Nat) (l : List Int), (longL ms m l).length ≤ l.length
  | 0, l => by simp [longL]
  | m + 1, [] => by simp [longL]
  | m + 1, f :: others => by
    have hs : (strangersL ms f others).length ≤ others.length := List.length_filter_le _ _
    have e1 := longL_len ms m others
    have e2 := longL_len ms m (strangersL ms f others)
    rw [longL]; split
    · simp; omega
    · split
      · simp; omega
      · simp; omega
end Go.Proofs.Ytmlkdjcjfkfdiaa
