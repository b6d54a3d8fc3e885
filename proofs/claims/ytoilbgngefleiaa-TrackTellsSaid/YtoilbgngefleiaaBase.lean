/-
  Words for memory that the walks of this seat share: a slice that reads as a list.
-/
import Derived.Test.YtoilbgngefleiaaProg
import Derived.Test.YtoilbgngefleiaaPlain
import Derived.WalkKit
import Derived.WalkSpells
import Derived.WalkLawsBesides
import Derived.Deep.QuietTactic
import Derived.BigQuiet
import Derived.Lib.Hide
import Derived.Deep.AppendLies
import Derived.Deep.Draws
import Derived.Deep.DeepFit
import Derived.Handy
namespace Go.Proofs.Ytoilbgngefleiaa
open Go.RowKit

theorem below_drewN {B : Nat} {a w : World} (h : Below B a w) (n : Nat) : Below B a (w.drewN n) := ⟨h.os, h.tape, h.output, h.size, h.block⟩
theorem block_of_add (a : Addr) (n : Nat) : (a.add n).block = a.block := by unfold Addr.add; split <;> rfl
theorem add_of_add (a : Addr) (i j : Nat) : (a.add i).add j = a.add (i + j) := by
  unfold Addr.add
  by_cases hi : i = 0 <;> by_cases hj : j = 0 <;> simp [hi, hj, Nat.add_assoc]

def Reads (w : World) (B size : Nat) (A : Option Addr) (n : Nat) (xs : List Value) : Prop :=
  xs.length = n * size ∧ (0 < n → ∃ ad, A = some ad ∧ ad.block < B ∧ ∀ j u, xs[j]? = some u → w.cell? (ad.add j) = some u)

section
variable {w w' : World} {B B' size n : Nat} {A : Option Addr} {xs : List Value}
theorem Reads.none_ : Reads w B size A 0 [] := ⟨by simp, fun h => absurd h (by omega)⟩
theorem Reads.at_ {k : Nat} (h : Reads w B 1 A n xs) (hk : k < n) : ∃ ad u, A = some ad ∧ ad.block < B ∧ xs[k]? = some u ∧ w.cell? (ad.add k) = some u := by
  obtain ⟨ad, e, hb, hc⟩ := h.2 (by omega)
  have hl : k < xs.length := by have := h.1; omega
  exact ⟨ad, xs[k], e, hb, List.getElem?_eq_getElem hl, hc k _ (List.getElem?_eq_getElem hl)⟩
theorem Reads.keep (h : Reads w B size A n xs) (hk : ∀ p : Addr, p.block < B → w'.cell? p = w.cell? p) : Reads w' B size A n xs :=
  ⟨h.1, fun hn => by
    obtain ⟨ad, e, hb, hc⟩ := h.2 hn
    exact ⟨ad, e, hb, fun j u hu => (hk _ (by rw [block_of_add]; exact hb)).trans (hc j u hu)⟩⟩
theorem Reads.more (h : Reads w B size A n xs) (hB : B ≤ B') : Reads w B' size A n xs :=
  ⟨h.1, fun hn => by
    obtain ⟨ad, e, hb, hc⟩ := h.2 hn
    exact ⟨ad, e, by omega, hc⟩⟩
theorem Reads.below (h : Reads w B size A n xs) (hb : Below B w w') : Reads w' B size A n xs := h.keep fun _ hp => hb.cell hp
theorem Reads.drew (h : Reads w B size A n xs) : Reads w.drew B size A n xs := h
theorem Reads.drewN (h : Reads w B size A n xs) (k : Nat) : Reads (w.drewN k) B size A n xs := h
theorem Reads.of_own {base : Nat} {e : TypeId} {c : Nat} (h : w.ownsRow base e size (.slice A n c) n xs) : Reads w w.heap.size size A n xs := by
  refine ⟨h.1, fun hn => ?_⟩
  obtain ⟨g, cap, hv, _, hlt⟩ := h.form hn
  have hA : A = some ⟨g, 0, none⟩ := by injection hv
  subst hA
  exact ⟨_, rfl, hlt, h.cells (g := g) rfl⟩
end

/-- A slice of ints that reads as the list zs. -/
def Ints (w : World) (A : Option Addr) (zs : List Int) : Prop := Reads w w.heap.size 1 A zs.length (zs.map (Value.int .i64))

theorem Ints.at_ {w : World} {A : Option Addr} {zs : List Int} (h : Ints w A zs) {k : Nat} (hk : k < zs.length) :
    ∃ ad, A = some ad ∧ ad.block < w.heap.size ∧ w.cell? (ad.add k) = some (.int .i64 (zs.getD k 0)) := by
  obtain ⟨ad, u, e, hb, hx, hc⟩ := Reads.at_ h hk
  refine ⟨ad, e, hb, ?_⟩
  rw [List.getElem?_map, List.getElem?_eq_getElem hk] at hx
  simp only [Option.map_some, Option.some.injEq] at hx
  rw [hc, ← hx, List.getD_eq_getElem?_getD, List.getElem?_eq_getElem hk]; rfl
/-- The element at k, by a name of its own; what it is stays hidden from the walk. -/
theorem Ints.get {w : World} {A : Option Addr} {zs : List Int} (h : Ints w A zs) {k : Nat} (hk : k < zs.length) :
    ∃ ad z, A = some ad ∧ ad.block < w.heap.size ∧ Hid (zs[k]? = some z) ∧ w.cell? (ad.add k) = some (.int .i64 z) := by
  obtain ⟨ad, e, hb, hc⟩ := h.at_ hk
  refine ⟨ad, zs[k], e, hb, List.getElem?_eq_getElem hk, ?_⟩
  rw [hc, List.getD_eq_getElem?_getD, List.getElem?_eq_getElem hk]; rfl
theorem add_mk (b o k : Nat) : (⟨b, o, none⟩ : Addr).add k = ⟨b, o + k, none⟩ := by
  unfold Addr.add; split <;> simp_all
/-- The address of a list that is not empty, written out. -/
theorem Ints.open_ {w : World} {A : Option Addr} {zs : List Int} (h : Ints w A zs) (hn : 0 < zs.length) :
    ∃ b o, A = some ⟨b, o, none⟩ ∧ b < w.heap.size ∧ ∀ (k : Nat) (z : Int), zs[k]? = some z → w.cell? ⟨b, o + k, none⟩ = some (.int .i64 z) := by
  obtain ⟨ad, u, e, hb, _, hc⟩ := Reads.at_ h hn
  obtain ⟨b, o, s⟩ := ad
  have hs : s = none := by simpa [Addr.add] using World.cell?_spot hc
  subst hs
  refine ⟨b, o, e, hb, fun k z hz => ?_⟩
  obtain ⟨ad', e', _, hall⟩ := h.2 hn
  rw [e] at e'
  obtain rfl := Option.some.inj e'
  rw [← add_mk]
  exact hall k _ (by rw [List.getElem?_map, hz]; rfl)
theorem Ints.below {w w' : World} {A : Option Addr} {zs : List Int} (h : Ints w A zs) (hb : Below w.heap.size w w') : Ints w' A zs :=
  (Reads.below h hb).more hb.size
theorem Ints.nil_ {w : World} {A : Option Addr} : Ints w A [] := Reads.none_

/-- A slice of ints as a call hands it back: what it reads as, and that its capacity is no nonsense. -/
structure Out (w : World) (A : Option Addr) (c : Nat) (zs : List Int) : Prop where
  ints : Ints w A zs
  le : zs.length ≤ c
  cap : c ≤ maxLen
theorem Out.nil_ {w : World} {A : Option Addr} : Out w A 0 [] := ⟨Ints.nil_, Nat.le_refl _, Nat.zero_le _⟩
theorem Out.below {w w' : World} {A : Option Addr} {c : Nat} {zs : List Int} (h : Out w A c zs) (hb : Below w.heap.size w w') : Out w' A c zs := ⟨h.ints.below hb, h.le, h.cap⟩
end Go.Proofs.Ytoilbgngefleiaa
