/-
  Texts of this seat, joined: each with its own head.
-/
import Derived.IntWalk
import Derived.Below
import Derived.Test.YtoilbgngefleiaaProg
import Derived.WalkKit
import Derived.WalkSpells
import Derived.WalkLawsBesides
import Derived.Deep.QuietTactic
import Derived.BigQuiet
import Derived.Lib.Hide
import Derived.Deep.AppendLies
import Derived.Deep.Draws
import Derived.Deep.DeepFit
import Derived.Handy
import Derived.StillTailTactics
import Derived.Deep.RegionHeld3
import Derived.Shelf.Abstract
import Derived.Sort.QuietIn
import Derived.Sort.QuietThIn
import Derived.Shelf.AbstractIn
import Derived.RangeFuncNested
import Derived.RangeFuncCalls
import Derived.RangeFuncBox
import Derived.RangeFuncLeaves
import Derived.OwnWalkIn
import Derived.TacticsInMore
import Derived.LoopNIn
import Derived.LoopIn
import Derived.OrdersIn
import Derived.Maps.AppendAt
import Derived.Deep.WholeRow
import Derived.Deep.CutRange
import Derived.RangeFuncBound
import Derived.Shelf.RegionOpen
/-
  Plain lemmas on lists and numbers; nothing of the program.
-/
namespace Go.Proofs.Ytoilbgngefleiaa
open Go Go.RowKit

theorem take_snoc {α : Type} {zs : List α} {k : Nat} {z : α} (h : zs[k]? = some z) : zs.take (k + 1) = zs.take k ++ [z] := by
  rw [List.take_add_one, h]; rfl
theorem all_snoc {α : Type} {p : α → Bool} {zs : List α} {k : Nat} {z : α} (h : zs[k]? = some z) : (zs.take (k + 1)).all p = ((zs.take k).all p && p z) := by
  rw [take_snoc h]; simp
theorem all_full {α : Type} {p : α → Bool} {zs : List α} {k : Nat} (hk : zs.length ≤ k) : (zs.take k).all p = zs.all p := by
  rw [List.take_of_length_le hk]
theorem all_not {α : Type} {p : α → Bool} {zs : List α} {k : Nat} {z : α} (h : zs[k]? = some z) (hp : p z = false) : zs.all p = false := by
  rw [List.all_eq_false]
  exact ⟨z, List.mem_of_getElem? h, by simp [hp]⟩
theorem ret_bool {a b : Bool} (h : a = b) : Ending.returned (.bool a) = .returned (.bool b) := by rw [h]
theorem ret_int {k : IntKind} {a b : Int} (h : a = b) : Ending.returned (.int k a) = .returned (.int k b) := by rw [h]
theorem getElem?_of_lt {α : Type} {zs : List α} {k : Nat} (h : k < zs.length) : ∃ z, zs[k]? = some z := ⟨_, List.getElem?_eq_getElem h⟩
theorem getM_of_lt {ms : List (Int × Int)} {k : Nat} (h : k < ms.length) : ∃ a b, ms[k]? = some (a, b) := ⟨_, _, List.getElem?_eq_getElem h⟩
theorem getD_of {zs : List Int} {k : Nat} {z : Int} (h : zs[k]? = some z) : zs.getD k 0 = z := by rw [List.getD_eq_getElem?_getD, h]; rfl
theorem below_step {w w1 w2 : World} (h : Below w.heap.size w w1) (k : Below w1.heap.size w1 w2) : Below w.heap.size w w2 := h.trans (k.mono h.size)
theorem filter_snoc {α : Type} {p : α → Bool} {zs : List α} {k : Nat} {z : α} (h : zs[k]? = some z) : (zs.take (k + 1)).filter p = (zs.take k).filter p ++ (if p z then [z] else []) := by
  rw [take_snoc h, List.filter_append]; cases hp : p z <;> simp [hp]
theorem any_snoc {α : Type} {p : α → Bool} {zs : List α} {k : Nat} {z : α} (h : zs[k]? = some z) : (zs.take (k + 1)).any p = ((zs.take k).any p || p z) := by
  rw [take_snoc h]; simp
end Go.Proofs.Ytoilbgngefleiaa

/-
  Words for memory that the walks of this seat share: a slice that reads as a list.
-/
namespace Go.Proofs.Ytoilbgngefleiaa
open Go.RowKit

theorem below_drewN {B : Nat} {a w : World} (h : Below B a w) (n : Nat) : Below B a (w.drewN n) := ⟨h.os, h.tape, h.output, h.size, h.block⟩
theorem block_of_add (a : Addr) (n : Nat) : (a.add n).block = a.block := by unfold Addr.add; split <;> rfl
theorem add_of_add (a : Addr) (i j : Nat) : (a.add i).add j = a.add (i + j) := by
  unfold Addr.add
  by_cases hi : i = 0 <;> by_cases hj : j = 0 <;> simp [hi, hj, Nat.add_assoc]

def Reads (w : World) (B size : Nat) (A : Option Addr) (n : Nat) (xs : List Value) : Prop :=
  xs.length = n * size ∧ (0 < n → ∃ ad, A = some ad ∧ ad.block < B ∧ ∀ j u, xs[j]? = some u → w.cell? (ad.add j) = some u)

section
variable {w w' : World} {B B' size n : Nat} {A : Option Addr} {xs : List Value}
theorem Reads.none_ : Reads w B size A 0 [] := ⟨by simp, fun h => absurd h (by omega)⟩
theorem Reads.at_ {k : Nat} (h : Reads w B 1 A n xs) (hk : k < n) : ∃ ad u, A = some ad ∧ ad.block < B ∧ xs[k]? = some u ∧ w.cell? (ad.add k) = some u := by
  obtain ⟨ad, e, hb, hc⟩ := h.2 (by omega)
  have hl : k < xs.length := by have := h.1; omega
  exact ⟨ad, xs[k], e, hb, List.getElem?_eq_getElem hl, hc k _ (List.getElem?_eq_getElem hl)⟩
theorem Reads.keep (h : Reads w B size A n xs) (hk : ∀ p : Addr, p.block < B → w'.cell? p = w.cell? p) : Reads w' B size A n xs :=
  ⟨h.1, fun hn => by
    obtain ⟨ad, e, hb, hc⟩ := h.2 hn
    exact ⟨ad, e, hb, fun j u hu => (hk _ (by rw [block_of_add]; exact hb)).trans (hc j u hu)⟩⟩
theorem Reads.more (h : Reads w B size A n xs) (hB : B ≤ B') : Reads w B' size A n xs :=
  ⟨h.1, fun hn => by
    obtain ⟨ad, e, hb, hc⟩ := h.2 hn
    exact ⟨ad, e, by omega, hc⟩⟩
theorem Reads.below (h : Reads w B size A n xs) (hb : Below B w w') : Reads w' B size A n xs := h.keep fun _ hp => hb.cell hp
theorem Reads.drew (h : Reads w B size A n xs) : Reads w.drew B size A n xs := h
theorem Reads.drewN (h : Reads w B size A n xs) (k : Nat) : Reads (w.drewN k) B size A n xs := h
theorem Reads.of_own {base : Nat} {e : TypeId} {c : Nat} (h : w.ownsRow base e size (.slice A n c) n xs) : Reads w w.heap.size size A n xs := by
  refine ⟨h.1, fun hn => ?_⟩
  obtain ⟨g, cap, hv, _, hlt⟩ := h.form hn
  have hA : A = some ⟨g, 0, none⟩ := by injection hv
  subst hA
  exact ⟨_, rfl, hlt, h.cells (g := g) rfl⟩
end

/-- A slice of ints that reads as the list zs. -/
def Ints (w : World) (A : Option Addr) (zs : List Int) : Prop := Reads w w.heap.size 1 A zs.length (zs.map (Value.int .i64))

theorem Ints.at_ {w : World} {A : Option Addr} {zs : List Int} (h : Ints w A zs) {k : Nat} (hk : k < zs.length) :
    ∃ ad, A = some ad ∧ ad.block < w.heap.size ∧ w.cell? (ad.add k) = some (.int .i64 (zs.getD k 0)) := by
  obtain ⟨ad, u, e, hb, hx, hc⟩ := Reads.at_ h hk
  refine ⟨ad, e, hb, ?_⟩
  rw [List.getElem?_map, List.getElem?_eq_getElem hk] at hx
  simp only [Option.map_some, Option.some.injEq] at hx
  rw [hc, ← hx, List.getD_eq_getElem?_getD, List.getElem?_eq_getElem hk]; rfl
/-- The element at k, by a name of its own; what it is stays hidden from the walk. -/
theorem Ints.get {w : World} {A : Option Addr} {zs : List Int} (h : Ints w A zs) {k : Nat} (hk : k < zs.length) :
    ∃ ad z, A = some ad ∧ ad.block < w.heap.size ∧ Hid (zs[k]? = some z) ∧ w.cell? (ad.add k) = some (.int .i64 z) := by
  obtain ⟨ad, e, hb, hc⟩ := h.at_ hk
  refine ⟨ad, zs[k], e, hb, List.getElem?_eq_getElem hk, ?_⟩
  rw [hc, List.getD_eq_getElem?_getD, List.getElem?_eq_getElem hk]; rfl
theorem add_mk (b o k : Nat) : (⟨b, o, none⟩ : Addr).add k = ⟨b, o + k, none⟩ := by
  unfold Addr.add; split <;> simp_all
/-- The address of a list that is not empty, written out. -/
theorem Ints.open_ {w : World} {A : Option Addr} {zs : List Int} (h : Ints w A zs) (hn : 0 < zs.length) :
    ∃ b o, A = some ⟨b, o, none⟩ ∧ b < w.heap.size ∧ ∀ (k : Nat) (z : Int), zs[k]? = some z → w.cell? ⟨b, o + k, none⟩ = some (.int .i64 z) := by
  obtain ⟨ad, u, e, hb, _, hc⟩ := Reads.at_ h hn
  obtain ⟨b, o, s⟩ := ad
  have hs : s = none := by simpa [Addr.add] using World.cell?_spot hc
  subst hs
  refine ⟨b, o, e, hb, fun k z hz => ?_⟩
  obtain ⟨ad', e', _, hall⟩ := h.2 hn
  rw [e] at e'
  obtain rfl := Option.some.inj e'
  rw [← add_mk]
  exact hall k _ (by rw [List.getElem?_map, hz]; rfl)
theorem Ints.below {w w' : World} {A : Option Addr} {zs : List Int} (h : Ints w A zs) (hb : Below w.heap.size w w') : Ints w' A zs :=
  (Reads.below h hb).more hb.size
theorem Ints.nil_ {w : World} {A : Option Addr} : Ints w A [] := Reads.none_

/-- A slice of ints as a call hands it back: what it reads as, and that its capacity is no nonsense. -/
structure Out (w : World) (A : Option Addr) (c : Nat) (zs : List Int) : Prop where
  ints : Ints w A zs
  le : zs.length ≤ c
  cap : c ≤ maxLen
theorem Out.nil_ {w : World} {A : Option Addr} : Out w A 0 [] := ⟨Ints.nil_, Nat.le_refl _, Nat.zero_le _⟩
theorem Out.below {w w' : World} {A : Option Addr} {c : Nat} {zs : List Int} (h : Out w A c zs) (hb : Below w.heap.size w w') : Out w' A c zs := ⟨h.ints.below hb, h.le, h.cap⟩
end Go.Proofs.Ytoilbgngefleiaa

/-
  Appending one element to a slice that the call itself made: one law with its side conditions met.
-/
namespace Go.Proofs.Ytoilbgngefleiaa
open Go.RowKit

theorem cells_new (w : World) (cs : List Value) (t : TypeId) : ∀ j u, cs[j]? = some u → (w.alloc (.cells cs.toArray t)).cell? ((⟨w.heap.size, 0, none⟩ : Addr).add j) = some u := by
  intro j u hj
  have e : ((⟨w.heap.size, 0, none⟩ : Addr).add j) = ⟨w.heap.size, j, none⟩ := by
    unfold Addr.add; split <;> simp_all
  rw [e, cell_of_row _ w.heap.size j cs.toArray t (0, 0) (heap_alloc_new w _)]
  simpa using hj

section
variable {P : Program} {ops : Array Oper} {rest : List Oper} {o : Oper} {a : Act} {Q : Exit → Act → World → Prop}

theorem wp_app (w : World) (hgd : o.guard = none) (s x : Operand) (t : TypeId)
    (ho : o.op = .call { callee := .builtin .append, args := #[s, x], argTypes := #[t, t] })
    (base : Nat) (e : TypeId) (i : TypeInfo) (zero : Value) (size bytes : Nat) (ht : P.underlying t = some (.slice e)) (hi : P.info? e = some i) (hz : i.zero = some zero)
    (hsize : i.size = size) (hby : i.bytes = bytes) (hzs : zero.cells.size = size) (hsz : 0 < size) (hb64 : bytes ≤ 64)
    (v : Value) (n : Nat) (xs : List Value) (cs : List Value) (hs : a.eval s = v) (hown : w.ownsRow base e size v n xs)
    (hx : a.eval x = .slice (some ⟨w.heap.size, 0, none⟩) 1 1) (hl : cs.length = size) (h1 : ∀ u ∈ cs, u.oneCell' = true)
    (hn : n ≤ 1000000) (hbase : base ≤ w.heap.size)
    (h : ∀ v' w', w'.ownsRow base e size v' (n + 1) (xs ++ cs) → Below base w w' → wpList P ops Q rest (a.put o.dst v') w') :
    wpList P ops Q (o :: rest) a (w.alloc (.cells cs.toArray e)) := by
  refine wpList_append_own _ hgd s x t ho base e i zero size bytes ht hi hz hsize hby hzs hsz v n xs hs (hown.alloc _) ⟨w.heap.size, 0, none⟩ 1 1 cs hx (by omega)
    (cells_new w cs e) h1 (by unfold maxLen; omega) ?_ (by simp; omega) ?_
  · have : (n + 1) * bytes ≤ (n + 1) * 64 := Nat.mul_le_mul_left _ hb64
    omega
  · intro v' w' ho' hg _
    refine h v' w' ho' (((Below.refl base w).alloc hbase _).grown hg (by simp; omega) ?_)
    intro k hk
    exact (hown.lt k hk).1
end

theorem int_info : (Try.prog.info? 3).map (fun i => (i.zero, i.size, i.bytes)) = some (some (.int .i64 0), 1, 8) := by kernel_rfl

section
variable {ops : Array Oper} {rest : List Oper} {o : Oper} {a : Act} {Q : Exit → Act → World → Prop}
theorem wp_app_int (w : World) (hgd : o.guard = none) (s x : Operand)
    (ho : o.op = .call { callee := .builtin .append, args := #[s, x], argTypes := #[37, 37] })
    (base : Nat) (v : Value) (n : Nat) (xs : List Int) (z : Int) (hs : a.eval s = v) (hown : w.ownsRow base 3 1 v n (xs.map (Value.int .i64)))
    (hx : a.eval x = .slice (some ⟨w.heap.size, 0, none⟩) 1 1) (hn : n ≤ 1000000) (hbase : base ≤ w.heap.size)
    (h : ∀ v' w', w'.ownsRow base 3 1 v' (n + 1) ((xs ++ [z]).map (Value.int .i64)) → Below base w w' → wpList Try.prog ops Q rest (a.put o.dst v') w') :
    wpList Try.prog ops Q (o :: rest) a (w.alloc (.cells #[.int .i64 z] 3)) := by
  obtain ⟨i0, hi0, hz0, hz1, hz2⟩ := info_parts int_info
  refine wp_app w hgd s x 37 ho base 3 i0 (.int .i64 0) 1 8 Try.underlying37 hi0 hz0 hz1 hz2 rfl (by decide) (by decide) v n _ [.int .i64 z] hs hown hx rfl ?_ hn hbase ?_
  · intro u hu; simp at hu; subst hu; rfl
  · intro v' w' h1 h2
    exact h v' w' (by simpa using h1) h2
end

section
variable {ops : Array Oper} {o : Oper} {a : Act} {K : Act → World → Prop} {Q : Exit → Act → World → Prop} {E : Prop}
theorem step_app {P : Program} (w : World) (hgd : o.guard = none) (s x : Operand) (t : TypeId)
    (ho : o.op = .call { callee := .builtin .append, args := #[s, x], argTypes := #[t, t] })
    (base : Nat) (e : TypeId) (i : TypeInfo) (zero : Value) (size bytes : Nat) (ht : P.underlying t = some (.slice e)) (hi : P.info? e = some i) (hz : i.zero = some zero)
    (hsize : i.size = size) (hby : i.bytes = bytes) (hzs : zero.cells.size = size) (hsz : 0 < size) (hb64 : bytes ≤ 64)
    (v : Value) (n : Nat) (xs : List Value) (cs : List Value) (hs : a.eval s = v) (hown : w.ownsRow base e size v n xs)
    (hx : a.eval x = .slice (some ⟨w.heap.size, 0, none⟩) 1 1) (hl : cs.length = size) (h1 : ∀ u ∈ cs, u.oneCell' = true)
    (hn : n ≤ 1000000) (hbase : base ≤ w.heap.size)
    (h : ∀ v' w', w'.ownsRow base e size v' (n + 1) (xs ++ cs) → Below base w w' → (∀ g, g < w.heap.size → v.ownBlock ≠ some g → w'.heap[g]? = w.heap[g]?) → K (a.put o.dst v') w') :
    if Region.wanted o (yielded ops a.tmps) = true then Oper.wp P o a (w.alloc (.cells cs.toArray e)).drew K Q else E := by
  have hw : Region.wanted o (yielded ops a.tmps) = true := by simp [Region.wanted, hgd]
  rw [if_pos hw]
  refine wp_append_own _ s x t ho base e i zero size bytes ht hi hz hsize hby hzs hsz v n xs hs (hown.alloc _).drew ⟨w.heap.size, 0, none⟩ 1 1 cs hx (by omega)
    (cells_new w cs e) h1 (by unfold maxLen; omega) ?_ (by simp; omega) ?_
  · have : (n + 1) * bytes ≤ (n + 1) * 64 := Nat.mul_le_mul_left _ hb64
    omega
  · intro v' w' ho' hg _
    refine h v' w' ho' ((((Below.refl base w).alloc hbase _).drew).grown hg (by simp; omega) ?_) ?_
    · intro k hk
      exact (hown.lt k hk).1
    · intro g hg1 hg2
      exact (hg.block g (by simp; omega) (fun e => hg2 e.symm)).trans (Below.heap_alloc w _ g hg1)
theorem step_app_int (w : World) (hgd : o.guard = none) (s x : Operand)
    (ho : o.op = .call { callee := .builtin .append, args := #[s, x], argTypes := #[37, 37] })
    (base : Nat) (v : Value) (n : Nat) (xs : List Int) (z : Int) (hs : a.eval s = v) (hown : w.ownsRow base 3 1 v n (xs.map (Value.int .i64)))
    (hx : a.eval x = .slice (some ⟨w.heap.size, 0, none⟩) 1 1) (hn : n ≤ 1000000) (hbase : base ≤ w.heap.size)
    (h : ∀ v' w', w'.ownsRow base 3 1 v' (n + 1) ((xs ++ [z]).map (Value.int .i64)) → Below base w w' → K (a.put o.dst v') w') :
    if Region.wanted o (yielded ops a.tmps) = true then Oper.wp Try.prog o a (w.alloc (.cells #[.int .i64 z] 3)).drew K Q else E := by
  obtain ⟨i0, hi0, hz0, hz1, hz2⟩ := info_parts int_info
  refine step_app w hgd s x 37 ho base 3 i0 (.int .i64 0) 1 8 Try.underlying37 hi0 hz0 hz1 hz2 rfl (by decide) (by decide) v n _ [.int .i64 z] hs hown hx rfl ?_ hn hbase ?_
  · intro u hu; simp at hu; subst hu; rfl
  · intro v' w' h1 h2 _
    exact h v' w' (by simpa using h1) h2
end

theorem own_ne {w : World} {base g : Nat} {e t : TypeId} {size n : Nat} {v : Value} {xs : List Value} {cs : Array Value} (h : w.ownsRow base e size v n xs) (hg : w.heap[g]? = some (.cells cs t (0, 0))) (hne : e ≠ t) : v.ownBlock ≠ some g := by
  rcases h.2 with ⟨rfl, _⟩ | ⟨g', cap, cur, rfl, _, hh, _⟩
  · simp [Value.ownBlock]
  · intro he
    have : g' = g := by simpa [Value.ownBlock] using he
    subst this
    rw [hh] at hg
    injection hg with hg
    injection hg with _ ht
    exact hne ht

/-- What came out of appends reads as its list. -/
theorem own_ints {w : World} {base n : Nat} {v : Value} {xs : List Int} (h : w.ownsRow base 3 1 v n (xs.map (Value.int .i64))) :
    ∃ A c, v = .slice A xs.length c ∧ Out w A c xs := by
  have hl : xs.length = n := by have := h.1; simpa using this
  subst hl
  rcases h.2 with ⟨rfl, h0⟩ | ⟨g, cap, cur, rfl, _, _, h1, h2, _⟩
  · have : xs = [] := List.eq_nil_of_length_eq_zero h0
    subst this
    exact ⟨none, 0, rfl, Out.nil_⟩
  · exact ⟨_, cap, rfl, Reads.of_own h, h1, h2⟩
end Go.Proofs.Ytoilbgngefleiaa

/-
  A slice of points that reads as a list of pairs; appends to one; equality of two.
-/
namespace Go.Proofs.Ytoilbgngefleiaa
open Go.RowKit

def mk2 (m : Int × Int) : List Value := [.int .i64 m.1, .int .i64 m.2]
/-- A slice of marks that reads as the list ms. -/
def Marks (w : World) (A : Option Addr) (ms : List (Int × Int)) : Prop := Reads w w.heap.size 2 A ms.length (ms.flatMap mk2)

theorem flat_get : ∀ (ms : List (Int × Int)) (k : Nat) (m : Int × Int), ms[k]? = some m → (ms.flatMap mk2)[2 * k]? = some (.int .i64 m.1) ∧ (ms.flatMap mk2)[2 * k + 1]? = some (.int .i64 m.2)
  | [], k, m, h => by simp at h
  | a :: t, 0, m, h => by simp at h; subst h; simp [mk2]
  | a :: t, k + 1, m, h => by
    have := flat_get t k m (by simpa using h)
    rw [show 2 * (k + 1) = 2 * k + 2 by omega]
    simpa [mk2] using this
theorem flat_len (ms : List (Int × Int)) : (ms.flatMap mk2).length = ms.length * 2 := by
  induction ms with
  | nil => rfl
  | cons a t ih => rw [List.flatMap_cons, List.length_append, ih]; simp [mk2]; omega
theorem Marks.below {w w' : World} {A : Option Addr} {ms : List (Int × Int)} (h : Marks w A ms) (hb : Below w.heap.size w w') : Marks w' A ms :=
  (Reads.below h hb).more hb.size
theorem Marks.drewN {w : World} {A : Option Addr} {ms : List (Int × Int)} (h : Marks w A ms) (n : Nat) : Marks (w.drewN n) A ms := h
theorem Marks.nil_ {w : World} {A : Option Addr} : Marks w A [] := Reads.none_
theorem Marks.open_ {w : World} {A : Option Addr} {ms : List (Int × Int)} (h : Marks w A ms) (hn : 0 < ms.length) :
    ∃ b o, A = some ⟨b, o, none⟩ ∧ b < w.heap.size ∧ ∀ (k : Nat) (m : Int × Int), ms[k]? = some m → w.cell? ⟨b, o + k * 2, none⟩ = some (.int .i64 m.1) ∧ w.cell? ⟨b, o + k * 2 + 1, none⟩ = some (.int .i64 m.2) := by
  obtain ⟨ad, e, hb, hall⟩ := h.2 hn
  obtain ⟨m0, hm0⟩ : ∃ m, ms[0]? = some m := ⟨_, List.getElem?_eq_getElem hn⟩
  have hc := hall 0 _ (flat_get ms 0 m0 hm0).1
  obtain ⟨b, o, s⟩ := ad
  have hs : s = none := by simpa [Addr.add] using World.cell?_spot hc
  subst hs
  refine ⟨b, o, e, hb, fun k m hm => ?_⟩
  have h2 := flat_get ms k m hm
  rw [Nat.mul_comm k 2, Nat.add_assoc, ← add_mk, ← add_mk]
  exact ⟨hall _ _ h2.1, hall _ _ h2.2⟩

/-- A clock as it is handed from call to call. -/
structure Clk (w : World) (A : Option Addr) (c : Nat) (ms : List (Int × Int)) : Prop where
  marks : Marks w A ms
  le : ms.length ≤ c
  cap : c ≤ maxLen
theorem Clk.nil_ {w : World} {A : Option Addr} : Clk w A 0 [] := ⟨Marks.nil_, Nat.le_refl _, Nat.zero_le _⟩
theorem Clk.below {w w' : World} {A : Option Addr} {c : Nat} {ms : List (Int × Int)} (h : Clk w A c ms) (hb : Below w.heap.size w w') : Clk w' A c ms := ⟨h.marks.below hb, h.le, h.cap⟩
theorem Clk.len {w : World} {A : Option Addr} {c : Nat} {ms : List (Int × Int)} (h : Clk w A c ms) : ms.length ≤ maxLen := Nat.le_trans h.le h.cap

theorem ne_lenM {xs ys : List (Int × Int)} (h : xs.length ≠ ys.length) : false = decide (xs = ys) := by
  rw [eq_comm, decide_eq_false_iff_not]; rintro rfl; exact h rfl
theorem ne_atM {xs ys : List (Int × Int)} {k : Nat} {x y : Int × Int} (hx : xs[k]? = some x) (hy : ys[k]? = some y) (h : x ≠ y) : false = decide (xs = ys) := by
  rw [eq_comm, decide_eq_false_iff_not]; rintro rfl; rw [hx] at hy; exact h (Option.some.inj hy)
theorem eq_nextM {xs ys : List (Int × Int)} {k : Nat} {x y : Int × Int} (hx : xs[k]? = some x) (hy : ys[k]? = some y) (h : x = y) (ht : xs.take k = ys.take k) : xs.take (k + 1) = ys.take (k + 1) := by
  rw [take_snoc hx, take_snoc hy, ht, h]
theorem eq_endM {xs ys : List (Int × Int)} {k : Nat} (hl : xs.length = ys.length) (hk : xs.length ≤ k) (ht : xs.take k = ys.take k) : true = decide (xs = ys) := by
  rw [List.take_of_length_le hk, List.take_of_length_le (by omega)] at ht; simp [ht]

theorem pt_info : (Try.prog.info? 54).map (fun i => (i.zero, i.size, i.bytes)) = some (some (.agg #[.int .i64 0, .int .i64 0]), 2, 16) := by kernel_rfl
section
variable {ops : Array Oper} {rest : List Oper} {o : Oper} {a : Act} {Q : Exit → Act → World → Prop}
theorem wp_app_pt (w : World) (hgd : o.guard = none) (s x : Operand)
    (ho : o.op = .call { callee := .builtin .append, args := #[s, x], argTypes := #[22, 22] })
    (base : Nat) (v : Value) (n : Nat) (xs : List (Int × Int)) (y z : Int) (hs : a.eval s = v) (hown : w.ownsRow base 54 2 v n (xs.flatMap mk2))
    (hx : a.eval x = .slice (some ⟨w.heap.size, 0, none⟩) 1 1) (hn : n ≤ 1000000) (hbase : base ≤ w.heap.size)
    (h : ∀ v' w', w'.ownsRow base 54 2 v' (n + 1) ((xs ++ [(y, z)]).flatMap mk2) → Below base w w' → wpList Try.prog ops Q rest (a.put o.dst v') w') :
    wpList Try.prog ops Q (o :: rest) a (w.alloc (.cells #[.int .i64 y, .int .i64 z] 54)) := by
  obtain ⟨i0, hi0, hz0, hz1, hz2⟩ := info_parts pt_info
  refine wp_app w hgd s x 22 ho base 54 i0 (.agg #[.int .i64 0, .int .i64 0]) 2 16 Try.underlying22 hi0 hz0 hz1 hz2 rfl (by decide) (by decide) v n _ [.int .i64 y, .int .i64 z] hs hown hx rfl ?_ hn hbase ?_
  · intro u hu; simp at hu; rcases hu with rfl | rfl <;> rfl
  · intro v' w' h1 h2
    exact h v' w' (by rw [List.flatMap_append]; exact h1) h2
end
theorem own_points {w : World} {base n : Nat} {v : Value} {xs : List (Int × Int)} (h : w.ownsRow base 54 2 v n (xs.flatMap mk2)) :
    ∃ A c, v = .slice A xs.length c ∧ Clk w A c xs := by
  have hl : xs.length = n := by have := h.1; rw [flat_len] at this; omega
  subst hl
  rcases h.2 with ⟨rfl, h0⟩ | ⟨g, cap, cur, rfl, _, _, h1, h2, _⟩
  · have : xs = [] := List.eq_nil_of_length_eq_zero h0
    subst this
    exact ⟨none, 0, rfl, Clk.nil_⟩
  · exact ⟨_, cap, rfl, Reads.of_own h, h1, h2⟩

theorem map_take_succM {ms : List (Int × Int)} {k : Nat} {m : Int × Int} (f : Int × Int → Int × Int) (h : ms[k]? = some m) : (ms.take (k + 1)).map f = (ms.take k).map f ++ [f m] := by
  rw [take_snoc h]; simp

end Go.Proofs.Ytoilbgngefleiaa

/-
  Contracts: within, placed with its function literal, IndexFunc and ContainsFunc at points, Valid, ValidLine (track).
-/
namespace Go.Proofs.Ytoilbgngefleiaa
open Go.RowKit Go.Shelf

def inB (m : Int) (x : Int) : Bool := decide (-m ≤ x ∧ x ≤ m)
theorem in_low {m x : Int} (h : x < -m) : inB m x = false := by simp [inB]; omega
theorem in_high {m x : Int} (h : m < x) : inB m x = false := by simp [inB]; omega
theorem in_ok {m x : Int} (h : ¬ x < -m) (h2 : ¬ m < x) : inB m x = true := by simp [inB]; omega

set_option maxRecDepth 100000 in
theorem within_any (m : Int) (ns : List Int) (A : Option Addr) (c : Nat) (w : World) (hm0 : 0 ≤ m) (hm1 : m ≤ 1000000000) (h : Ints w A ns) (hl : ns.length ≤ maxLen) :
    Calls Try.prog 65 #[.int .i64 m, .slice A ns.length c] w fun e w' => e = .returned (.bool (ns.all (inB m))) ∧ ∃ n, w' = w.drewN n := by
  unfold maxLen at hl
  have H := Lib.hid h
  clear h
  go_enter Try.func65, Try.ntmps65
  go_wp2
  go_loopw [9] (fun i wr => ∃ k n : Nat, k ≤ ns.length ∧ i = .int .i64 k ∧ wr = w.drewN n ∧ Hid ((ns.take k).all (inB m) = true)) (fun i _ => ns.length - (intOf i).toNat)
  case atStart => exact ⟨0, 0, Nat.zero_le _, rfl, rfl, rfl⟩
  case round =>
    obtain ⟨k, n, hk, rfl, rfl, hall⟩ := hrel
    by_cases hlt : k < ns.length
    · obtain ⟨ad, z, rfl, hbk, hz, hc⟩ := H.out.get hlt
      by_cases h1 : z < -m
      · have HZ : Hid (inB m z = false) := in_low h1
        have t1 : decide (z < -m) = true := decide_eq_true h1
        go_wp2
        go_ret
        exact ⟨ret_bool (all_not hz.out HZ.out).symm, _, rfl⟩
      · have t1 : decide (z < -m) = false := decide_eq_false h1
        by_cases h2 : m < z
        · have HZ : Hid (inB m z = false) := in_high h2
          have t2 : decide (m < z) = true := decide_eq_true h2
          go_wp2
          go_ret
          exact ⟨ret_bool (all_not hz.out HZ.out).symm, _, rfl⟩
        · have HZ : Hid (inB m z = true) := in_ok h1 h2
          have t2 : decide (m < z) = false := decide_eq_false h2
          go_wp2
          go_roundw
          case rel => exact ⟨k + 1, n, by omega, by go_num, rfl, (by rw [all_snoc hz.out, hall.out, HZ.out]; rfl : (ns.take (k + 1)).all (inB m) = true)⟩
          case measure => simp [intOf]; omega
    · go_wp2
      go_ret
      exact ⟨ret_bool (by rw [← all_full (p := inB m) (show ns.length ≤ k by omega), hall.out]), _, rfl⟩

theorem Ints.one {w : World} {g : Nat} {x : Int} (h : w.cell? ⟨g, 0, none⟩ = some (.int .i64 x)) : Ints w (some ⟨g, 0, none⟩) [x] :=
  ⟨rfl, fun _ => ⟨_, rfl, World.block_lt_of_cell? w _ h, fun j u hj => by
    obtain rfl : j = 0 := by have := (List.getElem?_eq_some_iff.1 hj).1; simp at this; exact this
    simp at hj; subst hj; exact h⟩⟩

/-- Coordinates in range. -/
def ptB (p : Int × Int) : Bool := inB 100 p.1 && inB 1000 p.2
set_option maxRecDepth 100000 in
theorem placedLit_any (a b : Int) (w : World) :
    Calls Try.prog 91 #[.agg #[.int .i64 a, .int .i64 b]] w fun e w' => e = .returned (.bool (!ptB (a, b))) ∧ Below w.heap.size w w' := by
  have TA : Hid True := Lib.hid trivial
  cases h1 : inB 100 a with
  | false =>
    have H1 : Hid ([a].all (inB 100) = false) := Lib.hid (by simp [h1])
    have HP : Hid (ptB (a, b) = false) := Lib.hid (by simp [ptB, h1])
    clear h1
    go_enter Try.func91, Try.ntmps91
    go_wp2_with (go_at_call 65; refine (within_any 100 [a] (some ⟨w.heap.size + 1, 0, none⟩) 1 _ (by omega) (by omega) (Ints.one (by go_simp)) (by simp [maxLen])).mono ?_; rintro e w1 ⟨rfl, n, rfl⟩; rw [H1.out])
    go_ret
    exact ⟨ret_bool (by rw [HP.out]; rfl), (by repeat (first | with_reducible exact Below.refl _ _ | with_reducible assumption | refine below_drewN ?_ _ | with_reducible refine Below.drew ?_ | (refine Below.setCell ?_ (by first | (simp; done) | (simp; omega) | omega) _) | (refine Below.alloc ?_ (by first | (simp; done) | (simp; omega) | omega) _)))⟩
  | true =>
    have H1 : Hid ([a].all (inB 100) = true) := Lib.hid (by simp [h1])
    have HP : Hid (ptB (a, b) = [b].all (inB 1000)) := Lib.hid (by simp [ptB, h1])
    clear h1
    go_enter Try.func91, Try.ntmps91
    go_wp2_with (first
      | (go_at_call 65; clear TA; refine (within_any 100 [a] (some ⟨w.heap.size + 1, 0, none⟩) 1 _ (by omega) (by omega) (Ints.one (by go_simp)) (by simp [maxLen])).mono ?_; rintro e w1 ⟨rfl, n, rfl⟩; rw [H1.out])
      | (go_at_call 65; refine (within_any 1000 [b] _ 1 _ (by omega) (by omega) (Ints.one (by go_simp)) (by simp [maxLen])).mono ?_; rintro e w1 ⟨rfl, n2, rfl⟩))
    go_ret
    exact ⟨ret_bool (by rw [HP.out]; simp), (by repeat (first | with_reducible exact Below.refl _ _ | with_reducible assumption | refine below_drewN ?_ _ | with_reducible refine Below.drew ?_ | (refine Below.setCell ?_ (by first | (simp; done) | (simp; omega) | omega) _) | (refine Below.alloc ?_ (by first | (simp; done) | (simp; omega) | omega) _)))⟩

/-- What is asked of a function value that says yes or no to a layer of a list. -/
def KeepAtM (g : Nat) (lb : Array Value) (p : Int × Int → Bool) (w : World) : Prop :=
  ∀ (W : World) (a b : Int), Below w.heap.size w W → Calls Try.prog g (#[.agg #[.int .i64 a, .int .i64 b]] ++ lb) W fun e w' => e = .returned (.bool (p (a, b))) ∧ Below W.heap.size W w'

set_option maxRecDepth 100000 in
set_option maxHeartbeats 400000 in
theorem indexM_any (g : Nat) (lb : Array Value) (p : Int × Int → Bool) (eg : ∀ args w, (callFunc g args).run Try.prog w = .ok (.enter g args) w) (ms : List (Int × Int)) (A : Option Addr) (c : Nat) (w : World) (hK : KeepAtM g lb p w) (h : Marks w A ms) (hn : ms.length ≤ 1000) :
    Calls Try.prog 92 #[.slice A ms.length c, .func (.func g) #[] lb] w fun e w' => ∃ r : Int, e = .returned (.int .i64 r) ∧ Below w.heap.size w w' ∧ -1 ≤ r ∧ r ≤ 1000 ∧ Hid (decide (0 ≤ r) = ms.any p) := by
  have H := Lib.hid h
  have HK := Lib.hid hK
  clear h hK
  go_enter Try.func92, Try.ntmps92
  go_wp2
  go_loopw [8] (fun i wr => ∃ k : Nat, k ≤ ms.length ∧ i = .int .i64 k ∧ Hid ((ms.take k).any p = false) ∧ Below w.heap.size w wr) (fun i _ => ms.length - (intOf i).toNat)
  case atStart => exact ⟨0, Nat.zero_le _, rfl, rfl, Below.refl _ _⟩
  case round =>
    obtain ⟨k, hk, rfl, hno, hB⟩ := hrel
    by_cases hlt : k < ms.length
    · obtain ⟨bl, off, rfl, hbk, hcells⟩ := H.out.open_ (show 0 < ms.length by omega)
      obtain ⟨a, b, hx⟩ := getM_of_lt hlt
      have f0 := (hB.cell (p := ⟨bl, off + k * 2, none⟩) hbk).trans (hcells _ _ hx).1
      have f1 := (hB.cell (p := ⟨bl, off + k * 2 + 1, none⟩) hbk).trans (hcells _ _ hx).2
      have hcall := HK.out wr a b hB
      have HX := Lib.hid hx
      clear hx hcells
      cases hp : p (a, b) with
      | true =>
        rw [hp] at hcall
        have HP := Lib.hid hp
        clear hp
        go_wp2_with (go_at_fn g; refine hcall.mono ?_; rintro e w3 ⟨rfl, hB3⟩; have hW3 : Below w.heap.size w w3 := below_step hB hB3)
        go_ret
        refine ⟨k, rfl, hW3, by omega, by omega, ?_⟩
        show _ = _
        rw [List.any_eq_true.2 ⟨_, List.mem_of_getElem? HX.out, HP.out⟩]
        exact decide_eq_true (by omega)
      | false =>
        rw [hp] at hcall
        have HP := Lib.hid hp
        clear hp
        go_wp2_with (go_at_fn g; refine hcall.mono ?_; rintro e w3 ⟨rfl, hB3⟩; have hW3 : Below w.heap.size w w3 := below_step hB hB3)
        go_roundw
        case rel => exact ⟨k + 1, by omega, by go_num, (by rw [any_snoc HX.out, hno.out, HP.out]; rfl : (ms.take (k + 1)).any p = false), hW3⟩
        case measure => simp [intOf]; omega
    · obtain rfl : k = ms.length := by omega
      go_wp2
      go_ret
      refine ⟨-1, rfl, hB, by omega, by omega, ?_⟩
      have := hno.out
      rw [List.take_length] at this
      show _ = _
      rw [this]; rfl
theorem containsM_any (g : Nat) (lb : Array Value) (p : Int × Int → Bool) (eg : ∀ args w, (callFunc g args).run Try.prog w = .ok (.enter g args) w) (ms : List (Int × Int)) (A : Option Addr) (c : Nat) (w : World) (hK : KeepAtM g lb p w) (h : Marks w A ms) (hn : ms.length ≤ 1000) :
    Calls Try.prog 63 #[.slice A ms.length c, .func (.func g) #[] lb] w fun e w' => e = .returned (.bool (ms.any p)) ∧ Below w.heap.size w w' := by
  have H := Lib.hid h
  have HK := Lib.hid hK
  clear h hK
  go_enter Try.func63, Try.ntmps63
  go_wp2_with (go_at_call 92; refine (indexM_any g lb p eg ms A c _ HK.out H.out hn).mono ?_; rintro e w1 ⟨r, rfl, hB, h0, h1, hr⟩)
  all_goals
    go_ret
    exact ⟨ret_bool (by rw [← hr.out]; try (simp; try omega)), hB⟩


set_option maxRecDepth 100000 in
theorem placed_any (ms : List (Int × Int)) (A : Option Addr) (c : Nat) (w : World) (h : Marks w A ms) (hl : ms.length ≤ 1000) :
    Calls Try.prog 62 #[.slice A ms.length c] w fun e w' => e = .returned (.bool (ms.all ptB)) ∧ Below w.heap.size w w' := by
  have H := Lib.hid h
  have eg : ∀ args w, (callFunc 91 args).run Try.prog w = .ok (.enter 91 args) w := enters_of Try.func91 (by kernel_rfl) rfl
  have HK : Hid (KeepAtM 91 #[] (fun m => !ptB m) w) := fun W a b _ => placedLit_any a b W
  have HA : Hid ((!ms.any fun m => !ptB m) = ms.all ptB) := Lib.hid (by
    rw [Bool.eq_iff_iff]; simp)
  clear h
  go_enter Try.func62, Try.ntmps62
  go_wp2_with (go_at_call 63; refine (containsM_any _ #[] _ eg ms A c _ HK.out H.out (by omega)).mono ?_; rintro e w1 ⟨rfl, hB⟩)
  go_ret
  exact ⟨ret_bool HA.out, hB⟩

/-- What the function literal of Valid has caught: the points. -/
def CatchP (B : Nat) (x : Int) (w : World) : Prop := ∃ (b o n c : Nat), B < w.heap.size ∧ b < w.heap.size ∧ 0 < n ∧ w.cell? ⟨B, 0, none⟩ = some (.slice (some ⟨b, o, none⟩) n c) ∧ w.cell? ⟨b, o, none⟩ = some (.int .i64 x)
set_option maxRecDepth 100000 in
theorem validLit_any (B : Nat) (x a b : Int) (w : World) (h : CatchP B x w) :
    Calls Try.prog 64 #[.agg #[.int .i64 a, .int .i64 b], .pointer (some ⟨B, 0, none⟩)] w fun e w' => e = .returned (.bool (decide (a ≠ x))) ∧ Below w.heap.size w w' := by
  obtain ⟨bl, o, n, c, hB, hb, hn, c0, c1⟩ := h
  have i0 : (0 : Int) < (n : Int) := by omega
  have hne1 : w.heap.size ≠ B := by omega
  have hne2 : w.heap.size ≠ bl := by omega
  go_enter Try.func64, Try.ntmps64
  go_wp2
  go_quiet (fail)
  go_wp2
  go_ret
  exact ⟨ret_bool (by rw [Bool.eq_iff_iff]; simp), (by repeat (first | with_reducible exact Below.refl _ _ | with_reducible assumption | refine below_drewN ?_ _ | with_reducible refine Below.drew ?_ | (refine Below.setCell ?_ (by first | (simp; done) | (simp; omega) | omega) _) | (refine Below.alloc ?_ (by first | (simp; done) | (simp; omega) | omega) _)))⟩
end Go.Proofs.Ytoilbgngefleiaa

/-
  Contracts: Valid, ValidLine (track), IsPoint, Valid, ValidLine (firnref05).
-/
namespace Go.Proofs.Ytoilbgngefleiaa
open Go.RowKit Go.Shelf

/-- Points are valid. -/
def viP (ms : List (Int × Int)) : Bool := decide (2 ≤ ms.length ∧ ms.length ≤ 12) && (ms.all ptB && ms.any fun q => decide (q.1 ≠ (ms.headD (0, 0)).1))
theorem vi_len {ms : List (Int × Int)} (h : ¬ (2 ≤ ms.length ∧ ms.length ≤ 12)) : false = viP ms := by rw [viP, decide_eq_false h]; rfl
theorem vi_out {ms : List (Int × Int)} (h : ms.all ptB = false) : false = viP ms := by rw [viP, h, Bool.false_and, Bool.and_false]
theorem vi_all {ms : List (Int × Int)} (h : 2 ≤ ms.length ∧ ms.length ≤ 12) (h2 : ms.all ptB = true) : (ms.any fun q => decide (q.1 ≠ (ms.headD (0, 0)).1)) = viP ms := by rw [viP, decide_eq_true h, h2]; rfl
theorem vi_parts {ms : List (Int × Int)} (h : viP ms = true) : (2 ≤ ms.length ∧ ms.length ≤ 12) ∧ (∀ q ∈ ms, ptB q = true) ∧ ∃ q ∈ ms, q.1 ≠ (ms.headD (0, 0)).1 := by
  simp only [viP, Bool.and_eq_true, decide_eq_true_eq, List.all_eq_true, List.any_eq_true] at h
  exact ⟨h.1, h.2.1, h.2.2⟩

theorem CatchP.below {B : Nat} {x : Int} {w w' : World} (h : CatchP B x w) (hb : Below w.heap.size w w') : CatchP B x w' := by
  obtain ⟨b, o, n, c, h1, h2, h3, h4, h5⟩ := h
  exact ⟨b, o, n, c, Nat.lt_of_lt_of_le h1 hb.size, Nat.lt_of_lt_of_le h2 hb.size, h3, (hb.cell (p := ⟨B, 0, none⟩) h1).trans h4, (hb.cell (p := ⟨b, o, none⟩) h2).trans h5⟩

set_option maxRecDepth 100000 in
set_option maxHeartbeats 1000000 in
theorem valid_any (ms : List (Int × Int)) (A : Option Addr) (c : Nat) (w : World) (h : Marks w A ms) (hl : ms.length ≤ maxLen) :
    Calls Try.prog 19 #[.slice A ms.length c] w fun e w' => e = .returned (.bool (viP ms)) ∧ Below w.heap.size w w' := by
  unfold maxLen at hl
  have H := Lib.hid h
  clear h
  by_cases n1 : (ms.length : Int) < 2
  · have n2 : decide ((ms.length : Int) < 2) = true := decide_eq_true n1
    go_enter Try.func19, Try.ntmps19
    go_wp2
    go_ret
    exact ⟨ret_bool (vi_len (by omega)), (by repeat (first | with_reducible exact Below.refl _ _ | with_reducible assumption | refine below_drewN ?_ _ | with_reducible refine Below.drew ?_ | (refine Below.setCell ?_ (by first | (simp; done) | (simp; omega) | omega) _) | (refine Below.alloc ?_ (by first | (simp; done) | (simp; omega) | omega) _)))⟩
  · have n2 : decide ((ms.length : Int) < 2) = false := decide_eq_false n1
    by_cases n3 : 12 < (ms.length : Int)
    · have n4 : decide (12 < (ms.length : Int)) = true := decide_eq_true n3
      go_enter Try.func19, Try.ntmps19
      go_wp2
      go_ret
      exact ⟨ret_bool (vi_len (by omega)), (by repeat (first | with_reducible exact Below.refl _ _ | with_reducible assumption | refine below_drewN ?_ _ | with_reducible refine Below.drew ?_ | (refine Below.setCell ?_ (by first | (simp; done) | (simp; omega) | omega) _) | (refine Below.alloc ?_ (by first | (simp; done) | (simp; omega) | omega) _)))⟩
    · have n4 : decide (12 < (ms.length : Int)) = false := decide_eq_false n3
      obtain ⟨bl, off, rfl, hbk, hcells⟩ := H.out.open_ (show 0 < ms.length by omega)
      obtain ⟨x, y, hxy⟩ := getM_of_lt (show 0 < ms.length by omega)
      have hc0 := (hcells 0 _ hxy).1
      have HX : Hid ((ms.headD (0, 0)).1 = x) := Lib.hid (by cases ms <;> simp_all)
      have hW0 : Below w.heap.size w (w.alloc (.cells #[.slice (some ⟨bl, off, none⟩) ms.length c] 22)) := (Below.refl _ _).alloc (Nat.le_refl _) _
      have HCP : Hid (CatchP w.heap.size x (w.alloc (.cells #[.slice (some ⟨bl, off, none⟩) ms.length c] 22))) := Lib.hid ⟨bl, off, ms.length, c, by simp, by simp; omega, by omega, cell_of_row _ _ 0 _ _ _ (heap_alloc_new w _), (hW0.cell (p := ⟨bl, off, none⟩) hbk).trans (by simpa using hc0)⟩
      have eg : ∀ args w, (callFunc 64 args).run Try.prog w = .ok (.enter 64 args) w := enters_of Try.func64 (by kernel_rfl) rfl
      have HEG := Lib.hid eg
      have HW0 := Lib.hid hW0
      clear hcells hc0 hxy eg hW0
      cases hp : ms.all ptB with
      | false =>
        have HP := Lib.hid hp
        clear hp
        go_enter Try.func19, Try.ntmps19
        go_wp2_with (go_at_call 62; refine (placed_any ms _ c _ (H.out.below HW0.out) (by omega)).mono ?_; rintro e w1 ⟨rfl, hB1⟩; rw [HP.out])
        go_ret
        exact ⟨ret_bool (vi_out HP.out), below_step HW0.out hB1⟩
      | true =>
        have HP := Lib.hid hp
        clear hp
        go_enter Try.func19, Try.ntmps19
        go_wp2_with (first
          | (go_at_call 62; refine (placed_any ms _ c _ (H.out.below HW0.out) (by omega)).mono ?_; rintro e w1 ⟨rfl, hB1⟩; rw [HP.out]; have hc1 := (hB1.cell (p := ⟨w.heap.size, 0, none⟩) (by simp)).trans (cell_of_row _ _ 0 _ _ _ (heap_alloc_new w (.cells #[.slice (some ⟨bl, off, none⟩) ms.length c] 22))); have hW1 := below_step HW0.out hB1)
          | (go_at_call 63; refine (containsM_any _ #[.pointer (some ⟨w.heap.size, 0, none⟩)] (fun q => decide (q.1 ≠ x)) HEG.out ms _ c _ (fun W a b hWW => validLit_any w.heap.size x a b W ((HCP.out.below hB1).below hWW)) (H.out.below hW1) (by omega)).mono ?_; rintro e w2 ⟨rfl, hB2⟩))
        go_ret
        exact ⟨ret_bool (by rw [← vi_all (by omega) HP.out, HX.out]; congr 1; funext q; simp), below_step hW1 hB2⟩

def lnB (a b d : Int) : Bool := inB 1000000 a && (inB 100000000 b && decide (1 ≤ d ∧ d ≤ 10000))
end Go.Proofs.Ytoilbgngefleiaa

/-
  Contracts: size, lowest (track), gcd, Ratio, size (firnref05): lowest terms.
-/
namespace Go.Proofs.Ytoilbgngefleiaa
open Go.RowKit

def absI (n : Int) : Int := max n (-n)
theorem abs_gcd (n d : Int) : Int.gcd (absI n) d = Int.gcd n d := by
  unfold absI
  rcases Int.le_total n (-n) with h | h
  · rw [Int.max_eq_right h, Int.neg_gcd]
  · rw [Int.max_eq_left h]
set_option maxRecDepth 100000 in
theorem size_any (n : Int) (w : World) (h0 : -4611686018427387904 ≤ n) (h1 : n ≤ 4611686018427387904) :
    Calls Try.prog 90 #[.int .i64 n] w fun e w' => e = .returned (.int .i64 (absI n)) ∧ w = w' := by
  go_enter Try.func90, Try.ntmps90
  go_wp2
  all_goals
    go_ret
    exact ⟨ret_int (by show _ = max n (-n); omega), rfl⟩
set_option maxRecDepth 100000 in
theorem refsize_any (n : Int) (w : World) (h0 : -4611686018427387904 ≤ n) (h1 : n ≤ 4611686018427387904) :
    Calls Try.prog 93 #[.int .i64 n] w fun e w' => e = .returned (.int .i64 (absI n)) ∧ w = w' := by
  go_enter Try.func93, Try.ntmps93
  go_wp2
  all_goals
    go_ret
    exact ⟨ret_int (by show _ = max n (-n); omega), rfl⟩
/-! ### the greatest common divisor -/
theorem gcd_tmod (a b : Int) : Int.gcd b (a.tmod b) = Int.gcd a b := by
  have h : a.tmod b = a - b * a.tdiv b := by have := Int.tmod_add_mul_tdiv a b; omega
  rw [h, Int.gcd_comm b]
  rw [Int.sub_eq_add_neg, ← Int.mul_neg, Int.mul_comm, Int.gcd_add_mul_right_left]
theorem gcd_emod (a b : Int) : Int.gcd b (a % b) = Int.gcd a b := by
  have h : a % b = a - b * (a / b) := by have := Int.emod_add_mul_ediv a b; omega
  rw [h, Int.gcd_comm b]
  rw [Int.sub_eq_add_neg, ← Int.mul_neg, Int.mul_comm, Int.gcd_add_mul_right_left]

def lowN (n d : Int) : Int := n / (Int.gcd n d : Int)
def lowD (n d : Int) : Int := d / (Int.gcd n d : Int)

theorem tmod_lt (a b : Int) (hb : b ≠ 0) : (a.tmod b).natAbs < b.natAbs := by
  rw [Int.natAbs_tmod]; exact Nat.mod_lt _ (by omega)

set_option maxRecDepth 100000 in
theorem refgcd_any (n d : Int) (w : World) (hn0 : -4611686018427387904 ≤ n) (hn1 : n ≤ 4611686018427387904) (hd0 : 0 < d) (hd1 : d ≤ 4611686018427387904) :
    Calls Try.prog 88 #[.int .i64 n, .int .i64 d] w fun e w' => ∃ g : Int, e = .returned (.int .i64 g) ∧ (∃ m, w' = w.drewN m) ∧ Hid (g = (Int.gcd n d : Int)) := by
  go_enter Try.func88, Try.ntmps88
  go_wp2
  go_loopw [0, 1] (fun x y wr => ∃ (a b : Int) (m : Nat), x = .int .i64 a ∧ y = .int .i64 b ∧ wr = w.drewN m ∧ -4611686018427387904 ≤ a ∧ a ≤ 4611686018427387904 ∧ -4611686018427387904 ≤ b ∧ b ≤ 4611686018427387904 ∧ Hid (Int.gcd a b = Int.gcd n d)) (fun _ y _ => (intOf y).natAbs)
  case atStart => exact ⟨n, d, 0, rfl, rfl, rfl, hn0, hn1, by omega, hd1, rfl⟩
  case round =>
    obtain ⟨a, b, m, rfl, rfl, rfl, ha0, ha1, hb0, hb1, hg⟩ := hrel
    by_cases hb : b = 0
    · subst hb
      have HG := hg.out
      rw [Int.gcd_zero_right] at HG
      have HG2 := Lib.hid HG
      clear HG hg
      go_wp2
      all_goals
        go_ret
        refine ⟨_, rfl, ⟨_, rfl⟩, ?_⟩
        rw [← HG2.out]
        show _ = _
        omega
    · have hbb : (b == 0) = false := by simpa using hb
      have hbn : (b != 0) = true := by simpa using hb
      have hlt := tmod_lt a b hb
      have hg2 := Lib.hid ((gcd_tmod a b).trans hg.out)
      clear hg
      go_wp2
      go_quiet (fail)
      go_wp2
      go_roundw
      case rel => exact ⟨b, _, _, rfl, rfl, World.drewN_drewN _ _ _, hb0, hb1, by omega, by omega, hg2.out⟩
      case measure => simp only [intOf]; exact hlt

theorem gcd_pos {n d : Int} (hd : 0 < d) : 0 < (Int.gcd n d : Int) := by
  have : Int.gcd n d ≠ 0 := by rw [Ne, Int.gcd_eq_zero_iff]; omega
  omega
theorem gcd_le {n d : Int} (hd : 0 < d) : (Int.gcd n d : Int) ≤ d := Int.le_of_dvd hd (Int.gcd_dvd_right n d)
theorem quo_n {n d g : Int} (hg : g = (Int.gcd n d : Int)) : n.tdiv g = lowN n d := by
  subst hg; rw [lowN]; exact Int.tdiv_eq_ediv_of_dvd (Int.gcd_dvd_left n d)
theorem quo_d {n d g : Int} (hg : g = (Int.gcd n d : Int)) : d.tdiv g = lowD n d := by
  subst hg; rw [lowD]; exact Int.tdiv_eq_ediv_of_dvd (Int.gcd_dvd_right n d)
theorem lowN_bd {n d : Int} (hd : 0 < d) (h0 : -4611686018427387904 ≤ n) (h1 : n ≤ 4611686018427387904) : -9223372036854775808 ≤ lowN n d ∧ lowN n d ≤ 9223372036854775807 := by
  have hg := gcd_pos (n := n) hd
  have e : lowN n d * (Int.gcd n d : Int) = n := Int.ediv_mul_cancel (Int.gcd_dvd_left n d)
  generalize (Int.gcd n d : Int) = g at *
  generalize lowN n d = q at *
  by_cases hq : 0 ≤ q
  · have : q * 1 ≤ q * g := Int.mul_le_mul_of_nonneg_left (by omega) hq
    omega
  · have : q * g ≤ q * 1 := Int.mul_le_mul_of_nonpos_left (by omega) (by omega)
    omega
theorem lowD_bd {n d : Int} (hd : 0 < d) : 1 ≤ lowD n d ∧ lowD n d ≤ d := by
  have hg := gcd_pos (n := n) hd
  have e : lowD n d * (Int.gcd n d : Int) = d := Int.ediv_mul_cancel (Int.gcd_dvd_right n d)
  generalize (Int.gcd n d : Int) = g at *
  generalize lowD n d = q at *
  have hq : 0 < q := by
    rcases Int.lt_or_le 0 q with h | h
    · exact h
    · have : q * g ≤ 0 := Int.mul_nonpos_of_nonpos_of_nonneg h (by omega)
      omega
  have : q * 1 ≤ q * g := Int.mul_le_mul_of_nonneg_left (by omega) (by omega)
  omega
theorem ret_agg2 {a b c d : Int} (h1 : a = c) (h2 : b = d) : Ending.returned (.agg #[.int .i64 a, .int .i64 b]) = .returned (.agg #[.int .i64 c, .int .i64 d]) := by rw [h1, h2]

set_option maxRecDepth 100000 in
theorem refRatio_any (n d : Int) (w : World) (hn0 : -4611686018427387904 ≤ n) (hn1 : n ≤ 4611686018427387904) (hd0 : 0 < d) (hd1 : d ≤ 4611686018427387904) :
    Calls Try.prog 55 #[.int .i64 n, .int .i64 d] w fun e w' => e = .returned (.agg #[.int .i64 (lowN n d), .int .i64 (lowD n d)]) ∧ Below w.heap.size w w' := by
  go_enter Try.func55, Try.ntmps55
  go_wp2_with (go_at_call 88; refine (refgcd_any _ _ _ hn0 hn1 hd0 hd1).mono ?_; rintro e w1 ⟨g, rfl, ⟨m, rfl⟩, hg⟩)
  have hgp : 0 < g := by rw [hg.out]; exact gcd_pos hd0
  have hg0 : (g == 0) = false := by simp; omega
  have hgn : g ≠ 0 := by omega
  have q1 : IntKind.i64.wrap (n.tdiv g) = lowN n d := by rw [quo_n hg.out]; exact IntWalk.i64_in _ (lowN_bd hd0 hn0 hn1)
  have q2 : IntKind.i64.wrap (d.tdiv g) = lowD n d := by rw [quo_d hg.out]; have := lowD_bd (n := n) hd0; exact IntWalk.i64_in _ (by omega)
  go_region_held3 (fun _ => True) (trivial) ((fail))
  go_wp2
  exact bodyPost_ret (v := .agg #[.int .i64 (lowN n d), .int .i64 (lowD n d)]) (by simp [results, Try.results55, go_sem]) rfl ⟨rfl, (by repeat (first | with_reducible exact Below.refl _ _ | with_reducible assumption | refine below_drewN ?_ _ | with_reducible refine Below.drew ?_ | (refine Below.setCell ?_ (by first | (simp; done) | (simp; omega) | omega) _) | (refine Below.alloc ?_ (by first | (simp; done) | (simp; omega) | omega) _)))⟩

set_option maxRecDepth 100000 in
theorem lowest_any (n d : Int) (w : World) (hn0 : -4611686018427387904 ≤ n) (hn1 : n ≤ 4611686018427387904) (hd0 : 0 < d) (hd1 : d ≤ 4611686018427387904) :
    Calls Try.prog 59 #[.int .i64 n, .int .i64 d] w fun e w' => e = .returned (.agg #[.int .i64 (lowN n d), .int .i64 (lowD n d)]) ∧ Below w.heap.size w w' := by
  go_enter Try.func59, Try.ntmps59
  go_wp2_with (go_at_call 90; refine (size_any n _ (by omega) (by omega)).mono ?_; rintro e w1 ⟨rfl, rfl⟩)
  all_goals
    go_loopw [5, 6] (fun x y wr => ∃ (a b : Int) (m : Nat), x = .int .i64 a ∧ y = .int .i64 b ∧ wr = (w.alloc (.cells #[.int .i64 0, .int .i64 0] 34)).drewN m ∧ 0 ≤ a ∧ a ≤ 4611686018427387904 ∧ 0 ≤ b ∧ b ≤ 4611686018427387904 ∧ Hid (Int.gcd a b = Int.gcd n d)) (fun _ y _ => (intOf y).natAbs)
    case atStart => exact ⟨absI n, d, 0, rfl, rfl, rfl, by unfold absI; omega, by unfold absI; omega, by omega, by omega, abs_gcd n d⟩
    case round =>
      obtain ⟨a, b, m, rfl, rfl, rfl, ha0, ha1, hb0, hb1, hg⟩ := hrel
      by_cases hb : b = 0
      · subst hb
        have HG := hg.out
        rw [Int.gcd_zero_right] at HG
        have HG2 : Hid (a = (Int.gcd n d : Int)) := by show _ = _; rw [← HG]; omega
        clear HG hg
        have hgp : 0 < a := by rw [HG2.out]; exact gcd_pos hd0
        have hg0 : (a == 0) = false := by simp; omega
        have hgn : a ≠ 0 := by omega
        have q1 : IntKind.i64.wrap (n.tdiv a) = lowN n d := by rw [quo_n HG2.out]; exact IntWalk.i64_in _ (lowN_bd hd0 hn0 hn1)
        have q2 : IntKind.i64.wrap (d.tdiv a) = lowD n d := by rw [quo_d HG2.out]; have := lowD_bd (n := n) hd0; exact IntWalk.i64_in _ (by omega)
        go_wp2
        go_region_held3 (fun _ => True) (trivial) ((fail))
        go_wp2
        exact bodyPost_ret (v := .agg #[.int .i64 (lowN n d), .int .i64 (lowD n d)]) (by simp [results, Try.results59, go_sem]) rfl ⟨rfl, (by repeat (first | with_reducible exact Below.refl _ _ | with_reducible assumption | refine below_drewN ?_ _ | with_reducible refine Below.drew ?_ | (refine Below.setCell ?_ (by first | (simp; done) | (simp; omega) | omega) _) | (refine Below.alloc ?_ (by first | (simp; done) | (simp; omega) | omega) _)))⟩
      · have hbb : (b == 0) = false := by simpa using hb
        have hbn : (b != 0) = true := by simpa using hb
        have hlt : (a % b).natAbs < b.natAbs := by rw [← Int.tmod_eq_emod_of_nonneg ha0]; exact tmod_lt a b hb
        have hnn := Int.emod_nonneg a hb
        have hg2 := Lib.hid ((gcd_emod a b).trans hg.out)
        clear hg
        go_wp2
        go_quiet (fail)
        go_wp2
        go_roundw
        case rel => exact ⟨b, _, _, rfl, rfl, World.drewN_drewN _ _ _, by omega, by omega, by omega, by omega, hg2.out⟩
        case measure => simp only [intOf]; exact hlt
end Go.Proofs.Ytoilbgngefleiaa

/-
  Contracts: rest, rests (track).
-/
namespace Go.Proofs.Ytoilbgngefleiaa
open Go.RowKit Go.Shelf

theorem own_below {w w3 : World} {base : Nat} {e : TypeId} {size n : Nat} {v : Value} {xs : List Value} (h : w.ownsRow base e size v n xs) (hB : Below w.heap.size w w3) : w3.ownsRow base e size v n xs :=
  h.kept (World.grownBy.mk hB.os hB.tape hB.output hB.size (fun i hi _ => hB.block i hi) : World.grownBy _ w3 none) (by cases hh : Value.ownBlock v with | none => exact .inl rfl | some g => exact .inr (by simp))

/-- The rest of a point, times the line's D. -/
def rsI (a b d : Int) (q : Int × Int) : Int := q.2 * d - q.1 * a - b
/-- Bounds of a line within which nothing runs over. -/
def LnB (a b d : Int) : Prop := (-1000000 ≤ a ∧ a ≤ 1000000) ∧ (-1000000000 ≤ b ∧ b ≤ 1000000000) ∧ (1 ≤ d ∧ d ≤ 100000)
theorem pt_parts {q : Int × Int} (h : ptB q = true) : (-100 ≤ q.1 ∧ q.1 ≤ 100) ∧ (-1000 ≤ q.2 ∧ q.2 ≤ 1000) := by
  simpa [ptB, inB] using h
theorem mulBox {x y X Y : Int} (h1 : -X ≤ x) (h2 : x ≤ X) (h3 : -Y ≤ y) (h4 : y ≤ Y) : -(X * Y) ≤ x * y ∧ x * y ≤ X * Y := by
  have a1 := Int.mul_nonneg (show 0 ≤ X - x by omega) (show 0 ≤ Y - y by omega)
  have a2 := Int.mul_nonneg (show 0 ≤ X + x by omega) (show 0 ≤ Y + y by omega)
  have a3 := Int.mul_nonneg (show 0 ≤ X - x by omega) (show 0 ≤ Y + y by omega)
  have a4 := Int.mul_nonneg (show 0 ≤ X + x by omega) (show 0 ≤ Y - y by omega)
  constructor <;> grind
theorem rs_box {a b d : Int} {q : Int × Int} (hL : LnB a b d) (hq : ptB q = true) : (-100000000 ≤ q.2 * d ∧ q.2 * d ≤ 100000000) ∧ (-100000000 ≤ q.1 * a ∧ q.1 * a ≤ 100000000) ∧ (-1200000000 ≤ rsI a b d q ∧ rsI a b d q ≤ 1200000000) := by
  obtain ⟨⟨x0, x1⟩, y0, y1⟩ := pt_parts hq
  obtain ⟨⟨a0, a1⟩, ⟨b0, b1⟩, d0, d1⟩ := hL
  have h1 := mulBox (X := 1000) (Y := 100000) y0 y1 (show -100000 ≤ d by omega) d1
  have h2 := mulBox (X := 100) (Y := 1000000) x0 x1 a0 a1
  unfold rsI
  refine ⟨by omega, by omega, by omega⟩

set_option maxRecDepth 100000 in
theorem rest_any (x y a b d : Int) (w : World) (hL : LnB a b d) (hq : ptB (x, y) = true) :
    Calls Try.prog 89 #[.agg #[.int .i64 x, .int .i64 y], .agg #[.int .i64 a, .int .i64 b, .int .i64 d]] w fun e w' => e = .returned (.int .i64 (rsI a b d (x, y))) ∧ Below w.heap.size w w' := by
  obtain ⟨⟨p0, p1⟩, ⟨p2, p3⟩, p4, p5⟩ := rs_box hL hq
  have HB := hL.2.1
  simp only [rsI] at p0 p1 p2 p3 p4 p5
  go_enter Try.func89, Try.ntmps89
  go_wp2
  go_ret
  exact ⟨ret_int (by simp only [rsI]), (by repeat (first | with_reducible exact Below.refl _ _ | with_reducible assumption | refine below_drewN ?_ _ | with_reducible refine Below.drew ?_ | (refine Below.setCell ?_ (by first | (simp; done) | (simp; omega) | omega) _) | (refine Below.alloc ?_ (by first | (simp; done) | (simp; omega) | omega) _)))⟩

set_option maxRecDepth 100000 in
set_option maxHeartbeats 1000000 in
theorem rests_any (ms : List (Int × Int)) (A : Option Addr) (c : Nat) (a b d : Int) (w : World) (h : Marks w A ms) (hl : ms.length ≤ 1000) (hL : LnB a b d) (hv : ms.all ptB = true) :
    Calls Try.prog 58 #[.slice A ms.length c, .agg #[.int .i64 a, .int .i64 b, .int .i64 d]] w fun e w' => ∃ (A' : Option Addr) (c' : Nat) (zs : List Int), e = .returned (.slice A' zs.length c') ∧ Out w' A' c' zs ∧ Below w.heap.size w w' ∧ Hid (zs = ms.map (rsI a b d)) := by
  have H := Lib.hid h
  have HL := Lib.hid hL
  have HV : Hid (∀ q ∈ ms, ptB q = true) := Lib.hid (by simpa using hv)
  clear h hL hv
  obtain ⟨i0, hi0, hz0, hz1, hz2⟩ := info_parts int_info
  have HZ2 := Lib.hid hz2
  clear hz2
  go_enter Try.func58, Try.ntmps58
  go_wp2_with (at_make; refine wpList_make_own _ rfl _ _ 37 rfl (w.heap.size + 1) 3 i0 (.int .i64 0) 1 Try.underlying37 hi0 hz0 hz1 _ _ _ ms.length rfl rfl rfl (by rw [HZ2.out]; omega) (by unfold maxLen; omega) (by simp) ?_; intro w1 hown1 hg1)
  obtain ⟨W0, hW0⟩ : ∃ W0, W0 = w.alloc (.cells #[.int .i64 a, .int .i64 b, .int .i64 d] 24) := ⟨_, rfl⟩
  rw [← hW0] at hg1
  have hs0 : W0.heap.size = w.heap.size + 1 := by rw [hW0]; simp
  have hBW : Below w.heap.size w W0 := by rw [hW0]; exact (Below.refl _ _).alloc (Nat.le_refl _) _
  have hB1 : Below (w.heap.size + 1) W0 w1 := (Below.refl _ _).grown hg1 (by omega) (by simp)
  have x0 : W0.cell? ⟨w.heap.size, 0, none⟩ = some (.int .i64 a) := by rw [hW0]; exact cell_of_row _ _ 0 _ _ _ (heap_alloc_new w _)
  have x1 : W0.cell? ⟨w.heap.size, 1, none⟩ = some (.int .i64 b) := by rw [hW0]; exact cell_of_row _ _ 1 _ _ _ (heap_alloc_new w _)
  have x2 : W0.cell? ⟨w.heap.size, 2, none⟩ = some (.int .i64 d) := by rw [hW0]; exact cell_of_row _ _ 2 _ _ _ (heap_alloc_new w _)
  have HX : Hid ((W0.cell? ⟨w.heap.size, 0, none⟩ = some (.int .i64 a)) ∧ (W0.cell? ⟨w.heap.size, 1, none⟩ = some (.int .i64 b)) ∧ (W0.cell? ⟨w.heap.size, 2, none⟩ = some (.int .i64 d))) := Lib.hid ⟨x0, x1, x2⟩
  have HBW := Lib.hid hBW
  have HS0 := Lib.hid hs0
  clear hg1 HZ2 hz0 hz1 hi0 x0 x1 x2 hBW hs0 hW0
  go_loopw [5, 13] (fun v i wr => ∃ k : Nat, k ≤ ms.length ∧ i = .int .i64 k ∧ wr.ownsRow (w.heap.size + 1) 3 1 v k (((ms.take k).map (rsI a b d)).map (Value.int .i64)) ∧ Below (w.heap.size + 1) W0 wr) (fun _ i _ => ms.length - (intOf i).toNat)
  case atStart => exact ⟨0, Nat.zero_le _, rfl, (by simpa using hown1), hB1⟩
  case round =>
    clear hown1 hB1
    obtain ⟨k, hk, rfl, hown, hB⟩ := hrel
    have hsz : w.heap.size + 1 ≤ wr.heap.size := by have := hB.size; have := HS0.out; omega
    have hBw : Below w.heap.size w wr := below_step HBW.out (hB.mono (by have := HS0.out; omega))
    by_cases hlt : k < ms.length
    · obtain ⟨bl, off, rfl, hbk, hcells⟩ := H.out.open_ (show 0 < ms.length by omega)
      obtain ⟨x, y, hxy⟩ := getM_of_lt hlt
      have HP : Hid (ptB (x, y) = true) := Lib.hid (HV.out _ (List.mem_of_getElem? hxy))
      obtain ⟨hc0, hc1⟩ := hcells k _ hxy
      have c0 := (hBw.cell (p := ⟨bl, off + k * 2, none⟩) hbk).trans (by simpa using hc0)
      have c1 := (hBw.cell (p := ⟨bl, off + k * 2 + 1, none⟩) hbk).trans (by simpa using hc1)
      have x0 := (hB.cell (p := ⟨w.heap.size, 0, none⟩) (by simp)).trans HX.out.1
      have x1 := (hB.cell (p := ⟨w.heap.size, 1, none⟩) (by simp)).trans HX.out.2.1
      have x2 := (hB.cell (p := ⟨w.heap.size, 2, none⟩) (by simp)).trans HX.out.2.2
      clear hcells hc0 hc1
      have HXY := Lib.hid hxy
      have HBw := Lib.hid hBw
      clear hxy hBw
      have g1 : w.heap.size < wr.heap.size := by omega
      have g2 : bl < wr.heap.size := by omega
      have TA : Hid True := Lib.hid trivial
      go_wp2_with (first
        | (go_at_call 89; clear TA; refine (rest_any x y a b d _ HL.out HP.out).mono ?_; rintro e w2 ⟨rfl, hB2⟩; have hB3 : Below wr.heap.size wr w2 := below_step ((Below.refl _ _).alloc (Nat.le_refl _) _) hB2; have hown2 := own_below hown hB3)
        | (at_builtin; refine wp_app_int _ rfl (.tmp 17) (.tmp 21) rfl (w.heap.size + 1) _ k _ _ rfl hown2 rfl (by omega) (by have := hB3.size; omega) ?_; intro v2 w4 hown4 hB4))
      go_roundw
      case rel => exact ⟨k + 1, by omega, by go_num, by rw [take_snoc HXY.out]; simpa using hown4, (hB.trans (hB3.mono (by omega))).trans hB4⟩
      case measure => simp [intOf]; omega
    · obtain rfl : k = ms.length := by omega
      go_wp2
      go_ret
      rw [List.take_length] at hown
      have hown5 : wr.ownsRow (w.heap.size + 1) 3 1 u5 (ms.map (rsI a b d)).length ((ms.map (rsI a b d)).map (Value.int .i64)) := by simpa using hown
      obtain ⟨A', c', rfl, hI⟩ := own_ints hown5
      exact ⟨A', c', _, rfl, hI, hBw, rfl⟩
end Go.Proofs.Ytoilbgngefleiaa

/-
  Contracts: cost, width (track).
-/
namespace Go.Proofs.Ytoilbgngefleiaa
open Go.RowKit Go.Shelf

def sumA (zs : List Int) : Int := (zs.map absI).sum
def mostA (zs : List Int) : Int := (zs.map absI).foldl max 0
theorem sumA_snoc {zs : List Int} {k : Nat} {z : Int} (h : zs[k]? = some z) : sumA (zs.take (k + 1)) = sumA (zs.take k) + absI z := by
  simp [sumA, take_snoc h]
theorem mostA_snoc {zs : List Int} {k : Nat} {z : Int} (h : zs[k]? = some z) : mostA (zs.take (k + 1)) = max (mostA (zs.take k)) (absI z) := by
  simp [mostA, take_snoc h]
theorem abs_bd {z : Int} (h : -1200000000 ≤ z ∧ z ≤ 1200000000) : 0 ≤ absI z ∧ absI z ≤ 1200000000 := by unfold absI; omega
/-- The cost of a line, times D, and its width, times D. -/
def costI (ms : List (Int × Int)) (a b d : Int) : Int := sumA (ms.map (rsI a b d))
def widI (ms : List (Int × Int)) (a b d : Int) : Int := mostA (ms.map (rsI a b d))
theorem rs_all {ms : List (Int × Int)} {a b d : Int} (hL : LnB a b d) (hv : ms.all ptB = true) : ∀ z ∈ ms.map (rsI a b d), -1200000000 ≤ z ∧ z ≤ 1200000000 := by
  intro z hz
  obtain ⟨q, hq, rfl⟩ := List.mem_map.1 hz
  exact (rs_box hL (by simp only [List.all_eq_true] at hv; exact hv q hq)).2.2
theorem sumA_bd (zs : List Int) (h : ∀ z ∈ zs, -1200000000 ≤ z ∧ z ≤ 1200000000) : 0 ≤ sumA zs ∧ sumA zs ≤ 1200000000 * zs.length := by
  induction zs with
  | nil => simp [sumA]
  | cons z t ih =>
    have h1 := ih (fun x hx => h x (List.mem_cons_of_mem _ hx))
    have h2 := abs_bd (h z (by simp))
    have h3 : sumA (z :: t) = absI z + sumA t := by simp [sumA]
    rw [h3]; simp only [List.length_cons]; omega

theorem blk_frozen {w : World} {g : Nat} {t : TypeId} {cs : Array Value} (h : w.heap[g]? = some (.cells cs t (0, 0))) (i : Nat) : w.frozen? ⟨g, i, none⟩ = false := by
  simp [World.frozen?, h]

theorem fold_max : ∀ (l : List Int) (x C : Int), x ≤ l.foldl max x ∧ (x ≤ C → (∀ z ∈ l, z ≤ C) → l.foldl max x ≤ C)
  | [], x, C => ⟨Int.le_refl _, fun h _ => h⟩
  | z :: t, x, C => by
    have h := fold_max t (max x z) C
    refine ⟨by have := h.1; simp only [List.foldl_cons]; omega, fun h1 h2 => ?_⟩
    have hz := h2 z (by simp)
    exact h.2 (by omega) (fun u hu => h2 u (List.mem_cons_of_mem _ hu))
theorem mostA_bd (zs : List Int) (h : ∀ z ∈ zs, -1200000000 ≤ z ∧ z ≤ 1200000000) : 0 ≤ mostA zs ∧ mostA zs ≤ 1200000000 * zs.length := by
  have h1 := fold_max (zs.map absI) 0 1200000000
  refine ⟨h1.1, ?_⟩
  cases zs with
  | nil => simp [mostA]
  | cons z t =>
    have := h1.2 (by omega) (fun u hu => by obtain ⟨v, hv, rfl⟩ := List.mem_map.1 hu; exact (abs_bd (h v hv)).2)
    show (List.map absI (z :: t)).foldl max 0 ≤ _
    simp only [List.length_cons]; omega

set_option maxRecDepth 100000 in
set_option maxHeartbeats 1000000 in
theorem cost_any (ms : List (Int × Int)) (A : Option Addr) (c : Nat) (a b d : Int) (w : World) (h : Marks w A ms) (hl : ms.length ≤ 1000) (hL : LnB a b d) (hv : ms.all ptB = true) :
    Calls Try.prog 66 #[.slice A ms.length c, .agg #[.int .i64 a, .int .i64 b, .int .i64 d]] w fun e w' => e = .returned (.agg #[.int .i64 (lowN (costI ms a b d) d), .int .i64 (lowD (costI ms a b d) d)]) ∧ Below w.heap.size w w' := by
  have H := Lib.hid h
  have HL := Lib.hid hL
  have HV := Lib.hid hv
  have hd := hL.2.2
  clear h hL hv
  go_enter Try.func66, Try.ntmps66
  go_wp2_with (go_at_call 58; refine (rests_any ms A c a b d _ (H.out.below (by repeat (first | with_reducible exact Below.refl _ _ | with_reducible assumption | refine below_drewN ?_ _ | with_reducible refine Below.drew ?_ | (refine Below.setCell ?_ (by first | (simp; done) | (simp; omega) | omega) _) | (refine Below.alloc ?_ (by first | (simp; done) | (simp; omega) | omega) _)))) hl HL.out HV.out).mono ?_; rintro e w2 ⟨A2, c2, zs, rfl, hO, hB2, hzs⟩)
  have HZL : Hid (zs.length = ms.length) := Lib.hid (by rw [hzs.out]; simp)
  have HZ1 : zs.length ≤ 1000 := by rw [HZL.out]; exact hl
  have HZB : Hid (∀ z ∈ zs, -1200000000 ≤ z ∧ z ≤ 1200000000) := Lib.hid (by rw [hzs.out]; exact rs_all HL.out HV.out)
  obtain ⟨W0, hW0⟩ : ∃ W0, W0 = (w.alloc (.cells #[.int .i64 a, .int .i64 b, .int .i64 d] 24)).alloc (.cells #[.int .i64 0, .int .i64 0] 34) := ⟨_, rfl⟩
  rw [← hW0] at hB2
  have hs0 : W0.heap.size = w.heap.size + 2 := by rw [hW0]; simp
  have hBW : Below w.heap.size w W0 := by rw [hW0]; exact ((Below.refl _ _).alloc (Nat.le_refl _) _).alloc (by simp) _
  have x2 : W0.cell? ⟨w.heap.size, 2, none⟩ = some (.int .i64 d) := by rw [hW0]; go_simp
  have hb2 : Below (w.heap.size + 2) W0 w2 := by rw [← hs0]; exact hB2
  have k0 : W0.heap[w.heap.size + 1]? = some (.cells #[.int .i64 0, .int .i64 0] 34 (0, 0)) := by rw [hW0]; simpa using heap_alloc_new (w.alloc (.cells #[.int .i64 a, .int .i64 b, .int .i64 d] 24)) (.cells #[.int .i64 0, .int .i64 0] 34)
  have k2 := (hb2.block (w.heap.size + 1) (by omega)).trans k0
  have HK := Lib.hid k2
  have HX2 := Lib.hid ((hb2.cell (p := ⟨w.heap.size, 2, none⟩) (by simp)).trans x2)
  have HB2 : Hid (Below w.heap.size w w2) := Lib.hid (hBW.trans (hb2.mono (by omega)))
  have hw2 : w.heap.size + 2 ≤ w2.heap.size := by have := hb2.size; omega
  have HO := Lib.hid hO
  clear hb2 hBW hs0 x2 hB2 hW0 hO k0 k2
  go_loopw [5, 12] (fun v i wr => ∃ k n : Nat, k ≤ zs.length ∧ i = .int .i64 k ∧ v = .int .i64 (sumA (zs.take k)) ∧ wr = w2.drewN n) (fun _ i _ => zs.length - (intOf i).toNat)
  case atStart => exact ⟨0, 0, Nat.zero_le _, rfl, rfl, rfl⟩
  case round =>
    obtain ⟨k, n, hk, rfl, rfl, rfl⟩ := hrel
    have hsb := sumA_bd (zs.take k) (fun z hz => HZB.out z (List.mem_of_mem_take hz))
    rw [List.length_take, Nat.min_eq_left hk] at hsb
    obtain ⟨s, hs⟩ : ∃ s, s = sumA (zs.take k) := ⟨_, rfl⟩
    rw [← hs] at hsb
    simp only [← hs]
    have HS := Lib.hid hs
    clear hs
    by_cases hlt : k < zs.length
    · obtain ⟨ad, z, rfl, hbk, hz, hc⟩ := HO.out.ints.get hlt
      have hzb := HZB.out z (List.mem_of_getElem? hz.out)
      have hab := abs_bd hzb
      obtain ⟨y, hy⟩ : ∃ y, y = absI z := ⟨_, rfl⟩
      rw [← hy] at hab
      have HY := Lib.hid hy
      clear hy
      go_wp2_with (go_at_call 90; refine (size_any z _ (by omega) (by omega)).mono ?_; rintro e w3 ⟨rfl, rfl⟩; rw [← HY.out])
      all_goals
        go_roundw
        case rel => exact ⟨k + 1, _, by omega, by go_num, by rw [sumA_snoc hz.out, ← HS.out, ← HY.out], rfl⟩
        case measure => simp [intOf]; omega
    · obtain rfl : k = zs.length := by omega
      rw [List.take_length] at HS
      have HC : Hid (costI ms a b d = s) := Lib.hid (by rw [HS.out, hzs.out]; rfl)
      have hx2 := HX2.out
      go_wp2_with (go_at_call 59; refine (lowest_any s d _ (by omega) (by omega) (by omega) (by omega)).mono ?_; rintro e w4 ⟨rfl, hB4⟩; have hB4 : Below w2.heap.size w2 w4 := (below_drewN (Below.refl _ _) _).trans hB4; have k4 := (hB4.block (w.heap.size + 1) (by omega)).trans HK.out; have d0 := cell_of_row w4 _ 0 _ _ _ k4; have d1 := cell_of_row w4 _ 1 _ _ _ k4; have e0 := blk_frozen k4 0; have e1 := blk_frozen k4 1; have hW := below_step HB2.out hB4; clear k4)
      have hw4 : w.heap.size + 2 ≤ w4.heap.size := by have := hB4.size; omega
      exact bodyPost_ret (v := .agg #[.int .i64 (lowN (costI ms a b d) d), .int .i64 (lowD (costI ms a b d) d)]) (by rw [HC.out]; simp [results, Try.results66, go_sem, d0, d1]) rfl ⟨rfl, by refine Below.setCell (Below.setCell hW ?_ _) ?_ _ <;> simp⟩

set_option maxRecDepth 100000 in
set_option maxHeartbeats 1000000 in
theorem width_any (ms : List (Int × Int)) (A : Option Addr) (c : Nat) (a b d : Int) (w : World) (h : Marks w A ms) (hl : ms.length ≤ 1000) (hL : LnB a b d) (hv : ms.all ptB = true) :
    Calls Try.prog 68 #[.slice A ms.length c, .agg #[.int .i64 a, .int .i64 b, .int .i64 d]] w fun e w' => e = .returned (.agg #[.int .i64 (lowN (widI ms a b d) d), .int .i64 (lowD (widI ms a b d) d)]) ∧ Below w.heap.size w w' := by
  have H := Lib.hid h
  have HL := Lib.hid hL
  have HV := Lib.hid hv
  have hd := hL.2.2
  clear h hL hv
  go_enter Try.func68, Try.ntmps68
  go_wp2_with (go_at_call 58; refine (rests_any ms A c a b d _ (H.out.below (by repeat (first | with_reducible exact Below.refl _ _ | with_reducible assumption | refine below_drewN ?_ _ | with_reducible refine Below.drew ?_ | (refine Below.setCell ?_ (by first | (simp; done) | (simp; omega) | omega) _) | (refine Below.alloc ?_ (by first | (simp; done) | (simp; omega) | omega) _)))) hl HL.out HV.out).mono ?_; rintro e w2 ⟨A2, c2, zs, rfl, hO, hB2, hzs⟩)
  have HZL : Hid (zs.length = ms.length) := Lib.hid (by rw [hzs.out]; simp)
  have HZ1 : zs.length ≤ 1000 := by rw [HZL.out]; exact hl
  have HZB : Hid (∀ z ∈ zs, -1200000000 ≤ z ∧ z ≤ 1200000000) := Lib.hid (by rw [hzs.out]; exact rs_all HL.out HV.out)
  obtain ⟨W0, hW0⟩ : ∃ W0, W0 = (w.alloc (.cells #[.int .i64 a, .int .i64 b, .int .i64 d] 24)).alloc (.cells #[.int .i64 0, .int .i64 0] 34) := ⟨_, rfl⟩
  rw [← hW0] at hB2
  have hs0 : W0.heap.size = w.heap.size + 2 := by rw [hW0]; simp
  have hBW : Below w.heap.size w W0 := by rw [hW0]; exact ((Below.refl _ _).alloc (Nat.le_refl _) _).alloc (by simp) _
  have x2 : W0.cell? ⟨w.heap.size, 2, none⟩ = some (.int .i64 d) := by rw [hW0]; go_simp
  have hb2 : Below (w.heap.size + 2) W0 w2 := by rw [← hs0]; exact hB2
  have k0 : W0.heap[w.heap.size + 1]? = some (.cells #[.int .i64 0, .int .i64 0] 34 (0, 0)) := by rw [hW0]; simpa using heap_alloc_new (w.alloc (.cells #[.int .i64 a, .int .i64 b, .int .i64 d] 24)) (.cells #[.int .i64 0, .int .i64 0] 34)
  have k2 := (hb2.block (w.heap.size + 1) (by omega)).trans k0
  have HK := Lib.hid k2
  have HX2 := Lib.hid ((hb2.cell (p := ⟨w.heap.size, 2, none⟩) (by simp)).trans x2)
  have HB2 : Hid (Below w.heap.size w w2) := Lib.hid (hBW.trans (hb2.mono (by omega)))
  have hw2 : w.heap.size + 2 ≤ w2.heap.size := by have := hb2.size; omega
  have HO := Lib.hid hO
  clear hb2 hBW hs0 x2 hB2 hW0 hO k0 k2
  go_loopw [5, 12] (fun v i wr => ∃ k n : Nat, k ≤ zs.length ∧ i = .int .i64 k ∧ v = .int .i64 (mostA (zs.take k)) ∧ wr = w2.drewN n) (fun _ i _ => zs.length - (intOf i).toNat)
  case atStart => exact ⟨0, 0, Nat.zero_le _, rfl, rfl, rfl⟩
  case round =>
    obtain ⟨k, n, hk, rfl, rfl, rfl⟩ := hrel
    have hsb := mostA_bd (zs.take k) (fun z hz => HZB.out z (List.mem_of_mem_take hz))
    rw [List.length_take, Nat.min_eq_left hk] at hsb
    obtain ⟨s, hs⟩ : ∃ s, s = mostA (zs.take k) := ⟨_, rfl⟩
    rw [← hs] at hsb
    simp only [← hs]
    have HS := Lib.hid hs
    clear hs
    by_cases hlt : k < zs.length
    · obtain ⟨ad, z, rfl, hbk, hz, hc⟩ := HO.out.ints.get hlt
      have hzb := HZB.out z (List.mem_of_getElem? hz.out)
      have hab := abs_bd hzb
      obtain ⟨y, hy⟩ : ∃ y, y = absI z := ⟨_, rfl⟩
      rw [← hy] at hab
      have HY := Lib.hid hy
      clear hy
      go_wp2_with (go_at_call 90; refine (size_any z _ (by omega) (by omega)).mono ?_; rintro e w3 ⟨rfl, rfl⟩; rw [← HY.out])
      all_goals
        go_roundw
        case rel => exact ⟨k + 1, _, by omega, by go_num, by rw [mostA_snoc hz.out, ← HS.out, ← HY.out] <;> first | rfl | (congr 1; omega), rfl⟩
        case measure => simp [intOf]; omega
    · obtain rfl : k = zs.length := by omega
      rw [List.take_length] at HS
      have HC : Hid (widI ms a b d = s) := Lib.hid (by rw [HS.out, hzs.out]; rfl)
      have hx2 := HX2.out
      go_wp2_with (go_at_call 59; refine (lowest_any s d _ (by omega) (by omega) (by omega) (by omega)).mono ?_; rintro e w4 ⟨rfl, hB4⟩; have hB4 : Below w2.heap.size w2 w4 := (below_drewN (Below.refl _ _) _).trans hB4; have k4 := (hB4.block (w.heap.size + 1) (by omega)).trans HK.out; have d0 := cell_of_row w4 _ 0 _ _ _ k4; have d1 := cell_of_row w4 _ 1 _ _ _ k4; have e0 := blk_frozen k4 0; have e1 := blk_frozen k4 1; have hW := below_step HB2.out hB4; clear k4)
      have hw4 : w.heap.size + 2 ≤ w4.heap.size := by have := hB4.size; omega
      exact bodyPost_ret (v := .agg #[.int .i64 (lowN (widI ms a b d) d), .int .i64 (lowD (widI ms a b d) d)]) (by rw [HC.out]; simp [results, Try.results68, go_sem, d0, d1]) rfl ⟨rfl, by refine Below.setCell (Below.setCell hW ?_ _) ?_ _ <;> simp⟩

end Go.Proofs.Ytoilbgngefleiaa

/-
  Contracts: cmp.Compare at ints, compare, on (track).
-/
namespace Go.Proofs.Ytoilbgngefleiaa
open Go.RowKit Go.Shelf

/-- What cmp.Compare says. -/
def cmpV (x y : Int) : Int := if x < y then -1 else if y < x then 1 else 0
set_option maxRecDepth 100000 in
theorem isNaN_any (x : Int) (w : World) :
    Calls Try.prog 118 #[.int .i64 x] w fun e w' => e = .returned (.bool false) ∧ w = w' := by
  go_enter Try.func118, Try.ntmps118
  go_wp2
  go_ret
  exact ⟨by simp, rfl⟩
set_option maxRecDepth 100000 in
theorem cmpInt_any (x y : Int) (w : World) :
    Calls Try.prog 100 #[.int .i64 x, .int .i64 y] w fun e w' => e = .returned (.int .i64 (cmpV x y)) ∧ w = w' := by
  go_enter Try.func100, Try.ntmps100
  go_wp2_with (go_at_call 118; refine (isNaN_any _ _).mono ?_; rintro e w' ⟨rfl, rfl⟩)
  all_goals
    go_ret
    exact ⟨ret_int (by unfold cmpV; (repeat' split) <;> first | rfl | omega), rfl⟩
set_option maxRecDepth 100000 in
theorem compare_any (n d p q : Int) (w : World) (h1 : -9223372036854775808 ≤ n * q ∧ n * q ≤ 9223372036854775807) (h2 : -9223372036854775808 ≤ p * d ∧ p * d ≤ 9223372036854775807) :
    Calls Try.prog 83 #[.agg #[.int .i64 n, .int .i64 d], .agg #[.int .i64 p, .int .i64 q]] w fun e w' => e = .returned (.int .i64 (cmpV (n * q) (p * d))) ∧ Below w.heap.size w w' := by
  go_enter Try.func83, Try.ntmps83
  go_wp2_with (go_at_call 100; refine (cmpInt_any _ _ _).mono ?_; rintro e w' ⟨rfl, rfl⟩)
  go_ret
  exact ⟨rfl, (by repeat (first | with_reducible exact Below.refl _ _ | with_reducible assumption | refine below_drewN ?_ _ | with_reducible refine Below.drew ?_ | (refine Below.setCell ?_ (by first | (simp; done) | (simp; omega) | omega) _) | (refine Below.alloc ?_ (by first | (simp; done) | (simp; omega) | omega) _)))⟩

/-- The indexes at which a list is 0. -/
def zeroL (zs : List Int) (k : Nat) : List Int := ((List.range k).filter (fun j => decide (zs.getD j 0 = 0))).map Int.ofNat
theorem zeroL_yes {zs : List Int} {k : Nat} (h : zs[k]? = some 0) : zeroL zs (k + 1) = zeroL zs k ++ [(k : Int)] := by
  simp [zeroL, List.range_succ, h]
theorem zeroL_no {zs : List Int} {k : Nat} {z : Int} (h : zs[k]? = some z) (hz : z ≠ 0) : zeroL zs (k + 1) = zeroL zs k := by
  simp [zeroL, List.range_succ, h, hz]
theorem zeroL_len (zs : List Int) (k : Nat) : (zeroL zs k).length ≤ k := by
  have := List.length_filter_le (fun j => decide (zs.getD j 0 = 0)) (List.range k)
  simpa [zeroL] using this

set_option maxRecDepth 100000 in
set_option maxHeartbeats 1000000 in
theorem on_any (ms : List (Int × Int)) (A : Option Addr) (c : Nat) (a b d : Int) (w : World) (h : Marks w A ms) (hl : ms.length ≤ 1000) (hL : LnB a b d) (hv : ms.all ptB = true) :
    Calls Try.prog 69 #[.slice A ms.length c, .agg #[.int .i64 a, .int .i64 b, .int .i64 d]] w fun e w' => ∃ (A' : Option Addr) (c' : Nat) (ys : List Int), e = .returned (.slice A' ys.length c') ∧ Out w' A' c' ys ∧ Below w.heap.size w w' ∧ Hid (ys = zeroL (ms.map (rsI a b d)) ms.length) := by
  have H := Lib.hid h
  have HL := Lib.hid hL
  have HV := Lib.hid hv
  clear h hL hv
  go_enter Try.func69, Try.ntmps69
  go_wp2_with (go_at_call 58; refine (rests_any ms A c a b d _ (H.out.below (by repeat (first | with_reducible exact Below.refl _ _ | with_reducible assumption | refine below_drewN ?_ _ | with_reducible refine Below.drew ?_ | (refine Below.setCell ?_ (by first | (simp; done) | (simp; omega) | omega) _) | (refine Below.alloc ?_ (by first | (simp; done) | (simp; omega) | omega) _)))) hl HL.out HV.out).mono ?_; rintro e w2 ⟨A2, c2, zs, rfl, hO, hB2, hzs⟩)
  have HZL : Hid (zs.length = ms.length) := Lib.hid (by rw [hzs.out]; simp)
  have HZ1 : zs.length ≤ 1000 := by rw [HZL.out]; exact hl
  have HB2 : Hid (Below w.heap.size w w2) := Lib.hid (below_step (by repeat (first | with_reducible exact Below.refl _ _ | with_reducible assumption | refine below_drewN ?_ _ | with_reducible refine Below.drew ?_ | (refine Below.setCell ?_ (by first | (simp; done) | (simp; omega) | omega) _) | (refine Below.alloc ?_ (by first | (simp; done) | (simp; omega) | omega) _))) hB2)
  have hw2 : w.heap.size ≤ w2.heap.size := HB2.out.size
  have HO := Lib.hid hO
  clear hB2 hO
  go_loopw [5, 12] (fun v i wr => ∃ k m : Nat, k ≤ zs.length ∧ i = .int .i64 k ∧ Hid (m = (zeroL zs k).length) ∧ m ≤ k ∧ wr.ownsRow w2.heap.size 3 1 v m ((zeroL zs k).map (Value.int .i64)) ∧ Below w2.heap.size w2 wr) (fun _ i _ => zs.length - (intOf i).toNat)
  case atStart => exact ⟨0, 0, Nat.zero_le _, rfl, rfl, Nat.le_refl _, World.ownsRow_nil _ _ _ _, Below.refl _ _⟩
  case round =>
    obtain ⟨k, m, hk, rfl, hm, hmk, hown, hB⟩ := hrel
    by_cases hlt : k < zs.length
    · obtain ⟨ad, z, rfl, hbk, hz, hc⟩ := HO.out.ints.get hlt
      have hcr := (hB.cell (p := ad.add k) (by rw [block_of_add]; exact hbk)).trans hc
      clear hc
      by_cases h0 : z = 0
      · subst h0
        have HN := Lib.hid (zeroL_yes hz.out)
        go_wp2_with (at_builtin; refine wp_app_int _ rfl (.tmp 19) (.tmp 21) rfl w2.heap.size _ m _ _ rfl hown rfl (by omega) hB.size ?_; intro v2 w4 hown4 hB4)
        go_roundw
        case rel => exact ⟨k + 1, m + 1, by omega, by go_num, Lib.hid (by rw [HN.out, List.length_append, ← hm.out]; rfl), by omega, by rw [HN.out]; exact hown4, hB.trans hB4⟩
        case measure => simp [intOf]; omega
      · have t0 : (z == 0) = false := by simpa using h0
        have HN := Lib.hid (zeroL_no hz.out h0)
        go_wp2
        go_roundw
        case rel => exact ⟨k + 1, m, by omega, by go_num, Lib.hid (by rw [HN.out, ← hm.out]), by omega, by rw [HN.out]; exact hown, hB⟩
        case measure => simp [intOf]; omega
    · obtain rfl : k = zs.length := by omega
      go_wp2
      go_ret
      obtain rfl := hm.out
      obtain ⟨A', c', rfl, hI⟩ := own_ints hown
      exact ⟨A', c', _, rfl, hI, HB2.out.trans (hB.mono hw2), Lib.hid (by rw [HZL.out, hzs.out])⟩
end Go.Proofs.Ytoilbgngefleiaa

/-
  A region that draws its order, in a round of a range over a function: what only reads is walked once; nothing of the program.
-/
namespace Go.Proofs.Ytoilbgngefleiaa
open Go Go.RowKit

section
variable {F : Fence} {n : Nat} {P : Program} {l : Nat}
theorem uponIn_inRound {o : Oper} {a : Act} {next : Act → World → Prop} {Q : Exit → Act → World → Prop} {r : Result Next} (h : o.uponIn F n P a next Q r) : o.uponIn (F.inRound l) n P a next Q r := by
  cases r with
  | ok v w => cases v <;> exact h
  | halt v w => cases v <;> exact h
theorem operIn_inRound {o : Oper} {a : Act} {w : World} {next : Act → World → Prop} {Q : Exit → Act → World → Prop} (hro : F.round = none) (hd : ∀ c, o.op ≠ .defer c) (h : o.wpIn F n P a w next Q) : o.wpIn (F.inRound l) n P a w next Q := by
  refine ⟨h.1, ?_⟩
  have h2 := h.2
  rw [hro, Oper.semAt_none] at h2
  rw [Fence.inRound_round, Oper.semAt_eq _ _ _ hd]
  exact uponIn_inRound h2
/-- None of some operations is a defer statement. -/
def noDefer (ops : Array Oper) : Bool := ops.all fun o => match o.op with | .defer _ => false | _ => true
theorem noDefer_at {ops : Array Oper} (h : noDefer ops = true) {i : Nat} {o : Oper} (ho : ops[i]? = some o) : ∀ c, o.op ≠ .defer c := by
  intro c hc
  obtain ⟨hi, e⟩ := Array.getElem?_eq_some_iff.1 ho
  have := (Array.all_eq_true.1 h) i hi
  rw [e, hc] at this
  cases this
theorem opIn_inRound {ops : Array Oper} {Q : Exit → Act → World → Prop} {i : Nat} {K K' : Act → World → Prop} {a : Act} {w : World} (hro : F.round = none) (hd : noDefer ops = true) (hK : ∀ a w, K a w → K' a w) (h : wpOpIn F n P ops Q i K a w) : wpOpIn (F.inRound l) n P ops Q i K' a w := by
  unfold wpOpIn at h ⊢
  cases ho : ops[i]? with
  | none => rw [ho] at h; exact hK _ _ h
  | some o =>
    rw [ho] at h
    dsimp only at h ⊢
    split
    · rename_i hw
      rw [if_pos hw] at h
      exact operIn_inRound hro (noDefer_at hd ho) (Oper.wpIn_mono hK h)
    · rename_i hw
      rw [if_neg hw] at h
      exact ⟨h.1, hK _ _ h.2⟩
theorem anyIn_inRound {md : Region.Mode} {ops : Array Oper} {Q : Exit → Act → World → Prop} (hro : F.round = none) (hd : noDefer ops = true) : ∀ (fuel : Nat) (listed : Array Bool) (a : Act) (w : World), wpAnyIn F n P md ops Q fuel listed a w → wpAnyIn (F.inRound l) n P md ops Q fuel listed a w
  | 0, _, _, _, h => h
  | fuel + 1, _, _, _, h => ⟨h.1, fun i hi => opIn_inRound hro hd (fun a w => anyIn_inRound hro hd fuel _ a w) (h.2 i hi)⟩
theorem quiet_inRound {id : Nat} {Q : Exit → Act → World → Prop} {a : Act} {w : World} {L : List Oper} (hro : F.round = none) (hm : P.follows .mixedOrders = true) (hB : Region.lexB .any L.toArray = true) (hd : noDefer L.toArray = true)
    (h : wpQuietIn F n P L.toArray (fun w' => ∃ n, w' = w.drewN n) (fun a' => ∀ w', (∃ n, w' = w.drewN n) → Q .normal a' w') L a) : (Code.region id L.toArray true).wpIn (F.inRound l) n P Q a w := by
  simp only [Region.lexB, Bool.and_eq_true] at hB
  refine wpIn_region_any hm (anyIn_inRound hro hd _ _ _ _ (wpAnyIn_of_quiet (C := fun w' => ∃ n, w' = w.drewN n) (Q := fun a' => ∀ w', (∃ n, w' = w.drewN n) → Q .normal a' w') hro (fun _ w' hw' h => h w' hw') _ _ _ _ ⟨1, rfl⟩ ?_))
  have := wpAnyQIn_lex (F := F) (n := n) (C := fun w' => ∃ n, w' = w.drewN n) (md := .any) hB.1 L 0 (Array.replicate L.toArray.size false) a (by simp) (by simpa using hB.2) h
  simpa using this
end
end Go.Proofs.Ytoilbgngefleiaa

/-
  Contract: through (track).
-/
namespace Go.Proofs.Ytoilbgngefleiaa
open Go.RowKit Go.Shelf

/-- The line through two points: A, B and D; the first point has the lesser X. -/
def upA (p q : Int × Int) : Int := lowN (q.2 - p.2) (q.1 - p.1)
def upD (p q : Int × Int) : Int := lowD (q.2 - p.2) (q.1 - p.1)
def upB (p q : Int × Int) : Int := p.2 * upD p q - p.1 * upA p q
def thA (p q : Int × Int) : Int := if q.1 < p.1 then upA q p else upA p q
def thB (p q : Int × Int) : Int := if q.1 < p.1 then upB q p else upB p q
def thD (p q : Int × Int) : Int := if q.1 < p.1 then upD q p else upD p q
theorem lowN_abs {n d M : Int} (hd : 0 < d) (h0 : -M ≤ n) (h1 : n ≤ M) : -M ≤ lowN n d ∧ lowN n d ≤ M := by
  have hg := gcd_pos (n := n) hd
  unfold lowN
  generalize (Int.gcd n d : Int) = g at hg
  constructor
  · refine (Int.le_ediv_iff_mul_le hg).2 ?_
    have : 0 ≤ M * (g - 1) := Int.mul_nonneg (by omega) (by omega)
    have e : -M * g = -M - M * (g - 1) := by grind
    omega
  · refine Int.le_of_lt_add_one ((Int.ediv_lt_iff_lt_mul hg).2 ?_)
    have : 0 ≤ M * (g - 1) := Int.mul_nonneg (by omega) (by omega)
    have e : (M + 1) * g = M + g + M * (g - 1) := by grind
    omega
theorem up_bd {p q : Int × Int} (hp : ptB p = true) (hq : ptB q = true) (h : p.1 < q.1) : (-2000 ≤ upA p q ∧ upA p q ≤ 2000) ∧ (1 ≤ upD p q ∧ upD p q ≤ 200) ∧ (-200000 ≤ p.2 * upD p q ∧ p.2 * upD p q ≤ 200000) ∧ (-200000 ≤ p.1 * upA p q ∧ p.1 * upA p q ≤ 200000) := by
  obtain ⟨⟨a0, a1⟩, a2, a3⟩ := pt_parts hp
  obtain ⟨⟨b0, b1⟩, b2, b3⟩ := pt_parts hq
  have h1 := lowN_abs (n := q.2 - p.2) (d := q.1 - p.1) (M := 2000) (by omega) (by omega) (by omega)
  have h2 := lowD_bd (n := q.2 - p.2) (d := q.1 - p.1) (by omega)
  have h3 : (1 ≤ upD p q ∧ upD p q ≤ 200) := by unfold upD; omega
  have h4 := mulBox (X := 1000) (Y := 200) a2 a3 (show -200 ≤ upD p q by omega) h3.2
  have h5 := mulBox (X := 100) (Y := 2000) a0 a1 h1.1 h1.2
  exact ⟨h1, h3, by omega, by unfold upA; omega⟩

set_option maxRecDepth 100000 in
set_option maxHeartbeats 1000000 in
theorem through_any (x y u v : Int) (w : World) (hp : ptB (x, y) = true) (hq : ptB (u, v) = true) (hne : x ≠ u) :
    Calls Try.prog 81 #[.agg #[.int .i64 x, .int .i64 y], .agg #[.int .i64 u, .int .i64 v]] w fun e w' => e = .returned (.agg #[.int .i64 (thA (x, y) (u, v)), .int .i64 (thB (x, y) (u, v)), .int .i64 (thD (x, y) (u, v))]) ∧ Below w.heap.size w w' := by
  have b1 := pt_parts hp
  have b2 := pt_parts hq
  simp only at b1 b2
  by_cases hlt : u < x
  · have t1 : decide (u < x) = true := decide_eq_true hlt
    have hxu : u < x := by omega
    have hb := up_bd hq hp hxu
    obtain ⟨n, hn⟩ : ∃ n, n = upA (u, v) (x, y) := ⟨_, rfl⟩
    obtain ⟨d, hd⟩ : ∃ d, d = upD (u, v) (x, y) := ⟨_, rfl⟩
    rw [← hn, ← hd] at hb
    simp only at hb
    have HN : Hid (thA (x, y) (u, v) = n ∧ thB (x, y) (u, v) = v * d - u * n ∧ thD (x, y) (u, v) = d) := Lib.hid ⟨by rw [thA, if_pos hlt, hn], by rw [thB, if_pos hlt, upB, ← hn, ← hd], by rw [thD, if_pos hlt, hd]⟩
    have HM : Hid (lowN (y - v) (x - u) = n ∧ lowD (y - v) (x - u) = d) := Lib.hid ⟨hn.symm, hd.symm⟩
    clear hn hd
    go_enter Try.func81, Try.ntmps81
    obtain ⟨W0, hW0⟩ : ∃ W0, W0 = (((w.alloc (.cells #[.int .i64 u, .int .i64 v] 54)).alloc (.cells #[.int .i64 x, .int .i64 y] 54)).alloc (.cells #[.int .i64 0, .int .i64 0, .int .i64 0] 24)) := ⟨_, rfl⟩
    have hs0 : W0.heap.size = w.heap.size + 3 := by rw [hW0]; simp
    have hBW : Hid (Below w.heap.size w W0) := Lib.hid (by rw [hW0]; exact (((Below.refl _ _).alloc (Nat.le_refl _) _).alloc (by simp) _).alloc (by simp <;> omega) _)
    have HC : Hid (W0.cell? ⟨w.heap.size, 0, none⟩ = some (.int .i64 u) ∧ W0.cell? ⟨w.heap.size, 1, none⟩ = some (.int .i64 v)) := Lib.hid (by rw [hW0]; constructor <;> go_simp)
    have HK : Hid (W0.heap[w.heap.size + 1 + 1]? = some (.cells #[.int .i64 0, .int .i64 0, .int .i64 0] 24 (0, 0))) := Lib.hid (by rw [hW0]; simpa using heap_alloc_new ((w.alloc (.cells #[.int .i64 u, .int .i64 v] 54)).alloc (.cells #[.int .i64 x, .int .i64 y] 54)) (.cells #[.int .i64 0, .int .i64 0, .int .i64 0] 24))
    go_wp2_with (go_at_call 59; refine (lowest_any (y - v) (x - u) _ (by omega) (by omega) (by omega) (by omega)).mono ?_; rintro e w4 ⟨rfl, hB4⟩; rw [HM.out.1, HM.out.2]; rw [← hW0] at hB4; have hs4 := hB4.size; have z4 : w.heap.size + 3 ≤ w4.heap.size := (by omega); have z0 : w.heap.size < w4.heap.size := (by omega); have z2 : w.heap.size + 1 + 1 < w4.heap.size := (by omega); have c0 := (hB4.cell (p := ⟨w.heap.size, 0, none⟩) (show w.heap.size < _ by omega)).trans HC.out.1; have c1 := (hB4.cell (p := ⟨w.heap.size, 1, none⟩) (show w.heap.size < _ by omega)).trans HC.out.2; have k4 := (hB4.block (w.heap.size + 1 + 1) (by omega)).trans HK.out; have d0 := cell_of_row w4 _ 0 _ _ _ k4; have d1 := cell_of_row w4 _ 1 _ _ _ k4; have d2 := cell_of_row w4 _ 2 _ _ _ k4; have e0 := blk_frozen k4 0; have e1 := blk_frozen k4 1; have e2 := blk_frozen k4 2; have hW := below_step hBW.out hB4; clear k4 hB4)
    exact bodyPost_ret (v := .agg #[.int .i64 (thA (x, y) (u, v)), .int .i64 (thB (x, y) (u, v)), .int .i64 (thD (x, y) (u, v))]) (by rw [HN.out.1, HN.out.2.1, HN.out.2.2]; simp [results, Try.results81, go_sem, d0, d1, d2, z2]) rfl ⟨rfl, by refine Below.alloc (Below.setCell (Below.setCell (Below.setCell hW ?_ _) ?_ _) ?_ _) ?_ _ <;> simp <;> omega⟩
  · have t1 : decide (u < x) = false := decide_eq_false hlt
    have hxu : x < u := by omega
    have hb := up_bd hp hq hxu
    obtain ⟨n, hn⟩ : ∃ n, n = upA (x, y) (u, v) := ⟨_, rfl⟩
    obtain ⟨d, hd⟩ : ∃ d, d = upD (x, y) (u, v) := ⟨_, rfl⟩
    rw [← hn, ← hd] at hb
    simp only at hb
    have HN : Hid (thA (x, y) (u, v) = n ∧ thB (x, y) (u, v) = y * d - x * n ∧ thD (x, y) (u, v) = d) := Lib.hid ⟨by rw [thA, if_neg hlt, hn], by rw [thB, if_neg hlt, upB, ← hn, ← hd], by rw [thD, if_neg hlt, hd]⟩
    have HM : Hid (lowN (v - y) (u - x) = n ∧ lowD (v - y) (u - x) = d) := Lib.hid ⟨hn.symm, hd.symm⟩
    clear hn hd
    go_enter Try.func81, Try.ntmps81
    obtain ⟨W0, hW0⟩ : ∃ W0, W0 = (((w.alloc (.cells #[.int .i64 x, .int .i64 y] 54)).alloc (.cells #[.int .i64 u, .int .i64 v] 54)).alloc (.cells #[.int .i64 0, .int .i64 0, .int .i64 0] 24)) := ⟨_, rfl⟩
    have hs0 : W0.heap.size = w.heap.size + 3 := by rw [hW0]; simp
    have hBW : Hid (Below w.heap.size w W0) := Lib.hid (by rw [hW0]; exact (((Below.refl _ _).alloc (Nat.le_refl _) _).alloc (by simp) _).alloc (by simp <;> omega) _)
    have HC : Hid (W0.cell? ⟨w.heap.size, 0, none⟩ = some (.int .i64 x) ∧ W0.cell? ⟨w.heap.size, 1, none⟩ = some (.int .i64 y)) := Lib.hid (by rw [hW0]; constructor <;> go_simp)
    have HK : Hid (W0.heap[w.heap.size + 1 + 1]? = some (.cells #[.int .i64 0, .int .i64 0, .int .i64 0] 24 (0, 0))) := Lib.hid (by rw [hW0]; simpa using heap_alloc_new ((w.alloc (.cells #[.int .i64 x, .int .i64 y] 54)).alloc (.cells #[.int .i64 u, .int .i64 v] 54)) (.cells #[.int .i64 0, .int .i64 0, .int .i64 0] 24))
    go_wp2_with (go_at_call 59; refine (lowest_any (v - y) (u - x) _ (by omega) (by omega) (by omega) (by omega)).mono ?_; rintro e w4 ⟨rfl, hB4⟩; rw [HM.out.1, HM.out.2]; rw [← hW0] at hB4; have hs4 := hB4.size; have z4 : w.heap.size + 3 ≤ w4.heap.size := (by omega); have z0 : w.heap.size < w4.heap.size := (by omega); have z2 : w.heap.size + 1 + 1 < w4.heap.size := (by omega); have c0 := (hB4.cell (p := ⟨w.heap.size, 0, none⟩) (show w.heap.size < _ by omega)).trans HC.out.1; have c1 := (hB4.cell (p := ⟨w.heap.size, 1, none⟩) (show w.heap.size < _ by omega)).trans HC.out.2; have k4 := (hB4.block (w.heap.size + 1 + 1) (by omega)).trans HK.out; have d0 := cell_of_row w4 _ 0 _ _ _ k4; have d1 := cell_of_row w4 _ 1 _ _ _ k4; have d2 := cell_of_row w4 _ 2 _ _ _ k4; have e0 := blk_frozen k4 0; have e1 := blk_frozen k4 1; have e2 := blk_frozen k4 2; have hW := below_step hBW.out hB4; clear k4 hB4)
    exact bodyPost_ret (v := .agg #[.int .i64 (thA (x, y) (u, v)), .int .i64 (thB (x, y) (u, v)), .int .i64 (thD (x, y) (u, v))]) (by rw [HN.out.1, HN.out.2.1, HN.out.2.2]; simp [results, Try.results81, go_sem, d0, d1, d2, z2]) rfl ⟨rfl, by refine Below.alloc (Below.setCell (Below.setCell (Below.setCell hW ?_ _) ?_ _) ?_ _) ?_ _ <;> simp <;> omega⟩
end Go.Proofs.Ytoilbgngefleiaa

/-
  Plain facts: the pairs of points with different X, in the order in which they come.
-/
namespace Go.Proofs.Ytoilbgngefleiaa
open Go.RowKit Go.Shelf

/-- The pairs whose second point is b, of some points ahead of it. -/
def pairK (b : Int × Int) (l : List (Int × Int)) : List ((Int × Int) × (Int × Int)) := (l.filter fun a => decide (a.1 ≠ b.1)).map fun a => (a, b)
def pairsL (ms : List (Int × Int)) (k : Nat) : List ((Int × Int) × (Int × Int)) := (List.range k).flatMap fun n => pairK (ms.getD n (0, 0)) (ms.take n)
theorem pairK_yes {b a : Int × Int} {l : List (Int × Int)} {i : Nat} (h : l[i]? = some a) (hne : a.1 ≠ b.1) : pairK b (l.take (i + 1)) = pairK b (l.take i) ++ [(a, b)] := by
  rw [pairK, pairK, take_snoc h, List.filter_append, List.map_append]
  simp [hne]
theorem pairK_no {b a : Int × Int} {l : List (Int × Int)} {i : Nat} (h : l[i]? = some a) (he : a.1 = b.1) : pairK b (l.take (i + 1)) = pairK b (l.take i) := by
  rw [pairK, pairK, take_snoc h, List.filter_append, List.map_append]
  simp [he]
theorem pairK_len (b : Int × Int) (l : List (Int × Int)) : (pairK b l).length ≤ l.length := by
  rw [pairK, List.length_map]
  exact List.length_filter_le _ _
theorem pairsL_succ {ms : List (Int × Int)} {k : Nat} {b : Int × Int} (h : ms[k]? = some b) : pairsL ms (k + 1) = pairsL ms k ++ pairK b (ms.take k) := by
  rw [pairsL, List.range_succ, List.flatMap_append]
  simp [pairsL, List.getD_eq_getElem?_getD, h]
theorem pairsL_len (ms : List (Int × Int)) : ∀ k, (pairsL ms k).length ≤ k * k
  | 0 => by simp [pairsL]
  | k + 1 => by
    have ih := pairsL_len ms k
    have h2 : (pairsL ms (k + 1)).length = (pairsL ms k).length + (pairK (ms.getD k (0, 0)) (ms.take k)).length := by
      rw [pairsL, List.range_succ, List.flatMap_append, List.length_append]
      simp [pairsL]
    have h3 := pairK_len (ms.getD k (0, 0)) (ms.take k)
    rw [List.length_take] at h3
    have : (k + 1) * (k + 1) = k * k + 2 * k + 1 := by grind
    omega
/-- The pairs with the k-th point behind i points are a part of all. -/
theorem pairs_pre {ms : List (Int × Int)} {k i : Nat} {b : Int × Int} (h : ms[k]? = some b) : ∃ R, pairsL ms ms.length = pairsL ms k ++ (pairK b ((ms.take k).take i) ++ R) := by
  have hk := (List.getElem?_eq_some_iff.1 h).1
  have h1 : ∀ d, ∃ R, pairsL ms (k + 1 + d) = pairsL ms (k + 1) ++ R := by
    intro d
    induction d with
    | zero => exact ⟨[], by simp⟩
    | succ d ih =>
      obtain ⟨R, hR⟩ := ih
      refine ⟨R ++ pairK (ms.getD (k + 1 + d) (0, 0)) (ms.take (k + 1 + d)), ?_⟩
      rw [← Nat.add_assoc, pairsL, List.range_succ, List.flatMap_append, ← pairsL, hR]
      simp
  obtain ⟨R, hR⟩ := h1 (ms.length - (k + 1))
  rw [show k + 1 + (ms.length - (k + 1)) = ms.length by omega, pairsL_succ h] at hR
  refine ⟨pairK b ((ms.take k).drop i) ++ R, ?_⟩
  rw [hR, List.append_assoc, ← List.append_assoc (pairK b ((ms.take k).take i))]
  congr 2
  rw [pairK, pairK, pairK, ← List.map_append, ← List.filter_append, List.take_append_drop]
theorem pairs_mem {ms : List (Int × Int)} {x : (Int × Int) × (Int × Int)} (h : x ∈ pairsL ms ms.length) : x.1 ∈ ms ∧ x.2 ∈ ms ∧ x.1.1 ≠ x.2.1 := by
  obtain ⟨n, hn, hx⟩ := List.mem_flatMap.1 h
  have hn2 := List.mem_range.1 hn
  obtain ⟨a, ha, rfl⟩ := List.mem_map.1 hx
  obtain ⟨ha1, ha2⟩ := List.mem_filter.1 ha
  refine ⟨List.mem_of_mem_take ha1, ?_, of_decide_eq_true ha2⟩
  rw [List.getD_eq_getElem?_getD, List.getElem?_eq_getElem hn2]
  exact List.getElem_mem hn2
end Go.Proofs.Ytoilbgngefleiaa

/-
  The iterator over pairs of points (track.pairs): what it hands to a loop, for every loop body that leaves what lay there before the loop, but one block, and every block of one point.
-/
namespace Go.Proofs.Ytoilbgngefleiaa
open Go Go.RowKit Go.Shelf
attribute [local go_sem] Oper.semAt_some

/-- What has come when k rounds are over: el k names what the k-th round is handed. -/
def comeK {α : Type} (el : Nat → α) (k : Nat) : List α := (List.range k).map el
theorem comeK_succ {α : Type} (el : Nat → α) (k : Nat) : comeK el (k + 1) = comeK el k ++ [el k] := by simp [comeK, List.range_succ]
theorem comeK_length {α : Type} (el : Nat → α) (k : Nat) : (comeK el k).length = k := by simp [comeK]
def encP (x : (Int × Int) × (Int × Int)) : Array Value := #[.agg #[.int .i64 x.1.1, .int .i64 x.1.2], .agg #[.int .i64 x.2.1, .int .i64 x.2.2]]
def Named {α : Type} (encs : α → Array Value) (el : Nat → α) (L : List ((Int × Int) × (Int × Int))) : Prop := ∀ m x, L[m]? = some x → encs (el m) = encP x
/-- What was there before, but one block, and each block of one point is as it was. -/
structure KeepP (n₀ gb : Nat) (W W' : World) : Prop where
  size : W.heap.size ≤ W'.heap.size
  blk : ∀ k, k < n₀ → k ≠ gb → W'.heap[k]? = W.heap[k]?
  box : ∀ (k : Nat) (cs : Array Value), n₀ ≤ k → W.heap[k]? = some (.cells cs 54 (0, 0)) → W'.heap[k]? = some (.cells cs 54 (0, 0))
theorem KeepP.old {n₀ gb : Nat} {W W' : World} (h : KeepP n₀ gb W W') (p : Addr) (h1 : p.block < n₀) (h2 : p.block ≠ gb) : W'.cell? p = W.cell? p := World.cell?_of_block (h.blk p.block h1 h2)
theorem KeepP.refl (n₀ gb : Nat) (W : World) : KeepP n₀ gb W W := ⟨Nat.le_refl _, fun _ _ _ => rfl, fun _ _ _ h => h⟩
theorem KeepP.trans {n₀ gb : Nat} {A B C : World} (h : KeepP n₀ gb A B) (k : KeepP n₀ gb B C) : KeepP n₀ gb A C :=
  ⟨Nat.le_trans h.size k.size, fun p h1 h2 => (k.blk p h1 h2).trans (h.blk p h1 h2), fun i cs hi hc => k.box i cs hi (h.box i cs hi hc)⟩
theorem KeepP.of_below {n₀ gb : Nat} {A B : World} (h : Below A.heap.size A B) (hn : n₀ ≤ A.heap.size) : KeepP n₀ gb A B :=
  ⟨h.size, fun k h1 _ => h.block k (Nat.lt_of_lt_of_le h1 hn), fun i _ _ hc => (h.block i (Array.getElem?_eq_some_iff.1 hc).1).trans hc⟩
theorem pair_at {ms : List (Int × Int)} {k i : Nat} {a b : Int × Int} (hb : ms[k]? = some b) (ha : (ms.take k)[i]? = some a) (hne : a.1 ≠ b.1) :
    (pairsL ms ms.length)[(pairsL ms k ++ pairK b ((ms.take k).take i)).length]? = some (a, b) := by
  obtain ⟨R, hR⟩ := pairs_pre (i := i + 1) hb
  rw [pairK_yes ha hne] at hR
  rw [hR, ← List.append_assoc, ← List.append_assoc, List.append_assoc (pairsL ms k ++ _), List.getElem?_append_right (Nat.le_refl _)]
  simp
theorem pairs_lt {ms : List (Int × Int)} {k i : Nat} {a b : Int × Int} (hb : ms[k]? = some b) (ha : (ms.take k)[i]? = some a) (hne : a.1 ≠ b.1) :
    (pairsL ms k ++ pairK b ((ms.take k).take i)).length < (pairsL ms ms.length).length := (List.getElem?_eq_some_iff.1 (pair_at hb ha hne)).1

set_option maxRecDepth 100000 in
set_option maxHeartbeats 4000000 in
theorem pairs1_in {α : Type} (encs : α → Array Value) (el : Nat → α) (F : Fence) (n : Nat) (hF : F.fn 107) (hro : F.round = none) (hn : 1 ≤ n) (l Bs n₀ gb : Nat) (A : Option Addr) (c : Nat) (ms : List (Int × Int)) (hlen : ms.length ≤ 1000) (hcap : ms.length ≤ c) (_ : c ≤ maxLen) (hel : Named encs el (pairsL ms ms.length)) (J Jx : List α → World → Prop)
    (hJa : ∀ s W o, J s W → J s (W.alloc o))
    (hY : ∀ pre x W, J pre W → pre.length < (pairsL ms ms.length).length → YieldAt F (n - 1) Try.prog l (encs x) W fun e W' =>
      (e = .returned (.bool true) ∧ J (pre ++ [x]) W' ∧ KeepP n₀ gb W W') ∨ (e = .returned (.bool false) ∧ Jx (pre ++ [x]) W'))
    (W : World) (hnW : n₀ ≤ W.heap.size) (hBs : ∀ W', KeepP n₀ gb W W' → W'.cell? ⟨Bs, 0, none⟩ = some (.slice A ms.length c))
    (hA : 0 < ms.length → ∃ b o, A = some ⟨b, o, none⟩ ∧ ∀ W', KeepP n₀ gb W W' → ∀ (k : Nat) (m : Int × Int), ms[k]? = some m → W'.cell? ⟨b, o + k * 2, none⟩ = some (.int .i64 m.1) ∧ W'.cell? ⟨b, o + k * 2 + 1, none⟩ = some (.int .i64 m.2)) (h0 : J [] W) :
    CallsIn F n Try.prog 107 #[.func (.yield l) #[] #[], .pointer (some ⟨Bs, 0, none⟩)] W fun e W' => (∃ v, e = .returned v) ∧
      ((∃ ys, ys = comeK el (pairsL ms ms.length).length ∧ J ys W') ∨ (∃ pre, (∃ k, k ≤ (pairsL ms ms.length).length ∧ pre = comeK el k) ∧ Jx pre W')) := by
  refine callsIn_of_wp Try.func107 rfl hF ?_ hro
  simp only [Try.ntmps107, List.size_toArray, List.length_cons, List.length_nil, Nat.reduceAdd, Nat.reduceSub, Array.replicate_succ, Array.replicate_zero, List.push_toArray, List.append_toArray, List.nil_append, List.cons_append]
  have hB0 := hBs _ (KeepP.refl _ _ _)
  have HEL := Lib.hid hel
  have HA := Lib.hid hA
  have HY := Lib.hid hY
  have HBS := Lib.hid hBs
  have HJA := Lib.hid hJa
  clear hel hA hY hBs hJa
  gi_wp2
  gi_loopw [9] (fun i wr => ∃ k : Nat, k ≤ ms.length ∧ i = .int .i64 k ∧ Hid (J (comeK el (pairsL ms k).length) wr) ∧ Hid (KeepP n₀ gb W wr)) (fun i _ => ms.length - (intOf i).toNat)
  case atStart => exact ⟨0, Nat.zero_le _, rfl, Lib.hid h0, Lib.hid (KeepP.refl _ _ _)⟩
  case round =>
    clear hB0 h0
    obtain ⟨k, hk, rfl, HJ, HK⟩ := hrel
    rename World => wr
    by_cases hlt : k < ms.length
    · obtain ⟨b, o, rfl, hall⟩ := HA.out (by omega)
      obtain ⟨⟨x, y⟩, hb⟩ : ∃ m, ms[k]? = some m := ⟨_, List.getElem?_eq_getElem hlt⟩
      obtain ⟨f0, f1⟩ := hall wr HK.out k _ hb
      simp only at f0 f1
      have hB1 := HBS.out wr HK.out
      have hB1a : (wr.alloc (.cells #[.int .i64 x, .int .i64 y] 54)).cell? ⟨Bs, 0, none⟩ = some (.slice (some ⟨b, o, none⟩) ms.length c) := HBS.out _ (HK.out.trans (KeepP.of_below ((Below.refl _ _).alloc (Nat.le_refl _) _) (Nat.le_trans hnW HK.out.size)))
      have HALL := Lib.hid hall
      have HB := Lib.hid hb
      have HJ1 : Hid (J (comeK el (pairsL ms k ++ pairK (x, y) ((ms.take k).take 0)).length) (wr.alloc (.cells #[.int .i64 x, .int .i64 y] 54))) := Lib.hid (by
        have : pairK (x, y) ((ms.take k).take 0) = [] := rfl
        rw [this, List.append_nil]
        exact HJA.out _ _ _ HJ.out)
      have HK1 : Hid (KeepP n₀ gb W (wr.alloc (.cells #[.int .i64 x, .int .i64 y] 54))) := Lib.hid (HK.out.trans (KeepP.of_below ((Below.refl _ _).alloc (Nat.le_refl _) _) (Nat.le_trans hnW HK.out.size)))
      have HG1 : Hid ((wr.alloc (.cells #[.int .i64 x, .int .i64 y] 54)).heap[wr.heap.size]? = some (.cells #[.int .i64 x, .int .i64 y] 54 (0, 0))) := Lib.hid (heap_alloc_new _ _)
      have hgn : n₀ ≤ wr.heap.size := Nat.le_trans hnW HK.out.size
      clear hall hb
      gi_wp2
      gi_loopw [18] (fun s wi => ∃ i : Nat, i ≤ k ∧ s = .int .i64 i ∧ Hid (J (comeK el (pairsL ms k ++ pairK (x, y) ((ms.take k).take i)).length) wi) ∧ Hid (KeepP n₀ gb W wi) ∧ Hid (wi.heap[wr.heap.size]? = some (.cells #[.int .i64 x, .int .i64 y] 54 (0, 0)))) (fun s _ => k - (intOf s).toNat)
      case atStart => exact ⟨0, Nat.zero_le _, rfl, HJ1, HK1, HG1⟩
      case round =>
        clear HJ1 HK1 HG1 hB1 hB1a f0 f1
        obtain ⟨i, hi, rfl, HJi, HKi, HGi⟩ := hrel
        rename World => wi
        by_cases hik : i < k
        · obtain ⟨⟨p, q⟩, ha⟩ : ∃ m, ms[i]? = some m := ⟨_, List.getElem?_eq_getElem (by omega)⟩
          obtain ⟨f0, f1⟩ := HALL.out wi HKi.out i _ ha
          simp only at f0 f1
          have ha2 : (ms.take k)[i]? = some (p, q) := by rw [List.getElem?_take_of_lt hik]; exact ha
          have HA2 := Lib.hid ha2
          have hgl : wr.heap.size < wi.heap.size := (Array.getElem?_eq_some_iff.1 HGi.out).1
          obtain ⟨W1, hW1⟩ : ∃ W1, wi.alloc (.cells #[.int .i64 p, .int .i64 q] 54) = W1 := ⟨_, rfl⟩
          have HW1 := Lib.hid hW1
          have HBW : Hid (Below wi.heap.size wi W1) := Lib.hid (by rw [← hW1]; exact (Below.refl _ _).alloc (Nat.le_refl _) _)
          have hni : n₀ ≤ wi.heap.size := Nat.le_trans hnW HKi.out.size
          have HK1 : Hid (KeepP n₀ gb W W1) := Lib.hid (HKi.out.trans (KeepP.of_below HBW.out hni))
          have HJ1 : Hid (J (comeK el (pairsL ms k ++ pairK (x, y) ((ms.take k).take i)).length) W1) := Lib.hid (by rw [← hW1]; exact HJA.out _ _ _ HJi.out)
          have HG1 : Hid (W1.heap[wr.heap.size]? = some (.cells #[.int .i64 x, .int .i64 y] 54 (0, 0))) := Lib.hid ((HBW.out.block _ hgl).trans HGi.out)
          have e0 : W1.cell? ⟨wr.heap.size, 0, none⟩ = some (.int .i64 x) := by rw [cell_of_row W1 _ 0 _ _ (0, 0) HG1.out]; rfl
          have e1 : W1.cell? ⟨wr.heap.size, 1, none⟩ = some (.int .i64 y) := by rw [cell_of_row W1 _ 1 _ _ (0, 0) HG1.out]; rfl
          have hG6 : W1.heap[wi.heap.size]? = some (.cells #[.int .i64 p, .int .i64 q] 54 (0, 0)) := by rw [← hW1]; exact heap_alloc_new _ _
          have e2 : W1.cell? ⟨wi.heap.size, 0, none⟩ = some (.int .i64 p) := by rw [cell_of_row W1 _ 0 _ _ (0, 0) hG6]; rfl
          have e3 : W1.cell? ⟨wi.heap.size, 1, none⟩ = some (.int .i64 q) := by rw [cell_of_row W1 _ 1 _ _ (0, 0) hG6]; rfl
          rw [← hW1] at e0 e1 e2 e3
          clear ha ha2 hW1 hG6
          by_cases hpx : p = x
          · have HN := Lib.hid (pairK_no (b := (x, y)) HA2.out hpx)
            subst hpx
            gi_wp2
            refine ⟨fun f hf => (by cases hf), ?_⟩
            gi_wp2
            go_roundw
            case rel => exact ⟨i + 1, by omega, by go_num, Lib.hid (by rw [HN.out, HW1.out]; exact HJ1.out), Lib.hid (by rw [HW1.out]; exact HK1.out), Lib.hid (by rw [HW1.out]; exact HG1.out)⟩
            case measure => simp [intOf]; omega
          · have t1 : (p == x) = false := by simpa using hpx
            have t2 : (p != x) = true := by simpa using hpx
            have HN := Lib.hid (pairK_yes (b := (x, y)) HA2.out hpx)
            have HLT := Lib.hid (pairs_lt HB.out HA2.out hpx)
            have HAT := Lib.hid (HEL.out _ _ (pair_at HB.out HA2.out hpx))
            obtain ⟨m, hm⟩ : ∃ m, (pairsL ms k ++ pairK (x, y) ((ms.take k).take i)).length = m := ⟨_, rfl⟩
            rw [hm] at HJ1 HLT HAT
            have HM := Lib.hid hm
            clear hm hpx
            obtain ⟨fn, tmps, assign, body, hy, hR⟩ := HY.out _ (el m) _ HJ1.out (by rw [comeK_length]; exact HLT.out)
            rw [HAT.out, encP] at hy
            simp only at hy
            rw [← HW1.out] at hy
            have hR2 := hR
            rw [← HW1.out] at hR2
            have HR := Lib.hid hR2
            clear hR hR2
            gi_wp2
            refine HR.out.mono ?_
            rintro e W3 (⟨rfl, hJ3, hk3⟩ | ⟨rfl, hJx3⟩)
            · rw [HW1.out] at hk3
              have HJ3 := Lib.hid hJ3
              have HK3 := Lib.hid hk3
              clear hJ3 hk3 e0 e1 e2 e3 hy
              gi_wp2
              go_roundw
              case rel => exact ⟨i + 1, by omega, by go_num, Lib.hid (by rw [HN.out, ← List.append_assoc, List.length_append, HM.out, List.length_singleton, comeK_succ]; exact HJ3.out), Lib.hid (HK1.out.trans HK3.out), Lib.hid (HK3.out.box _ _ hgn HG1.out)⟩
              case measure => simp [intOf]; omega
            · clear e0 e1 e2 e3 hy
              have HX3 := Lib.hid hJx3
              clear hJx3
              gi_wp2
              refine bodyPost_ret (results_none rfl _ _ _) rfl ?_
              exact ⟨⟨_, rfl⟩, .inr ⟨_, ⟨m + 1, HLT.out, (comeK_succ el m).symm⟩, HX3.out⟩⟩
        · obtain rfl : i = k := by omega
          gi_wp2
          go_roundw
          case rel => exact ⟨i + 1, by omega, by go_num, Lib.hid (by rw [pairsL_succ HB.out]; have := HJi.out; rw [List.take_take, Nat.min_self] at this; exact this), HKi⟩
          case measure => simp [intOf]; omega
    · obtain rfl : k = ms.length := by omega
      gi_wp2
      go_end0
      exact ⟨⟨_, rfl⟩, .inl ⟨_, rfl, HJ.out⟩⟩
theorem pairs_stops {α : Type} (encs : α → Array Value) (el : Nat → α) (F : Fence) (n : Nat) (hF : F.fn 107) (hro : F.round = none) (hn : 1 ≤ n) (Bs n₀ gb : Nat) (A : Option Addr) (c : Nat) (ms : List (Int × Int)) (hlen : ms.length ≤ 1000) (hcap : ms.length ≤ c) (hc0 : c ≤ maxLen) (hel : Named encs el (pairsL ms ms.length)) (w : World) (hnw : n₀ ≤ w.heap.size)
    (hBs : ∀ W W', Below w.heap.size w W → KeepP n₀ gb W W' → W'.cell? ⟨Bs, 0, none⟩ = some (.slice A ms.length c))
    (hA : 0 < ms.length → ∃ b o, A = some ⟨b, o, none⟩ ∧ ∀ W W', Below w.heap.size w W → KeepP n₀ gb W W' → ∀ (k : Nat) (m : Int × Int), ms[k]? = some m → W'.cell? ⟨b, o + k * 2, none⟩ = some (.int .i64 m.1) ∧ W'.cell? ⟨b, o + k * 2 + 1, none⟩ = some (.int .i64 m.2)) :
    SeqStopsK F n Try.prog 107 #[.pointer (some ⟨Bs, 0, none⟩)] encs (KeepP n₀ gb) (fun ys => ys = comeK el (pairsL ms ms.length).length) (fun pre => ∃ k, k ≤ (pairsL ms ms.length).length ∧ pre = comeK el k) (pairsL ms ms.length).length w := fun l J Jx W hW hJ _ hY h0 =>
  pairs1_in encs el F n hF hro hn l Bs n₀ gb A c ms hlen hcap hc0 hel J Jx (fun s W' o hs => hJ s W' _ none hs (World.grownBy_alloc W' o none) (fun r e => by cases e)) hY W (Nat.le_trans hnw hW.size) (fun W' h => hBs W W' hW h)
    (fun h => by
      obtain ⟨b, o, e, hall⟩ := hA h
      exact ⟨b, o, e, fun W' h => hall W W' hW h⟩) h0
set_option maxHeartbeats 1000000 in
theorem pairs_call (a : Option Addr) (len cap : Nat) (w : World) :
    Calls Try.prog 80 #[.slice a len cap] w fun e w' => e = .returned (.func (.func 107) #[] #[.pointer (some ⟨w.heap.size, 0, none⟩)]) ∧ w' = w.alloc (.cells #[.slice a len cap] 22) := by
  go_enter Try.func80, Try.ntmps80
  go_wp2
  go_ret
  exact ⟨rfl, rfl⟩
end Go.Proofs.Ytoilbgngefleiaa

/-
  A region of eight operations that draws its order, the last four one behind the other: whatever the order, by an invariant that says what has come.
-/
namespace Go.Proofs.Ytoilbgngefleiaa
open Go Go.RowKit
attribute [local go_sem] Oper.semAt_some

def nF (l0 l1 l2 l3 l4 l5 l6 l7 : Bool) : Nat := (if l0 then 0 else 1) + (if l1 then 0 else 1) + (if l2 then 0 else 1) + (if l3 then 0 else 1) + (if l4 then 0 else 1) + (if l5 then 0 else 1) + (if l6 then 0 else 1) + (if l7 then 0 else 1)
/-- Which of eight operations may come up. -/
def Rd (l0 l1 l2 l3 l4 l5 l6 l7 : Bool) (i : Nat) : Prop :=
  (i = 0 ∧ l0 = false) ∨ (i = 1 ∧ l1 = false) ∨ (i = 2 ∧ l2 = false) ∨ (i = 3 ∧ l3 = false) ∨ (i = 4 ∧ l4 = false ∧ l1 = true ∧ l2 = true ∧ l3 = true) ∨ (i = 5 ∧ l5 = false ∧ l4 = true) ∨ (i = 6 ∧ l6 = false ∧ l0 = true ∧ l5 = true) ∨ (i = 7 ∧ l7 = false ∧ l6 = true)
instance (l0 l1 l2 l3 l4 l5 l6 l7 : Bool) (i : Nat) : Decidable (Rd l0 l1 l2 l3 l4 l5 l6 l7 i) := by unfold Rd; infer_instance
section
variable {F : Fence} {n : Nat} {P : Program} {ops : Array Oper} {Q : Exit → Act → World → Prop}
theorem any8 (Inv : Bool → Bool → Bool → Bool → Bool → Bool → Bool → Bool → Act → World → Prop)
    (hR : ∀ l0 l1 l2 l3 l4 l5 l6 l7 : Bool, ∀ i ∈ Region.ready .any ops #[l0, l1, l2, l3, l4, l5, l6, l7], Rd l0 l1 l2 l3 l4 l5 l6 l7 i)
    (hE : ∀ l0 l1 l2 l3 l4 l5 l6 l7 : Bool, Region.ready .any ops #[l0, l1, l2, l3, l4, l5, l6, l7] = [] → (l4 = true → l1 = true ∧ l2 = true ∧ l3 = true) → (l5 = true → l4 = true) → (l6 = true → l5 = true ∧ l0 = true) → (l7 = true → l6 = true) → l7 = true)
    (hA : Region.ready .any ops #[true, true, true, true, true, true, true, true] = [])
    (hD : ∀ l0 l1 l2 l3 l4 l5 l6 l7 a w, Inv l0 l1 l2 l3 l4 l5 l6 l7 a w → (l4 = true → l1 = true ∧ l2 = true ∧ l3 = true) ∧ (l5 = true → l4 = true) ∧ (l6 = true → l5 = true ∧ l0 = true) ∧ (l7 = true → l6 = true))
    (s0 : ∀ (l1 l2 l3 l4 l5 l6 l7 : Bool) a w, Inv false l1 l2 l3 l4 l5 l6 l7 a w → wpOpIn F n P ops Q 0 (Inv true l1 l2 l3 l4 l5 l6 l7) a w)
    (s1 : ∀ (l0 l2 l3 l4 l5 l6 l7 : Bool) a w, Inv l0 false l2 l3 l4 l5 l6 l7 a w → wpOpIn F n P ops Q 1 (Inv l0 true l2 l3 l4 l5 l6 l7) a w)
    (s2 : ∀ (l0 l1 l3 l4 l5 l6 l7 : Bool) a w, Inv l0 l1 false l3 l4 l5 l6 l7 a w → wpOpIn F n P ops Q 2 (Inv l0 l1 true l3 l4 l5 l6 l7) a w)
    (s3 : ∀ (l0 l1 l2 l4 l5 l6 l7 : Bool) a w, Inv l0 l1 l2 false l4 l5 l6 l7 a w → wpOpIn F n P ops Q 3 (Inv l0 l1 l2 true l4 l5 l6 l7) a w)
    (s4 : ∀ (l0 l5 l6 l7 : Bool) a w, Inv l0 true true true false l5 l6 l7 a w → wpOpIn F n P ops Q 4 (Inv l0 true true true true l5 l6 l7) a w)
    (s5 : ∀ (l0 l1 l2 l3 l6 l7 : Bool) a w, Inv l0 l1 l2 l3 true false l6 l7 a w → wpOpIn F n P ops Q 5 (Inv l0 l1 l2 l3 true true l6 l7) a w)
    (s6 : ∀ (l1 l2 l3 l4 l7 : Bool) a w, Inv true l1 l2 l3 l4 true false l7 a w → wpOpIn F n P ops Q 6 (Inv true l1 l2 l3 l4 true true l7) a w)
    (s7 : ∀ (l0 l1 l2 l3 l4 l5 : Bool) a w, Inv l0 l1 l2 l3 l4 l5 true false a w → wpOpIn F n P ops Q 7 (Inv l0 l1 l2 l3 l4 l5 true true) a w)
    (fin : ∀ a w, Inv true true true true true true true true a w → Q .normal a w) :
    ∀ (fuel : Nat) (l0 l1 l2 l3 l4 l5 l6 l7 : Bool) (a : Act) (w : World), nF l0 l1 l2 l3 l4 l5 l6 l7 = fuel → Inv l0 l1 l2 l3 l4 l5 l6 l7 a w → wpAnyIn F n P .any ops Q fuel #[l0, l1, l2, l3, l4, l5, l6, l7] a w
  | 0, l0, l1, l2, l3, l4, l5, l6, l7, a, w, hf, hI => by
    have : l0 = true ∧ l1 = true ∧ l2 = true ∧ l3 = true ∧ l4 = true ∧ l5 = true ∧ l6 = true ∧ l7 = true := by
      revert hf
      unfold nF
      cases l0 <;> cases l1 <;> cases l2 <;> cases l3 <;> cases l4 <;> cases l5 <;> cases l6 <;> cases l7 <;> simp
    obtain ⟨rfl, rfl, rfl, rfl, rfl, rfl, rfl, rfl⟩ := this
    exact ⟨hA, fin a w hI⟩
  | fuel + 1, l0, l1, l2, l3, l4, l5, l6, l7, a, w, hf, hI => by
    refine ⟨fun he => ?_, fun i hi => ?_⟩
    · obtain ⟨d1, d2, d3, d4⟩ := hD _ _ _ _ _ _ _ _ a w hI
      have h7 := hE _ _ _ _ _ _ _ _ he d1 d2 d3 d4
      have h6 := d4 h7
      obtain ⟨h5, h0⟩ := d3 h6
      have h4 := d2 h5
      obtain ⟨h1, h2, h3⟩ := d1 h4
      subst h0 h1 h2 h3 h4 h5 h6 h7
      exact fin a w hI
    · have key := any8 Inv hR hE hA hD s0 s1 s2 s3 s4 s5 s6 s7 fin fuel
      rcases hR _ _ _ _ _ _ _ _ i hi with ⟨rfl, rfl⟩ | ⟨rfl, rfl⟩ | ⟨rfl, rfl⟩ | ⟨rfl, rfl⟩ | ⟨rfl, rfl, rfl, rfl, rfl⟩ | ⟨rfl, rfl, rfl⟩ | ⟨rfl, rfl, rfl, rfl⟩ | ⟨rfl, rfl, rfl⟩
      · refine wpOpIn_mono (fun a2 w2 h2 => ?_) (s0 _ _ _ _ _ _ _ a w hI)
        exact key _ _ _ _ _ _ _ _ a2 w2 (by unfold nF at hf ⊢; simp at hf ⊢; omega) h2
      · refine wpOpIn_mono (fun a2 w2 h2 => ?_) (s1 _ _ _ _ _ _ _ a w hI)
        exact key _ _ _ _ _ _ _ _ a2 w2 (by unfold nF at hf ⊢; simp at hf ⊢; omega) h2
      · refine wpOpIn_mono (fun a2 w2 h2 => ?_) (s2 _ _ _ _ _ _ _ a w hI)
        exact key _ _ _ _ _ _ _ _ a2 w2 (by unfold nF at hf ⊢; simp at hf ⊢; omega) h2
      · refine wpOpIn_mono (fun a2 w2 h2 => ?_) (s3 _ _ _ _ _ _ _ a w hI)
        exact key _ _ _ _ _ _ _ _ a2 w2 (by unfold nF at hf ⊢; simp at hf ⊢; omega) h2
      · refine wpOpIn_mono (fun a2 w2 h2 => ?_) (s4 _ _ _ _ a w hI)
        exact key _ _ _ _ _ _ _ _ a2 w2 (by unfold nF at hf ⊢; simp at hf ⊢; omega) h2
      · refine wpOpIn_mono (fun a2 w2 h2 => ?_) (s5 _ _ _ _ _ _ a w hI)
        exact key _ _ _ _ _ _ _ _ a2 w2 (by unfold nF at hf ⊢; simp at hf ⊢; omega) h2
      · refine wpOpIn_mono (fun a2 w2 h2 => ?_) (s6 _ _ _ _ _ a w hI)
        exact key _ _ _ _ _ _ _ _ a2 w2 (by unfold nF at hf ⊢; simp at hf ⊢; omega) h2
      · refine wpOpIn_mono (fun a2 w2 h2 => ?_) (s7 _ _ _ _ _ _ a w hI)
        exact key _ _ _ _ _ _ _ _ a2 w2 (by unfold nF at hf ⊢; simp at hf ⊢; omega) h2
/-- An append to a slice of the call's own, as one operation of a region. -/
theorem stepIn_append {o : Oper} {a : Act} {w : World} {K : Act → World → Prop} {E : Prop} (hgd : o.guard = none) (s x : Operand) (t : TypeId)
    (ho : o.op = .call { callee := .builtin .append, args := #[s, x], argTypes := #[t, t] })
    (base : Nat) (e : TypeId) (i : TypeInfo) (z : Value) (size bytes : Nat) (ht : P.underlying t = some (.slice e)) (hi : P.info? e = some i) (hz : i.zero = some z)
    (hsize : i.size = size) (hby : i.bytes = bytes) (hzs : z.cells.size = size) (hsz : 0 < size)
    (v : Value) (k : Nat) (xs : List Value) (hs : a.eval s = v) (hown : w.ownsRow base e size v k xs)
    (ad : Addr) (m c : Nat) (news : List Value) (hx : a.eval x = .slice (some ad) m c) (hl : news.length = m * size) (hnews : ∀ j u, news[j]? = some u → w.cell? (ad.add j) = some u) (h1 : ∀ u ∈ news, u.oneCell' = true)
    (h63 : k + m ≤ maxLen) (hbytes : (k + m) * bytes ≤ 140737488355328) (hbase : base ≤ w.heap.size)
    (h : ∀ v' w', w'.ownsRow base e size v' (k + m) (xs ++ news) → w.grownBy w' v.ownBlock → K (a.put o.dst v') w') :
    if Region.wanted o (yielded ops a.tmps) = true then Oper.wpIn F n P o a w K Q else E := by
  have hw : Region.wanted o (yielded ops a.tmps) = true := by simp [Region.wanted, hgd]
  rw [if_pos hw]
  obtain ⟨v', w', hr, h2, h3, _, _⟩ := run_append_own_at (P := P) w base t o.type e i z size bytes ht hi hz hsize hby hzs hsz v k xs hown ad m c news hl hnews h1 h63 hbytes hbase
  unfold Oper.wpIn
  refine ⟨by simp [Oper.about, ho, resolve, Target.leads, Sem.run_pure], ?_⟩
  rw [Oper.semAt_plain F _ _ (by rw [ho]; intro c hc'; cases hc')]
  simp [execOp, ho, resolve, invoke, builtin, hs, hx, hr, Result.andThen]
  exact h v' w' h2 h3
end
end Go.Proofs.Ytoilbgngefleiaa

/-
  A region that draws its order, whose operations only read and whose callees leave all old cells as they are: one walk in the order of the text.
-/
namespace Go.Proofs.Ytoilbgngefleiaa
open Go Go.RowKit

/-- A world in which all that is old in w is as it was. -/
structure Gw (w : World) where
  v : World
  h : Below w.heap.size w v
instance gwNonempty (w : World) : Nonempty (Gw w) := ⟨⟨w, Below.refl _ _⟩⟩
theorem Gw.cell {w : World} (g : Gw w) {b o : Nat} (hb : b < w.heap.size) : g.v.cell? ⟨b, o, none⟩ = w.cell? ⟨b, o, none⟩ := g.h.cell (p := ⟨b, o, none⟩) hb
theorem wp_region_grow {P : Program} {id : Nat} {Q : Exit → Act → World → Prop} {a : Act} {w : World} {L : List Oper} (hm : P.follows .mixedOrders = true) (hB : Region.lexB .any L.toArray = true)
    (h : wpQuiet P L.toArray (fun w' => ∃ g : Gw w, w' = g.v) (fun a' => ∀ w', (∃ g : Gw w, w' = g.v) → Q .normal a' w') L a) : (Code.region id L.toArray true).wp P Q a w :=
  wp_region_quiet (C := fun w' => ∃ g : Gw w, w' = g.v) hm hB ⟨⟨_, below_drewN (Below.refl _ _) 1⟩, rfl⟩ (by simpa using h)
/-- A callee's contract within such a region. -/
theorem Calls.grow_of {P : Program} {f : FuncId} {args : Array Value} {w : World} {g : Gw w} {v : Value}
    (h : Calls P f args g.v fun e w' => e = .returned v ∧ Below g.v.heap.size g.v w') : Calls P f args g.v fun e w'' => e = .returned v ∧ ∃ g' : Gw w, w'' = g'.v :=
  h.mono fun _ w' ⟨he, hb⟩ => ⟨he, ⟨w', g.h.trans (hb.mono g.h.size)⟩, rfl⟩
theorem Calls.grow_same {P : Program} {f : FuncId} {args : Array Value} {w : World} {g : Gw w} {v : Value}
    (h : Calls P f args g.v fun e w' => e = .returned v ∧ g.v = w') : Calls P f args g.v fun e w'' => e = .returned v ∧ ∃ g' : Gw w, w'' = g'.v :=
  h.mono fun _ _ ⟨he, hb⟩ => ⟨he, g, hb.symm⟩
end Go.Proofs.Ytoilbgngefleiaa

/-
  Contract: slices.MinFunc of lines, for any way to compare them.
-/
namespace Go.Proofs.Ytoilbgngefleiaa
open Go Go.RowKit Go.Shelf

abbrev Ln := Int × Int × Int
def mk3 (x : Ln) : List Value := [.int .i64 x.1, .int .i64 x.2.1, .int .i64 x.2.2]
def lnV (x : Ln) : Value := .agg #[.int .i64 x.1, .int .i64 x.2.1, .int .i64 x.2.2]
def LinesR (w : World) (A : Option Addr) (ls : List Ln) : Prop := Reads w w.heap.size 3 A ls.length (ls.flatMap mk3)
theorem flat3_get : ∀ (ls : List Ln) (k : Nat) (m : Ln), ls[k]? = some m → (ls.flatMap mk3)[3 * k]? = some (.int .i64 m.1) ∧ (ls.flatMap mk3)[3 * k + 1]? = some (.int .i64 m.2.1) ∧ (ls.flatMap mk3)[3 * k + 2]? = some (.int .i64 m.2.2)
  | [], k, m, h => by simp at h
  | a :: t, 0, m, h => by simp at h; subst h; simp [mk3]
  | a :: t, k + 1, m, h => by
    have := flat3_get t k m (by simpa using h)
    rw [show 3 * (k + 1) = 3 * k + 3 by omega]
    simpa [mk3] using this
theorem LinesR.below {w w' : World} {A : Option Addr} {ls : List Ln} (h : LinesR w A ls) (hb : Below w.heap.size w w') : LinesR w' A ls := (Reads.below h hb).more hb.size
theorem LinesR.open_ {w : World} {A : Option Addr} {ls : List Ln} (h : LinesR w A ls) (hn : 0 < ls.length) :
    ∃ b o, A = some ⟨b, o, none⟩ ∧ b < w.heap.size ∧ ∀ (k : Nat) (m : Ln), ls[k]? = some m → w.cell? ⟨b, o + k * 3, none⟩ = some (.int .i64 m.1) ∧ w.cell? ⟨b, o + k * 3 + 1, none⟩ = some (.int .i64 m.2.1) ∧ w.cell? ⟨b, o + k * 3 + 2, none⟩ = some (.int .i64 m.2.2) := by
  obtain ⟨ad, e, hb, hall⟩ := h.2 hn
  obtain ⟨m0, hm0⟩ : ∃ m, ls[0]? = some m := ⟨_, List.getElem?_eq_getElem hn⟩
  have hc := hall 0 _ (flat3_get ls 0 m0 hm0).1
  obtain ⟨b, o, s⟩ := ad
  have hs : s = none := by simpa [Addr.add] using World.cell?_spot hc
  subst hs
  refine ⟨b, o, e, hb, fun k m hm => ?_⟩
  have h2 := flat3_get ls k m hm
  rw [Nat.mul_comm k 3, Nat.add_assoc, Nat.add_assoc, ← add_mk, ← add_mk, ← add_mk]
  exact ⟨hall _ _ h2.1, hall _ _ h2.2.1, hall _ _ h2.2.2⟩
def minF (f : Ln → Ln → Int) (ls : List Ln) : Ln := (ls.drop 1).foldl (fun m x => if f x m < 0 then x else m) (ls.getD 0 (0, 0, 0))
theorem takeL_one {ls : List Ln} {z : Ln} (h : ls[0]? = some z) : ls.take 1 = [z] := by
  cases ls with
  | nil => simp at h
  | cons a t => simp at h; subst h; rfl
theorem minF_one (f : Ln → Ln → Int) {ls : List Ln} {z : Ln} (h : ls[0]? = some z) : minF f (ls.take 1) = z := by rw [takeL_one h]; rfl
theorem minF_next (f : Ln → Ln → Int) {ls : List Ln} {k : Nat} {z : Ln} (hk : 1 ≤ k) (h : ls[k]? = some z) : minF f (ls.take (k + 1)) = if f z (minF f (ls.take k)) < 0 then z else minF f (ls.take k) := by
  have hl := (List.getElem?_eq_some_iff.1 h).1
  have h1 : (ls.take k).length = k := by rw [List.length_take]; omega
  rw [take_snoc h, minF, minF, List.drop_append_of_le_length (by omega), List.foldl_append, List.getD_eq_getElem?_getD, List.getElem?_append_left (by omega), ← List.getD_eq_getElem?_getD]; rfl
theorem minF_fold (f : Ln → Ln → Int) : ∀ (ls : List Ln) (m : Ln), ls.foldl (fun m x => if f x m < 0 then x else m) m = m ∨ ls.foldl (fun m x => if f x m < 0 then x else m) m ∈ ls
  | [], m => .inl rfl
  | x :: t, m => by
    rw [List.foldl_cons]
    rcases minF_fold f t (if f x m < 0 then x else m) with h | h
    · rw [h]
      split
      · exact .inr (by simp)
      · exact .inl rfl
    · exact .inr (List.mem_cons_of_mem _ h)
theorem minF_mem (f : Ln → Ln → Int) {ls : List Ln} (h : 0 < ls.length) : minF f ls ∈ ls := by
  rcases minF_fold f (ls.drop 1) (ls.getD 0 (0, 0, 0)) with q | q
  · rw [minF, q, List.getD_eq_getElem?_getD, List.getElem?_eq_getElem h]
    exact List.getElem_mem h
  · exact List.mem_of_mem_drop q
/-- A function value that compares lines. -/
def LCmp (g : Nat) (lb : Array Value) (f : Ln → Ln → Int) (ls : List Ln) (w : World) : Prop :=
  ∀ (W : World) (x y : Ln), Below w.heap.size w W → x ∈ ls → y ∈ ls → Calls Try.prog g (#[lnV x, lnV y] ++ lb) W fun e w' => e = .returned (.int .i64 (f x y)) ∧ Below W.heap.size W w'
theorem line_size : (Try.prog.info? 24).map (·.size) = some 3 := by kernel_rfl
theorem row_world3 {G : World → Prop} (n₀ : Nat) (w w' : World) (g g2 : Nat) (cells old : Array Value) (t : TypeId) (hg : w'.heap[g]? = some (.cells old t (0, 0))) (hW : Below n₀ w w') (hge : n₀ ≤ g) (hne : g2 ≠ g) (h : ∀ X : World, X.heap[g]? = some (.cells cells t (0, 0)) → X.heap[g2]? = w'.heap[g2]? → Below n₀ w X → G X) : G (w'.setRow g cells) :=
  h _ (setRow_heap w' g old cells t (0, 0) hg) (setRow_other w' g g2 cells hne) (hW.trans ⟨rfl, rfl, rfl, by simp [World.setRow], fun k hk => setRow_other w' g k cells (by omega)⟩)

set_option maxRecDepth 100000 in
set_option maxHeartbeats 1000000 in
theorem minFunc_any (g : Nat) (lb : Array Value) (f : Ln → Ln → Int) (eg : ∀ args w, (callFunc g args).run Try.prog w = .ok (.enter g args) w) (ls : List Ln) (A : Option Addr) (c : Nat) (w : World) (h : LinesR w A ls) (hl : ls.length ≤ 1000) (hne : 0 < ls.length) (hK : LCmp g lb f ls w) :
    Calls Try.prog 111 #[.slice A ls.length c, .func (.func g) #[] lb] w fun e w' => e = .returned (lnV (minF f ls)) ∧ Below w.heap.size w w' := by
  obtain ⟨b, o, rfl, hb, hall⟩ := h.open_ hne
  obtain ⟨⟨x0, y0, z0⟩, hz0⟩ : ∃ z, ls[0]? = some z := ⟨_, List.getElem?_eq_getElem hne⟩
  obtain ⟨c0, c1, c2⟩ := hall 0 _ hz0
  rw [Nat.zero_mul, Nat.add_zero] at c0 c1 c2
  simp only at c0 c1 c2
  have HALL := Lib.hid hall
  have HK := Lib.hid hK
  have H1 := Lib.hid (minF_one f hz0)
  have t0 : decide ((ls.length : Int) < 1) = false := decide_eq_false (by omega)
  have HZ0 := Lib.hid hz0
  clear h hall hz0 hK
  go_enter Try.func111, Try.ntmps111
  have hx0 : (x0, y0, z0) ∈ ls := List.mem_of_getElem? HZ0.out
  go_wp2
  go_loopw [6] (fun i wr => ∃ (k : Nat) (x y z : Int), 1 ≤ k ∧ k ≤ ls.length ∧ i = .int .i64 k ∧ Hid (wr.heap[w.heap.size + 1]? = some (.cells #[.int .i64 x, .int .i64 y, .int .i64 z] 24 (0, 0))) ∧ Hid (wr.heap[w.heap.size]? = some (.cells #[.int .i64 0, .int .i64 0, .int .i64 0] 24 (0, 0))) ∧ Hid (Below w.heap.size w wr) ∧ Hid ((x, y, z) = minF f (ls.take k) ∧ (x, y, z) ∈ ls)) (fun i _ => ls.length - (intOf i).toNat)
  case atStart => exact ⟨1, x0, y0, z0, Nat.le_refl _, hne, rfl, Lib.hid (by simpa using heap_alloc_new (w.alloc (.cells #[.int .i64 0, .int .i64 0, .int .i64 0] 24)) (.cells #[.int .i64 x0, .int .i64 y0, .int .i64 z0] 24)), Lib.hid ((Below.heap_alloc (w.alloc (.cells #[.int .i64 0, .int .i64 0, .int .i64 0] 24)) _ _ (by simp)).trans (heap_alloc_new w _)), Lib.hid (by repeat (first | with_reducible exact Below.refl _ _ | with_reducible assumption | refine below_drewN ?_ _ | with_reducible refine Below.drew ?_ | (refine Below.setCell ?_ (by first | (simp; done) | (simp; omega) | omega) _) | (refine Below.alloc ?_ (by first | (simp; done) | (simp; omega) | omega) _))), Lib.hid ⟨H1.out.symm, hx0⟩⟩
  case round =>
    clear c0 c1 c2 hx0
    obtain ⟨k, x, y, z, hk1, hk, rfl, HX, HZ, HB, HM⟩ := hrel
    rename World => wr
    have hsz := HB.out.size
    have hgx : w.heap.size + 1 < wr.heap.size := (Array.getElem?_eq_some_iff.1 HX.out).1
    have x0 : wr.cell? ⟨w.heap.size + 1, 0, none⟩ = some (.int .i64 x) := by rw [cell_of_row wr _ 0 _ _ (0, 0) HX.out]; rfl
    have x1 : wr.cell? ⟨w.heap.size + 1, 1, none⟩ = some (.int .i64 y) := by rw [cell_of_row wr _ 1 _ _ (0, 0) HX.out]; rfl
    have x2 : wr.cell? ⟨w.heap.size + 1, 2, none⟩ = some (.int .i64 z) := by rw [cell_of_row wr _ 2 _ _ (0, 0) HX.out]; rfl
    by_cases hlt : k < ls.length
    · obtain ⟨⟨p, q, r⟩, hp⟩ : ∃ m, ls[k]? = some m := ⟨_, List.getElem?_eq_getElem hlt⟩
      obtain ⟨d0, d1, d2⟩ := HALL.out k _ hp
      simp only at d0 d1 d2
      have d0 := (HB.out.cell (p := ⟨b, o + k * 3, none⟩) hb).trans d0
      have d1 := (HB.out.cell (p := ⟨b, o + k * 3 + 1, none⟩) hb).trans d1
      have d2 := (HB.out.cell (p := ⟨b, o + k * 3 + 2, none⟩) hb).trans d2
      have HN := Lib.hid (minF_next f hk1 hp)
      have hpm : (p, q, r) ∈ ls := List.mem_of_getElem? hp
      have HPM := Lib.hid hpm
      have HC : Hid (∀ G : Gw wr, Calls Try.prog g (#[.agg #[.int .i64 p, .int .i64 q, .int .i64 r], .agg #[.int .i64 x, .int .i64 y, .int .i64 z]] ++ lb) G.v fun e w' => e = .returned (.int .i64 (f (p, q, r) (x, y, z))) ∧ Below G.v.heap.size G.v w') := Lib.hid fun G => HK.out G.v (p, q, r) (x, y, z) (below_step HB.out G.h) HPM.out HM.out.2
      clear hp hpm
      obtain ⟨v, hv⟩ : ∃ v, f (p, q, r) (x, y, z) = v := ⟨_, rfl⟩
      rw [hv] at HC
      have HV := Lib.hid hv
      clear hv
      have hlo : o + k * 3 = o + k * 3 := rfl
      have y0 : ∀ G : Gw wr, G.v.cell? ⟨b, o + k * 3, none⟩ = some (.int .i64 p) := fun G => (G.cell (Nat.lt_of_lt_of_le hb hsz)).trans d0
      have y1 : ∀ G : Gw wr, G.v.cell? ⟨b, o + k * 3 + 1, none⟩ = some (.int .i64 q) := fun G => (G.cell (Nat.lt_of_lt_of_le hb hsz)).trans d1
      have y2 : ∀ G : Gw wr, G.v.cell? ⟨b, o + k * 3 + 2, none⟩ = some (.int .i64 r) := fun G => (G.cell (Nat.lt_of_lt_of_le hb hsz)).trans d2
      have y3 : ∀ G : Gw wr, G.v.cell? ⟨w.heap.size + 1, 0, none⟩ = some (.int .i64 x) := fun G => (G.cell hgx).trans x0
      have y4 : ∀ G : Gw wr, G.v.cell? ⟨w.heap.size + 1, 1, none⟩ = some (.int .i64 y) := fun G => (G.cell hgx).trans x1
      have y5 : ∀ G : Gw wr, G.v.cell? ⟨w.heap.size + 1, 2, none⟩ = some (.int .i64 z) := fun G => (G.cell hgx).trans x2
      clear hlo
      cases hvz : decide (v < 0) with
      | false =>
        have HNN : Hid ((x, y, z) = minF f (ls.take (k + 1))) := Lib.hid (by rw [HN.out, ← HM.out.1, HV.out, if_neg (of_decide_eq_false hvz)])
        go_wp2
        refine wp_region_grow (by kernel_rfl) (by kernel_rfl) ?_
        repeat (go_big_quiet_step ((first
          | (go_at_fn g; with_reducible exact Calls.grow_of (HC.out _))
          | fail)))
        refine wpQuiet_nil ?_
        rintro _ ⟨gq, rfl⟩
        have hX : Hid (Below wr.heap.size wr gq.v) := Lib.hid gq.h
        generalize gq.v = V1 at hX ⊢
        clear y0 y1 y2 y3 y4 y5 x0 x1 x2 d0 d1 d2
        go_wp2
        go_roundw
        case rel => exact ⟨k + 1, x, y, z, by omega, by omega, by go_num, Lib.hid ((hX.out.block _ hgx).trans HX.out), Lib.hid ((hX.out.block _ (by omega)).trans HZ.out), Lib.hid (below_step HB.out hX.out), Lib.hid ⟨HNN.out, HM.out.2⟩⟩
        case measure => simp [intOf]; omega
      | true =>
        have HNN : Hid ((p, q, r) = minF f (ls.take (k + 1))) := Lib.hid (by rw [HN.out, ← HM.out.1, HV.out, if_pos (of_decide_eq_true hvz)])
        go_wp2
        refine wp_region_grow (by kernel_rfl) (by kernel_rfl) ?_
        repeat (go_big_quiet_step ((first
          | (go_at_fn g; with_reducible exact Calls.grow_of (HC.out _))
          | fail)))
        refine wpQuiet_nil ?_
        rintro _ ⟨gq, rfl⟩
        have hX : Hid (Below wr.heap.size wr gq.v) := Lib.hid gq.h
        generalize gq.v = V1 at hX ⊢
        clear y0 y1 y2 y3 y4 y5 x0 x1 x2
        have d0 := (hX.out.cell (p := ⟨b, o + k * 3, none⟩) (Nat.lt_of_lt_of_le hb hsz)).trans d0
        have d1 := (hX.out.cell (p := ⟨b, o + k * 3 + 1, none⟩) (Nat.lt_of_lt_of_le hb hsz)).trans d1
        have d2 := (hX.out.cell (p := ⟨b, o + k * 3 + 2, none⟩) (Nat.lt_of_lt_of_le hb hsz)).trans d2
        have HZ1 := Lib.hid ((hX.out.block _ (by omega)).trans HZ.out)
        have HV1 := Lib.hid ((hX.out.block _ hgx).trans HX.out)
        go_wp2_with (refine wpList_store_row rfl 24 (.tmp 5) (.tmp 31) rfl (w.heap.size + 1) #[.int .i64 p, .int .i64 q, .int .i64 r] rfl rfl 24 _ HV1.out (by kernel_rfl) (by kernel_rfl) (by kernel_rfl) ?_; refine row_world3 w.heap.size w _ _ w.heap.size _ _ _ HV1.out (below_step HB.out hX.out) (by omega) (by omega) (fun X hX1 hX3 hX2 => ?_))
        go_roundw
        case rel => exact ⟨k + 1, p, q, r, by omega, by omega, by go_num, Lib.hid hX1, Lib.hid (hX3.trans HZ1.out), Lib.hid hX2, Lib.hid ⟨HNN.out, HPM.out⟩⟩
        case measure => simp [intOf]; omega
    · obtain rfl : k = ls.length := by omega
      have HE : Hid (lnV (minF f ls) = .agg #[.int .i64 x, .int .i64 y, .int .i64 z]) := Lib.hid (by have := HM.out.1; rw [List.take_length] at this; rw [← this]; rfl)
      have hgz : w.heap.size < wr.heap.size := (Array.getElem?_eq_some_iff.1 HZ.out).1
      go_wp2_with (refine wpList_store_row rfl 24 (.tmp 4) (.tmp 32) rfl w.heap.size #[.int .i64 x, .int .i64 y, .int .i64 z] rfl rfl 24 _ HZ.out (by kernel_rfl) (by kernel_rfl) (by kernel_rfl) ?_; refine row_world3 w.heap.size w _ _ (w.heap.size + 1) _ _ _ HZ.out HB.out (Nat.le_refl _) (by omega) (fun X hX1 hX3 hX2 => ?_))
      have r0 : X.cell? ⟨w.heap.size, 0, none⟩ = some (.int .i64 x) := by rw [cell_of_row X _ 0 _ _ (0, 0) hX1]; rfl
      have r1 : X.cell? ⟨w.heap.size, 1, none⟩ = some (.int .i64 y) := by rw [cell_of_row X _ 1 _ _ (0, 0) hX1]; rfl
      have r2 : X.cell? ⟨w.heap.size, 2, none⟩ = some (.int .i64 z) := by rw [cell_of_row X _ 2 _ _ (0, 0) hX1]; rfl
      exact bodyPost_ret (v := lnV (minF f ls)) (by rw [HE.out]; simp [results, Try.results111, go_sem, r0, r1, r2]) rfl ⟨rfl, hX2⟩
end Go.Proofs.Ytoilbgngefleiaa

/-
  Contract: the function literal of best (track): it compares what is told of two lines.
-/
namespace Go.Proofs.Ytoilbgngefleiaa
open Go Go.RowKit Go.Shelf

/-- A function that tells a ratio of a line. -/
def ToldAt (g : Nat) (T : Ln → Int × Int) (P : Ln → Prop) (A : Option Addr) (n c : Nat) (w : World) : Prop :=
  ∀ (W : World) (x : Ln), Below w.heap.size w W → P x → Calls Try.prog g #[.slice A n c, .agg #[.int .i64 x.1, .int .i64 x.2.1, .int .i64 x.2.2]] W fun e w' => e = .returned (.agg #[.int .i64 (T x).1, .int .i64 (T x).2]) ∧ Below W.heap.size W w'
/-- Ratios whose cross products do not run over. -/
def CrossOk (T : Ln → Int × Int) (P : Ln → Prop) : Prop :=
  ∀ x y, P x → P y → -9223372036854775808 ≤ (T x).1 * (T y).2 ∧ (T x).1 * (T y).2 ≤ 9223372036854775807
def cmpT (T : Ln → Int × Int) (x y : Ln) : Int := cmpV ((T x).1 * (T y).2) ((T y).1 * (T x).2)
set_option maxRecDepth 100000 in
set_option maxHeartbeats 1000000 in
theorem bestLit_any (g : Nat) (T : Ln → Int × Int) (P : Ln → Prop) (A : Option Addr) (n c : Nat) (w : World) (B0 B1 : Nat) (eg : ∀ args w, (callFunc g args).run Try.prog w = .ok (.enter g args) w) (hT : ToldAt g T P A n c w) (hC : CrossOk T P)
    (hB0 : B0 < w.heap.size) (hB1 : B1 < w.heap.size) (c0 : w.cell? ⟨B0, 0, none⟩ = some (.func (.func g) #[] #[])) (c1 : w.cell? ⟨B1, 0, none⟩ = some (.slice A n c)) (x y : Ln) (hx : P x) (hy : P y) :
    Calls Try.prog 112 #[lnV x, lnV y, .pointer (some ⟨B0, 0, none⟩), .pointer (some ⟨B1, 0, none⟩)] w fun e w' => e = .returned (.int .i64 (cmpT T x y)) ∧ Below w.heap.size w w' := by
  obtain ⟨x0, x1, x2⟩ := x
  obtain ⟨y0, y1, y2⟩ := y
  obtain ⟨⟨p, q⟩, hp⟩ : ∃ r, T (x0, x1, x2) = r := ⟨_, rfl⟩
  obtain ⟨⟨r, s⟩, hr⟩ : ∃ z, T (y0, y1, y2) = z := ⟨_, rfl⟩
  have b1 := hC _ _ hx hy
  have b2 := hC _ _ hy hx
  rw [hp, hr] at b1 b2
  simp only at b1 b2
  have HB := Lib.hid (And.intro b1 b2)
  have HE : Hid (cmpT T (x0, x1, x2) (y0, y1, y2) = cmpV (p * s) (r * q)) := Lib.hid (by rw [cmpT, hp, hr])
  obtain ⟨W0, hW0⟩ : ∃ W0, (w.alloc (.cells #[.int .i64 x0, .int .i64 x1, .int .i64 x2] 24)).alloc (.cells #[.int .i64 y0, .int .i64 y1, .int .i64 y2] 24) = W0 := ⟨_, rfl⟩
  have HW0 : Hid (Below w.heap.size w W0) := Lib.hid (by rw [← hW0]; exact ((Below.refl _ _).alloc (Nat.le_refl _) _).alloc (by simp) _)
  have HX : Hid (∀ G : Gw W0, Calls Try.prog g #[.slice A n c, .agg #[.int .i64 x0, .int .i64 x1, .int .i64 x2]] G.v fun e w' => e = .returned (.agg #[.int .i64 p, .int .i64 q]) ∧ Below G.v.heap.size G.v w') := Lib.hid fun G => by
    have := hT G.v (x0, x1, x2) (below_step HW0.out G.h) hx
    rw [hp] at this
    exact this
  have HY : Hid (∀ G : Gw W0, Calls Try.prog g #[.slice A n c, .agg #[.int .i64 y0, .int .i64 y1, .int .i64 y2]] G.v fun e w' => e = .returned (.agg #[.int .i64 r, .int .i64 s]) ∧ Below G.v.heap.size G.v w') := Lib.hid fun G => by
    have := hT G.v (y0, y1, y2) (below_step HW0.out G.h) hy
    rw [hr] at this
    exact this
  have hz : W0.heap.size = w.heap.size + 2 := by rw [← hW0]; simp
  have G0 : W0.heap[w.heap.size]? = some (.cells #[.int .i64 x0, .int .i64 x1, .int .i64 x2] 24 (0, 0)) := by rw [← hW0]; exact (Below.heap_alloc _ _ _ (by simp)).trans (heap_alloc_new _ _)
  have G1 : W0.heap[w.heap.size + 1]? = some (.cells #[.int .i64 y0, .int .i64 y1, .int .i64 y2] 24 (0, 0)) := by rw [← hW0]; simpa using heap_alloc_new (w.alloc (.cells #[.int .i64 x0, .int .i64 x1, .int .i64 x2] 24)) (.cells #[.int .i64 y0, .int .i64 y1, .int .i64 y2] 24)
  have k0 : ∀ G : Gw W0, G.v.cell? ⟨B0, 0, none⟩ = some (.func (.func g) #[] #[]) := fun G => ((G.cell (by omega)).trans (HW0.out.cell (p := ⟨B0, 0, none⟩) hB0)).trans c0
  have k1 : ∀ G : Gw W0, G.v.cell? ⟨B1, 0, none⟩ = some (.slice A n c) := fun G => ((G.cell (by omega)).trans (HW0.out.cell (p := ⟨B1, 0, none⟩) hB1)).trans c1
  have k2 : ∀ G : Gw W0, G.v.cell? ⟨w.heap.size, 0, none⟩ = some (.int .i64 x0) := fun G => (G.cell (by omega)).trans (by rw [cell_of_row W0 _ 0 _ _ (0, 0) G0]; rfl)
  have k3 : ∀ G : Gw W0, G.v.cell? ⟨w.heap.size, 1, none⟩ = some (.int .i64 x1) := fun G => (G.cell (by omega)).trans (by rw [cell_of_row W0 _ 1 _ _ (0, 0) G0]; rfl)
  have k4 : ∀ G : Gw W0, G.v.cell? ⟨w.heap.size, 2, none⟩ = some (.int .i64 x2) := fun G => (G.cell (by omega)).trans (by rw [cell_of_row W0 _ 2 _ _ (0, 0) G0]; rfl)
  have k5 : ∀ G : Gw W0, G.v.cell? ⟨w.heap.size + 1, 0, none⟩ = some (.int .i64 y0) := fun G => (G.cell (by omega)).trans (by rw [cell_of_row W0 _ 0 _ _ (0, 0) G1]; rfl)
  have k6 : ∀ G : Gw W0, G.v.cell? ⟨w.heap.size + 1, 1, none⟩ = some (.int .i64 y1) := fun G => (G.cell (by omega)).trans (by rw [cell_of_row W0 _ 1 _ _ (0, 0) G1]; rfl)
  have k7 : ∀ G : Gw W0, G.v.cell? ⟨w.heap.size + 1, 2, none⟩ = some (.int .i64 y2) := fun G => (G.cell (by omega)).trans (by rw [cell_of_row W0 _ 2 _ _ (0, 0) G1]; rfl)
  clear hT hC hx hy hp hr b1 b2 G0 G1 c0 c1 hB0 hB1 hz
  show Calls Try.prog 112 #[.agg #[.int .i64 x0, .int .i64 x1, .int .i64 x2], .agg #[.int .i64 y0, .int .i64 y1, .int .i64 y2], .pointer (some ⟨B0, 0, none⟩), .pointer (some ⟨B1, 0, none⟩)] w _
  go_enter Try.func112, Try.ntmps112
  go_wp2_with fail
  refine wp_region_grow (by kernel_rfl) (by kernel_rfl) ?_
  repeat (go_big_quiet_step ((first
    | (go_at_fn g; with_reducible exact Calls.grow_of (HX.out _))
    | (go_at_fn g; with_reducible exact Calls.grow_of (HY.out _))
    | (go_at_call 83; with_reducible exact Calls.grow_of (compare_any p q r s _ HB.out.1 HB.out.2))
    | fail)))
  refine wpQuiet_nil ?_
  rintro _ ⟨gq, rfl⟩
  have hX : Hid (Below w.heap.size w gq.v) := Lib.hid (below_step HW0.out gq.h)
  generalize gq.v = V1 at hX ⊢
  clear k0 k1 k2 k3 k4 k5 k6 k7
  go_wp2
  go_ret
  exact ⟨ret_int HE.out.symm, hX.out⟩
end Go.Proofs.Ytoilbgngefleiaa

/-
  Contract: best (track), for any way to make a line of two points and to tell a ratio of it.
-/
namespace Go.Proofs.Ytoilbgngefleiaa
open Go Go.RowKit Go.Shelf
attribute [local go_sem] Oper.semAt_some

/-- A function value that makes a line of two points. -/
def MadeAt (g : Nat) (lb : Array Value) (M : (Int × Int) × (Int × Int) → Ln) (w : World) : Prop :=
  ∀ (W : World) (x : (Int × Int) × (Int × Int)), Below w.heap.size w W → ptB x.1 = true → ptB x.2 = true → x.1.1 ≠ x.2.1 → Calls Try.prog g (encP x ++ lb) W fun e w' => e = .returned (lnV (M x)) ∧ Below W.heap.size W w'
theorem keepP_own {β : Type} {n₀ gb B : Nat} {w4 : World} (h4 : n₀ ≤ w4.heap.size) (hB : n₀ ≤ B) : OwnFrom B (fun (_ : β) W => KeepP n₀ gb w4 W) := fun _ W W' row hs hg hr =>
  ⟨Nat.le_trans hs.size hg.size, fun k h1 h2 => (hg.block k (Nat.lt_of_lt_of_le h1 (Nat.le_trans h4 hs.size)) (fun e => by have := (hr _ e.symm).1; omega)).trans (hs.blk k h1 h2),
    fun k cs hk hc => by
      have h1 := hs.box k cs hk hc
      refine (hg.block k (Array.getElem?_eq_some_iff.1 h1).1 (fun e => ?_)).trans h1
      obtain ⟨_, o, ho, hoc⟩ := hr k e.symm
      rw [h1] at ho
      cases ho
      cases hoc⟩
theorem keepP_put {n₀ gb : Nat} (W : World) (l : Nat) (o o' : Obj) (hl : n₀ ≤ l) (h : W.heap[l]? = some o) (hc : o.isCells = false) : KeepP n₀ gb W (W.putObj l o') :=
  keepP_own (β := Unit) (n₀ := n₀) (gb := gb) (B := n₀) (w4 := W) (Nat.le_trans hl (Nat.le_of_lt (Array.getElem?_eq_some_iff.1 h).1)) (Nat.le_refl _) () W _ (some l) (KeepP.refl _ _ _) (grownBy_putObj' W l o') (fun r e => by cases e; exact ⟨hl, o, h, hc⟩)
/-- What a round's two boxes hold. -/
def Two2 (n₁ : Nat) (x : (Int × Int) × (Int × Int)) (B8 B9 : Nat) (W : World) : Prop :=
  n₁ ≤ B8 ∧ n₁ ≤ B9 ∧ W.heap[B8]? = some (.cells #[.int .i64 x.1.1, .int .i64 x.1.2] 54 (0, 0)) ∧ W.heap[B9]? = some (.cells #[.int .i64 x.2.1, .int .i64 x.2.2] 54 (0, 0))
theorem two2_own {n₁ B : Nat} {x : (Int × Int) × (Int × Int)} (G : Nat → Nat → Prop) : OwnFrom B (fun (_ : Unit) W => ∃ B8 B9, Two2 n₁ x B8 B9 W ∧ G B8 B9) := fun _ W W' row hs hg hr => by
  obtain ⟨B8, B9, ⟨h1, h2, h3, h4⟩, hG⟩ := hs
  have key : ∀ (k : Nat) (cs : Array Value), W.heap[k]? = some (Obj.cells cs 54 (0, 0)) → W'.heap[k]? = some (Obj.cells cs 54 (0, 0)) := fun k cs hk => by
    refine (hg.block k (Array.getElem?_eq_some_iff.1 hk).1 (fun e => ?_)).trans hk
    obtain ⟨_, o, ho, hoc⟩ := hr k e.symm
    rw [hk] at ho
    cases ho
    cases hoc
  exact ⟨B8, B9, ⟨h1, h2, key _ _ h3, key _ _ h4⟩, hG⟩
theorem line_info : (Try.prog.info? 24).map (fun i => (i.zero, i.size, i.bytes)) = some (some (.agg #[.int .i64 0, .int .i64 0, .int .i64 0]), 3, 24) := by kernel_rfl
def elN {N : Nat} (hn : 0 < N) (k : Nat) : Fin N := ⟨k % N, Nat.mod_lt _ hn⟩
def encN (L : List ((Int × Int) × (Int × Int))) (j : Fin L.length) : Array Value := encP L[j.val]
theorem named_N {L : List ((Int × Int) × (Int × Int))} (hn : 0 < L.length) : Named (encN L) (elN hn) L := by
  intro m x hx
  obtain ⟨h1, h2⟩ := List.getElem?_eq_some_iff.1 hx
  have e : m % L.length = m := Nat.mod_eq_of_lt h1
  unfold encN elN
  simp only [e, h2]
/-- The lines of the pairs that have come. -/
def linesOf (L : List ((Int × Int) × (Int × Int))) (M : (Int × Int) × (Int × Int) → Ln) (pre : List (Fin L.length)) : List Ln := pre.map fun j => M L[j.val]
theorem linesOf_next {L : List ((Int × Int) × (Int × Int))} {M : (Int × Int) × (Int × Int) → Ln} {pre : List (Fin L.length)} {x : Fin L.length} {y : (Int × Int) × (Int × Int)} {z : Ln} (h : L[x.val] = y) (hM : M y = z) : (linesOf L M (pre ++ [x])).flatMap mk3 = (linesOf L M pre).flatMap mk3 ++ [.int .i64 z.1, .int .i64 z.2.1, .int .i64 z.2.2] := by
  rw [linesOf, List.map_append, List.flatMap_append]
  simp [linesOf, mk3, h, hM]
theorem keepsOthers_of_below {A B : World} (h : Below A.heap.size A B) : KeepsOthers A B := ⟨h.size, fun k _ hk _ => (h.block k (Array.getElem?_eq_some_iff.1 hk).1).trans hk⟩
theorem own_base2 {w : World} {base base' : Nat} {e : TypeId} {size : Nat} {v : Value} {n : Nat} {xs : List Value} (h : w.ownsRow base e size v n xs) (hb : base' ≤ base) : w.ownsRow base' e size v n xs :=
  ⟨h.1, h.2.imp id fun ⟨g, cap, cur, hv, hg, r⟩ => ⟨g, cap, cur, hv, Nat.le_trans hb hg, r⟩⟩
theorem keepP_app {n₁ gb n : Nat} {w5 w2 : World} {v : Value} {xs : List Value} {tmp : Obj} (u : Value) (hr : w5.ownsRow n₁ 24 3 v n xs) (hg : (w5.alloc tmp).grownBy w2 v.ownBlock) (hz : n₁ ≤ w5.heap.size) (hb : gb < n₁) : KeepP n₁ gb w5 (w2.setCell ⟨gb, 0, none⟩ u) := by
  have hs := hg.size
  simp only [World.size_alloc] at hs
  have key : ∀ k, k < w5.heap.size → v.ownBlock ≠ some k → k ≠ gb → (w2.setCell ⟨gb, 0, none⟩ u).heap[k]? = w5.heap[k]? := fun k hk hv hne => ((heap_setCell_other w2 ⟨gb, 0, none⟩ k u hne).trans (hg.block k (by simp; omega) (fun e => hv e.symm))).trans (Below.heap_alloc w5 tmp k hk)
  refine ⟨by rw [World.size_setCell]; omega, fun k h1 h2 => key k (by omega) (fun e => ?_) h2, fun k cs hk hc => (key k (Array.getElem?_eq_some_iff.1 hc).1 (fun e => ?_) (by omega)).trans hc⟩
  · have := (hr.lt _ e).1
    omega
  · rcases hr.2 with ⟨rfl, _⟩ | ⟨g, cap, cur, rfl, _, hh, _⟩
    · simp [Value.ownBlock] at e
    · simp [Value.ownBlock] at e
      subst e
      rw [hc] at hh
      injection hh with hh
      injection hh with _ h2
      exact absurd h2 (by decide)
def bestL (T : Ln → Int × Int) (M : (Int × Int) × (Int × Int) → Ln) (ms : List (Int × Int)) : Ln := minF (cmpT T) ((pairsL ms ms.length).map M)
theorem linesOf_all {L : List ((Int × Int) × (Int × Int))} (M : (Int × Int) × (Int × Int) → Ln) (hn : 0 < L.length) : linesOf L M (comeK (elN hn) L.length) = L.map M := by
  refine List.ext_getElem (by rw [linesOf, List.length_map, comeK_length, List.length_map]) fun j h1 h2 => ?_
  have hj : j < L.length := by simpa using h2
  have e : j % L.length = j := Nat.mod_eq_of_lt hj
  simp only [linesOf, comeK, List.getElem_map, List.getElem_range, elN, e]
theorem flat3_len (ls : List Ln) : (ls.flatMap mk3).length = ls.length * 3 := by
  induction ls with
  | nil => rfl
  | cons a t ih => rw [List.flatMap_cons, List.length_append, ih]; simp [mk3]; omega

set_option maxRecDepth 100000 in
set_option maxHeartbeats 4000000 in
theorem best_any (gm : Nat) (lm : Array Value) (M : (Int × Int) × (Int × Int) → Ln) (gt : Nat) (T : Ln → Int × Int) (P : Ln → Prop) (ms : List (Int × Int)) (A : Option Addr) (c : Nat) (w : World) (h : Clk w A c ms) (hv : viP ms = true) (hp : 0 < (pairsL ms ms.length).length) (hM : MadeAt gm lm M w) (hem : ∀ args w, (callFunc gm args).run Try.prog w = .ok (.enter gm args) w)
    (hT : ToldAt gt T P A ms.length c w) (het : ∀ args w, (callFunc gt args).run Try.prog w = .ok (.enter gt args) w) (hC : CrossOk T P) (hPM : ∀ x ∈ pairsL ms ms.length, P (M x)) :
    Calls Try.prog 94 #[.slice A ms.length c, .func (.func gm) #[] lm, .func (.func gt) #[] #[]] w fun e w' => e = .returned (lnV (bestL T M ms)) ∧ Below w.heap.size w w' := by
  obtain ⟨⟨hn1, hn2⟩, hpt, _⟩ := vi_parts hv
  have H := Lib.hid (And.intro h (And.intro hv (And.intro hM hpt)))
  obtain ⟨b, o, rfl, hb, hall⟩ := h.marks.open_ (by omega)
  have HALL := Lib.hid hall
  have hcap := h.le
  have hcm := h.cap
  have HEM := Lib.hid hem
  have HT := Lib.hid (And.intro hT (And.intro het (And.intro hC hPM)))
  clear h hv hM hpt hall hem hT het hC hPM
  obtain ⟨W0, hW0⟩ : ∃ W0, (((((w.alloc (.cells #[.slice (some ⟨b, o, none⟩) ms.length c] 22)).alloc (.cells #[.func (.func gm) #[] lm] 84)).alloc (.cells #[.func (.func gt) #[] #[]] 80)).alloc (.cells #[.int .i64 0, .int .i64 0, .int .i64 0] 24)).alloc (.cells #[.slice none 0 0] 124)).alloc (.cells #[.slice (some ⟨b, o, none⟩) ms.length c] 22) = W0 := ⟨_, rfl⟩
  refine (callsIn_wide (n := 4)).1 ?_
  refine callsIn_of_wp_marks Try.func94 rfl trivial ?_ rfl
  simp only [Try.ntmps94, List.size_toArray, List.length_cons, List.length_nil, Nat.reduceAdd, Nat.reduceSub, Array.replicate_succ, Array.replicate_zero, List.push_toArray, List.append_toArray, List.nil_append, List.cons_append]
  refine wpIn_wide.2 ?_
  go_wp2_with (first
    | (go_at_call 80; refine (pairs_call _ _ _ _).mono ?_; rintro e w' ⟨rfl, rfl⟩)
    | fail)
  have hsz : W0.heap.size = w.heap.size + 6 := by rw [← hW0]; simp
  have hB0 : Below w.heap.size w W0 := by
    rw [← hW0]
    exact ((((((Below.refl _ w).alloc (Nat.le_refl _) _).alloc (by simp) _).alloc (by simp; omega) _).alloc (by simp; omega) _).alloc (by simp; omega) _).alloc (by simp; omega) _
  have g3 : W0.cell? ⟨w.heap.size, 0, none⟩ = some (.slice (some ⟨b, o, none⟩) ms.length c) := by subst hW0; go_simp
  have g4 : W0.cell? ⟨w.heap.size + 1, 0, none⟩ = some (.func (.func gm) #[] lm) := by subst hW0; go_simp
  have g5 : W0.cell? ⟨w.heap.size + 1 + 1, 0, none⟩ = some (.func (.func gt) #[] #[]) := by subst hW0; go_simp
  have g6 : W0.heap[w.heap.size + 1 + 1 + 1]? = some (.cells #[.int .i64 0, .int .i64 0, .int .i64 0] 24 (0, 0)) := by
    rw [← hW0]
    refine (Below.heap_alloc _ _ _ (by first | (simp; done) | (simp; omega))).trans ((Below.heap_alloc _ _ _ (by first | (simp; done) | (simp; omega))).trans ?_)
    simpa using heap_alloc_new (((w.alloc (.cells #[.slice (some ⟨b, o, none⟩) ms.length c] 22)).alloc (.cells #[.func (.func gm) #[] lm] 84)).alloc (.cells #[.func (.func gt) #[] #[]] 80)) (.cells #[.int .i64 0, .int .i64 0, .int .i64 0] 24)
  have g7 : Boxed W0 (w.heap.size + 1 + 1 + 1 + 1) 124 (.slice none 0 0) := by
    show W0.heap[_]? = _
    rw [← hW0]
    refine (Below.heap_alloc _ _ _ (by simp)).trans ?_
    simpa using heap_alloc_new ((((w.alloc (.cells #[.slice (some ⟨b, o, none⟩) ms.length c] 22)).alloc (.cells #[.func (.func gm) #[] lm] 84)).alloc (.cells #[.func (.func gt) #[] #[]] 80)).alloc (.cells #[.int .i64 0, .int .i64 0, .int .i64 0] 24)) (.cells #[.slice none 0 0] 124)
  have g12 : W0.cell? ⟨w.heap.size + 1 + 1 + 1 + 1 + 1, 0, none⟩ = some (.slice (some ⟨b, o, none⟩) ms.length c) := by subst hW0; go_simp
  clear hW0
  obtain ⟨q, hq⟩ : ∃ q, w.heap.size = q := ⟨_, rfl⟩
  have HQ := Lib.hid hq
  rw [hq] at hsz hB0 g3 g4 g5 g6 g7 g12 hb ⊢
  clear hq
  have e12 : q + 1 + 1 + 1 + 1 + 1 < W0.heap.size := by omega
  refine (wpIn_wide (n := 4)).1 ?_
  refine wpIn_rangeFunc_ownH rfl (by omega) (gf := 107) (lb := #[.pointer (some ⟨q + 1 + 1 + 1 + 1 + 1, 0, none⟩)]) rfl trivial (enters_of Try.func107 (by kernel_rfl) rfl)
    (pairs_stops (encN (pairsL ms ms.length)) (elN hp) Fence.wide 3 trivial rfl (by omega) (q + 1 + 1 + 1 + 1 + 1) W0.heap.size (q + 1 + 1 + 1 + 1) (some ⟨b, o, none⟩) c ms (by omega) hcap hcm (named_N hp) W0 (Nat.le_refl _) ?hBs ?hA)
    KeepP.trans (fun W l o o' hl h1 h2 _ => keepP_put W l o o' hl h1 h2) (Below.refl _ _) (fun _ => rfl)
    (fun pre W => (KeepP W0.heap.size (q + 1 + 1 + 1 + 1) W0 W ∧ ∃ v, Boxed W (q + 1 + 1 + 1 + 1) 124 v ∧ W.ownsRow W0.heap.size 24 3 v pre.length ((linesOf (pairsL ms ms.length) M pre).flatMap mk3) ∧ True) ∧ Below q w W)
    (fun _ _ _ => False)
    (OwnFrom.and (OwnFrom.and (keepP_own (Nat.le_refl _) (Nat.le_refl _)) (Own.from (holdsRow_own _ _ _ _ _ _ _ _) _)) (ownFrom_below (by rw [HQ.out]; exact Nat.le_refl _) (by omega)))
    (fun _ _ _ _ _ hs _ _ => hs)
    ⟨⟨KeepP.refl _ _ _, _, g7, World.ownsRow_nil _ _ _ _, trivial⟩, hB0⟩
    (fun x a' W => ∃ B8 B9, Two2 W0.heap.size (pairsL ms ms.length)[x.val] B8 B9 W ∧ a' = { tmps := #[.slice (some ⟨b, o, none⟩) ms.length c, .func (.func gm) #[] lm, .func (.func gt) #[] #[], .pointer (some ⟨q, 0, none⟩), .pointer (some ⟨q + 1, 0, none⟩), .pointer (some ⟨q + 1 + 1, 0, none⟩), .pointer (some ⟨q + 1 + 1 + 1, 0, none⟩), .pointer (some ⟨q + 1 + 1 + 1 + 1, 0, none⟩), .pointer (some ⟨B8, 0, none⟩), .pointer (some ⟨B9, 0, none⟩), .slice (some ⟨b, o, none⟩) ms.length c, .func (.func 107) #[] #[.pointer (some ⟨q + 1 + 1 + 1 + 1 + 1, 0, none⟩)], .agg #[.int .i64 (pairsL ms ms.length)[x.val].1.1, .int .i64 (pairsL ms ms.length)[x.val].1.2], .agg #[.int .i64 (pairsL ms ms.length)[x.val].2.1, .int .i64 (pairsL ms ms.length)[x.val].2.2], undef, undef, undef, undef, undef, undef, undef, undef, undef, undef], defers := [] })
    (fun x a' => two2_own _) ?assign ?body ?done ?stop
  case hBs => exact fun W W' hB hK => ((hK.old ⟨q + 1 + 1 + 1 + 1 + 1, 0, none⟩ e12 (by show q + 1 + 1 + 1 + 1 + 1 ≠ _; omega)).trans (hB.cell (p := ⟨q + 1 + 1 + 1 + 1 + 1, 0, none⟩) e12)).trans g12
  case hA =>
    refine fun _ => ⟨b, o, rfl, fun W W' hB hK k m hm => ?_⟩
    have hbz : b < W0.heap.size := by omega
    have hkey : ∀ j, W'.cell? ⟨b, j, none⟩ = w.cell? ⟨b, j, none⟩ := fun j => ((hK.old ⟨b, j, none⟩ hbz (by show b ≠ _; omega)).trans (hB.cell (p := ⟨b, j, none⟩) hbz)).trans (hB0.cell (p := ⟨b, j, none⟩) hb)
    rw [hkey, hkey]
    exact HALL.out k m hm
  case assign =>
    rintro l pre x W K ⟨⟨hK, v, hv, hr, _⟩, hB⟩ hKK
    simp only [encN, encP]
    have hz : W0.heap.size ≤ W.heap.size := hK.size
    have hBW : Below W.heap.size W ((W.alloc (.cells #[.int .i64 (pairsL ms ms.length)[x.val].1.1, .int .i64 (pairsL ms ms.length)[x.val].1.2] 54)).alloc (.cells #[.int .i64 (pairsL ms ms.length)[x.val].2.1, .int .i64 (pairsL ms ms.length)[x.val].2.2] 54)) := ((Below.refl _ _).alloc (Nat.le_refl _) _).alloc (by simp) _
    have HH := Lib.hid (And.intro hK (And.intro hv (And.intro hr (And.intro hB hBW))))
    clear hK hv hr hB hBW
    gi_wp2
    refine hKK _ _ (((KeepsOthers.alloc _ _).trans (KeepsOthers.alloc _ _)).from _) (KeepP.of_below HH.out.2.2.2.2 hz) ⟨⟨HH.out.1.trans (KeepP.of_below HH.out.2.2.2.2 hz), v, (HH.out.2.1.alloc _).alloc _, (HH.out.2.2.1.alloc _).alloc _, trivial⟩, HH.out.2.2.2.1.trans (HH.out.2.2.2.2.mono (by omega))⟩ ⟨W.heap.size, W.heap.size + 1, ⟨hz, by omega, (Below.heap_alloc _ _ _ (by simp)).trans (heap_alloc_new _ _), by simpa using heap_alloc_new (W.alloc (.cells #[.int .i64 (pairsL ms ms.length)[x.val].1.1, .int .i64 (pairsL ms ms.length)[x.val].1.2] 54)) (.cells #[.int .i64 (pairsL ms ms.length)[x.val].2.1, .int .i64 (pairsL ms ms.length)[x.val].2.2] 54)⟩, rfl⟩
  case body =>
    rintro l pre x a' W hl hr ⟨⟨hK, v, hv, hrow, _⟩, hBw⟩ ⟨B8, B9, ⟨h8, h9, G8, G9⟩, rfl⟩ hpl
    have hxm := pairs_mem (ms := ms) (x := (pairsL ms ms.length)[x.val]) (List.getElem_mem _)
    obtain ⟨⟨⟨p0, p1⟩, ⟨q0, q1⟩⟩, hx⟩ : ∃ z, (pairsL ms ms.length)[x.val] = z := ⟨_, rfl⟩
    rw [hx] at hxm G8 G9
    simp only at G8 G9
    have hqW : q ≤ W.heap.size := by have := hK.size; omega
    have HM : Hid (∀ W1, Below W.heap.size W W1 → Calls Try.prog gm (#[.agg #[.int .i64 p0, .int .i64 p1], .agg #[.int .i64 q0, .int .i64 q1]] ++ lm) W1 fun e w' => e = .returned (lnV (M ((p0, p1), (q0, q1)))) ∧ Below W1.heap.size W1 w') := Lib.hid fun W1 hW1 => H.out.2.2.1 W1 ((p0, p1), (q0, q1)) (by rw [HQ.out]; exact hBw.trans (hW1.mono hqW)) (H.out.2.2.2 _ hxm.1) (H.out.2.2.2 _ hxm.2.1) hxm.2.2
    obtain ⟨⟨lx, ly, lz⟩, hML⟩ : ∃ z, M ((p0, p1), (q0, q1)) = z := ⟨_, rfl⟩
    rw [hML] at HM
    simp only [lnV] at HM
    have HML := Lib.hid hML
    clear hML
    obtain ⟨i0, hi0, hz0, hz1, hz2⟩ := info_parts line_info
    have HIN := Lib.hid (And.intro hi0 (And.intro hz0 (And.intro hz1 hz2)))
    clear hi0 hz0 hz1 hz2
    have hpl2 : pre.length ≤ 1000 := by have := pairsL_len ms ms.length; have : ms.length * ms.length ≤ 12 * 12 := Nat.mul_le_mul hn2 hn2; omega
    have c7 := hv.cell
    have c4 := (hK.old ⟨q + 1, 0, none⟩ (by show q + 1 < _; omega) (by show q + 1 ≠ _; omega)).trans g4
    have d0 : W.cell? ⟨B8, 0, none⟩ = some (.int .i64 p0) := by rw [cell_of_row W _ 0 _ _ (0, 0) G8]; rfl
    have d1 : W.cell? ⟨B8, 1, none⟩ = some (.int .i64 p1) := by rw [cell_of_row W _ 1 _ _ (0, 0) G8]; rfl
    have d2 : W.cell? ⟨B9, 0, none⟩ = some (.int .i64 q0) := by rw [cell_of_row W _ 0 _ _ (0, 0) G9]; rfl
    have d3 : W.cell? ⟨B9, 1, none⟩ = some (.int .i64 q1) := by rw [cell_of_row W _ 1 _ _ (0, 0) G9]; rfl
    have eg := HEM.out
    have hmx : Try.prog.follows .mixedOrders = true := by kernel_rfl
    have HX := Lib.hid hx
    have HK := Lib.hid hK
    have HV := Lib.hid hv
    have HR := Lib.hid hrow
    have HBW := Lib.hid hBw
    clear hx hxm hK hv hrow hBw G8 G9
    gi_wp2
    obtain ⟨Fin, hFin⟩ : ∃ Fin : World → Prop, Fin = fun w2 => KeepsFrom W0.heap.size W w2 ∧ KeepP W0.heap.size (q + 1 + 1 + 1 + 1) W w2 ∧ ((KeepP W0.heap.size (q + 1 + 1 + 1 + 1) W0 w2 ∧ ∃ v, Boxed w2 (q + 1 + 1 + 1 + 1) 124 v ∧ w2.ownsRow W0.heap.size 24 3 v (pre ++ [x]).length ((linesOf (pairsL ms ms.length) M (pre ++ [x])).flatMap mk3) ∧ True) ∧ Below q w w2) := ⟨_, rfl⟩
    refine wpIn_region_any hmx ?_
    refine any8 (fun l0 l1 l2 l3 l4 l5 l6 l7 a2 w2 => ((l4 = true → l1 = true ∧ l2 = true ∧ l3 = true) ∧ (l5 = true → l4 = true) ∧ (l6 = true → l5 = true ∧ l0 = true) ∧ (l7 = true → l6 = true)) ∧ ∃ u14 u15 u16 u17 u18 u19 u20 : Value, a2 = ⟨#[.slice (some ⟨b, o, none⟩) ms.length c, .func (.func gm) #[] lm, .func (.func gt) #[] #[], .pointer (some ⟨q, 0, none⟩), .pointer (some ⟨q + 1, 0, none⟩), .pointer (some ⟨q + 1 + 1, 0, none⟩), .pointer (some ⟨q + 1 + 1 + 1, 0, none⟩), .pointer (some ⟨q + 1 + 1 + 1 + 1, 0, none⟩), .pointer (some ⟨B8, 0, none⟩), .pointer (some ⟨B9, 0, none⟩), .slice (some ⟨b, o, none⟩) ms.length c, .func (.func 107) #[] #[.pointer (some ⟨q + 1 + 1 + 1 + 1 + 1, 0, none⟩)], .agg #[.int .i64 (pairsL ms ms.length)[x.val].1.1, .int .i64 (pairsL ms ms.length)[x.val].1.2], .agg #[.int .i64 (pairsL ms ms.length)[x.val].2.1, .int .i64 (pairsL ms ms.length)[x.val].2.2], u14, u15, u16, u17, u18, u19, u20, undef, undef, undef], []⟩ ∧
      (l0 = true → u14 = v) ∧ (l1 = true → u15 = .func (.func gm) #[] lm) ∧ (l2 = true → u16 = .agg #[.int .i64 p0, .int .i64 p1]) ∧ (l3 = true → u17 = .agg #[.int .i64 q0, .int .i64 q1]) ∧ (l4 = true → u18 = .agg #[.int .i64 lx, .int .i64 ly, .int .i64 lz]) ∧
      (l4 = false → w2 = W.drew) ∧ (l4 = true → l5 = false → Below W.heap.size W w2) ∧ (l5 = true → l6 = false → ∃ w5, Below W.heap.size W w5 ∧ w2 = w5.alloc (.cells #[.int .i64 lx, .int .i64 ly, .int .i64 lz] 24) ∧ u19 = .slice (some ⟨w5.heap.size, 0, none⟩) 1 1) ∧
      (l6 = true → l7 = false → ∃ w5 g6 cap6, Below W.heap.size W w5 ∧ u20 = .slice (some ⟨g6, 0, none⟩) (pre.length + 1) cap6 ∧ w2.ownsRow W0.heap.size 24 3 (.slice (some ⟨g6, 0, none⟩) (pre.length + 1) cap6) (pre.length + 1) ((linesOf (pairsL ms ms.length) M pre).flatMap mk3 ++ [.int .i64 lx, .int .i64 ly, .int .i64 lz]) ∧ (w5.alloc (.cells #[.int .i64 lx, .int .i64 ly, .int .i64 lz] 24)).grownBy w2 v.ownBlock) ∧
      (l7 = true → Fin w2)) (by decide +kernel) (by decide +kernel) (by kernel_rfl) (fun _ _ _ _ _ _ _ _ _ _ h => h.1) ?s0 ?s1 ?s2 ?s3 ?s4 ?s5 ?s6 ?s7 ?fin 8 false false false false false false false false _ _ rfl ⟨by simp, _, _, _, _, _, _, _, rfl, by simp, by simp, by simp, by simp, by simp, fun _ => rfl, by simp, by simp, by simp, by simp⟩
    case s0 =>
      rintro l1 l2 l3 l4 l5 l6 l7 a2 w2 ⟨⟨d1, d2, d3, d4⟩, u14, u15, u16, u17, u18, u19, u20, rfl, k0, k1, k2, k3, k4, k5, k6, k7, k8, k9⟩
      obtain rfl : l6 = false := by
        cases l6 with
        | false => rfl
        | true => have := d3 rfl; simp at this
      have hBW : Below W.heap.size W w2 := by
        cases l4 with
        | false => rw [k5 rfl]; exact below_drewN (Below.refl _ _) 1
        | true =>
          cases l5 with
          | false => exact k6 rfl rfl
          | true =>
            obtain ⟨w5, h1, h2, _⟩ := k7 rfl rfl
            rw [h2]
            exact h1.alloc h1.size _
      have c7w := (hBW.cell (p := ⟨q + 1 + 1 + 1 + 1, 0, none⟩) HV.out.lt).trans c7
      refine wpOpIn_step rfl (fun K hK => ?_)
      go_simp
      exact hK _ _ ⟨⟨(by first | exact d1 | simp), (by first | exact d2 | simp), (by first | exact (fun h => by cases h) | simp), (by first | exact d4 | simp)⟩, _, _, _, _, _, _, _, rfl, fun _ => rfl, (by first | exact k1 | exact fun _ => rfl | (intro h; cases h) | simp), (by first | exact k2 | exact fun _ => rfl | (intro h; cases h) | simp), (by first | exact k3 | exact fun _ => rfl | (intro h; cases h) | simp), (by first | exact k4 | exact fun _ => rfl | (intro h; cases h) | simp), (by first | exact k5 | exact fun _ => rfl | (intro h; cases h) | simp), (by first | exact k6 | exact fun _ => rfl | (intro h; cases h) | simp), (by first | exact k7 | exact fun _ => rfl | (intro h; cases h) | simp), (by first | exact k8 | exact fun _ => rfl | (intro h; cases h) | simp), (by first | exact k9 | exact fun _ => rfl | (intro h; cases h) | simp)⟩
    case s1 =>
      rintro l0 l2 l3 l4 l5 l6 l7 a2 w2 ⟨⟨d1, d2, d3, d4⟩, u14, u15, u16, u17, u18, u19, u20, rfl, k0, k1, k2, k3, k4, k5, k6, k7, k8, k9⟩
      have h4 : l4 = false := by
        cases l4 with
        | false => rfl
        | true => have := d1 rfl; simp at this
      subst h4
      obtain rfl := k5 rfl
      refine wpOpIn_step rfl (fun K hK => ?_)
      go_simp
      exact hK _ _ ⟨⟨(by first | exact (fun h => by cases h) | simp), (by first | exact d2 | simp), (by first | exact d3 | simp), (by first | exact d4 | simp)⟩, _, _, _, _, _, _, _, rfl, (by first | exact k0 | exact fun _ => rfl | (intro h; cases h) | simp), fun _ => rfl, (by first | exact k2 | exact fun _ => rfl | (intro h; cases h) | simp), (by first | exact k3 | exact fun _ => rfl | (intro h; cases h) | simp), (by first | exact k4 | exact fun _ => rfl | (intro h; cases h) | simp), fun _ => rfl, (by first | exact k6 | exact fun _ => rfl | (intro h; cases h) | simp), (by first | exact k7 | exact fun _ => rfl | (intro h; cases h) | simp), (by first | exact k8 | exact fun _ => rfl | (intro h; cases h) | simp), (by first | exact k9 | exact fun _ => rfl | (intro h; cases h) | simp)⟩
    case s2 =>
      rintro l0 l1 l3 l4 l5 l6 l7 a2 w2 ⟨⟨d1, d2, d3, d4⟩, u14, u15, u16, u17, u18, u19, u20, rfl, k0, k1, k2, k3, k4, k5, k6, k7, k8, k9⟩
      have h4 : l4 = false := by
        cases l4 with
        | false => rfl
        | true => have := d1 rfl; simp at this
      subst h4
      obtain rfl := k5 rfl
      refine wpOpIn_step rfl (fun K hK => ?_)
      go_simp
      exact hK _ _ ⟨⟨(by first | exact (fun h => by cases h) | simp), (by first | exact d2 | simp), (by first | exact d3 | simp), (by first | exact d4 | simp)⟩, _, _, _, _, _, _, _, rfl, (by first | exact k0 | exact fun _ => rfl | (intro h; cases h) | simp), (by first | exact k1 | exact fun _ => rfl | (intro h; cases h) | simp), fun _ => rfl, (by first | exact k3 | exact fun _ => rfl | (intro h; cases h) | simp), (by first | exact k4 | exact fun _ => rfl | (intro h; cases h) | simp), fun _ => rfl, (by first | exact k6 | exact fun _ => rfl | (intro h; cases h) | simp), (by first | exact k7 | exact fun _ => rfl | (intro h; cases h) | simp), (by first | exact k8 | exact fun _ => rfl | (intro h; cases h) | simp), (by first | exact k9 | exact fun _ => rfl | (intro h; cases h) | simp)⟩
    case s3 =>
      rintro l0 l1 l2 l4 l5 l6 l7 a2 w2 ⟨⟨d1, d2, d3, d4⟩, u14, u15, u16, u17, u18, u19, u20, rfl, k0, k1, k2, k3, k4, k5, k6, k7, k8, k9⟩
      have h4 : l4 = false := by
        cases l4 with
        | false => rfl
        | true => have := d1 rfl; simp at this
      subst h4
      obtain rfl := k5 rfl
      refine wpOpIn_step rfl (fun K hK => ?_)
      go_simp
      exact hK _ _ ⟨⟨(by first | exact (fun h => by cases h) | simp), (by first | exact d2 | simp), (by first | exact d3 | simp), (by first | exact d4 | simp)⟩, _, _, _, _, _, _, _, rfl, (by first | exact k0 | exact fun _ => rfl | (intro h; cases h) | simp), (by first | exact k1 | exact fun _ => rfl | (intro h; cases h) | simp), (by first | exact k2 | exact fun _ => rfl | (intro h; cases h) | simp), fun _ => rfl, (by first | exact k4 | exact fun _ => rfl | (intro h; cases h) | simp), fun _ => rfl, (by first | exact k6 | exact fun _ => rfl | (intro h; cases h) | simp), (by first | exact k7 | exact fun _ => rfl | (intro h; cases h) | simp), (by first | exact k8 | exact fun _ => rfl | (intro h; cases h) | simp), (by first | exact k9 | exact fun _ => rfl | (intro h; cases h) | simp)⟩
    case s4 =>
      rintro l0 l5 l6 l7 a2 w2 ⟨⟨d1, d2, d3, d4⟩, u14, u15, u16, u17, u18, u19, u20, rfl, k0, k1, k2, k3, k4, k5, k6, k7, k8, k9⟩
      obtain rfl : l5 = false := by
        cases l5 with
        | false => rfl
        | true => have := d2 rfl; simp at this
      obtain rfl : l6 = false := by
        cases l6 with
        | false => rfl
        | true => have := d3 rfl; simp at this
      obtain rfl : l7 = false := by
        cases l7 with
        | false => rfl
        | true => have := d4 rfl; simp at this
      obtain rfl := k1 rfl
      obtain rfl := k2 rfl
      obtain rfl := k3 rfl
      obtain rfl := k5 rfl
      refine wpOpIn_step rfl (fun K hK => ?_)
      go_simp
      gi_wp2_with (refine ⟨trivial, ?_⟩; gi_at_fn gm; refine (CallsIn.inRound l (callsIn_wide.2 (HM.out _ (below_drewN (Below.refl _ _) 1)))).mono ?_; rintro e w5 ⟨rfl, hB5⟩)
      exact ⟨⟨(by first | exact fun _ => ⟨rfl, rfl, rfl⟩ | simp), (by first | exact fun _ => rfl | simp), (by first | exact d3 | simp), (by first | exact d4 | simp)⟩, _, _, _, _, _, _, _, rfl, (by first | exact k0 | exact fun _ => rfl | (intro h; cases h) | simp), fun _ => rfl, fun _ => rfl, fun _ => rfl, fun _ => rfl, (fun h => by cases h), fun _ _ => below_step (below_drewN (Below.refl _ _) 1) hB5, (fun h => by cases h), (fun h => by cases h), (fun h => by cases h)⟩
    case s5 =>
      rintro l0 l1 l2 l3 l6 l7 a2 w2 ⟨⟨d1, d2, d3, d4⟩, u14, u15, u16, u17, u18, u19, u20, rfl, k0, k1, k2, k3, k4, k5, k6, k7, k8, k9⟩
      obtain rfl : l6 = false := by
        cases l6 with
        | false => rfl
        | true => have := d3 rfl; simp at this
      obtain rfl : l7 = false := by
        cases l7 with
        | false => rfl
        | true => have := d4 rfl; simp at this
      obtain rfl := k4 rfl
      have h5 := k6 rfl rfl
      refine wpOpIn_step rfl (fun K hK => ?_)
      go_simp
      exact hK _ _ ⟨⟨(by first | exact d1 | simp), (by first | exact fun _ => rfl | simp), (by first | exact (fun h => by cases h) | simp), (by first | exact (fun h => by cases h) | simp)⟩, _, _, _, _, _, _, _, rfl, (by first | exact k0 | exact fun _ => rfl | (intro h; cases h) | simp), (by first | exact k1 | exact fun _ => rfl | (intro h; cases h) | simp), (by first | exact k2 | exact fun _ => rfl | (intro h; cases h) | simp), (by first | exact k3 | exact fun _ => rfl | (intro h; cases h) | simp), fun _ => rfl, (fun h => by cases h), (fun _ h => by cases h), fun _ _ => ⟨w2, h5, rfl, rfl⟩, (fun h => by cases h), (fun h => by cases h)⟩
    case s6 =>
      rintro l1 l2 l3 l4 l7 a2 w2 ⟨⟨d1, d2, d3, d4⟩, u14, u15, u16, u17, u18, u19, u20, rfl, k0, k1, k2, k3, k4, k5, k6, k7, k8, k9⟩
      obtain rfl : l7 = false := by
        cases l7 with
        | false => rfl
        | true => have := d4 rfl; simp at this
      obtain rfl : l4 = true := d2 rfl
      obtain rfl := k0 rfl
      obtain ⟨w5, h5, rfl, rfl⟩ := k7 rfl rfl
      refine wpOpIn_step rfl (fun K hK => ?_)
      refine stepIn_append rfl (.tmp 14) (.tmp 19) 124 rfl W0.heap.size 24 i0 (.agg #[.int .i64 0, .int .i64 0, .int .i64 0]) 3 24 Try.underlying124 HIN.out.1 HIN.out.2.1 HIN.out.2.2.1 HIN.out.2.2.2 rfl (by decide) u14 pre.length _ rfl ((own_below HR.out h5).alloc _) ⟨w5.heap.size, 0, none⟩ 1 1 [.int .i64 lx, .int .i64 ly, .int .i64 lz] rfl rfl (cells_new w5 [.int .i64 lx, .int .i64 ly, .int .i64 lz] 24) (by intro u hu; simp at hu; rcases hu with rfl | rfl | rfl <;> rfl) (by unfold maxLen; omega) (by omega) (by have := HK.out.size; have := h5.size; simp; omega) ?_
      intro v6 w6 hown6 hg6
      obtain ⟨g6, cap6, rfl⟩ := ownsRow_succ hown6
      exact hK _ _ ⟨⟨(by first | exact d1 | simp), (by first | exact d2 | simp), (by first | exact fun _ => ⟨rfl, rfl⟩ | simp), (by first | exact (fun h => by cases h) | simp)⟩, _, _, _, _, _, _, _, rfl, fun _ => rfl, (by first | exact k1 | exact fun _ => rfl | (intro h; cases h) | simp), (by first | exact k2 | exact fun _ => rfl | (intro h; cases h) | simp), (by first | exact k3 | exact fun _ => rfl | (intro h; cases h) | simp), (by first | exact k4 | exact fun _ => rfl | (intro h; cases h) | simp), (fun h => by cases h), (fun _ h => by cases h), (fun _ h => by cases h), fun _ _ => ⟨w5, g6, cap6, h5, rfl, hown6, hg6⟩, (fun h => by cases h)⟩
    case s7 =>
      rintro l0 l1 l2 l3 l4 l5 a2 w2 ⟨⟨d1, d2, d3, d4⟩, u14, u15, u16, u17, u18, u19, u20, rfl, k0, k1, k2, k3, k4, k5, k6, k7, k8, k9⟩
      obtain ⟨e5, e0⟩ := d3 rfl
      subst e5 e0
      obtain rfl := d2 rfl
      obtain ⟨w5, g6, cap6, h5, rfl, hown6, hg6⟩ := k8 rfl rfl
      have hv5 : Boxed w5 (q + 1 + 1 + 1 + 1) 124 v := (h5.block _ HV.out.lt).trans HV.out
      have hr5 := own_below HR.out h5
      have hz5 : W0.heap.size ≤ w5.heap.size := Nat.le_trans HK.out.size h5.size
      obtain ⟨a1, a2, _, a4, a5⟩ := hv5.appended (n₀ := q) (by decide) (own_base2 hr5 (by omega)) (by omega) (by omega) (own_base2 hown6 (by omega)) hg6
      have a3 := hown6.kept (grownBy_setCell' w2 (q + 1 + 1 + 1 + 1) (.slice (some ⟨g6, 0, none⟩) (pre.length + 1) cap6)) (.inr (a1.not_row (by decide) hown6).symm)
      have a6 := keepP_app (gb := q + 1 + 1 + 1 + 1) (.slice (some ⟨g6, 0, none⟩) (pre.length + 1) cap6) hr5 hg6 hz5 (by omega)
      have hfin : Fin (w2.setCell ⟨q + 1 + 1 + 1 + 1, 0, none⟩ (.slice (some ⟨g6, 0, none⟩) (pre.length + 1) cap6)) := by
        rw [hFin]
        have b1 : KeepP W0.heap.size (q + 1 + 1 + 1 + 1) W (w2.setCell ⟨q + 1 + 1 + 1 + 1, 0, none⟩ (.slice (some ⟨g6, 0, none⟩) (pre.length + 1) cap6)) := (KeepP.of_below h5 HK.out.size).trans a6
        refine ⟨((keepsOthers_of_below h5).trans a4).from _, b1, ⟨HK.out.trans b1, _, a2, ?_, trivial⟩, HBW.out.trans ((h5.mono hqW).trans a5)⟩
        rw [linesOf_next (z := (lx, ly, lz)) HX.out HML.out, List.length_append]
        exact a3
      have c7w := a1.cell
      have f7w := a1.frozen
      refine wpOpIn_step rfl (fun K hK => ?_)
      go_simp
      exact hK _ _ ⟨⟨(by first | exact d1 | simp), (by first | exact d2 | simp), (by first | exact d3 | simp), (by first | exact fun _ => rfl | simp)⟩, _, _, _, _, _, _, _, rfl, (by first | exact k0 | exact fun _ => rfl | (intro h; cases h) | simp), (by first | exact k1 | exact fun _ => rfl | (intro h; cases h) | simp), (by first | exact k2 | exact fun _ => rfl | (intro h; cases h) | simp), (by first | exact k3 | exact fun _ => rfl | (intro h; cases h) | simp), (by first | exact k4 | exact fun _ => rfl | (intro h; cases h) | simp), (fun h => by cases h), (fun _ h => by cases h), (fun _ h => by cases h), (fun _ h => by cases h), fun _ => hfin⟩
    case fin =>
      rintro a2 w2 ⟨_, u14, u15, u16, u17, u18, u19, u20, rfl, k0, k1, k2, k3, k4, k5, k6, k7, k8, k9⟩
      have hF := k9 rfl
      rw [hFin] at hF
      exact hF
  case done =>
    rintro D pre W hD hS ⟨⟨hK, v, hv, hr, _⟩, hBw⟩ hKD
    have hN1 : pre.length = (pairsL ms ms.length).length := by rw [hS, comeK_length]
    have hLA : linesOf (pairsL ms ms.length) M pre = (pairsL ms ms.length).map M := by rw [hS]; exact linesOf_all M hp
    rw [hLA, hN1] at hr
    have hN2 : (pairsL ms ms.length).length ≤ 1000 := by have := pairsL_len ms ms.length; have : ms.length * ms.length ≤ 12 * 12 := Nat.mul_le_mul hn2 hn2; omega
    obtain ⟨g, cap, rfl, hgb, hgl⟩ := hr.form hp
    obtain ⟨ls, hls⟩ : ∃ ls, (pairsL ms ms.length).map M = ls := ⟨_, rfl⟩
    have hll : (pairsL ms ms.length).length = ls.length := by rw [← hls, List.length_map]
    rw [hls, hll] at hr
    rw [hll] at hv hN2 hp
    have HR : Hid (LinesR W (some ⟨g, 0, none⟩) ls) := Lib.hid (Reads.of_own hr)
    have hqW : q ≤ W.heap.size := by have := hK.size; omega
    have hz0 : W0.heap.size ≤ W.heap.size := hK.size
    have HPL : Hid (∀ x ∈ ls, P x) := Lib.hid fun x hx => by
      rw [← hls] at hx
      obtain ⟨y, hy, rfl⟩ := List.mem_map.1 hx
      exact HT.out.2.2.2 y hy
    have HBW := Lib.hid hBw
    have c5 := (hK.old ⟨q + 1 + 1, 0, none⟩ (by show q + 1 + 1 < _; omega) (by show q + 1 + 1 ≠ _; omega)).trans g5
    have c3 := (hK.old ⟨q, 0, none⟩ (by show q < _; omega) (by show q ≠ _; omega)).trans g3
    have c6 := (hK.blk (q + 1 + 1 + 1) (by omega) (by omega)).trans g6
    have HLC : Hid (LCmp 112 #[.pointer (some ⟨q + 1 + 1, 0, none⟩), .pointer (some ⟨q, 0, none⟩)] (cmpT T) ls W) := Lib.hid fun W1 x y hW1 hx hy =>
      bestLit_any gt T P (some ⟨b, o, none⟩) ms.length c W1 (q + 1 + 1) q HT.out.2.1 (fun W2 x2 h2 h3 => HT.out.1 W2 x2 (by rw [HQ.out]; exact HBW.out.trans ((hW1.mono hqW).trans (h2.mono (Nat.le_trans hqW hW1.size)))) h3) HT.out.2.2.1 (by have := hW1.size; omega) (by have := hW1.size; omega) ((hW1.cell (p := ⟨q + 1 + 1, 0, none⟩) (by show q + 1 + 1 < _; omega)).trans c5) ((hW1.cell (p := ⟨q, 0, none⟩) (by show q < _; omega)).trans c3) x y (HPL.out x hx) (HPL.out y hy)
    have HEN : Hid (∀ args w, (callFunc 112 args).run Try.prog w = .ok (.enter 112 args) w) := Lib.hid (enters_of Try.func112 (by kernel_rfl) rfl)
    have c7 := hv.cell
    obtain ⟨⟨rx, ry, rz⟩, hbr⟩ : ∃ z, minF (cmpT T) ls = z := ⟨_, rfl⟩
    have HMF : Hid (Calls Try.prog 111 #[.slice (some ⟨g, 0, none⟩) ls.length cap, .func (.func 112) #[] #[.pointer (some ⟨q + 1 + 1, 0, none⟩), .pointer (some ⟨q, 0, none⟩)]] W fun e w' => e = .returned (.agg #[.int .i64 rx, .int .i64 ry, .int .i64 rz]) ∧ Below W.heap.size W w') := Lib.hid (by
      have q1 := minFunc_any 112 #[.pointer (some ⟨q + 1 + 1, 0, none⟩), .pointer (some ⟨q, 0, none⟩)] (cmpT T) HEN.out ls (some ⟨g, 0, none⟩) cap W HR.out hN2 hp HLC.out
      rw [hbr] at q1
      exact q1)
    have HBR : Hid (lnV (bestL T M ms) = .agg #[.int .i64 rx, .int .i64 ry, .int .i64 rz]) := Lib.hid (by rw [bestL, hls, hbr]; rfl)
    have hDl := (Array.getElem?_eq_some_iff.1 hKD).1
    have HC6 := Lib.hid c6
    have HKD := Lib.hid hKD
    clear hS hN1 hLA hr hls hll HLC HR c5 c3 c6 hbr hKD hv hK hBw
    go_wp2_with (first
      | (go_at_call 111; refine HMF.out.mono ?_; rintro e w7 ⟨rfl, hB7⟩; have hc7 := (hB7.block _ (by omega)).trans HC6.out; have hd7 := (hB7.block _ hDl).trans HKD.out)
      | (refine wpList_store_row rfl 24 (.tmp 6) (.tmp 23) rfl (q + 1 + 1 + 1) #[.int .i64 rx, .int .i64 ry, .int .i64 rz] rfl rfl 24 _ hc7 (by kernel_rfl) (by kernel_rfl) (by kernel_rfl) ?_; refine row_world3 q w _ _ D _ _ _ hc7 (HBW.out.trans (hB7.mono hqW)) (by omega) (by omega) (fun X hX1 hX3 hX2 => ?_))
      | fail)
    refine ⟨by simp, .inl ⟨_, _, rfl, run_takeDeferred (hX3.trans hd7), ?_⟩⟩
    have hne : q + 1 + 1 + 1 ≠ D := by omega
    have r0 : (X.putObj D (.deferred none)).cell? ⟨q + 1 + 1 + 1, 0, none⟩ = some (.int .i64 rx) := (World.cell?_of_block (World.putObj_heap_other hne)).trans (by rw [cell_of_row X _ 0 _ _ (0, 0) hX1]; rfl)
    have r1 : (X.putObj D (.deferred none)).cell? ⟨q + 1 + 1 + 1, 1, none⟩ = some (.int .i64 ry) := (World.cell?_of_block (World.putObj_heap_other hne)).trans (by rw [cell_of_row X _ 1 _ _ (0, 0) hX1]; rfl)
    have r2 : (X.putObj D (.deferred none)).cell? ⟨q + 1 + 1 + 1, 2, none⟩ = some (.int .i64 rz) := (World.cell?_of_block (World.putObj_heap_other hne)).trans (by rw [cell_of_row X _ 2 _ _ (0, 0) hX1]; rfl)
    refine ⟨.agg #[.int .i64 rx, .int .i64 ry, .int .i64 rz], (by simp [results, Try.f94, go_sem, r0, r1, r2]), ?_⟩
    refine ⟨by rw [HBR.out], ?_⟩
    have hfin := hX2.trans ((Below.refl q X).grown (grownBy_putObj' X D (.deferred none)) (by have := hX2.size; have := HQ.out; omega) (fun k e => by cases e; omega))
    rw [HQ.out]
    exact hfin
  case stop =>
    rintro D c pre W _ _ h _
    exact h.elim
end Go.Proofs.Ytoilbgngefleiaa

