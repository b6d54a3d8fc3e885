/-
  Texts of this seat, joined: each with its own head.
-/
import Derived.IntWalk
import Derived.Below
import Derived.Test.YtmlkdjcjfkfdiaaProg
import Derived.WalkKit
import Derived.WalkSpells
import Derived.WalkLawsBesides
import Derived.Deep.QuietTactic
import Derived.BigQuiet
import Derived.Lib.Hide
import Derived.Deep.AppendLies
import Derived.Deep.Draws
import Derived.Deep.DeepFit
import Derived.Handy
import Derived.Maps.OwnSet
import Derived.StillTailTactics
import Derived.Deep.RegionHeld3
import Derived.DeepKeys4
import Derived.Shelf.Abstract
import Derived.ChangeAlike
import Derived.BigRegion
/-
  Plain lemmas on lists and numbers; nothing of the program.
-/
namespace Go.Proofs.Ytmlkdjcjfkfdiaa
open Go Go.RowKit

theorem take_snoc {α : Type} {zs : List α} {k : Nat} {z : α} (h : zs[k]? = some z) : zs.take (k + 1) = zs.take k ++ [z] := by
  rw [List.take_add_one, h]; rfl
theorem all_snoc {α : Type} {p : α → Bool} {zs : List α} {k : Nat} {z : α} (h : zs[k]? = some z) : (zs.take (k + 1)).all p = ((zs.take k).all p && p z) := by
  rw [take_snoc h]; simp
theorem all_full {α : Type} {p : α → Bool} {zs : List α} {k : Nat} (hk : zs.length ≤ k) : (zs.take k).all p = zs.all p := by
  rw [List.take_of_length_le hk]
theorem all_not {α : Type} {p : α → Bool} {zs : List α} {k : Nat} {z : α} (h : zs[k]? = some z) (hp : p z = false) : zs.all p = false := by
  rw [List.all_eq_false]
  exact ⟨z, List.mem_of_getElem? h, by simp [hp]⟩
theorem ret_bool {a b : Bool} (h : a = b) : Ending.returned (.bool a) = .returned (.bool b) := by rw [h]
theorem ret_int {k : IntKind} {a b : Int} (h : a = b) : Ending.returned (.int k a) = .returned (.int k b) := by rw [h]
theorem getElem?_of_lt {α : Type} {zs : List α} {k : Nat} (h : k < zs.length) : ∃ z, zs[k]? = some z := ⟨_, List.getElem?_eq_getElem h⟩
theorem getM_of_lt {ms : List (Int × Int)} {k : Nat} (h : k < ms.length) : ∃ a b, ms[k]? = some (a, b) := ⟨_, _, List.getElem?_eq_getElem h⟩
theorem getD_of {zs : List Int} {k : Nat} {z : Int} (h : zs[k]? = some z) : zs.getD k 0 = z := by rw [List.getD_eq_getElem?_getD, h]; rfl
theorem below_step {w w1 w2 : World} (h : Below w.heap.size w w1) (k : Below w1.heap.size w1 w2) : Below w.heap.size w w2 := h.trans (k.mono h.size)
theorem filter_snoc {α : Type} {p : α → Bool} {zs : List α} {k : Nat} {z : α} (h : zs[k]? = some z) : (zs.take (k + 1)).filter p = (zs.take k).filter p ++ (if p z then [z] else []) := by
  rw [take_snoc h, List.filter_append]; cases hp : p z <;> simp [hp]
theorem any_snoc {α : Type} {p : α → Bool} {zs : List α} {k : Nat} {z : α} (h : zs[k]? = some z) : (zs.take (k + 1)).any p = ((zs.take k).any p || p z) := by
  rw [take_snoc h]; simp
end Go.Proofs.Ytmlkdjcjfkfdiaa

/-
  Words for memory that the walks of this seat share: a slice that reads as a list.
-/
namespace Go.Proofs.Ytmlkdjcjfkfdiaa
open Go.RowKit

theorem below_drewN {B : Nat} {a w : World} (h : Below B a w) (n : Nat) : Below B a (w.drewN n) := ⟨h.os, h.tape, h.output, h.size, h.block⟩
theorem block_of_add (a : Addr) (n : Nat) : (a.add n).block = a.block := by unfold Addr.add; split <;> rfl
theorem add_of_add (a : Addr) (i j : Nat) : (a.add i).add j = a.add (i + j) := by
  unfold Addr.add
  by_cases hi : i = 0 <;> by_cases hj : j = 0 <;> simp [hi, hj, Nat.add_assoc]

def Reads (w : World) (B size : Nat) (A : Option Addr) (n : Nat) (xs : List Value) : Prop :=
  xs.length = n * size ∧ (0 < n → ∃ ad, A = some ad ∧ ad.block < B ∧ ∀ j u, xs[j]? = some u → w.cell? (ad.add j) = some u)

section
variable {w w' : World} {B B' size n : Nat} {A : Option Addr} {xs : List Value}
theorem Reads.none_ : Reads w B size A 0 [] := ⟨by simp, fun h => absurd h (by omega)⟩
theorem Reads.at_ {k : Nat} (h : Reads w B 1 A n xs) (hk : k < n) : ∃ ad u, A = some ad ∧ ad.block < B ∧ xs[k]? = some u ∧ w.cell? (ad.add k) = some u := by
  obtain ⟨ad, e, hb, hc⟩ := h.2 (by omega)
  have hl : k < xs.length := by have := h.1; omega
  exact ⟨ad, xs[k], e, hb, List.getElem?_eq_getElem hl, hc k _ (List.getElem?_eq_getElem hl)⟩
theorem Reads.keep (h : Reads w B size A n xs) (hk : ∀ p : Addr, p.block < B → w'.cell? p = w.cell? p) : Reads w' B size A n xs :=
  ⟨h.1, fun hn => by
    obtain ⟨ad, e, hb, hc⟩ := h.2 hn
    exact ⟨ad, e, hb, fun j u hu => (hk _ (by rw [block_of_add]; exact hb)).trans (hc j u hu)⟩⟩
theorem Reads.more (h : Reads w B size A n xs) (hB : B ≤ B') : Reads w B' size A n xs :=
  ⟨h.1, fun hn => by
    obtain ⟨ad, e, hb, hc⟩ := h.2 hn
    exact ⟨ad, e, by omega, hc⟩⟩
theorem Reads.below (h : Reads w B size A n xs) (hb : Below B w w') : Reads w' B size A n xs := h.keep fun _ hp => hb.cell hp
theorem Reads.drew (h : Reads w B size A n xs) : Reads w.drew B size A n xs := h
theorem Reads.drewN (h : Reads w B size A n xs) (k : Nat) : Reads (w.drewN k) B size A n xs := h
theorem Reads.of_own {base : Nat} {e : TypeId} {c : Nat} (h : w.ownsRow base e size (.slice A n c) n xs) : Reads w w.heap.size size A n xs := by
  refine ⟨h.1, fun hn => ?_⟩
  obtain ⟨g, cap, hv, _, hlt⟩ := h.form hn
  have hA : A = some ⟨g, 0, none⟩ := by injection hv
  subst hA
  exact ⟨_, rfl, hlt, h.cells (g := g) rfl⟩
end

/-- A slice of ints that reads as the list zs. -/
def Ints (w : World) (A : Option Addr) (zs : List Int) : Prop := Reads w w.heap.size 1 A zs.length (zs.map (Value.int .i64))

theorem Ints.at_ {w : World} {A : Option Addr} {zs : List Int} (h : Ints w A zs) {k : Nat} (hk : k < zs.length) :
    ∃ ad, A = some ad ∧ ad.block < w.heap.size ∧ w.cell? (ad.add k) = some (.int .i64 (zs.getD k 0)) := by
  obtain ⟨ad, u, e, hb, hx, hc⟩ := Reads.at_ h hk
  refine ⟨ad, e, hb, ?_⟩
  rw [List.getElem?_map, List.getElem?_eq_getElem hk] at hx
  simp only [Option.map_some, Option.some.injEq] at hx
  rw [hc, ← hx, List.getD_eq_getElem?_getD, List.getElem?_eq_getElem hk]; rfl
/-- The element at k, by a name of its own; what it is stays hidden from the walk. -/
theorem Ints.get {w : World} {A : Option Addr} {zs : List Int} (h : Ints w A zs) {k : Nat} (hk : k < zs.length) :
    ∃ ad z, A = some ad ∧ ad.block < w.heap.size ∧ Hid (zs[k]? = some z) ∧ w.cell? (ad.add k) = some (.int .i64 z) := by
  obtain ⟨ad, e, hb, hc⟩ := h.at_ hk
  refine ⟨ad, zs[k], e, hb, List.getElem?_eq_getElem hk, ?_⟩
  rw [hc, List.getD_eq_getElem?_getD, List.getElem?_eq_getElem hk]; rfl
theorem add_mk (b o k : Nat) : (⟨b, o, none⟩ : Addr).add k = ⟨b, o + k, none⟩ := by
  unfold Addr.add; split <;> simp_all
/-- The address of a list that is not empty, written out. -/
theorem Ints.open_ {w : World} {A : Option Addr} {zs : List Int} (h : Ints w A zs) (hn : 0 < zs.length) :
    ∃ b o, A = some ⟨b, o, none⟩ ∧ b < w.heap.size ∧ ∀ (k : Nat) (z : Int), zs[k]? = some z → w.cell? ⟨b, o + k, none⟩ = some (.int .i64 z) := by
  obtain ⟨ad, u, e, hb, _, hc⟩ := Reads.at_ h hn
  obtain ⟨b, o, s⟩ := ad
  have hs : s = none := by simpa [Addr.add] using World.cell?_spot hc
  subst hs
  refine ⟨b, o, e, hb, fun k z hz => ?_⟩
  obtain ⟨ad', e', _, hall⟩ := h.2 hn
  rw [e] at e'
  obtain rfl := Option.some.inj e'
  rw [← add_mk]
  exact hall k _ (by rw [List.getElem?_map, hz]; rfl)
theorem Ints.below {w w' : World} {A : Option Addr} {zs : List Int} (h : Ints w A zs) (hb : Below w.heap.size w w') : Ints w' A zs :=
  (Reads.below h hb).more hb.size
theorem Ints.nil_ {w : World} {A : Option Addr} : Ints w A [] := Reads.none_

/-- A slice of ints as a call hands it back: what it reads as, and that its capacity is no nonsense. -/
structure Out (w : World) (A : Option Addr) (c : Nat) (zs : List Int) : Prop where
  ints : Ints w A zs
  le : zs.length ≤ c
  cap : c ≤ maxLen
theorem Out.nil_ {w : World} {A : Option Addr} : Out w A 0 [] := ⟨Ints.nil_, Nat.le_refl _, Nat.zero_le _⟩
theorem Out.below {w w' : World} {A : Option Addr} {c : Nat} {zs : List Int} (h : Out w A c zs) (hb : Below w.heap.size w w') : Out w' A c zs := ⟨h.ints.below hb, h.le, h.cap⟩
end Go.Proofs.Ytmlkdjcjfkfdiaa

/-
  A set that the call keeps as a map with bools: what a look-up in it says.
-/
namespace Go.Proofs.Ytmlkdjcjfkfdiaa
open Go.RowKit Go.Maps Go.WideMaps Go.WideShapes

section
variable {H : Type}
theorem plainElem_bool_inv {P : Program} {e : TypeId} (he : P.underlying e = some .bool) {v : Value} {z : DataW H × List MemPlace} (h : plainElem P e v = some z) : ∃ x, v = .bool x ∧ z = (.lit (.bool x), []) := by
  unfold plainElem at h
  rw [he] at h
  cases v <;> simp at h
  subst h
  exact ⟨_, rfl, rfl⟩

theorem wp_look_bool {P : Program} (w : World) {ops : Array Oper} {rest : List Oper} {o : Oper} {a : Act} {Q : Exit → Act → World → Prop}
    (hg : o.guard = none) (m x : Operand) (t : TypeId) (hop : o.op = Op.lookup t m x false)
    (k e : TypeId) (K : Keyed P k) (ht : P.underlying t = some (.map k e)) (he : P.underlying e = some .bool) (hz : (zeroValue e).run P w = .ok (.bool false) w) (b n : Nat) (D : DataW H)
    (hm : a.eval m = .map (some b)) (hown : w.ownsMap P k (plainElem P e) b n D) (key : Value) (kl : Lit) (hx : a.eval x = key) (hkey : keyOf P k key = some kl)
    (hK : ∀ c : Bool, D.atKey kl (.lit (.bool false)) = .lit (.bool c) → wpList P ops Q rest (a.put o.dst (.bool c)) w) :
    wpList P ops Q (o :: rest) a w := by
  refine wpList_plain hg fun K' hK' => ?_
  obtain ⟨v, ps, hrun, hv⟩ := hown.lookup K ht hz (plainElem_bool he false) hkey
  obtain ⟨c, rfl, hc⟩ := plainElem_bool_inv he hv
  simp only [Prod.mk.injEq] at hc
  unfold Oper.wp
  simp [execOp, hop, hm, hx, hrun, Result.andThen]
  exact hK' _ _ (hK c hc.1)

theorem look_bool {P : Program} {w : World} {t k e : TypeId} (K : Keyed P k) (ht : P.underlying t = some (.map k e)) (he : P.underlying e = some .bool) (hz : (zeroValue e).run P w = .ok (.bool false) w) {b n : Nat} {D : DataW H}
    (hown : w.ownsMap P k (plainElem P e) b n D) {key : Value} {kl : Lit} (hkey : keyOf P k key = some kl) :
    ∃ c : Bool, (Instr.lookup t (.map (some b)) key false).run P w = .ok (.bool c) w ∧ D.atKey kl (.lit (.bool false)) = .lit (.bool c) := by
  obtain ⟨v, ps, hrun, hv⟩ := hown.lookup K ht hz (plainElem_bool he false) hkey
  obtain ⟨c, rfl, hc⟩ := plainElem_bool_inv he hv
  simp only [Prod.mk.injEq] at hc
  exact ⟨c, hrun, hc.1⟩

/-- The set of some keys. -/
def keysB (acc : List Lit) : DataW H := setOf (.lit (.bool true)) acc
theorem keysB_nil : keysB (H := H) [] = .map [] := by simp [keysB, setOf]
theorem keysB_snoc (acc : List Lit) (x : Lit) : keysB (H := H) (acc ++ [x]) = (keysB acc).put x (.lit (.bool true)) := setOf_snoc _ _ _
theorem keysB_rev (k : Lit) (hk : WideAt.IsKeyLit k) : ∀ (acc : List Lit), (∀ x ∈ acc, WideAt.IsKeyLit x) →
    IsMap (keysB (H := H) acc.reverse) ∧ ∃ c : Bool, (keysB (H := H) acc.reverse).atKey k (.lit (.bool false)) = .lit (.bool c) ∧ (c = true ↔ k ∈ acc)
  | [], _ => by
    refine ⟨?_, false, ?_, by simp⟩
    · rw [List.reverse_nil, keysB_nil]; exact isMap_empty
    · rw [List.reverse_nil, keysB_nil, atKey_of_not_has (by rfl)]
  | x :: t, h => by
    obtain ⟨i1, c, i2, i3⟩ := keysB_rev k hk t (fun y hy => h y (by simp [hy]))
    rw [List.reverse_cons, keysB_snoc]
    by_cases e : k = x
    · subst e
      exact ⟨i1.put _ _, true, by rw [atKey_put_same i1 hk], by simp⟩
    · exact ⟨i1.put _ _, c, by rw [atKey_put_other e, i2], by simp [e, i3]⟩
theorem keysB_at {k : Lit} (hk : WideAt.IsKeyLit k) {acc : List Lit} (h : ∀ x ∈ acc, WideAt.IsKeyLit x) {c : Bool} (e : (keysB (H := H) acc).atKey k (.lit (.bool false)) = .lit (.bool c)) : c = true ↔ k ∈ acc := by
  obtain ⟨_, c', e', hc⟩ := keysB_rev (H := H) k hk acc.reverse (fun x hx => h x (by simpa using hx))
  rw [List.reverse_reverse, e] at e'
  injection e' with e'
  injection e' with e'
  rw [e', hc]; simp
end
end Go.Proofs.Ytmlkdjcjfkfdiaa

/-
  Appending one element to a slice that the call itself made: one law with its side conditions met.
-/
namespace Go.Proofs.Ytmlkdjcjfkfdiaa
open Go.RowKit

theorem cells_new (w : World) (cs : List Value) (t : TypeId) : ∀ j u, cs[j]? = some u → (w.alloc (.cells cs.toArray t)).cell? ((⟨w.heap.size, 0, none⟩ : Addr).add j) = some u := by
  intro j u hj
  have e : ((⟨w.heap.size, 0, none⟩ : Addr).add j) = ⟨w.heap.size, j, none⟩ := by
    unfold Addr.add; split <;> simp_all
  rw [e, cell_of_row _ w.heap.size j cs.toArray t (0, 0) (heap_alloc_new w _)]
  simpa using hj

section
variable {P : Program} {ops : Array Oper} {rest : List Oper} {o : Oper} {a : Act} {Q : Exit → Act → World → Prop}

theorem wp_app (w : World) (hgd : o.guard = none) (s x : Operand) (t : TypeId)
    (ho : o.op = .call { callee := .builtin .append, args := #[s, x], argTypes := #[t, t] })
    (base : Nat) (e : TypeId) (i : TypeInfo) (zero : Value) (size bytes : Nat) (ht : P.underlying t = some (.slice e)) (hi : P.info? e = some i) (hz : i.zero = some zero)
    (hsize : i.size = size) (hby : i.bytes = bytes) (hzs : zero.cells.size = size) (hsz : 0 < size) (hb64 : bytes ≤ 64)
    (v : Value) (n : Nat) (xs : List Value) (cs : List Value) (hs : a.eval s = v) (hown : w.ownsRow base e size v n xs)
    (hx : a.eval x = .slice (some ⟨w.heap.size, 0, none⟩) 1 1) (hl : cs.length = size) (h1 : ∀ u ∈ cs, u.oneCell' = true)
    (hn : n ≤ 1000000) (hbase : base ≤ w.heap.size)
    (h : ∀ v' w', w'.ownsRow base e size v' (n + 1) (xs ++ cs) → Below base w w' → wpList P ops Q rest (a.put o.dst v') w') :
    wpList P ops Q (o :: rest) a (w.alloc (.cells cs.toArray e)) := by
  refine wpList_append_own _ hgd s x t ho base e i zero size bytes ht hi hz hsize hby hzs hsz v n xs hs (hown.alloc _) ⟨w.heap.size, 0, none⟩ 1 1 cs hx (by omega)
    (cells_new w cs e) h1 (by unfold maxLen; omega) ?_ (by simp; omega) ?_
  · have : (n + 1) * bytes ≤ (n + 1) * 64 := Nat.mul_le_mul_left _ hb64
    omega
  · intro v' w' ho' hg _
    refine h v' w' ho' (((Below.refl base w).alloc hbase _).grown hg (by simp; omega) ?_)
    intro k hk
    exact (hown.lt k hk).1
end

theorem int_info : (Try.prog.info? 3).map (fun i => (i.zero, i.size, i.bytes)) = some (some (.int .i64 0), 1, 8) := by kernel_rfl

section
variable {ops : Array Oper} {rest : List Oper} {o : Oper} {a : Act} {Q : Exit → Act → World → Prop}
theorem wp_app_int (w : World) (hgd : o.guard = none) (s x : Operand)
    (ho : o.op = .call { callee := .builtin .append, args := #[s, x], argTypes := #[28, 28] })
    (base : Nat) (v : Value) (n : Nat) (xs : List Int) (z : Int) (hs : a.eval s = v) (hown : w.ownsRow base 3 1 v n (xs.map (Value.int .i64)))
    (hx : a.eval x = .slice (some ⟨w.heap.size, 0, none⟩) 1 1) (hn : n ≤ 1000000) (hbase : base ≤ w.heap.size)
    (h : ∀ v' w', w'.ownsRow base 3 1 v' (n + 1) ((xs ++ [z]).map (Value.int .i64)) → Below base w w' → wpList Try.prog ops Q rest (a.put o.dst v') w') :
    wpList Try.prog ops Q (o :: rest) a (w.alloc (.cells #[.int .i64 z] 3)) := by
  obtain ⟨i0, hi0, hz0, hz1, hz2⟩ := info_parts int_info
  refine wp_app w hgd s x 28 ho base 3 i0 (.int .i64 0) 1 8 Try.underlying28 hi0 hz0 hz1 hz2 rfl (by decide) (by decide) v n _ [.int .i64 z] hs hown hx rfl ?_ hn hbase ?_
  · intro u hu; simp at hu; subst hu; rfl
  · intro v' w' h1 h2
    exact h v' w' (by simpa using h1) h2
end

section
variable {ops : Array Oper} {o : Oper} {a : Act} {K : Act → World → Prop} {Q : Exit → Act → World → Prop} {E : Prop}
theorem step_app {P : Program} (w : World) (hgd : o.guard = none) (s x : Operand) (t : TypeId)
    (ho : o.op = .call { callee := .builtin .append, args := #[s, x], argTypes := #[t, t] })
    (base : Nat) (e : TypeId) (i : TypeInfo) (zero : Value) (size bytes : Nat) (ht : P.underlying t = some (.slice e)) (hi : P.info? e = some i) (hz : i.zero = some zero)
    (hsize : i.size = size) (hby : i.bytes = bytes) (hzs : zero.cells.size = size) (hsz : 0 < size) (hb64 : bytes ≤ 64)
    (v : Value) (n : Nat) (xs : List Value) (cs : List Value) (hs : a.eval s = v) (hown : w.ownsRow base e size v n xs)
    (hx : a.eval x = .slice (some ⟨w.heap.size, 0, none⟩) 1 1) (hl : cs.length = size) (h1 : ∀ u ∈ cs, u.oneCell' = true)
    (hn : n ≤ 1000000) (hbase : base ≤ w.heap.size)
    (h : ∀ v' w', w'.ownsRow base e size v' (n + 1) (xs ++ cs) → Below base w w' → (∀ g, g < w.heap.size → v.ownBlock ≠ some g → w'.heap[g]? = w.heap[g]?) → K (a.put o.dst v') w') :
    if Region.wanted o (yielded ops a.tmps) = true then Oper.wp P o a (w.alloc (.cells cs.toArray e)).drew K Q else E := by
  have hw : Region.wanted o (yielded ops a.tmps) = true := by simp [Region.wanted, hgd]
  rw [if_pos hw]
  refine wp_append_own _ s x t ho base e i zero size bytes ht hi hz hsize hby hzs hsz v n xs hs (hown.alloc _).drew ⟨w.heap.size, 0, none⟩ 1 1 cs hx (by omega)
    (cells_new w cs e) h1 (by unfold maxLen; omega) ?_ (by simp; omega) ?_
  · have : (n + 1) * bytes ≤ (n + 1) * 64 := Nat.mul_le_mul_left _ hb64
    omega
  · intro v' w' ho' hg _
    refine h v' w' ho' ((((Below.refl base w).alloc hbase _).drew).grown hg (by simp; omega) ?_) ?_
    · intro k hk
      exact (hown.lt k hk).1
    · intro g hg1 hg2
      exact (hg.block g (by simp; omega) (fun e => hg2 e.symm)).trans (Below.heap_alloc w _ g hg1)
theorem step_app_int (w : World) (hgd : o.guard = none) (s x : Operand)
    (ho : o.op = .call { callee := .builtin .append, args := #[s, x], argTypes := #[28, 28] })
    (base : Nat) (v : Value) (n : Nat) (xs : List Int) (z : Int) (hs : a.eval s = v) (hown : w.ownsRow base 3 1 v n (xs.map (Value.int .i64)))
    (hx : a.eval x = .slice (some ⟨w.heap.size, 0, none⟩) 1 1) (hn : n ≤ 1000000) (hbase : base ≤ w.heap.size)
    (h : ∀ v' w', w'.ownsRow base 3 1 v' (n + 1) ((xs ++ [z]).map (Value.int .i64)) → Below base w w' → K (a.put o.dst v') w') :
    if Region.wanted o (yielded ops a.tmps) = true then Oper.wp Try.prog o a (w.alloc (.cells #[.int .i64 z] 3)).drew K Q else E := by
  obtain ⟨i0, hi0, hz0, hz1, hz2⟩ := info_parts int_info
  refine step_app w hgd s x 28 ho base 3 i0 (.int .i64 0) 1 8 Try.underlying28 hi0 hz0 hz1 hz2 rfl (by decide) (by decide) v n _ [.int .i64 z] hs hown hx rfl ?_ hn hbase ?_
  · intro u hu; simp at hu; subst hu; rfl
  · intro v' w' h1 h2 _
    exact h v' w' (by simpa using h1) h2
end

theorem own_ne {w : World} {base g : Nat} {e t : TypeId} {size n : Nat} {v : Value} {xs : List Value} {cs : Array Value} (h : w.ownsRow base e size v n xs) (hg : w.heap[g]? = some (.cells cs t (0, 0))) (hne : e ≠ t) : v.ownBlock ≠ some g := by
  rcases h.2 with ⟨rfl, _⟩ | ⟨g', cap, cur, rfl, _, hh, _⟩
  · simp [Value.ownBlock]
  · intro he
    have : g' = g := by simpa [Value.ownBlock] using he
    subst this
    rw [hh] at hg
    injection hg with hg
    injection hg with _ ht
    exact hne ht

/-- What came out of appends reads as its list. -/
theorem own_ints {w : World} {base n : Nat} {v : Value} {xs : List Int} (h : w.ownsRow base 3 1 v n (xs.map (Value.int .i64))) :
    ∃ A c, v = .slice A xs.length c ∧ Out w A c xs := by
  have hl : xs.length = n := by have := h.1; simpa using this
  subst hl
  rcases h.2 with ⟨rfl, h0⟩ | ⟨g, cap, cur, rfl, _, _, h1, h2, _⟩
  · have : xs = [] := List.eq_nil_of_length_eq_zero h0
    subst this
    exact ⟨none, 0, rfl, Out.nil_⟩
  · exact ⟨_, cap, rfl, Reads.of_own h, h1, h2⟩
end Go.Proofs.Ytmlkdjcjfkfdiaa

/-
  A slice of hits that reads as a list of pairs; appends to one; equality of two.
-/
namespace Go.Proofs.Ytmlkdjcjfkfdiaa
open Go.RowKit

def mk2 (m : Int × Int) : List Value := [.int .i64 m.1, .int .i64 m.2]
/-- A slice of marks that reads as the list ms. -/
def Marks (w : World) (A : Option Addr) (ms : List (Int × Int)) : Prop := Reads w w.heap.size 2 A ms.length (ms.flatMap mk2)

theorem flat_get : ∀ (ms : List (Int × Int)) (k : Nat) (m : Int × Int), ms[k]? = some m → (ms.flatMap mk2)[2 * k]? = some (.int .i64 m.1) ∧ (ms.flatMap mk2)[2 * k + 1]? = some (.int .i64 m.2)
  | [], k, m, h => by simp at h
  | a :: t, 0, m, h => by simp at h; subst h; simp [mk2]
  | a :: t, k + 1, m, h => by
    have := flat_get t k m (by simpa using h)
    rw [show 2 * (k + 1) = 2 * k + 2 by omega]
    simpa [mk2] using this
theorem flat_len (ms : List (Int × Int)) : (ms.flatMap mk2).length = ms.length * 2 := by
  induction ms with
  | nil => rfl
  | cons a t ih => rw [List.flatMap_cons, List.length_append, ih]; simp [mk2]; omega
theorem Marks.below {w w' : World} {A : Option Addr} {ms : List (Int × Int)} (h : Marks w A ms) (hb : Below w.heap.size w w') : Marks w' A ms :=
  (Reads.below h hb).more hb.size
theorem Marks.drewN {w : World} {A : Option Addr} {ms : List (Int × Int)} (h : Marks w A ms) (n : Nat) : Marks (w.drewN n) A ms := h
theorem Marks.nil_ {w : World} {A : Option Addr} : Marks w A [] := Reads.none_
theorem Marks.open_ {w : World} {A : Option Addr} {ms : List (Int × Int)} (h : Marks w A ms) (hn : 0 < ms.length) :
    ∃ b o, A = some ⟨b, o, none⟩ ∧ b < w.heap.size ∧ ∀ (k : Nat) (m : Int × Int), ms[k]? = some m → w.cell? ⟨b, o + k * 2, none⟩ = some (.int .i64 m.1) ∧ w.cell? ⟨b, o + k * 2 + 1, none⟩ = some (.int .i64 m.2) := by
  obtain ⟨ad, e, hb, hall⟩ := h.2 hn
  obtain ⟨m0, hm0⟩ : ∃ m, ms[0]? = some m := ⟨_, List.getElem?_eq_getElem hn⟩
  have hc := hall 0 _ (flat_get ms 0 m0 hm0).1
  obtain ⟨b, o, s⟩ := ad
  have hs : s = none := by simpa [Addr.add] using World.cell?_spot hc
  subst hs
  refine ⟨b, o, e, hb, fun k m hm => ?_⟩
  have h2 := flat_get ms k m hm
  rw [Nat.mul_comm k 2, Nat.add_assoc, ← add_mk, ← add_mk]
  exact ⟨hall _ _ h2.1, hall _ _ h2.2⟩

/-- A clock as it is handed from call to call. -/
structure Clk (w : World) (A : Option Addr) (c : Nat) (ms : List (Int × Int)) : Prop where
  marks : Marks w A ms
  le : ms.length ≤ c
  cap : c ≤ maxLen
theorem Clk.nil_ {w : World} {A : Option Addr} : Clk w A 0 [] := ⟨Marks.nil_, Nat.le_refl _, Nat.zero_le _⟩
theorem Clk.below {w w' : World} {A : Option Addr} {c : Nat} {ms : List (Int × Int)} (h : Clk w A c ms) (hb : Below w.heap.size w w') : Clk w' A c ms := ⟨h.marks.below hb, h.le, h.cap⟩
theorem Clk.len {w : World} {A : Option Addr} {c : Nat} {ms : List (Int × Int)} (h : Clk w A c ms) : ms.length ≤ maxLen := Nat.le_trans h.le h.cap

theorem ne_lenM {xs ys : List (Int × Int)} (h : xs.length ≠ ys.length) : false = decide (xs = ys) := by
  rw [eq_comm, decide_eq_false_iff_not]; rintro rfl; exact h rfl
theorem ne_atM {xs ys : List (Int × Int)} {k : Nat} {x y : Int × Int} (hx : xs[k]? = some x) (hy : ys[k]? = some y) (h : x ≠ y) : false = decide (xs = ys) := by
  rw [eq_comm, decide_eq_false_iff_not]; rintro rfl; rw [hx] at hy; exact h (Option.some.inj hy)
theorem eq_nextM {xs ys : List (Int × Int)} {k : Nat} {x y : Int × Int} (hx : xs[k]? = some x) (hy : ys[k]? = some y) (h : x = y) (ht : xs.take k = ys.take k) : xs.take (k + 1) = ys.take (k + 1) := by
  rw [take_snoc hx, take_snoc hy, ht, h]
theorem eq_endM {xs ys : List (Int × Int)} {k : Nat} (hl : xs.length = ys.length) (hk : xs.length ≤ k) (ht : xs.take k = ys.take k) : true = decide (xs = ys) := by
  rw [List.take_of_length_le hk, List.take_of_length_le (by omega)] at ht; simp [ht]

theorem hit_info : (Try.prog.info? 63).map (fun i => (i.zero, i.size, i.bytes)) = some (some (.agg #[.int .i64 0, .int .i64 0]), 2, 16) := by kernel_rfl
section
variable {ops : Array Oper} {rest : List Oper} {o : Oper} {a : Act} {Q : Exit → Act → World → Prop}
theorem wp_app_hit (w : World) (hgd : o.guard = none) (s x : Operand)
    (ho : o.op = .call { callee := .builtin .append, args := #[s, x], argTypes := #[22, 22] })
    (base : Nat) (v : Value) (n : Nat) (xs : List (Int × Int)) (y z : Int) (hs : a.eval s = v) (hown : w.ownsRow base 63 2 v n (xs.flatMap mk2))
    (hx : a.eval x = .slice (some ⟨w.heap.size, 0, none⟩) 1 1) (hn : n ≤ 1000000) (hbase : base ≤ w.heap.size)
    (h : ∀ v' w', w'.ownsRow base 63 2 v' (n + 1) ((xs ++ [(y, z)]).flatMap mk2) → Below base w w' → wpList Try.prog ops Q rest (a.put o.dst v') w') :
    wpList Try.prog ops Q (o :: rest) a (w.alloc (.cells #[.int .i64 y, .int .i64 z] 63)) := by
  obtain ⟨i0, hi0, hz0, hz1, hz2⟩ := info_parts hit_info
  refine wp_app w hgd s x 22 ho base 63 i0 (.agg #[.int .i64 0, .int .i64 0]) 2 16 Try.underlying22 hi0 hz0 hz1 hz2 rfl (by decide) (by decide) v n _ [.int .i64 y, .int .i64 z] hs hown hx rfl ?_ hn hbase ?_
  · intro u hu; simp at hu; rcases hu with rfl | rfl <;> rfl
  · intro v' w' h1 h2
    exact h v' w' (by rw [List.flatMap_append]; exact h1) h2
end
theorem own_hits {w : World} {base n : Nat} {v : Value} {xs : List (Int × Int)} (h : w.ownsRow base 63 2 v n (xs.flatMap mk2)) :
    ∃ A c, v = .slice A xs.length c ∧ Clk w A c xs := by
  have hl : xs.length = n := by have := h.1; rw [flat_len] at this; omega
  subst hl
  rcases h.2 with ⟨rfl, h0⟩ | ⟨g, cap, cur, rfl, _, _, h1, h2, _⟩
  · have : xs = [] := List.eq_nil_of_length_eq_zero h0
    subst this
    exact ⟨none, 0, rfl, Clk.nil_⟩
  · exact ⟨_, cap, rfl, Reads.of_own h, h1, h2⟩

theorem map_take_succM {ms : List (Int × Int)} {k : Nat} {m : Int × Int} (f : Int × Int → Int × Int) (h : ms[k]? = some m) : (ms.take (k + 1)).map f = (ms.take k).map f ++ [f m] := by
  rw [take_snoc h]; simp

end Go.Proofs.Ytmlkdjcjfkfdiaa

/-
  Plain words for hits: valid ones, what is before what, the past, the first, the longest layer; nothing of the program.
-/
namespace Go.Proofs.Ytmlkdjcjfkfdiaa
open Go Go.RowKit

def plB (x : Int) : Bool := decide (-1000 ≤ x ∧ x ≤ 1000)
def hitB (m : Int × Int) : Bool := plB m.1 && plB m.2
/-- Whether hits are valid. -/
def vhB (ms : List (Int × Int)) : Bool := decide (1 ≤ ms.length ∧ ms.length ≤ 14) && ms.all hitB && decide ms.Nodup
theorem vh_parts {ms : List (Int × Int)} (h : vhB ms = true) : 1 ≤ ms.length ∧ ms.length ≤ 14 := by
  simp [vhB] at h; exact h.1.1
theorem vh_at {ms : List (Int × Int)} (h : vhB ms = true) {k : Nat} {m : Int × Int} (hm : ms[k]? = some m) : (-1000 ≤ m.1 ∧ m.1 ≤ 1000) ∧ (-1000 ≤ m.2 ∧ m.2 ≤ 1000) := by
  have h2 : ms.all hitB = true := by simp [vhB] at h ⊢; exact h.1.2
  have := List.all_eq_true.1 h2 m (List.mem_of_getElem? hm)
  simpa [hitB, plB] using this
theorem vh_nodup {ms : List (Int × Int)} (h : vhB ms = true) : ms.Nodup := by
  simp [vhB] at h; exact h.2
theorem vh_len {ms : List (Int × Int)} (h : ¬ (1 ≤ ms.length ∧ ms.length ≤ 14)) : false = vhB ms := by
  unfold vhB; rw [decide_eq_false h]; simp
theorem vh_bad {ms : List (Int × Int)} {k : Nat} {m : Int × Int} (hm : ms[k]? = some m) (h : hitB m = false) : false = vhB ms := by
  unfold vhB; rw [all_not hm h]; simp
theorem vh_twice {ms : List (Int × Int)} {k : Nat} {m : Int × Int} (hm : ms[k]? = some m) (h : m ∈ ms.take k) : false = vhB ms := by
  unfold vhB
  have : ¬ ms.Nodup := by
    intro hn
    obtain ⟨j, hj, e⟩ := List.mem_iff_getElem.1 h
    rw [List.getElem_take] at e
    obtain ⟨hk, e2⟩ := List.getElem?_eq_some_iff.1 hm
    simp at hj
    exact (List.pairwise_iff_getElem.1 hn) j k (by omega) hk (by omega) (e.trans e2.symm)
  rw [decide_eq_false this]; simp
theorem nodup_snoc {α : Type} {zs : List α} {k : Nat} {z : α} (h : zs[k]? = some z) (hn : (zs.take k).Nodup) (hz : z ∉ zs.take k) : (zs.take (k + 1)).Nodup := by
  rw [take_snoc h, List.nodup_append]
  exact ⟨hn, by simp, fun a ha b hb => by simp at hb; subst hb; rintro rfl; exact hz ha⟩
theorem vh_all {ms : List (Int × Int)} {k : Nat} (hn : 1 ≤ ms.length ∧ ms.length ≤ 14) (hk : ms.length ≤ k) (h : (ms.take k).all hitB = true) (hd : (ms.take k).Nodup) : true = vhB ms := by
  rw [all_full hk] at h
  rw [List.take_of_length_le hk] at hd
  unfold vhB; rw [decide_eq_true hn, h, decide_eq_true hd]; rfl

/-- Whether a hit is before another one. -/
def bef (x y : Int × Int) : Bool := decide (0 < y.2 - x.2 ∧ y.1 - x.1 ≤ y.2 - x.2 ∧ -(y.1 - x.1) ≤ y.2 - x.2)
def hAt (ms : List (Int × Int)) (a : Int) : Int × Int := ms.getD a.toNat (0, 0)
def befI (ms : List (Int × Int)) (a b : Int) : Bool := bef (hAt ms a) (hAt ms b)
def knowI (ms : List (Int × Int)) (a b : Int) : Bool := befI ms a b || befI ms b a
theorem hAt_of {ms : List (Int × Int)} {k : Nat} {m : Int × Int} (h : ms[k]? = some m) : hAt ms (k : Int) = m := by
  rw [hAt, Int.toNat_natCast, List.getD_eq_getElem?_getD, h]; rfl
theorem bef_irr (x : Int × Int) : bef x x = false := by simp [bef]
theorem bef_asym {x y : Int × Int} (h : bef x y = true) : bef y x = false := by
  simp [bef] at h ⊢; omega
theorem bef_trans {x y z : Int × Int} (h : bef x y = true) (k : bef y z = true) : bef x z = true := by
  simp [bef] at h k ⊢; omega
/-- All hits, by index. -/
def allL (n : Nat) : List Int := (List.range n).map Int.ofNat
theorem allL_len (n : Nat) : (allL n).length = n := by simp [allL]
theorem allL_succ (n : Nat) : allL (n + 1) = allL n ++ [(n : Int)] := by simp [allL, List.range_succ]
theorem allL_get {n k : Nat} (h : k < n) : (allL n)[k]? = some (k : Int) := by simp [allL, List.getElem?_map, List.getElem?_range h]
theorem allL_mem {n : Nat} {a : Int} (h : a ∈ allL n) : 0 ≤ a ∧ a < n := by
  simp [allL] at h; obtain ⟨k, hk, rfl⟩ := h; omega
def pastL (ms : List (Int × Int)) (a : Int) : List Int := (allL ms.length).filter fun b => befI ms b a
def afterL (ms : List (Int × Int)) (a : Int) : List Int := (allL ms.length).filter fun b => befI ms a b
def firstOfL (ms : List (Int × Int)) (some : List Int) : List Int := some.filter fun a => !(some.any fun b => befI ms b a)
def firstL (ms : List (Int × Int)) : List Int := firstOfL ms (allL ms.length)

def strangersL (ms : List (Int × Int)) (f : Int) (others : List Int) : List Int := others.filter fun a => !knowI ms f a
/-- The longest layer of some hits, with no more than m calls one in the other. -/
def longL (ms : List (Int × Int)) : Nat → List Int → List Int
  | 0, _ => []
  | _ + 1, [] => []
  | m + 1, f :: others =>
    if (strangersL ms f others).length = others.length then f :: longL ms m (strangersL ms f others)
    else if (f :: longL ms m (strangersL ms f others)).length < (longL ms m others).length then longL ms m others else f :: longL ms m (strangersL ms f others)
theorem longL_enough (ms : List (Int × Int)) : ∀ (m n : Nat) (l : List Int), l.length ≤ m → l.length ≤ n → longL ms m l = longL ms n l
  | 0, n, l, h, _ => by
    have : l = [] := List.eq_nil_of_length_eq_zero (by omega)
    subst this; cases n <;> rfl
  | m + 1, 0, l, _, h => by
    have : l = [] := List.eq_nil_of_length_eq_zero (by omega)
    subst this; rfl
  | m + 1, n + 1, [], _, _ => rfl
  | m + 1, n + 1, f :: others, h1, h2 => by
    simp only [List.length_cons] at h1 h2
    have hs : (strangersL ms f others).length ≤ others.length := List.length_filter_le _ _
    have e1 := longL_enough ms m n others (by omega) (by omega)
    have e2 := longL_enough ms m n (strangersL ms f others) (by omega) (by omega)
    rw [longL, longL, e1, e2]
def layerL (ms : List (Int × Int)) : List Int := longL ms ms.length (allL ms.length)
theorem longL_len (ms : List (Int × Int)) : ∀ (m : Nat) (l : List Int), (longL ms m l).length ≤ l.length
  | 0, l => by simp [longL]
  | m + 1, [] => by simp [longL]
  | m + 1, f :: others => by
    have hs : (strangersL ms f others).length ≤ others.length := List.length_filter_le _ _
    have e1 := longL_len ms m others
    have e2 := longL_len ms m (strangersL ms f others)
    rw [longL]; split
    · simp; omega
    · split
      · simp; omega
      · simp; omega
end Go.Proofs.Ytmlkdjcjfkfdiaa

/-
  A hit as a key of a map: what it reads as.
-/
namespace Go.Proofs.Ytmlkdjcjfkfdiaa
open Go.RowKit Go.Maps Go.WideMaps Go.WideShapes

theorem keyLits_pair {P : Program} {k t : TypeId} {n : Nat} {a b : Int} {f0 f1 : Field} (hu : P.underlying k = some (.struct #[f0, f1])) (h0 : f0.type = t) (h1 : f1.type = t) (o0 : f0.offset = 0) (o1 : f1.offset = 1)
    (n0 : ¬ f0.name = "_") (n1 : ¬ f1.name = "_") (hc : P.cellsOf k = 2) (ht : P.underlying t = some (.int .i64)) (hct : P.cellsOf t = 1) (ha : (Lit.int .i64 a).wf = true) (hb : (Lit.int .i64 b).wf = true) :
    P.keyLits (n + 2) k [.int .i64 a, .int .i64 b] = some [.int .i64 a, .int .i64 b] := by
  simp [Program.keyLits, hu, h0, h1, o0, o1, n0, n1, hc, ht, hct, ha, hb]
theorem keyOf_struct {P : Program} {k : TypeId} {v : Value} {ls : List Lit} {fs : Array Field} (hu : P.underlying k = some (.struct fs)) (hk : P.keyType k = true) (hf : v.formed P k = true) (hl : P.keyLits (P.types.size + 1) k v.cells.toList = some ls) :
    keyOf P k v = some (.string (keyBytes ls)) := by
  unfold keyOf; rw [hu]; simp [hk, hf, hl]
theorem formed_pair {P : Program} {k : TypeId} {a b : Value} {fs : Array Field} (hu : P.underlying k = some (.struct fs)) (hc : P.cellsOf k = 2) : (Value.agg #[a, b]).formed P k = true := by
  simp [Value.formed, hu, hc]
theorem wide_struct {P : Program} {k : TypeId} {fs : Array Field} (hu : P.underlying k = some (.struct fs)) : (match P.underlying k with | some (.array _ _) | some (.struct _) => true | _ => false) = true := by rw [hu]
theorem law_struct {P : Program} {k : TypeId} {fs : Array Field} (hl : laidOutB P = true) (hr : k < P.types.size) (hk : P.keyTypeAt 3 k = true) (hu : P.underlying k = some (.struct fs)) : KeyLaw P k :=
  deep_law_laid hl (m := 3) (by omega) hr hk (by rw [hu])
theorem pred_of_lt {k n : Nat} (h : k < n) : ∃ m, n = m + 1 := ⟨n - 1, by omega⟩

theorem hit_laid : laidOutB Try.prog = true := by kernel_rfl
theorem hit_row : (63 : TypeId) < Try.prog.types.size := of_decide_eq_true (by kernel_rfl)
theorem hit_key3 : Try.prog.keyTypeAt 3 63 = true := by kernel_rfl
theorem hitLaw : KeyLaw Try.prog 63 := law_struct hit_laid hit_row hit_key3 Try.underlying63
theorem hitKeyed : Keyed Try.prog 63 := Keyed.of_law hitLaw
theorem hit_keyType : Try.prog.keyType 63 = true := by kernel_rfl
theorem hit_cells : Try.prog.cellsOf 63 = 2 := by kernel_rfl
theorem int_cells : Try.prog.cellsOf 3 = 1 := by kernel_rfl

def keyH (m : Int × Int) : Lit := .string (keyBytes [.int .i64 m.1, .int .i64 m.2])
theorem keyH_ok {a b : Int} (ha : (Lit.int .i64 a).wf = true) (hb : (Lit.int .i64 b).wf = true) : keyOf Try.prog 63 (.agg #[.int .i64 a, .int .i64 b]) = some (keyH (a, b)) := by
  obtain ⟨n, hn⟩ := pred_of_lt hit_row
  refine keyOf_struct Try.underlying63 hit_keyType (formed_pair Try.underlying63 hit_cells) ?_
  rw [hn]
  exact keyLits_pair Try.underlying63 rfl rfl rfl rfl (by decide) (by decide) hit_cells Try.underlying3 int_cells ha hb
theorem keyH_inj {x y : Int × Int} (hx1 : (Lit.int .i64 x.1).wf = true) (hx2 : (Lit.int .i64 x.2).wf = true) (hy1 : (Lit.int .i64 y.1).wf = true) (hy2 : (Lit.int .i64 y.2).wf = true) (h : keyH x = keyH y) : x = y := by
  have := hitKeyed.inj (keyH_ok hx1 hx2) ((keyH_ok hy1 hy2).trans (by rw [h]))
  simp at this
  exact Prod.ext this.1 this.2
theorem keyH_key (m : Int × Int) : WideAt.IsKeyLit (keyH m) := trivial
end Go.Proofs.Ytmlkdjcjfkfdiaa

/-
  Contracts: validPlace, Valid (cone).
-/
namespace Go.Proofs.Ytmlkdjcjfkfdiaa
open Go.RowKit Go.Maps

theorem validPlace_any (x : Int) (w : World) :
    Calls Try.prog 63 #[.int .i64 x] w fun e w' => e = .returned (.bool (plB x)) ∧ w = w' := by
  go_enter Try.func63, Try.ntmps63
  go_wp2
  all_goals
    go_ret
    exact ⟨ret_bool (by simp [plB]; try omega), rfl⟩
theorem zeroB (w : World) : (zeroValue 4).run Try.prog w = .ok (.bool false) w := by kernel_rfl
theorem plB_bd {x : Int} (h : plB x = true) : -1000 ≤ x ∧ x ≤ 1000 := by simpa [plB] using h
theorem wf_of {x : Int} (h : -1000 ≤ x ∧ x ≤ 1000) : (Lit.int .i64 x).wf = true := WalkArith.wf_i64 (by omega)
theorem key_mem {ms : List (Int × Int)} {k : Nat} {m : Int × Int} (hall : (ms.take k).all hitB = true) (hm1 : plB m.1 = true) (hm2 : plB m.2 = true) (h : keyH m ∈ (ms.take k).map keyH) : m ∈ ms.take k := by
  obtain ⟨y, hy, e⟩ := List.mem_map.1 h
  have hyb := List.all_eq_true.1 hall y hy
  simp [hitB] at hyb
  rw [← keyH_inj (wf_of (plB_bd hyb.1)) (wf_of (plB_bd hyb.2)) (wf_of (plB_bd hm1)) (wf_of (plB_bd hm2)) e]
  exact hy
theorem keys_take {ms : List (Int × Int)} {k : Nat} {m : Int × Int} (h : ms[k]? = some m) : (ms.take (k + 1)).map keyH = (ms.take k).map keyH ++ [keyH m] := by
  rw [take_snoc h]; simp
theorem vh_next {ms : List (Int × Int)} {k : Nat} {a b : Int} (h : ms[k]? = some (a, b)) (hall : (ms.take k).all hitB = true) (h1 : plB a = true) (h2 : plB b = true) : (ms.take (k + 1)).all hitB = true := by
  rw [all_snoc h, hall]; simp [hitB, h1, h2]
theorem keys_lit {l : List (Int × Int)} : ∀ x ∈ l.map keyH, WideAt.IsKeyLit x := by
  intro x hx
  obtain ⟨y, _, rfl⟩ := List.mem_map.1 hx
  exact keyH_key y

set_option maxRecDepth 100000 in
set_option maxHeartbeats 800000 in
theorem valid_any (ms : List (Int × Int)) (A : Option Addr) (c : Nat) (w : World) (h : Marks w A ms) (hl : ms.length ≤ maxLen) :
    Calls Try.prog 21 #[.slice A ms.length c] w fun e w' => e = .returned (.bool (vhB ms)) ∧ Below w.heap.size w w' := by
  unfold maxLen at hl
  have H := Lib.hid h
  clear h
  by_cases hn : 1 ≤ ms.length ∧ ms.length ≤ 14
  · have n1 : decide ((ms.length : Int) < 1) = false := by simp; omega
    have n2 : decide (14 < (ms.length : Int)) = false := by simp; omega
    obtain ⟨bl, off, rfl, hbk, hcells⟩ := H.out.open_ (by omega)
    have HC := Lib.hid hcells
    clear hcells
    have hmm := @run_makeMap Try.prog
    go_enter Try.func21, Try.ntmps21
    go_wp2
    go_loopw [17] (fun i wr => ∃ k : Nat, k ≤ ms.length ∧ i = .int .i64 k ∧ wr.ownsMap Try.prog 63 (plainElem Try.prog 4) w.heap.size k (keysB (H := Unit) ((ms.take k).map keyH)) ∧ Hid ((ms.take k).all hitB = true) ∧ Hid ((ms.take k).Nodup) ∧ Below w.heap.size w wr) (fun i _ => ms.length - (intOf i).toNat)
    case atStart => exact ⟨0, Nat.zero_le _, rfl, by rw [List.take_zero, List.map_nil, keysB_nil]; exact World.ownsMap_made _ _ _ _, rfl, List.nodup_nil, (Below.refl _ _).alloc (Nat.le_refl _) _⟩
    case round =>
      clear hmm
      obtain ⟨k, hk, rfl, hown, hall, hnd, hB⟩ := hrel
      by_cases hlt : k < ms.length
      · obtain ⟨a, b, hx⟩ := getM_of_lt hlt
        have f0 := (hB.cell (p := ⟨bl, off + k * 2, none⟩) hbk).trans (HC.out _ _ hx).1
        have f1 := (hB.cell (p := ⟨bl, off + k * 2 + 1, none⟩) hbk).trans (HC.out _ _ hx).2
        have HX := Lib.hid hx
        clear hx
        have hz := hB.size
        by_cases hp1 : plB a = true
        · by_cases hp2 : plB b = true
          · have hkey := keyH_ok (wf_of (plB_bd hp1)) (wf_of (plB_bd hp2))
            have hown2 := hown.alloc (.cells #[.int .i64 a, .int .i64 b] 63)
            obtain ⟨c, hrun, hat⟩ := look_bool hitKeyed Try.underlying70 Try.underlying4 (zeroB _) hown2 hkey
            have HA := Lib.hid (keysB_at (keyH_key (a, b)) keys_lit hat)
            clear hat
            cases c
            all_goals
              go_wp2_with (first
                | (go_at_call 63; refine (validPlace_any _ _).mono ?_; rintro e w' ⟨rfl, rfl⟩)
                | (at_mapUpdate; refine wpList_mapUpdate_own _ rfl _ _ _ 70 rfl 63 4 hitKeyed Try.underlying70 (plainElem (H := Unit) Try.prog 4) w.heap.size k _ rfl hown2 (by unfold maxLen; omega) _ _ _ rfl rfl hkey _ [] (plainElem_bool Try.underlying4 true) ?_; intro w1 hown1 hgrow1))
            · go_roundw
              case rel => exact ⟨k + 1, by omega, by go_num, by rw [keys_take HX.out, keysB_snoc]; exact hown1, vh_next HX.out hall.out hp1 hp2, nodup_snoc HX.out hnd.out (fun hm => by have := HA.out.2 (List.mem_map_of_mem hm); cases this), (hB.alloc hB.size _).grown hgrow1 (by first | (simp; done) | (simp; omega) | omega) (fun j hj => by cases hj; exact Nat.le_refl _)⟩
              case measure => simp [intOf]; omega
            · go_ret
              exact ⟨ret_bool (vh_twice HX.out (key_mem hall.out hp1 hp2 (HA.out.1 (by first | trivial | rfl)))), hB.alloc hB.size _⟩
          · have hp2' : plB b = false := by simpa using hp2
            go_wp2_with (go_at_call 63; refine (validPlace_any _ _).mono ?_; rintro e w' ⟨rfl, rfl⟩)
            go_ret
            exact ⟨ret_bool (vh_bad HX.out (by simp [hitB, hp2'])), hB.alloc hB.size _⟩
        · have hp1' : plB a = false := by simpa using hp1
          go_wp2_with (go_at_call 63; refine (validPlace_any _ _).mono ?_; rintro e w' ⟨rfl, rfl⟩)
          go_ret
          exact ⟨ret_bool (vh_bad HX.out (by simp [hitB, hp1'])), hB.alloc hB.size _⟩
      · go_wp2
        go_ret
        exact ⟨ret_bool (vh_all hn (by omega) hall.out hnd.out), hB⟩
  · by_cases n1 : (ms.length : Int) < 1
    · go_enter Try.func21, Try.ntmps21
      go_wp2
      go_ret
      exact ⟨ret_bool (vh_len hn), Below.refl _ _⟩
    · have n2 : 14 < (ms.length : Int) := by omega
      have n3 : decide ((ms.length : Int) < 1) = false := by simp; omega
      go_enter Try.func21, Try.ntmps21
      go_wp2
      go_ret
      exact ⟨ret_bool (vh_len hn), Below.refl _ _⟩
end Go.Proofs.Ytmlkdjcjfkfdiaa

/-
  Contracts: within, Valid (firnref02).
-/
namespace Go.Proofs.Ytmlkdjcjfkfdiaa
open Go.RowKit

def wiB (lo n hi : Int) : Bool := decide (lo ≤ n ∧ n ≤ hi)
theorem refWithin_any (lo n hi : Int) (w : World) :
    Calls Try.prog 64 #[.int .i64 lo, .int .i64 n, .int .i64 hi] w fun e w' => e = .returned (.bool (wiB lo n hi)) ∧ w = w' := by
  go_enter Try.func64, Try.ntmps64
  go_wp2
  all_goals
    go_ret
    exact ⟨ret_bool (by simp [wiB]; try omega), rfl⟩
theorem refWithin_pl (x : Int) (w : World) :
    Calls Try.prog 64 #[.int .i64 (-1000), .int .i64 x, .int .i64 1000] w fun e w' => e = .returned (.bool (plB x)) ∧ w = w' := refWithin_any _ _ _ _

theorem not_mem_snoc {α : Type} {zs : List α} {j : Nat} {y z : α} (h : zs[j]? = some y) (hn : z ∉ zs.take j) (hz : z ≠ y) : z ∉ zs.take (j + 1) := by
  rw [take_snoc h]; simp [hn, hz]
theorem mem_take_of {α : Type} {zs : List α} {j k : Nat} {y : α} (h : zs[j]? = some y) (hj : j < k) : y ∈ zs.take k := by
  rw [List.mem_take_iff_getElem]
  obtain ⟨h1, h2⟩ := List.getElem?_eq_some_iff.1 h
  exact ⟨j, by omega, h2⟩

set_option maxRecDepth 100000 in
set_option maxHeartbeats 800000 in
theorem refValid_any (ms : List (Int × Int)) (A : Option Addr) (c : Nat) (w : World) (h : Marks w A ms) (hl : ms.length ≤ maxLen) :
    Calls Try.prog 22 #[.slice A ms.length c] w fun e w' => e = .returned (.bool (vhB ms)) ∧ ∃ n, w' = w.drewN n := by
  unfold maxLen at hl
  have H := Lib.hid h
  clear h
  by_cases hn : 1 ≤ ms.length ∧ ms.length ≤ 14
  · have n1 : decide ((ms.length : Int) < 1) = false := by simp; omega
    have n2 : decide (14 < (ms.length : Int)) = false := by simp; omega
    obtain ⟨bl, off, rfl, hbk, hcells⟩ := H.out.open_ (by omega)
    have HC := Lib.hid hcells
    clear hcells
    go_enter Try.func22, Try.ntmps22
    go_wp2
    go_loopw [3, 4] (fun i _ wr => ∃ k m : Nat, k ≤ ms.length ∧ i = .int .i64 k ∧ wr = w.drewN m ∧ Hid ((ms.take k).all hitB = true) ∧ Hid ((ms.take k).Nodup)) (fun i _ _ => ms.length - (intOf i).toNat)
    case atStart => exact ⟨0, 0, Nat.zero_le _, rfl, rfl, rfl, List.nodup_nil⟩
    case round =>
      obtain ⟨k, m, hk, rfl, rfl, hall, hnd⟩ := hrel
      by_cases hlt : k < ms.length
      · obtain ⟨a, b, hx⟩ := getM_of_lt hlt
        have f0 := (HC.out _ _ hx).1
        have f1 := (HC.out _ _ hx).2
        have HX := Lib.hid hx
        clear hx
        by_cases hp1 : plB a = true
        · by_cases hp2 : plB b = true
          · go_wp2_with (go_at_call 64; refine (refWithin_pl _ _).mono ?_; rintro e w' ⟨rfl, rfl⟩)
            go_loopw [4] (fun j wr => ∃ k2 m2 : Nat, k2 ≤ k ∧ j = .int .i64 k2 ∧ wr = w.drewN m2 ∧ Hid ((a, b) ∉ ms.take k2)) (fun j _ => k - (intOf j).toNat)
            case atStart => exact ⟨0, m, Nat.zero_le _, rfl, rfl, (by simp : (a, b) ∉ ms.take 0)⟩
            case round =>
              obtain ⟨k2, m2, hk2, rfl, rfl, hno⟩ := hrel
              by_cases hlt2 : k2 < k
              · obtain ⟨a2, b2, hy⟩ := getM_of_lt (show k2 < ms.length by omega)
                have g0 := (HC.out _ _ hy).1
                have g1 := (HC.out _ _ hy).2
                have HY := Lib.hid hy
                clear hy
                by_cases h1 : a = a2
                · subst h1
                  by_cases h2 : b = b2
                  · subst h2
                    go_wp2
                    go_quiet (fail)
                    go_wp2
                    go_ret
                    exact ⟨ret_bool (vh_twice HX.out (mem_take_of HY.out hlt2)), _, World.drewN_drewN _ _ _⟩
                  · have t2 : (b == b2) = false := by simpa using h2
                    go_wp2
                    go_quiet (fail)
                    go_wp2
                    go_roundw
                    case rel => exact ⟨k2 + 1, _, by omega, by go_num, (by first | rfl | exact World.drewN_drewN _ _ _), not_mem_snoc HY.out hno.out (by simpa using h2)⟩
                    case measure => simp [intOf]; omega
                · have t1 : (a == a2) = false := by simpa using h1
                  go_wp2
                  go_quiet (fail)
                  go_wp2
                  go_roundw
                  case rel => exact ⟨k2 + 1, _, by omega, by go_num, (by first | rfl | exact World.drewN_drewN _ _ _), not_mem_snoc HY.out hno.out (by intro e; injection e with e1 e2; exact h1 e1)⟩
                  case measure => simp [intOf]; omega
              · obtain rfl : k2 = k := by omega
                go_wp2
                go_roundw
                case rel => exact ⟨k2 + 1, _, by omega, by go_num, rfl, vh_next HX.out hall.out hp1 hp2, nodup_snoc HX.out hnd.out hno.out⟩
                case measure => simp [intOf]; omega
          · have hp2' : plB b = false := by simpa using hp2
            go_wp2_with (go_at_call 64; refine (refWithin_pl _ _).mono ?_; rintro e w' ⟨rfl, rfl⟩)
            go_ret
            exact ⟨ret_bool (vh_bad HX.out (by simp [hitB, hp2'])), _, rfl⟩
        · have hp1' : plB a = false := by simpa using hp1
          go_wp2_with (go_at_call 64; refine (refWithin_pl _ _).mono ?_; rintro e w' ⟨rfl, rfl⟩)
          go_ret
          exact ⟨ret_bool (vh_bad HX.out (by simp [hitB, hp1'])), _, rfl⟩
      · go_wp2
        go_ret
        exact ⟨ret_bool (vh_all hn (by omega) hall.out hnd.out), _, rfl⟩
  · by_cases n1 : (ms.length : Int) < 1
    · go_enter Try.func22, Try.ntmps22
      go_wp2
      go_ret
      exact ⟨ret_bool (vh_len hn), 0, rfl⟩
    · have n2 : 14 < (ms.length : Int) := by omega
      have n3 : decide ((ms.length : Int) < 1) = false := by simp; omega
      go_enter Try.func22, Try.ntmps22
      go_wp2
      go_ret
      exact ⟨ret_bool (vh_len hn), 0, rfl⟩
end Go.Proofs.Ytmlkdjcjfkfdiaa

/-
  Contracts: has, before, know (cone); isHit, before (firnref02); both Before.
-/
namespace Go.Proofs.Ytmlkdjcjfkfdiaa
open Go.RowKit

/-- A hit's index. -/
def hasB (ms : List (Int × Int)) (a : Int) : Bool := decide (0 ≤ a ∧ a < ms.length)
theorem has_nat {ms : List (Int × Int)} {a : Int} (h : hasB ms a = true) : ∃ k : Nat, a = k ∧ k < ms.length := by
  simp [hasB] at h
  exact ⟨a.toNat, by omega, by omega⟩
theorem has_any (ms : List (Int × Int)) (A : Option Addr) (c : Nat) (a : Int) (w : World) :
    Calls Try.prog 58 #[.slice A ms.length c, .int .i64 a] w fun e w' => e = .returned (.bool (hasB ms a)) ∧ w = w' := by
  go_enter Try.func58, Try.ntmps58
  go_wp2
  all_goals
    go_ret
    exact ⟨ret_bool (by simp [hasB]; try omega), rfl⟩
theorem isHit_any (ms : List (Int × Int)) (A : Option Addr) (c : Nat) (a : Int) (w : World) (hl : ms.length ≤ maxLen) :
    Calls Try.prog 60 #[.slice A ms.length c, .int .i64 a] w fun e w' => e = .returned (.bool (hasB ms a)) ∧ w = w' := by
  unfold maxLen at hl
  go_enter Try.func60, Try.ntmps60
  go_wp2_with (go_at_call 64; refine (refWithin_any _ _ _ _).mono ?_; rintro e w' ⟨rfl, rfl⟩)
  go_ret
  exact ⟨ret_bool (by rw [Bool.eq_iff_iff]; simp [hasB, wiB]; try omega), rfl⟩

set_option maxRecDepth 100000 in
set_option maxHeartbeats 400000 in
theorem beforeN (ms : List (Int × Int)) (A : Option Addr) (c : Nat) (i j : Nat) (w : World) (h : Marks w A ms) (hv : vhB ms = true) (hi : i < ms.length) (hj : j < ms.length) :
    Calls Try.prog 59 #[.slice A ms.length c, .int .i64 i, .int .i64 j] w fun e w' => e = .returned (.bool (befI ms i j)) ∧ ∃ n, w' = w.drewN n := by
  obtain ⟨hn1, hn2⟩ := vh_parts hv
  obtain ⟨bl, off, rfl, hbk, hc⟩ := h.open_ (by omega)
  obtain ⟨a, b, hx⟩ := getM_of_lt hi
  obtain ⟨p, q, hy⟩ := getM_of_lt hj
  have c0 := (hc _ _ hx).1
  have c1 := (hc _ _ hx).2
  have c2 := (hc _ _ hy).1
  have c3 := (hc _ _ hy).2
  obtain ⟨⟨a0, a1⟩, b0, b1⟩ := vh_at hv hx
  obtain ⟨⟨p0, p1⟩, q0, q1⟩ := vh_at hv hy
  simp only at a0 a1 b0 b1 p0 p1 q0 q1
  have F : Hid (befI ms i j = bef (a, b) (p, q)) := by show _ = _; rw [befI, hAt_of hx, hAt_of hy]
  clear hx hy hc h
  have HV := Lib.hid hv
  clear hv
  go_enter Try.func59, Try.ntmps59
  go_wp2
  go_quiet (fail)
  go_wp2
  go_quiet (fail)
  go_wp2
  all_goals
    go_ret
    exact ⟨ret_bool (by rw [F.out, Bool.eq_iff_iff]; simp [bef]; try omega), _, (by first | rfl | exact World.drewN_drewN _ _ _)⟩
theorem before_any (ms : List (Int × Int)) (A : Option Addr) (c : Nat) (a b : Int) (w : World) (h : Marks w A ms) (hv : vhB ms = true) (ha : hasB ms a = true) (hb : hasB ms b = true) :
    Calls Try.prog 59 #[.slice A ms.length c, .int .i64 a, .int .i64 b] w fun e w' => e = .returned (.bool (befI ms a b)) ∧ ∃ n, w' = w.drewN n := by
  obtain ⟨i, rfl, hi⟩ := has_nat ha
  obtain ⟨j, rfl, hj⟩ := has_nat hb
  exact beforeN ms A c i j w h hv hi hj

set_option maxRecDepth 100000 in
set_option maxHeartbeats 400000 in
theorem refBeforeN (ms : List (Int × Int)) (A : Option Addr) (c : Nat) (i j : Nat) (w : World) (h : Marks w A ms) (hv : vhB ms = true) (hi : i < ms.length) (hj : j < ms.length) :
    Calls Try.prog 61 #[.slice A ms.length c, .int .i64 i, .int .i64 j] w fun e w' => e = .returned (.bool (befI ms i j)) ∧ ∃ n, w' = w.drewN n := by
  obtain ⟨hn1, hn2⟩ := vh_parts hv
  obtain ⟨bl, off, rfl, hbk, hc⟩ := h.open_ (by omega)
  obtain ⟨a, b, hx⟩ := getM_of_lt hi
  obtain ⟨p, q, hy⟩ := getM_of_lt hj
  have c0 := (hc _ _ hx).1
  have c1 := (hc _ _ hx).2
  have c2 := (hc _ _ hy).1
  have c3 := (hc _ _ hy).2
  obtain ⟨⟨a0, a1⟩, b0, b1⟩ := vh_at hv hx
  obtain ⟨⟨p0, p1⟩, q0, q1⟩ := vh_at hv hy
  simp only at a0 a1 b0 b1 p0 p1 q0 q1
  have F : Hid (befI ms i j = bef (a, b) (p, q)) := by show _ = _; rw [befI, hAt_of hx, hAt_of hy]
  clear hx hy hc h
  have HV := Lib.hid hv
  clear hv
  go_enter Try.func61, Try.ntmps61
  go_wp2
  go_quiet (fail)
  go_wp2
  go_quiet (fail)
  go_wp2
  all_goals
    go_ret
    exact ⟨ret_bool (by rw [F.out, Bool.eq_iff_iff]; simp [bef]; try omega), _, (by first | rfl | exact World.drewN_drewN _ _ _)⟩
theorem refBefore_any (ms : List (Int × Int)) (A : Option Addr) (c : Nat) (a b : Int) (w : World) (h : Marks w A ms) (hv : vhB ms = true) (ha : hasB ms a = true) (hb : hasB ms b = true) :
    Calls Try.prog 61 #[.slice A ms.length c, .int .i64 a, .int .i64 b] w fun e w' => e = .returned (.bool (befI ms a b)) ∧ ∃ n, w' = w.drewN n := by
  obtain ⟨i, rfl, hi⟩ := has_nat ha
  obtain ⟨j, rfl, hj⟩ := has_nat hb
  exact refBeforeN ms A c i j w h hv hi hj

set_option maxRecDepth 100000 in
theorem know_any (ms : List (Int × Int)) (A : Option Addr) (c : Nat) (a b : Int) (w : World) (h : Marks w A ms) (hv : vhB ms = true) (ha : hasB ms a = true) (hb : hasB ms b = true) :
    Calls Try.prog 111 #[.slice A ms.length c, .int .i64 a, .int .i64 b] w fun e w' => e = .returned (.bool (knowI ms a b)) ∧ ∃ n, w' = w.drewN n := by
  have H := Lib.hid (And.intro h (And.intro hv (And.intro ha hb)))
  clear h hv ha hb
  cases hk : befI ms a b with
  | true =>
    go_enter Try.func111, Try.ntmps111
    go_wp2_with (go_at_call 59; refine (before_any ms A c a b _ H.out.1 H.out.2.1 H.out.2.2.1 H.out.2.2.2).mono ?_; rintro e w' ⟨rfl, n, rfl⟩)
    go_ret
    exact ⟨ret_bool (by simp [knowI, hk]), _, rfl⟩
  | false =>
    have K := Lib.hid hk
    have TA : Hid True := Lib.hid trivial
    go_enter Try.func111, Try.ntmps111
    go_wp2_with (first
      | (go_at_call 59; clear TA; refine (before_any ms A c a b _ H.out.1 H.out.2.1 H.out.2.2.1 H.out.2.2.2).mono ?_; rintro e w' ⟨he, n, rfl⟩; rw [K.out] at he; subst he)
      | (go_at_call 59; refine (before_any ms A c b a _ (H.out.1.drewN n) H.out.2.1 H.out.2.2.2 H.out.2.2.1).mono ?_; rintro e w' ⟨rfl, n2, rfl⟩))
    go_ret
    exact ⟨ret_bool (by simp [knowI, K.out]), _, (by first | rfl | exact World.drewN_drewN _ _ _)⟩
end Go.Proofs.Ytmlkdjcjfkfdiaa

/-
  Contracts: all, kept (cone); IndexFunc and ContainsFunc (slices) at ints; what is asked of a function value.
-/
namespace Go.Proofs.Ytmlkdjcjfkfdiaa
open Go.RowKit Go.Shelf

theorem own_below {w w3 : World} {base : Nat} {e : TypeId} {size n : Nat} {v : Value} {xs : List Value} (h : w.ownsRow base e size v n xs) (hB : Below w.heap.size w w3) : w3.ownsRow base e size v n xs :=
  h.kept (World.grownBy.mk hB.os hB.tape hB.output hB.size (fun i hi _ => hB.block i hi) : World.grownBy _ w3 none) (by cases hh : Value.ownBlock v with | none => exact .inl rfl | some g => exact .inr (by simp))

/-! ### all -/
def fillL (n k : Nat) : List Int := allL k ++ List.replicate (n - k) 0
theorem fill_zero (n : Nat) : fillL n 0 = List.replicate n 0 := by simp [fillL, allL]
theorem fill_full (n : Nat) : fillL n n = allL n := by simp [fillL]
theorem fill_len {n k : Nat} (h : k ≤ n) : (fillL n k).length = n := by simp [fillL, allL_len]; omega
theorem fill_get {n k : Nat} (h : k < n) : (fillL n k)[k]? = some 0 := by
  rw [fillL, List.getElem?_append_right (by rw [allL_len]; exact Nat.le_refl _), allL_len, Nat.sub_self, List.getElem?_replicate]
  simp; omega
theorem fill_set {n k : Nat} (h : k < n) : (fillL n k).set k (k : Int) = fillL n (k + 1) := by
  rw [fillL, List.set_append_right _ _ (by rw [allL_len]; exact Nat.le_refl _), allL_len, Nat.sub_self, fillL, allL_succ]
  obtain ⟨m, hm⟩ : ∃ m, n - k = m + 1 := ⟨n - k - 1, by omega⟩
  rw [hm, List.replicate_succ, List.set_cons_zero, List.append_assoc, show n - (k + 1) = m by omega]
  rfl

theorem made_fill (n : Nat) : (madeCells (Value.int .i64 0).cells (n * 1)).toList = (fillL n 0).map (Value.int .i64) := by
  rw [fill_zero, List.map_replicate, List.eq_replicate_iff]; simp [madeCells, Value.cells, Nat.mod_one]
set_option maxRecDepth 100000 in
set_option maxHeartbeats 400000 in
theorem all_any (n : Nat) (A : Option Addr) (c : Nat) (w : World) (hn : n ≤ 1000) :
    Calls Try.prog 98 #[.slice A n c] w fun e w' => ∃ (A' : Option Addr) (c' : Nat), e = .returned (.slice A' n c') ∧ Out w' A' c' (allL n) ∧ Below w.heap.size w w' := by
  obtain ⟨i0, hi0, hz0, hz1, hz2⟩ := info_parts int_info
  have HZ2 := Lib.hid hz2
  clear hz2
  go_enter Try.func98, Try.ntmps98
  go_wp2_with (at_make; refine wpList_make_full _ rfl _ _ 28 rfl w.heap.size 3 i0 (.int .i64 0) 1 Try.underlying28 hi0 hz0 hz1 _ _ _ _ n rfl rfl rfl rfl (by rw [HZ2.out]; omega) (by unfold maxLen; omega) (Nat.le_refl _) ?_; intro w1 hown1 hg1)
  have hB1 : Below w.heap.size w w1 := (Below.refl _ _).grown hg1 (Nat.le_refl _) (by simp)
  rw [made_fill] at hown1
  clear hg1 HZ2 hz0 hz1 hi0
  go_loopw [10] (fun i wr => ∃ k : Nat, k ≤ n ∧ i = .int .i64 k ∧ wr.ownsRow w.heap.size 3 1 (.slice (some ⟨w.heap.size, 0, none⟩) n n) n ((fillL n k).map (Value.int .i64)) ∧ Below w.heap.size w wr) (fun i _ => n - (intOf i).toNat)
  case atStart => exact ⟨0, Nat.zero_le _, rfl, hown1, hB1⟩
  case round =>
    clear hown1 hB1
    obtain ⟨k, hk, rfl, hown, hB⟩ := hrel
    by_cases hlt : k < n
    · have hc := hown.cellAt k (by omega)
      rw [List.getElem?_map, fill_get hlt, Option.map_some] at hc
      have hf := hown.frozenAt k
      go_wp2
      go_roundw
      case rel => exact ⟨k + 1, by omega, by go_num, by rw [← fill_set hlt, List.map_set]; exact (hown.stored k _).1, hB.setCell (Nat.le_refl _) _⟩
      case measure => simp [intOf]; omega
    · obtain rfl : k = n := by omega
      go_wp2
      go_ret
      rw [fill_full] at hown
      obtain ⟨A', c', e, hO⟩ := own_ints hown
      rw [allL_len] at e
      cases e
      exact ⟨_, _, rfl, hO, hB⟩

/-! ### kept -/
/-- What is asked of a function value that says yes or no to a number of a list. -/
def KeepAt (g : Nat) (lb : Array Value) (p : Int → Bool) (S : List Int) (w : World) : Prop :=
  ∀ (W : World) (a : Int), a ∈ S → Below w.heap.size w W → Calls Try.prog g (#[.int .i64 a] ++ lb) W fun e w' => e = .returned (.bool (p a)) ∧ Below W.heap.size W w'
theorem KeepAt.later {g : Nat} {lb : Array Value} {p : Int → Bool} {S : List Int} {w W : World} (h : KeepAt g lb p S w) (hb : Below w.heap.size w W) : KeepAt g lb p S W :=
  fun W' x hx hb' => h W' x hx (hb.trans (hb'.mono hb.size))

set_option maxRecDepth 100000 in
set_option maxHeartbeats 800000 in
theorem kept_any (g : Nat) (lb : Array Value) (p : Int → Bool) (eg : ∀ args w, (callFunc g args).run Try.prog w = .ok (.enter g args) w) (zs : List Int) (A : Option Addr) (c : Nat) (w : World) (hK : KeepAt g lb p zs w) (h : Ints w A zs) (hn : zs.length ≤ 1000) :
    Calls Try.prog 97 #[.slice A zs.length c, .func (.func g) #[] lb] w fun e w' => ∃ (A' : Option Addr) (c' : Nat) (ys : List Int), e = .returned (.slice A' ys.length c') ∧ Out w' A' c' ys ∧ Below w.heap.size w w' ∧ Hid (ys = zs.filter p) := by
  have H := Lib.hid h
  have HK := Lib.hid hK
  clear h hK
  go_enter Try.func97, Try.ntmps97
  go_wp2
  go_loopw [5, 10] (fun v i wr => ∃ k : Nat, k ≤ zs.length ∧ i = .int .i64 k ∧ (∃ ys : List Int, wr.ownsRow w.heap.size 3 1 v ys.length (ys.map (Value.int .i64)) ∧ ys.length ≤ k ∧ Hid (ys = (zs.take k).filter p)) ∧ Below w.heap.size w wr) (fun _ i _ => zs.length - (intOf i).toNat)
  case atStart => exact ⟨0, Nat.zero_le _, rfl, ⟨[], World.ownsRow_nil _ _ _ _, Nat.le_refl _, rfl⟩, Below.refl _ _⟩
  case round =>
    obtain ⟨k, hk, rfl, ⟨ys, hown, hyk, hys⟩, hB⟩ := hrel
    by_cases hlt : k < zs.length
    · obtain ⟨ad, z, rfl, hbk, hz, hc⟩ := H.out.get hlt
      have hcr := (hB.cell (p := ad.add k) (by rw [block_of_add]; exact hbk)).trans hc
      have hcall := HK.out wr z (List.mem_of_getElem? hz.out) hB
      have HN := Lib.hid (filter_snoc (p := p) hz.out)
      clear hc
      cases hp : p z with
      | true =>
        rw [hp] at hcall
        have HP := Lib.hid hp
        clear hp
        go_wp2_with (first
          | (go_at_fn g; refine hcall.mono ?_; rintro e w3 ⟨rfl, hB3⟩; have hown3 := own_below hown hB3; have hW3 : Below w.heap.size w w3 := below_step hB hB3)
          | (at_builtin; refine wp_app_int _ rfl (.tmp 17) (.tmp 19) rfl w.heap.size _ ys.length ys _ rfl hown3 rfl (by omega) hW3.size ?_; intro v2 w2 hown2 hB2))
        go_roundw
        case rel => exact ⟨k + 1, by omega, by go_num, ⟨ys ++ [z], by rw [List.length_append]; exact hown2, by simp; omega, (by rw [HN.out, HP.out, if_pos rfl, hys.out] : ys ++ [z] = _)⟩, hW3.trans hB2⟩
        case measure => simp [intOf]; omega
      | false =>
        rw [hp] at hcall
        have HP := Lib.hid hp
        clear hp
        go_wp2_with (go_at_fn g; refine hcall.mono ?_; rintro e w3 ⟨rfl, hB3⟩; have hown3 := own_below hown hB3; have hW3 : Below w.heap.size w w3 := below_step hB hB3)
        go_roundw
        case rel => exact ⟨k + 1, by omega, by go_num, ⟨ys, hown3, by omega, (by rw [HN.out, HP.out, hys.out]; simp : ys = _)⟩, hW3⟩
        case measure => simp [intOf]; omega
    · obtain rfl : k = zs.length := by omega
      go_wp2
      go_ret
      obtain ⟨A', c', rfl, hI⟩ := own_ints hown
      exact ⟨A', c', ys, rfl, hI, hB, (by rw [hys.out, List.take_length] : ys = _)⟩

/-! ### IndexFunc, ContainsFunc -/
set_option maxRecDepth 100000 in
set_option maxHeartbeats 400000 in
theorem index_any (g : Nat) (lb : Array Value) (p : Int → Bool) (eg : ∀ args w, (callFunc g args).run Try.prog w = .ok (.enter g args) w) (zs : List Int) (A : Option Addr) (c : Nat) (w : World) (hK : KeepAt g lb p zs w) (h : Ints w A zs) (hn : zs.length ≤ 1000) :
    Calls Try.prog 126 #[.slice A zs.length c, .func (.func g) #[] lb] w fun e w' => ∃ r : Int, e = .returned (.int .i64 r) ∧ Below w.heap.size w w' ∧ -1 ≤ r ∧ r ≤ 1000 ∧ Hid (decide (0 ≤ r) = zs.any p) := by
  have H := Lib.hid h
  have HK := Lib.hid hK
  clear h hK
  go_enter Try.func126, Try.ntmps126
  go_wp2
  go_loopw [8] (fun i wr => ∃ k : Nat, k ≤ zs.length ∧ i = .int .i64 k ∧ Hid ((zs.take k).any p = false) ∧ Below w.heap.size w wr) (fun i _ => zs.length - (intOf i).toNat)
  case atStart => exact ⟨0, Nat.zero_le _, rfl, rfl, Below.refl _ _⟩
  case round =>
    obtain ⟨k, hk, rfl, hno, hB⟩ := hrel
    by_cases hlt : k < zs.length
    · obtain ⟨ad, z, rfl, hbk, hz, hc⟩ := H.out.get hlt
      have hcr := (hB.cell (p := ad.add k) (by rw [block_of_add]; exact hbk)).trans hc
      have hcall := HK.out wr z (List.mem_of_getElem? hz.out) hB
      clear hc
      cases hp : p z with
      | true =>
        rw [hp] at hcall
        have HP := Lib.hid hp
        clear hp
        go_wp2_with (go_at_fn g; refine hcall.mono ?_; rintro e w3 ⟨rfl, hB3⟩; have hW3 : Below w.heap.size w w3 := below_step hB hB3)
        go_ret
        refine ⟨k, rfl, hW3, by omega, by omega, ?_⟩
        show _ = _
        rw [List.any_eq_true.2 ⟨z, List.mem_of_getElem? hz.out, HP.out⟩]
        exact decide_eq_true (by omega)
      | false =>
        rw [hp] at hcall
        have HP := Lib.hid hp
        clear hp
        go_wp2_with (go_at_fn g; refine hcall.mono ?_; rintro e w3 ⟨rfl, hB3⟩; have hW3 : Below w.heap.size w w3 := below_step hB hB3)
        go_roundw
        case rel => exact ⟨k + 1, by omega, by go_num, (by rw [any_snoc hz.out, hno.out, HP.out]; rfl : (zs.take (k + 1)).any p = false), hW3⟩
        case measure => simp [intOf]; omega
    · obtain rfl : k = zs.length := by omega
      go_wp2
      go_ret
      refine ⟨-1, rfl, hB, by omega, by omega, ?_⟩
      have := hno.out
      rw [List.take_length] at this
      show _ = _
      rw [this]; rfl
theorem contains_any (g : Nat) (lb : Array Value) (p : Int → Bool) (eg : ∀ args w, (callFunc g args).run Try.prog w = .ok (.enter g args) w) (zs : List Int) (A : Option Addr) (c : Nat) (w : World) (hK : KeepAt g lb p zs w) (h : Ints w A zs) (hn : zs.length ≤ 1000) :
    Calls Try.prog 117 #[.slice A zs.length c, .func (.func g) #[] lb] w fun e w' => e = .returned (.bool (zs.any p)) ∧ Below w.heap.size w w' := by
  have H := Lib.hid h
  have HK := Lib.hid hK
  clear h hK
  go_enter Try.func117, Try.ntmps117
  go_wp2_with (go_at_call 126; refine (index_any g lb p eg zs A c _ HK.out H.out hn).mono ?_; rintro e w1 ⟨r, rfl, hB, h0, h1, hr⟩)
  all_goals
    go_ret
    exact ⟨ret_bool (by rw [← hr.out]; try (simp; try omega)), hB⟩
end Go.Proofs.Ytmlkdjcjfkfdiaa

/-
  Contracts: past, firstOf, first (cone), with their function literals.
-/
namespace Go.Proofs.Ytmlkdjcjfkfdiaa
open Go.RowKit Go.Shelf

theorem allL_has {ms : List (Int × Int)} {a : Int} (h : a ∈ allL ms.length) : hasB ms a = true := by
  have := allL_mem h
  simp [hasB]; omega

/-- What a function literal has captured: hits in one block, a number in another one. -/
structure Caught (w : World) (B0 B1 : Nat) (A : Option Addr) (n c : Nat) (a : Int) : Prop where
  lt0 : B0 < w.heap.size
  lt1 : B1 < w.heap.size
  hits : w.cell? ⟨B0, 0, none⟩ = some (.slice A n c)
  num : w.cell? ⟨B1, 0, none⟩ = some (.int .i64 a)
theorem Caught.below {w W : World} {B0 B1 : Nat} {A : Option Addr} {n c : Nat} {a : Int} (h : Caught w B0 B1 A n c a) (hb : Below w.heap.size w W) : Caught W B0 B1 A n c a :=
  ⟨Nat.lt_of_lt_of_le h.lt0 hb.size, Nat.lt_of_lt_of_le h.lt1 hb.size, (hb.cell (p := ⟨B0, 0, none⟩) h.lt0).trans h.hits, (hb.cell (p := ⟨B1, 0, none⟩) h.lt1).trans h.num⟩

set_option maxRecDepth 100000 in
theorem keep_past (ms : List (Int × Int)) (A : Option Addr) (c : Nat) (a : Int) (S : List Int) (B0 B1 : Nat) (w : World) (h : Marks w A ms) (hv : vhB ms = true) (ha : hasB ms a = true) (hS : ∀ b ∈ S, hasB ms b = true) (hC : Caught w B0 B1 A ms.length c a) :
    KeepAt 99 #[.pointer (some ⟨B0, 0, none⟩), .pointer (some ⟨B1, 0, none⟩)] (fun b => befI ms b a) S w := by
  intro W b hb hB
  have H := Lib.hid (And.intro (h.below hB) (And.intro hv (And.intro ha (hS b hb))))
  obtain ⟨l0, l1, c0, c1⟩ := hC.below hB
  clear h hv ha hS hC hB hb
  show Calls Try.prog _ #[.int .i64 b, .pointer (some ⟨B0, 0, none⟩), .pointer (some ⟨B1, 0, none⟩)] W _
  go_enter Try.func99, Try.ntmps99
  go_wp2_with (go_at_call 59; refine (before_any ms A c b a _ H.out.1 H.out.2.1 H.out.2.2.2 H.out.2.2.1).mono ?_; rintro e w' ⟨rfl, n, rfl⟩)
  go_ret
  exact ⟨rfl, below_drewN (Below.refl _ _) n⟩
set_option maxRecDepth 100000 in
theorem keep_first1 (ms : List (Int × Int)) (A : Option Addr) (c : Nat) (a : Int) (S : List Int) (B0 B1 : Nat) (w : World) (h : Marks w A ms) (hv : vhB ms = true) (ha : hasB ms a = true) (hS : ∀ b ∈ S, hasB ms b = true) (hC : Caught w B0 B1 A ms.length c a) :
    KeepAt 118 #[.pointer (some ⟨B0, 0, none⟩), .pointer (some ⟨B1, 0, none⟩)] (fun b => befI ms b a) S w := by
  intro W b hb hB
  have H := Lib.hid (And.intro (h.below hB) (And.intro hv (And.intro ha (hS b hb))))
  obtain ⟨l0, l1, c0, c1⟩ := hC.below hB
  clear h hv ha hS hC hB hb
  show Calls Try.prog _ #[.int .i64 b, .pointer (some ⟨B0, 0, none⟩), .pointer (some ⟨B1, 0, none⟩)] W _
  go_enter Try.func118, Try.ntmps118
  go_wp2_with (go_at_call 59; refine (before_any ms A c b a _ H.out.1 H.out.2.1 H.out.2.2.2 H.out.2.2.1).mono ?_; rintro e w' ⟨rfl, n, rfl⟩)
  go_ret
  exact ⟨rfl, below_drewN (Below.refl _ _) n⟩

set_option maxRecDepth 100000 in
theorem past_any (ms : List (Int × Int)) (A : Option Addr) (c : Nat) (a : Int) (w : World) (h : Marks w A ms) (hv : vhB ms = true) (ha : hasB ms a = true) :
    Calls Try.prog 62 #[.slice A ms.length c, .int .i64 a] w fun e w' => ∃ (A' : Option Addr) (c' : Nat) (ys : List Int), e = .returned (.slice A' ys.length c') ∧ Out w' A' c' ys ∧ Below w.heap.size w w' ∧ Hid (ys = pastL ms a) := by
  have hn := (vh_parts hv).2
  have H := Lib.hid (And.intro h (And.intro hv ha))
  have eg : ∀ args w, (callFunc 99 args).run Try.prog w = .ok (.enter 99 args) w := enters_of Try.func99 (by kernel_rfl) rfl
  clear h hv ha
  go_enter Try.func62, Try.ntmps62
  go_wp2_with fail
  refine (all_any ms.length A c _ (by omega)).mono ?_
  rintro e w1 ⟨A1, c1, rfl, hO1, hB1⟩
  have hB0 : Below w.heap.size w w1 := Below.trans (by repeat (first | with_reducible exact Below.refl _ _ | with_reducible assumption | refine below_drewN ?_ _ | with_reducible refine Below.drew ?_ | (refine Below.setCell ?_ (by first | (simp; done) | (simp; omega) | omega) _) | (refine Below.alloc ?_ (by first | (simp; done) | (simp; omega) | omega) _))) (hB1.mono (by first | (simp; done) | (simp; omega) | omega))
  have hC : Caught w1 w.heap.size (w.heap.size + 1) A ms.length c a := Caught.below ⟨(by first | (simp; done) | (simp; omega) | omega), (by first | (simp; done) | (simp; omega) | omega), by simp, by simp⟩ hB1
  have hlen := allL_len ms.length
  have HK := Lib.hid (keep_past ms A c a (allL ms.length) _ _ w1 (H.out.1.below hB0) H.out.2.1 H.out.2.2 (fun b hb => allL_has hb) hC)
  have HO := Lib.hid hO1
  have HC := Lib.hid hC
  clear hO1 hC
  have hsz : w.heap.size + 2 ≤ w1.heap.size := by have := hB1.size; simp at this; omega
  have hcon := kept_any _ _ _ eg (allL ms.length) A1 c1 w1 HK.out HO.out.ints (by omega)
  rw [hlen] at hcon
  have HQ := Lib.hid hcon
  clear hcon hlen eg
  go_wp2_with (go_at_call 97; refine HQ.out.mono ?_; rintro e w2 ⟨A2, c2, ys, rfl, hO2, hB2, hy⟩)
  go_ret
  exact ⟨A2, c2, ys, rfl, hO2, below_step hB0 hB2, hy⟩
end Go.Proofs.Ytmlkdjcjfkfdiaa

/-
  Contracts: firstOf, first, told for first, First (cone).
-/
namespace Go.Proofs.Ytmlkdjcjfkfdiaa
open Go.RowKit Go.Shelf

set_option maxRecDepth 100000 in
theorem keep_first (ms : List (Int × Int)) (A : Option Addr) (c : Nat) (S : List Int) (A2 : Option Addr) (c2 : Nat) (B0 B1 : Nat) (w : World) (h : Marks w A ms) (hv : vhB ms = true) (hS : ∀ b ∈ S, hasB ms b = true) (hI : Ints w A2 S) (hn : S.length ≤ 1000)
    (h0 : B0 < w.heap.size) (h1 : B1 < w.heap.size) (g0 : w.cell? ⟨B0, 0, none⟩ = some (.slice A2 S.length c2)) (g1 : w.cell? ⟨B1, 0, none⟩ = some (.slice A ms.length c)) :
    KeepAt 116 #[.pointer (some ⟨B0, 0, none⟩), .pointer (some ⟨B1, 0, none⟩)] (fun a => !(S.any fun b => befI ms b a)) S w := by
  intro W a ha hB
  have HB := Lib.hid hB
  have H := Lib.hid (And.intro (h.below hB) (And.intro hv (And.intro hS (hS a ha))))
  have HI := Lib.hid (hI.below hB)
  have c0 := (hB.cell (p := ⟨B0, 0, none⟩) h0).trans g0
  have c1 := (hB.cell (p := ⟨B1, 0, none⟩) h1).trans g1
  have z0 : B0 < W.heap.size := Nat.lt_of_lt_of_le h0 hB.size
  have z1 : B1 < W.heap.size := Nat.lt_of_lt_of_le h1 hB.size
  have eg : ∀ args w, (callFunc 118 args).run Try.prog w = .ok (.enter 118 args) w := enters_of Try.func118 (by kernel_rfl) rfl
  have hBB : Below W.heap.size W (W.alloc (.cells #[.int .i64 a] 3)) := (Below.refl _ _).alloc (Nat.le_refl _) _
  have hC : Caught (W.alloc (.cells #[.int .i64 a] 3)) B1 W.heap.size A ms.length c a := ⟨by simp; omega, by simp, (hBB.cell (p := ⟨B1, 0, none⟩) z1).trans c1, by simp⟩
  have hcon := contains_any _ _ _ eg S A2 c2 _ (keep_first1 ms A c a S B1 W.heap.size _ (H.out.1.below hBB) hv H.out.2.2.2 hS hC) (HI.out.below hBB) hn
  have HQ := Lib.hid hcon
  clear hcon hC hBB eg h hv hS hI hB g0 g1 ha
  show Calls Try.prog _ #[.int .i64 a, .pointer (some ⟨B0, 0, none⟩), .pointer (some ⟨B1, 0, none⟩)] W _
  go_enter Try.func116, Try.ntmps116
  go_wp2_with (go_at_call 117; refine HQ.out.mono ?_; rintro e w2 ⟨rfl, hB2⟩)
  go_ret
  exact ⟨rfl, Below.trans (by repeat (first | with_reducible exact Below.refl _ _ | with_reducible assumption | refine below_drewN ?_ _ | with_reducible refine Below.drew ?_ | (refine Below.setCell ?_ (by first | (simp; done) | (simp; omega) | omega) _) | (refine Below.alloc ?_ (by first | (simp; done) | (simp; omega) | omega) _))) (hB2.mono (by first | (simp; done) | (simp; omega) | omega))⟩

set_option maxRecDepth 100000 in
theorem firstOf_any (ms : List (Int × Int)) (A : Option Addr) (c : Nat) (S : List Int) (A2 : Option Addr) (c2 : Nat) (w : World) (h : Marks w A ms) (hv : vhB ms = true) (hS : ∀ b ∈ S, hasB ms b = true) (hI : Ints w A2 S) (hn : S.length ≤ 1000) :
    Calls Try.prog 100 #[.slice A ms.length c, .slice A2 S.length c2] w fun e w' => ∃ (A' : Option Addr) (c' : Nat) (ys : List Int), e = .returned (.slice A' ys.length c') ∧ Out w' A' c' ys ∧ Below w.heap.size w w' ∧ Hid (ys = firstOfL ms S) := by
  have eg : ∀ args w, (callFunc 116 args).run Try.prog w = .ok (.enter 116 args) w := enters_of Try.func116 (by kernel_rfl) rfl
  obtain ⟨w1, hw1⟩ : ∃ w1, w1 = (w.alloc (.cells #[.slice A ms.length c] 65)).alloc (.cells #[.slice A2 S.length c2] 28) := ⟨_, rfl⟩
  have hBB : Below w.heap.size w w1 := by rw [hw1]; exact ((Below.refl _ _).alloc (Nat.le_refl _) _).alloc (by first | (simp; done) | (simp; omega) | omega) _
  have hcon := kept_any _ _ _ eg S A2 c2 w1 (keep_first ms A c S A2 c2 (w.heap.size + 1) w.heap.size w1 (h.below hBB) hv hS (hI.below hBB) hn (by rw [hw1]; simp) (by rw [hw1]; exact (by first | (simp; done) | (simp; omega) | omega)) (by rw [hw1]; simp) (by rw [hw1]; simp)) (hI.below hBB) hn
  rw [hw1] at hcon
  have HQ := Lib.hid hcon
  have HBB := Lib.hid hBB
  clear hcon hBB eg h hv hS hI
  go_enter Try.func100, Try.ntmps100
  go_wp2_with (go_at_call 97; refine HQ.out.mono ?_; rintro e w2 ⟨A2, c2, ys, rfl, hO2, hB2, hy⟩)
  go_ret
  exact ⟨A2, c2, ys, rfl, hO2, Below.trans (by repeat (first | with_reducible exact Below.refl _ _ | with_reducible assumption | refine below_drewN ?_ _ | with_reducible refine Below.drew ?_ | (refine Below.setCell ?_ (by first | (simp; done) | (simp; omega) | omega) _) | (refine Below.alloc ?_ (by first | (simp; done) | (simp; omega) | omega) _))) (hB2.mono (by first | (simp; done) | (simp; omega) | omega)), hy⟩

set_option maxRecDepth 100000 in
theorem first_any (ms : List (Int × Int)) (A : Option Addr) (c : Nat) (w : World) (h : Marks w A ms) (hv : vhB ms = true) :
    Calls Try.prog 66 #[.slice A ms.length c] w fun e w' => ∃ (A' : Option Addr) (c' : Nat) (ys : List Int), e = .returned (.slice A' ys.length c') ∧ Out w' A' c' ys ∧ Below w.heap.size w w' ∧ Hid (ys = firstL ms) := by
  have hn := (vh_parts hv).2
  have H := Lib.hid (And.intro h hv)
  have HL := Lib.hid (allL_len ms.length)
  clear h hv
  go_enter Try.func66, Try.ntmps66
  go_wp2_with fail
  refine (all_any ms.length A c _ (by omega)).mono ?_
  rintro e w1 ⟨A1, c1, rfl, hO1, hB1⟩
  have hcon := firstOf_any ms A c (allL ms.length) A1 c1 w1 (H.out.1.below hB1) H.out.2 (fun b hb => allL_has hb) hO1.ints (by rw [HL.out]; omega)
  rw [HL.out] at hcon
  have HQ := Lib.hid hcon
  have HO := Lib.hid hO1
  clear hcon hO1
  go_wp2_with (go_at_call 100; refine HQ.out.mono ?_; rintro e w2 ⟨A2, c2, ys, rfl, hO2, hB2, hy⟩)
  go_ret
  exact ⟨A2, c2, ys, rfl, hO2, below_step hB1 hB2, hy⟩

def hitsE (ms : List (Int × Int)) : Int := if vhB ms then 0 else 20
def firstF (ms : List (Int × Int)) : List Int := if vhB ms then firstL ms else []
theorem hitsE_yes {ms : List (Int × Int)} (h : vhB ms = true) : hitsE ms = 0 := by simp [hitsE, h]
theorem hitsE_no {ms : List (Int × Int)} (h : vhB ms = false) : hitsE ms = 20 := by simp [hitsE, h]

set_option maxRecDepth 100000 in
theorem toldFirst_any (ms : List (Int × Int)) (A : Option Addr) (c : Nat) (w : World) (h : Clk w A c ms) :
    Calls Try.prog 65 #[.slice A ms.length c, .func (Fn.func 66) #[.slice A ms.length c] #[]] w fun e w' => ∃ (A' : Option Addr) (c' : Nat) (ys : List Int) (E : Int), e = .returned (.tuple #[.slice A' ys.length c', .int .i64 E]) ∧ Out w' A' c' ys ∧ Below w.heap.size w w' ∧ Hid (ys = firstF ms ∧ E = hitsE ms) := by
  have H := Lib.hid h
  clear h
  cases hv : vhB ms with
  | true =>
    have HV := Lib.hid hv
    clear hv
    go_enter Try.func65, Try.ntmps65
    go_wp2_with (first
      | (go_at_call 21; refine (valid_any ms A c _ H.out.marks H.out.len).mono ?_; rintro e w1 ⟨he, hB1⟩; rw [HV.out] at he; subst he)
      | (go_at_call 66; refine (first_any ms A c _ (H.out.marks.below hB1) HV.out).mono ?_; rintro e w2 ⟨A2, c2, ys, rfl, hO2, hB2, hy⟩))
    go_ret2
    exact ⟨A2, c2, ys, _, rfl, hO2, below_step hB1 hB2, by rw [hy.out, firstF, HV.out]; rfl, (hitsE_yes HV.out).symm⟩
  | false =>
    have HV := Lib.hid hv
    clear hv
    go_enter Try.func65, Try.ntmps65
    go_wp2_with (go_at_call 21; refine (valid_any ms A c _ H.out.marks H.out.len).mono ?_; rintro e w1 ⟨he, hB1⟩; rw [HV.out] at he; subst he)
    go_ret2
    exact ⟨none, 0, [], _, rfl, Out.nil_, hB1, by rw [firstF, HV.out]; rfl, (hitsE_no HV.out).symm⟩
set_option maxRecDepth 100000 in
theorem coneFirst_any (ms : List (Int × Int)) (A : Option Addr) (c : Nat) (w : World) (h : Clk w A c ms) :
    Calls Try.prog 24 #[.slice A ms.length c] w fun e w' => ∃ (A' : Option Addr) (c' : Nat) (ys : List Int) (E : Int), e = .returned (.tuple #[.slice A' ys.length c', .int .i64 E]) ∧ Out w' A' c' ys ∧ Below w.heap.size w w' ∧ Hid (ys = firstF ms ∧ E = hitsE ms) := by
  have H := Lib.hid h
  clear h
  go_enter Try.func24, Try.ntmps24
  go_wp2_with (go_at_call 65; refine (toldFirst_any ms A c _ H.out).mono ?_; rintro e w2 ⟨A2, c2, ys, E, rfl, hO2, hB2, hy⟩)
  go_ret2
  exact ⟨A2, c2, ys, E, rfl, hO2, hB2, hy⟩
end Go.Proofs.Ytmlkdjcjfkfdiaa

/-
  Contract: longestLayer (cone).
-/
namespace Go.Proofs.Ytmlkdjcjfkfdiaa
open Go.RowKit Go.Shelf

set_option maxRecDepth 100000 in
theorem keep_strange (ms : List (Int × Int)) (A : Option Addr) (c : Nat) (a : Int) (S : List Int) (B0 B1 : Nat) (w : World) (h : Marks w A ms) (hv : vhB ms = true) (ha : hasB ms a = true) (hS : ∀ b ∈ S, hasB ms b = true) (hC : Caught w B0 B1 A ms.length c a) :
    KeepAt 123 #[.pointer (some ⟨B0, 0, none⟩), .pointer (some ⟨B1, 0, none⟩)] (fun b => !knowI ms a b) S w := by
  intro W b hb hB
  have H := Lib.hid (And.intro (h.below hB) (And.intro hv (And.intro ha (hS b hb))))
  obtain ⟨l0, l1, c0, c1⟩ := hC.below hB
  clear h hv ha hS hC hB hb
  show Calls Try.prog _ #[.int .i64 b, .pointer (some ⟨B0, 0, none⟩), .pointer (some ⟨B1, 0, none⟩)] W _
  go_enter Try.func123, Try.ntmps123
  go_wp2_with (go_at_call 111; refine (know_any ms A c a b _ H.out.1 H.out.2.1 H.out.2.2.1 H.out.2.2.2).mono ?_; rintro e w' ⟨rfl, n, rfl⟩)
  go_ret
  exact ⟨rfl, below_drewN (Below.refl _ _) n⟩

theorem Ints.tail_ {w : World} {bl off : Nat} {f : Int} {t : List Int} (h : Ints w (some ⟨bl, off, none⟩) (f :: t)) : Ints w (some ⟨bl, off + 1, none⟩) t := by
  refine ⟨by simp, fun hn => ?_⟩
  obtain ⟨ad, e, hb, hc⟩ := h.2 (by simp)
  cases e
  refine ⟨_, rfl, hb, fun j u hj => ?_⟩
  rw [add_mk]
  have := hc (j + 1) u (by simpa using hj)
  rw [add_mk] at this
  rw [← this]; congr 2; omega

section
variable {ops : Array Oper} {o : Oper} {a : Act} {K : Act → World → Prop} {Q : Exit → Act → World → Prop} {E : Prop}
/-- Appending the ints of a slice (nil where there are none) to the call's own ints, in a region that draws. -/
theorem step_app_ints (w : World) (hgd : o.guard = none) (s x : Operand)
    (ho : o.op = .call { callee := .builtin .append, args := #[s, x], argTypes := #[28, 28] })
    (base : Nat) (v : Value) (n : Nat) (xs ys : List Int) (A : Option Addr) (c : Nat) (hs : a.eval s = v) (hown : w.ownsRow base 3 1 v n (xs.map (Value.int .i64)))
    (hx : a.eval x = .slice A ys.length c) (hy : Ints w A ys) (hnil : ys = [] → A = none ∧ c = 0) (hy1 : ys.length ≤ 1000) (hn : n ≤ 1000) (hbase : base ≤ w.heap.size)
    (h : ∀ v' w', w'.ownsRow base 3 1 v' (n + ys.length) ((xs ++ ys).map (Value.int .i64)) → Below base w w' → K (a.put o.dst v') w') :
    if Region.wanted o (yielded ops a.tmps) = true then Oper.wp Try.prog o a w K Q else E := by
  have hw : Region.wanted o (yielded ops a.tmps) = true := by simp [Region.wanted, hgd]
  rw [if_pos hw]
  obtain ⟨i0, hi0, hz0, hz1, hz2⟩ := info_parts int_info
  by_cases hys : ys = []
  · obtain ⟨rfl, rfl⟩ := hnil hys
    subst hys
    have hrun := run_append_owned_none (P := Try.prog) (w := w) base 28 o.type 3 i0 1 Try.underlying28 hi0 v n _ hown
    unfold Oper.wp
    simp [execOp, ho, resolve, invoke, builtin, hs, hx, hrun, Result.andThen]
    exact h v w (by simpa using hown) (Below.refl _ _)
  · have hy0 : 0 < ys.length := List.length_pos_iff.2 hys
    obtain ⟨ad, rfl, hb, hall⟩ := hy.2 hy0
    refine wp_append_own _ s x 28 ho base 3 i0 (.int .i64 0) 1 8 Try.underlying28 hi0 hz0 hz1 hz2 rfl (by decide) v n _ hs hown ad ys.length c (ys.map (Value.int .i64)) hx (by simp) hall ?_ (by unfold maxLen; omega) (by omega) hbase ?_
    · intro u hu
      simp only [List.mem_map] at hu
      obtain ⟨m, _, rfl⟩ := hu
      rfl
    · intro v' w' ho' hg _
      refine h v' w' (by rw [List.map_append]; exact ho') ((Below.refl base w).grown hg hbase ?_)
      intro k hk
      exact (hown.lt k hk).1
end
theorem cell_drew' (w : World) (p : Addr) : w.drew.cell? p = w.cell? p := rfl
theorem own_one (w : World) (base : Nat) (f : Int) (hb : base ≤ w.heap.size) : (w.alloc (.cells #[.int .i64 f] 3)).ownsRow base 3 1 (.slice (some ⟨w.heap.size, 0, none⟩) 1 1) 1 ([f].map (Value.int .i64)) :=
  World.ownsRow_lit w #[.int .i64 f] 1 hb (by unfold maxLen; omega) rfl
theorem Ints.alloc_ {w : World} {A : Option Addr} {zs : List Int} (h : Ints w A zs) (o : Obj) : Ints (w.alloc o) A zs := h.below ((Below.refl _ _).alloc (Nat.le_refl _) _)
theorem longL_nil {ms : List (Int × Int)} {m : Nat} {f : Int} {t : List Int} : longL ms (m + 1) (f :: t) ≠ [] := by
  rw [longL]; split
  · simp
  · split
    · intro h; rename_i h1; rw [h] at h1; simp at h1
    · simp

/-- What longestLayer says of lists of at most m numbers. -/
def LongAt (ms : List (Int × Int)) (A : Option Addr) (c m : Nat) : Prop :=
  ∀ (S : List Int) (A2 : Option Addr) (c2 : Nat) (w : World), S.length ≤ m → S.length ≤ 100 → Marks w A ms → Out w A2 c2 S → (∀ b ∈ S, hasB ms b = true) →
      Calls Try.prog 110 #[.slice A ms.length c, .slice A2 S.length c2] w fun e w' => ∃ (A' : Option Addr) (c' : Nat) (ys : List Int), e = .returned (.slice A' ys.length c') ∧ Out w' A' c' ys ∧ Below w.heap.size w w' ∧ (ys = [] → A' = none ∧ c' = 0) ∧ Hid (ys = longL ms m S)

set_option maxRecDepth 100000 in
set_option maxHeartbeats 2000000 in
theorem long_cons1 (ms : List (Int × Int)) (A : Option Addr) (c m : Nat) (hv : vhB ms = true) (ih : LongAt ms A c m)
    (f : Int) (bl off : Nat) (w : World) (h : Marks w A ms) (hO : Out w (some ⟨bl, off, none⟩) 1 (f :: [])) (hS : ∀ b ∈ f :: [], hasB ms b = true) :
    Calls Try.prog 110 #[.slice A ms.length c, .slice (some ⟨bl, off, none⟩) 1 1] w fun e w' => ∃ (A' : Option Addr) (c' : Nat) (ys : List Int), e = .returned (.slice A' ys.length c') ∧ Out w' A' c' ys ∧ Below w.heap.size w w' ∧ (ys = [] → A' = none ∧ c' = 0) ∧ Hid (ys = longL ms (m + 1) (f :: [])) := by
  skip
  skip
  skip
  obtain ⟨ad, e, hb, hcells⟩ := hO.ints.2 (by simp)
  cases e
  have f0 : w.cell? ⟨bl, off, none⟩ = some (.int .i64 f) := by
    have := hcells 0 (.int .i64 f) (by simp)
    rwa [add_mk] at this
  simp only at hb
  have HOT : Hid (Out w (some ⟨bl, off, none⟩) (0) []) := ⟨Ints.nil_, Nat.le_refl _, by unfold maxLen; omega⟩
  have H := Lib.hid (And.intro h (And.intro hv (And.intro hO hS)))
  have IH := Lib.hid ih
  have EG : Hid (∀ args w, (callFunc 123 args).run Try.prog w = .ok (.enter 123 args) w) := enters_of Try.func123 (by kernel_rfl) rfl
  clear h hv hO hS ih hcells
  go_enter Try.func110, Try.ntmps110
  go_wp2_with fail
  go_region
  go_wp2_with fail
  have hB1 : Below w.heap.size w ((w.alloc (.cells #[.slice A ms.length c] 65)).alloc (.cells #[.int .i64 f] 3)).drew := (by repeat (first | with_reducible exact Below.refl _ _ | with_reducible assumption | refine below_drewN ?_ _ | with_reducible refine Below.drew ?_ | (refine Below.setCell ?_ (by first | (simp; done) | (simp; omega) | omega) _) | (refine Below.alloc ?_ (by first | (simp; done) | (simp; omega) | omega) _)))
  have hC1 : Caught ((w.alloc (.cells #[.slice A ms.length c] 65)).alloc (.cells #[.int .i64 f] 3)).drew w.heap.size (w.heap.size + 1) A ms.length c f := ⟨(by first | (simp; done) | (simp; omega) | omega), (by first | (simp; done) | (simp; omega) | omega), by simp, by simp⟩
  have hcon := kept_any _ _ _ EG.out [] (some ⟨bl, off, none⟩) (0) _ (keep_strange ms A c f [] _ _ _ (H.out.1.below hB1) H.out.2.1 (H.out.2.2.2 f (by simp)) (fun b hb => H.out.2.2.2 b (by simp [hb])) hC1) (HOT.out.ints.below hB1) (by first | omega | simp)
  refine hcon.mono ?_
  clear hcon
  rintro e w2 ⟨A3, c3, zs, rfl, hO3, hB2, hzs⟩
  obtain rfl : zs = [] := hzs.out
  have c0 := (hB2.cell (p := ⟨w.heap.size, 0, none⟩) (by first | (simp; done) | (simp; omega) | omega)).trans hC1.hits
  have c1 := (hB2.cell (p := ⟨w.heap.size + 1, 0, none⟩) (by first | (simp; done) | (simp; omega) | omega)).trans hC1.num
  have hz2 : w.heap.size + 1 < w2.heap.size := by have := hB2.size; simp at this; omega
  have hB02 : Below w.heap.size w w2 := hB1.trans (hB2.mono (by first | (simp; done) | (simp; omega) | omega))
  have HM2 := Lib.hid (H.out.1.below hB02)
  have HO3 := Lib.hid hO3
  have HB02 := Lib.hid hB02
  skip
  skip
  have HZS := Lib.hid (show ∀ b ∈ ([] : List Int), hasB ms b = true from fun b hb => by cases hb)
  skip
  clear hC1 hB1 hB2 hO3 hB02
  obtain ⟨B, hBe⟩ : ∃ B, B = w.heap.size := ⟨_, rfl⟩
  rw [← hBe] at c0 c1 hz2 hb ⊢
  have HBE := Lib.hid hBe
  clear hBe f0 hb
  go_wp2_with fail
  have hBz : B < w2.heap.size := by omega
  go_region_held3 (fun w' => w'.cell? ⟨B, 0, none⟩ = some (.slice A ms.length c) ∧ w'.cell? ⟨B + 1, 0, none⟩ = some (.int .i64 f))
    (((try simp only [cell_drew']); first | with_reducible exact ⟨c0, c1⟩ | exact ⟨(World.cell?_alloc_lt _ _ _ (by first | omega | (simp; omega))).trans c0, (World.cell?_alloc_lt _ _ _ (by first | omega | (simp; omega))).trans c1⟩))
    ((first
      | (go_at_call 110; refine (IH.out [] A3 c3 _ (Nat.zero_le _) (Nat.zero_le _) (HM2.out.below (by repeat (first | with_reducible exact Below.refl _ _ | with_reducible assumption | refine below_drewN ?_ _ | with_reducible refine Below.drew ?_ | (refine Below.setCell ?_ (by first | (simp; done) | (simp; omega) | omega) _) | (refine Below.alloc ?_ (by first | (simp; done) | (simp; omega) | omega) _)))) (HO3.out.below (by repeat (first | with_reducible exact Below.refl _ _ | with_reducible assumption | refine below_drewN ?_ _ | with_reducible refine Below.drew ?_ | (refine Below.setCell ?_ (by first | (simp; done) | (simp; omega) | omega) _) | (refine Below.alloc ?_ (by first | (simp; done) | (simp; omega) | omega) _)))) HZS.out).mono ?_; rintro e w3 ⟨A4, c4, ys, rfl, hO4, hB4, hn4, hy4⟩; have hz4 : w2.heap.size ≤ w3.heap.size := (by have := hB4.size; simp at this; omega); have HB4 : Hid (Below w2.heap.size w2 w3) := (Below.trans (by repeat (first | with_reducible exact Below.refl _ _ | with_reducible assumption | refine below_drewN ?_ _ | with_reducible refine Below.drew ?_ | (refine Below.setCell ?_ (by first | (simp; done) | (simp; omega) | omega) _) | (refine Below.alloc ?_ (by first | (simp; done) | (simp; omega) | omega) _))) (hB4.mono (by first | (simp; done) | (simp; omega) | omega))); have HB4' := Lib.hid hB4; have HY4 : Hid (ys.length ≤ 100) := (show ys.length ≤ 100 by rw [hy4.out]; exact Nat.le_trans (longL_len ms m []) (by first | omega | simp)); clear hB4; have c0 := (HB4.out.cell (p := ⟨B, 0, none⟩) hBz).trans c0; have c1 := (HB4.out.cell (p := ⟨B + 1, 0, none⟩) hz2).trans c1)
      | (refine step_app_ints w3 rfl (.tmp 22) (.tmp 25) rfl w2.heap.size (.slice (some ⟨w2.heap.size, 0, none⟩) 1 1) 1 [f] ys A4 c4 rfl (own_below (World.ownsRow.drew (own_one w2 w2.heap.size f (Nat.le_refl _))) HB4'.out) rfl hO4.ints hn4 (by have := HY4.out; omega) (by omega) hz4 ?_; intro v2 w5 hown5 hB5; have c0 := (hB5.cell (p := ⟨B, 0, none⟩) hBz).trans c0; have c1 := (hB5.cell (p := ⟨B + 1, 0, none⟩) hz2).trans c1; have HB5 : Hid (Below w2.heap.size w2 w5) := HB4.out.trans hB5; clear hB5)
      | (refine step_app_ints (w3.alloc (.cells #[.int .i64 f] 3)) rfl (.tmp 22) (.tmp 25) rfl w2.heap.size (.slice (some ⟨w3.heap.size, 0, none⟩) 1 1) 1 [f] ys A4 c4 rfl (own_one w3 w2.heap.size f hz4) rfl (hO4.ints.alloc_ _) hn4 (by have := HY4.out; omega) (by omega) (by simp; omega) ?_; intro v2 w5 hown5 hB5; have c0 := (hB5.cell (p := ⟨B, 0, none⟩) hBz).trans ((World.cell?_alloc_lt w3 _ ⟨B, 0, none⟩ (by show B < _; omega)).trans c0); have c1 := (hB5.cell (p := ⟨B + 1, 0, none⟩) hz2).trans ((World.cell?_alloc_lt w3 _ ⟨B + 1, 0, none⟩ (by show B + 1 < _; omega)).trans c1); have HB5 : Hid (Below w2.heap.size w2 w5) := (HB4.out.alloc hz4 _).trans hB5; clear hB5)
      | (refine step_app_ints (w3.alloc (.cells #[.int .i64 f] 3)).drew rfl (.tmp 22) (.tmp 25) rfl w2.heap.size (.slice (some ⟨w3.heap.size, 0, none⟩) 1 1) 1 [f] ys A4 c4 rfl (World.ownsRow.drew (own_one w3 w2.heap.size f hz4)) rfl (hO4.ints.alloc_ _) hn4 (by have := HY4.out; omega) (by omega) (by simp; omega) ?_; intro v2 w5 hown5 hB5; have c0 := (hB5.cell (p := ⟨B, 0, none⟩) hBz).trans ((World.cell?_alloc_lt w3 _ ⟨B, 0, none⟩ (by show B < _; omega)).trans c0); have c1 := (hB5.cell (p := ⟨B + 1, 0, none⟩) hz2).trans ((World.cell?_alloc_lt w3 _ ⟨B + 1, 0, none⟩ (by show B + 1 < _; omega)).trans c1); have HB5 : Hid (Below w2.heap.size w2 w5) := (HB4.out.alloc hz4 _).trans hB5; clear hB5)))
  all_goals
    obtain ⟨us, hus⟩ : ∃ us, us = [f] ++ ys := ⟨_, rfl⟩
    rw [← hus] at hown5
    have hul : us.length = ys.length + 1 := by rw [hus]; simp
    have HUL := Lib.hid hul
    obtain ⟨A5, c5, rfl, hO5⟩ := own_ints hown5
    have HO5 := Lib.hid hO5
    have HUS := Lib.hid (show us = f :: longL ms m (strangersL ms f []) by rw [hus, hy4.out]; rfl)
    have HZL := Lib.hid (show (strangersL ms f []).length = 0 from rfl)
    have HNE := Lib.hid (show us ≠ [] by rw [HUS.out]; simp)
    have HBW := Lib.hid (show Below w.heap.size w w5 from HB02.out.trans (HB5.out.mono HB02.out.size))
    have HMW := Lib.hid (H.out.1.below HBW.out)
    have HOW := Lib.hid (HOT.out.below HBW.out)
    have hHY := HY4.out
    clear hown5 hO5 hO4 hn4 hy4 hus hul c0 c1 HZS HO3 HM2 hzs
    go_wp2_with fail
    go_ret
    exact ⟨A5, c5, us, rfl, HO5.out, HBW.out, fun h => absurd h HNE.out, (by rw [longL, if_pos (by rw [HZL.out]; rfl), HUS.out] : us = longL ms (m + 1) (f :: []))⟩

set_option maxRecDepth 100000 in
set_option maxHeartbeats 2000000 in
theorem long_cons2 (ms : List (Int × Int)) (A : Option Addr) (c m : Nat) (hv : vhB ms = true) (ih : LongAt ms A c m)
    (f : Int) (others : List Int) (bl off : Nat) (c2 : Nat) (w : World) (hm : others.length ≤ m) (hm1 : others.length ≤ 100) (h : Marks w A ms) (hO : Out w (some ⟨bl, off, none⟩) c2 (f :: others)) (hS : ∀ b ∈ f :: others, hasB ms b = true) (h1 : 1 < c2) :
    Calls Try.prog 110 #[.slice A ms.length c, .slice (some ⟨bl, off, none⟩) (others.length + 1) c2] w fun e w' => ∃ (A' : Option Addr) (c' : Nat) (ys : List Int), e = .returned (.slice A' ys.length c') ∧ Out w' A' c' ys ∧ Below w.heap.size w w' ∧ (ys = [] → A' = none ∧ c' = 0) ∧ Hid (ys = longL ms (m + 1) (f :: others)) := by
  have hl0 : ((((others.length + 1 : Nat) : Int)) == 0) = false := by simp; omega
  have hlc : others.length + 1 ≤ c2 := hO.le
  have hcm : c2 ≤ 9223372036854775807 := hO.cap
  obtain ⟨ad, e, hb, hcells⟩ := hO.ints.2 (by simp)
  cases e
  have f0 : w.cell? ⟨bl, off, none⟩ = some (.int .i64 f) := by
    have := hcells 0 (.int .i64 f) (by simp)
    rwa [add_mk] at this
  simp only at hb
  have HOT : Hid (Out w (some ⟨bl, off + 1, none⟩) (c2 - 1) others) := ⟨hO.ints.tail_, by omega, by unfold maxLen; omega⟩
  have H := Lib.hid (And.intro h (And.intro hv (And.intro hO hS)))
  have IH := Lib.hid ih
  have EG : Hid (∀ args w, (callFunc 123 args).run Try.prog w = .ok (.enter 123 args) w) := enters_of Try.func123 (by kernel_rfl) rfl
  clear h hv hO hS ih hcells
  go_enter Try.func110, Try.ntmps110
  go_wp2_with fail
  go_region
  go_wp2_with fail
  have hB1 : Below w.heap.size w ((w.alloc (.cells #[.slice A ms.length c] 65)).alloc (.cells #[.int .i64 f] 3)).drew := (by repeat (first | with_reducible exact Below.refl _ _ | with_reducible assumption | refine below_drewN ?_ _ | with_reducible refine Below.drew ?_ | (refine Below.setCell ?_ (by first | (simp; done) | (simp; omega) | omega) _) | (refine Below.alloc ?_ (by first | (simp; done) | (simp; omega) | omega) _)))
  have hC1 : Caught ((w.alloc (.cells #[.slice A ms.length c] 65)).alloc (.cells #[.int .i64 f] 3)).drew w.heap.size (w.heap.size + 1) A ms.length c f := ⟨(by first | (simp; done) | (simp; omega) | omega), (by first | (simp; done) | (simp; omega) | omega), by simp, by simp⟩
  have hcon := kept_any _ _ _ EG.out others (some ⟨bl, off + 1, none⟩) (c2 - 1) _ (keep_strange ms A c f others _ _ _ (H.out.1.below hB1) H.out.2.1 (H.out.2.2.2 f (by simp)) (fun b hb => H.out.2.2.2 b (by simp [hb])) hC1) (HOT.out.ints.below hB1) (by first | omega | simp)
  refine hcon.mono ?_
  clear hcon
  rintro e w2 ⟨A3, c3, zs, rfl, hO3, hB2, hzs⟩
  have c0 := (hB2.cell (p := ⟨w.heap.size, 0, none⟩) (by first | (simp; done) | (simp; omega) | omega)).trans hC1.hits
  have c1 := (hB2.cell (p := ⟨w.heap.size + 1, 0, none⟩) (by first | (simp; done) | (simp; omega) | omega)).trans hC1.num
  have hz2 : w.heap.size + 1 < w2.heap.size := by have := hB2.size; simp at this; omega
  have hB02 : Below w.heap.size w w2 := hB1.trans (hB2.mono (by first | (simp; done) | (simp; omega) | omega))
  have HM2 := Lib.hid (H.out.1.below hB02)
  have HO3 := Lib.hid hO3
  have HB02 := Lib.hid hB02
  have HL3 := Lib.hid (show zs.length ≤ others.length by rw [hzs.out]; exact List.length_filter_le _ _)
  have HL4 := HL3.out
  have HZS := Lib.hid (show ∀ b ∈ zs, hasB ms b = true from fun b hb => H.out.2.2.2 b (by rw [hzs.out] at hb; simp at hb; simp [hb.1]))
  have HOS := Lib.hid (show ∀ b ∈ others, hasB ms b = true from fun b hb => H.out.2.2.2 b (by simp [hb]))
  clear hC1 hB1 hB2 hO3 hB02
  obtain ⟨B, hBe⟩ : ∃ B, B = w.heap.size := ⟨_, rfl⟩
  rw [← hBe] at c0 c1 hz2 hb ⊢
  have HBE := Lib.hid hBe
  clear hBe f0 hb
  go_wp2_with fail
  have hBz : B < w2.heap.size := by omega
  go_region_held3 (fun w' => w'.cell? ⟨B, 0, none⟩ = some (.slice A ms.length c) ∧ w'.cell? ⟨B + 1, 0, none⟩ = some (.int .i64 f))
    (((try simp only [cell_drew']); first | with_reducible exact ⟨c0, c1⟩ | exact ⟨(World.cell?_alloc_lt _ _ _ (by first | omega | (simp; omega))).trans c0, (World.cell?_alloc_lt _ _ _ (by first | omega | (simp; omega))).trans c1⟩))
    ((first
      | (go_at_call 110; refine (IH.out zs A3 c3 _ (by omega) (by omega) (HM2.out.below (by repeat (first | with_reducible exact Below.refl _ _ | with_reducible assumption | refine below_drewN ?_ _ | with_reducible refine Below.drew ?_ | (refine Below.setCell ?_ (by first | (simp; done) | (simp; omega) | omega) _) | (refine Below.alloc ?_ (by first | (simp; done) | (simp; omega) | omega) _)))) (HO3.out.below (by repeat (first | with_reducible exact Below.refl _ _ | with_reducible assumption | refine below_drewN ?_ _ | with_reducible refine Below.drew ?_ | (refine Below.setCell ?_ (by first | (simp; done) | (simp; omega) | omega) _) | (refine Below.alloc ?_ (by first | (simp; done) | (simp; omega) | omega) _)))) HZS.out).mono ?_; rintro e w3 ⟨A4, c4, ys, rfl, hO4, hB4, hn4, hy4⟩; have hz4 : w2.heap.size ≤ w3.heap.size := (by have := hB4.size; simp at this; omega); have HB4 : Hid (Below w2.heap.size w2 w3) := (Below.trans (by repeat (first | with_reducible exact Below.refl _ _ | with_reducible assumption | refine below_drewN ?_ _ | with_reducible refine Below.drew ?_ | (refine Below.setCell ?_ (by first | (simp; done) | (simp; omega) | omega) _) | (refine Below.alloc ?_ (by first | (simp; done) | (simp; omega) | omega) _))) (hB4.mono (by first | (simp; done) | (simp; omega) | omega))); have HB4' := Lib.hid hB4; have HY4 : Hid (ys.length ≤ 100) := (show ys.length ≤ 100 by rw [hy4.out]; exact Nat.le_trans (longL_len ms m zs) (by first | omega | simp)); clear hB4; have c0 := (HB4.out.cell (p := ⟨B, 0, none⟩) hBz).trans c0; have c1 := (HB4.out.cell (p := ⟨B + 1, 0, none⟩) hz2).trans c1)
      | (refine step_app_ints w3 rfl (.tmp 22) (.tmp 25) rfl w2.heap.size (.slice (some ⟨w2.heap.size, 0, none⟩) 1 1) 1 [f] ys A4 c4 rfl (own_below (World.ownsRow.drew (own_one w2 w2.heap.size f (Nat.le_refl _))) HB4'.out) rfl hO4.ints hn4 (by have := HY4.out; omega) (by omega) hz4 ?_; intro v2 w5 hown5 hB5; have c0 := (hB5.cell (p := ⟨B, 0, none⟩) hBz).trans c0; have c1 := (hB5.cell (p := ⟨B + 1, 0, none⟩) hz2).trans c1; have HB5 : Hid (Below w2.heap.size w2 w5) := HB4.out.trans hB5; clear hB5)
      | (refine step_app_ints (w3.alloc (.cells #[.int .i64 f] 3)) rfl (.tmp 22) (.tmp 25) rfl w2.heap.size (.slice (some ⟨w3.heap.size, 0, none⟩) 1 1) 1 [f] ys A4 c4 rfl (own_one w3 w2.heap.size f hz4) rfl (hO4.ints.alloc_ _) hn4 (by have := HY4.out; omega) (by omega) (by simp; omega) ?_; intro v2 w5 hown5 hB5; have c0 := (hB5.cell (p := ⟨B, 0, none⟩) hBz).trans ((World.cell?_alloc_lt w3 _ ⟨B, 0, none⟩ (by show B < _; omega)).trans c0); have c1 := (hB5.cell (p := ⟨B + 1, 0, none⟩) hz2).trans ((World.cell?_alloc_lt w3 _ ⟨B + 1, 0, none⟩ (by show B + 1 < _; omega)).trans c1); have HB5 : Hid (Below w2.heap.size w2 w5) := (HB4.out.alloc hz4 _).trans hB5; clear hB5)
      | (refine step_app_ints (w3.alloc (.cells #[.int .i64 f] 3)).drew rfl (.tmp 22) (.tmp 25) rfl w2.heap.size (.slice (some ⟨w3.heap.size, 0, none⟩) 1 1) 1 [f] ys A4 c4 rfl (World.ownsRow.drew (own_one w3 w2.heap.size f hz4)) rfl (hO4.ints.alloc_ _) hn4 (by have := HY4.out; omega) (by omega) (by simp; omega) ?_; intro v2 w5 hown5 hB5; have c0 := (hB5.cell (p := ⟨B, 0, none⟩) hBz).trans ((World.cell?_alloc_lt w3 _ ⟨B, 0, none⟩ (by show B < _; omega)).trans c0); have c1 := (hB5.cell (p := ⟨B + 1, 0, none⟩) hz2).trans ((World.cell?_alloc_lt w3 _ ⟨B + 1, 0, none⟩ (by show B + 1 < _; omega)).trans c1); have HB5 : Hid (Below w2.heap.size w2 w5) := (HB4.out.alloc hz4 _).trans hB5; clear hB5)))
  all_goals
    obtain ⟨us, hus⟩ : ∃ us, us = [f] ++ ys := ⟨_, rfl⟩
    rw [← hus] at hown5
    have hul : us.length = ys.length + 1 := by rw [hus]; simp
    have HUL := Lib.hid hul
    obtain ⟨A5, c5, rfl, hO5⟩ := own_ints hown5
    have HO5 := Lib.hid hO5
    have HUS := Lib.hid (show us = f :: longL ms m (strangersL ms f others) by rw [hus, hy4.out, hzs.out]; rfl)
    have HZL := Lib.hid (show (strangersL ms f others).length = zs.length by rw [hzs.out]; rfl)
    have HNE := Lib.hid (show us ≠ [] by rw [HUS.out]; simp)
    have HBW := Lib.hid (show Below w.heap.size w w5 from HB02.out.trans (HB5.out.mono HB02.out.size))
    have HMW := Lib.hid (H.out.1.below HBW.out)
    have HOW := Lib.hid (HOT.out.below HBW.out)
    have hHY := HY4.out
    clear hown5 hO5 hO4 hn4 hy4 hus hul c0 c1 HZS HO3 HM2 hzs
    by_cases hse : zs.length = others.length
    · have hse1 : ((zs.length : Int) == (others.length : Int)) = true := by simp [hse]
      have HSE := Lib.hid hse
      clear hse
      go_wp2_with fail
      go_ret
      exact ⟨A5, c5, us, rfl, HO5.out, HBW.out, fun h => absurd h HNE.out, (by rw [longL, if_pos (by rw [HZL.out, HSE.out]), HUS.out] : us = longL ms (m + 1) (f :: others))⟩
    · have hse1 : ((zs.length : Int) == (others.length : Int)) = false := by simp; omega
      have HSE := Lib.hid hse
      clear hse
      go_wp2_with (go_at_call 110; refine (IH.out others (some ⟨bl, off + 1, none⟩) (c2 - 1) _ (by omega) (by omega) HMW.out HOW.out HOS.out).mono ?_; rintro e w6 ⟨A6, c6, xs, rfl, hO6, hB6, hn6, hx6⟩)
      · have hgt : us.length < xs.length := by assumption
        go_ret
        exact ⟨A6, c6, xs, rfl, hO6, below_step HBW.out hB6, hn6, (by rw [longL, if_neg (by rw [HZL.out]; exact HSE.out), if_pos (by rw [← HUS.out, ← hx6.out]; exact hgt), hx6.out] : xs = longL ms (m + 1) (f :: others))⟩
      · have hgt : ¬ us.length < xs.length := by assumption
        go_ret
        exact ⟨A5, c5, us, rfl, HO5.out.below hB6, below_step HBW.out hB6, fun h => absurd h HNE.out, (by rw [longL, if_neg (by rw [HZL.out]; exact HSE.out), if_neg (by rw [← HUS.out, ← hx6.out]; exact hgt), HUS.out] : us = longL ms (m + 1) (f :: others))⟩

set_option maxRecDepth 100000 in
theorem long_nil (ms : List (Int × Int)) (A : Option Addr) (c : Nat) (A2 : Option Addr) (c2 m : Nat) (w : World) :
    Calls Try.prog 110 #[.slice A ms.length c, .slice A2 0 c2] w fun e w' => ∃ (A' : Option Addr) (c' : Nat) (ys : List Int), e = .returned (.slice A' ys.length c') ∧ Out w' A' c' ys ∧ Below w.heap.size w w' ∧ (ys = [] → A' = none ∧ c' = 0) ∧ Hid (ys = longL ms m []) := by
  go_enter Try.func110, Try.ntmps110
  go_wp2_with fail
  go_ret
  exact ⟨none, 0, [], rfl, Out.nil_, (by repeat (first | with_reducible exact Below.refl _ _ | with_reducible assumption | refine below_drewN ?_ _ | with_reducible refine Below.drew ?_ | (refine Below.setCell ?_ (by first | (simp; done) | (simp; omega) | omega) _) | (refine Below.alloc ?_ (by first | (simp; done) | (simp; omega) | omega) _))), fun _ => ⟨rfl, rfl⟩, (by cases m <;> rfl : [] = longL ms m [])⟩
theorem long_any (ms : List (Int × Int)) (A : Option Addr) (c : Nat) (hv : vhB ms = true) : ∀ m, LongAt ms A c m
  | 0 => fun S A2 c2 w hm _ _ _ _ => by
    have : S = [] := List.eq_nil_of_length_eq_zero (by omega)
    subst this
    exact long_nil ms A c A2 c2 0 w
  | m + 1 => fun S A2 c2 w hm h100 h hO hS => by
    match S, hm, h100, hO, hS with
    | [], _, _, _, _ => exact long_nil ms A c A2 c2 (m + 1) w
    | f :: others, hm, h100, hO, hS =>
      simp only [List.length_cons] at hm h100
      obtain ⟨bl, off, rfl, _, _⟩ := hO.ints.open_ (by simp)
      have hle : others.length + 1 ≤ c2 := hO.le
      by_cases h1 : c2 = 1
      · subst h1
        obtain rfl : others = [] := List.eq_nil_of_length_eq_zero (by omega)
        exact long_cons1 ms A c m hv (long_any ms A c hv m) f bl off w h hO hS
      · exact long_cons2 ms A c m hv (long_any ms A c hv m) f others bl off c2 w (by omega) (by omega) h hO hS (by omega)

set_option maxRecDepth 100000 in
theorem layer_any (ms : List (Int × Int)) (A : Option Addr) (c : Nat) (w : World) (h : Marks w A ms) (hv : vhB ms = true) :
    Calls Try.prog 82 #[.slice A ms.length c] w fun e w' => ∃ (A' : Option Addr) (c' : Nat) (ys : List Int), e = .returned (.slice A' ys.length c') ∧ Out w' A' c' ys ∧ Below w.heap.size w w' ∧ Hid (ys = layerL ms) := by
  have hn := (vh_parts hv).2
  have H := Lib.hid (And.intro h hv)
  have HL := Lib.hid (allL_len ms.length)
  clear h hv
  go_enter Try.func82, Try.ntmps82
  go_wp2_with fail
  refine (all_any ms.length A c _ (by omega)).mono ?_
  rintro e w1 ⟨A1, c1, rfl, hO1, hB1⟩
  have hcon := long_any ms A c H.out.2 ms.length (allL ms.length) A1 c1 w1 (by rw [HL.out]; omega) (by rw [HL.out]; omega) (H.out.1.below hB1) hO1 (fun b hb => allL_has hb)
  rw [HL.out] at hcon
  have HQ := Lib.hid hcon
  have HO := Lib.hid hO1
  clear hcon hO1
  go_wp2_with (go_at_call 110; refine HQ.out.mono ?_; rintro e w2 ⟨A2, c2, ys, rfl, hO2, hB2, _, hy⟩)
  go_ret
  exact ⟨A2, c2, ys, rfl, hO2, below_step hB1 hB2, hy⟩
def layerF (ms : List (Int × Int)) : List Int := if vhB ms then layerL ms else []
set_option maxRecDepth 100000 in
theorem toldLayer_any (ms : List (Int × Int)) (A : Option Addr) (c : Nat) (w : World) (h : Clk w A c ms) :
    Calls Try.prog 65 #[.slice A ms.length c, .func (Fn.func 82) #[.slice A ms.length c] #[]] w fun e w' => ∃ (A' : Option Addr) (c' : Nat) (ys : List Int) (E : Int), e = .returned (.tuple #[.slice A' ys.length c', .int .i64 E]) ∧ Out w' A' c' ys ∧ Below w.heap.size w w' ∧ Hid (ys = layerF ms ∧ E = hitsE ms) := by
  have H := Lib.hid h
  clear h
  cases hv : vhB ms with
  | true =>
    have HV := Lib.hid hv
    clear hv
    go_enter Try.func65, Try.ntmps65
    go_wp2_with (first
      | (go_at_call 21; refine (valid_any ms A c _ H.out.marks H.out.len).mono ?_; rintro e w1 ⟨he, hB1⟩; rw [HV.out] at he; subst he)
      | (go_at_call 82; refine (layer_any ms A c _ (H.out.marks.below hB1) HV.out).mono ?_; rintro e w2 ⟨A2, c2, ys, rfl, hO2, hB2, hy⟩))
    go_ret2
    exact ⟨A2, c2, ys, _, rfl, hO2, below_step hB1 hB2, by rw [hy.out, layerF, HV.out]; rfl, (hitsE_yes HV.out).symm⟩
  | false =>
    have HV := Lib.hid hv
    clear hv
    go_enter Try.func65, Try.ntmps65
    go_wp2_with (go_at_call 21; refine (valid_any ms A c _ H.out.marks H.out.len).mono ?_; rintro e w1 ⟨he, hB1⟩; rw [HV.out] at he; subst he)
    go_ret2
    exact ⟨none, 0, [], _, rfl, Out.nil_, hB1, by rw [layerF, HV.out]; rfl, (hitsE_no HV.out).symm⟩
set_option maxRecDepth 100000 in
theorem coneLayer_any (ms : List (Int × Int)) (A : Option Addr) (c : Nat) (w : World) (h : Clk w A c ms) :
    Calls Try.prog 38 #[.slice A ms.length c] w fun e w' => ∃ (A' : Option Addr) (c' : Nat) (ys : List Int) (E : Int), e = .returned (.tuple #[.slice A' ys.length c', .int .i64 E]) ∧ Out w' A' c' ys ∧ Below w.heap.size w w' ∧ Hid (ys = layerF ms ∧ E = hitsE ms) := by
  have H := Lib.hid h
  clear h
  go_enter Try.func38, Try.ntmps38
  go_wp2_with (go_at_call 65; refine (toldLayer_any ms A c _ H.out).mono ?_; rintro e w2 ⟨A2, c2, ys, E, rfl, hO2, hB2, hy⟩)
  go_ret2
  exact ⟨A2, c2, ys, E, rfl, hO2, hB2, hy⟩
end Go.Proofs.Ytmlkdjcjfkfdiaa

/-
  Contracts: SameInts, SameHits (firnref02); Long, Sane (firnlaw02).
-/
namespace Go.Proofs.Ytmlkdjcjfkfdiaa
open Go.RowKit Go.Shelf

theorem ne_len {α : Type} [DecidableEq α] {xs ys : List α} (h : xs.length ≠ ys.length) : false = decide (xs = ys) := by
  rw [eq_comm, decide_eq_false_iff_not]; rintro rfl; exact h rfl
theorem ne_at {α : Type} [DecidableEq α] {xs ys : List α} {k : Nat} {x y : α} (hx : xs[k]? = some x) (hy : ys[k]? = some y) (h : x ≠ y) : false = decide (xs = ys) := by
  rw [eq_comm, decide_eq_false_iff_not]; rintro rfl; rw [hx] at hy; exact h (Option.some.inj hy)
theorem eq_next {α : Type} {xs ys : List α} {k : Nat} {x y : α} (hx : xs[k]? = some x) (hy : ys[k]? = some y) (h : x = y) (ht : xs.take k = ys.take k) : xs.take (k + 1) = ys.take (k + 1) := by
  rw [take_snoc hx, take_snoc hy, ht, h]
theorem eq_end {α : Type} [DecidableEq α] {xs ys : List α} {k : Nat} (hl : xs.length = ys.length) (hk : xs.length ≤ k) (ht : xs.take k = ys.take k) : true = decide (xs = ys) := by
  rw [List.take_of_length_le hk, List.take_of_length_le (by omega)] at ht; simp [ht]

set_option maxRecDepth 100000 in
theorem sameInts_any (xs ys : List Int) (A B : Option Addr) (c d : Nat) (w : World) (hA : Ints w A xs) (hB : Ints w B ys) (hl : xs.length ≤ maxLen) :
    Calls Try.prog 23 #[.slice A xs.length c, .slice B ys.length d] w fun e w' => e = .returned (.bool (decide (xs = ys))) ∧ ∃ n, w' = w.drewN n := by
  unfold maxLen at hl
  have HA := Lib.hid hA
  have HB := Lib.hid hB
  clear hA hB
  by_cases hlen : xs.length = ys.length
  · have HL := Lib.hid hlen
    have hn : (((xs.length : Int) != (ys.length : Int)) = false) := by rw [hlen]; simp
    have hle : xs.length ≤ ys.length := by omega
    clear hlen
    go_enter Try.func23, Try.ntmps23
    go_wp2
    go_loopw [5] (fun i wr => ∃ k m : Nat, k ≤ xs.length ∧ i = .int .i64 k ∧ wr = w.drewN m ∧ Hid (xs.take k = ys.take k)) (fun i _ => xs.length - (intOf i).toNat)
    case atStart => exact ⟨0, 0, Nat.zero_le _, rfl, rfl, rfl⟩
    case round =>
      obtain ⟨k, m, hk, rfl, rfl, ht⟩ := hrel
      by_cases hlt : k < xs.length
      · obtain ⟨ad, x, rfl, _, hx, c1⟩ := HA.out.get hlt
        obtain ⟨ad2, y, rfl, _, hy, c2⟩ := HB.out.get (show k < ys.length by omega)
        have hlt2 : k < ys.length := by omega
        by_cases h1 : x = y
        · subst h1
          go_wp2
          go_quiet (fail)
          go_wp2
          go_roundw
          case rel => exact ⟨k + 1, _, by omega, by go_num, (by first | rfl | exact World.drewN_drewN _ _ _), eq_next hx.out hy.out rfl ht.out⟩
          case measure => simp [intOf]; omega
        · have t1 : (x == y) = false := by simpa using h1
          have t2 : (x != y) = true := by simpa using h1
          go_wp2
          go_quiet (fail)
          go_wp2
          go_ret
          exact ⟨ret_bool (ne_at hx.out hy.out h1), _, (by first | rfl | exact World.drewN_drewN _ _ _)⟩
      · go_wp2
        go_ret
        exact ⟨ret_bool (eq_end HL.out (by omega) ht.out), _, rfl⟩
  · have hn : (((xs.length : Int) != (ys.length : Int)) = true) := by simp; omega
    go_enter Try.func23, Try.ntmps23
    go_wp2
    go_ret
    exact ⟨ret_bool (ne_len hlen), 0, rfl⟩

set_option maxRecDepth 100000 in
theorem sameHits_any (xs ys : List (Int × Int)) (A B : Option Addr) (c d : Nat) (w : World) (hA : Marks w A xs) (hB : Marks w B ys) (hl : xs.length ≤ maxLen) :
    Calls Try.prog 53 #[.slice A xs.length c, .slice B ys.length d] w fun e w' => e = .returned (.bool (decide (xs = ys))) ∧ ∃ n, w' = w.drewN n := by
  unfold maxLen at hl
  have HA := Lib.hid hA
  have HB := Lib.hid hB
  clear hA hB
  by_cases hlen : xs.length = ys.length
  · have HL := Lib.hid hlen
    have hn : (((xs.length : Int) != (ys.length : Int)) = false) := by rw [hlen]; simp
    have hle : xs.length ≤ ys.length := by omega
    clear hlen
    go_enter Try.func53, Try.ntmps53
    go_wp2
    go_loopw [5] (fun i wr => ∃ k m : Nat, k ≤ xs.length ∧ i = .int .i64 k ∧ wr = w.drewN m ∧ Hid (xs.take k = ys.take k)) (fun i _ => xs.length - (intOf i).toNat)
    case atStart => exact ⟨0, 0, Nat.zero_le _, rfl, rfl, rfl⟩
    case round =>
      obtain ⟨k, m, hk, rfl, rfl, ht⟩ := hrel
      by_cases hlt : k < xs.length
      · obtain ⟨bl, off, rfl, _, hc⟩ := HA.out.open_ (show 0 < xs.length by omega)
        obtain ⟨bl2, off2, rfl, _, hd⟩ := HB.out.open_ (show 0 < ys.length by omega)
        obtain ⟨a, b, hx⟩ := getM_of_lt hlt
        obtain ⟨a2, b2, hy⟩ := getM_of_lt (show k < ys.length by omega)
        have hlt2 : k < ys.length := by omega
        have c1 := (hc k _ hx).1
        have c2 := (hc k _ hx).2
        have c3 := (hd k _ hy).1
        have c4 := (hd k _ hy).2
        have HX := Lib.hid hx
        have HY := Lib.hid hy
        clear hx hy hc hd
        by_cases h1 : a = a2
        · subst h1
          by_cases h2 : b = b2
          · subst h2
            go_wp2
            go_quiet (fail)
            go_wp2
            go_roundw
            case rel => exact ⟨k + 1, _, by omega, by go_num, (by first | rfl | exact World.drewN_drewN _ _ _), eq_next HX.out HY.out rfl ht.out⟩
            case measure => simp [intOf]; omega
          · have t2 : (b == b2) = false := by simpa using h2
            go_wp2
            go_quiet (fail)
            go_wp2
            go_ret
            exact ⟨ret_bool (ne_at HX.out HY.out (by simpa using h2)), _, (by first | rfl | exact World.drewN_drewN _ _ _)⟩
        · have t1 : (a == a2) = false := by simpa using h1
          go_wp2
          go_quiet (fail)
          go_wp2
          go_ret
          exact ⟨ret_bool (ne_at HX.out HY.out (by intro e; injection e with e1 e2; exact h1 e1)), _, (by first | rfl | exact World.drewN_drewN _ _ _)⟩
      · go_wp2
        go_ret
        exact ⟨ret_bool (eq_end HL.out (by omega) ht.out), _, rfl⟩
  · have hn : (((xs.length : Int) != (ys.length : Int)) = true) := by simp; omega
    go_enter Try.func53, Try.ntmps53
    go_wp2
    go_ret
    exact ⟨ret_bool (ne_len hlen), 0, rfl⟩

theorem lawLong_any (ms : List (Int × Int)) (A : Option Addr) (c : Nat) (w : World) :
    Calls Try.prog 15 #[.slice A ms.length c] w fun e w' => e = .returned (.bool (decide (40 < ms.length))) ∧ w = w' := by
  go_enter Try.func15, Try.ntmps15
  go_wp2
  go_ret
  exact ⟨ret_bool (by simp; omega), rfl⟩

theorem hits_lit (w : World) : Clk (w.alloc (.cells #[.int .i64 0, .int .i64 0, .int .i64 5, .int .i64 3, .int .i64 0, .int .i64 10] 63)) (some ⟨w.heap.size, 0, none⟩) 3 [(0, 0), (5, 3), (0, 10)] :=
  ⟨⟨rfl, fun _ => ⟨_, rfl, by simp, cells_new w [.int .i64 0, .int .i64 0, .int .i64 5, .int .i64 3, .int .i64 0, .int .i64 10] 63⟩⟩, Nat.le_refl _, by unfold maxLen; simp⟩
theorem ints_lit (w : World) : Ints (w.alloc (.cells #[.int .i64 0, .int .i64 1] 3)) (some ⟨w.heap.size, 0, none⟩) [0, 1] :=
  ⟨rfl, fun _ => ⟨_, rfl, by simp, cells_new w [.int .i64 0, .int .i64 1] 3⟩⟩
theorem layer_lit : layerF [(0, 0), (5, 3), (0, 10)] = [0, 1] := by decide +kernel
theorem hits_ok : hitsE [(0, 0), (5, 3), (0, 10)] = 0 := by decide +kernel
set_option maxRecDepth 100000 in
theorem sane_any (w : World) :
    Calls Try.prog 16 #[] w fun e w' => e = .returned (.bool true) ∧ Below w.heap.size w w' := by
  go_enter Try.func16, Try.ntmps16
  go_wp2_with (go_at_call 38; refine (coneLayer_any [(0, 0), (5, 3), (0, 10)] _ 3 _ (hits_lit w)).mono ?_; rintro e w1 ⟨A1, c1, ys, E, rfl, hO, hB, hy⟩; obtain rfl : ys = [0, 1] := hy.out.1.trans layer_lit; obtain rfl : E = 0 := hy.out.2.trans hits_ok)
  refine (sameInts_any [0, 1] [0, 1] A1 _ c1 2 _ (hO.ints.alloc_ _) (ints_lit w1) (by simp [maxLen])).mono ?_
  rintro e w2 ⟨rfl, n, rfl⟩
  go_wp2_with fail
  go_ret
  exact ⟨by simp, below_drewN (below_step (Below.trans (by repeat (first | with_reducible exact Below.refl _ _ | with_reducible assumption | refine below_drewN ?_ _ | with_reducible refine Below.drew ?_ | (refine Below.setCell ?_ (by first | (simp; done) | (simp; omega) | omega) _) | (refine Below.alloc ?_ (by first | (simp; done) | (simp; omega) | omega) _))) (hB.mono (by first | (simp; done) | (simp; omega) | omega))) ((Below.refl _ _).alloc (Nat.le_refl _) _)) n⟩
end Go.Proofs.Ytmlkdjcjfkfdiaa

