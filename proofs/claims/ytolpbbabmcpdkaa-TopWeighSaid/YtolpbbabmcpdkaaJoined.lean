/-
  Texts of this seat, joined: each with its own head.
-/
import Derived.IntWalk
import Derived.Below
import Derived.Test.YtolpbbabmcpdkaaProg
import Derived.WalkKit
import Derived.WalkSpells
import Derived.WalkLawsBesides
import Derived.Deep.QuietTactic
import Derived.BigQuiet
import Derived.Lib.Hide
import Derived.Deep.AppendLies
import Derived.Deep.Draws
import Derived.Deep.DeepFit
import Derived.Handy
import Derived.Deep.RegionHeld3
import Derived.ProofKit
import Derived.OpenShut
import Derived.ShutString
import Derived.ChangeOld
/-
  Plain lemmas on lists and numbers; nothing of the program.
-/
set_option linter.unusedVariables false
set_option linter.unusedSimpArgs false
namespace Go.Proofs.Ytolpbbabmcpdkaa
open Go Go.RowKit

theorem take_snoc {α : Type} {zs : List α} {k : Nat} {z : α} (h : zs[k]? = some z) : zs.take (k + 1) = zs.take k ++ [z] := by
  rw [List.take_add_one, h]; rfl
theorem all_snoc {α : Type} {p : α → Bool} {zs : List α} {k : Nat} {z : α} (h : zs[k]? = some z) : (zs.take (k + 1)).all p = ((zs.take k).all p && p z) := by
  rw [take_snoc h]; simp
theorem all_full {α : Type} {p : α → Bool} {zs : List α} {k : Nat} (hk : zs.length ≤ k) : (zs.take k).all p = zs.all p := by
  rw [List.take_of_length_le hk]
theorem all_not {α : Type} {p : α → Bool} {zs : List α} {k : Nat} {z : α} (h : zs[k]? = some z) (hp : p z = false) : zs.all p = false := by
  rw [List.all_eq_false]
  exact ⟨z, List.mem_of_getElem? h, by simp [hp]⟩
theorem ret_bool {a b : Bool} (h : a = b) : Ending.returned (.bool a) = .returned (.bool b) := by rw [h]
theorem ret_int {k : IntKind} {a b : Int} (h : a = b) : Ending.returned (.int k a) = .returned (.int k b) := by rw [h]
theorem getElem?_of_lt {α : Type} {zs : List α} {k : Nat} (h : k < zs.length) : ∃ z, zs[k]? = some z := ⟨_, List.getElem?_eq_getElem h⟩
theorem getM_of_lt {ms : List (Int × Int)} {k : Nat} (h : k < ms.length) : ∃ a b, ms[k]? = some (a, b) := ⟨_, _, List.getElem?_eq_getElem h⟩
theorem getD_of {zs : List Int} {k : Nat} {z : Int} (h : zs[k]? = some z) : zs.getD k 0 = z := by rw [List.getD_eq_getElem?_getD, h]; rfl
theorem below_step {w w1 w2 : World} (h : Below w.heap.size w w1) (k : Below w1.heap.size w1 w2) : Below w.heap.size w w2 := h.trans (k.mono h.size)
theorem filter_snoc {α : Type} {p : α → Bool} {zs : List α} {k : Nat} {z : α} (h : zs[k]? = some z) : (zs.take (k + 1)).filter p = (zs.take k).filter p ++ (if p z then [z] else []) := by
  rw [take_snoc h, List.filter_append]; cases hp : p z <;> simp [hp]
theorem any_snoc {α : Type} {p : α → Bool} {zs : List α} {k : Nat} {z : α} (h : zs[k]? = some z) : (zs.take (k + 1)).any p = ((zs.take k).any p || p z) := by
  rw [take_snoc h]; simp
end Go.Proofs.Ytolpbbabmcpdkaa

/-
  Words for memory that the walks of this seat share: a slice that reads as a list.
-/
namespace Go.Proofs.Ytolpbbabmcpdkaa
open Go.RowKit

theorem below_drewN {B : Nat} {a w : World} (h : Below B a w) (n : Nat) : Below B a (w.drewN n) := ⟨h.os, h.tape, h.output, h.size, h.block⟩
theorem block_of_add (a : Addr) (n : Nat) : (a.add n).block = a.block := by unfold Addr.add; split <;> rfl
theorem add_of_add (a : Addr) (i j : Nat) : (a.add i).add j = a.add (i + j) := by
  unfold Addr.add
  by_cases hi : i = 0 <;> by_cases hj : j = 0 <;> simp [hi, hj, Nat.add_assoc]

def Reads (w : World) (B size : Nat) (A : Option Addr) (n : Nat) (xs : List Value) : Prop :=
  xs.length = n * size ∧ (0 < n → ∃ ad, A = some ad ∧ ad.block < B ∧ ∀ j u, xs[j]? = some u → w.cell? (ad.add j) = some u)

section
variable {w w' : World} {B B' size n : Nat} {A : Option Addr} {xs : List Value}
theorem Reads.none_ : Reads w B size A 0 [] := ⟨by simp, fun h => absurd h (by omega)⟩
theorem Reads.at_ {k : Nat} (h : Reads w B 1 A n xs) (hk : k < n) : ∃ ad u, A = some ad ∧ ad.block < B ∧ xs[k]? = some u ∧ w.cell? (ad.add k) = some u := by
  obtain ⟨ad, e, hb, hc⟩ := h.2 (by omega)
  have hl : k < xs.length := by have := h.1; omega
  exact ⟨ad, xs[k], e, hb, List.getElem?_eq_getElem hl, hc k _ (List.getElem?_eq_getElem hl)⟩
theorem Reads.keep (h : Reads w B size A n xs) (hk : ∀ p : Addr, p.block < B → w'.cell? p = w.cell? p) : Reads w' B size A n xs :=
  ⟨h.1, fun hn => by
    obtain ⟨ad, e, hb, hc⟩ := h.2 hn
    exact ⟨ad, e, hb, fun j u hu => (hk _ (by rw [block_of_add]; exact hb)).trans (hc j u hu)⟩⟩
theorem Reads.more (h : Reads w B size A n xs) (hB : B ≤ B') : Reads w B' size A n xs :=
  ⟨h.1, fun hn => by
    obtain ⟨ad, e, hb, hc⟩ := h.2 hn
    exact ⟨ad, e, by omega, hc⟩⟩
theorem Reads.below (h : Reads w B size A n xs) (hb : Below B w w') : Reads w' B size A n xs := h.keep fun _ hp => hb.cell hp
theorem Reads.drew (h : Reads w B size A n xs) : Reads w.drew B size A n xs := h
theorem Reads.drewN (h : Reads w B size A n xs) (k : Nat) : Reads (w.drewN k) B size A n xs := h
theorem Reads.of_own {base : Nat} {e : TypeId} {c : Nat} (h : w.ownsRow base e size (.slice A n c) n xs) : Reads w w.heap.size size A n xs := by
  refine ⟨h.1, fun hn => ?_⟩
  obtain ⟨g, cap, hv, _, hlt⟩ := h.form hn
  have hA : A = some ⟨g, 0, none⟩ := by injection hv
  subst hA
  exact ⟨_, rfl, hlt, h.cells (g := g) rfl⟩
end

/-- A slice of ints that reads as the list zs. -/
def Ints (w : World) (A : Option Addr) (zs : List Int) : Prop := Reads w w.heap.size 1 A zs.length (zs.map (Value.int .i64))

theorem Ints.at_ {w : World} {A : Option Addr} {zs : List Int} (h : Ints w A zs) {k : Nat} (hk : k < zs.length) :
    ∃ ad, A = some ad ∧ ad.block < w.heap.size ∧ w.cell? (ad.add k) = some (.int .i64 (zs.getD k 0)) := by
  obtain ⟨ad, u, e, hb, hx, hc⟩ := Reads.at_ h hk
  refine ⟨ad, e, hb, ?_⟩
  rw [List.getElem?_map, List.getElem?_eq_getElem hk] at hx
  simp only [Option.map_some, Option.some.injEq] at hx
  rw [hc, ← hx, List.getD_eq_getElem?_getD, List.getElem?_eq_getElem hk]; rfl
/-- The element at k, by a name of its own; what it is stays hidden from the walk. -/
theorem Ints.get {w : World} {A : Option Addr} {zs : List Int} (h : Ints w A zs) {k : Nat} (hk : k < zs.length) :
    ∃ ad z, A = some ad ∧ ad.block < w.heap.size ∧ Hid (zs[k]? = some z) ∧ w.cell? (ad.add k) = some (.int .i64 z) := by
  obtain ⟨ad, e, hb, hc⟩ := h.at_ hk
  refine ⟨ad, zs[k], e, hb, List.getElem?_eq_getElem hk, ?_⟩
  rw [hc, List.getD_eq_getElem?_getD, List.getElem?_eq_getElem hk]; rfl
theorem add_mk (b o k : Nat) : (⟨b, o, none⟩ : Addr).add k = ⟨b, o + k, none⟩ := by
  unfold Addr.add; split <;> simp_all
/-- The address of a list that is not empty, written out. -/
theorem Ints.open_ {w : World} {A : Option Addr} {zs : List Int} (h : Ints w A zs) (hn : 0 < zs.length) :
    ∃ b o, A = some ⟨b, o, none⟩ ∧ b < w.heap.size ∧ ∀ (k : Nat) (z : Int), zs[k]? = some z → w.cell? ⟨b, o + k, none⟩ = some (.int .i64 z) := by
  obtain ⟨ad, u, e, hb, _, hc⟩ := Reads.at_ h hn
  obtain ⟨b, o, s⟩ := ad
  have hs : s = none := by simpa [Addr.add] using World.cell?_spot hc
  subst hs
  refine ⟨b, o, e, hb, fun k z hz => ?_⟩
  obtain ⟨ad', e', _, hall⟩ := h.2 hn
  rw [e] at e'
  obtain rfl := Option.some.inj e'
  rw [← add_mk]
  exact hall k _ (by rw [List.getElem?_map, hz]; rfl)
theorem Ints.below {w w' : World} {A : Option Addr} {zs : List Int} (h : Ints w A zs) (hb : Below w.heap.size w w') : Ints w' A zs :=
  (Reads.below h hb).more hb.size
theorem Ints.nil_ {w : World} {A : Option Addr} : Ints w A [] := Reads.none_

/-- A slice of ints as a call hands it back: what it reads as, and that its capacity is no nonsense. -/
structure Out (w : World) (A : Option Addr) (c : Nat) (zs : List Int) : Prop where
  ints : Ints w A zs
  le : zs.length ≤ c
  cap : c ≤ maxLen
theorem Out.nil_ {w : World} {A : Option Addr} : Out w A 0 [] := ⟨Ints.nil_, Nat.le_refl _, Nat.zero_le _⟩
theorem Out.below {w w' : World} {A : Option Addr} {c : Nat} {zs : List Int} (h : Out w A c zs) (hb : Below w.heap.size w w') : Out w' A c zs := ⟨h.ints.below hb, h.le, h.cap⟩
end Go.Proofs.Ytolpbbabmcpdkaa

/-
  Appending one element to a slice that the call itself made: one law with its side conditions met.
-/
namespace Go.Proofs.Ytolpbbabmcpdkaa
open Go.RowKit

theorem cells_new (w : World) (cs : List Value) (t : TypeId) : ∀ j u, cs[j]? = some u → (w.alloc (.cells cs.toArray t)).cell? ((⟨w.heap.size, 0, none⟩ : Addr).add j) = some u := by
  intro j u hj
  have e : ((⟨w.heap.size, 0, none⟩ : Addr).add j) = ⟨w.heap.size, j, none⟩ := by
    unfold Addr.add; split <;> simp_all
  rw [e, cell_of_row _ w.heap.size j cs.toArray t (0, 0) (heap_alloc_new w _)]
  simpa using hj

section
variable {P : Program} {ops : Array Oper} {rest : List Oper} {o : Oper} {a : Act} {Q : Exit → Act → World → Prop}

theorem wp_app (w : World) (hgd : o.guard = none) (s x : Operand) (t : TypeId)
    (ho : o.op = .call { callee := .builtin .append, args := #[s, x], argTypes := #[t, t] })
    (base : Nat) (e : TypeId) (i : TypeInfo) (zero : Value) (size bytes : Nat) (ht : P.underlying t = some (.slice e)) (hi : P.info? e = some i) (hz : i.zero = some zero)
    (hsize : i.size = size) (hby : i.bytes = bytes) (hzs : zero.cells.size = size) (hsz : 0 < size) (hb64 : bytes ≤ 64)
    (v : Value) (n : Nat) (xs : List Value) (cs : List Value) (hs : a.eval s = v) (hown : w.ownsRow base e size v n xs)
    (hx : a.eval x = .slice (some ⟨w.heap.size, 0, none⟩) 1 1) (hl : cs.length = size) (h1 : ∀ u ∈ cs, u.oneCell' = true)
    (hn : n ≤ 1000000) (hbase : base ≤ w.heap.size)
    (h : ∀ v' w', w'.ownsRow base e size v' (n + 1) (xs ++ cs) → Below base w w' → wpList P ops Q rest (a.put o.dst v') w') :
    wpList P ops Q (o :: rest) a (w.alloc (.cells cs.toArray e)) := by
  refine wpList_append_own _ hgd s x t ho base e i zero size bytes ht hi hz hsize hby hzs hsz v n xs hs (hown.alloc _) ⟨w.heap.size, 0, none⟩ 1 1 cs hx (by omega)
    (cells_new w cs e) h1 (by unfold maxLen; omega) ?_ (by simp; omega) ?_
  · have : (n + 1) * bytes ≤ (n + 1) * 64 := Nat.mul_le_mul_left _ hb64
    omega
  · intro v' w' ho' hg _
    refine h v' w' ho' (((Below.refl base w).alloc hbase _).grown hg (by simp; omega) ?_)
    intro k hk
    exact (hown.lt k hk).1
end

theorem int_info : (Try.prog.info? 3).map (fun i => (i.zero, i.size, i.bytes)) = some (some (.int .i64 0), 1, 8) := by kernel_rfl

section
variable {ops : Array Oper} {rest : List Oper} {o : Oper} {a : Act} {Q : Exit → Act → World → Prop}
theorem wp_app_int (w : World) (hgd : o.guard = none) (s x : Operand)
    (ho : o.op = .call { callee := .builtin .append, args := #[s, x], argTypes := #[22, 22] })
    (base : Nat) (v : Value) (n : Nat) (xs : List Int) (z : Int) (hs : a.eval s = v) (hown : w.ownsRow base 3 1 v n (xs.map (Value.int .i64)))
    (hx : a.eval x = .slice (some ⟨w.heap.size, 0, none⟩) 1 1) (hn : n ≤ 1000000) (hbase : base ≤ w.heap.size)
    (h : ∀ v' w', w'.ownsRow base 3 1 v' (n + 1) ((xs ++ [z]).map (Value.int .i64)) → Below base w w' → wpList Try.prog ops Q rest (a.put o.dst v') w') :
    wpList Try.prog ops Q (o :: rest) a (w.alloc (.cells #[.int .i64 z] 3)) := by
  obtain ⟨i0, hi0, hz0, hz1, hz2⟩ := info_parts int_info
  refine wp_app w hgd s x 22 ho base 3 i0 (.int .i64 0) 1 8 Try.underlying22 hi0 hz0 hz1 hz2 rfl (by decide) (by decide) v n _ [.int .i64 z] hs hown hx rfl ?_ hn hbase ?_
  · intro u hu; simp at hu; subst hu; rfl
  · intro v' w' h1 h2
    exact h v' w' (by simpa using h1) h2
end

section
variable {ops : Array Oper} {o : Oper} {a : Act} {K : Act → World → Prop} {Q : Exit → Act → World → Prop} {E : Prop}
theorem step_app {P : Program} (w : World) (hgd : o.guard = none) (s x : Operand) (t : TypeId)
    (ho : o.op = .call { callee := .builtin .append, args := #[s, x], argTypes := #[t, t] })
    (base : Nat) (e : TypeId) (i : TypeInfo) (zero : Value) (size bytes : Nat) (ht : P.underlying t = some (.slice e)) (hi : P.info? e = some i) (hz : i.zero = some zero)
    (hsize : i.size = size) (hby : i.bytes = bytes) (hzs : zero.cells.size = size) (hsz : 0 < size) (hb64 : bytes ≤ 64)
    (v : Value) (n : Nat) (xs : List Value) (cs : List Value) (hs : a.eval s = v) (hown : w.ownsRow base e size v n xs)
    (hx : a.eval x = .slice (some ⟨w.heap.size, 0, none⟩) 1 1) (hl : cs.length = size) (h1 : ∀ u ∈ cs, u.oneCell' = true)
    (hn : n ≤ 1000000) (hbase : base ≤ w.heap.size)
    (h : ∀ v' w', w'.ownsRow base e size v' (n + 1) (xs ++ cs) → Below base w w' → (∀ g, g < w.heap.size → v.ownBlock ≠ some g → w'.heap[g]? = w.heap[g]?) → K (a.put o.dst v') w') :
    if Region.wanted o (yielded ops a.tmps) = true then Oper.wp P o a (w.alloc (.cells cs.toArray e)).drew K Q else E := by
  have hw : Region.wanted o (yielded ops a.tmps) = true := by simp [Region.wanted, hgd]
  rw [if_pos hw]
  refine wp_append_own _ s x t ho base e i zero size bytes ht hi hz hsize hby hzs hsz v n xs hs (hown.alloc _).drew ⟨w.heap.size, 0, none⟩ 1 1 cs hx (by omega)
    (cells_new w cs e) h1 (by unfold maxLen; omega) ?_ (by simp; omega) ?_
  · have : (n + 1) * bytes ≤ (n + 1) * 64 := Nat.mul_le_mul_left _ hb64
    omega
  · intro v' w' ho' hg _
    refine h v' w' ho' ((((Below.refl base w).alloc hbase _).drew).grown hg (by simp; omega) ?_) ?_
    · intro k hk
      exact (hown.lt k hk).1
    · intro g hg1 hg2
      exact (hg.block g (by simp; omega) (fun e => hg2 e.symm)).trans (Below.heap_alloc w _ g hg1)
theorem step_app_int (w : World) (hgd : o.guard = none) (s x : Operand)
    (ho : o.op = .call { callee := .builtin .append, args := #[s, x], argTypes := #[22, 22] })
    (base : Nat) (v : Value) (n : Nat) (xs : List Int) (z : Int) (hs : a.eval s = v) (hown : w.ownsRow base 3 1 v n (xs.map (Value.int .i64)))
    (hx : a.eval x = .slice (some ⟨w.heap.size, 0, none⟩) 1 1) (hn : n ≤ 1000000) (hbase : base ≤ w.heap.size)
    (h : ∀ v' w', w'.ownsRow base 3 1 v' (n + 1) ((xs ++ [z]).map (Value.int .i64)) → Below base w w' → K (a.put o.dst v') w') :
    if Region.wanted o (yielded ops a.tmps) = true then Oper.wp Try.prog o a (w.alloc (.cells #[.int .i64 z] 3)).drew K Q else E := by
  obtain ⟨i0, hi0, hz0, hz1, hz2⟩ := info_parts int_info
  refine step_app w hgd s x 22 ho base 3 i0 (.int .i64 0) 1 8 Try.underlying22 hi0 hz0 hz1 hz2 rfl (by decide) (by decide) v n _ [.int .i64 z] hs hown hx rfl ?_ hn hbase ?_
  · intro u hu; simp at hu; subst hu; rfl
  · intro v' w' h1 h2 _
    exact h v' w' (by simpa using h1) h2
end

theorem own_ne {w : World} {base g : Nat} {e t : TypeId} {size n : Nat} {v : Value} {xs : List Value} {cs : Array Value} (h : w.ownsRow base e size v n xs) (hg : w.heap[g]? = some (.cells cs t (0, 0))) (hne : e ≠ t) : v.ownBlock ≠ some g := by
  rcases h.2 with ⟨rfl, _⟩ | ⟨g', cap, cur, rfl, _, hh, _⟩
  · simp [Value.ownBlock]
  · intro he
    have : g' = g := by simpa [Value.ownBlock] using he
    subst this
    rw [hh] at hg
    injection hg with hg
    injection hg with _ ht
    exact hne ht

/-- What came out of appends reads as its list. -/
theorem own_ints {w : World} {base n : Nat} {v : Value} {xs : List Int} (h : w.ownsRow base 3 1 v n (xs.map (Value.int .i64))) :
    ∃ A c, v = .slice A xs.length c ∧ Out w A c xs := by
  have hl : xs.length = n := by have := h.1; simpa using this
  subst hl
  rcases h.2 with ⟨rfl, h0⟩ | ⟨g, cap, cur, rfl, _, _, h1, h2, _⟩
  · have : xs = [] := List.eq_nil_of_length_eq_zero h0
    subst this
    exact ⟨none, 0, rfl, Out.nil_⟩
  · exact ⟨_, cap, rfl, Reads.of_own h, h1, h2⟩
end Go.Proofs.Ytolpbbabmcpdkaa

/-
  Plain words for odds, cuts, the row and what they keep; nothing of the program.
-/
namespace Go.Proofs.Ytolpbbabmcpdkaa
open Go Go.RowKit

def wtB (x : Int) : Bool := decide (0 ≤ x) && decide (x ≤ 1000)
def wsB (zs : List Int) : Bool := zs.all wtB && decide (0 < zs.sum)
/-- Odds are valid. -/
def odB (ns ss : List Int) : Bool := (decide (ns.length = ss.length) && decide (ns.length ≤ 10)) && (wsB ns && wsB ss)

theorem sum_perm {xs ys : List Int} (h : xs.Perm ys) : xs.sum = ys.sum := by
  induction h with
  | nil => rfl
  | cons _ _ ih => simp [ih]
  | swap a b l => simp; omega
  | trans _ _ h1 h2 => exact h1.trans h2
theorem sum_snoc {zs : List Int} {k : Nat} {z : Int} (h : zs[k]? = some z) : (zs.take (k + 1)).sum = (zs.take k).sum + z := by
  rw [take_snoc h]; simp
theorem sum_bd {zs : List Int} {C : Int} (h : ∀ z ∈ zs, 0 ≤ z ∧ z ≤ C) : 0 ≤ zs.sum ∧ zs.sum ≤ C * zs.length := by
  induction zs with
  | nil => simp
  | cons z t ih =>
    have h1 := ih (fun x hx => h x (List.mem_cons_of_mem _ hx))
    have h2 := h z (by simp)
    simp only [List.sum_cons, List.length_cons]
    have e : C * ((t.length + 1 : Nat) : Int) = C * t.length + C := by push_cast; rw [Int.mul_add, Int.mul_one]
    omega
theorem sum_add {α : Type} (f g : α → Int) (l : List α) : (l.map fun a => f a + g a).sum = (l.map f).sum + (l.map g).sum := by
  induction l with
  | nil => rfl
  | cons a t ih => simp only [List.map_cons, List.sum_cons, ih]; omega
theorem sum_mul {α : Type} (c : Int) (f : α → Int) (l : List α) : (l.map fun a => c * f a).sum = c * (l.map f).sum := by
  induction l with
  | nil => simp
  | cons a t ih => simp only [List.map_cons, List.sum_cons, ih]; rw [Int.mul_add]
theorem sum_mono {α : Type} (f g : α → Int) (l : List α) (h : ∀ a ∈ l, f a ≤ g a) : (l.map f).sum ≤ (l.map g).sum := by
  induction l with
  | nil => simp
  | cons a t ih =>
    simp only [List.map_cons, List.sum_cons]
    have := h a (by simp)
    have := ih (fun x hx => h x (List.mem_cons_of_mem _ hx))
    omega
theorem sum_comm {α β : Type} (f : α → β → Int) (l : List α) (m : List β) : (l.map fun a => (m.map fun b => f a b).sum).sum = (m.map fun b => (l.map fun a => f a b).sum).sum := by
  induction l with
  | nil =>
    simp only [List.map_nil, List.sum_nil]
    induction m with
    | nil => rfl
    | cons b t ih => simp only [List.map_cons, List.sum_cons, ← ih]; rfl
  | cons a t ih => simp only [List.map_cons, List.sum_cons, ih]; rw [← sum_add]
theorem sum_congr {α : Type} (f g : α → Int) (l : List α) (h : ∀ a ∈ l, f a = g a) : (l.map f).sum = (l.map g).sum := by
  rw [List.map_congr_left h]

/-! ### cuts -/
def cutF (n : Int) : Int → List Int → Bool
  | _, [] => true
  | l, a :: t => (decide (l < a) && decide (a < n)) && cutF n a t
/-- A list is a cut of n outcomes. -/
def cutB (n : Nat) (cs : List Int) : Bool := cutF n (-1) cs
def keptL (zs cs : List Int) : Int := (cs.map fun a => zs.getD a.toNat 0).sum

theorem cutF_mem {n : Int} : ∀ {l : Int} {cs : List Int}, cutF n l cs = true → ∀ a ∈ cs, l < a ∧ a < n
  | _, [], _ => by simp
  | l, b :: t, h => by
    simp only [cutF, Bool.and_eq_true, decide_eq_true_eq] at h
    intro a ha
    rcases List.mem_cons.1 ha with rfl | ha
    · exact h.1
    · have := cutF_mem h.2 a ha; omega
theorem cutF_asc {n : Int} : ∀ {l : Int} {cs : List Int}, cutF n l cs = true → cs.Pairwise (· < ·)
  | _, [], _ => List.Pairwise.nil
  | l, b :: t, h => by
    simp only [cutF, Bool.and_eq_true, decide_eq_true_eq] at h
    exact List.Pairwise.cons (fun a ha => (cutF_mem h.2 a ha).1) (cutF_asc h.2)
theorem cutF_len {n : Int} : ∀ {l : Int} {cs : List Int}, cutF n l cs = true → cs = [] ∨ (cs.length : Int) ≤ n - l - 1
  | _, [], _ => .inl rfl
  | l, b :: t, h => by
    simp only [cutF, Bool.and_eq_true, decide_eq_true_eq] at h
    right
    simp only [List.length_cons]
    rcases cutF_len h.2 with rfl | h2
    · simp; omega
    · push_cast; omega
theorem cutB_mem {n : Nat} {cs : List Int} (h : cutB n cs = true) : ∀ a ∈ cs, 0 ≤ a ∧ a < n := fun a ha => by have := cutF_mem h a ha; omega
theorem cutB_len {n : Nat} {cs : List Int} (h : cutB n cs = true) : cs.length ≤ n := by
  rcases cutF_len h with rfl | h2
  · simp
  · omega
theorem cutF_of {n : Int} : ∀ {l : Int} {cs : List Int}, cs.Pairwise (· < ·) → (∀ a ∈ cs, l < a ∧ a < n) → cutF n l cs = true
  | _, [], _, _ => rfl
  | l, b :: t, h, hm => by
    have h1 := hm b (by simp)
    have h2 := List.pairwise_cons.1 h
    simp only [cutF, Bool.and_eq_true, decide_eq_true_eq]
    exact ⟨h1, cutF_of h2.2 (fun a ha => ⟨h2.1 a ha, (hm a (List.mem_cons_of_mem _ ha)).2⟩)⟩
theorem cutB_of {n : Nat} {cs : List Int} (h : cs.Pairwise (· < ·)) (hm : ∀ a ∈ cs, 0 ≤ a ∧ a < n) : cutB n cs = true :=
  cutF_of h (fun a ha => by have := hm a ha; omega)

theorem kept_snoc {zs cs : List Int} {k : Nat} {a : Int} (h : cs[k]? = some a) : keptL zs (cs.take (k + 1)) = keptL zs (cs.take k) + zs.getD a.toNat 0 := by
  rw [take_snoc h]; simp [keptL]
theorem getD_bd {zs : List Int} {C : Int} (hC : 0 ≤ C) (h : ∀ z ∈ zs, 0 ≤ z ∧ z ≤ C) (k : Nat) : 0 ≤ zs.getD k 0 ∧ zs.getD k 0 ≤ C := by
  rw [List.getD_eq_getElem?_getD]
  by_cases hk : k < zs.length
  · rw [List.getElem?_eq_getElem hk]; exact h _ (List.getElem_mem hk)
  · rw [List.getElem?_eq_none (by omega)]; simp; omega
theorem kept_bd {zs : List Int} {C : Int} (hC : 0 ≤ C) (h : ∀ z ∈ zs, 0 ≤ z ∧ z ≤ C) (cs : List Int) : 0 ≤ keptL zs cs ∧ keptL zs cs ≤ C * cs.length := by
  have := sum_bd (zs := cs.map fun a => zs.getD a.toNat 0) (C := C) (by
    intro z hz
    obtain ⟨a, _, rfl⟩ := List.mem_map.1 hz
    exact getD_bd hC h _)
  simpa [keptL] using this

/-! ### cuts as sets -/
/-- The numbers below n with a property, ascending. -/
def ofM (n : Nat) (p : Nat → Bool) : List Int := ((List.range n).filter p).map Int.ofNat
theorem asc_ext {xs ys : List Int} (hx : xs.Pairwise (· < ·)) (hy : ys.Pairwise (· < ·)) (h : ∀ a, a ∈ xs ↔ a ∈ ys) : xs = ys := by
  induction xs generalizing ys with
  | nil =>
    cases ys with
    | nil => rfl
    | cons b t => exact absurd ((h b).2 (by simp)) (by simp)
  | cons a t ih =>
    cases ys with
    | nil => exact absurd ((h a).1 (by simp)) (by simp)
    | cons b u =>
      have hx' := List.pairwise_cons.1 hx
      have hy' := List.pairwise_cons.1 hy
      have e : a = b := by
        rcases List.mem_cons.1 ((h a).1 (by simp)) with h1 | h1
        · exact h1
        · rcases List.mem_cons.1 ((h b).2 (by simp)) with h2 | h2
          · exact h2.symm
          · have := hy'.1 a h1; have := hx'.1 b h2; omega
      subst e
      rw [ih hx'.2 hy'.2]
      intro c
      have h3 := h c
      simp only [List.mem_cons] at h3
      constructor
      · intro hc
        rcases h3.1 (.inr hc) with rfl | h4
        · have := hx'.1 c hc; omega
        · exact h4
      · intro hc
        rcases h3.2 (.inr hc) with rfl | h4
        · have := hy'.1 c hc; omega
        · exact h4
theorem ofM_asc (n : Nat) (p : Nat → Bool) : (ofM n p).Pairwise (· < ·) := by
  unfold ofM
  refine List.Pairwise.map _ (R := (· < ·)) (fun a b h => by show (a : Int) < (b : Int); omega) ?_
  exact List.Pairwise.filter _ List.pairwise_lt_range
theorem ofM_mem {n : Nat} {p : Nat → Bool} {a : Int} : a ∈ ofM n p ↔ ∃ i, i < n ∧ p i = true ∧ a = i := by
  unfold ofM
  simp only [List.mem_map, List.mem_filter, List.mem_range]
  constructor
  · rintro ⟨i, ⟨h1, h2⟩, rfl⟩; exact ⟨i, h1, h2, rfl⟩
  · rintro ⟨i, h1, h2, rfl⟩; exact ⟨i, ⟨h1, h2⟩, rfl⟩
theorem ofM_cut (n : Nat) (p : Nat → Bool) : cutB n (ofM n p) = true := by
  refine cutB_of (ofM_asc n p) (fun a ha => ?_)
  obtain ⟨i, hi, _, rfl⟩ := ofM_mem.1 ha
  omega
theorem cut_of {n : Nat} {cs : List Int} (h : cutB n cs = true) : cs = ofM n (fun i => cs.contains (i : Int)) := by
  refine asc_ext (cutF_asc h) (ofM_asc _ _) (fun a => ?_)
  rw [ofM_mem]
  constructor
  · intro ha
    have := cutB_mem h a ha
    exact ⟨a.toNat, by omega, by rw [Int.toNat_of_nonneg this.1]; simpa using ha, by omega⟩
  · rintro ⟨i, _, h2, rfl⟩
    simpa using h2
theorem ofM_congr {n : Nat} {p q : Nat → Bool} (h : ∀ i < n, p i = q i) : ofM n p = ofM n q := by
  unfold ofM
  rw [List.filter_congr (fun i hi => h i (List.mem_range.1 hi))]
/-- What a set keeps. -/
def mS (zs : List Int) (n : Nat) (p : Nat → Bool) : Int := ((List.range n).map fun i => if p i then zs.getD i 0 else 0).sum
theorem kept_mS (zs : List Int) (n : Nat) (p : Nat → Bool) : keptL zs (ofM n p) = mS zs n p := by
  unfold keptL ofM mS
  generalize List.range n = l
  induction l with
  | nil => rfl
  | cons i t ih =>
    rw [List.filter_cons]
    cases h : p i <;> simp [h] <;> simpa using ih
theorem range_getD (zs : List Int) : (List.range zs.length).map (fun i => zs.getD i 0) = zs := by
  apply List.ext_getElem?
  intro i
  by_cases h : i < zs.length
  · simp [h]
  · simp [h]
theorem mS_bd {zs : List Int} {n : Nat} (hn : zs.length = n) (h : ∀ z ∈ zs, 0 ≤ z) (p : Nat → Bool) : 0 ≤ mS zs n p ∧ mS zs n p ≤ zs.sum := by
  subst hn
  have hz : ∀ i, 0 ≤ zs.getD i 0 := by
    intro i
    rw [List.getD_eq_getElem?_getD]
    by_cases hk : i < zs.length
    · rw [List.getElem?_eq_getElem hk]; exact h _ (List.getElem_mem hk)
    · rw [List.getElem?_eq_none (by omega)]; simp
  constructor
  · have := sum_mono (fun _ => (0 : Int)) (fun i => if p i then zs.getD i 0 else 0) (List.range zs.length) (by intro i _; have := hz i; split <;> omega)
    have e : ((List.range zs.length).map fun _ => (0 : Int)).sum = 0 := by
      have := sum_mul 0 (fun _ : Nat => (0 : Int)) (List.range zs.length)
      simpa using this
    unfold mS; omega
  · have := sum_mono (fun i => if p i then zs.getD i 0 else 0) (fun i => zs.getD i 0) (List.range zs.length) (by intro i _; have := hz i; split <;> omega)
    rw [range_getD] at this
    exact this
theorem kept_le {zs : List Int} {n : Nat} (hn : zs.length = n) (h : ∀ z ∈ zs, 0 ≤ z) {cs : List Int} (hc : cutB n cs = true) : 0 ≤ keptL zs cs ∧ keptL zs cs ≤ zs.sum := by
  rw [cut_of hc, kept_mS]; exact mS_bd hn h _
theorem ofM_all {zs : List Int} {n : Nat} (hn : zs.length = n) : mS zs n (fun _ => true) = zs.sum := by
  subst hn
  unfold mS
  simp only [if_true]
  rw [range_getD]

/-! ### what valid odds are -/
structure Od (ns ss : List Int) : Prop where
  len : ns.length = ss.length
  le : ns.length ≤ 10
  pos : 0 < ns.length
  nb : ∀ z ∈ ns, 0 ≤ z ∧ z ≤ 1000
  sb : ∀ z ∈ ss, 0 ≤ z ∧ z ≤ 1000
  np : 0 < ns.sum
  nm : ns.sum ≤ 10000
  sp : 0 < ss.sum
  sm : ss.sum ≤ 10000
theorem od_of {ns ss : List Int} (h : odB ns ss = true) : Od ns ss := by
  simp only [odB, wsB, Bool.and_eq_true, decide_eq_true_eq, List.all_eq_true, wtB] at h
  obtain ⟨⟨h1, h2⟩, ⟨h3, h4⟩, h5, h6⟩ := h
  have b1 := sum_bd h3
  have b2 := sum_bd h5
  refine ⟨h1, h2, ?_, h3, h5, h4, by omega, h6, by omega⟩
  rcases Nat.eq_zero_or_pos ns.length with h0 | h0
  · rw [List.eq_nil_of_length_eq_zero h0] at h4; simp at h4
  · exact h0
theorem Od.swap {ns ss : List Int} (h : Od ns ss) : Od ss ns := ⟨h.len.symm, by have := h.len; have := h.le; omega, by have := h.len; have := h.pos; omega, h.sb, h.nb, h.sp, h.sm, h.np, h.nm⟩
theorem odB_swap (ns ss : List Int) : odB ss ns = odB ns ss := by
  simp only [odB, Bool.and_comm (wsB ns)]
  congr 1
  by_cases h : ns.length = ss.length
  · simp [h]
  · simp [h]; intro e; exact absurd e.symm h
end Go.Proofs.Ytolpbbabmcpdkaa

/-
  Contracts: sum, kept, validWeights (weigh), Total, kept, areWeights (firnref07).
-/
namespace Go.Proofs.Ytolpbbabmcpdkaa
open Go.RowKit

set_option maxRecDepth 100000 in
theorem sum_any (zs : List Int) (A : Option Addr) (c : Nat) (w : World) (h : Ints w A zs) (hl : zs.length ≤ 1000) (hb : ∀ z ∈ zs, 0 ≤ z ∧ z ≤ 1000000000) :
    Calls Try.prog 101 #[.slice A zs.length c] w fun e w' => e = .returned (.int .i64 zs.sum) ∧ w = w' := by
  have H := Lib.hid h
  have HB := Lib.hid hb
  clear h hb
  go_enter Try.func101, Try.ntmps101
  go_wp2
  go_loopw [3, 8] (fun v i wr => ∃ k : Nat, k ≤ zs.length ∧ v = .int .i64 (zs.take k).sum ∧ i = .int .i64 k ∧ wr = w) (fun _ i _ => zs.length - (intOf i).toNat)
  case atStart => exact ⟨0, Nat.zero_le _, rfl, rfl, rfl⟩
  case round =>
    obtain ⟨k, hk, rfl, rfl, rfl⟩ := hrel
    by_cases hlt : k < zs.length
    · obtain ⟨ad, z, rfl, hbk, hz, hc⟩ := H.out.get hlt
      have hzb := HB.out z (List.mem_of_getElem? hz.out)
      have hsb := sum_bd (zs := zs.take k) (fun x hx => HB.out x (List.mem_of_mem_take hx))
      have htl : (zs.take k).length ≤ 1000 := by rw [List.length_take]; omega
      obtain ⟨s, hs⟩ : ∃ s, s = (zs.take k).sum := ⟨_, rfl⟩
      rw [← hs] at hsb
      simp only [← hs]
      have HS := Lib.hid hs
      have hs0 : 0 ≤ s := hsb.1
      have hs1 : s ≤ 1000000000000 := by omega
      clear hs hsb htl
      go_wp2
      go_roundw
      case rel => exact ⟨k + 1, by omega, by rw [sum_snoc hz.out, HS.out], by go_num, (by first | trivial | rfl)⟩
      case measure => simp [intOf]; omega
    · obtain rfl : k = zs.length := by omega
      rw [List.take_length]
      go_wp2
      go_ret
      exact ⟨rfl, rfl⟩
set_option maxRecDepth 100000 in
theorem total_any (zs : List Int) (A : Option Addr) (c : Nat) (w : World) (h : Ints w A zs) (hl : zs.length ≤ 1000) (hb : ∀ z ∈ zs, 0 ≤ z ∧ z ≤ 1000000000) :
    Calls Try.prog 58 #[.slice A zs.length c] w fun e w' => e = .returned (.int .i64 zs.sum) ∧ w = w' := by
  have H := Lib.hid h
  have HB := Lib.hid hb
  clear h hb
  go_enter Try.func58, Try.ntmps58
  go_wp2
  go_loopw [3, 8] (fun v i wr => ∃ k : Nat, k ≤ zs.length ∧ v = .int .i64 (zs.take k).sum ∧ i = .int .i64 k ∧ wr = w) (fun _ i _ => zs.length - (intOf i).toNat)
  case atStart => exact ⟨0, Nat.zero_le _, rfl, rfl, rfl⟩
  case round =>
    obtain ⟨k, hk, rfl, rfl, rfl⟩ := hrel
    by_cases hlt : k < zs.length
    · obtain ⟨ad, z, rfl, hbk, hz, hc⟩ := H.out.get hlt
      have hzb := HB.out z (List.mem_of_getElem? hz.out)
      have hsb := sum_bd (zs := zs.take k) (fun x hx => HB.out x (List.mem_of_mem_take hx))
      have htl : (zs.take k).length ≤ 1000 := by rw [List.length_take]; omega
      obtain ⟨s, hs⟩ : ∃ s, s = (zs.take k).sum := ⟨_, rfl⟩
      rw [← hs] at hsb
      simp only [← hs]
      have HS := Lib.hid hs
      have hs0 : 0 ≤ s := hsb.1
      have hs1 : s ≤ 1000000000000 := by omega
      clear hs hsb htl
      go_wp2
      go_roundw
      case rel => exact ⟨k + 1, by omega, by rw [sum_snoc hz.out, HS.out], by go_num, (by first | trivial | rfl)⟩
      case measure => simp [intOf]; omega
    · obtain rfl : k = zs.length := by omega
      rw [List.take_length]
      go_wp2
      go_ret
      exact ⟨rfl, rfl⟩
set_option maxRecDepth 100000 in
theorem kept_any (zs cs : List Int) (A B : Option Addr) (c d : Nat) (w : World) (h : Ints w A zs) (h2 : Ints w B cs) (hl : cs.length ≤ 1000) (hb : ∀ z ∈ zs, 0 ≤ z ∧ z ≤ 1000000000) (hc : ∀ a ∈ cs, 0 ≤ a ∧ a < zs.length) :
    Calls Try.prog 67 #[.slice A zs.length c, .slice B cs.length d] w fun e w' => e = .returned (.int .i64 (keptL zs cs)) ∧ w = w' := by
  have H := Lib.hid h
  have H2 := Lib.hid h2
  have HB := Lib.hid hb
  have HC := Lib.hid hc
  clear h h2 hb hc
  go_enter Try.func67, Try.ntmps67
  go_wp2
  go_loopw [5, 10] (fun v i wr => ∃ k : Nat, k ≤ cs.length ∧ v = .int .i64 (keptL zs (cs.take k)) ∧ i = .int .i64 k ∧ wr = w) (fun _ i _ => cs.length - (intOf i).toNat)
  case atStart => exact ⟨0, Nat.zero_le _, rfl, rfl, rfl⟩
  case round =>
    obtain ⟨k, hk, rfl, rfl, rfl⟩ := hrel
    by_cases hlt : k < cs.length
    · obtain ⟨bd, x, rfl, hbk, hx, hc⟩ := H2.out.get hlt
      have hxb := HC.out x (List.mem_of_getElem? hx.out)
      have hlt2 : x.toNat < zs.length := by omega
      obtain ⟨ad, z, rfl, hbk2, hz, hc2⟩ := H.out.get hlt2
      have hzb := HB.out z (List.mem_of_getElem? hz.out)
      have hsb := kept_bd (zs := zs) (by omega) HB.out (cs.take k)
      have htl : (cs.take k).length ≤ 1000 := by rw [List.length_take]; omega
      obtain ⟨s, hs⟩ : ∃ s, s = keptL zs (cs.take k) := ⟨_, rfl⟩
      rw [← hs] at hsb
      simp only [← hs]
      have HS := Lib.hid hs
      have hs0 : 0 ≤ s := hsb.1
      have hs1 : s ≤ 1000000000000 := by omega
      clear hs hsb htl
      go_wp2
      go_roundw
      case rel => exact ⟨k + 1, by omega, by rw [kept_snoc hx.out, HS.out, getD_of hz.out], by go_num, (by first | trivial | rfl)⟩
      case measure => simp [intOf]; omega
    · obtain rfl : k = cs.length := by omega
      rw [List.take_length]
      go_wp2
      go_ret
      exact ⟨rfl, rfl⟩
set_option maxRecDepth 100000 in
theorem refkept_any (zs cs : List Int) (A B : Option Addr) (c d : Nat) (w : World) (h : Ints w A zs) (h2 : Ints w B cs) (hl : cs.length ≤ 1000) (hb : ∀ z ∈ zs, 0 ≤ z ∧ z ≤ 1000000000) (hc : ∀ a ∈ cs, 0 ≤ a ∧ a < zs.length) :
    Calls Try.prog 69 #[.slice A zs.length c, .slice B cs.length d] w fun e w' => e = .returned (.int .i64 (keptL zs cs)) ∧ w = w' := by
  have H := Lib.hid h
  have H2 := Lib.hid h2
  have HB := Lib.hid hb
  have HC := Lib.hid hc
  clear h h2 hb hc
  go_enter Try.func69, Try.ntmps69
  go_wp2
  go_loopw [5, 10] (fun v i wr => ∃ k : Nat, k ≤ cs.length ∧ v = .int .i64 (keptL zs (cs.take k)) ∧ i = .int .i64 k ∧ wr = w) (fun _ i _ => cs.length - (intOf i).toNat)
  case atStart => exact ⟨0, Nat.zero_le _, rfl, rfl, rfl⟩
  case round =>
    obtain ⟨k, hk, rfl, rfl, rfl⟩ := hrel
    by_cases hlt : k < cs.length
    · obtain ⟨bd, x, rfl, hbk, hx, hc⟩ := H2.out.get hlt
      have hxb := HC.out x (List.mem_of_getElem? hx.out)
      have hlt2 : x.toNat < zs.length := by omega
      obtain ⟨ad, z, rfl, hbk2, hz, hc2⟩ := H.out.get hlt2
      have hzb := HB.out z (List.mem_of_getElem? hz.out)
      have hsb := kept_bd (zs := zs) (by omega) HB.out (cs.take k)
      have htl : (cs.take k).length ≤ 1000 := by rw [List.length_take]; omega
      obtain ⟨s, hs⟩ : ∃ s, s = keptL zs (cs.take k) := ⟨_, rfl⟩
      rw [← hs] at hsb
      simp only [← hs]
      have HS := Lib.hid hs
      have hs0 : 0 ≤ s := hsb.1
      have hs1 : s ≤ 1000000000000 := by omega
      clear hs hsb htl
      go_wp2
      go_roundw
      case rel => exact ⟨k + 1, by omega, by rw [kept_snoc hx.out, HS.out, getD_of hz.out], by go_num, (by first | trivial | rfl)⟩
      case measure => simp [intOf]; omega
    · obtain rfl : k = cs.length := by omega
      rw [List.take_length]
      go_wp2
      go_ret
      exact ⟨rfl, rfl⟩
set_option maxRecDepth 100000 in
theorem validWeights_any (zs : List Int) (A : Option Addr) (c : Nat) (w : World) (h : Ints w A zs) (hl : zs.length ≤ 1000) :
    Calls Try.prog 70 #[.slice A zs.length c] w fun e w' => e = .returned (.bool (wsB zs)) ∧ w = w' := by
  have H := Lib.hid h
  clear h
  go_enter Try.func70, Try.ntmps70
  go_wp2
  go_loopw [7] (fun i wr => ∃ k : Nat, k ≤ zs.length ∧ i = .int .i64 k ∧ wr = w ∧ Hid ((zs.take k).all wtB = true)) (fun i _ => zs.length - (intOf i).toNat)
  case atStart => exact ⟨0, Nat.zero_le _, rfl, rfl, rfl⟩
  case round =>
    obtain ⟨k, hk, rfl, rfl, ha⟩ := hrel
    by_cases hlt : k < zs.length
    · obtain ⟨ad, z, rfl, hbk, hz, hc⟩ := H.out.get hlt
      by_cases h1 : z < 0
      · have t1 : decide (z < 0) = true := decide_eq_true h1
        have HF := Lib.hid (all_not hz.out (p := wtB) (by unfold wtB; rw [decide_eq_false (by omega : ¬ 0 ≤ z)]; rfl))
        have HR : Hid ((wsB zs) = false) := Lib.hid (by unfold wsB; rw [HF.out]; rfl)
        go_wp2
        go_ret
        exact ⟨ret_bool HR.out.symm, rfl⟩
      · have t1 : decide (z < 0) = false := decide_eq_false h1
        by_cases h2 : 1000 < z
        · have t2 : decide (1000 < z) = true := decide_eq_true h2
          have HF := Lib.hid (all_not hz.out (p := wtB) (by unfold wtB; rw [decide_eq_false (by omega : ¬ z ≤ 1000)]; simp))
          have HR : Hid ((wsB zs) = false) := Lib.hid (by unfold wsB; rw [HF.out]; rfl)
          go_wp2
          go_ret
          exact ⟨ret_bool HR.out.symm, rfl⟩
        · have t2 : decide (1000 < z) = false := decide_eq_false h2
          have HT : Hid (wtB z = true) := Lib.hid (by unfold wtB; rw [decide_eq_true (by omega : 0 ≤ z), decide_eq_true (by omega : z ≤ 1000)]; rfl)
          go_wp2
          go_roundw
          case rel => exact ⟨k + 1, by omega, by go_num, (by first | trivial | rfl), by show _ = _; rw [all_snoc hz.out, ha.out, HT.out]; rfl⟩
          case measure => simp [intOf]; omega
    · obtain rfl : k = zs.length := by omega
      rw [List.take_length] at ha
      have HB : Hid (∀ z ∈ zs, 0 ≤ z ∧ z ≤ 1000000000) := Lib.hid (by
        intro z hz
        have := List.all_eq_true.1 ha.out z hz
        unfold wtB at this
        rw [Bool.and_eq_true, decide_eq_true_iff, decide_eq_true_iff] at this
        omega)
      go_wp2_with (go_at_call 101; refine (sum_any zs _ _ _ H.out hl HB.out).mono ?_; rintro e w1 ⟨rfl, rfl⟩)
      go_ret
      exact ⟨ret_bool (by unfold wsB; rw [ha.out]; rfl), rfl⟩
set_option maxRecDepth 100000 in
theorem areWeights_any (zs : List Int) (A : Option Addr) (c : Nat) (w : World) (h : Ints w A zs) (hl : zs.length ≤ 1000) :
    Calls Try.prog 71 #[.slice A zs.length c] w fun e w' => e = .returned (.bool (decide (zs.length ≤ 10) && wsB zs)) ∧ w = w' := by
  have H := Lib.hid h
  clear h
  go_enter Try.func71, Try.ntmps71
  go_wp2
  go_loopw [7] (fun i wr => ∃ k : Nat, k ≤ zs.length ∧ i = .int .i64 k ∧ wr = w ∧ Hid ((zs.take k).all wtB = true)) (fun i _ => zs.length - (intOf i).toNat)
  case atStart => exact ⟨0, Nat.zero_le _, rfl, rfl, rfl⟩
  case round =>
    obtain ⟨k, hk, rfl, rfl, ha⟩ := hrel
    by_cases hlt : k < zs.length
    · obtain ⟨ad, z, rfl, hbk, hz, hc⟩ := H.out.get hlt
      by_cases h1 : z < 0
      · have t1 : decide (z < 0) = true := decide_eq_true h1
        have HF := Lib.hid (all_not hz.out (p := wtB) (by unfold wtB; rw [decide_eq_false (by omega : ¬ 0 ≤ z)]; rfl))
        have HR : Hid ((decide (zs.length ≤ 10) && wsB zs) = false) := Lib.hid (by unfold wsB; rw [HF.out]; simp)
        go_wp2
        go_ret
        exact ⟨ret_bool HR.out.symm, rfl⟩
      · have t1 : decide (z < 0) = false := decide_eq_false h1
        by_cases h2 : 1000 < z
        · have t2 : decide (1000 < z) = true := decide_eq_true h2
          have HF := Lib.hid (all_not hz.out (p := wtB) (by unfold wtB; rw [decide_eq_false (by omega : ¬ z ≤ 1000)]; simp))
          have HR : Hid ((decide (zs.length ≤ 10) && wsB zs) = false) := Lib.hid (by unfold wsB; rw [HF.out]; simp)
          go_wp2
          go_ret
          exact ⟨ret_bool HR.out.symm, rfl⟩
        · have t2 : decide (1000 < z) = false := decide_eq_false h2
          have HT : Hid (wtB z = true) := Lib.hid (by unfold wtB; rw [decide_eq_true (by omega : 0 ≤ z), decide_eq_true (by omega : z ≤ 1000)]; rfl)
          go_wp2
          go_roundw
          case rel => exact ⟨k + 1, by omega, by go_num, (by first | trivial | rfl), by show _ = _; rw [all_snoc hz.out, ha.out, HT.out]; rfl⟩
          case measure => simp [intOf]; omega
    · obtain rfl : k = zs.length := by omega
      rw [List.take_length] at ha
      have HB : Hid (∀ z ∈ zs, 0 ≤ z ∧ z ≤ 1000000000) := Lib.hid (by
        intro z hz
        have := List.all_eq_true.1 ha.out z hz
        unfold wtB at this
        rw [Bool.and_eq_true, decide_eq_true_iff, decide_eq_true_iff] at this
        omega)
      have HN : Hid (zs.length = 0 → zs.sum = 0) := Lib.hid (fun h0 => by rw [List.eq_nil_of_length_eq_zero h0]; rfl)
      by_cases h1 : 1 ≤ zs.length
      · have t1 : decide ((1 : Int) ≤ (zs.length : Int)) = true := decide_eq_true (by omega)
        by_cases h2 : zs.length ≤ 10
        · have t2 : decide ((zs.length : Int) ≤ 10) = true := decide_eq_true (by omega)
          have HR : Hid ((decide (zs.length ≤ 10) && wsB zs) = decide (0 < zs.sum)) := Lib.hid (by rw [decide_eq_true h2]; unfold wsB; rw [ha.out]; rfl)
          go_wp2_with (go_at_call 58; refine (total_any zs _ _ _ H.out hl HB.out).mono ?_; rintro e w1 ⟨rfl, rfl⟩)
          go_ret
          exact ⟨ret_bool HR.out.symm, rfl⟩
        · have t2 : decide ((zs.length : Int) ≤ 10) = false := decide_eq_false (by omega)
          have HR : Hid ((decide (zs.length ≤ 10) && wsB zs) = false) := Lib.hid (by rw [decide_eq_false h2]; rfl)
          go_wp2
          go_ret
          exact ⟨ret_bool HR.out.symm, rfl⟩
      · have t1 : decide ((1 : Int) ≤ (zs.length : Int)) = false := decide_eq_false (by omega)
        have HR : Hid ((decide (zs.length ≤ 10) && wsB zs) = false) := Lib.hid (by unfold wsB; rw [HN.out (by omega)]; simp)
        go_wp2
        go_ret
        exact ⟨ret_bool HR.out.symm, rfl⟩
end Go.Proofs.Ytolpbbabmcpdkaa

/-
  Contracts: Valid (weigh, firnref07).
-/
namespace Go.Proofs.Ytolpbbabmcpdkaa
open Go.RowKit

theorem odB_ne {ns ss : List Int} (h : ns.length ≠ ss.length) : odB ns ss = false := by unfold odB; rw [decide_eq_false h]; rfl
theorem odB_gt {ns ss : List Int} (h : ¬ ns.length ≤ 10) : odB ns ss = false := by unfold odB; rw [decide_eq_false h, Bool.and_false]; rfl
theorem odB_in {ns ss : List Int} (h : ns.length = ss.length) (h2 : ns.length ≤ 10) : odB ns ss = (wsB ns && wsB ss) := by unfold odB; rw [decide_eq_true h, decide_eq_true h2]; rfl

set_option maxRecDepth 100000 in
theorem valid_any (ns ss : List Int) (A B : Option Addr) (c d : Nat) (w : World) (hA : Ints w A ns) (hB : Ints w B ss) (hl : ns.length ≤ 1000) (hl2 : ss.length ≤ 1000) :
    Calls Try.prog 21 #[.agg #[.slice A ns.length c, .slice B ss.length d]] w fun e w' => e = .returned (.bool (odB ns ss)) ∧ Below w.heap.size w w' := by
  have HA := Lib.hid hA
  have HB := Lib.hid hB
  clear hA hB
  go_enter Try.func21, Try.ntmps21
  by_cases h1 : ns.length = ss.length
  · have t1 : ((ns.length : Int) != (ss.length : Int)) = false := by rw [h1]; simp
    have HL := Lib.hid h1
    clear h1
    by_cases h2 : ns.length ≤ 10
    · have t2 : decide ((10 : Int) < (ns.length : Int)) = false := decide_eq_false (by omega)
      have HR := Lib.hid (odB_in HL.out h2)
      obtain ⟨b1, hb1⟩ : ∃ b, b = wsB ns := ⟨_, rfl⟩
      have HB1 := Lib.hid hb1
      clear hb1
      cases b1
      · have HR2 : Hid (odB ns ss = false) := Lib.hid (by rw [HR.out, ← HB1.out]; rfl)
        go_wp2_with (go_at_call 70; refine (validWeights_any ns _ _ _ (HA.out.below (by repeat (first | with_reducible exact Below.refl _ _ | with_reducible assumption | refine below_drewN ?_ _ | with_reducible refine Below.drew ?_ | (refine Below.setCell ?_ (by first | (simp; done) | (simp; omega) | omega) _) | (refine Below.alloc ?_ (by first | (simp; done) | (simp; omega) | omega) _)))) hl).mono ?_; rintro e w1 ⟨rfl, rfl⟩; rw [← HB1.out])
        go_ret
        exact ⟨ret_bool HR2.out.symm, (by repeat (first | with_reducible exact Below.refl _ _ | with_reducible assumption | refine below_drewN ?_ _ | with_reducible refine Below.drew ?_ | (refine Below.setCell ?_ (by first | (simp; done) | (simp; omega) | omega) _) | (refine Below.alloc ?_ (by first | (simp; done) | (simp; omega) | omega) _)))⟩
      · have HR2 : Hid (odB ns ss = wsB ss) := Lib.hid (by rw [HR.out, ← HB1.out]; rfl)
        go_wp2_with (go_at_call 70; first | (with_reducible refine (validWeights_any ns _ _ _ (HA.out.below (by repeat (first | with_reducible exact Below.refl _ _ | with_reducible assumption | refine below_drewN ?_ _ | with_reducible refine Below.drew ?_ | (refine Below.setCell ?_ (by first | (simp; done) | (simp; omega) | omega) _) | (refine Below.alloc ?_ (by first | (simp; done) | (simp; omega) | omega) _)))) hl).mono ?_; rintro e w1 ⟨rfl, rfl⟩; rw [← HB1.out]) | (with_reducible refine (validWeights_any ss _ _ _ (HB.out.below (by repeat (first | with_reducible exact Below.refl _ _ | with_reducible assumption | refine below_drewN ?_ _ | with_reducible refine Below.drew ?_ | (refine Below.setCell ?_ (by first | (simp; done) | (simp; omega) | omega) _) | (refine Below.alloc ?_ (by first | (simp; done) | (simp; omega) | omega) _)))) hl2).mono ?_; rintro e w1 ⟨rfl, rfl⟩))
        go_ret
        exact ⟨ret_bool HR2.out.symm, (by repeat (first | with_reducible exact Below.refl _ _ | with_reducible assumption | refine below_drewN ?_ _ | with_reducible refine Below.drew ?_ | (refine Below.setCell ?_ (by first | (simp; done) | (simp; omega) | omega) _) | (refine Below.alloc ?_ (by first | (simp; done) | (simp; omega) | omega) _)))⟩
    · have t2 : decide ((10 : Int) < (ns.length : Int)) = true := decide_eq_true (by omega)
      have HR := Lib.hid (odB_gt (ns := ns) (ss := ss) h2)
      go_wp2
      go_ret
      exact ⟨ret_bool HR.out.symm, (by repeat (first | with_reducible exact Below.refl _ _ | with_reducible assumption | refine below_drewN ?_ _ | with_reducible refine Below.drew ?_ | (refine Below.setCell ?_ (by first | (simp; done) | (simp; omega) | omega) _) | (refine Below.alloc ?_ (by first | (simp; done) | (simp; omega) | omega) _)))⟩
  · have t1 : ((ns.length : Int) != (ss.length : Int)) = true := by simp; omega
    have HR := Lib.hid (odB_ne h1)
    go_wp2
    go_ret
    exact ⟨ret_bool HR.out.symm, (by repeat (first | with_reducible exact Below.refl _ _ | with_reducible assumption | refine below_drewN ?_ _ | with_reducible refine Below.drew ?_ | (refine Below.setCell ?_ (by first | (simp; done) | (simp; omega) | omega) _) | (refine Below.alloc ?_ (by first | (simp; done) | (simp; omega) | omega) _)))⟩

set_option maxRecDepth 100000 in
theorem refValid_any (ns ss : List Int) (A B : Option Addr) (c d : Nat) (w : World) (hA : Ints w A ns) (hB : Ints w B ss) (hl : ns.length ≤ 1000) (hl2 : ss.length ≤ 1000) :
    Calls Try.prog 22 #[.agg #[.slice A ns.length c, .slice B ss.length d]] w fun e w' => e = .returned (.bool (odB ns ss)) ∧ Below w.heap.size w w' := by
  have HA := Lib.hid hA
  have HB := Lib.hid hB
  clear hA hB
  go_enter Try.func22, Try.ntmps22
  by_cases h1 : ns.length = ss.length
  · have t1 : ((ns.length : Int) == (ss.length : Int)) = true := by rw [h1]; simp
    have HL := Lib.hid h1
    have HR : Hid (odB ns ss = ((decide (ns.length ≤ 10) && wsB ns) && (decide (ss.length ≤ 10) && wsB ss))) := Lib.hid (by
      have e : decide (ss.length ≤ 10) = decide (ns.length ≤ 10) := by rw [h1]
      unfold odB; rw [decide_eq_true h1, e]
      cases decide (ns.length ≤ 10) <;> cases wsB ns <;> cases wsB ss <;> rfl)
    clear h1
    obtain ⟨b1, hb1⟩ : ∃ b, b = (decide (ns.length ≤ 10) && wsB ns) := ⟨_, rfl⟩
    have HB1 := Lib.hid hb1
    clear hb1
    cases b1
    · have HR2 : Hid (odB ns ss = false) := Lib.hid (by rw [HR.out, ← HB1.out]; rfl)
      go_wp2_with (go_at_call 71; refine (areWeights_any ns _ _ _ (HA.out.below (by repeat (first | with_reducible exact Below.refl _ _ | with_reducible assumption | refine below_drewN ?_ _ | with_reducible refine Below.drew ?_ | (refine Below.setCell ?_ (by first | (simp; done) | (simp; omega) | omega) _) | (refine Below.alloc ?_ (by first | (simp; done) | (simp; omega) | omega) _)))) hl).mono ?_; rintro e w1 ⟨rfl, rfl⟩; rw [← HB1.out])
      go_ret
      exact ⟨ret_bool HR2.out.symm, (by repeat (first | with_reducible exact Below.refl _ _ | with_reducible assumption | refine below_drewN ?_ _ | with_reducible refine Below.drew ?_ | (refine Below.setCell ?_ (by first | (simp; done) | (simp; omega) | omega) _) | (refine Below.alloc ?_ (by first | (simp; done) | (simp; omega) | omega) _)))⟩
    · obtain ⟨b2, hb2⟩ : ∃ b, b = (decide (ss.length ≤ 10) && wsB ss) := ⟨_, rfl⟩
      have HR2 : Hid (odB ns ss = b2) := Lib.hid (by rw [HR.out, ← HB1.out, hb2]; rfl)
      have HB2 := Lib.hid hb2
      clear hb2
      go_wp2_with (go_at_call 71; first | (with_reducible refine (areWeights_any ns _ _ _ (HA.out.below (by repeat (first | with_reducible exact Below.refl _ _ | with_reducible assumption | refine below_drewN ?_ _ | with_reducible refine Below.drew ?_ | (refine Below.setCell ?_ (by first | (simp; done) | (simp; omega) | omega) _) | (refine Below.alloc ?_ (by first | (simp; done) | (simp; omega) | omega) _)))) hl).mono ?_; rintro e w1 ⟨rfl, rfl⟩; rw [← HB1.out]) | (with_reducible refine (areWeights_any ss _ _ _ (HB.out.below (by repeat (first | with_reducible exact Below.refl _ _ | with_reducible assumption | refine below_drewN ?_ _ | with_reducible refine Below.drew ?_ | (refine Below.setCell ?_ (by first | (simp; done) | (simp; omega) | omega) _) | (refine Below.alloc ?_ (by first | (simp; done) | (simp; omega) | omega) _)))) hl2).mono ?_; rintro e w1 ⟨rfl, rfl⟩; rw [← HB2.out]))
      go_ret
      exact ⟨ret_bool HR2.out.symm, (by repeat (first | with_reducible exact Below.refl _ _ | with_reducible assumption | refine below_drewN ?_ _ | with_reducible refine Below.drew ?_ | (refine Below.setCell ?_ (by first | (simp; done) | (simp; omega) | omega) _) | (refine Below.alloc ?_ (by first | (simp; done) | (simp; omega) | omega) _)))⟩
  · have t1 : ((ns.length : Int) == (ss.length : Int)) = false := by simp; omega
    have HR := Lib.hid (odB_ne h1)
    go_wp2
    go_ret
    exact ⟨ret_bool HR.out.symm, (by repeat (first | with_reducible exact Below.refl _ _ | with_reducible assumption | refine below_drewN ?_ _ | with_reducible refine Below.drew ?_ | (refine Below.setCell ?_ (by first | (simp; done) | (simp; omega) | omega) _) | (refine Below.alloc ?_ (by first | (simp; done) | (simp; omega) | omega) _)))⟩
end Go.Proofs.Ytolpbbabmcpdkaa

/-
  Contracts: count, validCut (weigh), IsCut (firnref07).
-/
namespace Go.Proofs.Ytolpbbabmcpdkaa
open Go.RowKit

theorem blk_frozen {w : World} {g : Nat} {t : TypeId} {cs : Array Value} (h : w.heap[g]? = some (.cells cs t (0, 0))) (i : Nat) : w.frozen? ⟨g, i, none⟩ = false := by
  simp [World.frozen?, h]
theorem drop_at {cs : List Int} {k : Nat} {a : Int} (h : cs[k]? = some a) : cs.drop k = a :: cs.drop (k + 1) := by
  have hk : k < cs.length := by
    rcases Nat.lt_or_ge k cs.length with q | q
    · exact q
    · rw [List.getElem?_eq_none q] at h; cases h
  rw [List.drop_eq_getElem_cons hk]
  rw [List.getElem?_eq_getElem hk] at h
  injection h with h; rw [h]
theorem cutF_no {n l a : Int} {t : List Int} (h : a ≤ l ∨ n ≤ a) : cutF n l (a :: t) = false := by
  unfold cutF
  rcases h with h | h
  · rw [decide_eq_false (by omega : ¬ l < a)]; rfl
  · rw [decide_eq_false (by omega : ¬ a < n)]; simp
theorem cutF_go {n l a : Int} {t : List Int} (h : l < a) (h2 : a < n) : cutF n l (a :: t) = cutF n a t := by
  rw [cutF, decide_eq_true h, decide_eq_true h2]; rfl
/-- The last one of the first k, -1 in front of them all. -/
def lastV (cs : List Int) (k : Nat) : Int := if k = 0 then -1 else cs.getD (k - 1) 0
theorem last_succ {cs : List Int} {k : Nat} {a : Int} (h : cs[k]? = some a) : lastV cs (k + 1) = a := by
  unfold lastV; rw [if_neg (by omega)]; exact getD_of h

set_option maxRecDepth 100000 in
theorem count_any (ns ss : List Int) (A B : Option Addr) (c d : Nat) (N S : Int) (w : World) :
    Calls Try.prog 77 #[.agg #[.slice A ns.length c, .slice B ss.length d, .int .i64 N, .int .i64 S]] w fun e w' => e = .returned (.int .i64 ns.length) ∧ Below w.heap.size w w' := by
  go_enter Try.func77, Try.ntmps77
  go_wp2
  go_ret
  exact ⟨rfl, (by repeat (first | with_reducible exact Below.refl _ _ | with_reducible assumption | refine below_drewN ?_ _ | with_reducible refine Below.drew ?_ | (refine Below.setCell ?_ (by first | (simp; done) | (simp; omega) | omega) _) | (refine Below.alloc ?_ (by first | (simp; done) | (simp; omega) | omega) _)))⟩

set_option maxRecDepth 100000 in
theorem validCut_any (ns ss cs : List Int) (A B C : Option Addr) (c d e1 : Nat) (N S : Int) (w : World) (hC : Ints w C cs) (hl : cs.length ≤ 1000) :
    Calls Try.prog 83 #[.agg #[.slice A ns.length c, .slice B ss.length d, .int .i64 N, .int .i64 S], .slice C cs.length e1] w fun e w' => e = .returned (.bool (cutB ns.length cs)) ∧ Below w.heap.size w w' := by
  obtain ⟨W0, hW0⟩ : ∃ W0, W0 = w.alloc (.cells #[.slice A ns.length c, .slice B ss.length d, .int .i64 N, .int .i64 S] 67) := ⟨_, rfl⟩
  have hs0 : W0.heap.size = w.heap.size + 1 := by rw [hW0]; simp
  have hBW : Hid (Below w.heap.size w W0) := Lib.hid (by rw [hW0]; exact (Below.refl _ _).alloc (Nat.le_refl _) _)
  have hK0 : Hid (W0.heap[w.heap.size]? = some (.cells #[.slice A ns.length c, .slice B ss.length d, .int .i64 N, .int .i64 S] 67 (0, 0))) := Lib.hid (by rw [hW0]; exact heap_alloc_new w _)
  have HC : Hid (Ints W0 C cs) := Lib.hid (hC.below hBW.out)
  clear hC
  go_enter Try.func83, Try.ntmps83
  go_wp2
  rw [← hW0]
  have HW0 := Lib.hid hW0
  clear hW0
  have HS0 := Lib.hid hs0
  clear hs0
  go_loopw [5, 10] (fun v i wr => ∃ k : Nat, k ≤ cs.length ∧ v = .int .i64 (lastV cs k) ∧ i = .int .i64 k ∧ Below W0.heap.size W0 wr ∧ Hid (cutF ns.length (-1) cs = cutF ns.length (lastV cs k) (cs.drop k))) (fun _ i _ => cs.length - (intOf i).toNat)
  case atStart => exact ⟨0, Nat.zero_le _, rfl, rfl, Below.refl _ _, rfl⟩
  case round =>
    obtain ⟨k, hk, rfl, rfl, hB, hF⟩ := hrel
    obtain ⟨l, hl'⟩ : ∃ l, l = lastV cs k := ⟨_, rfl⟩
    rw [← hl'] at hF
    simp only [← hl']
    clear hl'
    have HB := Lib.hid hB
    clear hB
    by_cases hlt : k < cs.length
    · obtain ⟨ad, a, rfl, hbk, ha, hc⟩ := (HC.out.below HB.out).get hlt
      have k2 := (HB.out.block w.heap.size (by rw [HS0.out]; omega)).trans hK0.out
      have d0 := cell_of_row wr _ 0 _ _ _ k2
      have d1 := cell_of_row wr _ 1 _ _ _ k2
      have d2 := cell_of_row wr _ 2 _ _ _ k2
      have d3 := cell_of_row wr _ 3 _ _ _ k2
      clear k2
      have HD := Lib.hid (drop_at ha.out)
      by_cases h1 : a ≤ l
      · have t1 : decide (a ≤ l) = true := decide_eq_true h1
        have HR : Hid (cutB ns.length cs = false) := Lib.hid (by unfold cutB; rw [hF.out, HD.out]; exact cutF_no (.inl h1))
        go_wp2
        go_ret
        exact ⟨ret_bool HR.out.symm, hBW.out.trans (HB.out.mono (by rw [HS0.out]; omega))⟩
      · have t1 : decide (a ≤ l) = false := decide_eq_false h1
        by_cases h2 : (ns.length : Int) ≤ a
        · have t2 : decide ((ns.length : Int) ≤ a) = true := decide_eq_true h2
          have HR : Hid (cutB ns.length cs = false) := Lib.hid (by unfold cutB; rw [hF.out, HD.out]; exact cutF_no (.inr h2))
          go_wp2_with (go_at_call 77; refine (count_any ns ss _ _ _ _ _ _ _).mono ?_; rintro e w1 ⟨rfl, hB1⟩)
          go_ret
          exact ⟨ret_bool HR.out.symm, hBW.out.trans ((HB.out.mono (by rw [HS0.out]; omega)).trans (hB1.mono (by have := HB.out.size; rw [HS0.out] at this; omega)))⟩
        · have t2 : decide ((ns.length : Int) ≤ a) = false := decide_eq_false h2
          have HG : Hid (cutF ns.length (-1) cs = cutF ns.length a (cs.drop (k + 1))) := Lib.hid (by rw [hF.out, HD.out]; exact cutF_go (by omega) (by omega))
          go_wp2_with (go_at_call 77; refine (count_any ns ss _ _ _ _ _ _ _).mono ?_; rintro e w1 ⟨rfl, hB1⟩)
          go_roundw
          case rel => exact ⟨k + 1, by omega, by rw [last_succ ha.out], by go_num, HB.out.trans (hB1.mono HB.out.size), by show _ = _; rw [last_succ ha.out]; exact HG.out⟩
          case measure => simp [intOf]; omega
    · obtain rfl : k = cs.length := by omega
      have HR : Hid (cutB ns.length cs = true) := Lib.hid (by unfold cutB; rw [hF.out, List.drop_length]; rfl)
      go_wp2
      go_ret
      exact ⟨ret_bool HR.out.symm, hBW.out.trans (HB.out.mono (by rw [HS0.out]; omega))⟩

set_option maxRecDepth 100000 in
theorem isCut_any (ns ss cs : List Int) (A B C : Option Addr) (c d e1 : Nat) (w : World) (hC : Ints w C cs) (hl : cs.length ≤ 1000) :
    Calls Try.prog 55 #[.agg #[.slice A ns.length c, .slice B ss.length d], .slice C cs.length e1] w fun e w' => e = .returned (.bool (cutB ns.length cs)) ∧ Below w.heap.size w w' := by
  obtain ⟨W0, hW0⟩ : ∃ W0, W0 = w.alloc (.cells #[.slice A ns.length c, .slice B ss.length d] 24) := ⟨_, rfl⟩
  have hBW : Hid (Below w.heap.size w W0) := Lib.hid (by rw [hW0]; exact (Below.refl _ _).alloc (Nat.le_refl _) _)
  have k2 : W0.heap[w.heap.size]? = some (.cells #[.slice A ns.length c, .slice B ss.length d] 24 (0, 0)) := by rw [hW0]; exact heap_alloc_new w _
  have d0 := cell_of_row W0 _ 0 _ _ _ k2
  have HC : Hid (Ints W0 C cs) := Lib.hid (hC.below hBW.out)
  clear hC k2
  go_enter Try.func55, Try.ntmps55
  go_wp2
  rw [← hW0]
  clear hW0
  go_loopw [9] (fun i wr => ∃ k : Nat, k ≤ cs.length ∧ i = .int .i64 k ∧ wr = W0 ∧ Hid (cutF ns.length (-1) cs = cutF ns.length (lastV cs k) (cs.drop k))) (fun i _ => cs.length - (intOf i).toNat)
  case atStart => exact ⟨0, Nat.zero_le _, rfl, rfl, rfl⟩
  case round =>
    obtain ⟨k, hk, rfl, rfl, hF⟩ := hrel
    by_cases hlt : k < cs.length
    · obtain ⟨ad, a, rfl, hbk, ha, hc⟩ := HC.out.get hlt
      have HD := Lib.hid (drop_at ha.out)
      by_cases h1 : a < 0
      · have t1 : decide (a < 0) = true := decide_eq_true h1
        have HR : Hid (cutB ns.length cs = false) := Lib.hid (by
          unfold cutB
          cases hq : cutF ns.length (-1) cs
          · rfl
          · have := cutF_mem hq a (List.mem_of_getElem? ha.out); omega)
        go_wp2
        go_ret
        exact ⟨ret_bool HR.out.symm, hBW.out⟩
      · have t1 : decide (a < 0) = false := decide_eq_false h1
        by_cases h2 : (ns.length : Int) ≤ a
        · have t2 : decide ((ns.length : Int) ≤ a) = true := decide_eq_true h2
          have HR : Hid (cutB ns.length cs = false) := Lib.hid (by unfold cutB; rw [hF.out, HD.out]; exact cutF_no (.inr h2))
          go_wp2
          go_ret
          exact ⟨ret_bool HR.out.symm, hBW.out⟩
        · have t2 : decide ((ns.length : Int) ≤ a) = false := decide_eq_false h2
          by_cases hk0 : k = 0
          · subst hk0
            have HG : Hid (cutF ns.length (-1) cs = cutF ns.length a (cs.drop (0 + 1))) := Lib.hid (by rw [hF.out, HD.out]; exact cutF_go (by unfold lastV; rw [if_pos rfl]; omega) (by omega))
            have hc0 : wr.cell? ad = some (.int .i64 a) := by simpa [Addr.add] using hc
            clear hc
            go_wp2
            go_roundw
            case rel => exact ⟨0 + 1, by omega, by go_num, (by first | trivial | rfl), by show _ = _; rw [last_succ ha.out]; exact HG.out⟩
            case measure => simp [intOf]; omega
          · obtain ⟨m, hm⟩ : ∃ m, k = m + 1 := ⟨k - 1, by omega⟩
            obtain ⟨ad', b, he, hbk', hb, hc'⟩ := HC.out.get (show m < cs.length by omega)
            obtain rfl := Option.some.inj he
            have hLV : lastV cs k = b := by rw [hm]; exact last_succ hb.out
            rw [hLV] at hF
            have z1 : decide ((0 : Int) < (k : Int)) = true := decide_eq_true (by omega)
            have s1 : IntKind.i64.wrap ((k : Int) - 1) = m := by rw [IntWalk.i64_in _ (by omega)]; omega
            have hml : m < cs.length := by omega
            have HM := Lib.hid hm
            clear hLV he hm
            by_cases h3 : a ≤ b
            · have t3 : decide (a ≤ b) = true := decide_eq_true h3
              have HR : Hid (cutB ns.length cs = false) := Lib.hid (by unfold cutB; rw [hF.out, HD.out]; exact cutF_no (.inl h3))
              go_wp2
              go_ret
              exact ⟨ret_bool HR.out.symm, hBW.out⟩
            · have t3 : decide (a ≤ b) = false := decide_eq_false h3
              have HG : Hid (cutF ns.length (-1) cs = cutF ns.length a (cs.drop (k + 1))) := Lib.hid (by rw [hF.out, HD.out]; exact cutF_go (by omega) (by omega))
              go_wp2
              go_roundw
              case rel => exact ⟨k + 1, by omega, by go_num, (by first | trivial | rfl), by show _ = _; rw [last_succ ha.out]; exact HG.out⟩
              case measure => simp [intOf]; omega
    · obtain rfl : k = cs.length := by omega
      have HR : Hid (cutB ns.length cs = true) := Lib.hid (by unfold cutB; rw [hF.out, List.drop_length]; rfl)
      go_wp2
      go_ret
      exact ⟨ret_bool HR.out.symm, hBW.out⟩
end Go.Proofs.Ytolpbbabmcpdkaa

/-
  Contracts: divisor, ratio (weigh), gcd, Ratio (firnref07): lowest terms.
-/
namespace Go.Proofs.Ytolpbbabmcpdkaa
open Go.RowKit

def absI (n : Int) : Int := max n (-n)
theorem abs_gcd (n d : Int) : Int.gcd (absI n) d = Int.gcd n d := by
  unfold absI
  rcases Int.le_total n (-n) with h | h
  · rw [Int.max_eq_right h, Int.neg_gcd]
  · rw [Int.max_eq_left h]
/-! ### the greatest common divisor -/
theorem gcd_tmod (a b : Int) : Int.gcd b (a.tmod b) = Int.gcd a b := by
  have h : a.tmod b = a - b * a.tdiv b := by have := Int.tmod_add_mul_tdiv a b; omega
  rw [h, Int.gcd_comm b]
  rw [Int.sub_eq_add_neg, ← Int.mul_neg, Int.mul_comm, Int.gcd_add_mul_right_left]
theorem gcd_emod (a b : Int) : Int.gcd b (a % b) = Int.gcd a b := by
  have h : a % b = a - b * (a / b) := by have := Int.emod_add_mul_ediv a b; omega
  rw [h, Int.gcd_comm b]
  rw [Int.sub_eq_add_neg, ← Int.mul_neg, Int.mul_comm, Int.gcd_add_mul_right_left]

def lowN (n d : Int) : Int := n / (Int.gcd n d : Int)
def lowD (n d : Int) : Int := d / (Int.gcd n d : Int)

theorem tmod_lt (a b : Int) (hb : b ≠ 0) : (a.tmod b).natAbs < b.natAbs := by
  rw [Int.natAbs_tmod]; exact Nat.mod_lt _ (by omega)

set_option maxRecDepth 100000 in
theorem refgcd_any (n d : Int) (w : World) (hn0 : -4611686018427387904 ≤ n) (hn1 : n ≤ 4611686018427387904) (hd0 : 0 < d) (hd1 : d ≤ 4611686018427387904) :
    Calls Try.prog 98 #[.int .i64 n, .int .i64 d] w fun e w' => ∃ g : Int, e = .returned (.int .i64 g) ∧ (∃ m, w' = w.drewN m) ∧ Hid (g = (Int.gcd n d : Int)) := by
  go_enter Try.func98, Try.ntmps98
  go_wp2
  go_loopw [0, 1] (fun x y wr => ∃ (a b : Int) (m : Nat), x = .int .i64 a ∧ y = .int .i64 b ∧ wr = w.drewN m ∧ -4611686018427387904 ≤ a ∧ a ≤ 4611686018427387904 ∧ -4611686018427387904 ≤ b ∧ b ≤ 4611686018427387904 ∧ Hid (Int.gcd a b = Int.gcd n d)) (fun _ y _ => (intOf y).natAbs)
  case atStart => exact ⟨n, d, 0, rfl, rfl, rfl, hn0, hn1, by omega, hd1, rfl⟩
  case round =>
    obtain ⟨a, b, m, rfl, rfl, rfl, ha0, ha1, hb0, hb1, hg⟩ := hrel
    by_cases hb : b = 0
    · subst hb
      have HG := hg.out
      rw [Int.gcd_zero_right] at HG
      have HG2 := Lib.hid HG
      clear HG hg
      go_wp2
      all_goals
        go_ret
        refine ⟨_, rfl, ⟨_, rfl⟩, ?_⟩
        rw [← HG2.out]
        show _ = _
        omega
    · have hbb : (b == 0) = false := by simpa using hb
      have hbn : (b != 0) = true := by simpa using hb
      have hlt := tmod_lt a b hb
      have hg2 := Lib.hid ((gcd_tmod a b).trans hg.out)
      clear hg
      go_wp2
      go_quiet (fail)
      go_wp2
      go_roundw
      case rel => exact ⟨b, _, _, rfl, rfl, World.drewN_drewN _ _ _, hb0, hb1, by omega, by omega, hg2.out⟩
      case measure => simp only [intOf]; exact hlt

theorem gcd_pos {n d : Int} (hd : 0 < d) : 0 < (Int.gcd n d : Int) := by
  have : Int.gcd n d ≠ 0 := by rw [Ne, Int.gcd_eq_zero_iff]; omega
  omega
theorem gcd_le {n d : Int} (hd : 0 < d) : (Int.gcd n d : Int) ≤ d := Int.le_of_dvd hd (Int.gcd_dvd_right n d)
theorem quo_n {n d g : Int} (hg : g = (Int.gcd n d : Int)) : n.tdiv g = lowN n d := by
  subst hg; rw [lowN]; exact Int.tdiv_eq_ediv_of_dvd (Int.gcd_dvd_left n d)
theorem quo_d {n d g : Int} (hg : g = (Int.gcd n d : Int)) : d.tdiv g = lowD n d := by
  subst hg; rw [lowD]; exact Int.tdiv_eq_ediv_of_dvd (Int.gcd_dvd_right n d)
theorem lowN_bd {n d : Int} (hd : 0 < d) (h0 : -4611686018427387904 ≤ n) (h1 : n ≤ 4611686018427387904) : -9223372036854775808 ≤ lowN n d ∧ lowN n d ≤ 9223372036854775807 := by
  have hg := gcd_pos (n := n) hd
  have e : lowN n d * (Int.gcd n d : Int) = n := Int.ediv_mul_cancel (Int.gcd_dvd_left n d)
  generalize (Int.gcd n d : Int) = g at *
  generalize lowN n d = q at *
  by_cases hq : 0 ≤ q
  · have : q * 1 ≤ q * g := Int.mul_le_mul_of_nonneg_left (by omega) hq
    omega
  · have : q * g ≤ q * 1 := Int.mul_le_mul_of_nonpos_left (by omega) (by omega)
    omega
theorem lowD_bd {n d : Int} (hd : 0 < d) : 1 ≤ lowD n d ∧ lowD n d ≤ d := by
  have hg := gcd_pos (n := n) hd
  have e : lowD n d * (Int.gcd n d : Int) = d := Int.ediv_mul_cancel (Int.gcd_dvd_right n d)
  generalize (Int.gcd n d : Int) = g at *
  generalize lowD n d = q at *
  have hq : 0 < q := by
    rcases Int.lt_or_le 0 q with h | h
    · exact h
    · have : q * g ≤ 0 := Int.mul_nonpos_of_nonpos_of_nonneg h (by omega)
      omega
  have : q * 1 ≤ q * g := Int.mul_le_mul_of_nonneg_left (by omega) (by omega)
  omega
theorem ret_agg2 {a b c d : Int} (h1 : a = c) (h2 : b = d) : Ending.returned (.agg #[.int .i64 a, .int .i64 b]) = .returned (.agg #[.int .i64 c, .int .i64 d]) := by rw [h1, h2]

set_option maxRecDepth 100000 in
theorem refRatio_any (n d : Int) (w : World) (hn0 : -4611686018427387904 ≤ n) (hn1 : n ≤ 4611686018427387904) (hd0 : 0 < d) (hd1 : d ≤ 4611686018427387904) :
    Calls Try.prog 59 #[.int .i64 n, .int .i64 d] w fun e w' => e = .returned (.agg #[.int .i64 (lowN n d), .int .i64 (lowD n d)]) ∧ Below w.heap.size w w' := by
  go_enter Try.func59, Try.ntmps59
  go_wp2_with (go_at_call 98; refine (refgcd_any _ _ _ hn0 hn1 hd0 hd1).mono ?_; rintro e w1 ⟨g, rfl, ⟨m, rfl⟩, hg⟩)
  have hgp : 0 < g := by rw [hg.out]; exact gcd_pos hd0
  have hg0 : (g == 0) = false := by simp; omega
  have hgn : g ≠ 0 := by omega
  have q1 : IntKind.i64.wrap (n.tdiv g) = lowN n d := by rw [quo_n hg.out]; exact IntWalk.i64_in _ (lowN_bd hd0 hn0 hn1)
  have q2 : IntKind.i64.wrap (d.tdiv g) = lowD n d := by rw [quo_d hg.out]; have := lowD_bd (n := n) hd0; exact IntWalk.i64_in _ (by omega)
  go_region_held3 (fun _ => True) (trivial) ((fail))
  go_wp2
  exact bodyPost_ret (v := .agg #[.int .i64 (lowN n d), .int .i64 (lowD n d)]) (by simp [results, Try.results59, go_sem]) rfl ⟨rfl, (by repeat (first | with_reducible exact Below.refl _ _ | with_reducible assumption | refine below_drewN ?_ _ | with_reducible refine Below.drew ?_ | (refine Below.setCell ?_ (by first | (simp; done) | (simp; omega) | omega) _) | (refine Below.alloc ?_ (by first | (simp; done) | (simp; omega) | omega) _)))⟩


set_option maxRecDepth 100000 in
theorem divisor_any (n d : Int) (w : World) (hn0 : 0 ≤ n) (hn1 : n ≤ 4611686018427387904) (hd0 : 0 ≤ d) (hd1 : d ≤ 4611686018427387904) :
    Calls Try.prog 100 #[.int .i64 n, .int .i64 d] w fun e w' => ∃ g : Int, e = .returned (.int .i64 g) ∧ (∃ m, w' = w.drewN m) ∧ Hid (g = (Int.gcd n d : Int)) := by
  go_enter Try.func100, Try.ntmps100
  go_wp2
  go_loopw [0, 1] (fun x y wr => ∃ (a b : Int) (m : Nat), x = .int .i64 a ∧ y = .int .i64 b ∧ wr = w.drewN m ∧ 0 ≤ a ∧ a ≤ 4611686018427387904 ∧ 0 ≤ b ∧ b ≤ 4611686018427387904 ∧ Hid (Int.gcd a b = Int.gcd n d)) (fun _ y _ => (intOf y).natAbs)
  case atStart => exact ⟨n, d, 0, rfl, rfl, rfl, hn0, hn1, hd0, hd1, rfl⟩
  case round =>
    obtain ⟨a, b, m, rfl, rfl, rfl, ha0, ha1, hb0, hb1, hg⟩ := hrel
    by_cases hb : b = 0
    · subst hb
      have HG := hg.out
      rw [Int.gcd_zero_right] at HG
      have HG2 : Hid (a = (Int.gcd n d : Int)) := Lib.hid (by rw [← HG]; omega)
      clear HG hg
      go_wp2
      go_ret
      exact ⟨_, rfl, ⟨_, rfl⟩, HG2.out⟩
    · have hbb : (b == 0) = false := by simpa using hb
      have hbn : (b != 0) = true := by simpa using hb
      have hlt : (a % b).natAbs < b.natAbs := by rw [← Int.tmod_eq_emod_of_nonneg ha0]; exact tmod_lt a b hb
      have hnn := Int.emod_nonneg a hb
      have hg2 := Lib.hid ((gcd_emod a b).trans hg.out)
      clear hg
      go_wp2
      go_quiet (fail)
      go_wp2
      go_roundw
      case rel => exact ⟨b, _, _, rfl, rfl, World.drewN_drewN _ _ _, by omega, by omega, by omega, by omega, hg2.out⟩
      case measure => simp only [intOf]; exact hlt

set_option maxRecDepth 100000 in
theorem ratio_any (n d : Int) (w : World) (hn0 : -4611686018427387904 ≤ n) (hn1 : n ≤ 4611686018427387904) (hd0 : 0 < d) (hd1 : d ≤ 4611686018427387904) :
    Calls Try.prog 66 #[.int .i64 n, .int .i64 d] w fun e w' => e = .returned (.agg #[.int .i64 (lowN n d), .int .i64 (lowD n d)]) ∧ Below w.heap.size w w' := by
  have HM : Hid (∀ x : Int, x = absI n → Int.gcd x d = Int.gcd n d) := Lib.hid (fun x hx => by rw [hx]; exact abs_gcd n d)
  by_cases hneg : n < -n
  · have HA : Hid (absI n = -n) := Lib.hid (by unfold absI; omega)
    have hmx : (if n < -n then -n else n) = -n := if_pos hneg
    have hmx2 : max n (-n) = -n := by omega
    go_enter Try.func66, Try.ntmps66
    go_wp2_with (go_at_call 100; refine (divisor_any (-n) d _ (by omega) (by omega) (by omega) (by omega)).mono ?_; rintro e w1 ⟨g, rfl, ⟨m, rfl⟩, hg⟩)
    all_goals
      have HG : Hid (g = (Int.gcd n d : Int)) := Lib.hid (by rw [hg.out, HM.out (-n) HA.out.symm])
      have hgp : 0 < g := by rw [HG.out]; exact gcd_pos hd0
      have hg0 : (g == 0) = false := by simp; omega
      have hgn : g ≠ 0 := by omega
      have q1 : IntKind.i64.wrap (n.tdiv g) = lowN n d := by rw [quo_n HG.out]; exact IntWalk.i64_in _ (lowN_bd hd0 hn0 hn1)
      have q2 : IntKind.i64.wrap (d.tdiv g) = lowD n d := by rw [quo_d HG.out]; have := lowD_bd (n := n) hd0; exact IntWalk.i64_in _ (by omega)
      go_region_held3 (fun _ => True) (trivial) ((fail))
      go_wp2
      exact bodyPost_ret (v := .agg #[.int .i64 (lowN n d), .int .i64 (lowD n d)]) (by simp [results, Try.results66, go_sem]) rfl ⟨rfl, (by repeat (first | with_reducible exact Below.refl _ _ | with_reducible assumption | refine below_drewN ?_ _ | with_reducible refine Below.drew ?_ | (refine Below.setCell ?_ (by first | (simp; done) | (simp; omega) | omega) _) | (refine Below.alloc ?_ (by first | (simp; done) | (simp; omega) | omega) _)))⟩
  · have HA : Hid (absI n = n) := Lib.hid (by unfold absI; omega)
    have hmx : (if n < -n then -n else n) = n := if_neg hneg
    go_enter Try.func66, Try.ntmps66
    go_wp2_with (go_at_call 100; refine (divisor_any n d _ (by omega) (by omega) (by omega) (by omega)).mono ?_; rintro e w1 ⟨g, rfl, ⟨m, rfl⟩, hg⟩)
    all_goals
      have HG : Hid (g = (Int.gcd n d : Int)) := Lib.hid (by rw [hg.out])
      have hgp : 0 < g := by rw [HG.out]; exact gcd_pos hd0
      have hg0 : (g == 0) = false := by simp; omega
      have hgn : g ≠ 0 := by omega
      have q1 : IntKind.i64.wrap (n.tdiv g) = lowN n d := by rw [quo_n HG.out]; exact IntWalk.i64_in _ (lowN_bd hd0 hn0 hn1)
      have q2 : IntKind.i64.wrap (d.tdiv g) = lowD n d := by rw [quo_d HG.out]; have := lowD_bd (n := n) hd0; exact IntWalk.i64_in _ (by omega)
      go_region_held3 (fun _ => True) (trivial) ((fail))
      go_wp2
      exact bodyPost_ret (v := .agg #[.int .i64 (lowN n d), .int .i64 (lowD n d)]) (by simp [results, Try.results66, go_sem]) rfl ⟨rfl, (by repeat (first | with_reducible exact Below.refl _ _ | with_reducible assumption | refine below_drewN ?_ _ | with_reducible refine Below.drew ?_ | (refine Below.setCell ?_ (by first | (simp; done) | (simp; omega) | omega) _) | (refine Below.alloc ?_ (by first | (simp; done) | (simp; omega) | omega) _)))⟩
end Go.Proofs.Ytolpbbabmcpdkaa

/-
  Contracts: summed, withCut (weigh), asked (firnref07).
-/
namespace Go.Proofs.Ytolpbbabmcpdkaa
open Go.RowKit

theorem blk_cell {w : World} {g : Nat} {cs : Array Value} {t : TypeId} (h : w.heap[g]? = some (.cells cs t (0, 0))) (i : Nat) {u : Value} (hu : cs[i]? = some u) : w.cell? ⟨g, i, none⟩ = some u := (cell_of_row w g i cs t (0, 0) h).trans hu
theorem heap_alloc2_old (w : World) (x y : Obj) : ((w.alloc x).alloc y).heap[w.heap.size]? = some x := (Below.heap_alloc (w.alloc x) y w.heap.size (by simp)).trans (heap_alloc_new w x)
theorem cell_set1 (w : World) {g i : Nat} {v : Value} {p : Addr} (h : p.block ≠ g) : (w.setCell ⟨g, i, none⟩ v).cell? p = w.cell? p := World.cell?_setCell_other w _ p v (by rintro rfl; exact h rfl)
theorem heap_alloc2_new (w : World) (x y : Obj) : ((w.alloc x).alloc y).heap[w.heap.size + 1]? = some y := by
  have := heap_alloc_new (w.alloc x) y
  simpa using this
theorem cell_drew1 (w : World) (p : Addr) : w.drew.cell? p = w.cell? p := rfl
theorem Od.nb9 {ns ss : List Int} (h : Od ns ss) : ∀ z ∈ ns, 0 ≤ z ∧ z ≤ 1000000000 := fun z hz => by have := h.nb z hz; omega
theorem Od.sb9 {ns ss : List Int} (h : Od ns ss) : ∀ z ∈ ss, 0 ≤ z ∧ z ≤ 1000000000 := fun z hz => by have := h.sb z hz; omega
theorem Od.l3 {ns ss : List Int} (h : Od ns ss) : ns.length ≤ 1000 ∧ ss.length ≤ 1000 := by have := h.le; have := h.len; omega
/-- A box and a result, made one behind the other. -/
theorem two_new (w : World) (xs ys : Array Value) (s t : TypeId) : ∃ W0, W0 = (w.alloc (.cells xs s)).alloc (.cells ys t) ∧ Hid (Below w.heap.size w W0) ∧ Hid (W0.heap[w.heap.size]? = some (.cells xs s (0, 0))) ∧ Hid (W0.heap[w.heap.size + 1]? = some (.cells ys t (0, 0))) ∧ w.heap.size < W0.heap.size ∧ w.heap.size + 1 < W0.heap.size :=
  ⟨_, rfl, ((Below.refl _ _).alloc (Nat.le_refl _) _).alloc (by simp) _, heap_alloc2_old w _ _, heap_alloc2_new w _ _, by simp; omega, by simp⟩
theorem one_new (w : World) (xs : Array Value) (s : TypeId) : ∃ W0, W0 = w.alloc (.cells xs s) ∧ Hid (Below w.heap.size w W0) ∧ Hid (W0.heap[w.heap.size]? = some (.cells xs s (0, 0))) ∧ w.heap.size < W0.heap.size :=
  ⟨_, rfl, (Below.refl _ _).alloc (Nat.le_refl _) _, heap_alloc_new w _, by simp⟩

set_option maxRecDepth 100000 in
set_option maxHeartbeats 1000000 in
theorem summed_no (ns ss : List Int) (A B : Option Addr) (c d : Nat) (w : World) (hA : Ints w A ns) (hB : Ints w B ss) (hl : ns.length ≤ 1000) (hl2 : ss.length ≤ 1000) (hv : odB ns ss = false) :
    Calls Try.prog 72 #[.agg #[.slice A ns.length c, .slice B ss.length d]] w fun e w' => e = .returned (.tuple #[.agg #[.slice none 0 0, .slice none 0 0, .int .i64 0, .int .i64 0], .int .i64 70]) ∧ Below w.heap.size w w' := by
  have HA := Lib.hid hA
  have HB := Lib.hid hB
  clear hA hB
  have HV := Lib.hid hv
  clear hv
  obtain ⟨W0, hW0, HW, H0, H1, z0, z1⟩ := two_new w #[.slice A ns.length c, .slice B ss.length d] #[.slice none 0 0, .slice none 0 0, .int .i64 0, .int .i64 0] 24 67
  go_enter Try.func72, Try.ntmps72
  go_wp2_with (go_at_call 21; with_reducible refine (valid_any ns ss _ _ _ _ _ (HA.out.below (by repeat (first | with_reducible exact Below.refl _ _ | with_reducible assumption | refine below_drewN ?_ _ | with_reducible refine Below.drew ?_ | (refine Below.setCell ?_ (by first | (simp; done) | (simp; omega) | omega) _) | (refine Below.alloc ?_ (by first | (simp; done) | (simp; omega) | omega) _)))) (HB.out.below (by repeat (first | with_reducible exact Below.refl _ _ | with_reducible assumption | refine below_drewN ?_ _ | with_reducible refine Below.drew ?_ | (refine Below.setCell ?_ (by first | (simp; done) | (simp; omega) | omega) _) | (refine Below.alloc ?_ (by first | (simp; done) | (simp; omega) | omega) _)))) hl hl2).mono ?_; rintro e w1 ⟨rfl, hB1⟩; rw [HV.out]; rw [← hW0] at hB1; have H0 := Lib.hid ((hB1.block _ z0).trans H0.out); have z0 := Nat.lt_of_lt_of_le z0 hB1.size; have b0 : World.cell? _ ⟨_, 0, none⟩ = some (.slice A ns.length c) := blk_cell H0.out 0 rfl; have b1 : World.cell? _ ⟨_, 1, none⟩ = some (.slice B ss.length d) := blk_cell H0.out 1 rfl; have H1 := Lib.hid ((hB1.block _ z1).trans H1.out); have z1 := Nat.lt_of_lt_of_le z1 hB1.size; have c0 : World.cell? _ ⟨_, 0, none⟩ = some (.slice none 0 0) := blk_cell H1.out 0 rfl; have c1 : World.cell? _ ⟨_, 1, none⟩ = some (.slice none 0 0) := blk_cell H1.out 1 rfl; have c2 : World.cell? _ ⟨_, 2, none⟩ = some (.int .i64 0) := blk_cell H1.out 2 rfl; have c3 : World.cell? _ ⟨_, 3, none⟩ = some (.int .i64 0) := blk_cell H1.out 3 rfl; have cf0 := blk_frozen H1.out 0; have cf1 := blk_frozen H1.out 1; have cf2 := blk_frozen H1.out 2; have cf3 := blk_frozen H1.out 3; have HW : Hid (Below w.heap.size w _) := Lib.hid (Below.trans (by first | exact HW.out | exact Below.drew HW.out | exact below_drewN HW.out _) (hB1.mono HW.out.size)); clear hB1)
  exact bodyPost_ret (v := .tuple #[.agg #[.slice none 0 0, .slice none 0 0, .int .i64 0, .int .i64 0], .int .i64 70]) (by simp [results, Try.results72, go_sem, c0, c1, c2, c3]) rfl ⟨rfl, (by repeat (first | with_reducible exact HW.out | with_reducible exact Below.refl _ _ | with_reducible refine below_drewN ?_ _ | with_reducible refine Below.drew ?_ | (with_reducible refine Below.setCell ?_ (by first | exact Nat.le_refl _ | exact Nat.le_succ _ | (simp; done) | (simp; omega) | omega) _) | (with_reducible refine Below.alloc ?_ (by first | exact HW.out.size | (simp; done) | (simp; omega) | omega) _)))⟩

set_option maxRecDepth 100000 in
set_option maxHeartbeats 1000000 in
theorem summed_yes (ns ss : List Int) (A B : Option Addr) (c d : Nat) (w : World) (hA : Ints w A ns) (hB : Ints w B ss) (hv : odB ns ss = true) :
    Calls Try.prog 72 #[.agg #[.slice A ns.length c, .slice B ss.length d]] w fun e w' => e = .returned (.tuple #[.agg #[.slice A ns.length c, .slice B ss.length d, .int .i64 ns.sum, .int .i64 ss.sum], .int .i64 0]) ∧ Below w.heap.size w w' := by
  have HA := Lib.hid hA
  have HB := Lib.hid hB
  clear hA hB
  have HV := Lib.hid hv
  have HO := Lib.hid (od_of hv)
  obtain ⟨hl, hl2⟩ := HO.out.l3
  clear hv
  obtain ⟨W0, hW0, HW, H0, H1, z0, z1⟩ := two_new w #[.slice A ns.length c, .slice B ss.length d] #[.slice none 0 0, .slice none 0 0, .int .i64 0, .int .i64 0] 24 67
  have n01 : w.heap.size ≠ w.heap.size + 1 := by omega
  go_enter Try.func72, Try.ntmps72
  go_wp2_with (go_at_call 21; with_reducible refine (valid_any ns ss _ _ _ _ _ (HA.out.below (by repeat (first | with_reducible exact Below.refl _ _ | with_reducible assumption | refine below_drewN ?_ _ | with_reducible refine Below.drew ?_ | (refine Below.setCell ?_ (by first | (simp; done) | (simp; omega) | omega) _) | (refine Below.alloc ?_ (by first | (simp; done) | (simp; omega) | omega) _)))) (HB.out.below (by repeat (first | with_reducible exact Below.refl _ _ | with_reducible assumption | refine below_drewN ?_ _ | with_reducible refine Below.drew ?_ | (refine Below.setCell ?_ (by first | (simp; done) | (simp; omega) | omega) _) | (refine Below.alloc ?_ (by first | (simp; done) | (simp; omega) | omega) _)))) hl hl2).mono ?_; rintro e w1 ⟨rfl, hB1⟩; rw [HV.out]; rw [← hW0] at hB1; have H0 := Lib.hid ((hB1.block _ z0).trans H0.out); have z0 := Nat.lt_of_lt_of_le z0 hB1.size; have b0 : World.cell? _ ⟨_, 0, none⟩ = some (.slice A ns.length c) := blk_cell H0.out 0 rfl; have b1 : World.cell? _ ⟨_, 1, none⟩ = some (.slice B ss.length d) := blk_cell H0.out 1 rfl; have H1 := Lib.hid ((hB1.block _ z1).trans H1.out); have z1 := Nat.lt_of_lt_of_le z1 hB1.size; have c0 : World.cell? _ ⟨_, 0, none⟩ = some (.slice none 0 0) := blk_cell H1.out 0 rfl; have c1 : World.cell? _ ⟨_, 1, none⟩ = some (.slice none 0 0) := blk_cell H1.out 1 rfl; have c2 : World.cell? _ ⟨_, 2, none⟩ = some (.int .i64 0) := blk_cell H1.out 2 rfl; have c3 : World.cell? _ ⟨_, 3, none⟩ = some (.int .i64 0) := blk_cell H1.out 3 rfl; have cf0 := blk_frozen H1.out 0; have cf1 := blk_frozen H1.out 1; have cf2 := blk_frozen H1.out 2; have cf3 := blk_frozen H1.out 3; have HW : Hid (Below w.heap.size w _) := Lib.hid (Below.trans (by first | exact HW.out | exact Below.drew HW.out | exact below_drewN HW.out _) (hB1.mono HW.out.size)); clear hB1)
  go_region_held3 (fun W => W.cell? ⟨w.heap.size, 0, none⟩ = some (.slice A ns.length c) ∧ W.cell? ⟨w.heap.size, 1, none⟩ = some (.slice B ss.length d))
    ((first | with_reducible exact ⟨b0, b1⟩ | (refine ⟨?_, ?_⟩ <;> (repeat (first | with_reducible refine (cell_set1 _ n01).trans ?_ | with_reducible refine (cell_drew1 _ _).trans ?_)) <;> first | with_reducible exact b0 | with_reducible exact b1)))
    ((first
    | (go_at_call 101; with_reducible refine (sum_any ns _ _ _ (HA.out.below (by first | exact HW.out | exact Below.drew HW.out | exact below_drewN HW.out _)) hl HO.out.nb9).mono ?_; rintro e w2 ⟨rfl, rfl⟩)
    | (go_at_call 101; with_reducible refine (sum_any ss _ _ _ (HB.out.below (by first | exact HW.out | exact Below.drew HW.out | exact below_drewN HW.out _)) hl2 HO.out.sb9).mono ?_; rintro e w2 ⟨rfl, rfl⟩)))
  all_goals
    go_wp2
    exact bodyPost_ret (v := .tuple #[.agg #[.slice A ns.length c, .slice B ss.length d, .int .i64 ns.sum, .int .i64 ss.sum], .int .i64 0]) (by simp [results, Try.results72, go_sem, c0, c1, c2, c3]) rfl ⟨rfl, (by repeat (first | with_reducible exact HW.out | with_reducible exact Below.refl _ _ | with_reducible refine below_drewN ?_ _ | with_reducible refine Below.drew ?_ | (with_reducible refine Below.setCell ?_ (by first | exact Nat.le_refl _ | exact Nat.le_succ _ | (simp; done) | (simp; omega) | omega) _) | (with_reducible refine Below.alloc ?_ (by first | exact HW.out.size | (simp; done) | (simp; omega) | omega) _)))⟩
end Go.Proofs.Ytolpbbabmcpdkaa

/-
  Contracts: withCut (weigh), asked (firnref07).
-/
namespace Go.Proofs.Ytolpbbabmcpdkaa
open Go.RowKit
theorem cell_ao {w : World} {x : Obj} {g i : Nat} (h : g < w.heap.size) : (w.alloc x).cell? ⟨g, i, none⟩ = w.cell? ⟨g, i, none⟩ := Below.cell ((Below.refl w.heap.size w).alloc (Nat.le_refl _) x) (p := ⟨g, i, none⟩) h
theorem frozen_ao {w : World} {x : Obj} {g i : Nat} (h : g < w.heap.size) : (w.alloc x).frozen? ⟨g, i, none⟩ = w.frozen? ⟨g, i, none⟩ := Below.frozen ((Below.refl w.heap.size w).alloc (Nat.le_refl _) x) (p := ⟨g, i, none⟩) h

set_option maxRecDepth 100000 in
set_option maxHeartbeats 1000000 in
theorem withCut_no (ns ss cs : List Int) (A B C : Option Addr) (c d e1 : Nat) (w : World) (hA : Ints w A ns) (hB : Ints w B ss) (hl : ns.length ≤ 1000) (hl2 : ss.length ≤ 1000) (hv : odB ns ss = false) :
    Calls Try.prog 65 #[.agg #[.slice A ns.length c, .slice B ss.length d], .slice C cs.length e1] w fun e w' => e = .returned (.tuple #[.agg #[.slice none 0 0, .slice none 0 0, .int .i64 0, .int .i64 0], .int .i64 70]) ∧ Below w.heap.size w w' := by
  have HA := Lib.hid hA
  have HB := Lib.hid hB
  have HV := Lib.hid hv
  clear hA hB hv
  obtain ⟨W0, hW0, HW, H0, H1, z0, z1⟩ := two_new w #[.slice A ns.length c, .slice B ss.length d] #[.slice none 0 0, .slice none 0 0, .int .i64 0, .int .i64 0] 24 67
  go_enter Try.func65, Try.ntmps65
  go_wp2_with (go_at_call 72; with_reducible refine (summed_no ns ss _ _ _ _ _ (HA.out.below (by repeat (first | with_reducible exact Below.refl _ _ | with_reducible assumption | refine below_drewN ?_ _ | with_reducible refine Below.drew ?_ | (refine Below.setCell ?_ (by first | (simp; done) | (simp; omega) | omega) _) | (refine Below.alloc ?_ (by first | (simp; done) | (simp; omega) | omega) _)))) (HB.out.below (by repeat (first | with_reducible exact Below.refl _ _ | with_reducible assumption | refine below_drewN ?_ _ | with_reducible refine Below.drew ?_ | (refine Below.setCell ?_ (by first | (simp; done) | (simp; omega) | omega) _) | (refine Below.alloc ?_ (by first | (simp; done) | (simp; omega) | omega) _)))) hl hl2 HV.out).mono ?_; rintro e w1 ⟨rfl, hB1⟩; rw [← hW0] at hB1; have H0 := Lib.hid ((hB1.block _ z0).trans H0.out); have z0 := Nat.lt_of_lt_of_le z0 hB1.size; have b0 : World.cell? _ ⟨_, 0, none⟩ = some (.slice A ns.length c) := blk_cell H0.out 0 rfl; have b1 : World.cell? _ ⟨_, 1, none⟩ = some (.slice B ss.length d) := blk_cell H0.out 1 rfl; have H1 := Lib.hid ((hB1.block _ z1).trans H1.out); have z1 := Nat.lt_of_lt_of_le z1 hB1.size; have c0 : World.cell? _ ⟨_, 0, none⟩ = some (.slice none 0 0) := blk_cell H1.out 0 rfl; have c1 : World.cell? _ ⟨_, 1, none⟩ = some (.slice none 0 0) := blk_cell H1.out 1 rfl; have c2 : World.cell? _ ⟨_, 2, none⟩ = some (.int .i64 0) := blk_cell H1.out 2 rfl; have c3 : World.cell? _ ⟨_, 3, none⟩ = some (.int .i64 0) := blk_cell H1.out 3 rfl; have cf0 := blk_frozen H1.out 0; have cf1 := blk_frozen H1.out 1; have cf2 := blk_frozen H1.out 2; have cf3 := blk_frozen H1.out 3; have HW : Hid (Below w.heap.size w _) := Lib.hid (Below.trans (by first | exact HW.out | exact Below.drew HW.out | exact below_drewN HW.out _) (hB1.mono HW.out.size)); clear hB1)
  exact bodyPost_ret (v := .tuple #[.agg #[.slice none 0 0, .slice none 0 0, .int .i64 0, .int .i64 0], .int .i64 70]) (by simp [results, Try.results65, go_sem, cell_ao, z1, c0, c1, c2, c3]) rfl ⟨rfl, (by repeat (first | with_reducible exact HW.out | with_reducible exact Below.refl _ _ | with_reducible refine below_drewN ?_ _ | with_reducible refine Below.drew ?_ | (with_reducible refine Below.setCell ?_ (by first | exact Nat.le_refl _ | exact Nat.le_succ _ | (simp; done) | (simp; omega) | omega) _) | (with_reducible refine Below.alloc ?_ (by first | exact HW.out.size | (simp; done) | (simp; omega) | omega) _)))⟩

set_option maxRecDepth 100000 in
set_option maxHeartbeats 1000000 in
theorem withCut_arg (ns ss cs : List Int) (A B C : Option Addr) (c d e1 : Nat) (w : World) (hA : Ints w A ns) (hB : Ints w B ss) (hC : Ints w C cs) (hl3 : cs.length ≤ 1000) (hv : odB ns ss = true) (hq : cutB ns.length cs = false) :
    Calls Try.prog 65 #[.agg #[.slice A ns.length c, .slice B ss.length d], .slice C cs.length e1] w fun e w' => e = .returned (.tuple #[.agg #[.slice none 0 0, .slice none 0 0, .int .i64 0, .int .i64 0], .int .i64 2]) ∧ Below w.heap.size w w' := by
  have HC := Lib.hid hC
  have HQ := Lib.hid hq
  clear hC hq
  have HA := Lib.hid hA
  have HB := Lib.hid hB
  have HV := Lib.hid hv
  clear hA hB hv
  obtain ⟨W0, hW0, HW, H0, H1, z0, z1⟩ := two_new w #[.slice A ns.length c, .slice B ss.length d] #[.slice none 0 0, .slice none 0 0, .int .i64 0, .int .i64 0] 24 67
  go_enter Try.func65, Try.ntmps65
  go_wp2_with (first
    | (go_at_call 72; with_reducible refine (summed_yes ns ss _ _ _ _ _ (HA.out.below (by repeat (first | with_reducible exact Below.refl _ _ | with_reducible assumption | refine below_drewN ?_ _ | with_reducible refine Below.drew ?_ | (refine Below.setCell ?_ (by first | (simp; done) | (simp; omega) | omega) _) | (refine Below.alloc ?_ (by first | (simp; done) | (simp; omega) | omega) _)))) (HB.out.below (by repeat (first | with_reducible exact Below.refl _ _ | with_reducible assumption | refine below_drewN ?_ _ | with_reducible refine Below.drew ?_ | (refine Below.setCell ?_ (by first | (simp; done) | (simp; omega) | omega) _) | (refine Below.alloc ?_ (by first | (simp; done) | (simp; omega) | omega) _)))) HV.out).mono ?_; rintro e w1 ⟨rfl, hB1⟩; rw [← hW0] at hB1; have H0 := Lib.hid ((hB1.block _ z0).trans H0.out); have z0 := Nat.lt_of_lt_of_le z0 hB1.size; have b0 : World.cell? _ ⟨_, 0, none⟩ = some (.slice A ns.length c) := blk_cell H0.out 0 rfl; have b1 : World.cell? _ ⟨_, 1, none⟩ = some (.slice B ss.length d) := blk_cell H0.out 1 rfl; have H1 := Lib.hid ((hB1.block _ z1).trans H1.out); have z1 := Nat.lt_of_lt_of_le z1 hB1.size; have c0 : World.cell? _ ⟨_, 0, none⟩ = some (.slice none 0 0) := blk_cell H1.out 0 rfl; have c1 : World.cell? _ ⟨_, 1, none⟩ = some (.slice none 0 0) := blk_cell H1.out 1 rfl; have c2 : World.cell? _ ⟨_, 2, none⟩ = some (.int .i64 0) := blk_cell H1.out 2 rfl; have c3 : World.cell? _ ⟨_, 3, none⟩ = some (.int .i64 0) := blk_cell H1.out 3 rfl; have cf0 := blk_frozen H1.out 0; have cf1 := blk_frozen H1.out 1; have cf2 := blk_frozen H1.out 2; have cf3 := blk_frozen H1.out 3; have HW : Hid (Below w.heap.size w _) := Lib.hid (Below.trans (by first | exact HW.out | exact Below.drew HW.out | exact below_drewN HW.out _) (hB1.mono HW.out.size)); clear hB1)
    | (go_at_call 83; with_reducible refine (validCut_any ns ss cs _ _ _ _ _ _ _ _ _ (HC.out.below (by repeat (first | with_reducible exact HW.out | with_reducible exact Below.refl _ _ | with_reducible refine below_drewN ?_ _ | with_reducible refine Below.drew ?_ | (with_reducible refine Below.setCell ?_ (by first | exact Nat.le_refl _ | exact Nat.le_succ _ | (simp; done) | (simp; omega) | omega) _) | (with_reducible refine Below.alloc ?_ (by first | exact HW.out.size | (simp; done) | (simp; omega) | omega) _)))) hl3).mono ?_; rintro e w2 ⟨rfl, hB2⟩; rw [HQ.out]; have hZ : w1.heap.size < (w1.alloc (.cells #[.slice A ns.length c, .slice B ss.length d, .int .i64 ns.sum, .int .i64 ss.sum] 67)).heap.size := (by simp); have H0 := Lib.hid ((Below.heap_alloc w1 (.cells #[.slice A ns.length c, .slice B ss.length d, .int .i64 ns.sum, .int .i64 ss.sum] 67) _ z0).trans H0.out); have z0 := Nat.lt_trans z0 hZ; have b0 : World.cell? _ ⟨_, 0, none⟩ = some (.slice A ns.length c) := blk_cell H0.out 0 rfl; have b1 : World.cell? _ ⟨_, 1, none⟩ = some (.slice B ss.length d) := blk_cell H0.out 1 rfl; have H1 := Lib.hid ((Below.heap_alloc w1 (.cells #[.slice A ns.length c, .slice B ss.length d, .int .i64 ns.sum, .int .i64 ss.sum] 67) _ z1).trans H1.out); have z1 := Nat.lt_trans z1 hZ; have c0 : World.cell? _ ⟨_, 0, none⟩ = some (.slice none 0 0) := blk_cell H1.out 0 rfl; have c1 : World.cell? _ ⟨_, 1, none⟩ = some (.slice none 0 0) := blk_cell H1.out 1 rfl; have c2 : World.cell? _ ⟨_, 2, none⟩ = some (.int .i64 0) := blk_cell H1.out 2 rfl; have c3 : World.cell? _ ⟨_, 3, none⟩ = some (.int .i64 0) := blk_cell H1.out 3 rfl; have cf0 := blk_frozen H1.out 0; have cf1 := blk_frozen H1.out 1; have cf2 := blk_frozen H1.out 2; have cf3 := blk_frozen H1.out 3; have H2 := Lib.hid (heap_alloc_new w1 (.cells #[.slice A ns.length c, .slice B ss.length d, .int .i64 ns.sum, .int .i64 ss.sum] 67)); have z2 := hZ; have d0 : World.cell? _ ⟨_, 0, none⟩ = some (.slice A ns.length c) := blk_cell H2.out 0 rfl; have d1 : World.cell? _ ⟨_, 1, none⟩ = some (.slice B ss.length d) := blk_cell H2.out 1 rfl; have d2 : World.cell? _ ⟨_, 2, none⟩ = some (.int .i64 ns.sum) := blk_cell H2.out 2 rfl; have d3 : World.cell? _ ⟨_, 3, none⟩ = some (.int .i64 ss.sum) := blk_cell H2.out 3 rfl; have HW : Hid (Below w.heap.size w _) := Lib.hid (Below.alloc HW.out HW.out.size (.cells #[.slice A ns.length c, .slice B ss.length d, .int .i64 ns.sum, .int .i64 ss.sum] 67)); clear hZ; have H0 := Lib.hid ((hB2.block _ z0).trans H0.out); have z0 := Nat.lt_of_lt_of_le z0 hB2.size; have b0 : World.cell? _ ⟨_, 0, none⟩ = some (.slice A ns.length c) := blk_cell H0.out 0 rfl; have b1 : World.cell? _ ⟨_, 1, none⟩ = some (.slice B ss.length d) := blk_cell H0.out 1 rfl; have H1 := Lib.hid ((hB2.block _ z1).trans H1.out); have z1 := Nat.lt_of_lt_of_le z1 hB2.size; have c0 : World.cell? _ ⟨_, 0, none⟩ = some (.slice none 0 0) := blk_cell H1.out 0 rfl; have c1 : World.cell? _ ⟨_, 1, none⟩ = some (.slice none 0 0) := blk_cell H1.out 1 rfl; have c2 : World.cell? _ ⟨_, 2, none⟩ = some (.int .i64 0) := blk_cell H1.out 2 rfl; have c3 : World.cell? _ ⟨_, 3, none⟩ = some (.int .i64 0) := blk_cell H1.out 3 rfl; have cf0 := blk_frozen H1.out 0; have cf1 := blk_frozen H1.out 1; have cf2 := blk_frozen H1.out 2; have cf3 := blk_frozen H1.out 3; have H2 := Lib.hid ((hB2.block _ z2).trans H2.out); have z2 := Nat.lt_of_lt_of_le z2 hB2.size; have d0 : World.cell? _ ⟨_, 0, none⟩ = some (.slice A ns.length c) := blk_cell H2.out 0 rfl; have d1 : World.cell? _ ⟨_, 1, none⟩ = some (.slice B ss.length d) := blk_cell H2.out 1 rfl; have d2 : World.cell? _ ⟨_, 2, none⟩ = some (.int .i64 ns.sum) := blk_cell H2.out 2 rfl; have d3 : World.cell? _ ⟨_, 3, none⟩ = some (.int .i64 ss.sum) := blk_cell H2.out 3 rfl; have HW : Hid (Below w.heap.size w _) := Lib.hid (Below.trans (by first | exact HW.out | exact Below.drew HW.out | exact below_drewN HW.out _) (hB2.mono HW.out.size)); clear hB2))
  exact bodyPost_ret (v := .tuple #[.agg #[.slice none 0 0, .slice none 0 0, .int .i64 0, .int .i64 0], .int .i64 2]) (by simp [results, Try.results65, go_sem, cell_ao, z1, c0, c1, c2, c3, d0, d1, d2, d3]) rfl ⟨rfl, (by repeat (first | with_reducible exact HW.out | with_reducible exact Below.refl _ _ | with_reducible refine below_drewN ?_ _ | with_reducible refine Below.drew ?_ | (with_reducible refine Below.setCell ?_ (by first | exact Nat.le_refl _ | exact Nat.le_succ _ | (simp; done) | (simp; omega) | omega) _) | (with_reducible refine Below.alloc ?_ (by first | exact HW.out.size | (simp; done) | (simp; omega) | omega) _)))⟩

set_option maxRecDepth 100000 in
set_option maxHeartbeats 1000000 in
theorem withCut_yes (ns ss cs : List Int) (A B C : Option Addr) (c d e1 : Nat) (w : World) (hA : Ints w A ns) (hB : Ints w B ss) (hC : Ints w C cs) (hl3 : cs.length ≤ 1000) (hv : odB ns ss = true) (hq : cutB ns.length cs = true) :
    Calls Try.prog 65 #[.agg #[.slice A ns.length c, .slice B ss.length d], .slice C cs.length e1] w fun e w' => e = .returned (.tuple #[.agg #[.slice A ns.length c, .slice B ss.length d, .int .i64 ns.sum, .int .i64 ss.sum], .int .i64 0]) ∧ Below w.heap.size w w' := by
  have HC := Lib.hid hC
  have HQ := Lib.hid hq
  clear hC hq
  have HA := Lib.hid hA
  have HB := Lib.hid hB
  have HV := Lib.hid hv
  clear hA hB hv
  obtain ⟨W0, hW0, HW, H0, H1, z0, z1⟩ := two_new w #[.slice A ns.length c, .slice B ss.length d] #[.slice none 0 0, .slice none 0 0, .int .i64 0, .int .i64 0] 24 67
  go_enter Try.func65, Try.ntmps65
  go_wp2_with (first
    | (go_at_call 72; with_reducible refine (summed_yes ns ss _ _ _ _ _ (HA.out.below (by repeat (first | with_reducible exact Below.refl _ _ | with_reducible assumption | refine below_drewN ?_ _ | with_reducible refine Below.drew ?_ | (refine Below.setCell ?_ (by first | (simp; done) | (simp; omega) | omega) _) | (refine Below.alloc ?_ (by first | (simp; done) | (simp; omega) | omega) _)))) (HB.out.below (by repeat (first | with_reducible exact Below.refl _ _ | with_reducible assumption | refine below_drewN ?_ _ | with_reducible refine Below.drew ?_ | (refine Below.setCell ?_ (by first | (simp; done) | (simp; omega) | omega) _) | (refine Below.alloc ?_ (by first | (simp; done) | (simp; omega) | omega) _)))) HV.out).mono ?_; rintro e w1 ⟨rfl, hB1⟩; rw [← hW0] at hB1; have H0 := Lib.hid ((hB1.block _ z0).trans H0.out); have z0 := Nat.lt_of_lt_of_le z0 hB1.size; have b0 : World.cell? _ ⟨_, 0, none⟩ = some (.slice A ns.length c) := blk_cell H0.out 0 rfl; have b1 : World.cell? _ ⟨_, 1, none⟩ = some (.slice B ss.length d) := blk_cell H0.out 1 rfl; have H1 := Lib.hid ((hB1.block _ z1).trans H1.out); have z1 := Nat.lt_of_lt_of_le z1 hB1.size; have c0 : World.cell? _ ⟨_, 0, none⟩ = some (.slice none 0 0) := blk_cell H1.out 0 rfl; have c1 : World.cell? _ ⟨_, 1, none⟩ = some (.slice none 0 0) := blk_cell H1.out 1 rfl; have c2 : World.cell? _ ⟨_, 2, none⟩ = some (.int .i64 0) := blk_cell H1.out 2 rfl; have c3 : World.cell? _ ⟨_, 3, none⟩ = some (.int .i64 0) := blk_cell H1.out 3 rfl; have cf0 := blk_frozen H1.out 0; have cf1 := blk_frozen H1.out 1; have cf2 := blk_frozen H1.out 2; have cf3 := blk_frozen H1.out 3; have HW : Hid (Below w.heap.size w _) := Lib.hid (Below.trans (by first | exact HW.out | exact Below.drew HW.out | exact below_drewN HW.out _) (hB1.mono HW.out.size)); clear hB1)
    | (go_at_call 83; with_reducible refine (validCut_any ns ss cs _ _ _ _ _ _ _ _ _ (HC.out.below (by repeat (first | with_reducible exact HW.out | with_reducible exact Below.refl _ _ | with_reducible refine below_drewN ?_ _ | with_reducible refine Below.drew ?_ | (with_reducible refine Below.setCell ?_ (by first | exact Nat.le_refl _ | exact Nat.le_succ _ | (simp; done) | (simp; omega) | omega) _) | (with_reducible refine Below.alloc ?_ (by first | exact HW.out.size | (simp; done) | (simp; omega) | omega) _)))) hl3).mono ?_; rintro e w2 ⟨rfl, hB2⟩; rw [HQ.out]; have hZ : w1.heap.size < (w1.alloc (.cells #[.slice A ns.length c, .slice B ss.length d, .int .i64 ns.sum, .int .i64 ss.sum] 67)).heap.size := (by simp); have H0 := Lib.hid ((Below.heap_alloc w1 (.cells #[.slice A ns.length c, .slice B ss.length d, .int .i64 ns.sum, .int .i64 ss.sum] 67) _ z0).trans H0.out); have z0 := Nat.lt_trans z0 hZ; have b0 : World.cell? _ ⟨_, 0, none⟩ = some (.slice A ns.length c) := blk_cell H0.out 0 rfl; have b1 : World.cell? _ ⟨_, 1, none⟩ = some (.slice B ss.length d) := blk_cell H0.out 1 rfl; have H1 := Lib.hid ((Below.heap_alloc w1 (.cells #[.slice A ns.length c, .slice B ss.length d, .int .i64 ns.sum, .int .i64 ss.sum] 67) _ z1).trans H1.out); have z1 := Nat.lt_trans z1 hZ; have c0 : World.cell? _ ⟨_, 0, none⟩ = some (.slice none 0 0) := blk_cell H1.out 0 rfl; have c1 : World.cell? _ ⟨_, 1, none⟩ = some (.slice none 0 0) := blk_cell H1.out 1 rfl; have c2 : World.cell? _ ⟨_, 2, none⟩ = some (.int .i64 0) := blk_cell H1.out 2 rfl; have c3 : World.cell? _ ⟨_, 3, none⟩ = some (.int .i64 0) := blk_cell H1.out 3 rfl; have cf0 := blk_frozen H1.out 0; have cf1 := blk_frozen H1.out 1; have cf2 := blk_frozen H1.out 2; have cf3 := blk_frozen H1.out 3; have H2 := Lib.hid (heap_alloc_new w1 (.cells #[.slice A ns.length c, .slice B ss.length d, .int .i64 ns.sum, .int .i64 ss.sum] 67)); have z2 := hZ; have d0 : World.cell? _ ⟨_, 0, none⟩ = some (.slice A ns.length c) := blk_cell H2.out 0 rfl; have d1 : World.cell? _ ⟨_, 1, none⟩ = some (.slice B ss.length d) := blk_cell H2.out 1 rfl; have d2 : World.cell? _ ⟨_, 2, none⟩ = some (.int .i64 ns.sum) := blk_cell H2.out 2 rfl; have d3 : World.cell? _ ⟨_, 3, none⟩ = some (.int .i64 ss.sum) := blk_cell H2.out 3 rfl; have HW : Hid (Below w.heap.size w _) := Lib.hid (Below.alloc HW.out HW.out.size (.cells #[.slice A ns.length c, .slice B ss.length d, .int .i64 ns.sum, .int .i64 ss.sum] 67)); clear hZ; have H0 := Lib.hid ((hB2.block _ z0).trans H0.out); have z0 := Nat.lt_of_lt_of_le z0 hB2.size; have b0 : World.cell? _ ⟨_, 0, none⟩ = some (.slice A ns.length c) := blk_cell H0.out 0 rfl; have b1 : World.cell? _ ⟨_, 1, none⟩ = some (.slice B ss.length d) := blk_cell H0.out 1 rfl; have H1 := Lib.hid ((hB2.block _ z1).trans H1.out); have z1 := Nat.lt_of_lt_of_le z1 hB2.size; have c0 : World.cell? _ ⟨_, 0, none⟩ = some (.slice none 0 0) := blk_cell H1.out 0 rfl; have c1 : World.cell? _ ⟨_, 1, none⟩ = some (.slice none 0 0) := blk_cell H1.out 1 rfl; have c2 : World.cell? _ ⟨_, 2, none⟩ = some (.int .i64 0) := blk_cell H1.out 2 rfl; have c3 : World.cell? _ ⟨_, 3, none⟩ = some (.int .i64 0) := blk_cell H1.out 3 rfl; have cf0 := blk_frozen H1.out 0; have cf1 := blk_frozen H1.out 1; have cf2 := blk_frozen H1.out 2; have cf3 := blk_frozen H1.out 3; have H2 := Lib.hid ((hB2.block _ z2).trans H2.out); have z2 := Nat.lt_of_lt_of_le z2 hB2.size; have d0 : World.cell? _ ⟨_, 0, none⟩ = some (.slice A ns.length c) := blk_cell H2.out 0 rfl; have d1 : World.cell? _ ⟨_, 1, none⟩ = some (.slice B ss.length d) := blk_cell H2.out 1 rfl; have d2 : World.cell? _ ⟨_, 2, none⟩ = some (.int .i64 ns.sum) := blk_cell H2.out 2 rfl; have d3 : World.cell? _ ⟨_, 3, none⟩ = some (.int .i64 ss.sum) := blk_cell H2.out 3 rfl; have HW : Hid (Below w.heap.size w _) := Lib.hid (Below.trans (by first | exact HW.out | exact Below.drew HW.out | exact below_drewN HW.out _) (hB2.mono HW.out.size)); clear hB2))
  exact bodyPost_ret (v := .tuple #[.agg #[.slice A ns.length c, .slice B ss.length d, .int .i64 ns.sum, .int .i64 ss.sum], .int .i64 0]) (by simp [results, Try.results65, go_sem, cell_ao, z1, c0, c1, c2, c3, d0, d1, d2, d3]) rfl ⟨rfl, (by repeat (first | with_reducible exact HW.out | with_reducible exact Below.refl _ _ | with_reducible refine below_drewN ?_ _ | with_reducible refine Below.drew ?_ | (with_reducible refine Below.setCell ?_ (by first | exact Nat.le_refl _ | exact Nat.le_succ _ | (simp; done) | (simp; omega) | omega) _) | (with_reducible refine Below.alloc ?_ (by first | exact HW.out.size | (simp; done) | (simp; omega) | omega) _)))⟩

set_option maxRecDepth 100000 in
theorem asked_no (ns ss cs : List Int) (A B C : Option Addr) (c d e1 : Nat) (w : World) (hA : Ints w A ns) (hB : Ints w B ss) (hl : ns.length ≤ 1000) (hl2 : ss.length ≤ 1000) (hv : odB ns ss = false) :
    Calls Try.prog 68 #[.agg #[.slice A ns.length c, .slice B ss.length d], .slice C cs.length e1] w fun e w' => e = .returned (.int .i64 70) ∧ Below w.heap.size w w' := by
  have HA := Lib.hid hA
  have HB := Lib.hid hB
  have HV := Lib.hid hv
  clear hA hB hv
  obtain ⟨W0, hW0, HW, H0, z0⟩ := one_new w #[.slice A ns.length c, .slice B ss.length d] 24
  go_enter Try.func68, Try.ntmps68
  go_wp2_with (go_at_call 22; with_reducible refine (refValid_any ns ss _ _ _ _ _ (HA.out.below (by repeat (first | with_reducible exact Below.refl _ _ | with_reducible assumption | refine below_drewN ?_ _ | with_reducible refine Below.drew ?_ | (refine Below.setCell ?_ (by first | (simp; done) | (simp; omega) | omega) _) | (refine Below.alloc ?_ (by first | (simp; done) | (simp; omega) | omega) _)))) (HB.out.below (by repeat (first | with_reducible exact Below.refl _ _ | with_reducible assumption | refine below_drewN ?_ _ | with_reducible refine Below.drew ?_ | (refine Below.setCell ?_ (by first | (simp; done) | (simp; omega) | omega) _) | (refine Below.alloc ?_ (by first | (simp; done) | (simp; omega) | omega) _)))) hl hl2).mono ?_; rintro e w1 ⟨rfl, hB1⟩; rw [← hW0] at hB1; rw [HV.out]; have H0 := Lib.hid ((hB1.block _ z0).trans H0.out); have z0 := Nat.lt_of_lt_of_le z0 hB1.size; have b0 : World.cell? _ ⟨_, 0, none⟩ = some (.slice A ns.length c) := blk_cell H0.out 0 rfl; have b1 : World.cell? _ ⟨_, 1, none⟩ = some (.slice B ss.length d) := blk_cell H0.out 1 rfl; have HW : Hid (Below w.heap.size w _) := Lib.hid (Below.trans (by first | exact HW.out | exact Below.drew HW.out | exact below_drewN HW.out _) (hB1.mono HW.out.size)); clear hB1)
  go_ret
  exact ⟨rfl, (by repeat (first | with_reducible exact HW.out | with_reducible exact Below.refl _ _ | with_reducible refine below_drewN ?_ _ | with_reducible refine Below.drew ?_ | (with_reducible refine Below.setCell ?_ (by first | exact Nat.le_refl _ | exact Nat.le_succ _ | (simp; done) | (simp; omega) | omega) _) | (with_reducible refine Below.alloc ?_ (by first | exact HW.out.size | (simp; done) | (simp; omega) | omega) _)))⟩

set_option maxRecDepth 100000 in
theorem asked_arg (ns ss cs : List Int) (A B C : Option Addr) (c d e1 : Nat) (w : World) (hA : Ints w A ns) (hB : Ints w B ss) (hC : Ints w C cs) (hl3 : cs.length ≤ 1000) (hv : odB ns ss = true) (hq : cutB ns.length cs = false) :
    Calls Try.prog 68 #[.agg #[.slice A ns.length c, .slice B ss.length d], .slice C cs.length e1] w fun e w' => e = .returned (.int .i64 2) ∧ Below w.heap.size w w' := by
  have HC := Lib.hid hC
  have HQ := Lib.hid hq
  obtain ⟨hl, hl2⟩ := (od_of hv).l3
  clear hC hq
  have HA := Lib.hid hA
  have HB := Lib.hid hB
  have HV := Lib.hid hv
  clear hA hB hv
  obtain ⟨W0, hW0, HW, H0, z0⟩ := one_new w #[.slice A ns.length c, .slice B ss.length d] 24
  go_enter Try.func68, Try.ntmps68
  go_wp2_with (first
    | (go_at_call 22; with_reducible refine (refValid_any ns ss _ _ _ _ _ (HA.out.below (by repeat (first | with_reducible exact Below.refl _ _ | with_reducible assumption | refine below_drewN ?_ _ | with_reducible refine Below.drew ?_ | (refine Below.setCell ?_ (by first | (simp; done) | (simp; omega) | omega) _) | (refine Below.alloc ?_ (by first | (simp; done) | (simp; omega) | omega) _)))) (HB.out.below (by repeat (first | with_reducible exact Below.refl _ _ | with_reducible assumption | refine below_drewN ?_ _ | with_reducible refine Below.drew ?_ | (refine Below.setCell ?_ (by first | (simp; done) | (simp; omega) | omega) _) | (refine Below.alloc ?_ (by first | (simp; done) | (simp; omega) | omega) _)))) hl hl2).mono ?_; rintro e w1 ⟨rfl, hB1⟩; rw [← hW0] at hB1; rw [HV.out]; have H0 := Lib.hid ((hB1.block _ z0).trans H0.out); have z0 := Nat.lt_of_lt_of_le z0 hB1.size; have b0 : World.cell? _ ⟨_, 0, none⟩ = some (.slice A ns.length c) := blk_cell H0.out 0 rfl; have b1 : World.cell? _ ⟨_, 1, none⟩ = some (.slice B ss.length d) := blk_cell H0.out 1 rfl; have HW : Hid (Below w.heap.size w _) := Lib.hid (Below.trans (by first | exact HW.out | exact Below.drew HW.out | exact below_drewN HW.out _) (hB1.mono HW.out.size)); clear hB1)
    | (go_at_call 55; with_reducible refine (isCut_any ns ss cs _ _ _ _ _ _ _ (HC.out.below (by repeat (first | with_reducible exact HW.out | with_reducible exact Below.refl _ _ | with_reducible refine below_drewN ?_ _ | with_reducible refine Below.drew ?_ | (with_reducible refine Below.setCell ?_ (by first | exact Nat.le_refl _ | exact Nat.le_succ _ | (simp; done) | (simp; omega) | omega) _) | (with_reducible refine Below.alloc ?_ (by first | exact HW.out.size | (simp; done) | (simp; omega) | omega) _)))) hl3).mono ?_; rintro e w2 ⟨rfl, hB2⟩; rw [HQ.out]; have HW : Hid (Below w.heap.size w _) := Lib.hid (Below.trans (by first | exact HW.out | exact Below.drew HW.out | exact below_drewN HW.out _) (hB2.mono HW.out.size)); clear hB2))
  go_ret
  exact ⟨rfl, (by repeat (first | with_reducible exact HW.out | with_reducible exact Below.refl _ _ | with_reducible refine below_drewN ?_ _ | with_reducible refine Below.drew ?_ | (with_reducible refine Below.setCell ?_ (by first | exact Nat.le_refl _ | exact Nat.le_succ _ | (simp; done) | (simp; omega) | omega) _) | (with_reducible refine Below.alloc ?_ (by first | exact HW.out.size | (simp; done) | (simp; omega) | omega) _)))⟩

set_option maxRecDepth 100000 in
theorem asked_yes (ns ss cs : List Int) (A B C : Option Addr) (c d e1 : Nat) (w : World) (hA : Ints w A ns) (hB : Ints w B ss) (hC : Ints w C cs) (hl3 : cs.length ≤ 1000) (hv : odB ns ss = true) (hq : cutB ns.length cs = true) :
    Calls Try.prog 68 #[.agg #[.slice A ns.length c, .slice B ss.length d], .slice C cs.length e1] w fun e w' => e = .returned (.int .i64 0) ∧ Below w.heap.size w w' := by
  have HC := Lib.hid hC
  have HQ := Lib.hid hq
  obtain ⟨hl, hl2⟩ := (od_of hv).l3
  clear hC hq
  have HA := Lib.hid hA
  have HB := Lib.hid hB
  have HV := Lib.hid hv
  clear hA hB hv
  obtain ⟨W0, hW0, HW, H0, z0⟩ := one_new w #[.slice A ns.length c, .slice B ss.length d] 24
  go_enter Try.func68, Try.ntmps68
  go_wp2_with (first
    | (go_at_call 22; with_reducible refine (refValid_any ns ss _ _ _ _ _ (HA.out.below (by repeat (first | with_reducible exact Below.refl _ _ | with_reducible assumption | refine below_drewN ?_ _ | with_reducible refine Below.drew ?_ | (refine Below.setCell ?_ (by first | (simp; done) | (simp; omega) | omega) _) | (refine Below.alloc ?_ (by first | (simp; done) | (simp; omega) | omega) _)))) (HB.out.below (by repeat (first | with_reducible exact Below.refl _ _ | with_reducible assumption | refine below_drewN ?_ _ | with_reducible refine Below.drew ?_ | (refine Below.setCell ?_ (by first | (simp; done) | (simp; omega) | omega) _) | (refine Below.alloc ?_ (by first | (simp; done) | (simp; omega) | omega) _)))) hl hl2).mono ?_; rintro e w1 ⟨rfl, hB1⟩; rw [← hW0] at hB1; rw [HV.out]; have H0 := Lib.hid ((hB1.block _ z0).trans H0.out); have z0 := Nat.lt_of_lt_of_le z0 hB1.size; have b0 : World.cell? _ ⟨_, 0, none⟩ = some (.slice A ns.length c) := blk_cell H0.out 0 rfl; have b1 : World.cell? _ ⟨_, 1, none⟩ = some (.slice B ss.length d) := blk_cell H0.out 1 rfl; have HW : Hid (Below w.heap.size w _) := Lib.hid (Below.trans (by first | exact HW.out | exact Below.drew HW.out | exact below_drewN HW.out _) (hB1.mono HW.out.size)); clear hB1)
    | (go_at_call 55; with_reducible refine (isCut_any ns ss cs _ _ _ _ _ _ _ (HC.out.below (by repeat (first | with_reducible exact HW.out | with_reducible exact Below.refl _ _ | with_reducible refine below_drewN ?_ _ | with_reducible refine Below.drew ?_ | (with_reducible refine Below.setCell ?_ (by first | exact Nat.le_refl _ | exact Nat.le_succ _ | (simp; done) | (simp; omega) | omega) _) | (with_reducible refine Below.alloc ?_ (by first | exact HW.out.size | (simp; done) | (simp; omega) | omega) _)))) hl3).mono ?_; rintro e w2 ⟨rfl, hB2⟩; rw [HQ.out]; have HW : Hid (Below w.heap.size w _) := Lib.hid (Below.trans (by first | exact HW.out | exact Below.drew HW.out | exact below_drewN HW.out _) (hB2.mono HW.out.size)); clear hB2))
  go_ret
  exact ⟨rfl, (by repeat (first | with_reducible exact HW.out | with_reducible exact Below.refl _ _ | with_reducible refine below_drewN ?_ _ | with_reducible refine Below.drew ?_ | (with_reducible refine Below.setCell ?_ (by first | exact Nat.le_refl _ | exact Nat.le_succ _ | (simp; done) | (simp; omega) | omega) _) | (with_reducible refine Below.alloc ?_ (by first | exact HW.out.size | (simp; done) | (simp; omega) | omega) _)))⟩
end Go.Proofs.Ytolpbbabmcpdkaa

/-
  Plain words for the row: the order of outcomes, ranks, the list of ranks; nothing of the program.
-/
namespace Go.Proofs.Ytolpbbabmcpdkaa
open Go Go.RowKit

def empB (ns ss : List Int) (a : Nat) : Bool := decide (ns.getD a 0 = 0) && decide (ss.getD a 0 = 0)
/-- The signal of a, divided by its noise, is greater than that of b. -/
def gtB (ns ss : List Int) (a b : Nat) : Bool := decide (ss.getD b 0 * ns.getD a 0 < ss.getD a 0 * ns.getD b 0)
def befF (ea eb x y l : Bool) : Bool := if ea != eb then eb else if x then true else if y then false else l
/-- a comes before b in the row. -/
def befB (ns ss : List Int) (a b : Nat) : Bool := befF (empB ns ss a) (empB ns ss b) (gtB ns ss a b) (gtB ns ss b a) (decide (a < b))
def rankN (ns ss : List Int) (a : Nat) : Nat := (List.range ns.length).countP (fun b => befB ns ss b a)

theorem befF_ff {x y l : Bool} : befF false false x y l = true ↔ (x = true ∨ (x = false ∧ y = false ∧ l = true)) := by cases x <;> cases y <;> cases l <;> decide
theorem befF_tt {x y l : Bool} : befF true true x y l = true ↔ (x = true ∨ (x = false ∧ y = false ∧ l = true)) := by cases x <;> cases y <;> cases l <;> decide
theorem befF_ft {x y l : Bool} : befF false true x y l = true := by cases x <;> cases y <;> cases l <;> decide
theorem befF_tf {x y l : Bool} : befF true false x y l = false := by cases x <;> cases y <;> cases l <;> decide
theorem gt_irr (ns ss : List Int) (a : Nat) : gtB ns ss a a = false := by unfold gtB; exact decide_eq_false (by omega)
theorem bef_irr (ns ss : List Int) (a : Nat) : befB ns ss a a = false := by
  unfold befB
  rw [gt_irr, decide_eq_false (by omega : ¬ a < a)]
  cases empB ns ss a <;> rfl
theorem gt_asym {ns ss : List Int} {a b : Nat} (h : gtB ns ss a b = true) : gtB ns ss b a = false := by
  unfold gtB at *
  have := of_decide_eq_true h
  exact decide_eq_false (by omega)
theorem bef_tot (ns ss : List Int) {a b : Nat} (h : a ≠ b) : befB ns ss a b = true ∨ befB ns ss b a = true := by
  unfold befB
  have hl : (decide (a < b) = true ∧ decide (b < a) = false) ∨ (decide (a < b) = false ∧ decide (b < a) = true) := by
    rcases Nat.lt_or_gt_of_ne h with q | q
    · exact .inl ⟨decide_eq_true q, decide_eq_false (by omega)⟩
    · exact .inr ⟨decide_eq_false (by omega), decide_eq_true q⟩
  rcases hl with ⟨e1, e2⟩ | ⟨e1, e2⟩ <;> rw [e1, e2] <;> cases empB ns ss a <;> cases empB ns ss b <;> cases gtB ns ss a b <;> cases gtB ns ss b a <;> decide
theorem bef_asym {ns ss : List Int} {a b : Nat} (h : befB ns ss a b = true) : befB ns ss b a = false := by
  have g1 := fun q => gt_asym (ns := ns) (ss := ss) (a := a) (b := b) q
  have hl : decide (a < b) = true → decide (b < a) = false := fun q => by
    have := of_decide_eq_true q
    exact decide_eq_false (by omega)
  unfold befB at *
  revert h g1 hl
  cases empB ns ss a <;> cases empB ns ss b <;> cases gtB ns ss a b <;> cases gtB ns ss b a <;> cases decide (a < b) <;> cases decide (b < a) <;> simp [befF]

/-! fractions -/
theorem frac_trans {s t s' t' s'' t'' : Int} (h0 : 0 < t) (h1 : 0 < t') (h2 : 0 < t'') (h : s' * t ≤ s * t') (k : s'' * t' ≤ s' * t'') :
    s'' * t ≤ s * t'' ∧ (s'' * t = s * t'' → s' * t = s * t' ∧ s'' * t' = s' * t'') := by
  have e1 : s' * t * t'' ≤ s * t' * t'' := Int.mul_le_mul_of_nonneg_right h (by omega)
  have e2 : s'' * t' * t ≤ s' * t'' * t := Int.mul_le_mul_of_nonneg_right k (by omega)
  have e3 : s' * t * t'' = s' * t'' * t := by rw [Int.mul_right_comm]
  have e4 : s'' * t' * t = s'' * t * t' := by rw [Int.mul_right_comm]
  have e5 : s * t' * t'' = s * t'' * t' := by rw [Int.mul_right_comm]
  have m : s'' * t * t' ≤ s * t'' * t' := by omega
  refine ⟨Int.le_of_mul_le_mul_right m h1, fun he => ?_⟩
  have m2 : s'' * t * t' = s * t'' * t' := by rw [he]
  constructor
  · have : s' * t * t'' = s * t' * t'' := by omega
    exact Int.eq_of_mul_eq_mul_right (by omega) this
  · have : s'' * t' * t = s' * t'' * t := by omega
    exact Int.eq_of_mul_eq_mul_right (by omega) this
theorem gt_frac {s n s' n' : Int} : (s' * n < s * n') ↔ (s' * (n + s) < s * (n' + s')) := by
  rw [Int.mul_add, Int.mul_add, Int.mul_comm s' s]; omega
def totV (ns ss : List Int) (a : Nat) : Int := ns.getD a 0 + ss.getD a 0
theorem gt_iff {ns ss : List Int} {a b : Nat} : gtB ns ss a b = true ↔ ss.getD b 0 * totV ns ss a < ss.getD a 0 * totV ns ss b := by
  unfold gtB totV
  rw [decide_eq_true_iff]; exact gt_frac
theorem gt_not {ns ss : List Int} {a b : Nat} : gtB ns ss a b = false ↔ ss.getD a 0 * totV ns ss b ≤ ss.getD b 0 * totV ns ss a := by
  rw [← Bool.not_eq_true, gt_iff]; omega
theorem bef_trans {ns ss : List Int} (hn : ∀ a, 0 ≤ ns.getD a 0) (hs : ∀ a, 0 ≤ ss.getD a 0) {a b c : Nat} (h : befB ns ss a b = true) (k : befB ns ss b c = true) : befB ns ss a c = true := by
  unfold befB at *
  have emp : ∀ x, empB ns ss x = true → ns.getD x 0 = 0 ∧ ss.getD x 0 = 0 := by
    intro x hx
    unfold empB at hx
    rw [Bool.and_eq_true, decide_eq_true_iff, decide_eq_true_iff] at hx
    exact hx
  have pos : ∀ x, empB ns ss x = false → 0 < totV ns ss x := by
    intro x hx
    unfold empB at hx
    rw [Bool.and_eq_false_iff, decide_eq_false_iff_not, decide_eq_false_iff_not] at hx
    have := hn x; have := hs x
    unfold totV; omega
  have hl : ∀ x y : Nat, decide (x < y) = true ↔ x < y := fun x y => decide_eq_true_iff
  cases ea : empB ns ss a
  · cases ec : empB ns ss c
    · cases eb : empB ns ss b
      · rw [ea, eb, befF_ff, hl] at h
        rw [eb, ec, befF_ff, hl] at k
        rw [befF_ff, hl]
        rw [gt_iff, gt_not, gt_not] at *
        have pa := pos a ea
        have pb := pos b eb
        have pc := pos c ec
        obtain ⟨m1, m2⟩ := frac_trans pa pb pc (s := ss.getD a 0) (s' := ss.getD b 0) (s'' := ss.getD c 0) (by omega) (by omega)
        by_cases q : ss.getD c 0 * totV ns ss a < ss.getD a 0 * totV ns ss c
        · exact .inl q
        · have q1 : ss.getD c 0 * totV ns ss a = ss.getD a 0 * totV ns ss c := by omega
          have := m2 q1
          right
          omega
      · rw [eb, ec, befF_tf] at k; cases k
    · exact befF_ft
  · cases eb : empB ns ss b
    · rw [ea, eb, befF_tf] at h; cases h
    · cases ec : empB ns ss c
      · rw [eb, ec, befF_tf] at k; cases k
      · rw [ea, eb, befF_tt, hl] at h
        rw [eb, ec, befF_tt, hl] at k
        rw [befF_tt, hl]
        rw [gt_iff, gt_not, gt_not] at *
        have za := emp a ea
        have zb := emp b eb
        have zc := emp c ec
        simp only [totV, za.1, za.2, zb.1, zb.2, zc.1, zc.2, Int.zero_mul, Int.add_zero] at *
        omega

theorem countP_lt {α : Type} {p q : α → Bool} {l : List α} (h : ∀ x ∈ l, p x = true → q x = true) {x : α} (hx : x ∈ l) (h1 : p x = false) (h2 : q x = true) : l.countP p < l.countP q := by
  obtain ⟨s, t, rfl⟩ := List.append_of_mem hx
  have e1 := List.countP_mono_left (l := s) (p := p) (q := q) (fun y hy => h y (by simp [hy]))
  have e2 := List.countP_mono_left (l := t) (p := p) (q := q) (fun y hy => h y (by simp [hy]))
  simp only [List.countP_append, List.countP_cons, h1, h2]
  simp
  omega
section
variable {ns ss : List Int} (hn : ∀ a, 0 ≤ ns.getD a 0) (hs : ∀ a, 0 ≤ ss.getD a 0)
include hn hs
theorem rank_lt {a b : Nat} (ha : a < ns.length) (h : befB ns ss a b = true) : rankN ns ss a < rankN ns ss b :=
  countP_lt (fun _ _ hx => bef_trans hn hs hx h) (List.mem_range.2 ha) (bef_irr ns ss a) h
theorem rank_iff {a b : Nat} (ha : a < ns.length) (hb : b < ns.length) : befB ns ss a b = true ↔ rankN ns ss a < rankN ns ss b := by
  refine ⟨rank_lt hn hs ha, fun h => ?_⟩
  by_cases e : a = b
  · subst e; omega
  · rcases bef_tot ns ss e with h1 | h1
    · exact h1
    · have := rank_lt hn hs hb h1; omega
theorem rank_inj {a b : Nat} (ha : a < ns.length) (hb : b < ns.length) (h : rankN ns ss a = rankN ns ss b) : a = b := by
  by_cases e : a = b
  · exact e
  · rcases bef_tot ns ss e with h1 | h1
    · have := rank_lt hn hs ha h1; omega
    · have := rank_lt hn hs hb h1; omega
omit hn hs in
theorem rank_bd {a : Nat} (ha : a < ns.length) : rankN ns ss a < ns.length := by
  have h : (List.range ns.length).countP (fun b => befB ns ss b a) < (List.range ns.length).countP (fun _ => true) :=
    countP_lt (fun _ _ _ => rfl) (List.mem_range.2 ha) (bef_irr ns ss a) rfl
  simpa [rankN] using h
/-- In a list of all outcomes that ascends by rank each stands at its rank. -/
theorem rank_at {ys : List Nat} (hp : ys.Perm (List.range ns.length)) (hsr : ys.Pairwise (fun a b => rankN ns ss a ≤ rankN ns ss b)) {i : Nat} {a : Nat} (ha : ys[i]? = some a) : rankN ns ss a = i := by
  have hmem : ∀ x ∈ ys, x < ns.length := fun x hx => List.mem_range.1 (hp.mem_iff.1 hx)
  have hnd : ys.Nodup := hp.nodup_iff.2 List.nodup_range
  have hi : i < ys.length := by
    rcases Nat.lt_or_ge i ys.length with h | h
    · exact h
    · rw [List.getElem?_eq_none h] at ha; cases ha
  have e : ys = ys.take i ++ a :: ys.drop (i + 1) := by
    have h1 : ys.drop i = a :: ys.drop (i + 1) := by
      rw [List.drop_eq_getElem_cons hi]
      rw [List.getElem?_eq_getElem hi] at ha
      injection ha with ha; rw [ha]
    rw [← h1, List.take_append_drop]
  have hc : rankN ns ss a = ys.countP (fun b => befB ns ss b a) := (hp.countP_eq _).symm
  have hm := hmem a (List.mem_of_getElem? ha)
  rw [hc, e, List.countP_append, List.countP_cons]
  rw [e] at hsr hnd hmem
  have q := List.pairwise_append.1 hsr
  have q2 := List.pairwise_cons.1 q.2.1
  have nd := List.nodup_append.1 hnd
  have n1 : (ys.take i).countP (fun b => befB ns ss b a) = (ys.take i).length := by
    rw [List.countP_eq_length]
    intro x hx
    have hxa : x ≠ a := fun he => nd.2.2 x hx a (by simp) he
    have hxl : x < ns.length := hmem x (by simp [hx])
    rw [rank_iff hn hs hxl hm]
    have h1 := q.2.2 x hx a (by simp)
    have h2 : rankN ns ss x ≠ rankN ns ss a := fun he => hxa (rank_inj hn hs hxl hm he)
    omega
  have n2 : (ys.drop (i + 1)).countP (fun b => befB ns ss b a) = 0 := by
    rw [List.countP_eq_zero]
    intro x hx
    have hxl : x < ns.length := hmem x (by simp [hx])
    rw [rank_iff hn hs hxl hm]
    have := q2.1 x hx
    omega
  rw [n1, n2, bef_irr, List.length_take]
  simp
  omega
end
/-- The row. -/
def rowN (ns ss : List Int) : List Nat := (List.range ns.length).mergeSort (fun a b => decide (rankN ns ss a ≤ rankN ns ss b))
def rowL (ns ss : List Int) : List Int := (rowN ns ss).map Int.ofNat
theorem row_perm (ns ss : List Int) : (rowN ns ss).Perm (List.range ns.length) := List.mergeSort_perm _ _
theorem row_len (ns ss : List Int) : (rowN ns ss).length = ns.length := by simp [rowN]
theorem rowL_len (ns ss : List Int) : (rowL ns ss).length = ns.length := by simp [rowL, row_len]
theorem row_sorted (ns ss : List Int) : (rowN ns ss).Pairwise (fun a b => rankN ns ss a ≤ rankN ns ss b) := by
  have h := List.pairwise_mergeSort (le := fun a b => decide (rankN ns ss a ≤ rankN ns ss b)) (by intro a b c h1 h2; simp only [decide_eq_true_eq] at *; omega) (by intro a b; simp only [Bool.or_eq_true, decide_eq_true_eq]; omega) (List.range ns.length)
  exact h.imp (fun h => by simpa using h)
theorem row_mem {ns ss : List Int} {a : Nat} : a ∈ rowN ns ss ↔ a < ns.length := by rw [(row_perm ns ss).mem_iff, List.mem_range]
section
variable {ns ss : List Int} (hn : ∀ a, 0 ≤ ns.getD a 0) (hs : ∀ a, 0 ≤ ss.getD a 0)
include hn hs
theorem row_rank {i a : Nat} (h : (rowN ns ss)[i]? = some a) : rankN ns ss a = i := rank_at hn hs (row_perm ns ss) (row_sorted ns ss) h
/-- The row, told by where each outcome stands. -/
theorem row_eq {ys : List Nat} (hl : ys.length = ns.length) (h : ∀ a, a < ns.length → ys[rankN ns ss a]? = some a) : ys = rowN ns ss := by
  apply List.ext_getElem?
  intro i
  by_cases hi : i < ns.length
  · obtain ⟨a, ha⟩ := getElem?_of_lt (zs := rowN ns ss) (k := i) (by rw [row_len]; exact hi)
    have hr := row_rank hn hs ha
    have hm : a < ns.length := row_mem.1 (List.mem_of_getElem? ha)
    rw [ha, ← hr]
    exact h a hm
  · rw [List.getElem?_eq_none (by omega), List.getElem?_eq_none (by rw [row_len]; omega)]
theorem row_of {ys : List Nat} (hp : ys.Perm (List.range ns.length)) (hsr : ys.Pairwise (fun a b => rankN ns ss a ≤ rankN ns ss b)) : ys = rowN ns ss := by
  have hl : ys.length = ns.length := by simpa using hp.length_eq
  refine row_eq hn hs hl (fun a ha => ?_)
  obtain ⟨i, hi⟩ := List.getElem?_of_mem (hp.mem_iff.2 (List.mem_range.2 ha))
  rw [rank_at hn hs hp hsr hi, hi]
theorem row_gt {i j a b : Nat} (hij : i < j) (ha : (rowN ns ss)[i]? = some a) (hb : (rowN ns ss)[j]? = some b) : befB ns ss a b = true := by
  have h1 := row_rank hn hs ha
  have h2 := row_rank hn hs hb
  rw [rank_iff hn hs (row_mem.1 (List.mem_of_getElem? ha)) (row_mem.1 (List.mem_of_getElem? hb))]
  omega
end
/-- What comes before has no lesser ratio. -/
theorem bef_le {ns ss : List Int} {a b : Nat} (h : befB ns ss a b = true) : ss.getD b 0 * ns.getD a 0 ≤ ss.getD a 0 * ns.getD b 0 := by
  unfold befB at h
  have g : ∀ x y, gtB ns ss x y = true → ss.getD y 0 * ns.getD x 0 < ss.getD x 0 * ns.getD y 0 := fun x y q => of_decide_eq_true q
  have g' : ∀ x y, gtB ns ss x y = false → ¬ ss.getD y 0 * ns.getD x 0 < ss.getD x 0 * ns.getD y 0 := fun x y q => of_decide_eq_false q
  cases ea : empB ns ss a <;> cases eb : empB ns ss b <;> rw [ea, eb] at h
  · rcases befF_ff.1 h with q | ⟨_, q, _⟩
    · have := g _ _ q; omega
    · have := g' _ _ q; omega
  · unfold empB at eb
    rw [Bool.and_eq_true, decide_eq_true_iff, decide_eq_true_iff] at eb
    rw [eb.1, eb.2]; omega
  · rw [befF_tf] at h; cases h
  · rcases befF_tt.1 h with q | ⟨_, q, _⟩
    · have := g _ _ q; omega
    · have := g' _ _ q; omega
end Go.Proofs.Ytolpbbabmcpdkaa

/-
  Contracts: before, empty (weigh), ahead, nothing (firnref07), cmp.Compare.
-/
namespace Go.Proofs.Ytolpbbabmcpdkaa
open Go.RowKit

theorem mul_bd {a b A B : Int} (ha : 0 ≤ a) (hA : a ≤ A) (hb : 0 ≤ b) (hB : b ≤ B) : 0 ≤ a * b ∧ a * b ≤ A * B :=
  ⟨Int.mul_nonneg ha hb, Int.mul_le_mul hA hB hb (by omega)⟩
/-- The weights of an outcome. -/
theorem Od.at_ {ns ss : List Int} (h : Od ns ss) {w : World} {A B : Option Addr} (hA : Ints w A ns) (hB : Ints w B ss) {a : Nat} (ha : a < ns.length) :
    ∃ (ad bd : Addr) (x y : Int), A = some ad ∧ B = some bd ∧ w.cell? (ad.add a) = some (.int .i64 x) ∧ w.cell? (bd.add a) = some (.int .i64 y) ∧ Hid (ns.getD a 0 = x) ∧ Hid (ss.getD a 0 = y) ∧ 0 ≤ x ∧ x ≤ 1000 ∧ 0 ≤ y ∧ y ≤ 1000 := by
  obtain ⟨ad, x, e1, _, h1, c1⟩ := hA.get ha
  obtain ⟨bd, y, e2, _, h2, c2⟩ := hB.get (show a < ss.length by rw [← h.len]; exact ha)
  have b1 := h.nb x (List.mem_of_getElem? h1.out)
  have b2 := h.sb y (List.mem_of_getElem? h2.out)
  exact ⟨ad, bd, x, y, e1, e2, c1, c2, getD_of h1.out, getD_of h2.out, b1.1, b1.2, b2.1, b2.2⟩
def cmpV (x y : Int) : Int := if x < y then -1 else if y < x then 1 else 0
set_option maxRecDepth 100000 in
theorem compare_any (x y : Int) (w : World) :
    Calls Try.prog 108 #[.int .i64 x, .int .i64 y] w fun e w' => e = .returned (.int .i64 (cmpV x y)) ∧ w = w' := by
  have HN : Hid (∀ z : Int, (z != z) = false) := Lib.hid (fun z => by simp)
  have CN : Hid (∀ (z : Int) (W : World), Calls Try.prog 126 #[.int .i64 z] W fun e w' => e = .returned (.bool false) ∧ W = w') := Lib.hid (by
    intro z W
    have t := HN.out z
    go_enter Try.func126, Try.ntmps126
    go_wp2
    go_ret
    exact ⟨ret_bool (by simp), rfl⟩)
  by_cases h1 : x < y
  · have t1 : decide (x < y) = true := decide_eq_true h1
    have HR : Hid (cmpV x y = -1) := Lib.hid (if_pos h1)
    go_enter Try.func108, Try.ntmps108
    go_wp2_with (go_at_call 126; first | (with_reducible refine (CN.out x _).mono ?_; rintro e w1 ⟨rfl, rfl⟩) | (with_reducible refine (CN.out y _).mono ?_; rintro e w1 ⟨rfl, rfl⟩))
    go_ret
    exact ⟨ret_int HR.out.symm, rfl⟩
  · have t1 : decide (x < y) = false := decide_eq_false h1
    by_cases h2 : y < x
    · have t2 : decide (y < x) = true := decide_eq_true h2
      have HR : Hid (cmpV x y = 1) := Lib.hid (by unfold cmpV; rw [if_neg h1, if_pos h2])
      go_enter Try.func108, Try.ntmps108
      go_wp2_with (go_at_call 126; first | (with_reducible refine (CN.out x _).mono ?_; rintro e w1 ⟨rfl, rfl⟩) | (with_reducible refine (CN.out y _).mono ?_; rintro e w1 ⟨rfl, rfl⟩))
      go_ret
      exact ⟨ret_int HR.out.symm, rfl⟩
    · have t2 : decide (y < x) = false := decide_eq_false h2
      have HR : Hid (cmpV x y = 0) := Lib.hid (by unfold cmpV; rw [if_neg h1, if_neg h2])
      go_enter Try.func108, Try.ntmps108
      go_wp2_with (go_at_call 126; first | (with_reducible refine (CN.out x _).mono ?_; rintro e w1 ⟨rfl, rfl⟩) | (with_reducible refine (CN.out y _).mono ?_; rintro e w1 ⟨rfl, rfl⟩))
      go_ret
      exact ⟨ret_int HR.out.symm, rfl⟩

set_option maxRecDepth 100000 in
set_option maxHeartbeats 1000000 in
theorem before_any (ns ss : List Int) (A B : Option Addr) (c d : Nat) (ho : Od ns ss) (a b : Nat) (ha : a < ns.length) (hb : b < ns.length) (w : World) (hA : Ints w A ns) (hB : Ints w B ss) :
    Calls Try.prog 111 #[.agg #[.slice A ns.length c, .slice B ss.length d, .int .i64 ns.sum, .int .i64 ss.sum], .int .i64 a, .int .i64 b] w fun e w' => e = .returned (.bool (gtB ns ss a b)) ∧ Below w.heap.size w w' := by
  obtain ⟨W0, hW0, HW, H0, z0⟩ := one_new w #[.slice A ns.length c, .slice B ss.length d, .int .i64 ns.sum, .int .i64 ss.sum] 67
  obtain ⟨ad, bd, x, y, rfl, rfl, c1, c2, e1, e2, x0, x1, y0, y1⟩ := ho.at_ (hA.below HW.out) (hB.below HW.out) ha
  obtain ⟨ad', bd', u, v, r1, r2, c3, c4, e3, e4, u0, u1, v0, v1⟩ := ho.at_ (hA.below HW.out) (hB.below HW.out) hb
  obtain rfl := Option.some.inj r1
  obtain rfl := Option.some.inj r2
  have HR : Hid (gtB ns ss a b = decide (v * x < y * u)) := Lib.hid (by unfold gtB; rw [e1.out, e2.out, e3.out, e4.out])
  obtain ⟨m0, m1⟩ := mul_bd y0 y1 u0 u1
  obtain ⟨m2, m3⟩ := mul_bd v0 v1 x0 x1
  have hl := ho.len
  have hb2 : b < ss.length := by omega
  have ha2 : a < ss.length := by omega
  have b0 : W0.cell? ⟨w.heap.size, 0, none⟩ = some (.slice (some ad) ns.length c) := blk_cell H0.out 0 rfl
  have b1 : W0.cell? ⟨w.heap.size, 1, none⟩ = some (.slice (some bd) ss.length d) := blk_cell H0.out 1 rfl
  have b2 : W0.cell? ⟨w.heap.size, 2, none⟩ = some (.int .i64 ns.sum) := blk_cell H0.out 2 rfl
  have b3 : W0.cell? ⟨w.heap.size, 3, none⟩ = some (.int .i64 ss.sum) := blk_cell H0.out 3 rfl
  clear r1 r2 hl hA hB
  go_enter Try.func111, Try.ntmps111
  go_wp2
  rw [← hW0]
  clear hW0
  go_quiet (fail)
  go_wp2
  go_ret
  exact ⟨ret_bool HR.out.symm, (by repeat (first | with_reducible exact HW.out | with_reducible exact Below.refl _ _ | with_reducible refine below_drewN ?_ _ | with_reducible refine Below.drew ?_ | (with_reducible refine Below.setCell ?_ (by first | exact Nat.le_refl _ | exact Nat.le_succ _ | (simp; done) | (simp; omega) | omega) _) | (with_reducible refine Below.alloc ?_ (by first | exact HW.out.size | (simp; done) | (simp; omega) | omega) _)))⟩

set_option maxRecDepth 100000 in
set_option maxHeartbeats 1000000 in
theorem ahead_any (ns ss : List Int) (A B : Option Addr) (c d : Nat) (ho : Od ns ss) (a b : Nat) (ha : a < ns.length) (hb : b < ns.length) (w : World) (hA : Ints w A ns) (hB : Ints w B ss) :
    Calls Try.prog 92 #[.agg #[.slice A ns.length c, .slice B ss.length d], .int .i64 a, .int .i64 b] w fun e w' => e = .returned (.bool (gtB ns ss a b)) ∧ Below w.heap.size w w' := by
  obtain ⟨W0, hW0, HW, H0, z0⟩ := one_new w #[.slice A ns.length c, .slice B ss.length d] 24
  obtain ⟨ad, bd, x, y, rfl, rfl, c1, c2, e1, e2, x0, x1, y0, y1⟩ := ho.at_ (hA.below HW.out) (hB.below HW.out) ha
  obtain ⟨ad', bd', u, v, r1, r2, c3, c4, e3, e4, u0, u1, v0, v1⟩ := ho.at_ (hA.below HW.out) (hB.below HW.out) hb
  obtain rfl := Option.some.inj r1
  obtain rfl := Option.some.inj r2
  have HR : Hid (gtB ns ss a b = decide (v * x < y * u)) := Lib.hid (by unfold gtB; rw [e1.out, e2.out, e3.out, e4.out])
  obtain ⟨m0, m1⟩ := mul_bd y0 y1 u0 u1
  obtain ⟨m2, m3⟩ := mul_bd v0 v1 x0 x1
  have hl := ho.len
  have hb2 : b < ss.length := by omega
  have ha2 : a < ss.length := by omega
  have b0 : W0.cell? ⟨w.heap.size, 0, none⟩ = some (.slice (some ad) ns.length c) := blk_cell H0.out 0 rfl
  have b1 : W0.cell? ⟨w.heap.size, 1, none⟩ = some (.slice (some bd) ss.length d) := blk_cell H0.out 1 rfl
  clear r1 r2 hl hA hB
  go_enter Try.func92, Try.ntmps92
  go_wp2
  rw [← hW0]
  clear hW0
  go_quiet (fail)
  go_wp2
  go_ret
  exact ⟨ret_bool HR.out.symm, (by repeat (first | with_reducible exact HW.out | with_reducible exact Below.refl _ _ | with_reducible refine below_drewN ?_ _ | with_reducible refine Below.drew ?_ | (with_reducible refine Below.setCell ?_ (by first | exact Nat.le_refl _ | exact Nat.le_succ _ | (simp; done) | (simp; omega) | omega) _) | (with_reducible refine Below.alloc ?_ (by first | exact HW.out.size | (simp; done) | (simp; omega) | omega) _)))⟩

set_option maxRecDepth 100000 in
set_option maxHeartbeats 1000000 in
theorem empty_any (ns ss : List Int) (A B : Option Addr) (c d : Nat) (ho : Od ns ss) (a : Nat) (ha : a < ns.length) (w : World) (hA : Ints w A ns) (hB : Ints w B ss) :
    Calls Try.prog 114 #[.agg #[.slice A ns.length c, .slice B ss.length d, .int .i64 ns.sum, .int .i64 ss.sum], .int .i64 a] w fun e w' => e = .returned (.bool (empB ns ss a)) ∧ Below w.heap.size w w' := by
  obtain ⟨W0, hW0, HW, H0, z0⟩ := one_new w #[.slice A ns.length c, .slice B ss.length d, .int .i64 ns.sum, .int .i64 ss.sum] 67
  obtain ⟨ad, bd, x, y, rfl, rfl, c1, c2, e1, e2, x0, x1, y0, y1⟩ := ho.at_ (hA.below HW.out) (hB.below HW.out) ha
  have HR : Hid (empB ns ss a = (decide (x = 0) && decide (y = 0))) := Lib.hid (by unfold empB; rw [e1.out, e2.out])
  have hl := ho.len
  have ha2 : a < ss.length := by omega
  have b0 : W0.cell? ⟨w.heap.size, 0, none⟩ = some (.slice (some ad) ns.length c) := blk_cell H0.out 0 rfl
  have b1 : W0.cell? ⟨w.heap.size, 1, none⟩ = some (.slice (some bd) ss.length d) := blk_cell H0.out 1 rfl
  have b2 : W0.cell? ⟨w.heap.size, 2, none⟩ = some (.int .i64 ns.sum) := blk_cell H0.out 2 rfl
  have b3 : W0.cell? ⟨w.heap.size, 3, none⟩ = some (.int .i64 ss.sum) := blk_cell H0.out 3 rfl
  clear hl hA hB
  subst hW0
  go_enter Try.func114, Try.ntmps114
  by_cases h1 : x = 0
  · have t1 : (x == 0) = true := by simp [h1]
    have HT : Hid (empB ns ss a = (y == 0)) := Lib.hid (by rw [HR.out, decide_eq_true h1]; simp; rfl)
    clear h1
    go_wp2
    go_ret
    exact ⟨ret_bool HT.out.symm, (by repeat (first | with_reducible exact HW.out | with_reducible exact Below.refl _ _ | with_reducible refine below_drewN ?_ _ | with_reducible refine Below.drew ?_ | (with_reducible refine Below.setCell ?_ (by first | exact Nat.le_refl _ | exact Nat.le_succ _ | (simp; done) | (simp; omega) | omega) _) | (with_reducible refine Below.alloc ?_ (by first | exact HW.out.size | (simp; done) | (simp; omega) | omega) _)))⟩
  · have t1 : (x == 0) = false := by simp [h1]
    have HT : Hid (empB ns ss a = false) := Lib.hid (by rw [HR.out, decide_eq_false h1]; simp)
    clear h1
    go_wp2
    go_ret
    exact ⟨ret_bool HT.out.symm, (by repeat (first | with_reducible exact HW.out | with_reducible exact Below.refl _ _ | with_reducible refine below_drewN ?_ _ | with_reducible refine Below.drew ?_ | (with_reducible refine Below.setCell ?_ (by first | exact Nat.le_refl _ | exact Nat.le_succ _ | (simp; done) | (simp; omega) | omega) _) | (with_reducible refine Below.alloc ?_ (by first | exact HW.out.size | (simp; done) | (simp; omega) | omega) _)))⟩

set_option maxRecDepth 100000 in
set_option maxHeartbeats 1000000 in
theorem nothing_any (ns ss : List Int) (A B : Option Addr) (c d : Nat) (ho : Od ns ss) (a : Nat) (ha : a < ns.length) (w : World) (hA : Ints w A ns) (hB : Ints w B ss) :
    Calls Try.prog 104 #[.agg #[.slice A ns.length c, .slice B ss.length d], .int .i64 a] w fun e w' => e = .returned (.bool (empB ns ss a)) ∧ Below w.heap.size w w' := by
  obtain ⟨W0, hW0, HW, H0, z0⟩ := one_new w #[.slice A ns.length c, .slice B ss.length d] 24
  obtain ⟨ad, bd, x, y, rfl, rfl, c1, c2, e1, e2, x0, x1, y0, y1⟩ := ho.at_ (hA.below HW.out) (hB.below HW.out) ha
  have HR : Hid (empB ns ss a = (decide (x = 0) && decide (y = 0))) := Lib.hid (by unfold empB; rw [e1.out, e2.out])
  have hl := ho.len
  have ha2 : a < ss.length := by omega
  have b0 : W0.cell? ⟨w.heap.size, 0, none⟩ = some (.slice (some ad) ns.length c) := blk_cell H0.out 0 rfl
  have b1 : W0.cell? ⟨w.heap.size, 1, none⟩ = some (.slice (some bd) ss.length d) := blk_cell H0.out 1 rfl
  clear hl hA hB
  subst hW0
  go_enter Try.func104, Try.ntmps104
  by_cases h1 : y = 0
  · have t1 : (y == 0) = true := by simp [h1]
    have HT : Hid (empB ns ss a = (x == 0)) := Lib.hid (by rw [HR.out, decide_eq_true h1]; simp; rfl)
    clear h1
    go_wp2
    go_ret
    exact ⟨ret_bool HT.out.symm, (by repeat (first | with_reducible exact HW.out | with_reducible exact Below.refl _ _ | with_reducible refine below_drewN ?_ _ | with_reducible refine Below.drew ?_ | (with_reducible refine Below.setCell ?_ (by first | exact Nat.le_refl _ | exact Nat.le_succ _ | (simp; done) | (simp; omega) | omega) _) | (with_reducible refine Below.alloc ?_ (by first | exact HW.out.size | (simp; done) | (simp; omega) | omega) _)))⟩
  · have t1 : (y == 0) = false := by simp [h1]
    have HT : Hid (empB ns ss a = false) := Lib.hid (by rw [HR.out, decide_eq_false h1]; simp)
    clear h1
    go_wp2
    go_ret
    exact ⟨ret_bool HT.out.symm, (by repeat (first | with_reducible exact HW.out | with_reducible exact Below.refl _ _ | with_reducible refine below_drewN ?_ _ | with_reducible refine Below.drew ?_ | (with_reducible refine Below.setCell ?_ (by first | exact Nat.le_refl _ | exact Nat.le_succ _ | (simp; done) | (simp; omega) | omega) _) | (with_reducible refine Below.alloc ?_ (by first | exact HW.out.size | (simp; done) | (simp; omega) | omega) _)))⟩
end Go.Proofs.Ytolpbbabmcpdkaa

/-
  Contracts: order (weigh).
-/
namespace Go.Proofs.Ytolpbbabmcpdkaa
open Go.RowKit

def ordF (ea eb x y : Bool) (l : Int) : Int := if ea != eb then (if ea then 1 else -1) else if x then -1 else if y then 1 else l
theorem Od.nn {ns ss : List Int} (h : Od ns ss) : ∀ a, 0 ≤ ns.getD a 0 := fun a => (getD_bd (by omega) h.nb a).1
theorem Od.sn {ns ss : List Int} (h : Od ns ss) : ∀ a, 0 ≤ ss.getD a 0 := fun a => (getD_bd (by omega) h.sb a).1
/-- The order of the row is that of the ranks. -/
theorem ord_rank {ns ss : List Int} (h : Od ns ss) {a b : Nat} (ha : a < ns.length) (hb : b < ns.length) :
    ordF (empB ns ss a) (empB ns ss b) (gtB ns ss a b) (gtB ns ss b a) (cmpV a b) = cmpV (rankN ns ss a) (rankN ns ss b) := by
  have r1 := rank_iff h.nn h.sn ha hb
  have r2 := rank_iff h.nn h.sn hb ha
  have g1 := fun q => gt_asym (ns := ns) (ss := ss) (a := a) (b := b) q
  have g2 : (a : Int) < b ↔ a < b := by omega
  have g3 : (b : Int) < a ↔ b < a := by omega
  unfold befB at r1 r2
  have l1 : decide (a < b) = true ↔ a < b := decide_eq_true_iff
  have l2 : decide (b < a) = true ↔ b < a := decide_eq_true_iff
  have l3 : decide (a < b) = false ↔ ¬ a < b := decide_eq_false_iff_not
  have l4 : decide (b < a) = false ↔ ¬ b < a := decide_eq_false_iff_not
  unfold ordF cmpV
  cases ea : empB ns ss a <;> cases eb : empB ns ss b <;> cases gab : gtB ns ss a b <;> cases gba : gtB ns ss b a <;> cases la : decide (a < b) <;> cases lb : decide (b < a) <;> rw [ea, eb, gab, gba] at r1 r2 <;> rw [la] at r1 l1 l3 <;> rw [lb] at r2 l2 l4 <;> rw [gab, gba] at g1 <;> simp [befF] at * <;> (try omega) <;> (repeat' split) <;> omega

set_option maxRecDepth 100000 in
set_option maxHeartbeats 4000000 in
theorem order_any (ns ss : List Int) (A B : Option Addr) (c d : Nat) (ho : Od ns ss) (a b : Nat) (ha : a < ns.length) (hb : b < ns.length) (w : World) (hA : Ints w A ns) (hB : Ints w B ss) :
    Calls Try.prog 103 #[.agg #[.slice A ns.length c, .slice B ss.length d, .int .i64 ns.sum, .int .i64 ss.sum], .int .i64 a, .int .i64 b] w fun e w' => e = .returned (.int .i64 (cmpV (rankN ns ss a) (rankN ns ss b))) ∧ Below w.heap.size w w' := by
  rw [← ord_rank ho ha hb]
  obtain ⟨W0, hW0, HW, H0, z0⟩ := one_new w #[.slice A ns.length c, .slice B ss.length d, .int .i64 ns.sum, .int .i64 ss.sum] 67
  have b0 : World.cell? _ ⟨_, 0, none⟩ = some (.slice A ns.length c) := blk_cell H0.out 0 rfl
  have b1 : World.cell? _ ⟨_, 1, none⟩ = some (.slice B ss.length d) := blk_cell H0.out 1 rfl
  have b2 : World.cell? _ ⟨_, 2, none⟩ = some (.int .i64 ns.sum) := blk_cell H0.out 2 rfl
  have b3 : World.cell? _ ⟨_, 3, none⟩ = some (.int .i64 ss.sum) := blk_cell H0.out 3 rfl
  have HA := Lib.hid hA
  have HB := Lib.hid hB
  clear hA hB
  obtain ⟨ea, ha1⟩ : ∃ x, empB ns ss a = x := ⟨_, rfl⟩
  obtain ⟨eb, hb1⟩ : ∃ x, empB ns ss b = x := ⟨_, rfl⟩
  obtain ⟨x, hx1⟩ : ∃ x, gtB ns ss a b = x := ⟨_, rfl⟩
  obtain ⟨y, hy1⟩ : ∃ x, gtB ns ss b a = x := ⟨_, rfl⟩
  rw [ha1, hb1, hx1, hy1]
  have Ea := Lib.hid ha1
  have Eb := Lib.hid hb1
  have Gab := Lib.hid hx1
  have Gba := Lib.hid hy1
  clear ha1 hb1 hx1 hy1
  go_enter Try.func103, Try.ntmps103
  go_wp2
  rw [← hW0]
  clear hW0
  go_region_held3 (fun W => W.cell? ⟨w.heap.size, 0, none⟩ = some (.slice A ns.length c) ∧ W.cell? ⟨w.heap.size, 1, none⟩ = some (.slice B ss.length d) ∧ W.cell? ⟨w.heap.size, 2, none⟩ = some (.int .i64 ns.sum) ∧ W.cell? ⟨w.heap.size, 3, none⟩ = some (.int .i64 ss.sum))
    ((first | with_reducible exact ⟨b0, b1, b2, b3⟩ | (refine ⟨?_, ?_, ?_, ?_⟩ <;> (repeat (first | with_reducible refine (cell_set1 _ z0).trans ?_ | with_reducible refine (cell_drew1 _ _).trans ?_)) <;> first | with_reducible exact b0 | with_reducible exact b1 | with_reducible exact b2 | with_reducible exact b3)))
    ((first
    | (go_at_call 114; with_reducible refine (empty_any ns ss A B c d ho a ha _ (HA.out.below (by first | exact HW.out | exact Below.drew HW.out | exact below_drewN HW.out _)) (HB.out.below (by first | exact HW.out | exact Below.drew HW.out | exact below_drewN HW.out _))).mono ?_; rintro e w1 ⟨rfl, hB1⟩; rw [Ea.out]; have H0 := Lib.hid ((hB1.block _ z0).trans H0.out); have z0 := Nat.lt_of_lt_of_le z0 hB1.size; have b0 : World.cell? _ ⟨_, 0, none⟩ = some (.slice A ns.length c) := blk_cell H0.out 0 rfl; have b1 : World.cell? _ ⟨_, 1, none⟩ = some (.slice B ss.length d) := blk_cell H0.out 1 rfl; have b2 : World.cell? _ ⟨_, 2, none⟩ = some (.int .i64 ns.sum) := blk_cell H0.out 2 rfl; have b3 : World.cell? _ ⟨_, 3, none⟩ = some (.int .i64 ss.sum) := blk_cell H0.out 3 rfl; have HW : Hid (Below w.heap.size w _) := Lib.hid (below_step (by first | exact HW.out | exact Below.drew HW.out | exact below_drewN HW.out _) hB1); clear hB1)
    | (go_at_call 114; with_reducible refine (empty_any ns ss A B c d ho b hb _ (HA.out.below (by first | exact HW.out | exact Below.drew HW.out | exact below_drewN HW.out _)) (HB.out.below (by first | exact HW.out | exact Below.drew HW.out | exact below_drewN HW.out _))).mono ?_; rintro e w2 ⟨rfl, hB2⟩; rw [Eb.out]; have H0 := Lib.hid ((hB2.block _ z0).trans H0.out); have z0 := Nat.lt_of_lt_of_le z0 hB2.size; have b0 : World.cell? _ ⟨_, 0, none⟩ = some (.slice A ns.length c) := blk_cell H0.out 0 rfl; have b1 : World.cell? _ ⟨_, 1, none⟩ = some (.slice B ss.length d) := blk_cell H0.out 1 rfl; have b2 : World.cell? _ ⟨_, 2, none⟩ = some (.int .i64 ns.sum) := blk_cell H0.out 2 rfl; have b3 : World.cell? _ ⟨_, 3, none⟩ = some (.int .i64 ss.sum) := blk_cell H0.out 3 rfl; have HW : Hid (Below w.heap.size w _) := Lib.hid (below_step (by first | exact HW.out | exact Below.drew HW.out | exact below_drewN HW.out _) hB2); clear hB2)))
  all_goals
    cases ea <;> cases eb <;> cases x <;> cases y <;> (
      go_wp2_with (first
    | (go_at_call 114; with_reducible refine (empty_any ns ss A B c d ho a ha _ (HA.out.below (by first | exact HW.out | exact Below.drew HW.out | exact below_drewN HW.out _)) (HB.out.below (by first | exact HW.out | exact Below.drew HW.out | exact below_drewN HW.out _))).mono ?_; rintro e w3 ⟨rfl, hB3⟩; rw [Ea.out]; have H0 := Lib.hid ((hB3.block _ z0).trans H0.out); have z0 := Nat.lt_of_lt_of_le z0 hB3.size; have b0 : World.cell? _ ⟨_, 0, none⟩ = some (.slice A ns.length c) := blk_cell H0.out 0 rfl; have b1 : World.cell? _ ⟨_, 1, none⟩ = some (.slice B ss.length d) := blk_cell H0.out 1 rfl; have b2 : World.cell? _ ⟨_, 2, none⟩ = some (.int .i64 ns.sum) := blk_cell H0.out 2 rfl; have b3 : World.cell? _ ⟨_, 3, none⟩ = some (.int .i64 ss.sum) := blk_cell H0.out 3 rfl; have HW : Hid (Below w.heap.size w _) := Lib.hid (below_step (by first | exact HW.out | exact Below.drew HW.out | exact below_drewN HW.out _) hB3); clear hB3)
    | (go_at_call 111; with_reducible refine (before_any ns ss A B c d ho a b ha hb _ (HA.out.below (by first | exact HW.out | exact Below.drew HW.out | exact below_drewN HW.out _)) (HB.out.below (by first | exact HW.out | exact Below.drew HW.out | exact below_drewN HW.out _))).mono ?_; rintro e w4 ⟨rfl, hB4⟩; rw [Gab.out]; have H0 := Lib.hid ((hB4.block _ z0).trans H0.out); have z0 := Nat.lt_of_lt_of_le z0 hB4.size; have b0 : World.cell? _ ⟨_, 0, none⟩ = some (.slice A ns.length c) := blk_cell H0.out 0 rfl; have b1 : World.cell? _ ⟨_, 1, none⟩ = some (.slice B ss.length d) := blk_cell H0.out 1 rfl; have b2 : World.cell? _ ⟨_, 2, none⟩ = some (.int .i64 ns.sum) := blk_cell H0.out 2 rfl; have b3 : World.cell? _ ⟨_, 3, none⟩ = some (.int .i64 ss.sum) := blk_cell H0.out 3 rfl; have HW : Hid (Below w.heap.size w _) := Lib.hid (below_step (by first | exact HW.out | exact Below.drew HW.out | exact below_drewN HW.out _) hB4); clear hB4)
    | (go_at_call 111; with_reducible refine (before_any ns ss A B c d ho b a hb ha _ (HA.out.below (by first | exact HW.out | exact Below.drew HW.out | exact below_drewN HW.out _)) (HB.out.below (by first | exact HW.out | exact Below.drew HW.out | exact below_drewN HW.out _))).mono ?_; rintro e w5 ⟨rfl, hB5⟩; rw [Gba.out]; have H0 := Lib.hid ((hB5.block _ z0).trans H0.out); have z0 := Nat.lt_of_lt_of_le z0 hB5.size; have b0 : World.cell? _ ⟨_, 0, none⟩ = some (.slice A ns.length c) := blk_cell H0.out 0 rfl; have b1 : World.cell? _ ⟨_, 1, none⟩ = some (.slice B ss.length d) := blk_cell H0.out 1 rfl; have b2 : World.cell? _ ⟨_, 2, none⟩ = some (.int .i64 ns.sum) := blk_cell H0.out 2 rfl; have b3 : World.cell? _ ⟨_, 3, none⟩ = some (.int .i64 ss.sum) := blk_cell H0.out 3 rfl; have HW : Hid (Below w.heap.size w _) := Lib.hid (below_step (by first | exact HW.out | exact Below.drew HW.out | exact below_drewN HW.out _) hB5); clear hB5)
    | (go_at_call 108; with_reducible refine (compare_any (a : Int) (b : Int) _).mono ?_; rintro e w9 ⟨rfl, rfl⟩))
      go_ret
      exact ⟨rfl, (by repeat (first | with_reducible exact HW.out | with_reducible exact Below.refl _ _ | with_reducible refine below_drewN ?_ _ | with_reducible refine Below.drew ?_ | (with_reducible refine Below.setCell ?_ (by first | exact Nat.le_refl _ | exact Nat.le_succ _ | (simp; done) | (simp; omega) | omega) _) | (with_reducible refine Below.alloc ?_ (by first | exact HW.out.size | (simp; done) | (simp; omega) | omega) _)))⟩)
end Go.Proofs.Ytolpbbabmcpdkaa

/-
  Plain words for sorting by insertion; nothing of the program.
-/
namespace Go.Proofs.Ytolpbbabmcpdkaa
open Go Go.RowKit

def But (f : Int → Int) (ys : List Int) (i j : Nat) : Prop := ∀ p q, p < q → q ≤ i → q ≠ j → f (ys.getD p 0) ≤ f (ys.getD q 0)
def Srt (f : Int → Int) (ys : List Int) (i : Nat) : Prop := ∀ p q, p < q → q < i → f (ys.getD p 0) ≤ f (ys.getD q 0)
/-- The element at m + 1 and the one in front of it exchanged. -/
def swapL (ys : List Int) (m : Nat) : List Int := (ys.set (m + 1) (ys.getD m 0)).set m (ys.getD (m + 1) 0)
theorem swapL_len (ys : List Int) (m : Nat) : (swapL ys m).length = ys.length := by simp [swapL]
theorem swapL_at {ys : List Int} {m : Nat} (h : m + 1 < ys.length) (p : Nat) : (swapL ys m).getD p 0 = if p = m then ys.getD (m + 1) 0 else if p = m + 1 then ys.getD m 0 else ys.getD p 0 := by
  have e1 : ys.getD m 0 = ys[m]?.getD 0 := List.getD_eq_getElem?_getD
  have e2 : ys.getD (m + 1) 0 = ys[m + 1]?.getD 0 := List.getD_eq_getElem?_getD
  have e3 : ys.getD p 0 = ys[p]?.getD 0 := List.getD_eq_getElem?_getD
  rw [swapL, List.getD_eq_getElem?_getD, List.getElem?_set, List.length_set, List.getElem?_set]
  by_cases h1 : m = p
  · subst h1; rw [if_pos rfl, if_pos (by omega), if_pos rfl]; rfl
  · have h1' : ¬ p = m := fun e => h1 e.symm
    by_cases h2 : m + 1 = p
    · subst h2
      simp only [if_neg h1, if_neg h1', if_pos h]; rfl
    · have h2' : ¬ p = m + 1 := fun e => h2 e.symm
      simp only [if_neg h1, if_neg h1', if_neg h2, if_neg h2', e3]
theorem swapL_perm {ys : List Int} {m : Nat} (h : m + 1 < ys.length) : (swapL ys m).Perm ys := by
  have e1 : ys.getD m 0 = ys[m] := by rw [List.getD_eq_getElem?_getD, List.getElem?_eq_getElem (by omega)]; rfl
  have e2 : ys.getD (m + 1) 0 = ys[m + 1] := by rw [List.getD_eq_getElem?_getD, List.getElem?_eq_getElem (by omega)]; rfl
  rw [swapL, e1, e2]
  exact List.set_set_perm (by omega) (by omega)
theorem but_start {f : Int → Int} {ys : List Int} {i : Nat} (h : Srt f ys i) : But f ys i i := fun p q hpq hq hne => h p q hpq (by omega)
theorem but_swap {f : Int → Int} {ys : List Int} {i m : Nat} (h : But f ys i (m + 1)) (hi : i < ys.length) (hm : m + 1 ≤ i) (hlt : f (ys.getD (m + 1) 0) < f (ys.getD m 0)) : But f (swapL ys m) i m := by
  intro p q hpq hq hne
  rw [swapL_at (by omega), swapL_at (by omega), if_neg hne]
  by_cases q1 : q = m + 1
  · subst q1
    rw [if_pos rfl]
    by_cases p1 : p = m
    · subst p1; rw [if_pos rfl]; omega
    · rw [if_neg p1, if_neg (by omega)]
      exact h p m (by omega) (by omega) (by omega)
  · rw [if_neg q1]
    by_cases p1 : p = m
    · subst p1
      rw [if_pos rfl]
      exact h (p + 1) q (by omega) hq q1
    · rw [if_neg p1]
      by_cases p2 : p = m + 1
      · subst p2
        rw [if_pos rfl]
        exact h m q (by omega) hq q1
      · rw [if_neg p2]
        exact h p q hpq hq q1
theorem but_end0 {f : Int → Int} {ys : List Int} {i : Nat} (h : But f ys i 0) : Srt f ys (i + 1) := fun p q hpq hq => h p q hpq (by omega) (by omega)
theorem but_end {f : Int → Int} {ys : List Int} {i m : Nat} (h : But f ys i (m + 1)) (hlt : ¬ f (ys.getD (m + 1) 0) < f (ys.getD m 0)) : Srt f ys (i + 1) := by
  intro p q hpq hq
  by_cases q1 : q = m + 1
  · subst q1
    by_cases p1 : p = m
    · subst p1; omega
    · by_cases hmi : m ≤ i
      · have := h p m (by omega) hmi (by omega)
        omega
      · have : m + 1 ≤ i := by omega
        omega
  · exact h p q hpq (by omega) q1
theorem srt_one (f : Int → Int) (ys : List Int) : Srt f ys 1 := fun p q hpq hq => by omega
theorem getD_mem {ys : List Int} {k : Nat} (h : k < ys.length) : ys.getD k 0 ∈ ys := by
  rw [List.getD_eq_getElem?_getD, List.getElem?_eq_getElem h]; exact List.getElem_mem h
theorem getD_some {ys : List Int} {k : Nat} (h : k < ys.length) : ys[k]? = some (ys.getD k 0) := by
  rw [List.getD_eq_getElem?_getD, List.getElem?_eq_getElem h]; rfl
theorem cmpV_lt {x y : Int} (h : x < y) : cmpV x y = -1 := by rw [cmpV, if_pos h]
theorem cmpV_ge {x y : Int} (h : ¬ x < y) : 0 ≤ cmpV x y := by rw [cmpV, if_neg h]; split <;> omega
end Go.Proofs.Ytolpbbabmcpdkaa

/-
  A region that draws its order, whose operations only read and whose callees leave all old cells as they are: one walk in the order of the text.
-/
namespace Go.Proofs.Ytolpbbabmcpdkaa
open Go Go.RowKit

/-- A world in which all that is old in w is as it was. -/
structure Gw (w : World) where
  v : World
  h : Below w.heap.size w v
instance gwNonempty (w : World) : Nonempty (Gw w) := ⟨⟨w, Below.refl _ _⟩⟩
theorem Gw.cell {w : World} (g : Gw w) {b o : Nat} (hb : b < w.heap.size) : g.v.cell? ⟨b, o, none⟩ = w.cell? ⟨b, o, none⟩ := g.h.cell (p := ⟨b, o, none⟩) hb
theorem wp_region_grow {P : Program} {id : Nat} {Q : Exit → Act → World → Prop} {a : Act} {w : World} {L : List Oper} (hm : P.follows .mixedOrders = true) (hB : Region.lexB .any L.toArray = true)
    (h : wpQuiet P L.toArray (fun w' => ∃ g : Gw w, w' = g.v) (fun a' => ∀ w', (∃ g : Gw w, w' = g.v) → Q .normal a' w') L a) : (Code.region id L.toArray true).wp P Q a w :=
  wp_region_quiet (C := fun w' => ∃ g : Gw w, w' = g.v) hm hB ⟨⟨_, below_drewN (Below.refl _ _) 1⟩, rfl⟩ (by simpa using h)
/-- A callee's contract within such a region. -/
theorem Calls.grow_of {P : Program} {f : FuncId} {args : Array Value} {w : World} {g : Gw w} {v : Value}
    (h : Calls P f args g.v fun e w' => e = .returned v ∧ Below g.v.heap.size g.v w') : Calls P f args g.v fun e w'' => e = .returned v ∧ ∃ g' : Gw w, w'' = g'.v :=
  h.mono fun _ w' ⟨he, hb⟩ => ⟨he, ⟨w', below_step g.h hb⟩, rfl⟩
theorem Calls.grow_same {P : Program} {f : FuncId} {args : Array Value} {w : World} {g : Gw w} {v : Value}
    (h : Calls P f args g.v fun e w' => e = .returned v ∧ g.v = w') : Calls P f args g.v fun e w'' => e = .returned v ∧ ∃ g' : Gw w, w'' = g'.v :=
  h.mono fun _ w' ⟨he, hb⟩ => ⟨he, g, hb.symm⟩
end Go.Proofs.Ytolpbbabmcpdkaa

/-
  Plain facts on the area under the curve and the count of pairs; nothing of the program.
-/
namespace Go.Proofs.Ytolpbbabmcpdkaa
open Go Go.RowKit

/-- An outcome as a pair: its noise, its signal. -/
def dI (p q : Int × Int) : Int := max (p.2 * q.1) (q.2 * p.1)
def dSum (ps : List (Int × Int)) : Int := (ps.map fun p => (ps.map fun q => dI p q).sum).sum
def s1 (ps : List (Int × Int)) : Int := (ps.map (·.1)).sum
def s2 (ps : List (Int × Int)) : Int := (ps.map (·.2)).sum
/-- How many halves of a pair count. -/
def shV (p q : Int × Int) : Int := if q.2 * p.1 < p.2 * q.1 then 2 else if p.2 * q.1 < q.2 * p.1 then 0 else 1
def prSum (ps : List (Int × Int)) : Int := (ps.map fun p => (ps.map fun q => shV p q * p.2 * q.1).sum).sum
def areaF : List (Int × Int) → Int → Int
  | [], _ => 0
  | p :: t, x => p.1 * (x + x + p.2) + areaF t (x + p.2)

theorem dI_comm (p q : Int × Int) : dI p q = dI q p := by unfold dI; exact Int.max_comm _ _
theorem dsum_perm {ps qs : List (Int × Int)} (h : ps.Perm qs) : dSum ps = dSum qs := by
  unfold dSum
  rw [sum_perm (h.map _)]
  exact sum_congr _ _ _ (fun p _ => sum_perm (h.map _))
theorem s1_perm {ps qs : List (Int × Int)} (h : ps.Perm qs) : s1 ps = s1 qs := sum_perm (h.map _)
theorem s2_perm {ps qs : List (Int × Int)} (h : ps.Perm qs) : s2 ps = s2 qs := sum_perm (h.map _)
theorem dsum_cons (p : Int × Int) (t : List (Int × Int)) : dSum (p :: t) = p.2 * p.1 + 2 * (t.map fun q => dI p q).sum + dSum t := by
  have e1 : dI p p = p.2 * p.1 := by unfold dI; exact Int.max_self _
  have e2 : (t.map fun x => dI x p).sum = (t.map fun q => dI p q).sum := sum_congr _ _ _ (fun q _ => dI_comm q p)
  have e3 := sum_add (fun x => dI x p) (fun x => (t.map fun q => dI x q).sum) t
  simp only [dSum, List.map_cons, List.sum_cons, e1, e2] at *
  omega
theorem area_add : ∀ (ps : List (Int × Int)) (x : Int), areaF ps x = areaF ps 0 + 2 * x * s1 ps
  | [], x => by simp [areaF, s1]
  | p :: t, x => by
    have h1 := area_add t (x + p.2)
    have h2 := area_add t (0 + p.2)
    simp only [areaF, h1, h2, s1, List.map_cons, List.sum_cons]
    grind
theorem area_dsum : ∀ (ps : List (Int × Int)), ps.Pairwise (fun p q => q.2 * p.1 ≤ p.2 * q.1) → areaF ps 0 = dSum ps
  | [], _ => rfl
  | p :: t, h => by
    have h' := List.pairwise_cons.1 h
    rw [dsum_cons, ← area_dsum t h'.2]
    have e : (t.map fun q => dI p q).sum = p.2 * s1 t := by
      unfold s1
      rw [← sum_mul]
      refine sum_congr _ _ _ (fun q hq => ?_)
      have := h'.1 q hq
      show max _ _ = _
      exact Int.max_eq_left this
    rw [e]
    simp only [areaF]
    rw [area_add t (0 + p.2)]
    grind
theorem share_two (p q : Int × Int) : shV p q * p.2 * q.1 + shV q p * q.2 * p.1 = dI p q + dI q p := by
  have a1 : shV p q * p.2 * q.1 = shV p q * (p.2 * q.1) := Int.mul_assoc _ _ _
  have a2 : shV q p * q.2 * p.1 = shV q p * (q.2 * p.1) := Int.mul_assoc _ _ _
  rw [a1, a2]
  unfold shV dI
  generalize p.2 * q.1 = x
  generalize q.2 * p.1 = y
  by_cases h1 : y < x
  · rw [if_pos h1, if_neg (by omega), if_pos h1]; omega
  · by_cases h2 : x < y
    · rw [if_neg h1, if_pos h2, if_pos h2]; omega
    · rw [if_neg h1, if_neg h2, if_neg h2, if_neg h1]; omega
theorem pr_dsum (ps : List (Int × Int)) : prSum ps = dSum ps := by
  have c1 := sum_comm (fun p q : Int × Int => shV p q * p.2 * q.1) ps ps
  have c2 := sum_comm (fun p q : Int × Int => dI p q) ps ps
  have t1 : (ps.map fun p => (ps.map fun q => shV p q * p.2 * q.1).sum + (ps.map fun q => shV q p * q.2 * p.1).sum).sum = (ps.map fun p => (ps.map fun q => dI p q).sum + (ps.map fun q => dI q p).sum).sum := by
    refine sum_congr _ _ _ (fun p _ => ?_)
    rw [← sum_add, ← sum_add]
    exact sum_congr _ _ _ (fun q _ => share_two p q)
  rw [sum_add, sum_add] at t1
  unfold prSum dSum
  omega

/-! bounds, swapping, merging -/
def swP (ps : List (Int × Int)) : List (Int × Int) := ps.map fun p => (p.2, p.1)
theorem dsum_swap (ps : List (Int × Int)) : dSum (swP ps) = dSum ps := by
  unfold dSum swP
  rw [List.map_map]
  refine sum_congr _ _ _ (fun p _ => ?_)
  show (List.map _ (List.map _ ps)).sum = _
  rw [List.map_map]
  refine sum_congr _ _ _ (fun q _ => ?_)
  show max (p.1 * q.2) (q.1 * p.2) = max (p.2 * q.1) (q.2 * p.1)
  rw [Int.mul_comm p.1, Int.mul_comm q.1]; exact Int.max_comm _ _
theorem sum_prod (ps : List (Int × Int)) (f g : Int × Int → Int) : (ps.map fun p => (ps.map fun q => f p * g q).sum).sum = (ps.map f).sum * (ps.map g).sum := by
  have : ∀ p : Int × Int, (ps.map fun q => f p * g q).sum = (ps.map g).sum * f p := fun p => by rw [sum_mul, Int.mul_comm]
  simp only [this]
  rw [sum_mul, Int.mul_comm]
theorem dsum_bd (ps : List (Int × Int)) (h : ∀ p ∈ ps, 0 ≤ p.1 ∧ 0 ≤ p.2) : s2 ps * s1 ps ≤ dSum ps ∧ dSum ps ≤ 2 * (s2 ps * s1 ps) := by
  have e1 := sum_prod ps (·.2) (·.1)
  have e2 := sum_comm (fun p q : Int × Int => p.2 * q.1) ps ps
  have e3 : (ps.map fun p => (ps.map fun q => p.2 * q.1 + q.2 * p.1).sum).sum = s2 ps * s1 ps + s2 ps * s1 ps := by
    have : ∀ p : Int × Int, (ps.map fun q => p.2 * q.1 + q.2 * p.1).sum = (ps.map fun q => p.2 * q.1).sum + (ps.map fun q => q.2 * p.1).sum := fun p => sum_add _ _ _
    simp only [this]
    rw [sum_add, ← e2]
    unfold s1 s2
    omega
  have lo : (ps.map fun p => (ps.map fun q => p.2 * q.1).sum).sum ≤ dSum ps := sum_mono _ _ _ (fun p _ => sum_mono _ _ _ (fun q _ => Int.le_max_left _ _))
  have hi : dSum ps ≤ (ps.map fun p => (ps.map fun q => p.2 * q.1 + q.2 * p.1).sum).sum := by
    refine sum_mono _ _ _ (fun p hp => sum_mono _ _ _ (fun q hq => ?_))
    have x1 := Int.mul_nonneg (h p hp).2 (h q hq).1
    have x2 := Int.mul_nonneg (h q hq).2 (h p hp).1
    show max _ _ ≤ _
    omega
  unfold s1 s2 at *
  omega
def mrg (p q : Int × Int) : Int × Int := (p.1 + q.1, p.2 + q.2)
theorem d_mrg (p q r : Int × Int) : dI (mrg p q) r ≤ dI p r + dI q r := by
  have e1 : (p.2 + q.2) * r.1 = p.2 * r.1 + q.2 * r.1 := Int.add_mul _ _ _
  have e2 : r.2 * (p.1 + q.1) = r.2 * p.1 + r.2 * q.1 := Int.mul_add _ _ _
  show max ((p.2 + q.2) * r.1) (r.2 * (p.1 + q.1)) ≤ max _ _ + max _ _
  omega
theorem dsum_mrg (p q : Int × Int) (t : List (Int × Int)) : dSum (mrg p q :: t) ≤ dSum (p :: q :: t) := by
  rw [dsum_cons, dsum_cons, dsum_cons]
  have h1 := sum_mono (fun r => dI (mrg p q) r) (fun r => dI p r + dI q r) t (fun r _ => d_mrg p q r)
  rw [sum_add] at h1
  simp only [List.map_cons, List.sum_cons]
  have h2 : (mrg p q).2 * (mrg p q).1 = p.2 * p.1 + q.2 * q.1 + (p.2 * q.1 + q.2 * p.1) := by
    show (p.2 + q.2) * (p.1 + q.1) = _
    grind
  have h3 : p.2 * q.1 + q.2 * p.1 ≤ 2 * dI p q := by show _ ≤ 2 * max _ _; omega
  rw [h2]
  have e4 : (t.map fun r => dI (mrg p q) r).sum ≤ (t.map fun r => dI p r).sum + (t.map fun r => dI q r).sum := h1
  generalize (t.map fun r => dI (mrg p q) r).sum = X at *
  generalize (t.map fun r => dI p r).sum = Y at *
  generalize (t.map fun r => dI q r).sum = Z at *
  omega

/-! how far noise and signal are apart -/
def gnI (N S : Int) (p : Int × Int) : Int := p.2 * N - p.1 * S
def poI (x : Int) : Int := max 0 x
def apSum (ps : List (Int × Int)) : Int := (ps.map fun p => poI (gnI (s1 ps) (s2 ps) p)).sum
def twSum (ps : List (Int × Int)) : Int := (ps.map fun p => absW (gnI (s1 ps) (s2 ps) p)).sum
where absW (x : Int) : Int := max x (-x)
theorem gn_zero (ps : List (Int × Int)) : (ps.map fun p => gnI (s1 ps) (s2 ps) p).sum = 0 := by
  have e : ∀ p : Int × Int, gnI (s1 ps) (s2 ps) p = s1 ps * p.2 + (-(s2 ps)) * p.1 := by
    intro p; unfold gnI; rw [Int.mul_comm p.2, Int.mul_comm p.1, Int.neg_mul]; omega
  simp only [e]
  rw [sum_add, sum_mul, sum_mul]
  show s1 ps * s2 ps + -(s2 ps) * s1 ps = 0
  rw [Int.neg_mul, Int.mul_comm]; omega
theorem tw_ap (ps : List (Int × Int)) : twSum ps = 2 * apSum ps := by
  have e : ∀ p : Int × Int, twSum.absW (gnI (s1 ps) (s2 ps) p) = 2 * poI (gnI (s1 ps) (s2 ps) p) + (-1) * gnI (s1 ps) (s2 ps) p := by
    intro p; unfold twSum.absW poI; omega
  unfold twSum apSum
  simp only [e]
  rw [sum_add, sum_mul, sum_mul, gn_zero]; omega
theorem ap_perm {ps qs : List (Int × Int)} (h : ps.Perm qs) : apSum ps = apSum qs := by
  unfold apSum
  rw [s1_perm h, s2_perm h]
  exact sum_perm (h.map _)
theorem sw_s1 (ps : List (Int × Int)) : s1 (swP ps) = s2 ps := by unfold s1 s2 swP; rw [List.map_map]; rfl
theorem sw_s2 (ps : List (Int × Int)) : s2 (swP ps) = s1 ps := by unfold s1 s2 swP; rw [List.map_map]; rfl
theorem ap_swap (ps : List (Int × Int)) : apSum (swP ps) = apSum ps := by
  have h1 : twSum (swP ps) = twSum ps := by
    unfold twSum
    rw [sw_s1, sw_s2]
    unfold swP
    rw [List.map_map]
    refine sum_congr _ _ _ (fun p _ => ?_)
    show twSum.absW (p.1 * s2 ps - p.2 * s1 ps) = twSum.absW (p.2 * s1 ps - p.1 * s2 ps)
    unfold twSum.absW; omega
  rw [tw_ap, tw_ap] at h1
  omega
theorem ap_bd (ps : List (Int × Int)) (h : ∀ p ∈ ps, 0 ≤ p.1 ∧ 0 ≤ p.2) : 0 ≤ apSum ps ∧ apSum ps ≤ s1 ps * s2 ps := by
  have hs1 : 0 ≤ s1 ps := by
    have := sum_mono (fun _ : Int × Int => (0 : Int)) (·.1) ps (fun p hp => (h p hp).1)
    have e : (ps.map fun _ : Int × Int => (0 : Int)).sum = 0 := by simpa using sum_mul 0 (fun _ : Int × Int => (0 : Int)) ps
    unfold s1; omega
  have hs2 : 0 ≤ s2 ps := by
    have := sum_mono (fun _ : Int × Int => (0 : Int)) (·.2) ps (fun p hp => (h p hp).2)
    have e : (ps.map fun _ : Int × Int => (0 : Int)).sum = 0 := by simpa using sum_mul 0 (fun _ : Int × Int => (0 : Int)) ps
    unfold s2; omega
  constructor
  · have := sum_mono (fun _ : Int × Int => (0 : Int)) (fun p => poI (gnI (s1 ps) (s2 ps) p)) ps (fun p _ => Int.le_max_left _ _)
    have e : (ps.map fun _ : Int × Int => (0 : Int)).sum = 0 := by simpa using sum_mul 0 (fun _ : Int × Int => (0 : Int)) ps
    unfold apSum; omega
  · have := sum_mono (fun p => poI (gnI (s1 ps) (s2 ps) p)) (fun p => s1 ps * p.2) ps (fun p hp => by
      have x1 := Int.mul_nonneg (h p hp).2 hs1
      have x2 := Int.mul_nonneg (h p hp).1 hs2
      show max 0 (p.2 * s1 ps - p.1 * s2 ps) ≤ s1 ps * p.2
      rw [Int.mul_comm (s1 ps)]; omega)
    rw [sum_mul] at this
    exact this
theorem ap_mrg (p q : Int × Int) (t : List (Int × Int)) : apSum (mrg p q :: t) ≤ apSum (p :: q :: t) := by
  have e1 : s1 (mrg p q :: t) = s1 (p :: q :: t) := by simp only [s1, List.map_cons, List.sum_cons, mrg]; omega
  have e2 : s2 (mrg p q :: t) = s2 (p :: q :: t) := by simp only [s2, List.map_cons, List.sum_cons, mrg]; omega
  unfold apSum
  rw [e1, e2]
  simp only [List.map_cons, List.sum_cons]
  generalize s1 (p :: q :: t) = N
  generalize s2 (p :: q :: t) = S
  have e : gnI N S (mrg p q) = gnI N S p + gnI N S q := by
    show (p.2 + q.2) * N - (p.1 + q.1) * S = _
    rw [Int.add_mul, Int.add_mul]; unfold gnI; omega
  rw [e]
  unfold poI
  omega

/-! from indexes to pairs -/
def prL (ns ss : List Int) : List (Int × Int) := (List.range ns.length).map fun a => (ns.getD a 0, ss.getD a 0)
def prR (ns ss : List Int) : List (Int × Int) := (rowN ns ss).map fun a => (ns.getD a 0, ss.getD a 0)
theorem prR_perm (ns ss : List Int) : (prR ns ss).Perm (prL ns ss) := (row_perm ns ss).map _
theorem prL_s1 (ns ss : List Int) : s1 (prL ns ss) = ns.sum := by
  unfold s1 prL; rw [List.map_map]
  show (List.map (fun a => ns.getD a 0) _).sum = _
  rw [range_getD]
theorem prL_s2 {ns ss : List Int} (h : ns.length = ss.length) : s2 (prL ns ss) = ss.sum := by
  unfold s2 prL; rw [List.map_map, h]
  show (List.map (fun a => ss.getD a 0) _).sum = _
  rw [range_getD]
theorem prL_sw {ns ss : List Int} (h : ns.length = ss.length) : swP (prL ns ss) = prL ss ns := by
  unfold swP prL; rw [List.map_map, h]; rfl
theorem prL_nn {ns ss : List Int} (hn : ∀ a, 0 ≤ ns.getD a 0) (hs : ∀ a, 0 ≤ ss.getD a 0) : ∀ p ∈ prL ns ss, 0 ≤ p.1 ∧ 0 ≤ p.2 := by
  intro p hp
  obtain ⟨a, _, rfl⟩ := List.mem_map.1 hp
  exact ⟨hn a, hs a⟩
theorem prR_area {ns ss : List Int} (hn : ∀ a, 0 ≤ ns.getD a 0) (hs : ∀ a, 0 ≤ ss.getD a 0) : areaF (prR ns ss) 0 = dSum (prL ns ss) := by
  rw [← dsum_perm (prR_perm ns ss)]
  apply area_dsum
  unfold prR
  rw [List.pairwise_map]
  rw [List.pairwise_iff_getElem]
  intro i j hi hj hij
  exact bef_le (row_gt hn hs hij (List.getElem?_eq_getElem hi) (List.getElem?_eq_getElem hj))
end Go.Proofs.Ytolpbbabmcpdkaa

/-
  Plain facts on the curve; nothing of the program.
-/
namespace Go.Proofs.Ytolpbbabmcpdkaa
open Go Go.RowKit

/-- What the cut of k keeps, as weights. -/
def cvP (ns ss : List Int) (k : Nat) : Int × Int := (s1 ((prR ns ss).take k), s2 ((prR ns ss).take k))
def cvL (ns ss : List Int) (m : Nat) : List (Int × Int) := (List.range m).map (cvP ns ss)
theorem cvL_succ (ns ss : List Int) (m : Nat) : cvL ns ss (m + 1) = cvL ns ss m ++ [cvP ns ss m] := by simp [cvL, List.range_succ]
theorem cvL_len (ns ss : List Int) (m : Nat) : (cvL ns ss m).length = m := by simp [cvL]
theorem cvL_get {ns ss : List Int} {m k : Nat} (h : k < m) : (cvL ns ss m)[k]? = some (cvP ns ss k) := by simp [cvL, List.getElem?_map, List.getElem?_range h]
theorem cv_zero (ns ss : List Int) : cvP ns ss 0 = (0, 0) := rfl
theorem prR_len (ns ss : List Int) : (prR ns ss).length = ns.length := by simp [prR, row_len]
theorem s1_snoc {ps : List (Int × Int)} {k : Nat} {p : Int × Int} (h : ps[k]? = some p) : s1 (ps.take (k + 1)) = s1 (ps.take k) + p.1 := by rw [take_snoc h]; simp [s1]
theorem s2_snoc {ps : List (Int × Int)} {k : Nat} {p : Int × Int} (h : ps[k]? = some p) : s2 (ps.take (k + 1)) = s2 (ps.take k) + p.2 := by rw [take_snoc h]; simp [s2]
/-- An outcome of the row: its number, and its weights. -/
theorem row_get {ns ss : List Int} {k : Nat} (h : k < ns.length) : ∃ a : Nat, a < ns.length ∧ (rowL ns ss)[k]? = some (a : Int) ∧ (prR ns ss)[k]? = some (ns.getD a 0, ss.getD a 0) := by
  obtain ⟨a, ha⟩ := getElem?_of_lt (zs := rowN ns ss) (k := k) (by rw [row_len]; exact h)
  exact ⟨a, row_mem.1 (List.mem_of_getElem? ha), by rw [rowL, List.getElem?_map, ha]; rfl, by rw [prR, List.getElem?_map, ha]; rfl⟩
theorem cv_succ {ns ss : List Int} {k : Nat} {n s : Int} (h : (prR ns ss)[k]? = some (n, s)) : cvP ns ss (k + 1) = ((cvP ns ss k).1 + n, (cvP ns ss k).2 + s) := by
  unfold cvP; rw [s1_snoc h, s2_snoc h]
theorem area_snoc : ∀ (ps : List (Int × Int)) (p : Int × Int) (x : Int), areaF (ps ++ [p]) x = areaF ps x + p.1 * ((x + s2 ps) + (x + s2 ps) + p.2)
  | [], p, x => by simp [areaF, s2]
  | q :: t, p, x => by
    have e : s2 (q :: t) = q.2 + s2 t := by simp [s2]
    rw [List.cons_append, areaF, area_snoc t p (x + q.2), areaF, e]
    rw [show x + q.2 + s2 t = x + (q.2 + s2 t) by omega]
    omega
theorem area_take {ns ss : List Int} {k : Nat} {n s : Int} (h : (prR ns ss)[k]? = some (n, s)) : areaF ((prR ns ss).take (k + 1)) 0 = areaF ((prR ns ss).take k) 0 + ((cvP ns ss (k + 1)).1 - (cvP ns ss k).1) * ((cvP ns ss k).2 + (cvP ns ss (k + 1)).2) := by
  rw [take_snoc h, area_snoc, cv_succ h]
  unfold cvP
  dsimp only
  rw [Int.zero_add]
  congr 1
  rw [show s1 ((prR ns ss).take k) + n - s1 ((prR ns ss).take k) = n by omega]
  congr 1
  omega
/-- The areas of the first k outcomes. -/
def arK (ns ss : List Int) (k : Nat) : Int := areaF ((prR ns ss).take k) 0
theorem cv_bd {ns ss : List Int} (h : ∀ p ∈ prR ns ss, (0 ≤ p.1 ∧ p.1 ≤ 1000) ∧ 0 ≤ p.2 ∧ p.2 ≤ 1000) : ∀ k, k ≤ ns.length → (0 ≤ (cvP ns ss k).1 ∧ (cvP ns ss k).1 ≤ 1000 * k) ∧ (0 ≤ (cvP ns ss k).2 ∧ (cvP ns ss k).2 ≤ 1000 * k) := by
  intro k
  induction k with
  | zero => intro _; rw [cv_zero]; simp
  | succ k ih =>
    intro hk
    obtain ⟨⟨n, s⟩, hp⟩ := getElem?_of_lt (zs := prR ns ss) (k := k) (by rw [prR_len]; omega)
    have b := h _ (List.mem_of_getElem? hp)
    have i := ih (by omega)
    rw [cv_succ hp]
    dsimp only at *
    omega
theorem ar_bd {ns ss : List Int} (hn : ns.length ≤ 10) (h : ∀ p ∈ prR ns ss, (0 ≤ p.1 ∧ p.1 ≤ 1000) ∧ 0 ≤ p.2 ∧ p.2 ≤ 1000) : ∀ k, k ≤ ns.length → 0 ≤ arK ns ss k ∧ arK ns ss k ≤ 20000000 * k := by
  intro k
  induction k with
  | zero => intro _; simp [arK, areaF]
  | succ k ih =>
    intro hk
    obtain ⟨⟨n, s⟩, hp⟩ := getElem?_of_lt (zs := prR ns ss) (k := k) (by rw [prR_len]; omega)
    have b := h _ (List.mem_of_getElem? hp)
    have i := ih (by omega)
    have c1 := cv_bd h k (by omega)
    have c2 := cv_bd h (k + 1) hk
    have e := area_take hp
    have e2 := cv_succ hp
    have e3 : (cvP ns ss (k + 1)).1 - (cvP ns ss k).1 = n := by rw [e2]; dsimp only; omega
    rw [e3] at e
    unfold arK at *
    dsimp only at b
    have x0 : 0 ≤ n * ((cvP ns ss k).2 + (cvP ns ss (k + 1)).2) := Int.mul_nonneg b.1.1 (by omega)
    have x1 : n * ((cvP ns ss k).2 + (cvP ns ss (k + 1)).2) ≤ 1000 * 20000 := Int.mul_le_mul b.1.2 (by omega) (by omega) (by omega)
    omega
theorem arK_all {ns ss : List Int} (hn : ∀ a, 0 ≤ ns.getD a 0) (hs : ∀ a, 0 ≤ ss.getD a 0) : arK ns ss ns.length = dSum (prL ns ss) := by
  unfold arK
  rw [← prR_area hn hs, List.take_of_length_le (by rw [prR_len]; exact Nat.le_refl _)]
theorem cv_all {ns ss : List Int} (h : ns.length = ss.length) : cvP ns ss ns.length = (ns.sum, ss.sum) := by
  unfold cvP
  rw [List.take_of_length_le (by rw [prR_len]; exact Nat.le_refl _), s1_perm (prR_perm ns ss), s2_perm (prR_perm ns ss), prL_s1, prL_s2 h]
theorem Od.pr {ns ss : List Int} (h : Od ns ss) : ∀ p ∈ prR ns ss, (0 ≤ p.1 ∧ p.1 ≤ 1000) ∧ 0 ≤ p.2 ∧ p.2 ≤ 1000 := by
  intro p hp
  obtain ⟨a, _, rfl⟩ := List.mem_map.1 hp
  exact ⟨getD_bd (by omega) h.nb a, getD_bd (by omega) h.sb a⟩
end Go.Proofs.Ytolpbbabmcpdkaa

/-
  From an argument's reading to what the walks are told of it.
-/
namespace Go.Proofs.Ytolpbbabmcpdkaa
open Go.ChangeShapes Go.WideShapes Go.ChangeAt Go.RowKit

section
variable {H : Type} {enc : TypeId × Value → H} {W : World}
theorem arg_ints {a : Option Addr} {len cap : Nat} {d : DataW H} {p : List MemPlace}
    (h : DataW.Trod enc Try.prog W 0 (fun _ => true) true 22 (.slice a len cap) d p) :
    ∃ zs : List Int, zs.length = len ∧ Ints W a zs ∧ len ≤ cap ∧ cap ≤ maxLen := by
  obtain ⟨fuel, hf⟩ := h
  rcases open_ints Try.underlying22 Try.underlying3 (by kernel_rfl) hf with ⟨hcs, _⟩ | ⟨x, l, c, zs, hcs, _, hl, hm, hz, _, hcell, _⟩
  · simp [Value.cells] at hcs
    obtain ⟨rfl, rfl, rfl⟩ := hcs
    exact ⟨[], rfl, Ints.nil_, by omega, by simp [maxLen]⟩
  · simp [Value.cells] at hcs
    obtain ⟨rfl, rfl, rfl⟩ := hcs
    have hzl : zs.length = cap := by simpa using hz
    have htl : (zs.take len).length = len := by simp; omega
    refine ⟨zs.take len, htl, ⟨by simp, fun hn => ?_⟩, hl, hm⟩
    have h0 := hcell 0 (by rw [htl] at hn; omega)
    refine ⟨x, rfl, ?_, fun j u hj => ?_⟩
    · have := World.block_lt_of_cell? W _ h0
      rwa [block_of_add] at this
    · rw [List.getElem?_map] at hj
      have hjl : j < len := by
        rcases Nat.lt_or_ge j len with h | h
        · exact h
        · rw [List.getElem?_eq_none (by rw [htl]; omega)] at hj; cases hj
      rw [List.getElem?_take_of_lt hjl, List.getElem?_eq_getElem (by omega)] at hj
      simp only [Option.map_some, Option.some.injEq] at hj
      rw [hcell j (by omega), ← hj, List.getD_eq_getElem?_getD, List.getElem?_eq_getElem (by omega)]; rfl
end
end Go.Proofs.Ytolpbbabmcpdkaa

