/-
  A slice of points of a curve that reads as a list of pairs; appends to one.
-/
import Derived.Test.YtolpbbabmcpdkaaSort
import Derived.StillTailTactics
import Derived.Deep.RegionHeld3
set_option linter.unusedVariables false
set_option linter.unusedSimpArgs false
namespace Go.Proofs.Ytolpbbabmcpdkaa
open Go.RowKit

def mk2 (m : Int × Int) : List Value := [.int .i64 m.1, .int .i64 m.2]
/-- A slice of marks that reads as the list ms. -/
def Marks (w : World) (A : Option Addr) (ms : List (Int × Int)) : Prop := Reads w w.heap.size 2 A ms.length (ms.flatMap mk2)

theorem flat_get : ∀ (ms : List (Int × Int)) (k : Nat) (m : Int × Int), ms[k]? = some m → (ms.flatMap mk2)[2 * k]? = some (.int .i64 m.1) ∧ (ms.flatMap mk2)[2 * k + 1]? = some (.int .i64 m.2)
  | [], k, m, h => by simp at h
  | a :: t, 0, m, h => by simp at h; subst h; simp [mk2]
  | a :: t, k + 1, m, h => by
    have := flat_get t k m (by simpa using h)
    rw [show 2 * (k + 1) = 2 * k + 2 by omega]
    simpa [mk2] using this
theorem flat_len (ms : List (Int × Int)) : (ms.flatMap mk2).length = ms.length * 2 := by
  induction ms with
  | nil => rfl
  | cons a t ih => rw [List.flatMap_cons, List.length_append, ih]; simp [mk2]; omega
theorem Marks.below {w w' : World} {A : Option Addr} {ms : List (Int × Int)} (h : Marks w A ms) (hb : Below w.heap.size w w') : Marks w' A ms :=
  (Reads.below h hb).more hb.size
theorem Marks.drewN {w : World} {A : Option Addr} {ms : List (Int × Int)} (h : Marks w A ms) (n : Nat) : Marks (w.drewN n) A ms := h
theorem Marks.nil_ {w : World} {A : Option Addr} : Marks w A [] := Reads.none_
theorem Marks.open_ {w : World} {A : Option Addr} {ms : List (Int × Int)} (h : Marks w A ms) (hn : 0 < ms.length) :
    ∃ b o, A = some ⟨b, o, none⟩ ∧ b < w.heap.size ∧ ∀ (k : Nat) (m : Int × Int), ms[k]? = some m → w.cell? ⟨b, o + k * 2, none⟩ = some (.int .i64 m.1) ∧ w.cell? ⟨b, o + k * 2 + 1, none⟩ = some (.int .i64 m.2) := by
  obtain ⟨ad, e, hb, hall⟩ := h.2 hn
  obtain ⟨m0, hm0⟩ : ∃ m, ms[0]? = some m := ⟨_, List.getElem?_eq_getElem hn⟩
  have hc := hall 0 _ (flat_get ms 0 m0 hm0).1
  obtain ⟨b, o, s⟩ := ad
  have hs : s = none := by simpa [Addr.add] using World.cell?_spot hc
  subst hs
  refine ⟨b, o, e, hb, fun k m hm => ?_⟩
  have h2 := flat_get ms k m hm
  rw [Nat.mul_comm k 2, Nat.add_assoc, ← add_mk, ← add_mk]
  exact ⟨hall _ _ h2.1, hall _ _ h2.2⟩

/-- A clock as it is handed from call to call. -/
structure Clk (w : World) (A : Option Addr) (c : Nat) (ms : List (Int × Int)) : Prop where
  marks : Marks w A ms
  le : ms.length ≤ c
  cap : c ≤ maxLen
theorem Clk.nil_ {w : World} {A : Option Addr} : Clk w A 0 [] := ⟨Marks.nil_, Nat.le_refl _, Nat.zero_le _⟩
theorem Clk.below {w w' : World} {A : Option Addr} {c : Nat} {ms : List (Int × Int)} (h : Clk w A c ms) (hb : Below w.heap.size w w') : Clk w' A c ms := ⟨h.marks.below hb, h.le, h.cap⟩
theorem Clk.len {w : World} {A : Option Addr} {c : Nat} {ms : List (Int × Int)} (h : Clk w A c ms) : ms.length ≤ maxLen := Nat.le_trans h.le h.cap

section
variable {P : Program} {ops : Array Oper} {rest : List Oper} {o : Oper} {a : Act} {Q : Exit → Act → World → Prop}
/-- As wp_app, and what it leaves of the other blocks. -/
theorem wp_app_far (w : World) (hgd : o.guard = none) (s x : Operand) (t : TypeId)
    (ho : o.op = .call { callee := .builtin .append, args := #[s, x], argTypes := #[t, t] })
    (base : Nat) (e : TypeId) (i : TypeInfo) (zero : Value) (size bytes : Nat) (ht : P.underlying t = some (.slice e)) (hi : P.info? e = some i) (hz : i.zero = some zero)
    (hsize : i.size = size) (hby : i.bytes = bytes) (hzs : zero.cells.size = size) (hsz : 0 < size) (hb64 : bytes ≤ 64)
    (v : Value) (n : Nat) (xs : List Value) (cs : List Value) (hs : a.eval s = v) (hown : w.ownsRow base e size v n xs)
    (hx : a.eval x = .slice (some ⟨w.heap.size, 0, none⟩) 1 1) (hl : cs.length = size) (h1 : ∀ u ∈ cs, u.oneCell' = true)
    (hn : n ≤ 1000000) (hbase : base ≤ w.heap.size)
    (h : ∀ v' w', w'.ownsRow base e size v' (n + 1) (xs ++ cs) → Below base w w' → (∀ g, g < w.heap.size → v.ownBlock ≠ some g → w'.heap[g]? = w.heap[g]?) → wpList P ops Q rest (a.put o.dst v') w') :
    wpList P ops Q (o :: rest) a (w.alloc (.cells cs.toArray e)) := by
  refine wpList_append_own _ hgd s x t ho base e i zero size bytes ht hi hz hsize hby hzs hsz v n xs hs (hown.alloc _) ⟨w.heap.size, 0, none⟩ 1 1 cs hx (by omega)
    (cells_new w cs e) h1 (by unfold maxLen; omega) ?_ (by simp; omega) ?_
  · have : (n + 1) * bytes ≤ (n + 1) * 64 := Nat.mul_le_mul_left _ hb64
    omega
  · intro v' w' ho' hg _
    refine h v' w' ho' (((Below.refl base w).alloc hbase _).grown hg (by simp; omega) ?_) ?_
    · intro k hk
      exact (hown.lt k hk).1
    · intro g hg1 hg2
      exact (hg.block g (by simp; omega) (fun e => hg2 e.symm)).trans (Below.heap_alloc w _ g hg1)
end
theorem lay_info : (Try.prog.info? 88).map (fun i => (i.zero, i.size, i.bytes)) = some (some (.agg #[.int .i64 0, .int .i64 0]), 2, 16) := by kernel_rfl
section
variable {ops : Array Oper} {rest : List Oper} {o : Oper} {a : Act} {Q : Exit → Act → World → Prop}
theorem wp_app_lay (w : World) (hgd : o.guard = none) (s x : Operand)
    (ho : o.op = .call { callee := .builtin .append, args := #[s, x], argTypes := #[86, 86] })
    (base : Nat) (v : Value) (n : Nat) (xs : List (Int × Int)) (y z : Int) (hs : a.eval s = v) (hown : w.ownsRow base 88 2 v n (xs.flatMap mk2))
    (hx : a.eval x = .slice (some ⟨w.heap.size, 0, none⟩) 1 1) (hn : n ≤ 1000000) (hbase : base ≤ w.heap.size)
    (h : ∀ v' w', w'.ownsRow base 88 2 v' (n + 1) ((xs ++ [(y, z)]).flatMap mk2) → Below base w w' → (∀ g, g < w.heap.size → v.ownBlock ≠ some g → w'.heap[g]? = w.heap[g]?) → wpList Try.prog ops Q rest (a.put o.dst v') w') :
    wpList Try.prog ops Q (o :: rest) a (w.alloc (.cells #[.int .i64 y, .int .i64 z] 88)) := by
  obtain ⟨i0, hi0, hz0, hz1, hz2⟩ := info_parts lay_info
  refine wp_app_far w hgd s x 86 ho base 88 i0 (.agg #[.int .i64 0, .int .i64 0]) 2 16 Try.underlying86 hi0 hz0 hz1 hz2 rfl (by decide) (by decide) v n _ [.int .i64 y, .int .i64 z] hs hown hx rfl ?_ hn hbase ?_
  · intro u hu; simp at hu; rcases hu with rfl | rfl <;> rfl
  · intro v' w' h1 h2 h3
    exact h v' w' (by rw [List.flatMap_append]; exact h1) h2 h3
end
theorem own_layers {w : World} {base n : Nat} {v : Value} {xs : List (Int × Int)} (h : w.ownsRow base 88 2 v n (xs.flatMap mk2)) :
    ∃ A c, v = .slice A xs.length c ∧ Clk w A c xs := by
  have hl : xs.length = n := by have := h.1; rw [flat_len] at this; omega
  subst hl
  rcases h.2 with ⟨rfl, h0⟩ | ⟨g, cap, cur, rfl, _, _, h1, h2, _⟩
  · have : xs = [] := List.eq_nil_of_length_eq_zero h0
    subst this
    exact ⟨none, 0, rfl, Clk.nil_⟩
  · exact ⟨_, cap, rfl, Reads.of_own h, h1, h2⟩

theorem own_one {w : World} {x y : Int} : (w.alloc (.cells #[.int .i64 x, .int .i64 y] 88)).ownsRow w.heap.size 88 2 (.slice (some ⟨w.heap.size, 0, none⟩) 1 1) 1 ([(x, y)].flatMap mk2) :=
  ⟨rfl, .inr ⟨w.heap.size, 1, _, rfl, Nat.le_refl _, heap_alloc_new w _, Nat.le_refl _, by unfold maxLen; omega, rfl, rfl⟩⟩
theorem own_base {w : World} {base : Nat} {t : TypeId} {sz n : Nat} {v : Value} {xs : List Value} (h : w.ownsRow base t sz v n xs) : ∀ A l c, v = .slice A l c → ∀ x, A = some x → base ≤ x.block := by
  intro A l c hv x hx
  subst hv hx
  rcases h.2 with ⟨h0, _⟩ | ⟨g, cap, cur, h1, h2, _⟩
  · cases h0
  · cases h1; exact h2
theorem own_far {w w' : World} {base : Nat} {e : TypeId} {sz n : Nat} {v u : Value} {ys : List Value} (h : w.ownsRow base e sz u n ys)
    (hfar : ∀ g, g < w.heap.size → v.ownBlock ≠ some g → w'.heap[g]? = w.heap[g]?) (hsep : ∀ g, u.ownBlock = some g → v.ownBlock ≠ some g) : w'.ownsRow base e sz u n ys := by
  refine ⟨h.1, ?_⟩
  rcases h.2 with ⟨rfl, h0⟩ | ⟨g, cap, cur, rfl, hb, hh, h1, h2, h3, h4⟩
  · exact .inl ⟨rfl, h0⟩
  · refine .inr ⟨g, cap, cur, rfl, hb, ?_, h1, h2, h3, h4⟩
    rw [hfar g (Array.getElem?_eq_some_iff.1 hh).1 (hsep g rfl)]
    exact hh
/-- Slices of the call's own of different types do not lie in one block. -/
theorem own_sep {w : World} {base base' : Nat} {e e' : TypeId} {sz sz' n n' : Nat} {v u : Value} {xs ys : List Value} (h : w.ownsRow base e sz u n ys) (k : w.ownsRow base' e' sz' v n' xs) (hne : e' ≠ e) : ∀ g, u.ownBlock = some g → v.ownBlock ≠ some g := by
  intro g hg
  rcases h.2 with ⟨rfl, h0⟩ | ⟨g', cap, cur, rfl, hb, hh, _⟩
  · simp [Value.ownBlock] at hg
  · simp [Value.ownBlock] at hg
    subst hg
    exact own_ne k hh hne
end Go.Proofs.Ytolpbbabmcpdkaa
