/-
  Two slices of the call's own that do not lie in one block; appending to one of them leaves the other.
-/
import Derived.Test.YtmlkdjcjfkfdiaaJoined
import Derived.Maps.AppendAt
namespace Go.Proofs.Ytmlkdjcjfkfdiaa
open Go.RowKit

/-- Two slices do not lie in one block. -/
def Sep (v u : Value) : Prop := ∀ g, v.ownBlock = some g → u.ownBlock ≠ some g
theorem Sep.symm {v u : Value} (h : Sep v u) : Sep u v := fun g h1 h2 => h g h2 h1
theorem sep_none {v : Value} {n c : Nat} : Sep v (.slice none n c) := fun g _ h => by simp [Value.ownBlock] at h
theorem own_keep2 {w w' : World} {base : Nat} {e : TypeId} {sz n : Nat} {v u : Value} {ys : List Value} (h : w.ownsRow base e sz u n ys)
    (hfar : ∀ g, g < w.heap.size → v.ownBlock ≠ some g → w'.heap[g]? = w.heap[g]?) (hsep : Sep v u) : w'.ownsRow base e sz u n ys := by
  refine ⟨h.1, ?_⟩
  rcases h.2 with ⟨rfl, h0⟩ | ⟨g, cap, cur, rfl, hb, hh, h1, h2, h3, h4⟩
  · exact .inl ⟨rfl, h0⟩
  · refine .inr ⟨g, cap, cur, rfl, hb, ?_, h1, h2, h3, h4⟩
    rw [hfar g (Array.getElem?_eq_some_iff.1 hh).1 (fun hv => hsep g hv rfl)]
    exact hh
theorem own_lt2 {w : World} {base g : Nat} {e : TypeId} {sz n : Nat} {u : Value} {ys : List Value} (h : w.ownsRow base e sz u n ys) (hg : u.ownBlock = some g) : base ≤ g ∧ g < w.heap.size := by
  rcases h.2 with ⟨rfl, h0⟩ | ⟨g', cap, cur, rfl, hb, hh, _⟩
  · simp [Value.ownBlock] at hg
  · simp [Value.ownBlock] at hg
    subst hg
    exact ⟨hb, (Array.getElem?_eq_some_iff.1 hh).1⟩
/-- Behind an append to the first of two. -/
theorem sep_app {w : World} {base : Nat} {e : TypeId} {sz n : Nat} {v v' u : Value} {ys : List Value} (h : w.ownsRow base e sz u n ys) (hs : Sep v u) (ha : ∀ g, g < w.heap.size → v'.ownBlock = some g → v.ownBlock = some g) : Sep v' u := by
  intro g h1 h2
  exact hs g (ha g (own_lt2 h h2).2 h1) h2
theorem own_any {w w' : World} {base : Nat} {e : TypeId} {sz n : Nat} {u : Value} {ys : List Value} (h : w.ownsRow base e sz u n ys) (hf : ∀ g, base ≤ g → g < w.heap.size → w'.heap[g]? = w.heap[g]?) : w'.ownsRow base e sz u n ys := by
  refine ⟨h.1, ?_⟩
  rcases h.2 with ⟨rfl, h0⟩ | ⟨g, cap, cur, rfl, hb, hh, h1, h2, h3, h4⟩
  · exact .inl ⟨rfl, h0⟩
  · exact .inr ⟨g, cap, cur, rfl, hb, (hf g hb (Array.getElem?_eq_some_iff.1 hh).1).trans hh, h1, h2, h3, h4⟩

section
variable {ops : Array Oper} {rest : List Oper} {o : Oper} {a : Act} {K : Act → World → Prop} {Q : Exit → Act → World → Prop} {E : Prop}
/-- What an append of one int to a slice of the call's own leaves. -/
def AppAt (w : World) (base : Nat) (v : Value) (n : Nat) (xs : List Int) (v' : Value) (w' : World) : Prop :=
  w'.ownsRow base 3 1 v' n (xs.map (Value.int .i64)) ∧ Below base w w' ∧ (∀ g, g < w.heap.size → v.ownBlock ≠ some g → w'.heap[g]? = w.heap[g]?) ∧ (∀ g, g < w.heap.size → v'.ownBlock = some g → v.ownBlock = some g)
theorem appAt_of {w w0 w' : World} {base n : Nat} {v v' : Value} {xs : List Int} {z : Int} (hw0 : w0.heap = w.heap.push (.cells #[.int .i64 z] 3 (0, 0))) (hB0 : Below w.heap.size w w0) (hown : w.ownsRow base 3 1 v n (xs.map (Value.int .i64))) (hbase : base ≤ w.heap.size)
    (h1 : w'.ownsRow base 3 1 v' (n + 1) (xs.map (Value.int .i64) ++ [.int .i64 z])) (hg : w0.grownBy w' v.ownBlock) (hat : v'.ownBlock = v.ownBlock ∨ v'.ownBlock = some w0.heap.size) : AppAt w base v (n + 1) (xs ++ [z]) v' w' := by
  have hsz : w0.heap.size = w.heap.size + 1 := by rw [hw0]; simp
  refine ⟨by simpa using h1, (hB0.mono hbase).grown hg (by omega) (fun k hk => (hown.lt k hk).1), ?_, ?_⟩
  · intro g hg1 hg2
    exact (hg.block g (by omega) (fun e => hg2 e.symm)).trans (hB0.block g hg1)
  · intro g hg1 hg2
    rcases hat with h | h
    · rw [← h]; exact hg2
    · rw [h, hsz] at hg2
      injection hg2 with hg2
      omega
theorem wp_app_at (w : World) (hgd : o.guard = none) (s x : Operand)
    (ho : o.op = .call { callee := .builtin .append, args := #[s, x], argTypes := #[28, 28] })
    (base : Nat) (v : Value) (n : Nat) (xs : List Int) (z : Int) (hs : a.eval s = v) (hown : w.ownsRow base 3 1 v n (xs.map (Value.int .i64)))
    (hx : a.eval x = .slice (some ⟨w.heap.size, 0, none⟩) 1 1) (hn : n ≤ 1000000) (hbase : base ≤ w.heap.size)
    (h : ∀ v' w', AppAt w base v (n + 1) (xs ++ [z]) v' w' → wpList Try.prog ops Q rest (a.put o.dst v') w') :
    wpList Try.prog ops Q (o :: rest) a (w.alloc (.cells #[.int .i64 z] 3)) := by
  obtain ⟨i0, hi0, hz0, hz1, hz2⟩ := info_parts int_info
  refine wpList_append_own_at _ hgd s x 28 ho base 3 i0 (.int .i64 0) 1 8 Try.underlying28 hi0 hz0 hz1 hz2 rfl (by decide) v n _ hs (hown.alloc _) ⟨w.heap.size, 0, none⟩ 1 1 [.int .i64 z] hx rfl
    (cells_new w [.int .i64 z] 3) ?_ (by unfold maxLen; omega) (by omega) (by simp; omega) ?_
  · intro u hu; simp at hu; subst hu; rfl
  · intro v' w' ho' hg _ hat
    exact h v' w' (appAt_of rfl ((Below.refl _ w).alloc (Nat.le_refl _) _) hown hbase ho' hg hat)
theorem step_app_at (w : World) (hgd : o.guard = none) (s x : Operand)
    (ho : o.op = .call { callee := .builtin .append, args := #[s, x], argTypes := #[28, 28] })
    (base : Nat) (v : Value) (n : Nat) (xs : List Int) (z : Int) (hs : a.eval s = v) (hown : w.ownsRow base 3 1 v n (xs.map (Value.int .i64)))
    (hx : a.eval x = .slice (some ⟨w.heap.size, 0, none⟩) 1 1) (hn : n ≤ 1000000) (hbase : base ≤ w.heap.size)
    (h : ∀ v' w', AppAt w base v (n + 1) (xs ++ [z]) v' w' → K (a.put o.dst v') w') :
    if Region.wanted o (yielded ops a.tmps) = true then Oper.wp Try.prog o a (w.alloc (.cells #[.int .i64 z] 3)).drew K Q else E := by
  have hw : Region.wanted o (yielded ops a.tmps) = true := by simp [Region.wanted, hgd]
  rw [if_pos hw]
  obtain ⟨i0, hi0, hz0, hz1, hz2⟩ := info_parts int_info
  obtain ⟨v', w', hr, h2, h3, _, h5⟩ := run_append_own_at (P := Try.prog) (w.alloc (.cells #[.int .i64 z] 3)).drew base 28 o.type 3 i0 (.int .i64 0) 1 8 Try.underlying28 hi0 hz0 hz1 hz2 rfl (by decide) v n _ (hown.alloc _).drew ⟨w.heap.size, 0, none⟩ 1 1 [.int .i64 z] rfl
    (cells_new w [.int .i64 z] 3) (by intro u hu; simp at hu; subst hu; rfl) (by unfold maxLen; omega) (by omega) (by simp; omega)
  unfold Oper.wp execOp
  simp only [ho, resolve, invoke, builtin, Sem.run_bind, Sem.run_pure, Result.andThen_ok, List.map_toArray, List.map_cons, List.map_nil, hs, hx, hr]
  exact h v' w' (appAt_of (w0 := (w.alloc (.cells #[.int .i64 z] 3)).drew) rfl (((Below.refl _ w).alloc (Nat.le_refl _) _).drew) hown hbase h2 h3 h5)
end
end Go.Proofs.Ytmlkdjcjfkfdiaa
