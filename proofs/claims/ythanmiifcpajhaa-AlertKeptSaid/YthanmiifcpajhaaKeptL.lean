/-
  What is kept, in order: those in front of one, and whether that one is.
-/
import Derived.Test.YthanmiifcpajhaaKeptM
import Derived.Maps.AppendAt
set_option linter.unusedVariables false
set_option linter.unusedSimpArgs false
namespace Go.Proofs.Ythanmiifcpajhaa
open Go Go.RowKit

/-- The task of a number. -/
def tkG (ts : List (Int × Int × Int)) (i : Int) : Int × Int × Int := ts.getD i.toNat tkZ
theorem kp_map (ts : List (Int × Int × Int)) : ∀ k, (kpS ts k).2 = (kpS ts k).1.map (tkG ts)
  | 0 => rfl
  | k + 1 => by
    have ih := kp_map ts k
    rw [kpS]
    split
    · show _ ++ _ = List.map _ (_ ++ _)
      rw [List.map_append, ← ih]; rfl
    · exact ih
theorem kp_lt (ts : List (Int × Int × Int)) : ∀ k, ∀ i ∈ (kpS ts k).1, 0 ≤ i ∧ i < k
  | 0 => by simp [kpS]
  | k + 1 => by
    have ih := kp_lt ts k
    rw [kpS]
    split
    · intro i hi
      rcases List.mem_append.1 hi with hi | hi
      · have := ih i hi; omega
      · rw [List.mem_singleton] at hi; omega
    · intro i hi; have := ih i hi; omega
theorem kp_up (ts : List (Int × Int × Int)) : ∀ k, (kpS ts k).1.Pairwise (· < ·)
  | 0 => List.Pairwise.nil
  | k + 1 => by
    have ih := kp_up ts k
    rw [kpS]
    split
    · refine List.pairwise_append.2 ⟨ih, by simp, fun a ha b hb => ?_⟩
      rw [List.mem_singleton] at hb
      have := kp_lt ts k a ha
      omega
    · exact ih
theorem kp_step (ts : List (Int × Int × Int)) {k : Nat} {i j : Nat} {a b : Int} (hij : i < j) (ha : (kpS ts k).1[i]? = some a) (hb : (kpS ts k).1[j]? = some b) : a < b := by
  obtain ⟨h1, rfl⟩ := List.getElem?_eq_some_iff.1 ha
  obtain ⟨h2, rfl⟩ := List.getElem?_eq_some_iff.1 hb
  exact List.pairwise_iff_getElem.1 (kp_up ts k) i j h1 h2 hij
theorem kp_front (ts : List (Int × Int × Int)) (x : Nat) : ∀ d, (kpS ts (x + d)).1.filter (fun i => decide (i < (x : Int))) = (kpS ts x).1
  | 0 => by
    show List.filter _ (kpS ts x).1 = _
    rw [List.filter_eq_self]
    intro i hi
    exact decide_eq_true (kp_lt ts x i hi).2
  | d + 1 => by
    have ih := kp_front ts x d
    rw [← Nat.add_assoc, kpS]
    split
    · show List.filter _ (_ ++ _) = _
      rw [List.filter_append, ih]
      simp
      omega
    · exact ih
theorem kp_is (ts : List (Int × Int × Int)) (x : Nat) : ∀ d, (kpS ts (x + 1 + d)).1.any (fun i => i == (x : Int)) = canB ((kpS ts x).2 ++ [ts.getD x tkZ])
  | 0 => by
    have hno : (kpS ts x).1.any (fun i => i == (x : Int)) = false := by
      rw [List.any_eq_false]
      intro i hi
      have := kp_lt ts x i hi
      simp; omega
    cases hc : canB ((kpS ts x).2 ++ [ts.getD x tkZ]) with
    | true =>
      rw [Nat.add_zero, kp_yes hc]
      show List.any (_ ++ _) _ = _
      rw [List.any_append, hno]; simp
    | false => rw [Nat.add_zero, kp_no hc, hno]
  | d + 1 => by
    have ih := kp_is ts x d
    rw [← Nat.add_assoc, kpS]
    split
    · show List.any (_ ++ _) _ = _
      rw [List.any_append, ih]
      have : (((x + 1 + d : Nat) : Int) == (x : Int)) = false := beq_eq_false_iff_ne.2 (by omega)
      simp only [List.any_cons, List.any_nil, this, Bool.or_false]
    · exact ih

/-- Those of the first k of a list that are in front of x. -/
def frL (L : List Int) (x : Int) (k : Nat) : List Int := (L.take k).filter fun i => decide (i < x)
theorem fr_yes {L : List Int} {x v : Int} {k : Nat} (h : L[k]? = some v) (hv : v < x) : frL L x (k + 1) = frL L x k ++ [v] := by
  rw [frL, filter_snoc h, if_pos (by simpa using hv)]; rfl
theorem fr_no {L : List Int} {x v : Int} {k : Nat} (h : L[k]? = some v) (hv : ¬ v < x) : frL L x (k + 1) = frL L x k := by
  rw [frL, filter_snoc h, if_neg (by simpa using hv), List.append_nil]; rfl
theorem fr_len (L : List Int) (x : Int) (k : Nat) : (frL L x k).length ≤ k := by
  have h1 : (frL L x k).length ≤ (L.take k).length := List.length_filter_le _ _
  rw [List.length_take] at h1; omega

def Sep (v u : Value) : Prop := ∀ g, v.ownBlock = some g → u.ownBlock ≠ some g
theorem Sep.symm {v u : Value} (h : Sep v u) : Sep u v := fun g h1 h2 => h g h2 h1
section
variable {ops : Array Oper} {rest : List Oper} {o : Oper} {a : Act} {Q : Exit → Act → World → Prop}
/-- An append of a task to one of two lists of tasks leaves the other one as it is, and apart. -/
theorem wp_app_task2 (w : World) (hgd : o.guard = none) (s x : Operand)
    (ho : o.op = .call { callee := .builtin .append, args := #[s, x], argTypes := #[22, 22] })
    (base : Nat) (v : Value) (n : Nat) (xs : List (Int × Int × Int)) (y z t : Int) (hs : a.eval s = v) (hown : w.ownsRow base 53 3 v n (xs.flatMap mk3))
    (hx : a.eval x = .slice (some ⟨w.heap.size, 0, none⟩) 1 1) (hn : n ≤ 1000) (hbase : base ≤ w.heap.size)
    (u : Value) (m : Nat) (us : List Value) (hu : w.ownsRow base 53 3 u m us) (hsep : Sep v u)
    (h : ∀ v' w', w'.ownsRow base 53 3 v' (n + 1) ((xs ++ [(y, z, t)]).flatMap mk3) → Below base w w' → w'.ownsRow base 53 3 u m us → Sep v' u → wpList Try.prog ops Q rest (a.put o.dst v') w') :
    wpList Try.prog ops Q (o :: rest) a (w.alloc (.cells #[.int .i64 y, .int .i64 z, .int .i64 t] 53)) := by
  obtain ⟨i0, hi0, hz0, hz1, hz2⟩ := info_parts lay_info
  refine wpList_append_own_at _ hgd s x 22 ho base 53 i0 (.agg #[.int .i64 0, .int .i64 0, .int .i64 0]) 3 24 Try.underlying22 hi0 hz0 hz1 hz2 rfl (by decide) v n _ hs (hown.alloc _) ⟨w.heap.size, 0, none⟩ 1 1 [.int .i64 y, .int .i64 z, .int .i64 t] hx rfl
    (cells_new w [.int .i64 y, .int .i64 z, .int .i64 t] 53) (by intro u hu; simp at hu; rcases hu with rfl | rfl | rfl <;> rfl) (by unfold maxLen; omega) (by omega) (by simp; omega) ?_
  intro v' w' ho' hg _ hat
  have hul := hu.lt
  refine h v' w' (by simpa [mk3] using ho') (((Below.refl base w).alloc hbase _).grown hg (by simp; omega) (fun k hk => (hown.lt k hk).1)) ?_ ?_
  · refine (hu.alloc _).kept hg ?_
    cases hh : u.ownBlock with
    | none => exact .inl rfl
    | some g => exact .inr fun e => hsep g e.symm hh
  · intro g h1 h2
    rcases hat with he | he
    · rw [he] at h1; exact hsep g h1 h2
    · rw [he] at h1
      have := (hul g h2).2
      injection h1 with h1
      simp at h1
      omega
end
end Go.Proofs.Ythanmiifcpajhaa
