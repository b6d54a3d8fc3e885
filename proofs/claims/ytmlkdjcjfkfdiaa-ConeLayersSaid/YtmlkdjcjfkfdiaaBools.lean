/-
  A set that the call keeps as a map with bools: what a look-up in it says.
-/
import Derived.Test.YtmlkdjcjfkfdiaaBase
import Derived.Maps.OwnSet
namespace Go.Proofs.Ytmlkdjcjfkfdiaa
open Go.RowKit Go.Maps Go.WideMaps Go.WideShapes

section
variable {H : Type}
theorem plainElem_bool_inv {P : Program} {e : TypeId} (he : P.underlying e = some .bool) {v : Value} {z : DataW H × List MemPlace} (h : plainElem P e v = some z) : ∃ x, v = .bool x ∧ z = (.lit (.bool x), []) := by
  unfold plainElem at h
  rw [he] at h
  cases v <;> simp at h
  subst h
  exact ⟨_, rfl, rfl⟩

theorem wp_look_bool {P : Program} (w : World) {ops : Array Oper} {rest : List Oper} {o : Oper} {a : Act} {Q : Exit → Act → World → Prop}
    (hg : o.guard = none) (m x : Operand) (t : TypeId) (hop : o.op = Op.lookup t m x false)
    (k e : TypeId) (K : Keyed P k) (ht : P.underlying t = some (.map k e)) (he : P.underlying e = some .bool) (hz : (zeroValue e).run P w = .ok (.bool false) w) (b n : Nat) (D : DataW H)
    (hm : a.eval m = .map (some b)) (hown : w.ownsMap P k (plainElem P e) b n D) (key : Value) (kl : Lit) (hx : a.eval x = key) (hkey : keyOf P k key = some kl)
    (hK : ∀ c : Bool, D.atKey kl (.lit (.bool false)) = .lit (.bool c) → wpList P ops Q rest (a.put o.dst (.bool c)) w) :
    wpList P ops Q (o :: rest) a w := by
  refine wpList_plain hg fun K' hK' => ?_
  obtain ⟨v, ps, hrun, hv⟩ := hown.lookup K ht hz (plainElem_bool he false) hkey
  obtain ⟨c, rfl, hc⟩ := plainElem_bool_inv he hv
  simp only [Prod.mk.injEq] at hc
  unfold Oper.wp
  simp [execOp, hop, hm, hx, hrun, Result.andThen]
  exact hK' _ _ (hK c hc.1)

theorem look_bool {P : Program} {w : World} {t k e : TypeId} (K : Keyed P k) (ht : P.underlying t = some (.map k e)) (he : P.underlying e = some .bool) (hz : (zeroValue e).run P w = .ok (.bool false) w) {b n : Nat} {D : DataW H}
    (hown : w.ownsMap P k (plainElem P e) b n D) {key : Value} {kl : Lit} (hkey : keyOf P k key = some kl) :
    ∃ c : Bool, (Instr.lookup t (.map (some b)) key false).run P w = .ok (.bool c) w ∧ D.atKey kl (.lit (.bool false)) = .lit (.bool c) := by
  obtain ⟨v, ps, hrun, hv⟩ := hown.lookup K ht hz (plainElem_bool he false) hkey
  obtain ⟨c, rfl, hc⟩ := plainElem_bool_inv he hv
  simp only [Prod.mk.injEq] at hc
  exact ⟨c, hrun, hc.1⟩

/-- The set of some keys. -/
def keysB (acc : List Lit) : DataW H := setOf (.lit (.bool true)) acc
theorem keysB_nil : keysB (H := H) [] = .map [] := by simp [keysB, setOf]
theorem keysB_snoc (acc : List Lit) (x : Lit) : keysB (H := H) (acc ++ [x]) = (keysB acc).put x (.lit (.bool true)) := setOf_snoc _ _ _
theorem keysB_rev (k : Lit) (hk : WideAt.IsKeyLit k) : ∀ (acc : List Lit), (∀ x ∈ acc, WideAt.IsKeyLit x) →
    IsMap (keysB (H := H) acc.reverse) ∧ ∃ c : Bool, (keysB (H := H) acc.reverse).atKey k (.lit (.bool false)) = .lit (.bool c) ∧ (c = true ↔ k ∈ acc)
  | [], _ => by
    refine ⟨?_, false, ?_, by simp⟩
    · rw [List.reverse_nil, keysB_nil]; exact isMap_empty
    · rw [List.reverse_nil, keysB_nil, atKey_of_not_has (by rfl)]
  | x :: t, h => by
    obtain ⟨i1, c, i2, i3⟩ := keysB_rev k hk t (fun y hy => h y (by simp [hy]))
    rw [List.reverse_cons, keysB_snoc]
    by_cases e : k = x
    · subst e
      exact ⟨i1.put _ _, true, by rw [atKey_put_same i1 hk], by simp⟩
    · exact ⟨i1.put _ _, c, by rw [atKey_put_other e, i2], by simp [e, i3]⟩
theorem keysB_at {k : Lit} (hk : WideAt.IsKeyLit k) {acc : List Lit} (h : ∀ x ∈ acc, WideAt.IsKeyLit x) {c : Bool} (e : (keysB (H := H) acc).atKey k (.lit (.bool false)) = .lit (.bool c)) : c = true ↔ k ∈ acc := by
  obtain ⟨_, c', e', hc⟩ := keysB_rev (H := H) k hk acc.reverse (fun x hx => h x (by simpa using hx))
  rw [List.reverse_reverse, e] at e'
  injection e' with e'
  injection e' with e'
  rw [e', hc]; simp
end
end Go.Proofs.Ytmlkdjcjfkfdiaa
