/-
  A region of eight operations that draws its order, the last four one behind the other: whatever the order, by an invariant that says what has come.
-/
import Derived.OrdersIn
import Derived.OwnWalkIn
import Derived.Maps.AppendAt
import Derived.Test.YtoilbgngefleiaaPlain
namespace Go.Proofs.Ytoilbgngefleiaa
open Go Go.RowKit
attribute [local go_sem] Oper.semAt_some

def nF (l0 l1 l2 l3 l4 l5 l6 l7 : Bool) : Nat := (if l0 then 0 else 1) + (if l1 then 0 else 1) + (if l2 then 0 else 1) + (if l3 then 0 else 1) + (if l4 then 0 else 1) + (if l5 then 0 else 1) + (if l6 then 0 else 1) + (if l7 then 0 else 1)
/-- Which of eight operations may come up. -/
def Rd (l0 l1 l2 l3 l4 l5 l6 l7 : Bool) (i : Nat) : Prop :=
  (i = 0 ∧ l0 = false) ∨ (i = 1 ∧ l1 = false) ∨ (i = 2 ∧ l2 = false) ∨ (i = 3 ∧ l3 = false) ∨ (i = 4 ∧ l4 = false ∧ l1 = true ∧ l2 = true ∧ l3 = true) ∨ (i = 5 ∧ l5 = false ∧ l4 = true) ∨ (i = 6 ∧ l6 = false ∧ l0 = true ∧ l5 = true) ∨ (i = 7 ∧ l7 = false ∧ l6 = true)
instance (l0 l1 l2 l3 l4 l5 l6 l7 : Bool) (i : Nat) : Decidable (Rd l0 l1 l2 l3 l4 l5 l6 l7 i) := by unfold Rd; infer_instance
section
variable {F : Fence} {n : Nat} {P : Program} {ops : Array Oper} {Q : Exit → Act → World → Prop}
theorem any8 (Inv : Bool → Bool → Bool → Bool → Bool → Bool → Bool → Bool → Act → World → Prop)
    (hR : ∀ l0 l1 l2 l3 l4 l5 l6 l7 : Bool, ∀ i ∈ Region.ready .any ops #[l0, l1, l2, l3, l4, l5, l6, l7], Rd l0 l1 l2 l3 l4 l5 l6 l7 i)
    (hE : ∀ l0 l1 l2 l3 l4 l5 l6 l7 : Bool, Region.ready .any ops #[l0, l1, l2, l3, l4, l5, l6, l7] = [] → (l4 = true → l1 = true ∧ l2 = true ∧ l3 = true) → (l5 = true → l4 = true) → (l6 = true → l5 = true ∧ l0 = true) → (l7 = true → l6 = true) → l7 = true)
    (hA : Region.ready .any ops #[true, true, true, true, true, true, true, true] = [])
    (hD : ∀ l0 l1 l2 l3 l4 l5 l6 l7 a w, Inv l0 l1 l2 l3 l4 l5 l6 l7 a w → (l4 = true → l1 = true ∧ l2 = true ∧ l3 = true) ∧ (l5 = true → l4 = true) ∧ (l6 = true → l5 = true ∧ l0 = true) ∧ (l7 = true → l6 = true))
    (s0 : ∀ (l1 l2 l3 l4 l5 l6 l7 : Bool) a w, Inv false l1 l2 l3 l4 l5 l6 l7 a w → wpOpIn F n P ops Q 0 (Inv true l1 l2 l3 l4 l5 l6 l7) a w)
    (s1 : ∀ (l0 l2 l3 l4 l5 l6 l7 : Bool) a w, Inv l0 false l2 l3 l4 l5 l6 l7 a w → wpOpIn F n P ops Q 1 (Inv l0 true l2 l3 l4 l5 l6 l7) a w)
    (s2 : ∀ (l0 l1 l3 l4 l5 l6 l7 : Bool) a w, Inv l0 l1 false l3 l4 l5 l6 l7 a w → wpOpIn F n P ops Q 2 (Inv l0 l1 true l3 l4 l5 l6 l7) a w)
    (s3 : ∀ (l0 l1 l2 l4 l5 l6 l7 : Bool) a w, Inv l0 l1 l2 false l4 l5 l6 l7 a w → wpOpIn F n P ops Q 3 (Inv l0 l1 l2 true l4 l5 l6 l7) a w)
    (s4 : ∀ (l0 l5 l6 l7 : Bool) a w, Inv l0 true true true false l5 l6 l7 a w → wpOpIn F n P ops Q 4 (Inv l0 true true true true l5 l6 l7) a w)
    (s5 : ∀ (l0 l1 l2 l3 l6 l7 : Bool) a w, Inv l0 l1 l2 l3 true false l6 l7 a w → wpOpIn F n P ops Q 5 (Inv l0 l1 l2 l3 true true l6 l7) a w)
    (s6 : ∀ (l1 l2 l3 l4 l7 : Bool) a w, Inv true l1 l2 l3 l4 true false l7 a w → wpOpIn F n P ops Q 6 (Inv true l1 l2 l3 l4 true true l7) a w)
    (s7 : ∀ (l0 l1 l2 l3 l4 l5 : Bool) a w, Inv l0 l1 l2 l3 l4 l5 true false a w → wpOpIn F n P ops Q 7 (Inv l0 l1 l2 l3 l4 l5 true true) a w)
    (fin : ∀ a w, Inv true true true true true true true true a w → Q .normal a w) :
    ∀ (fuel : Nat) (l0 l1 l2 l3 l4 l5 l6 l7 : Bool) (a : Act) (w : World), nF l0 l1 l2 l3 l4 l5 l6 l7 = fuel → Inv l0 l1 l2 l3 l4 l5 l6 l7 a w → wpAnyIn F n P .any ops Q fuel #[l0, l1, l2, l3, l4, l5, l6, l7] a w
  | 0, l0, l1, l2, l3, l4, l5, l6, l7, a, w, hf, hI => by
    have : l0 = true ∧ l1 = true ∧ l2 = true ∧ l3 = true ∧ l4 = true ∧ l5 = true ∧ l6 = true ∧ l7 = true := by
      revert hf
      unfold nF
      cases l0 <;> cases l1 <;> cases l2 <;> cases l3 <;> cases l4 <;> cases l5 <;> cases l6 <;> cases l7 <;> simp
    obtain ⟨rfl, rfl, rfl, rfl, rfl, rfl, rfl, rfl⟩ := this
    exact ⟨hA, fin a w hI⟩
  | fuel + 1, l0, l1, l2, l3, l4, l5, l6, l7, a, w, hf, hI => by
    refine ⟨fun he => ?_, fun i hi => ?_⟩
    · obtain ⟨d1, d2, d3, d4⟩ := hD _ _ _ _ _ _ _ _ a w hI
      have h7 := hE _ _ _ _ _ _ _ _ he d1 d2 d3 d4
      have h6 := d4 h7
      obtain ⟨h5, h0⟩ := d3 h6
      have h4 := d2 h5
      obtain ⟨h1, h2, h3⟩ := d1 h4
      subst h0 h1 h2 h3 h4 h5 h6 h7
      exact fin a w hI
    · have key := any8 Inv hR hE hA hD s0 s1 s2 s3 s4 s5 s6 s7 fin fuel
      rcases hR _ _ _ _ _ _ _ _ i hi with ⟨rfl, rfl⟩ | ⟨rfl, rfl⟩ | ⟨rfl, rfl⟩ | ⟨rfl, rfl⟩ | ⟨rfl, rfl, rfl, rfl, rfl⟩ | ⟨rfl, rfl, rfl⟩ | ⟨rfl, rfl, rfl, rfl⟩ | ⟨rfl, rfl, rfl⟩
      · refine wpOpIn_mono (fun a2 w2 h2 => ?_) (s0 _ _ _ _ _ _ _ a w hI)
        exact key _ _ _ _ _ _ _ _ a2 w2 (by unfold nF at hf ⊢; simp at hf ⊢; omega) h2
      · refine wpOpIn_mono (fun a2 w2 h2 => ?_) (s1 _ _ _ _ _ _ _ a w hI)
        exact key _ _ _ _ _ _ _ _ a2 w2 (by unfold nF at hf ⊢; simp at hf ⊢; omega) h2
      · refine wpOpIn_mono (fun a2 w2 h2 => ?_) (s2 _ _ _ _ _ _ _ a w hI)
        exact key _ _ _ _ _ _ _ _ a2 w2 (by unfold nF at hf ⊢; simp at hf ⊢; omega) h2
      · refine wpOpIn_mono (fun a2 w2 h2 => ?_) (s3 _ _ _ _ _ _ _ a w hI)
        exact key _ _ _ _ _ _ _ _ a2 w2 (by unfold nF at hf ⊢; simp at hf ⊢; omega) h2
      · refine wpOpIn_mono (fun a2 w2 h2 => ?_) (s4 _ _ _ _ a w hI)
        exact key _ _ _ _ _ _ _ _ a2 w2 (by unfold nF at hf ⊢; simp at hf ⊢; omega) h2
      · refine wpOpIn_mono (fun a2 w2 h2 => ?_) (s5 _ _ _ _ _ _ a w hI)
        exact key _ _ _ _ _ _ _ _ a2 w2 (by unfold nF at hf ⊢; simp at hf ⊢; omega) h2
      · refine wpOpIn_mono (fun a2 w2 h2 => ?_) (s6 _ _ _ _ _ a w hI)
        exact key _ _ _ _ _ _ _ _ a2 w2 (by unfold nF at hf ⊢; simp at hf ⊢; omega) h2
      · refine wpOpIn_mono (fun a2 w2 h2 => ?_) (s7 _ _ _ _ _ _ a w hI)
        exact key _ _ _ _ _ _ _ _ a2 w2 (by unfold nF at hf ⊢; simp at hf ⊢; omega) h2
/-- An append to a slice of the call's own, as one operation of a region. -/
theorem stepIn_append {o : Oper} {a : Act} {w : World} {K : Act → World → Prop} {E : Prop} (hgd : o.guard = none) (s x : Operand) (t : TypeId)
    (ho : o.op = .call { callee := .builtin .append, args := #[s, x], argTypes := #[t, t] })
    (base : Nat) (e : TypeId) (i : TypeInfo) (z : Value) (size bytes : Nat) (ht : P.underlying t = some (.slice e)) (hi : P.info? e = some i) (hz : i.zero = some z)
    (hsize : i.size = size) (hby : i.bytes = bytes) (hzs : z.cells.size = size) (hsz : 0 < size)
    (v : Value) (k : Nat) (xs : List Value) (hs : a.eval s = v) (hown : w.ownsRow base e size v k xs)
    (ad : Addr) (m c : Nat) (news : List Value) (hx : a.eval x = .slice (some ad) m c) (hl : news.length = m * size) (hnews : ∀ j u, news[j]? = some u → w.cell? (ad.add j) = some u) (h1 : ∀ u ∈ news, u.oneCell' = true)
    (h63 : k + m ≤ maxLen) (hbytes : (k + m) * bytes ≤ 140737488355328) (hbase : base ≤ w.heap.size)
    (h : ∀ v' w', w'.ownsRow base e size v' (k + m) (xs ++ news) → w.grownBy w' v.ownBlock → K (a.put o.dst v') w') :
    if Region.wanted o (yielded ops a.tmps) = true then Oper.wpIn F n P o a w K Q else E := by
  have hw : Region.wanted o (yielded ops a.tmps) = true := by simp [Region.wanted, hgd]
  rw [if_pos hw]
  obtain ⟨v', w', hr, h2, h3, _, _⟩ := run_append_own_at (P := P) w base t o.type e i z size bytes ht hi hz hsize hby hzs hsz v k xs hown ad m c news hl hnews h1 h63 hbytes hbase
  unfold Oper.wpIn
  refine ⟨by simp [Oper.about, ho, resolve, Target.leads, Sem.run_pure], ?_⟩
  rw [Oper.semAt_plain F _ _ (by rw [ho]; intro c hc'; cases hc')]
  simp [execOp, ho, resolve, invoke, builtin, hs, hx, hr, Result.andThen]
  exact h v' w' h2 h3
end
end Go.Proofs.Ytoilbgngefleiaa
