/-
  A slice of pairs of ratios that reads as a list; appends to one; what the curve is.
-/
import Derived.Test.YtolpbbabmcpdkaaRefCut
set_option linter.unusedVariables false
set_option linter.unusedSimpArgs false
namespace Go.Proofs.Ytolpbbabmcpdkaa
open Go Go.RowKit Go.Shelf

abbrev Qd := (Int × Int) × (Int × Int)
def mk4 (m : Qd) : List Value := [.int .i64 m.1.1, .int .i64 m.1.2, .int .i64 m.2.1, .int .i64 m.2.2]
def Quads (w : World) (A : Option Addr) (ms : List Qd) : Prop := Reads w w.heap.size 4 A ms.length (ms.flatMap mk4)
theorem quad_len (ms : List Qd) : (ms.flatMap mk4).length = ms.length * 4 := by
  induction ms with
  | nil => rfl
  | cons a t ih => rw [List.flatMap_cons, List.length_append, ih]; simp [mk4]; omega
theorem quad_get : ∀ (ms : List Qd) (k : Nat) (m : Qd), ms[k]? = some m → (ms.flatMap mk4)[k * 4]? = some (.int .i64 m.1.1) ∧ (ms.flatMap mk4)[k * 4 + 1]? = some (.int .i64 m.1.2) ∧ (ms.flatMap mk4)[k * 4 + 2]? = some (.int .i64 m.2.1) ∧ (ms.flatMap mk4)[k * 4 + 3]? = some (.int .i64 m.2.2)
  | [], k, m, h => by simp at h
  | a :: t, 0, m, h => by simp at h; subst h; simp [mk4]
  | a :: t, k + 1, m, h => by
    have := quad_get t k m (by simpa using h)
    rw [show (k + 1) * 4 = k * 4 + 4 by omega]
    simpa [mk4] using this
theorem Quads.below {w w' : World} {A : Option Addr} {ms : List Qd} (h : Quads w A ms) (hb : Below w.heap.size w w') : Quads w' A ms := (Reads.below h hb).more hb.size
structure QOut (w : World) (A : Option Addr) (c : Nat) (ms : List Qd) : Prop where
  quads : Quads w A ms
  le : ms.length ≤ c
  cap : c ≤ maxLen
theorem QOut.nil_ {w : World} {A : Option Addr} : QOut w A 0 [] := ⟨Reads.none_, Nat.le_refl _, Nat.zero_le _⟩
theorem QOut.below {w w' : World} {A : Option Addr} {c : Nat} {ms : List Qd} (h : QOut w A c ms) (hb : Below w.heap.size w w') : QOut w' A c ms := ⟨h.quads.below hb, h.le, h.cap⟩
theorem QOut.open_ {w : World} {A : Option Addr} {c : Nat} {ms : List Qd} (h : QOut w A c ms) (hn : 0 < ms.length) :
    ∃ b o, A = some ⟨b, o, none⟩ ∧ b < w.heap.size ∧ ∀ (k : Nat) (m : Qd), ms[k]? = some m → w.cell? ⟨b, o + k * 4, none⟩ = some (.int .i64 m.1.1) ∧ w.cell? ⟨b, o + k * 4 + 1, none⟩ = some (.int .i64 m.1.2) ∧ w.cell? ⟨b, o + k * 4 + 2, none⟩ = some (.int .i64 m.2.1) ∧ w.cell? ⟨b, o + k * 4 + 3, none⟩ = some (.int .i64 m.2.2) := by
  obtain ⟨ad, e, hb, hall⟩ := h.quads.2 hn
  obtain ⟨m0, hm0⟩ : ∃ m, ms[0]? = some m := ⟨_, List.getElem?_eq_getElem hn⟩
  have hc := hall 0 _ (quad_get ms 0 m0 hm0).1
  obtain ⟨b, o, s⟩ := ad
  have hs : s = none := by simpa [Addr.add] using World.cell?_spot hc
  subst hs
  refine ⟨b, o, e, hb, fun k m hm => ?_⟩
  have h2 := quad_get ms k m hm
  rw [Nat.add_assoc, Nat.add_assoc, Nat.add_assoc, ← add_mk, ← add_mk, ← add_mk, ← add_mk]
  exact ⟨hall _ _ h2.1, hall _ _ h2.2.1, hall _ _ h2.2.2.1, hall _ _ h2.2.2.2⟩
theorem quad_info : (Try.prog.info? 47).map (fun i => (i.zero, i.size, i.bytes)) = some (some (.agg #[.int .i64 0, .int .i64 0, .int .i64 0, .int .i64 0]), 4, 32) := by kernel_rfl
theorem own_quads {w : World} {base n : Nat} {v : Value} {xs : List Qd} (h : w.ownsRow base 47 4 v n (xs.flatMap mk4)) :
    ∃ A c, v = .slice A xs.length c ∧ QOut w A c xs := by
  have hl : xs.length = n := by have := h.1; rw [quad_len] at this; omega
  subst hl
  rcases h.2 with ⟨rfl, h0⟩ | ⟨g, cap, cur, rfl, _, _, h1, h2, _⟩
  · have : xs = [] := List.eq_nil_of_length_eq_zero h0
    subst this
    exact ⟨none, 0, rfl, QOut.nil_⟩
  · exact ⟨_, cap, rfl, Reads.of_own h, h1, h2⟩
section
variable {ops : Array Oper} {o : Oper} {a : Act} {K : Act → World → Prop} {Q : Exit → Act → World → Prop} {E : Prop}
theorem step_app0 {P : Program} (w : World) (hgd : o.guard = none) (s x : Operand) (t : TypeId)
    (ho : o.op = .call { callee := .builtin .append, args := #[s, x], argTypes := #[t, t] })
    (base : Nat) (e : TypeId) (i : TypeInfo) (zero : Value) (size bytes : Nat) (ht : P.underlying t = some (.slice e)) (hi : P.info? e = some i) (hz : i.zero = some zero)
    (hsize : i.size = size) (hby : i.bytes = bytes) (hzs : zero.cells.size = size) (hsz : 0 < size) (hb64 : bytes ≤ 64)
    (v : Value) (n : Nat) (xs : List Value) (cs : List Value) (hs : a.eval s = v) (hown : w.ownsRow base e size v n xs)
    (hx : a.eval x = .slice (some ⟨w.heap.size, 0, none⟩) 1 1) (hl : cs.length = size) (h1 : ∀ u ∈ cs, u.oneCell' = true)
    (hn : n ≤ 1000000) (hbase : base ≤ w.heap.size)
    (h : ∀ v' w', w'.ownsRow base e size v' (n + 1) (xs ++ cs) → Below base w w' → (∀ g, g < w.heap.size → v.ownBlock ≠ some g → w'.heap[g]? = w.heap[g]?) → K (a.put o.dst v') w') :
    if Region.wanted o (yielded ops a.tmps) = true then Oper.wp P o a (w.alloc (.cells cs.toArray e)) K Q else E := by
  have hw : Region.wanted o (yielded ops a.tmps) = true := by simp [Region.wanted, hgd]
  rw [if_pos hw]
  refine wp_append_own _ s x t ho base e i zero size bytes ht hi hz hsize hby hzs hsz v n xs hs (hown.alloc _) ⟨w.heap.size, 0, none⟩ 1 1 cs hx (by omega)
    (cells_new w cs e) h1 (by unfold maxLen; omega) ?_ (by simp; omega) ?_
  · have : (n + 1) * bytes ≤ (n + 1) * 64 := Nat.mul_le_mul_left _ hb64
    omega
  · intro v' w' ho' hg _
    refine h v' w' ho' (((Below.refl base w).alloc hbase _).grown hg (by simp; omega) ?_) ?_
    · intro k hk
      exact (hown.lt k hk).1
    · intro g hg1 hg2
      exact (hg.block g (by simp; omega) (fun e => hg2 e.symm)).trans (Below.heap_alloc w _ g hg1)
theorem step_app_quad0 (w : World) (hgd : o.guard = none) (s x : Operand)
    (ho : o.op = .call { callee := .builtin .append, args := #[s, x], argTypes := #[44, 44] })
    (base : Nat) (v : Value) (n : Nat) (xs : List Qd) (y z t u : Int) (hs : a.eval s = v) (hown : w.ownsRow base 47 4 v n (xs.flatMap mk4))
    (hx : a.eval x = .slice (some ⟨w.heap.size, 0, none⟩) 1 1) (hn : n ≤ 1000000) (hbase : base ≤ w.heap.size)
    (h : ∀ v' w', w'.ownsRow base 47 4 v' (n + 1) ((xs ++ [((y, z), (t, u))]).flatMap mk4) → Below base w w' → (∀ g, g < w.heap.size → v.ownBlock ≠ some g → w'.heap[g]? = w.heap[g]?) → K (a.put o.dst v') w') :
    if Region.wanted o (yielded ops a.tmps) = true then Oper.wp Try.prog o a (w.alloc (.cells #[.int .i64 y, .int .i64 z, .int .i64 t, .int .i64 u] 47)) K Q else E := by
  obtain ⟨i0, hi0, hz0, hz1, hz2⟩ := info_parts quad_info
  refine step_app0 w hgd s x 44 ho base 47 i0 (.agg #[.int .i64 0, .int .i64 0, .int .i64 0, .int .i64 0]) 4 32 Try.underlying44 hi0 hz0 hz1 hz2 rfl (by decide) (by decide) v n _ [.int .i64 y, .int .i64 z, .int .i64 t, .int .i64 u] hs hown hx rfl ?_ hn hbase ?_
  · intro r hr; simp at hr; rcases hr with rfl | rfl | rfl | rfl <;> rfl
  · intro v' w' h1 h2 h3
    exact h v' w' (by rw [List.flatMap_append]; exact h1) h2 h3
end

def cuQ (ns ss : List Int) (k : Nat) : Qd := ((lowN (cvP ns ss k).1 ns.sum, lowD (cvP ns ss k).1 ns.sum), (lowN (cvP ns ss k).2 ss.sum, lowD (cvP ns ss k).2 ss.sum))
def cuL (ns ss : List Int) (m : Nat) : List Qd := (List.range m).map (cuQ ns ss)
theorem cu_succ (ns ss : List Int) (m : Nat) : cuL ns ss (m + 1) = cuL ns ss m ++ [cuQ ns ss m] := by simp [cuL, List.range_succ]
theorem cu_len (ns ss : List Int) (m : Nat) : (cuL ns ss m).length = m := by simp [cuL]
theorem cu_zero (ns ss : List Int) : cuL ns ss 0 = [] := rfl
theorem kept_perm {zs xs ys : List Int} (h : xs.Perm ys) : keptL zs xs = keptL zs ys := sum_perm (h.map _)
theorem kept_cv {ns ss : List Int} (k : Nat) : keptL ns (ctL ns ss k) = (cvP ns ss k).1 ∧ keptL ss (ctL ns ss k) = (cvP ns ss k).2 := by
  rw [kept_perm (ct_perm ns ss k), kept_perm (zs := ss) (ct_perm ns ss k)]
  unfold keptL cvP s1 s2 prR rowL
  rw [← List.map_take, ← List.map_take, List.map_map, List.map_map, List.map_map, List.map_map]
  exact ⟨rfl, rfl⟩
end Go.Proofs.Ytolpbbabmcpdkaa
