/-
  Plain words: the fewest lamps; two slices of the call's own that grow side by side.
-/
import Derived.Test.YtmndfcjkokolbaaReachM
namespace Go.Proofs.Ytmndfcjkokolbaa
open Go.RowKit Go.Shelf

/-- The lamps from a metre on, each with its metre. -/
def lampG (l : List Int) (s : Int) : Nat → Nat → Option (List (Int × Int))
  | 0, _ => some []
  | fuel + 1, m => if m < l.length then (if dnN l m s = m then none else (lampG l s fuel (dnN l (dnN l m s) s)).map fun t => ((dnN l m s : Int), (m : Int)) :: t) else some []
def lampO (l : List Int) (s : Int) : Option (List (Int × Int)) := lampG l s l.length 0

theorem lamp_none {l : List Int} {s : Int} {fuel m : Nat} {ps : List (Int × Int)} (h : lampO l s = (lampG l s fuel m).map (ps ++ ·)) (hm : m < l.length) (hf : l.length ≤ m + fuel) (he : dnN l m s = m) : lampO l s = none := by
  obtain ⟨f, rfl⟩ : ∃ f, fuel = f + 1 := ⟨fuel - 1, by omega⟩
  rw [h, lampG, if_pos hm, if_pos he]; rfl
theorem lamp_next {l : List Int} {s : Int} {fuel m : Nat} {ps : List (Int × Int)} (h : lampO l s = (lampG l s fuel m).map (ps ++ ·)) (hm : m < l.length) (hf : l.length ≤ m + fuel) (he : dnN l m s ≠ m) :
    lampO l s = (lampG l s (fuel - 1) (dnN l (dnN l m s) s)).map ((ps ++ [((dnN l m s : Int), (m : Int))]) ++ ·) := by
  obtain ⟨f, rfl⟩ : ∃ f, fuel = f + 1 := ⟨fuel - 1, by omega⟩
  rw [h, lampG, if_pos hm, if_neg he, Nat.add_sub_cancel, Option.map_map]
  congr 1
  funext t
  simp
theorem lamp_end {l : List Int} {s : Int} {fuel m : Nat} {ps : List (Int × Int)} (h : lampO l s = (lampG l s fuel m).map (ps ++ ·)) (hm : l.length ≤ m) : lampO l s = some ps := by
  rw [h]
  cases fuel with
  | zero => rw [lampG]; simp
  | succ f => rw [lampG, if_neg (by omega)]; simp
theorem lamp_start (l : List Int) (s : Int) : lampO l s = (lampG l s l.length 0).map (([] : List (Int × Int)) ++ ·) := by
  rw [lampO]; cases lampG l s l.length 0 <;> rfl
theorem lamp_ne {l : List Int} {s : Int} (hl : 1 ≤ l.length) (h : lampO l s = some []) : False := by
  unfold lampO at h
  obtain ⟨f, hf⟩ : ∃ f, l.length = f + 1 := ⟨l.length - 1, by omega⟩
  rw [hf, lampG, if_pos (by omega)] at h
  split at h
  · cases h
  · cases hh : lampG l s f (dnN l (dnN l 0 s) s) <;> rw [hh] at h <;> simp at h

/-- Two slices do not lie in one block. -/
def Sep (v u : Value) : Prop := ∀ g, v.ownBlock = some g → u.ownBlock ≠ some g
theorem Sep.symm {v u : Value} (h : Sep v u) : Sep u v := fun g h1 h2 => h g h2 h1
theorem sep_none {v : Value} {n c : Nat} : Sep v (.slice none n c) := fun g _ h => by simp [Value.ownBlock] at h
theorem own_keep2 {w w' : World} {base : Nat} {e : TypeId} {sz n : Nat} {v u : Value} {ys : List Value} (h : w.ownsRow base e sz u n ys)
    (hfar : ∀ g, g < w.heap.size → v.ownBlock ≠ some g → w'.heap[g]? = w.heap[g]?) (hsep : Sep v u) : w'.ownsRow base e sz u n ys := by
  refine ⟨h.1, ?_⟩
  rcases h.2 with ⟨rfl, h0⟩ | ⟨g, cap, cur, rfl, hb, hh, h1, h2, h3, h4⟩
  · exact .inl ⟨rfl, h0⟩
  · refine .inr ⟨g, cap, cur, rfl, hb, ?_, h1, h2, h3, h4⟩
    rw [hfar g (Array.getElem?_eq_some_iff.1 hh).1 (fun hv => hsep g hv rfl)]
    exact hh
theorem sep_head {w : World} {base : Nat} {e : TypeId} {n m : Nat} {v u : Value} {xs ys : List Value} {a b : Value} (hv : w.ownsRow base e 1 v n xs) (hu : w.ownsRow base e 1 u m ys)
    (ha : xs[0]? = some a) (hb : ys[0]? = some b) (hab : a ≠ b) : Sep v u := by
  intro g hgv hgu
  have hx : 0 < xs.length := (List.getElem?_eq_some_iff.1 ha).1
  have hy : 0 < ys.length := (List.getElem?_eq_some_iff.1 hb).1
  have hn := hv.1
  have hm := hu.1
  rcases hv.2 with ⟨rfl, _⟩ | ⟨g1, c1, r1, rfl, _, hh1, _, _, _, h1⟩
  · simp [Value.ownBlock] at hgv
  · rcases hu.2 with ⟨rfl, _⟩ | ⟨g2, c2, r2, rfl, _, hh2, _, _, _, h2⟩
    · simp [Value.ownBlock] at hgu
    · simp [Value.ownBlock] at hgv hgu
      subst hgv hgu
      rw [hh1] at hh2
      injection hh2 with hh2
      injection hh2 with hr
      rw [← h1, List.getElem?_take_of_lt (by omega)] at ha
      rw [← h2, List.getElem?_take_of_lt (by omega), ← hr] at hb
      rw [ha] at hb
      exact hab (Option.some.inj hb)

section
variable {ops : Array Oper} {rest : List Oper} {o : Oper} {a : Act} {Q : Exit → Act → World → Prop}
theorem wp_app_int2 (w : World) (hgd : o.guard = none) (s x : Operand)
    (ho : o.op = .call { callee := .builtin .append, args := #[s, x], argTypes := #[37, 37] })
    (base : Nat) (v : Value) (n : Nat) (xs : List Int) (z : Int) (hs : a.eval s = v) (hown : w.ownsRow base 3 1 v n (xs.map (Value.int .i64)))
    (hx : a.eval x = .slice (some ⟨w.heap.size, 0, none⟩) 1 1) (hn : n ≤ 1000000) (hbase : base ≤ w.heap.size)
    (h : ∀ v' w', w'.ownsRow base 3 1 v' (n + 1) ((xs ++ [z]).map (Value.int .i64)) → Below base w w' → (∀ g, g < w.heap.size → v.ownBlock ≠ some g → w'.heap[g]? = w.heap[g]?) → wpList Try.prog ops Q rest (a.put o.dst v') w') :
    wpList Try.prog ops Q (o :: rest) a (w.alloc (.cells #[.int .i64 z] 3)) := by
  obtain ⟨i0, hi0, hz0, hz1, hz2⟩ := info_parts int_info
  refine wpList_append_own _ hgd s x 37 ho base 3 i0 (.int .i64 0) 1 8 Try.underlying37 hi0 hz0 hz1 hz2 rfl (by decide) v n _ hs (hown.alloc _) ⟨w.heap.size, 0, none⟩ 1 1 [.int .i64 z] hx rfl
    (cells_new w [.int .i64 z] 3) ?_ (by unfold maxLen; omega) (by omega) (by simp; omega) ?_
  · intro u hu; simp at hu; subst hu; rfl
  · intro v' w' ho' hg _
    refine h v' w' (by simpa using ho') (((Below.refl base w).alloc hbase _).grown hg (by simp; omega) ?_) ?_
    · intro k hk
      exact (hown.lt k hk).1
    · intro g hg1 hg2
      exact (hg.block g (by simp; omega) (fun e => hg2 e.symm)).trans (Below.heap_alloc w _ g hg1)
end

/-- The lamps and their metres so far, as two slices of the call's own. -/
structure Two (w : World) (base : Nat) (v u : Value) (ps : List (Int × Int)) : Prop where
  lamps : w.ownsRow base 3 1 v ps.length ((ps.map (·.1)).map (Value.int .i64))
  metres : w.ownsRow base 3 1 u ps.length ((ps.map (·.2)).map (Value.int .i64))
  sep : Sep v u
  first : ps = [] → u = .slice none 0 0
  apart : ∀ p ∈ ps, p.1 ≠ p.2
theorem Two.nil_ (w : World) (base : Nat) : Two w base (.slice none 0 0) (.slice none 0 0) [] :=
  ⟨World.ownsRow_nil _ _ _ _, World.ownsRow_nil _ _ _ _, sep_none, fun _ => rfl, fun p hp => by cases hp⟩
theorem Two.drewN {w : World} {base : Nat} {v u : Value} {ps : List (Int × Int)} (h : Two w base v u ps) (n : Nat) : Two (w.drewN n) base v u ps :=
  ⟨h.lamps, h.metres, h.sep, h.first, h.apart⟩
/-- Behind the first append. -/
structure Half (w : World) (base : Nat) (v u : Value) (ps : List (Int × Int)) (z : Int) : Prop where
  lamps : w.ownsRow base 3 1 v (ps.length + 1) ((ps.map (·.1) ++ [z]).map (Value.int .i64))
  metres : w.ownsRow base 3 1 u ps.length ((ps.map (·.2)).map (Value.int .i64))
  sep : Sep v u
  apart : ∀ p ∈ ps, p.1 ≠ p.2
theorem two_half {w w' : World} {base : Nat} {v u v' : Value} {ps : List (Int × Int)} {z : Int} (h : Two w base v u ps) (ho : w'.ownsRow base 3 1 v' (ps.length + 1) ((ps.map (·.1) ++ [z]).map (Value.int .i64)))
    (hfar : ∀ g, g < w.heap.size → v.ownBlock ≠ some g → w'.heap[g]? = w.heap[g]?) : Half w' base v' u ps z := by
  have hm := own_keep2 h.metres hfar h.sep
  refine ⟨ho, hm, ?_, h.apart⟩
  cases ps with
  | nil => rw [h.first rfl]; exact sep_none
  | cons p t => exact sep_head ho hm rfl rfl (by intro e; injection e with _ e; exact h.apart p (by simp) e)
theorem half_two {w w' : World} {base : Nat} {v u u' : Value} {ps : List (Int × Int)} {z y : Int} (h : Half w base v u ps z) (ho : w'.ownsRow base 3 1 u' (ps.length + 1) ((ps.map (·.2) ++ [y]).map (Value.int .i64)))
    (hfar : ∀ g, g < w.heap.size → u.ownBlock ≠ some g → w'.heap[g]? = w.heap[g]?) (hzy : z ≠ y) : Two w' base v u' (ps ++ [(z, y)]) := by
  have hl := own_keep2 h.lamps hfar h.sep.symm
  refine ⟨by simpa using hl, by simpa using ho, ?_, fun e => by simp at e, ?_⟩
  · cases ps with
    | nil => exact sep_head hl ho rfl rfl (by intro e; injection e with _ e; exact hzy e)
    | cons p t => exact sep_head hl ho rfl rfl (by intro e; injection e with _ e; exact h.apart p (by simp) e)
  · intro p hp
    rw [List.mem_append] at hp
    rcases hp with hp | hp
    · exact h.apart p hp
    · simp at hp; subst hp; exact hzy
theorem own_some {w : World} {base n : Nat} {v : Value} {xs : List Int} (h : w.ownsRow base 3 1 v n (xs.map (Value.int .i64))) (hn : 0 < n) :
    ∃ g c, v = .slice (some ⟨g, 0, none⟩) xs.length c ∧ Out w (some ⟨g, 0, none⟩) c xs := by
  have hl : xs.length = n := by have := h.1; simpa using this
  subst hl
  rcases h.2 with ⟨rfl, h0⟩ | ⟨g, cap, cur, rfl, _, _, h1, h2, _⟩
  · omega
  · exact ⟨g, cap, rfl, Reads.of_own h, h1, h2⟩
end Go.Proofs.Ytmndfcjkokolbaa
