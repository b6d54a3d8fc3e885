/-
  Contract: proof (track): what it tells are weights that prove the cost of a best line.
-/
import Derived.Test.YtoilbgngefleiaaWei2
import Derived.Deep.CutRange
namespace Go.Proofs.Ytoilbgngefleiaa
open Go.RowKit Go.Shelf

def sdL (ms : List (Int × Int)) (a b d : Int) : List Int := ms.map fun q => cmpV (rsI a b d q) 0
theorem sd_len (ms : List (Int × Int)) (a b d : Int) : (sdL ms a b d).length = ms.length := by simp [sdL]
theorem sd_sum (ms : List (Int × Int)) (a b d : Int) : (sdL ms a b d).sum = siT ms a b d := rfl
theorem sd_getD (ms : List (Int × Int)) (a b d : Int) {j : Nat} (h : j < ms.length) : (sdL ms a b d).getD j 0 = cmpV (rsI a b d (ms.getD j (0, 0))) 0 := by
  unfold sdL
  rw [List.getD_eq_getElem?_getD, List.getElem?_map, List.getElem?_eq_getElem h, List.getD_eq_getElem?_getD, List.getElem?_eq_getElem h]; rfl
theorem sd_tur (ms : List (Int × Int)) (a b d : Int) : turL ms (sdL ms a b d) = siU ms a b d := by
  unfold turL siU
  rw [sd_len, sm_getD _ ms (0, 0)]
  exact sm_congr fun j hj => by rw [sd_getD ms a b d (List.mem_range.1 hj)]
theorem ch_tur (ms : List (Int × Int)) (fs : List Int) (f : Nat → Int) : turL (chL ms fs) ((List.range fs.length).map f) = sm (fun j => f j * xK ms fs j) (List.range fs.length) := by
  unfold turL
  rw [List.length_map, List.length_range]
  refine sm_congr fun j hj => ?_
  have hj := List.mem_range.1 hj
  rw [map_getD f hj]
  congr 1
  unfold chL xK
  rw [List.getD_eq_getElem?_getD, List.getElem?_map, List.getElem?_eq_getElem hj, List.getD_eq_getElem?_getD, List.getElem?_eq_getElem hj]; rfl
theorem on_bd {ms : List (Int × Int)} {a b d : Int} {fs : List Int} (hF : OnL ms a b d fs) (hX : ∀ q ∈ ms, -100 ≤ q.1 ∧ q.1 ≤ 100) {j : Nat} (hj : j < fs.length) : -100 ≤ xK ms fs j ∧ xK ms fs j ≤ 100 := by
  obtain ⟨k, ek, hk, _⟩ := on_mem hF (getD_mem' 0 hj)
  unfold xK ptK
  rw [ek, Int.toNat_natCast]
  exact hX _ (getD_mem' _ hk)
theorem lean_box {ms : List (Int × Int)} {a b d : Int} {fs : List Int} (hF : OnL ms a b d fs) (hn : fs.length ≤ 12) (hX : ∀ q ∈ ms, -100 ≤ q.1 ∧ q.1 ≤ 100) {f : Nat → Int} (hf : ∀ j, -1 ≤ f j ∧ f j ≤ 1) :
    -1200 ≤ sm (fun j => f j * xK ms fs j) (List.range fs.length) ∧ sm (fun j => f j * xK ms fs j) (List.range fs.length) ≤ 1200 := by
  have u : sm (fun j => f j * xK ms fs j) (List.range fs.length) ≤ sm (fun _ => (100 : Int) * 1) (List.range fs.length) := sm_le fun j hj => by
    obtain ⟨x0, x1⟩ := on_bd hF hX (List.mem_range.1 hj)
    obtain ⟨f0, f1⟩ := hf j
    rcases (show f j = -1 ∨ f j = 0 ∨ f j = 1 by omega) with h | h | h <;> rw [h] <;> omega
  have v : sm (fun _ => (-100 : Int) * 1) (List.range fs.length) ≤ sm (fun j => f j * xK ms fs j) (List.range fs.length) := sm_le fun j hj => by
    obtain ⟨x0, x1⟩ := on_bd hF hX (List.mem_range.1 hj)
    obtain ⟨f0, f1⟩ := hf j
    rcases (show f j = -1 ∨ f j = 0 ∨ f j = 1 by omega) with h | h | h <;> rw [h] <;> omega
  rw [sm_mul, sm_one] at u v
  omega
theorem sd_bd {ms : List (Int × Int)} {a b d : Int} : ∀ z ∈ sdL ms a b d, -1 ≤ z ∧ z ≤ 1 := fun z hz => by
  obtain ⟨q, _, rfl⟩ := List.mem_map.1 hz
  unfold cmpV; (repeat' split) <;> omega
/-- A row of the call's own where another block is written. -/
theorem own_other {w : World} {base : Nat} {e : TypeId} {sz n : Nat} {v : Value} {xs : List Value} (h : w.ownsRow base e sz v n xs) (p : Addr) (u : Value) (hne : v.ownBlock ≠ some p.block) : (w.setCell p u).ownsRow base e sz v n xs := by
  refine ⟨h.1, ?_⟩
  rcases h.2 with ⟨rfl, h0⟩ | ⟨g, cap, cur, rfl, hb, hh, h1, h2, h3, h4⟩
  · exact .inl ⟨rfl, h0⟩
  · exact .inr ⟨g, cap, cur, rfl, hb, (heap_setCell_other _ _ _ _ (fun e => hne (by simp [Value.ownBlock, e]))).trans hh, h1, h2, h3, h4⟩
theorem set_append {xs ys : List Int} {k : Nat} {v z : Int} (hx : xs.length = k) : (xs ++ z :: ys).set k v = xs ++ v :: ys := by
  subst hx; simp
/-- A list of n zeros of which the first k are those of another one. -/
def fillZ (zs : List Int) (k : Nat) : List Int := zs.take k ++ List.replicate (zs.length - k) 0
theorem fillZ_len (zs : List Int) {k : Nat} (h : k ≤ zs.length) : (fillZ zs k).length = zs.length := by
  rw [fillZ, List.length_append, List.length_take, List.length_replicate]; omega
theorem fillZ_set {zs : List Int} {k : Nat} {z : Int} (h : zs[k]? = some z) : (fillZ zs k).set k z = fillZ zs (k + 1) := by
  have hk := (List.getElem?_eq_some_iff.1 h).1
  obtain ⟨m, hm⟩ : ∃ m, zs.length - k = m + 1 := ⟨zs.length - k - 1, by omega⟩
  rw [fillZ, hm, List.replicate_succ, set_append (by rw [List.length_take]; omega), fillZ, take_snoc h, show zs.length - (k + 1) = m by omega, List.append_assoc]; rfl
theorem fillZ_full (zs : List Int) : fillZ zs zs.length = zs := by simp [fillZ]
theorem fillZ_zero (zs : List Int) : fillZ zs 0 = List.replicate zs.length 0 := by simp [fillZ]
end Go.Proofs.Ytoilbgngefleiaa
