/-
  Contracts: lossesOf, depth, whole, loss, look (ice).
-/
import Derived.Test.YtmndfcjkokolbaaValid
import Derived.Laws.OwnMore
namespace Go.Proofs.Ytmndfcjkokolbaa
open Go.RowKit Go.Shelf

theorem own_below {w w3 : World} {base : Nat} {e : TypeId} {size n : Nat} {v : Value} {xs : List Value} (h : w.ownsRow base e size v n xs) (hB : Below w.heap.size w w3) : w3.ownsRow base e size v n xs :=
  h.kept (World.grownBy.mk hB.os hB.tape hB.output hB.size (fun i hi _ => hB.block i hi) : World.grownBy _ w3 none) (by cases hh : Value.ownBlock v with | none => exact .inl rfl | some g => exact .inr (by simp))

section
variable {ops : Array Oper} {rest : List Oper} {o : Oper} {a : Act} {Q : Exit → Act → World → Prop}
theorem wp_app_los (w : World) (hgd : o.guard = none) (s x : Operand)
    (ho : o.op = .call { callee := .builtin .append, args := #[s, x], argTypes := #[67, 67] })
    (base : Nat) (v : Value) (n : Nat) (xs : List Int) (z : Int) (hs : a.eval s = v) (hown : w.ownsRow base 3 1 v n (xs.map (Value.int .i64)))
    (hx : a.eval x = .slice (some ⟨w.heap.size, 0, none⟩) 1 1) (hn : n ≤ 1000000) (hbase : base ≤ w.heap.size)
    (h : ∀ v' w', w'.ownsRow base 3 1 v' (n + 1) ((xs ++ [z]).map (Value.int .i64)) → Below base w w' → wpList Try.prog ops Q rest (a.put o.dst v') w') :
    wpList Try.prog ops Q (o :: rest) a (w.alloc (.cells #[.int .i64 z] 3)) := by
  obtain ⟨i0, hi0, hz0, hz1, hz2⟩ := info_parts int_info
  refine wp_app w hgd s x 67 ho base 3 i0 (.int .i64 0) 1 8 Try.underlying67 hi0 hz0 hz1 hz2 rfl (by decide) (by decide) v n _ [.int .i64 z] hs hown hx rfl ?_ hn hbase ?_
  · intro u hu; simp at hu; subst hu; rfl
  · intro v' w' h1 h2
    exact h v' w' (by simpa using h1) h2
end

/-- Ice with other Dims. -/
def zipD (ms : List (Int × Int)) (ds : List Int) : List (Int × Int) := List.zipWith (fun m d => (m.1, d)) ms ds
theorem zipD_get {ms : List (Int × Int)} {ds : List Int} {k : Nat} {a b d : Int} (h : ms[k]? = some (a, b)) (hd : ds[k]? = some d) : (zipD ms ds)[k]? = some (a, d) := by
  rw [zipD, List.getElem?_zipWith, h, hd]
theorem zipD_self (ms : List (Int × Int)) : zipD ms (ms.map (·.2)) = ms := by
  unfold zipD
  induction ms with
  | nil => rfl
  | cons m t ih => simp [ih]
theorem zipD_len {ms : List (Int × Int)} {ds : List Int} (h : ds.length = ms.length) : (zipD ms ds).length = ms.length := by simp [zipD, h]
theorem zipD_ok {ms : List (Int × Int)} {ds : List Int} (hv : viB ms = true) (h : ds.length = ms.length) (hd : ∀ d ∈ ds, 0 ≤ d ∧ d ≤ 100) : viB (zipD ms ds) = true := by
  have := vi_parts hv
  rw [viB, zipD_len h, decide_eq_true this, Bool.true_and, List.all_eq_true]
  intro m hm
  obtain ⟨k, hk, e⟩ := List.mem_iff_getElem.1 hm
  have hk2 : k < ms.length := by rw [zipD_len h] at hk; exact hk
  obtain ⟨a, b, hx⟩ := getM_of_lt hk2
  obtain ⟨d, hdd⟩ := getElem?_of_lt (show k < ds.length by omega)
  have := zipD_get hx hdd
  rw [List.getElem?_eq_getElem hk, e] at this
  cases this
  have h1 := vi_at hv hx
  have h2 := hd d (List.mem_of_getElem? hdd)
  simp [layB]; omega

/-- What is asked of a function value that tells each layer's Dim. -/
def DimAt (g : Nat) (lb : Array Value) (ds : List Int) (w : World) : Prop :=
  ∀ (W : World) (n : Nat) (d : Int), ds[n]? = some d → Below w.heap.size w W → Calls Try.prog g (#[.int .i64 n] ++ lb) W fun e w' => e = .returned (.int .i64 d) ∧ Below W.heap.size W w'

theorem los_next {ns : List (Int × Int)} {k : Nat} {d s : Int} {j : Nat} {xs : List Int} (h : xs = preL (mtL (ns.take k) ++ List.replicate j d) ∧ s = (mtL (ns.take k) ++ List.replicate j d).sum) :
    xs ++ [s + d] = preL (mtL (ns.take k) ++ List.replicate (j + 1) d) ∧ s + d = (mtL (ns.take k) ++ List.replicate (j + 1) d).sum := by
  rw [rep_snoc, preL_snoc, ← h.1, ← h.2, List.sum_append_int, ← h.2]; simp
theorem los_close {ns : List (Int × Int)} {k : Nat} {a d s : Int} {j : Nat} {xs : List Int} (hx : ns[k]? = some (a, d)) (hj : (j : Int) = a) (h : xs = preL (mtL (ns.take k) ++ List.replicate j d) ∧ s = (mtL (ns.take k) ++ List.replicate j d).sum) :
    xs = preL (mtL (ns.take (k + 1))) ∧ s = (mtL (ns.take (k + 1))).sum := by
  rw [mt_snoc hx, show (a, d).1.toNat = j by simp; omega]; exact h

set_option maxRecDepth 100000 in
set_option maxHeartbeats 1000000 in
theorem lossesOf_any (g : Nat) (lb : Array Value) (ds : List Int) (eg : ∀ args w, (callFunc g args).run Try.prog w = .ok (.enter g args) w) (ms : List (Int × Int)) (A : Option Addr) (c : Nat) (w : World) (hK : DimAt g lb ds w) (h : Marks w A ms)
    (hv : viB ms = true) (hl : ds.length = ms.length) (hd : ∀ d ∈ ds, 0 ≤ d ∧ d ≤ 100) :
    Calls Try.prog 94 #[.slice A ms.length c, .func (.func g) #[] lb] w fun e w' => ∃ (A' : Option Addr) (c' : Nat) (xs : List Int), e = .returned (.slice A' xs.length c') ∧ Out w' A' c' xs ∧ Below w.heap.size w w' ∧ Hid (xs = preL (mtL (zipD ms ds))) := by
  have hn := vi_parts hv
  obtain ⟨bl, off, rfl, hbk, hcells⟩ := h.open_ (by omega)
  have HC := Lib.hid hcells
  have HK := Lib.hid hK
  have HV := Lib.hid hv
  have HD := Lib.hid hd
  have HL := Lib.hid hl
  obtain ⟨ns, hns⟩ : ∃ ns, zipD ms ds = ns := ⟨_, rfl⟩
  have HNS := Lib.hid hns
  have hnl : ns.length = ms.length := by rw [← hns]; exact zipD_len hl
  have HNL := Lib.hid hnl
  rw [hns]
  clear hcells hK hv hd hl h hns hnl
  go_enter Try.func94, Try.ntmps94
  go_wp2
  go_loopw [5, 6, 12] (fun v los i wr => ∃ k : Nat, k ≤ ms.length ∧ i = .int .i64 k ∧ ∃ xs : List Int, wr.ownsRow w.heap.size 3 1 v xs.length (xs.map (Value.int .i64)) ∧ xs.length ≤ 1 + 30 * k ∧ ∃ s : Int, los = .int .i64 s ∧ 0 ≤ s ∧ s ≤ 3000 * k ∧ Hid (xs = preL (mtL (ns.take k)) ∧ s = (mtL (ns.take k)).sum) ∧ Below w.heap.size w wr) (fun _ _ i _ => ms.length - (intOf i).toNat)
  case atStart => exact ⟨0, Nat.zero_le _, rfl, [0], World.ownsRow_lit w #[.int .i64 0] 1 (Nat.le_refl _) (by decide) rfl, by simp, 0, rfl, Int.le_refl _, by simp, ⟨rfl, rfl⟩, (by repeat (first | with_reducible exact Below.refl _ _ | with_reducible assumption | refine below_drewN ?_ _ | with_reducible refine Below.drew ?_ | (refine Below.setCell ?_ (by first | (simp; done) | (simp; omega) | omega) _) | (refine Below.alloc ?_ (by first | (simp; done) | (simp; omega) | omega) _)))⟩
  case round =>
    obtain ⟨k, hk, rfl, xs, hown, hxl, s, rfl, hs0, hs1, hX, hB⟩ := hrel
    by_cases hlt : k < ms.length
    · obtain ⟨a, b, hx⟩ := getM_of_lt hlt
      obtain ⟨d, hd⟩ := getElem?_of_lt (show k < ds.length by rw [HL.out]; exact hlt)
      have f0 := (hB.cell (p := ⟨bl, off + k * 2, none⟩) hbk).trans (HC.out _ _ hx).1
      have f1 := (hB.cell (p := ⟨bl, off + k * 2 + 1, none⟩) hbk).trans (HC.out _ _ hx).2
      have hab := vi_at HV.out hx
      have hdb := HD.out d (List.mem_of_getElem? hd)
      have HDD := Lib.hid hd
      have HX2 : Hid (ns[k]? = some (a, d)) := by rw [← HNS.out]; exact zipD_get hx hd
      clear hx hd
      have hz := hB.size
      have hbw : bl < wr.heap.size := Nat.lt_of_lt_of_le hbk hz
      go_wp2
      go_loopw [5, 6, 19] (fun v los i w1 => ∃ j : Nat, (j : Int) ≤ a ∧ i = .int .i64 j ∧ ∃ xs : List Int, w1.ownsRow w.heap.size 3 1 v xs.length (xs.map (Value.int .i64)) ∧ xs.length ≤ 1 + 30 * k + j ∧ ∃ s : Int, los = .int .i64 s ∧ 0 ≤ s ∧ s ≤ 3000 * k + 100 * j ∧ Hid (xs = preL (mtL (ns.take k) ++ List.replicate j d) ∧ s = (mtL (ns.take k) ++ List.replicate j d).sum) ∧ Below w.heap.size w w1) (fun _ _ i _ => a.toNat - (intOf i).toNat)
      case atStart => exact ⟨0, by omega, rfl, xs, hown.alloc _ |> fun h => by first | exact h | exact (World.ownsRow.alloc hown _), by omega, s, rfl, hs0, by omega, (by simpa using hX), (by repeat (first | with_reducible exact Below.refl _ _ | with_reducible assumption | refine below_drewN ?_ _ | with_reducible refine Below.drew ?_ | (refine Below.setCell ?_ (by first | (simp; done) | (simp; omega) | omega) _) | (refine Below.alloc ?_ (by first | (simp; done) | (simp; omega) | omega) _)))⟩
      case round =>
        clear hown hX hB hxl hs0 hs1
        obtain ⟨j, hj, rfl, ys, hown, hxl, r, rfl, hs0, hs1, hX, hB⟩ := hrel
        by_cases hlt2 : (j : Int) < a
        · have t1 : decide ((j : Int) < a) = true := decide_eq_true hlt2
          go_wp2_with (first
            | (go_at_fn g; refine (HK.out _ k d HDD.out hB).mono ?_; rintro e w3 ⟨rfl, hB3⟩; have hown3 := own_below hown hB3; have hW3 : Below w.heap.size w w3 := below_step hB hB3)
            | (at_builtin; refine wp_app_los _ rfl (.tmp 26) (.tmp 28) rfl w.heap.size _ ys.length ys _ rfl hown3 rfl (by omega) hW3.size ?_; intro v2 w2 hown2 hB2))
          go_roundw
          case rel => exact ⟨j + 1, by omega, by go_num, ys ++ [r + d], by rw [List.length_append]; exact hown2, by simp; omega, r + d, by go_num, by omega, by omega, los_next hX.out, hW3.trans hB2⟩
          case measure => simp [intOf]; omega
        · have t1 : decide ((j : Int) < a) = false := decide_eq_false hlt2
          go_wp2
          go_roundw
          case rel => exact ⟨k + 1, by omega, by go_num, ys, hown, by omega, r, rfl, hs0, by omega, los_close HX2.out (by omega) hX.out, hB⟩
          case measure => simp [intOf]; omega
    · obtain rfl : k = ms.length := by omega
      go_wp2
      go_ret
      obtain ⟨A', c', rfl, hI⟩ := own_ints hown
      exact ⟨A', c', xs, rfl, hI, hB, (by rw [hX.out.1, ← HNL.out, List.take_length] : xs = _)⟩
end Go.Proofs.Ytmndfcjkokolbaa
