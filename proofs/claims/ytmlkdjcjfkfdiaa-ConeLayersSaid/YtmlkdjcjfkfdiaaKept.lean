/-
  Contracts: all, kept (cone); IndexFunc and ContainsFunc (slices) at ints; what is asked of a function value.
-/
import Derived.Test.YtmlkdjcjfkfdiaaBefore
import Derived.Shelf.Abstract
namespace Go.Proofs.Ytmlkdjcjfkfdiaa
open Go.RowKit Go.Shelf

theorem own_below {w w3 : World} {base : Nat} {e : TypeId} {size n : Nat} {v : Value} {xs : List Value} (h : w.ownsRow base e size v n xs) (hB : Below w.heap.size w w3) : w3.ownsRow base e size v n xs :=
  h.kept (World.grownBy.mk hB.os hB.tape hB.output hB.size (fun i hi _ => hB.block i hi) : World.grownBy _ w3 none) (by cases hh : Value.ownBlock v with | none => exact .inl rfl | some g => exact .inr (by simp))

/-! ### all -/
def fillL (n k : Nat) : List Int := allL k ++ List.replicate (n - k) 0
theorem fill_zero (n : Nat) : fillL n 0 = List.replicate n 0 := by simp [fillL, allL]
theorem fill_full (n : Nat) : fillL n n = allL n := by simp [fillL]
theorem fill_len {n k : Nat} (h : k ≤ n) : (fillL n k).length = n := by simp [fillL, allL_len]; omega
theorem fill_get {n k : Nat} (h : k < n) : (fillL n k)[k]? = some 0 := by
  rw [fillL, List.getElem?_append_right (by rw [allL_len]; exact Nat.le_refl _), allL_len, Nat.sub_self, List.getElem?_replicate]
  simp; omega
theorem fill_set {n k : Nat} (h : k < n) : (fillL n k).set k (k : Int) = fillL n (k + 1) := by
  rw [fillL, List.set_append_right _ _ (by rw [allL_len]; exact Nat.le_refl _), allL_len, Nat.sub_self, fillL, allL_succ]
  obtain ⟨m, hm⟩ : ∃ m, n - k = m + 1 := ⟨n - k - 1, by omega⟩
  rw [hm, List.replicate_succ, List.set_cons_zero, List.append_assoc, show n - (k + 1) = m by omega]
  rfl

theorem made_fill (n : Nat) : (madeCells (Value.int .i64 0).cells (n * 1)).toList = (fillL n 0).map (Value.int .i64) := by
  rw [fill_zero, List.map_replicate, List.eq_replicate_iff]; simp [madeCells, Value.cells, Nat.mod_one]
set_option maxRecDepth 100000 in
set_option maxHeartbeats 400000 in
theorem all_any (n : Nat) (A : Option Addr) (c : Nat) (w : World) (hn : n ≤ 1000) :
    Calls Try.prog 98 #[.slice A n c] w fun e w' => ∃ (A' : Option Addr) (c' : Nat), e = .returned (.slice A' n c') ∧ Out w' A' c' (allL n) ∧ Below w.heap.size w w' := by
  obtain ⟨i0, hi0, hz0, hz1, hz2⟩ := info_parts int_info
  have HZ2 := Lib.hid hz2
  clear hz2
  go_enter Try.func98, Try.ntmps98
  go_wp2_with (at_make; refine wpList_make_full _ rfl _ _ 28 rfl w.heap.size 3 i0 (.int .i64 0) 1 Try.underlying28 hi0 hz0 hz1 _ _ _ _ n rfl rfl rfl rfl (by rw [HZ2.out]; omega) (by unfold maxLen; omega) (Nat.le_refl _) ?_; intro w1 hown1 hg1)
  have hB1 : Below w.heap.size w w1 := (Below.refl _ _).grown hg1 (Nat.le_refl _) (by simp)
  rw [made_fill] at hown1
  clear hg1 HZ2 hz0 hz1 hi0
  go_loopw [10] (fun i wr => ∃ k : Nat, k ≤ n ∧ i = .int .i64 k ∧ wr.ownsRow w.heap.size 3 1 (.slice (some ⟨w.heap.size, 0, none⟩) n n) n ((fillL n k).map (Value.int .i64)) ∧ Below w.heap.size w wr) (fun i _ => n - (intOf i).toNat)
  case atStart => exact ⟨0, Nat.zero_le _, rfl, hown1, hB1⟩
  case round =>
    clear hown1 hB1
    obtain ⟨k, hk, rfl, hown, hB⟩ := hrel
    by_cases hlt : k < n
    · have hc := hown.cellAt k (by omega)
      rw [List.getElem?_map, fill_get hlt, Option.map_some] at hc
      have hf := hown.frozenAt k
      go_wp2
      go_roundw
      case rel => exact ⟨k + 1, by omega, by go_num, by rw [← fill_set hlt, List.map_set]; exact (hown.stored k _).1, hB.setCell (Nat.le_refl _) _⟩
      case measure => simp [intOf]; omega
    · obtain rfl : k = n := by omega
      go_wp2
      go_ret
      rw [fill_full] at hown
      obtain ⟨A', c', e, hO⟩ := own_ints hown
      rw [allL_len] at e
      cases e
      exact ⟨_, _, rfl, hO, hB⟩

/-! ### kept -/
/-- What is asked of a function value that says yes or no to a number of a list. -/
def KeepAt (g : Nat) (lb : Array Value) (p : Int → Bool) (S : List Int) (w : World) : Prop :=
  ∀ (W : World) (a : Int), a ∈ S → Below w.heap.size w W → Calls Try.prog g (#[.int .i64 a] ++ lb) W fun e w' => e = .returned (.bool (p a)) ∧ Below W.heap.size W w'
theorem KeepAt.later {g : Nat} {lb : Array Value} {p : Int → Bool} {S : List Int} {w W : World} (h : KeepAt g lb p S w) (hb : Below w.heap.size w W) : KeepAt g lb p S W :=
  fun W' x hx hb' => h W' x hx (hb.trans (hb'.mono hb.size))

set_option maxRecDepth 100000 in
set_option maxHeartbeats 800000 in
theorem kept_any (g : Nat) (lb : Array Value) (p : Int → Bool) (eg : ∀ args w, (callFunc g args).run Try.prog w = .ok (.enter g args) w) (zs : List Int) (A : Option Addr) (c : Nat) (w : World) (hK : KeepAt g lb p zs w) (h : Ints w A zs) (hn : zs.length ≤ 1000) :
    Calls Try.prog 97 #[.slice A zs.length c, .func (.func g) #[] lb] w fun e w' => ∃ (A' : Option Addr) (c' : Nat) (ys : List Int), e = .returned (.slice A' ys.length c') ∧ Out w' A' c' ys ∧ Below w.heap.size w w' ∧ Hid (ys = zs.filter p) := by
  have H := Lib.hid h
  have HK := Lib.hid hK
  clear h hK
  go_enter Try.func97, Try.ntmps97
  go_wp2
  go_loopw [5, 10] (fun v i wr => ∃ k : Nat, k ≤ zs.length ∧ i = .int .i64 k ∧ (∃ ys : List Int, wr.ownsRow w.heap.size 3 1 v ys.length (ys.map (Value.int .i64)) ∧ ys.length ≤ k ∧ Hid (ys = (zs.take k).filter p)) ∧ Below w.heap.size w wr) (fun _ i _ => zs.length - (intOf i).toNat)
  case atStart => exact ⟨0, Nat.zero_le _, rfl, ⟨[], World.ownsRow_nil _ _ _ _, Nat.le_refl _, rfl⟩, Below.refl _ _⟩
  case round =>
    obtain ⟨k, hk, rfl, ⟨ys, hown, hyk, hys⟩, hB⟩ := hrel
    by_cases hlt : k < zs.length
    · obtain ⟨ad, z, rfl, hbk, hz, hc⟩ := H.out.get hlt
      have hcr := (hB.cell (p := ad.add k) (by rw [block_of_add]; exact hbk)).trans hc
      have hcall := HK.out wr z (List.mem_of_getElem? hz.out) hB
      have HN := Lib.hid (filter_snoc (p := p) hz.out)
      clear hc
      cases hp : p z with
      | true =>
        rw [hp] at hcall
        have HP := Lib.hid hp
        clear hp
        go_wp2_with (first
          | (go_at_fn g; refine hcall.mono ?_; rintro e w3 ⟨rfl, hB3⟩; have hown3 := own_below hown hB3; have hW3 : Below w.heap.size w w3 := below_step hB hB3)
          | (at_builtin; refine wp_app_int _ rfl (.tmp 17) (.tmp 19) rfl w.heap.size _ ys.length ys _ rfl hown3 rfl (by omega) hW3.size ?_; intro v2 w2 hown2 hB2))
        go_roundw
        case rel => exact ⟨k + 1, by omega, by go_num, ⟨ys ++ [z], by rw [List.length_append]; exact hown2, by simp; omega, (by rw [HN.out, HP.out, if_pos rfl, hys.out] : ys ++ [z] = _)⟩, hW3.trans hB2⟩
        case measure => simp [intOf]; omega
      | false =>
        rw [hp] at hcall
        have HP := Lib.hid hp
        clear hp
        go_wp2_with (go_at_fn g; refine hcall.mono ?_; rintro e w3 ⟨rfl, hB3⟩; have hown3 := own_below hown hB3; have hW3 : Below w.heap.size w w3 := below_step hB hB3)
        go_roundw
        case rel => exact ⟨k + 1, by omega, by go_num, ⟨ys, hown3, by omega, (by rw [HN.out, HP.out, hys.out]; simp : ys = _)⟩, hW3⟩
        case measure => simp [intOf]; omega
    · obtain rfl : k = zs.length := by omega
      go_wp2
      go_ret
      obtain ⟨A', c', rfl, hI⟩ := own_ints hown
      exact ⟨A', c', ys, rfl, hI, hB, (by rw [hys.out, List.take_length] : ys = _)⟩

/-! ### IndexFunc, ContainsFunc -/
set_option maxRecDepth 100000 in
set_option maxHeartbeats 400000 in
theorem index_any (g : Nat) (lb : Array Value) (p : Int → Bool) (eg : ∀ args w, (callFunc g args).run Try.prog w = .ok (.enter g args) w) (zs : List Int) (A : Option Addr) (c : Nat) (w : World) (hK : KeepAt g lb p zs w) (h : Ints w A zs) (hn : zs.length ≤ 1000) :
    Calls Try.prog 126 #[.slice A zs.length c, .func (.func g) #[] lb] w fun e w' => ∃ r : Int, e = .returned (.int .i64 r) ∧ Below w.heap.size w w' ∧ -1 ≤ r ∧ r ≤ 1000 ∧ Hid (decide (0 ≤ r) = zs.any p) := by
  have H := Lib.hid h
  have HK := Lib.hid hK
  clear h hK
  go_enter Try.func126, Try.ntmps126
  go_wp2
  go_loopw [8] (fun i wr => ∃ k : Nat, k ≤ zs.length ∧ i = .int .i64 k ∧ Hid ((zs.take k).any p = false) ∧ Below w.heap.size w wr) (fun i _ => zs.length - (intOf i).toNat)
  case atStart => exact ⟨0, Nat.zero_le _, rfl, rfl, Below.refl _ _⟩
  case round =>
    obtain ⟨k, hk, rfl, hno, hB⟩ := hrel
    by_cases hlt : k < zs.length
    · obtain ⟨ad, z, rfl, hbk, hz, hc⟩ := H.out.get hlt
      have hcr := (hB.cell (p := ad.add k) (by rw [block_of_add]; exact hbk)).trans hc
      have hcall := HK.out wr z (List.mem_of_getElem? hz.out) hB
      clear hc
      cases hp : p z with
      | true =>
        rw [hp] at hcall
        have HP := Lib.hid hp
        clear hp
        go_wp2_with (go_at_fn g; refine hcall.mono ?_; rintro e w3 ⟨rfl, hB3⟩; have hW3 : Below w.heap.size w w3 := below_step hB hB3)
        go_ret
        refine ⟨k, rfl, hW3, by omega, by omega, ?_⟩
        show _ = _
        rw [List.any_eq_true.2 ⟨z, List.mem_of_getElem? hz.out, HP.out⟩]
        exact decide_eq_true (by omega)
      | false =>
        rw [hp] at hcall
        have HP := Lib.hid hp
        clear hp
        go_wp2_with (go_at_fn g; refine hcall.mono ?_; rintro e w3 ⟨rfl, hB3⟩; have hW3 : Below w.heap.size w w3 := below_step hB hB3)
        go_roundw
        case rel => exact ⟨k + 1, by omega, by go_num, (by rw [any_snoc hz.out, hno.out, HP.out]; rfl : (zs.take (k + 1)).any p = false), hW3⟩
        case measure => simp [intOf]; omega
    · obtain rfl : k = zs.length := by omega
      go_wp2
      go_ret
      refine ⟨-1, rfl, hB, by omega, by omega, ?_⟩
      have := hno.out
      rw [List.take_length] at this
      show _ = _
      rw [this]; rfl
theorem contains_any (g : Nat) (lb : Array Value) (p : Int → Bool) (eg : ∀ args w, (callFunc g args).run Try.prog w = .ok (.enter g args) w) (zs : List Int) (A : Option Addr) (c : Nat) (w : World) (hK : KeepAt g lb p zs w) (h : Ints w A zs) (hn : zs.length ≤ 1000) :
    Calls Try.prog 117 #[.slice A zs.length c, .func (.func g) #[] lb] w fun e w' => e = .returned (.bool (zs.any p)) ∧ Below w.heap.size w w' := by
  have H := Lib.hid h
  have HK := Lib.hid hK
  clear h hK
  go_enter Try.func117, Try.ntmps117
  go_wp2_with (go_at_call 126; refine (index_any g lb p eg zs A c _ HK.out H.out hn).mono ?_; rintro e w1 ⟨r, rfl, hB, h0, h1, hr⟩)
  all_goals
    go_ret
    exact ⟨ret_bool (by rw [← hr.out]; try (simp; try omega)), hB⟩
end Go.Proofs.Ytmlkdjcjfkfdiaa
