/-
  Slices of slices of ints: those that came in, and those that the call itself makes; append of one list.
-/
import Derived.Test.YtmlkdjcjfkfdiaaJoined
namespace Go.Proofs.Ytmlkdjcjfkfdiaa
open Go.RowKit Go.Shelf

def Tabs (w : World) (A : Option Addr) (T : List (List Int)) : Prop :=
  0 < T.length → ∃ b o, A = some ⟨b, o, none⟩ ∧ b < w.heap.size ∧ ∀ (k : Nat) (zs : List Int), T[k]? = some zs → ∃ (B : Option Addr) (c : Nat), w.cell? ⟨b, o + k, none⟩ = some (.slice B zs.length c) ∧ Out w B c zs
theorem Tabs.below {w w' : World} {A : Option Addr} {T : List (List Int)} (h : Tabs w A T) (hb : Below w.heap.size w w') : Tabs w' A T := by
  intro hn
  obtain ⟨b, o, e, hbk, hc⟩ := h hn
  refine ⟨b, o, e, Nat.lt_of_lt_of_le hbk hb.size, fun k zs hz => ?_⟩
  obtain ⟨B, c, h1, h2⟩ := hc k zs hz
  exact ⟨B, c, (hb.cell (p := ⟨b, o + k, none⟩) hbk).trans h1, h2.below hb⟩
theorem Tabs.nil_ {w : World} {A : Option Addr} : Tabs w A [] := fun h => absurd h (by simp)
theorem getT_of_lt {T : List (List Int)} {k : Nat} (h : k < T.length) : ∃ zs, T[k]? = some zs := ⟨_, List.getElem?_eq_getElem h⟩
/-- A table as a call hands it back. -/
structure TOut (w : World) (A : Option Addr) (c : Nat) (T : List (List Int)) : Prop where
  tabs : Tabs w A T
  le : T.length ≤ c
  cap : c ≤ maxLen
theorem TOut.below {w w' : World} {A : Option Addr} {c : Nat} {T : List (List Int)} (h : TOut w A c T) (hb : Below w.heap.size w w') : TOut w' A c T := ⟨h.tabs.below hb, h.le, h.cap⟩
theorem TOut.nil_ {w : World} {A : Option Addr} : TOut w A 0 [] := ⟨Tabs.nil_, Nat.le_refl _, Nat.zero_le _⟩

theorem own_base2 {w : World} {base base' : Nat} {e : TypeId} {size : Nat} {v : Value} {n : Nat} {xs : List Value} (h : w.ownsRow base e size v n xs) (hb : base' ≤ base) : w.ownsRow base' e size v n xs :=
  ⟨h.1, h.2.imp id fun ⟨g, cap, cur, hv, hg, r⟩ => ⟨g, cap, cur, hv, Nat.le_trans hb hg, r⟩⟩
theorem own_kind {w : World} {base base' : Nat} {e e' : TypeId} {sz sz' n n' : Nat} {v u : Value} {xs ys : List Value} (h : w.ownsRow base e sz u n ys) (k : w.ownsRow base' e' sz' v n' xs) (hne : e' ≠ e) : ∀ g, u.ownBlock = some g → v.ownBlock ≠ some g := by
  intro g hu hv
  rcases h.2 with ⟨rfl, _⟩ | ⟨g1, cap, cur, rfl, _, hg1, _⟩
  · simp [Value.ownBlock] at hu
  · rcases k.2 with ⟨rfl, _⟩ | ⟨g2, cap2, cur2, rfl, _, hg2, _⟩
    · simp [Value.ownBlock] at hv
    · simp [Value.ownBlock] at hu hv
      subst hu hv
      rw [hg1] at hg2
      injection hg2 with hg2
      injection hg2 with _ h2
      exact hne h2.symm
theorem own_turn {w w' : World} {base : Nat} {e : TypeId} {sz n : Nat} {v u : Value} {ys : List Value} (h : w.ownsRow base e sz u n ys)
    (hfar : ∀ g, g < w.heap.size → v.ownBlock ≠ some g → w'.heap[g]? = w.heap[g]?) (hsep : ∀ g, u.ownBlock = some g → v.ownBlock ≠ some g) : w'.ownsRow base e sz u n ys := by
  refine ⟨h.1, ?_⟩
  rcases h.2 with ⟨rfl, h0⟩ | ⟨g, cap, cur, rfl, hb, hh, h1, h2, h3, h4⟩
  · exact .inl ⟨rfl, h0⟩
  · refine .inr ⟨g, cap, cur, rfl, hb, ?_, h1, h2, h3, h4⟩
    rw [hfar g (Array.getElem?_eq_some_iff.1 hh).1 (hsep g (by simp [Value.ownBlock]))]
    exact hh
/-- A list of ints as an own row, and a table of such lists that the call itself makes. -/
def OwnI (w : World) (base : Nat) (B : Option Addr) (c : Nat) (zs : List Int) : Prop := w.ownsRow base 3 1 (.slice B zs.length c) zs.length (zs.map (Value.int .i64))
theorem OwnI.out {w : World} {base : Nat} {B : Option Addr} {c : Nat} {zs : List Int} (h : OwnI w base B c zs) : Out w B c zs := by
  obtain ⟨A', c', e, hO⟩ := own_ints h
  injection e with e1 e2 e3
  subst e1 e3
  exact hO
def TabO (w : World) (base : Nat) (v : Value) (T : List (List Int)) : Prop :=
  ∃ svs : List Value, w.ownsRow base 28 1 v T.length svs ∧ ∀ (k : Nat) (zs : List Int), T[k]? = some zs → ∃ (B : Option Addr) (c : Nat), svs[k]? = some (.slice B zs.length c) ∧ OwnI w base B c zs
theorem TabO.nil_ (w : World) (base : Nat) : TabO w base (.slice none 0 0) [] := ⟨[], World.ownsRow_nil _ _ _ _, fun k zs h => by simp at h⟩
theorem TabO.below {w w' : World} {base : Nat} {v : Value} {T : List (List Int)} (h : TabO w base v T) (hb : Below w.heap.size w w') : TabO w' base v T := by
  obtain ⟨svs, h1, h2⟩ := h
  refine ⟨svs, own_below h1 hb, fun k zs hz => ?_⟩
  obtain ⟨B, c, h3, h4⟩ := h2 k zs hz
  exact ⟨B, c, h3, own_below h4 hb⟩
theorem TabO.out {w : World} {base : Nat} {v : Value} {T : List (List Int)} (h : TabO w base v T) : ∃ A c, v = .slice A T.length c ∧ TOut w A c T := by
  obtain ⟨svs, h1, h2⟩ := h
  rcases h1.2 with ⟨hv, hn⟩ | ⟨g, cap, cur, hv, hb, hg, hnc, hcm, hcs, htake⟩
  · obtain rfl : T = [] := List.eq_nil_of_length_eq_zero hn
    exact ⟨none, 0, hv, TOut.nil_⟩
  · subst hv
    refine ⟨_, cap, rfl, fun hn => ⟨g, 0, rfl, (Array.getElem?_eq_some_iff.1 hg).1, fun k zs hz => ?_⟩, hnc, hcm⟩
    obtain ⟨B, c, h4, h5⟩ := h2 k zs hz
    have hk := (List.getElem?_eq_some_iff.1 hz).1
    refine ⟨B, c, ?_, h5.out⟩
    rw [Nat.zero_add, h1.cellAt k (by omega)]
    exact h4
theorem slice_info : (Try.prog.info? 28).map (fun i => (i.zero, i.size, i.bytes)) = some (some (.slice none 0 0), 1, 24) := by kernel_rfl
theorem int_slice : (28 : TypeId) ≠ 3 := by decide
section
variable {ops : Array Oper} {rest : List Oper} {o : Oper} {a : Act} {Q : Exit → Act → World → Prop}
theorem wp_app_list (w : World) (hgd : o.guard = none) (s x : Operand)
    (ho : o.op = .call { callee := .builtin .append, args := #[s, x], argTypes := #[38, 38] })
    (base : Nat) (v : Value) (n : Nat) (T : List (List Int)) (B : Option Addr) (c : Nat) (zs : List Int) (hl : T.length = n) (hs : a.eval s = v) (hown : TabO w base v T) (hO : OwnI w base B c zs)
    (hx : a.eval x = .slice (some ⟨w.heap.size, 0, none⟩) 1 1) (hn : n ≤ 1000000) (hbase : base ≤ w.heap.size)
    (h : ∀ v' w', TabO w' base v' (T ++ [zs]) → Below base w w' → (∀ u n' ys', w.ownsRow base 3 1 u n' ys' → w'.ownsRow base 3 1 u n' ys') → (∀ g, g < w.heap.size → v.ownBlock ≠ some g → w'.heap[g]? = w.heap[g]?) → wpList Try.prog ops Q rest (a.put o.dst v') w') :
    wpList Try.prog ops Q (o :: rest) a (w.alloc (.cells #[.slice B zs.length c] 28)) := by
  obtain ⟨i0, hi0, hz0, hz1, hz2⟩ := info_parts slice_info
  obtain ⟨svs, h1, h2⟩ := hown
  have hsl : svs.length = T.length := by have := h1.1; simpa using this
  refine wpList_append_own _ hgd s x 38 ho base 28 i0 (.slice none 0 0) 1 24 Try.underlying38 hi0 hz0 hz1 hz2 rfl (by decide) v T.length svs hs (h1.alloc _) ⟨w.heap.size, 0, none⟩ 1 1 [.slice B zs.length c] hx rfl
    (cells_new w [.slice B zs.length c] 28) ?_ (by unfold maxLen; omega) (by omega) (by simp; omega) ?_
  · intro u hu; simp at hu; subst hu; rfl
  · intro v' w' ho' hg _
    have hfar : ∀ g, g < w.heap.size → v.ownBlock ≠ some g → w'.heap[g]? = w.heap[g]? := fun g hg1 hg2 => (hg.block g (by simp; omega) (fun e => hg2 e.symm)).trans (Below.heap_alloc w _ g hg1)
    have hkeep : ∀ u n' ys', w.ownsRow base 3 1 u n' ys' → w'.ownsRow base 3 1 u n' ys' := fun u n' ys' hu => own_turn hu hfar (own_kind hu h1 int_slice)
    refine h v' w' ⟨svs ++ [.slice B zs.length c], by simpa using ho', fun k ys hy => ?_⟩ (((Below.refl base w).alloc hbase _).grown hg (by simp; omega) ?_) hkeep hfar
    · rcases Nat.lt_or_ge k T.length with hk | hk
      · rw [List.getElem?_append_left hk] at hy
        obtain ⟨B', c', h3, h4⟩ := h2 k ys hy
        exact ⟨B', c', by rw [List.getElem?_append_left (by omega)]; exact h3, hkeep _ _ _ h4⟩
      · rw [List.getElem?_append_right hk] at hy
        have hk0 : k - T.length = 0 := by have := (List.getElem?_eq_some_iff.1 hy).1; simp at this; omega
        rw [hk0] at hy
        simp at hy
        subst hy
        refine ⟨B, c, ?_, hkeep _ _ _ hO⟩
        rw [List.getElem?_append_right (by omega), hsl, hk0]; rfl
    · intro k hk
      exact (h1.lt k hk).1
end
set_option maxRecDepth 100000 in
set_option maxHeartbeats 800000 in
theorem kept_own (g : Nat) (lb : Array Value) (p : Int → Bool) (eg : ∀ args w, (callFunc g args).run Try.prog w = .ok (.enter g args) w) (zs : List Int) (A : Option Addr) (c : Nat) (w : World) (hK : KeepAt g lb p zs w) (h : Ints w A zs) (hn : zs.length ≤ 1000) :
    Calls Try.prog 97 #[.slice A zs.length c, .func (.func g) #[] lb] w fun e w' => ∃ (A' : Option Addr) (c' : Nat) (ys : List Int), e = .returned (.slice A' ys.length c') ∧ w'.ownsRow w.heap.size 3 1 (.slice A' ys.length c') ys.length (ys.map (Value.int .i64)) ∧ Below w.heap.size w w' ∧ Hid (ys = zs.filter p) := by
  have H := Lib.hid h
  have HK := Lib.hid hK
  clear h hK
  go_enter Try.func97, Try.ntmps97
  go_wp2
  go_loopw [5, 10] (fun v i wr => ∃ k : Nat, k ≤ zs.length ∧ i = .int .i64 k ∧ (∃ ys : List Int, wr.ownsRow w.heap.size 3 1 v ys.length (ys.map (Value.int .i64)) ∧ ys.length ≤ k ∧ Hid (ys = (zs.take k).filter p)) ∧ Below w.heap.size w wr) (fun _ i _ => zs.length - (intOf i).toNat)
  case atStart => exact ⟨0, Nat.zero_le _, rfl, ⟨[], World.ownsRow_nil _ _ _ _, Nat.le_refl _, rfl⟩, Below.refl _ _⟩
  case round =>
    obtain ⟨k, hk, rfl, ⟨ys, hown, hyk, hys⟩, hB⟩ := hrel
    by_cases hlt : k < zs.length
    · obtain ⟨ad, z, rfl, hbk, hz, hc⟩ := H.out.get hlt
      have hcr := (hB.cell (p := ad.add k) (by rw [block_of_add]; exact hbk)).trans hc
      have hcall := HK.out wr z (List.mem_of_getElem? hz.out) hB
      have HN := Lib.hid (filter_snoc (p := p) hz.out)
      clear hc
      cases hp : p z with
      | true =>
        rw [hp] at hcall
        have HP := Lib.hid hp
        clear hp
        go_wp2_with (first
          | (go_at_fn g; refine hcall.mono ?_; rintro e w3 ⟨rfl, hB3⟩; have hown3 := own_below hown hB3; have hW3 : Below w.heap.size w w3 := below_step hB hB3)
          | (at_builtin; refine wp_app_int _ rfl (.tmp 17) (.tmp 19) rfl w.heap.size _ ys.length ys _ rfl hown3 rfl (by omega) hW3.size ?_; intro v2 w2 hown2 hB2))
        go_roundw
        case rel => exact ⟨k + 1, by omega, by go_num, ⟨ys ++ [z], by rw [List.length_append]; exact hown2, by simp; omega, (by rw [HN.out, HP.out, if_pos rfl, hys.out] : ys ++ [z] = _)⟩, hW3.trans hB2⟩
        case measure => simp [intOf]; omega
      | false =>
        rw [hp] at hcall
        have HP := Lib.hid hp
        clear hp
        go_wp2_with (go_at_fn g; refine hcall.mono ?_; rintro e w3 ⟨rfl, hB3⟩; have hown3 := own_below hown hB3; have hW3 : Below w.heap.size w w3 := below_step hB hB3)
        go_roundw
        case rel => exact ⟨k + 1, by omega, by go_num, ⟨ys, hown3, by omega, (by rw [HN.out, HP.out, hys.out]; simp : ys = _)⟩, hW3⟩
        case measure => simp [intOf]; omega
    · obtain rfl : k = zs.length := by omega
      go_wp2
      go_ret
      obtain ⟨A', c', rfl, _⟩ := own_ints hown
      exact ⟨A', c', ys, rfl, hown, hB, (by rw [hys.out, List.take_length] : ys = _)⟩

set_option maxRecDepth 100000 in
theorem firstOf_own (ms : List (Int × Int)) (A : Option Addr) (c : Nat) (S : List Int) (A2 : Option Addr) (c2 : Nat) (w : World) (h : Marks w A ms) (hv : vhB ms = true) (hS : ∀ b ∈ S, hasB ms b = true) (hI : Ints w A2 S) (hn : S.length ≤ 1000) :
    Calls Try.prog 100 #[.slice A ms.length c, .slice A2 S.length c2] w fun e w' => ∃ (A' : Option Addr) (c' : Nat) (ys : List Int), e = .returned (.slice A' ys.length c') ∧ w'.ownsRow w.heap.size 3 1 (.slice A' ys.length c') ys.length (ys.map (Value.int .i64)) ∧ Below w.heap.size w w' ∧ Hid (ys = firstOfL ms S) := by
  have eg : ∀ args w, (callFunc 116 args).run Try.prog w = .ok (.enter 116 args) w := enters_of Try.func116 (by kernel_rfl) rfl
  obtain ⟨w1, hw1⟩ : ∃ w1, w1 = (w.alloc (.cells #[.slice A ms.length c] 65)).alloc (.cells #[.slice A2 S.length c2] 28) := ⟨_, rfl⟩
  have hBB : Below w.heap.size w w1 := by rw [hw1]; exact ((Below.refl _ _).alloc (Nat.le_refl _) _).alloc (by first | (simp; done) | (simp; omega) | omega) _
  have hcon := kept_own _ _ _ eg S A2 c2 w1 (keep_first ms A c S A2 c2 (w.heap.size + 1) w.heap.size w1 (h.below hBB) hv hS (hI.below hBB) hn (by rw [hw1]; simp) (by rw [hw1]; exact (by first | (simp; done) | (simp; omega) | omega)) (by rw [hw1]; simp) (by rw [hw1]; simp)) (hI.below hBB) hn
  rw [hw1] at hcon
  have HQ := Lib.hid hcon
  have HBB := Lib.hid hBB
  clear hcon hBB eg h hv hS hI
  go_enter Try.func100, Try.ntmps100
  go_wp2_with (go_at_call 97; refine HQ.out.mono ?_; rintro e w2 ⟨A2, c2, ys, rfl, hO2, hB2, hy⟩)
  go_ret
  exact ⟨A2, c2, ys, rfl, own_base2 hO2 (by first | (simp; done) | (simp; omega) | omega), Below.trans (by repeat (first | with_reducible exact Below.refl _ _ | with_reducible assumption | refine below_drewN ?_ _ | with_reducible refine Below.drew ?_ | (refine Below.setCell ?_ (by first | (simp; done) | (simp; omega) | omega) _) | (refine Below.alloc ?_ (by first | (simp; done) | (simp; omega) | omega) _))) (hB2.mono (by first | (simp; done) | (simp; omega) | omega)), hy⟩

end Go.Proofs.Ytmlkdjcjfkfdiaa
