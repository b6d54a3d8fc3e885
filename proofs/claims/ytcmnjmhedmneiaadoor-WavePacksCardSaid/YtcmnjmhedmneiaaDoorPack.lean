/-
  Slices of bytes; contract: pack (wave).
-/
import Derived.Test.YtcmnjmhedmneiaaDoorPackM
import Derived.Test.YtcmnjmhedmneiaaDoorTwo
import Derived.Test.YtcmnjmhedmneiaaDoorWord
namespace Go.Proofs.YtcmnjmhedmneiaaDoor
open Go.RowKit Go.Shelf

/-- A slice of bytes that reads as the list. -/
def Bts (w : World) (A : Option Addr) (zs : List Int) : Prop := Reads w w.heap.size 1 A zs.length (zs.map (Value.int .u8))
theorem Bts.below {w w' : World} {A : Option Addr} {zs : List Int} (h : Bts w A zs) (hb : Below w.heap.size w w') : Bts w' A zs :=
  (Reads.below h hb).more hb.size
theorem Bts.drew {w : World} {A : Option Addr} {zs : List Int} (h : Bts w A zs) : Bts w.drew A zs := h
/-- The address of a list that is not empty, written out. -/
theorem Bts.open_ {w : World} {A : Option Addr} {zs : List Int} (h : Bts w A zs) (hn : 0 < zs.length) :
    ∃ b o, A = some ⟨b, o, none⟩ ∧ b < w.heap.size ∧ ∀ (k : Nat) (z : Int), zs[k]? = some z → w.cell? ⟨b, o + k, none⟩ = some (.int .u8 z) := by
  obtain ⟨ad, u, e, hb, _, hc⟩ := Reads.at_ h hn
  obtain ⟨b, o, s⟩ := ad
  have hs : s = none := by simpa [Addr.add] using World.cell?_spot hc
  subst hs
  refine ⟨b, o, e, hb, fun k z hz => ?_⟩
  obtain ⟨ad', e', _, hall⟩ := h.2 hn
  rw [e] at e'
  obtain rfl := Option.some.inj e'
  rw [← add_mk]
  exact hall k _ (by rw [List.getElem?_map, hz]; rfl)
/-- A slice of bytes as a call hands it back. -/
structure OutB (w : World) (A : Option Addr) (c : Nat) (zs : List Int) : Prop where
  bts : Bts w A zs
  le : zs.length ≤ c
  cap : c ≤ maxLen
theorem OutB.nil_ {w : World} {A : Option Addr} : OutB w A 0 [] := ⟨Reads.none_, Nat.le_refl _, Nat.zero_le _⟩
theorem OutB.below {w w' : World} {A : Option Addr} {c : Nat} {zs : List Int} (h : OutB w A c zs) (hb : Below w.heap.size w w') : OutB w' A c zs := ⟨h.bts.below hb, h.le, h.cap⟩
theorem own_bts {w : World} {base n : Nat} {v : Value} {xs : List Int} (h : w.ownsRow base 5 1 v n (xs.map (Value.int .u8))) :
    ∃ A c, v = .slice A xs.length c ∧ OutB w A c xs := by
  have hl : xs.length = n := by have := h.1; simpa using this
  subst hl
  rcases h.2 with ⟨rfl, h0⟩ | ⟨g, cap, cur, rfl, _, _, h1, h2, _⟩
  · have : xs = [] := List.eq_nil_of_length_eq_zero h0
    subst this
    exact ⟨none, 0, rfl, OutB.nil_⟩
  · exact ⟨_, cap, rfl, Reads.of_own h, h1, h2⟩
theorem row_fullB {w : World} {base g n : Nat} {e : TypeId} {xs : List Value} (hh : w.heap[g]? = some (.cells xs.toArray e (0, 0))) (hb : base ≤ g) (hl : xs.length = n) (hm : n ≤ maxLen) : w.ownsRow base e 1 (.slice (some ⟨g, 0, none⟩) n n) n xs :=
  ⟨by rw [hl, Nat.mul_one], .inr ⟨g, n, xs.toArray, rfl, hb, hh, Nat.le_refl _, hm, by simp [hl], by simp [← hl]⟩⟩

section
variable {ops : Array Oper} {rest : List Oper} {o : Oper} {a : Act} {Q : Exit → Act → World → Prop}
theorem wp_app_byte (w : World) (hgd : o.guard = none) (s x : Operand)
    (ho : o.op = .call { callee := .builtin .append, args := #[s, x], argTypes := #[43, 43] })
    (base : Nat) (v : Value) (n : Nat) (xs : List Int) (z : Int) (hs : a.eval s = v) (hown : w.ownsRow base 5 1 v n (xs.map (Value.int .u8)))
    (hx : a.eval x = .slice (some ⟨w.heap.size, 0, none⟩) 1 1) (hn : n ≤ 1000000) (hbase : base ≤ w.heap.size)
    (h : ∀ v' w', w'.ownsRow base 5 1 v' (n + 1) ((xs ++ [z]).map (Value.int .u8)) → Below base w w' → wpList Tryd.prog ops Q rest (a.put o.dst v') w') :
    wpList Tryd.prog ops Q (o :: rest) a (w.alloc (.cells #[.int .u8 z] 5)) := by
  obtain ⟨i0, hi0, hz0, hz1, hz2⟩ := info_parts byte_info
  refine wp_app w hgd s x 43 ho base 5 i0 (.int .u8 0) 1 1 Tryd.underlying43 hi0 hz0 hz1 hz2 rfl (by decide) (by decide) v n _ [.int .u8 z] hs hown hx rfl ?_ hn hbase ?_
  · intro u hu; simp at hu; subst hu; rfl
  · intro v' w' h1 h2
    exact h v' w' (by simpa using h1) h2
end

theorem or_all : ∀ r, r < 8 → ∀ x, x < 256 → x % 2 ^ (8 - r) = 0 → bits .or .u8 ((x : Nat) : Int) (((128 / 2 ^ r : Nat) : Nat) : Int) = ((x + 2 ^ (7 - r) : Nat) : Int) := by decide +kernel

/-- The bytes behind so many bits. -/
def pkT (l : List UInt8) (n m : Nat) : List Int := ((n : Int) / 256) :: ((n : Int) % 256) :: pbI (l.take m)

theorem or_int {r x : Nat} (hr : r < 8) (hx : x < 256) (h : x % 2 ^ (8 - r) = 0) : bits .or .u8 (x : Int) (128 / 2 ^ r) = (x : Int) + 2 ^ (7 - r) := by
  have := or_all r hr x hx h
  rw [show ((128 / 2 ^ r : Nat) : Int) = 128 / 2 ^ r by simp] at this
  rw [this]; simp
theorem or_zero : bits .or .u8 0 128 = 128 := by decide +kernel
theorem pkT_len {l : List UInt8} {n m : Nat} (hm : m ≤ l.length) : (pkT l n m).length = 2 + (m + 7) / 8 := by
  rw [pkT, List.length_cons, List.length_cons, pb_len, List.length_take, Nat.min_eq_left hm]; omega
theorem pkT_set {l : List UInt8} {n m q : Nat} {z : Int} (h : pbI (l.take (m + 1)) = (pbI (l.take m)).set q z) : ((pkT l n m).map (Value.int .u8)).set (2 + q) (.int .u8 z) = (pkT l n (m + 1)).map (Value.int .u8) := by
  rw [← List.map_set, pkT, show 2 + q = q + 1 + 1 by omega, List.set_cons_succ, List.set_cons_succ, ← h]; rfl
theorem pkT_new {l : List UInt8} {n m : Nat} {z : Int} (h : pbI (l.take (m + 1)) = pbI (l.take m) ++ [z]) : pkT l n m ++ [z] = pkT l n (m + 1) := by
  rw [pkT, pkT, h]; rfl
theorem set_last {xs : List Int} {n : Nat} (hn : xs.length = n) (z : Int) : ((xs ++ [0]).map (Value.int .u8)).set n (.int .u8 z) = (xs ++ [z]).map (Value.int .u8) := by
  subst hn
  rw [List.map_append, List.map_append, List.set_append_right _ _ (by simp)]
  simp
theorem pb_same {l : List UInt8} {m q r : Nat} (hl : m < l.length) (hm : m = 8 * q + r) (hr : r < 8) (h0 : 0 < r) (hb : btI l m = 0) : pbI (l.take (m + 1)) = pbI (l.take m) := by
  rw [pb_more hl hm hr h0, hb, Int.zero_mul, Int.add_zero]
  apply List.ext_getElem?
  intro k
  rw [List.getElem?_set]
  by_cases hk : q = k
  · subst hk
    have h1 : (l.take m).length = m := by rw [List.length_take]; omega
    rw [if_pos rfl, if_pos (by rw [pb_len, h1]; omega), pb_take_get (by omega) (by omega)]
  · rw [if_neg hk]
theorem bt_one {t : ByteArray} {m : Nat} (hm : m < t.size) (h : t[m].toNat = 49) : btI t.data.toList m = 1 := by
  rw [btI, byte_at hm, if_pos]
  rw [← UInt8.toNat_inj.1 (show t[m].toNat = (49 : UInt8).toNat from h)]
theorem bt_zero {t : ByteArray} {m : Nat} (hm : m < t.size) (h : t[m].toNat ≠ 49) : btI t.data.toList m = 0 := by
  rw [btI, byte_at hm, if_neg]
  intro he
  exact h (by rw [Option.some.inj he]; rfl)

set_option maxRecDepth 100000 in
set_option maxHeartbeats 2000000 in
theorem wavepack_any (t : ByteArray) (w : World) (ht : t.size ≤ 1000) :
    Calls Tryd.prog 91 #[.string t] w fun e w' => ∃ (A : Option Addr) (c : Nat) (zs : List Int), e = .returned (.slice A zs.length c) ∧ OutB w' A c zs ∧ Below w.heap.size w w' ∧ Hid (zs = pkI t.data.toList) := by
  go_enter Tryd.func91, Tryd.ntmps91
  go_wp2
  have hB0 : Below w.heap.size w (w.alloc (.cells #[.int .u8 ((t.size : Int) / 256), .int .u8 ((t.size : Int) % 256)] 5)) := (Below.refl _ _).alloc (Nat.le_refl _) _
  have hown0 : (w.alloc (.cells #[.int .u8 ((t.size : Int) / 256), .int .u8 ((t.size : Int) % 256)] 5)).ownsRow w.heap.size 5 1 (.slice (some ⟨w.heap.size, 0, none⟩) 2 2) 2 ((pkT t.data.toList t.size 0).map (Value.int .u8)) := by
    rw [show pkT t.data.toList t.size 0 = [(t.size : Int) / 256, (t.size : Int) % 256] by simp [pkT, pbI]]
    exact row_fullB (heap_alloc_new w _) (Nat.le_refl _) rfl (by unfold maxLen; omega)
  generalize w.alloc (.cells #[.int .u8 ((t.size : Int) / 256), .int .u8 ((t.size : Int) % 256)] 5) = W0 at hB0 hown0 ⊢
  go_loopw [3, 15] (fun v i wr => ∃ m : Nat, m ≤ t.size ∧ i = .int .i64 m ∧ ∃ (g cap n : Nat), v = .slice (some ⟨g, 0, none⟩) n cap ∧ (2 ≤ n ∧ n ≤ 200) ∧ wr.ownsRow w.heap.size 5 1 (.slice (some ⟨g, 0, none⟩) n cap) n ((pkT t.data.toList t.size m).map (Value.int .u8)) ∧ Below w.heap.size w wr ∧ Hid (n = 2 + (m + 7) / 8)) (fun _ i _ => t.size - (intOf i).toNat)
  case atStart => exact ⟨0, Nat.zero_le _, rfl, w.heap.size, 2, 2, rfl, by omega, hown0, hB0, rfl⟩
  case round =>
    clear hown0 hB0
    obtain ⟨m, hm, rfl, g, cap, n, rfl, ⟨hn1, hn2⟩, hown, hB, HN⟩ := hrel
    have hsz := hB.size
    have hlen : t.data.toList.length = t.size := by simp
    have hown_g : w.heap.size ≤ g := (own_lt hown rfl).1
    by_cases hlt : m < t.size
    · obtain ⟨q, r, hmr, hr⟩ : ∃ q r, m = 8 * q + r ∧ r < 8 := ⟨m / 8, m % 8, by omega, by omega⟩
      have HB := Lib.hid (byte_at hlt)
      have HMR := Lib.hid hmr
      have e8 : (m : Int) % 8 = (r : Int) := by omega
      by_cases h0 : r = 0
      · subst h0
        have s0 : (((0 : Nat) : Int) == 0) = true := rfl
        have hn := HN.out
        have s1 : ((n + 1 : Nat) : Int) - 1 = (n : Int) := by omega
        have s2 : IntKind.i64.wrap ((n : Int) + 1 - 1) = (n : Int) := by rw [show (n : Int) + 1 - 1 = (n : Int) by omega]; exact IntWalk.i64_in _ (by omega)
        have hn' : n + 1 = 2 + (m + 1 + 7) / 8 := by omega
        have HNN := Lib.hid hn'
        have HPN := Lib.hid (pb_new (l := t.data.toList) (m := m) (q := q) (by omega) (by omega))
        have HLN : Hid ((pkT t.data.toList t.size m).length = n) := Lib.hid (by rw [pkT_len (by omega)]; omega)
        clear hmr hn hn'
        by_cases h1 : t[m].toNat = 49
        · have u1 : ((t[m].toNat : Int) == 49) = true := by rw [h1]; rfl
          have HBT := Lib.hid (bt_one hlt h1)
          go_wp2_with (at_builtin; refine wp_app_byte _ rfl (.tmp 21) (.tmp 22) rfl w.heap.size _ n _ 0 rfl hown rfl (by omega) hsz ?_; intro v2 w2 hown2 hB2; obtain ⟨A2, c2, e2, hO2⟩ := own_bts hown2; have hl2 : (pkT t.data.toList t.size m ++ [0]).length = n + 1 := (by rw [List.length_append, HLN.out]; rfl); rw [hl2] at e2; subst e2)
          obtain ⟨g2, rfl⟩ : ∃ g2, A2 = some ⟨g2, 0, none⟩ := by
            rcases hown2.2 with ⟨hv, h0⟩ | ⟨g2, _, _, hv, _⟩
            · omega
            · injection hv with hv; exact ⟨g2, hv⟩
          have c3 := hown2.cellAt n (by omega)
          rw [List.getElem?_map, List.getElem?_append_right (by rw [HLN.out]; exact Nat.le_refl _), HLN.out, Nat.sub_self] at c3
          have c4 : w2.cell? ⟨g2, n, none⟩ = some (.int .u8 0) := c3
          have z2 := hown2.frozenAt n
          have hg2 : w.heap.size ≤ g2 := (own_lt hown2 rfl).1
          have HO := Lib.hid hown2
          clear hown hown2 hO2 c3
          go_region
          go_wp2
          go_roundw
          case rel => exact ⟨m + 1, by omega, by go_num, g2, c2, n + 1, rfl, ⟨by omega, by have := HNN.out; omega⟩, by
            have hpn := HPN.out
            rw [HBT.out, Int.one_mul] at hpn
            rw [← pkT_new hpn, ← set_last HLN.out 128, or_zero]
            exact (World.ownsRow.stored HO.out n _).1, ((hB.trans hB2).setCell hg2 _).drew, HNN⟩
          case measure => simp [intOf]; omega
        · have u1 : ((t[m].toNat : Int) == 49) = false := beq_eq_false_iff_ne.2 (by omega)
          have HBT := Lib.hid (bt_zero hlt h1)
          go_wp2_with (at_builtin; refine wp_app_byte _ rfl (.tmp 21) (.tmp 22) rfl w.heap.size _ n _ 0 rfl hown rfl (by omega) hsz ?_; intro v2 w2 hown2 hB2; obtain ⟨A2, c2, e2, hO2⟩ := own_bts hown2; have hl2 : (pkT t.data.toList t.size m ++ [0]).length = n + 1 := (by rw [List.length_append, HLN.out]; rfl); rw [hl2] at e2; subst e2)
          obtain ⟨g2, rfl⟩ : ∃ g2, A2 = some ⟨g2, 0, none⟩ := by
            rcases hown2.2 with ⟨hv, h0⟩ | ⟨g2, _, _, hv, _⟩
            · omega
            · injection hv with hv; exact ⟨g2, hv⟩
          go_roundw
          case rel => exact ⟨m + 1, by omega, by go_num, g2, c2, n + 1, rfl, ⟨by omega, by have := HNN.out; omega⟩, by
            have hpn := HPN.out
            rw [HBT.out, Int.zero_mul] at hpn
            rw [← pkT_new hpn]
            exact hown2, hB.trans hB2, HNN⟩
          case measure => simp [intOf]; omega
      · have s0 : ((r : Int) == 0) = false := beq_eq_false_iff_ne.2 (by omega)
        have hn := HN.out
        obtain ⟨j, hj⟩ : ∃ j, n - 1 = j := ⟨_, rfl⟩
        have hjq : j = 2 + q := by omega
        have s1 : (n : Int) - 1 = (j : Int) := by omega
        have s2 : IntKind.i64.wrap ((n : Int) - 1) = (j : Int) := by rw [s1]; exact IntWalk.i64_in _ (by omega)
        have hget : (pkT t.data.toList t.size m)[j]? = some (byteI (t.data.toList.take m) q) := by
          rw [hjq, show 2 + q = q + 1 + 1 by omega, pkT, List.getElem?_cons_succ, List.getElem?_cons_succ, pb_take_get (by omega) (by omega)]
        have c2 := hown.cellAt j (by omega)
        rw [List.getElem?_map, hget] at c2
        have z2 := hown.frozenAt j
        have hst := byte_step (l := t.data.toList) hmr hr
        have hbd := byte_bd (t.data.toList.take m) q
        have HPM := Lib.hid (pb_more (l := t.data.toList) (by omega) hmr hr (by omega))
        have HPS := Lib.hid (fun h => pb_same (l := t.data.toList) (by omega) hmr hr (by omega) h)
        have hn' : n = 2 + (m + 1 + 7) / 8 := by omega
        by_cases h1 : t[m].toNat = 49
        · have u1 : ((t[m].toNat : Int) == 49) = true := by rw [h1]; rfl
          have HBT := Lib.hid (bt_one hlt h1)
          obtain ⟨x, hx⟩ : ∃ x : Nat, byteI (t.data.toList.take m) q = (x : Int) := ⟨(byteI (t.data.toList.take m) q).toNat, by omega⟩
          rw [hx] at c2 hbd hst
          have HX := Lib.hid hx
          have HOR := Lib.hid (or_int (r := r) (x := x) hr (by omega) (by have := hst.2; exact_mod_cast this))
          have jn : j < n := by omega
          have HJQ := Lib.hid hjq
          have HNN := Lib.hid hn'
          have HO := Lib.hid hown
          have r7 : r ≤ 7 := by omega
          have jc : (Option.map (Value.int IntKind.u8) (some (x : Int))) = some (.int .u8 (x : Int)) := rfl
          rw [jc] at c2
          clear hmr hn hjq hget hst hx hn' hown hbd jc
          go_wp2
          go_region
          go_wp2
          go_roundw
          case rel => exact ⟨m + 1, by omega, by go_num, g, cap, n, rfl, ⟨hn1, hn2⟩, by
            rw [← pkT_set HPM.out, HOR.out, HBT.out, HX.out, Int.one_mul, ← HJQ.out]
            exact (World.ownsRow.stored HO.out j _).1, (hB.setCell hown_g _).drew, HNN⟩
          case measure => simp [intOf]; omega
        · have u1 : ((t[m].toNat : Int) == 49) = false := beq_eq_false_iff_ne.2 (by omega)
          have HBT := Lib.hid (bt_zero hlt h1)
          have HNN := Lib.hid hn'
          have HO := Lib.hid hown
          clear hmr hn hjq hget hst hn' hown hbd c2 z2 s1 s2
          go_wp2
          go_roundw
          case rel => exact ⟨m + 1, by omega, by go_num, g, cap, n, rfl, ⟨hn1, hn2⟩, by
            have hpk : pkT t.data.toList t.size (m + 1) = pkT t.data.toList t.size m := by rw [pkT, HPS.out HBT.out]; rfl
            rw [hpk]; exact HO.out, hB, HNN⟩
          case measure => simp [intOf]; omega
    · obtain rfl : m = t.size := by omega
      obtain ⟨A, c, e1, hO⟩ := own_bts hown
      have hl2 : (pkT t.data.toList t.size t.size).length = n := by rw [pkT_len (by omega)]; exact HN.out.symm
      have HK : Hid (pkT t.data.toList t.size t.size = pkI t.data.toList) := Lib.hid (by
        rw [pkT, List.take_of_length_le (by omega), pkI, hlen]; simp)
      rw [hl2] at e1
      cases e1
      have HO := Lib.hid hO
      have HL := Lib.hid hl2
      clear hown hO hl2
      go_wp2
      go_ret
      exact ⟨_, _, pkT t.data.toList t.size t.size, by rw [HL.out]; rfl, HO.out, hB, HK⟩
end Go.Proofs.YtcmnjmhedmneiaaDoor
