/-
  Contract: lead (cone): of the blocks that came in the row of fronts and the map of those seen are changed.
-/
import Derived.Test.YtmlkdjcjfkfdiaaAre
import Derived.Test.YtmlkdjcjfkfdiaaAfter
import Derived.Test.YtmlkdjcjfkfdiaaThreadM
namespace Go.Proofs.Ytmlkdjcjfkfdiaa
open Go.RowKit Go.Shelf Go.Maps

/-- Of what was there, nothing but two blocks has changed. -/
structure Two (g m : Nat) (w w' : World) : Prop where
  os : w'.os = w.os
  tape : w'.tape = w.tape
  output : w'.output = w.output
  size : w.heap.size ≤ w'.heap.size
  block : ∀ i, i < w.heap.size → i ≠ g → i ≠ m → w'.heap[i]? = w.heap[i]?
theorem Two.refl (g m : Nat) (w : World) : Two g m w w := ⟨rfl, rfl, rfl, Nat.le_refl _, fun _ _ _ _ => rfl⟩
theorem Two.trans {g m : Nat} {a b c : World} (h : Two g m a b) (k : Two g m b c) : Two g m a c :=
  ⟨k.os.trans h.os, k.tape.trans h.tape, k.output.trans h.output, Nat.le_trans h.size k.size, fun i hi h1 h2 => (k.block i (Nat.lt_of_lt_of_le hi h.size) h1 h2).trans (h.block i hi h1 h2)⟩
theorem Two.of_below {g m : Nat} {w w' : World} (h : Below w.heap.size w w') : Two g m w w' := ⟨h.os, h.tape, h.output, h.size, fun i hi _ _ => h.block i hi⟩
theorem Two.of_grown {g m x : Nat} {w w' : World} (h : w.grownBy w' (some x)) (hx : x = g ∨ x = m) : Two g m w w' :=
  ⟨h.os, h.tape, h.output, h.size, fun i hi h1 h2 => h.block i hi (by rintro e; injection e with e; subst e; rcases hx with rfl | rfl; exact h1 rfl; exact h2 rfl)⟩
theorem Two.below {g m base : Nat} {w w' : World} (h : Two g m w w') (hg : base ≤ g) (hm : base ≤ m) (hw : base ≤ w.heap.size) : Below base w w' :=
  ⟨h.os, h.tape, h.output, h.size, fun i hi => h.block i (by omega) (by omega) (by omega)⟩
theorem own_two {g m B n sz : Nat} {e : TypeId} {v : Value} {xs : List Value} {w w' : World} (h : w.ownsRow B e sz v n xs) (k : Two g m w w') (hg : g < B) (hm : m < B) : w'.ownsRow B e sz v n xs := by
  refine ⟨h.1, ?_⟩
  rcases h.2 with ⟨rfl, h0⟩ | ⟨g', cap, cur, rfl, hb, hh, h1, h2, h3, h4⟩
  · exact .inl ⟨rfl, h0⟩
  · refine .inr ⟨g', cap, cur, rfl, hb, ?_, h1, h2, h3, h4⟩
    rw [k.block g' (Array.getElem?_eq_some_iff.1 hh).1 (by omega) (by omega)]
    exact hh
theorem own_grown {x B n sz : Nat} {e : TypeId} {v : Value} {xs : List Value} {w w' : World} (h : w.ownsRow B e sz v n xs) (k : w.grownBy w' (some x)) (hx : v.ownBlock ≠ some x) : w'.ownsRow B e sz v n xs := by
  refine ⟨h.1, ?_⟩
  rcases h.2 with ⟨rfl, h0⟩ | ⟨g', cap, cur, rfl, hb, hh, h1, h2, h3, h4⟩
  · exact .inl ⟨rfl, h0⟩
  · refine .inr ⟨g', cap, cur, rfl, hb, ?_, h1, h2, h3, h4⟩
    rw [k.block g' (Array.getElem?_eq_some_iff.1 hh).1 (by rintro q; exact hx (by simpa [Value.ownBlock] using q))]
    exact hh

/-- The row of fronts and the map of those seen. -/
structure LeW (w : World) (base g m n : Nat) (fr se : List Int) : Prop where
  row : w.ownsRow base 3 1 (.slice (some ⟨g, 0, none⟩) n n) n (fr.map (Value.int .i64))
  map : w.ownsMap Try.prog 3 (plainElem Try.prog 4) m se.length (keysB (H := Unit) (se.map keyI))
theorem LeW.below {w w' : World} {base g m n : Nat} {fr se : List Int} (h : LeW w base g m n fr se) (hB : Below w.heap.size w w') : LeW w' base g m n fr se := ⟨own_below h.row hB, map_below h.map hB⟩

theorem LeW.stored {w : World} {base g m n : Nat} {fr se : List Int} (h : LeW w base g m n fr se) (hgm : g ≠ m) (j : Nat) (a : Int) : LeW (w.setCell ⟨g, j, none⟩ (.int .i64 a)) base g m n (fr.set j a) se ∧ Two g m w (w.setCell ⟨g, j, none⟩ (.int .i64 a)) := by
  obtain ⟨h1, h2⟩ := h.row.stored j (.int .i64 a)
  exact ⟨⟨by rw [List.map_set]; exact h1, h.map.kept h2 (by intro q; injection q with q; exact hgm q.symm)⟩, Two.of_grown h2 (.inl rfl)⟩

section
variable {lead : Int → List Int → List Int → Bool × List Int × List Int} {a b : Int} {ys fr se fr3 se3 : List Int} {k : Nat}
theorem drop_at (h : ys[k]? = some b) : ys.drop k = b :: ys.drop (k + 1) := by
  obtain ⟨h1, h2⟩ := List.getElem?_eq_some_iff.1 h
  rw [List.drop_eq_getElem_cons h1, h2]
theorem try_seen (h : ys[k]? = some b) (hs : b ∈ se) : tryR lead a (ys.drop k) fr se = tryR lead a (ys.drop (k + 1)) fr se := by
  rw [drop_at h, tryR, if_pos hs]
theorem try_free (h : ys[k]? = some b) (hs : b ∉ se) (hf : frI fr b = -1) : tryR lead a (ys.drop k) fr se = (true, fr.set b.toNat a, se ++ [b]) := by
  rw [drop_at h, tryR, if_neg hs, if_pos hf]
theorem try_yes (h : ys[k]? = some b) (hs : b ∉ se) (hf : frI fr b ≠ -1) (hl : lead (frI fr b) fr (se ++ [b]) = (true, fr3, se3)) : tryR lead a (ys.drop k) fr se = (true, fr3.set b.toNat a, se3) := by
  rw [drop_at h, tryR, if_neg hs, if_neg hf, hl]; rfl
theorem try_no (h : ys[k]? = some b) (hs : b ∉ se) (hf : frI fr b ≠ -1) (hl : lead (frI fr b) fr (se ++ [b]) = (false, fr3, se3)) : tryR lead a (ys.drop k) fr se = tryR lead a (ys.drop (k + 1)) fr3 se3 := by
  rw [drop_at h, tryR, if_neg hs, if_neg hf, hl]; rfl
theorem try_end : tryR lead a (ys.drop ys.length) fr se = (false, fr, se) := by
  rw [List.drop_length, tryR]
end

set_option maxRecDepth 100000 in
theorem after_own (ms : List (Int × Int)) (A : Option Addr) (c : Nat) (a : Int) (w : World) (h : Marks w A ms) (hv : vhB ms = true) (ha : hasB ms a = true) :
    Calls Try.prog 103 #[.slice A ms.length c, .int .i64 a] w fun e w' => ∃ (A' : Option Addr) (c' : Nat) (ys : List Int), e = .returned (.slice A' ys.length c') ∧ w'.ownsRow w.heap.size 3 1 (.slice A' ys.length c') ys.length (ys.map (Value.int .i64)) ∧ Below w.heap.size w w' ∧ Hid (ys = afterL ms a) := by
  have hn := (vh_parts hv).2
  have H := Lib.hid (And.intro h (And.intro hv ha))
  have eg : ∀ args w, (callFunc 120 args).run Try.prog w = .ok (.enter 120 args) w := enters_of Try.func120 (by kernel_rfl) rfl
  clear h hv ha
  go_enter Try.func103, Try.ntmps103
  go_wp2_with fail
  refine (all_any ms.length A c _ (by omega)).mono ?_
  rintro e w1 ⟨A1, c1, rfl, hO1, hB1⟩
  have hB0 : Below w.heap.size w w1 := Below.trans (by repeat (first | with_reducible exact Below.refl _ _ | with_reducible assumption | refine below_drewN ?_ _ | with_reducible refine Below.drew ?_ | (refine Below.setCell ?_ (by first | (simp; done) | (simp; omega) | omega) _) | (refine Below.alloc ?_ (by first | (simp; done) | (simp; omega) | omega) _))) (hB1.mono (by first | (simp; done) | (simp; omega) | omega))
  have hC : Caught w1 w.heap.size (w.heap.size + 1) A ms.length c a := Caught.below ⟨(by first | (simp; done) | (simp; omega) | omega), (by first | (simp; done) | (simp; omega) | omega), by simp, by simp⟩ hB1
  have hlen := allL_len ms.length
  have HK := Lib.hid (keep_after ms A c a (allL ms.length) _ _ w1 (H.out.1.below hB0) H.out.2.1 H.out.2.2 (fun b hb => allL_has hb) hC)
  have HO := Lib.hid hO1
  have HC := Lib.hid hC
  clear hO1 hC
  have hsz : w.heap.size + 2 ≤ w1.heap.size := by have := hB1.size; simp at this; omega
  have hcon := kept_own _ _ _ eg (allL ms.length) A1 c1 w1 HK.out HO.out.ints (by omega)
  rw [hlen] at hcon
  have HQ := Lib.hid hcon
  clear hcon hlen eg
  go_wp2_with (go_at_call 97; refine HQ.out.mono ?_; rintro e w2 ⟨A2, c2, ys, rfl, hO2, hB2, hy⟩)
  go_ret
  exact ⟨A2, c2, ys, rfl, own_base2 hO2 (by omega), below_step hB0 hB2, hy⟩

/-- What lead says with f as its fuel. -/
def LeadAt (ms : List (Int × Int)) (A : Option Addr) (c : Nat) (w0 : World) (g m f : Nat) : Prop :=
  ∀ (a : Int) (fr se : List Int) (w : World), Below w0.heap.size w0 w → hasB ms a = true → (∀ y ∈ fr, y = -1 ∨ hasB ms y = true) → SeenOk ms.length se → ms.length < f + se.length → LeW w w0.heap.size g m ms.length fr se →
    Calls Try.prog 112 #[.slice A ms.length c, .int .i64 a, .slice (some ⟨g, 0, none⟩) ms.length ms.length, .map (some m)] w fun e w' => ∃ (d : Bool) (fr2 se2 : List Int), e = .returned (.bool d) ∧ LeW w' w0.heap.size g m ms.length fr2 se2 ∧ Two g m w w' ∧ Hid (leadR ms f a fr se = (d, fr2, se2))

set_option maxRecDepth 100000 in
set_option maxHeartbeats 2000000 in
theorem lead_step (ms : List (Int × Int)) (A : Option Addr) (c : Nat) (w0 : World) (g m f : Nat) (h0 : Marks w0 A ms) (hv : vhB ms = true) (hg : w0.heap.size ≤ g) (hm : w0.heap.size ≤ m) (hgm : g ≠ m) (ih : LeadAt ms A c w0 g m f) : LeadAt ms A c w0 g m (f + 1) := by
  intro a fr se w hB ha hfr hse hfuel hL
  obtain ⟨hn1, hn2⟩ := vh_parts hv
  have hgw : g < w.heap.size := (hL.row.lt g rfl).2
  have hmw : m < w.heap.size := hL.map.lt
  have hfl : fr.length = ms.length := by have := hL.row.1; simpa using this
  have HA := Lib.hid (after_own ms A c a w (h0.below hB) hv ha)
  have H := Lib.hid (And.intro hfr (And.intro hse (And.intro hfuel (And.intro hL (And.intro hB (And.intro hfl hv))))))
  have IH := Lib.hid ih
  clear h0 hv hfr hse hfuel hL ih ha hfl
  go_enter Try.func112, Try.ntmps112
  go_wp2_with (go_at_call 103; refine HA.out.mono ?_; rintro e w1 ⟨A1, c1, ys, rfl, hO1, hB1, hy1⟩)
  have HO1 := Lib.hid hO1
  have HB1 := Lib.hid hB1
  have HY1 := Lib.hid hy1.out
  have HR0 : Hid (tryR (leadR ms f) a (ys.drop 0) fr se = leadR ms (f + 1) a fr se) := Lib.hid (by rw [List.drop_zero, leadR, hy1.out])
  have hyl : ys.length ≤ 14 := by rw [hy1.out]; exact after_len14 hn2 a
  clear hO1 hB1 hy1 HA
  go_loopw [15] (fun i wr => ∃ (k : Nat) (se1 : List Int), k ≤ ys.length ∧ i = .int .i64 k ∧ Hid (LeW wr w0.heap.size g m ms.length fr se1) ∧ Hid (Two g m w1 wr) ∧ Hid (SeenOk ms.length se1 ∧ se.length ≤ se1.length) ∧ Hid (tryR (leadR ms f) a (ys.drop k) fr se1 = leadR ms (f + 1) a fr se)) (fun i _ => ys.length - (intOf i).toNat)
  case atStart => exact ⟨0, se, Nat.zero_le _, rfl, Lib.hid (H.out.2.2.2.1.below HB1.out), Lib.hid (Two.refl _ _ _), Lib.hid ⟨H.out.2.1, Nat.le_refl _⟩, HR0⟩
  case round =>
    clear HR0
    obtain ⟨k, se1, hk, rfl, HL, HT, HS, HR⟩ := hrel
    rename World => wr
    by_cases hlt : k < ys.length
    · obtain ⟨A5, c5, e5, hO5⟩ := own_ints (own_two HO1.out HT.out hgw hmw)
      injection e5 with e51 e52 e53
      subst e51 e53
      obtain ⟨ad, b, rfl, hbk, hz, hc⟩ := hO5.ints.get hlt
      have hbm : b ∈ afterL ms a := HY1.out ▸ List.mem_of_getElem? hz.out
      have hbr := allL_mem (mem_after.1 hbm).1
      have HBH := Lib.hid (after_has hbm)
      obtain ⟨j, rfl⟩ := Int.eq_ofNat_of_zero_le hbr.1
      have hjn : j < ms.length := by omega
      have hkey := keyI_ok (x := (j : Int)) (by omega)
      obtain ⟨d, hrun, hat⟩ := look_bool intKeyed Try.underlying94 Try.underlying4 (zeroB _) HL.out.map hkey
      have HA := Lib.hid ((keysB_at (keyI_key (j : Int)) keysI_lit hat).trans mem_keys)
      have HZ := Lib.hid hz.out
      have HSL := Lib.hid HS.out.1.le
      clear hat hbm hbr hO5 hz
      cases d with
      | true =>
        have HN := Lib.hid (try_seen (lead := leadR ms f) (a := a) (fr := fr) HZ.out (HA.out.1 rfl))
        go_wp2
        go_roundw
        case rel => exact ⟨k + 1, se1, by omega, by go_num, HL, HT, HS, Lib.hid (HN.out ▸ HR.out)⟩
        case measure => simp [intOf]; omega
      | false =>
        have HNS : Hid ((j : Int) ∉ se1) := Lib.hid fun q => by have := HA.out.2 q; cases this
        have hlen : se1.length < maxLen := by have := HSL.out; unfold maxLen; omega
        have HLN := Lib.hid hlen
        clear hlen HA
        go_upto_region 6 with (at_mapUpdate; refine wpList_mapUpdate_own _ rfl _ _ _ 94 rfl 3 4 intKeyed Try.underlying94 (plainElem (H := Unit) Try.prog 4) m _ _ rfl HL.out.map HLN.out _ _ _ rfl rfl hkey _ [] (plainElem_bool Try.underlying4 true) ?_; intro w2 hown2 hgrow2)
        have HT2 : Hid (Two g m w1 w2) := Lib.hid (HT.out.trans (Two.of_grown hgrow2 (.inr rfl)))
        have HL2 : Hid (LeW w2 w0.heap.size g m ms.length fr (se1 ++ [(j : Int)])) := Lib.hid ⟨own_grown HL.out.row hgrow2 (by simpa [Value.ownBlock] using hgm), by rw [List.map_append, List.map_cons, List.map_nil, keysB_snoc, List.length_append]; exact hown2⟩
        have HS2 : Hid (SeenOk ms.length (se1 ++ [(j : Int)])) := Lib.hid (HS.out.1.next HNS.out (by omega))
        clear hown2 hgrow2
        obtain ⟨x, hx⟩ : ∃ x, frI fr (j : Int) = x := ⟨_, rfl⟩
        have HX := Lib.hid hx
        have hjf : j < fr.length := by rw [H.out.2.2.2.2.2.1]; exact hjn
        have hfx : fr[j]? = some x := by rw [← hx, frI, Int.toNat_natCast, List.getD_eq_getElem?_getD, List.getElem?_eq_getElem hjf]; rfl
        have c2 : w2.cell? ⟨g, j, none⟩ = some (.int .i64 x) := by rw [HL2.out.row.cellAt j (by omega), List.getElem?_map, hfx]; rfl
        have HFX := Lib.hid (H.out.1 x (List.mem_of_getElem? hfx))
        clear hx hfx hjf
        by_cases h1 : x = -1
        · subst h1
          have hf2 := HL2.out.row.frozenAt j
          have HN := Lib.hid (try_free (lead := leadR ms f) (a := a) HZ.out HNS.out HX.out)
          go_wp2
          go_ret
          obtain ⟨q1, q2⟩ := HL2.out.stored hgm j a
          exact .inr ⟨rfl, fr.set j a, se1 ++ [(j : Int)], q1, (Two.of_below HB1.out).trans (HT2.out.trans q2), Lib.hid (by rw [← HR.out, HN.out, Int.toNat_natCast])⟩
        · have t1 : (x == -1) = false := by simpa using h1
          have HXB := Lib.hid (HFX.out.resolve_left h1)
          have HNX : Hid (frI fr (j : Int) ≠ -1) := Lib.hid (HX.out ▸ h1)
          clear h1
          have HQ := Lib.hid (IH.out x fr (se1 ++ [(j : Int)]) w2 (H.out.2.2.2.2.1.trans (((Two.of_below HB1.out).trans HT2.out).below hg hm H.out.2.2.2.2.1.size)) HXB.out H.out.1 HS2.out (by have := H.out.2.2.1; have := HS.out.2; simp; omega) HL2.out)
          clear IH
          have HLF := Lib.hid (fun h => lead_fail (ms := ms) f x fr (se1 ++ [(j : Int)]) HS2.out (by have := H.out.2.2.1; have := HS.out.2; simp; omega) h)
          cases hd : (leadR ms f x fr (se1 ++ [(j : Int)])).1 with
          | true =>
            have HD := Lib.hid hd
            clear hd HLF
            go_upto_region 7 with (go_at_call 112; refine HQ.out.mono ?_; rintro e w3 ⟨d3, fr3, se3, rfl, hL3, hT3, hR3⟩; obtain rfl : d3 = true := by (have := HD.out; rw [hR3.out] at this; exact this))
            have HL3 := Lib.hid hL3
            have HT3 := Lib.hid hT3
            have hgw3 : g < w3.heap.size := (hL3.row.lt g rfl).2
            have hf3 := hL3.row.frozenAt j
            have hfl3 : fr3.length = ms.length := by have := hL3.row.1; simpa using this
            obtain ⟨y, hy⟩ : ∃ y, fr3[j]? = some y := ⟨_, List.getElem?_eq_getElem (by omega)⟩
            have c3 : w3.cell? ⟨g, j, none⟩ = some (.int .i64 y) := by rw [hL3.row.cellAt j (by omega), List.getElem?_map, hy]; rfl
            have HN := Lib.hid (try_yes (lead := leadR ms f) (a := a) (fr3 := fr3) (se3 := se3) HZ.out HNS.out HNX.out (by rw [HX.out]; exact hR3.out))
            clear hL3 hT3 hy
            go_wp2
            go_ret
            obtain ⟨q1, q2⟩ := HL3.out.stored hgm j a
            exact ⟨true, fr3.set j a, se3, rfl, q1, (Two.of_below HB1.out).trans (HT2.out.trans (HT3.out.trans q2)), Lib.hid (by rw [← HR.out, HN.out, Int.toNat_natCast])⟩
          | false =>
            have HD := Lib.hid hd
            clear hd
            go_upto_region 9 with (go_at_call 112; refine HQ.out.mono ?_; rintro e w3 ⟨d3, fr3, se3, rfl, hL3, hT3, hR3⟩; obtain rfl : d3 = false := by (have := HD.out; rw [hR3.out] at this; exact this))
            obtain ⟨e3, F3⟩ := HLF.out HD.out
            have HN := Lib.hid (try_no (lead := leadR ms f) (a := a) (fr3 := fr3) (se3 := se3) HZ.out HNS.out HNX.out (by rw [HX.out]; exact hR3.out))
            rw [hR3.out] at e3 F3
            simp only at e3 F3
            subst e3
            have HL3 := Lib.hid hL3
            have HT3 : Hid (Two g m w1 w3) := Lib.hid (HT2.out.trans hT3)
            have HS3 : Hid (SeenOk ms.length se3 ∧ se.length ≤ se3.length) := Lib.hid ⟨F3.ok, by have := F3.len; have := HS.out.2; simp at *; omega⟩
            clear hL3 hT3 F3
            go_wp2
            go_roundw
            case rel => exact ⟨k + 1, se3, by omega, by go_num, HL3, HT3, HS3, Lib.hid (HN.out ▸ HR.out)⟩
            case measure => simp [intOf]; omega
    · obtain rfl : k = ys.length := by omega
      have HE : Hid (leadR ms (f + 1) a fr se = (false, fr, se1)) := Lib.hid (by rw [← HR.out, try_end])
      go_wp2
      go_ret
      exact ⟨false, fr, se1, rfl, HL.out, (Two.of_below HB1.out).trans HT.out, HE⟩
theorem lead_any (ms : List (Int × Int)) (A : Option Addr) (c : Nat) (w0 : World) (g m : Nat) (h0 : Marks w0 A ms) (hv : vhB ms = true) (hg : w0.heap.size ≤ g) (hm : w0.heap.size ≤ m) (hgm : g ≠ m) : ∀ f, LeadAt ms A c w0 g m f
  | 0 => fun a fr se w _ _ _ hse hf _ => by have := hse.le; omega
  | f + 1 => lead_step ms A c w0 g m f h0 hv hg hm hgm (lead_any ms A c w0 g m h0 hv hg hm hgm f)
end Go.Proofs.Ytmlkdjcjfkfdiaa
