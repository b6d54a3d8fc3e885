/-
  Contracts: haveEach at isLayer, areLayers, AreLayers (cone).
-/
import Derived.Test.YtmlkdjcjfkfdiaaAreM
import Derived.Test.YtmlkdjcjfkfdiaaJoined
namespace Go.Proofs.Ytmlkdjcjfkfdiaa
open Go.RowKit Go.Shelf Go.Maps

theorem map_below {H : Type} {w w' : World} {P : Program} {k : TypeId} {R : Value → Option (DataW H × List MemPlace)} {b n : Nat} {D : DataW H} (h : w.ownsMap P k R b n D) (hB : Below w.heap.size w w') : w'.ownsMap P k R b n D :=
  h.kept (World.grownBy.mk hB.os hB.tape hB.output hB.size (fun i hi _ => hB.block i hi) : World.grownBy _ w' none) (by simp)
def keyI (x : Int) : Lit := .int .i64 x
theorem keyI_key (x : Int) : WideAt.IsKeyLit (keyI x) := trivial
theorem keysI_lit {l : List Int} : ∀ x ∈ l.map keyI, WideAt.IsKeyLit x := by
  intro x hx
  obtain ⟨y, _, rfl⟩ := List.mem_map.1 hx
  exact keyI_key y
theorem keyI_inj {x y : Int} (h : keyI x = keyI y) : x = y := by unfold keyI at h; injection h
theorem intKeyed : Keyed Try.prog 3 := int_keyed Try.underlying3
theorem keyI_ok {x : Int} (h : -1000 ≤ x ∧ x ≤ 1000) : keyOf Try.prog 3 (.int .i64 x) = some (keyI x) := keyOf_int_mk Try.underlying3 (wf_of h)
theorem mem_keys {x : Int} {F : List Int} : keyI x ∈ F.map keyI ↔ x ∈ F := by
  rw [List.mem_map]
  exact ⟨fun ⟨y, hy, e⟩ => keyI_inj e ▸ hy, fun h => ⟨x, h, rfl⟩⟩
theorem size_keys {H : Type} : ∀ F : List Int, F.Nodup → Maps.size (keysB (H := H) (F.reverse.map keyI)) = F.length
  | [], _ => by simp [keysB, Maps.setOf, Maps.size]
  | x :: F, h => by
    obtain ⟨h1, h2⟩ := List.nodup_cons.1 h
    rw [List.reverse_cons, List.map_append, List.map_cons, List.map_nil, keysB_snoc]
    have ht : Maps.Tidy (keysB (H := H) (F.reverse.map keyI)) := Maps.tidy_setOf _ _ keysI_lit
    have hh : Maps.has (keysB (H := H) (F.reverse.map keyI)) (keyI x) = false := by
      rw [keysB, Maps.has_setOf _ _ _ keysI_lit, List.any_eq_false]
      intro k hk
      obtain ⟨y, hy, rfl⟩ := List.mem_map.1 hk
      have hne : keyI y ≠ keyI x := fun e => h1 (by rw [← keyI_inj e]; exact List.mem_reverse.1 hy)
      simp [Maps.sameKey_ne hne]
    rw [Maps.size_put ht, hh, size_keys F h2]
    rfl
theorem size_nodup {H : Type} {F : List Int} (h : F.Nodup) : Maps.size (keysB (H := H) (F.map keyI)) = F.length := by
  have := size_keys (H := H) F.reverse (((List.reverse_perm F).pairwise_iff (fun h => Ne.symm h)).2 h)
  rwa [List.reverse_reverse, List.length_reverse] at this
theorem len_flat {ms : List (Int × Int)} : ∀ T : List (List Int), (∀ z ∈ T, islB ms z = true) → T.flatten.length ≤ 50 * T.length
  | [], _ => by simp
  | l :: T, h => by
    have h1 := (isl_in (h l (by simp))).1
    have h2 := len_flat T (fun z hz => h z (List.mem_cons_of_mem _ hz))
    rw [List.flatten_cons, List.length_append, List.length_cons]
    omega
theorem beq_len (a b : Nat) : ((a : Int) == (b : Int)) = decide (a = b) := by rw [Bool.eq_iff_iff]; simp; omega
theorem keys_next {F : List Int} {l : List Int} {k : Nat} {x : Int} (h : l[k]? = some x) : (F ++ l.take (k + 1)).map keyI = (F ++ l.take k).map keyI ++ [keyI x] := by
  rw [take_snoc h]; simp

set_option maxRecDepth 100000 in
set_option maxHeartbeats 2000000 in
theorem haveEachL_any (ms : List (Int × Int)) (A : Option Addr) (c : Nat) (T : List (List Int)) (A2 : Option Addr) (c2 : Nat) (w : World) (h : Marks w A ms) (hv : vhB ms = true) (hI : Tabs w A2 T) (_ : T.length ≤ c2) (_ : c2 ≤ maxLen) :
    Calls Try.prog 108 #[.slice A ms.length c, .slice A2 T.length c2, .func (Fn.func 85) #[.slice A ms.length c] #[]] w fun e w' => e = .returned (.bool (aryB ms T)) ∧ Below w.heap.size w w' := by
  have H := Lib.hid (And.intro h (And.intro hv hI))
  have hn2 := (vh_parts hv).2
  clear h hv hI
  by_cases h50 : 50 < T.length
  · have t50 : decide (50 < (T.length : Int)) = true := decide_eq_true (by omega)
    have HR := Lib.hid (ary_many (ms := ms) h50)
    go_enter Try.func108, Try.ntmps108
    go_wp2
    go_ret
    exact ⟨ret_bool HR.out, Below.refl _ _⟩
  · have t50 : decide (50 < (T.length : Int)) = false := decide_eq_false (by omega)
    have hT50 : T.length ≤ 50 := by omega
    clear h50
    have hmm := @run_makeMap Try.prog
    go_enter Try.func108, Try.ntmps108
    go_wp2
    go_loopw [18] (fun i wr => ∃ k : Nat, k ≤ T.length ∧ i = .int .i64 k ∧ wr.ownsMap Try.prog 3 (plainElem Try.prog 4) w.heap.size ((T.take k).flatten).length (keysB (H := Unit) ((T.take k).flatten.map keyI)) ∧ Hid (∀ z ∈ T.take k, islB ms z = true) ∧ Hid ((T.take k).flatten.Nodup) ∧ Below w.heap.size w wr) (fun i _ => T.length - (intOf i).toNat)
    case atStart => exact ⟨0, Nat.zero_le _, rfl, by rw [List.take_zero, List.flatten_nil, List.map_nil, keysB_nil]; exact World.ownsMap_made _ _ _ _, Lib.hid (by intro z hz; simp at hz), Lib.hid (by simp), (Below.refl _ _).alloc (Nat.le_refl _) _⟩
    case round =>
      clear hmm
      obtain ⟨k, hk, rfl, hown, hall, hnd, hB⟩ := hrel
      rename World => wr
      by_cases hlt : k < T.length
      · obtain ⟨b, o, e, hbk, hc⟩ := H.out.2.2 (by omega)
        subst e
        obtain ⟨l, hz⟩ := getT_of_lt hlt
        obtain ⟨X, cx, f1, hO⟩ := hc k l hz
        have f0 := (hB.cell (p := ⟨b, o + k, none⟩) hbk).trans f1
        have HZ := Lib.hid hz
        have HX := Lib.hid hO
        have hxl := hO.le
        have hxc := hO.cap
        have HF := Lib.hid (isLayer_any ms A c l X cx wr (H.out.1.below hB) H.out.2.1 (hO.below hB).ints hO.le hO.cap)
        have HN := Lib.hid (flat_take hz)
        have hfl : Hid (((T.take k).flatten).length ≤ 2500) := Lib.hid (by have := len_flat _ hall.out; rw [List.length_take] at this; omega)
        have HW := Lib.hid hB
        have HOW := Lib.hid hown
        clear hc f1 hO hz hB hown
        cases hb : islB ms l with
        | false =>
          have HR := Lib.hid (ary_bad HZ.out hb)
          have HBB := Lib.hid hb
          clear hb
          go_wp2_with (go_at_call 85; refine HF.out.mono ?_; rintro e w2 ⟨he, hB2⟩; rw [HBB.out] at he; subst he)
          go_ret
          exact ⟨ret_bool HR.out, below_step HW.out hB2⟩
        | true =>
          have HBB := Lib.hid hb
          have hll : l.length ≤ 50 := (isl_in hb).1
          have HIN := Lib.hid (isl_in hb).2
          clear hb
          go_wp2_with (go_at_call 85; refine HF.out.mono ?_; rintro e w2 ⟨he, hB2⟩; rw [HBB.out] at he; subst he)
          have HW2 := Lib.hid (below_step HW.out hB2)
          have HOW2 := Lib.hid (map_below HOW.out hB2)
          clear hB2 HW HOW HF
          go_loopw [28] (fun i wr2 => ∃ k2 : Nat, k2 ≤ l.length ∧ i = .int .i64 k2 ∧ wr2.ownsMap Try.prog 3 (plainElem Try.prog 4) w.heap.size ((T.take k).flatten ++ l.take k2).length (keysB (H := Unit) (((T.take k).flatten ++ l.take k2).map keyI)) ∧ Hid (((T.take k).flatten ++ l.take k2).Nodup) ∧ Below w.heap.size w wr2) (fun i _ => l.length - (intOf i).toNat)
          case atStart => exact ⟨0, Nat.zero_le _, rfl, by rw [List.take_zero, List.append_nil]; exact HOW2.out, by rw [List.take_zero, List.append_nil]; exact hnd, HW2.out⟩
          case round =>
            clear HW2 HOW2
            obtain ⟨k2, hk2, rfl, hown, hnd2, hB⟩ := hrel
            rename World => wr2
            have hz2 := hB.size
            by_cases hlt2 : k2 < l.length
            · obtain ⟨ad, x, rfl, hbk2, hx, g1⟩ := (HX.out.below hB).ints.get hlt2
              have hxin := HIN.out x (List.mem_of_getElem? hx.out)
              have hkey := keyI_ok (x := x) (by omega)
              obtain ⟨d, hrun, hat⟩ := look_bool intKeyed Try.underlying94 Try.underlying4 (zeroB _) hown hkey
              have HA := Lib.hid ((keysB_at (keyI_key x) keysI_lit hat).trans mem_keys)
              have HK := Lib.hid (keys_next (F := (T.take k).flatten) hx.out)
              have hlen : ((T.take k).flatten ++ l.take k2).length < maxLen := by
                have := hfl.out
                rw [List.length_append, List.length_take]
                unfold maxLen
                omega
              have HLN := Lib.hid hlen
              have hl1 : ((T.take k).flatten ++ l.take (k2 + 1)).length = ((T.take k).flatten ++ l.take k2).length + 1 := by rw [take_snoc hx.out]; simp; omega
              have HL1 := Lib.hid hl1
              have HOW := Lib.hid hown
              have HB := Lib.hid hB
              clear hat hlen hl1
              cases d
              all_goals
                go_wp2_with (at_mapUpdate; refine wpList_mapUpdate_own _ rfl _ _ _ 94 rfl 3 4 intKeyed Try.underlying94 (plainElem (H := Unit) Try.prog 4) w.heap.size _ _ rfl HOW.out HLN.out _ _ _ rfl rfl hkey _ [] (plainElem_bool Try.underlying4 true) ?_; intro w1 hown1 hgrow1)
              · go_roundw
                case rel => exact ⟨k2 + 1, by omega, by go_num, by rw [HL1.out, HK.out, keysB_snoc]; exact hown1, (by rw [take_snoc hx.out, ← List.append_assoc]; exact nodup_next hnd2.out (fun hm => by have := HA.out.2 hm; cases this)), HB.out.grown hgrow1 (by omega) (fun j hj => by cases hj; exact Nat.le_refl _)⟩
                case measure => simp [intOf]; omega
              · go_ret
                exact ⟨ret_bool (ary_twice HZ.out hx.out HBB.out (HA.out.1 (by first | trivial | rfl))), HB.out⟩
            · obtain rfl : k2 = l.length := by omega
              rw [List.take_length] at hown hnd2
              rw [← HN.out] at hown hnd2
              go_wp2
              go_roundw
              case rel => exact ⟨k + 1, by omega, by go_num, hown, all_take HZ.out hall.out HBB.out, hnd2, hB⟩
              case measure => simp [intOf]; omega
      · obtain rfl : k = T.length := by omega
        rw [List.take_length] at hown hnd hall
        have HS := Lib.hid (size_nodup (H := Unit) hnd.out)
        have HR := Lib.hid ((once_len (flat_in hall.out) hnd.out).trans (ary_yes hT50 hall.out))
        obtain ⟨D, hD⟩ : ∃ D, D = keysB (H := Unit) (T.flatten.map keyI) := ⟨_, rfl⟩
        rw [← hD] at hown HS
        clear hD
        go_wp2_with (at_len; refine wpList_len_own _ rfl _ 94 rfl 3 4 Try.underlying94 _ w.heap.size _ _ rfl hown ?_)
        go_ret
        exact ⟨ret_bool (by rw [← HR.out, HS.out]; exact beq_len _ _), hB⟩

set_option maxRecDepth 100000 in
theorem areLayers_any (ms : List (Int × Int)) (A : Option Addr) (c : Nat) (l : List (List Int)) (A2 : Option Addr) (c2 : Nat) (w : World) (h : Marks w A ms) (hv : vhB ms = true) (hI : Tabs w A2 l) (hl : l.length ≤ c2) (hl2 : c2 ≤ maxLen) :
    Calls Try.prog 80 #[.slice A ms.length c, .slice A2 l.length c2] w fun e w' => e = .returned (.bool (aryB ms l)) ∧ Below w.heap.size w w' := by
  have HQ := Lib.hid (haveEachL_any ms A c l A2 c2 w h hv hI hl hl2)
  clear h hv hI
  go_enter Try.func80, Try.ntmps80
  go_wp2_with (go_at_call 108; refine HQ.out.mono ?_; rintro e w1 ⟨rfl, hB1⟩)
  go_ret
  exact ⟨rfl, hB1⟩

set_option maxRecDepth 100000 in
theorem areLayers1_any (ms : List (Int × Int)) (A : Option Addr) (c : Nat) (l : List (List Int)) (A2 : Option Addr) (c2 : Nat) (B0 B1 : Nat) (w : World) (h : Marks w A ms) (hv : vhB ms = true) (hI : Tabs w A2 l) (hl : l.length ≤ c2) (hl2 : c2 ≤ maxLen)
    (h0 : w.cell? ⟨B0, 0, none⟩ = some (.slice A ms.length c)) (h1 : w.cell? ⟨B1, 0, none⟩ = some (.slice A2 l.length c2)) :
    Calls Try.prog 79 #[.pointer (some ⟨B0, 0, none⟩), .pointer (some ⟨B1, 0, none⟩)] w fun e w' => e = .returned (.bool (aryB ms l)) ∧ Below w.heap.size w w' := by
  have HQ := Lib.hid (areLayers_any ms A c l A2 c2 w h hv hI hl hl2)
  clear h hv hI
  go_enter Try.func79, Try.ntmps79
  go_wp2_with (go_at_call 80; refine HQ.out.mono ?_; rintro e w1 ⟨rfl, hB1⟩)
  go_ret
  exact ⟨rfl, hB1⟩

set_option maxRecDepth 100000 in
theorem toldAreLayers_any (ms : List (Int × Int)) (A : Option Addr) (c : Nat) (l : List (List Int)) (A2 : Option Addr) (c2 : Nat) (B0 B1 : Nat) (w : World) (h : Clk w A c ms) (hI : Tabs w A2 l) (hl : l.length ≤ c2) (hl2 : c2 ≤ maxLen)
    (z0 : B0 < w.heap.size) (z1 : B1 < w.heap.size) (h0 : w.cell? ⟨B0, 0, none⟩ = some (.slice A ms.length c)) (h1 : w.cell? ⟨B1, 0, none⟩ = some (.slice A2 l.length c2)) :
    Calls Try.prog 71 #[.slice A ms.length c, .func (Fn.func 79) #[] #[.pointer (some ⟨B0, 0, none⟩), .pointer (some ⟨B1, 0, none⟩)]] w fun e w' => ∃ (x : Bool) (E : Int), e = .returned (.tuple #[.bool x, .int .i64 E]) ∧ Below w.heap.size w w' ∧ Hid (x = aryF ms l ∧ E = hitsE ms) := by
  have H := Lib.hid (And.intro h (And.intro hI (And.intro (And.intro z0 z1) (And.intro h0 h1))))
  clear h hI h0 h1
  cases hv : vhB ms with
  | true =>
    have HV := Lib.hid hv
    clear hv
    go_enter Try.func71, Try.ntmps71
    go_wp2_with (first
      | (go_at_call 21; refine (valid_any ms A c _ H.out.1.marks H.out.1.len).mono ?_; rintro e w1 ⟨he, hB1⟩; rw [HV.out] at he; subst he)
      | (go_at_call 79; refine (areLayers1_any ms A c l A2 c2 B0 B1 _ (H.out.1.marks.below hB1) HV.out (H.out.2.1.below hB1) hl hl2 ((hB1.cell (p := ⟨B0, 0, none⟩) H.out.2.2.1.1).trans H.out.2.2.2.1) ((hB1.cell (p := ⟨B1, 0, none⟩) H.out.2.2.1.2).trans H.out.2.2.2.2)).mono ?_; rintro e w2 ⟨rfl, hB2⟩))
    go_ret2
    exact ⟨_, _, rfl, below_step hB1 hB2, (aryF_yes HV.out).symm, (hitsE_yes HV.out).symm⟩
  | false =>
    have HV := Lib.hid hv
    clear hv
    go_enter Try.func71, Try.ntmps71
    go_wp2_with (go_at_call 21; refine (valid_any ms A c _ H.out.1.marks H.out.1.len).mono ?_; rintro e w1 ⟨he, hB1⟩; rw [HV.out] at he; subst he)
    go_ret2
    exact ⟨_, _, rfl, hB1, (aryF_no HV.out).symm, (hitsE_no HV.out).symm⟩

set_option maxRecDepth 100000 in
theorem coneAreLayers_any (ms : List (Int × Int)) (A : Option Addr) (c : Nat) (l : List (List Int)) (A2 : Option Addr) (c2 : Nat) (w : World) (h : Clk w A c ms) (hI : Tabs w A2 l) (hl : l.length ≤ c2) (hl2 : c2 ≤ maxLen) :
    Calls Try.prog 35 #[.slice A ms.length c, .slice A2 l.length c2] w fun e w' => ∃ (x : Bool) (E : Int), e = .returned (.tuple #[.bool x, .int .i64 E]) ∧ Below w.heap.size w w' ∧ Hid (x = aryF ms l ∧ E = hitsE ms) := by
  obtain ⟨w1, hw1⟩ : ∃ w1, w1 = (w.alloc (.cells #[.slice A ms.length c] 22)).alloc (.cells #[.slice A2 l.length c2] 38) := ⟨_, rfl⟩
  have hBB : Below w.heap.size w w1 := by rw [hw1]; exact ((Below.refl _ _).alloc (Nat.le_refl _) _).alloc (by first | (simp; done) | (simp; omega) | omega) _
  have z0 : w.heap.size < w1.heap.size := by rw [hw1]; simp; omega
  have z1 : w.heap.size + 1 < w1.heap.size := by rw [hw1]; simp
  have g0 : w1.cell? ⟨w.heap.size, 0, none⟩ = some (.slice A ms.length c) := by rw [hw1]; simp
  have g1 : w1.cell? ⟨w.heap.size + 1, 0, none⟩ = some (.slice A2 l.length c2) := by rw [hw1]; simp
  have hcon := toldAreLayers_any ms A c l A2 c2 w.heap.size (w.heap.size + 1) w1 (h.below hBB) (hI.below hBB) hl hl2 z0 z1 g0 g1
  rw [hw1] at hcon
  have HQ := Lib.hid hcon
  clear hcon hBB h hI z0 z1 g0 g1
  go_enter Try.func35, Try.ntmps35
  go_wp2_with (go_at_call 71; refine HQ.out.mono ?_; rintro e w2 ⟨x, E, rfl, hB2, hy⟩)
  go_ret2
  exact ⟨x, E, rfl, Below.trans (by repeat (first | with_reducible exact Below.refl _ _ | with_reducible assumption | refine below_drewN ?_ _ | with_reducible refine Below.drew ?_ | (refine Below.setCell ?_ (by first | (simp; done) | (simp; omega) | omega) _) | (refine Below.alloc ?_ (by first | (simp; done) | (simp; omega) | omega) _))) (hB2.mono (by first | (simp; done) | (simp; omega) | omega)), hy⟩

end Go.Proofs.Ytmlkdjcjfkfdiaa
