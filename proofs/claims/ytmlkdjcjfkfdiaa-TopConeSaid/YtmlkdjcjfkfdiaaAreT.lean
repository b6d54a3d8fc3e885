/-
  Contracts: AreThreads of cone and firnref02 (as XAreM, XAre, XRefAre).
-/
import Derived.Test.YtmlkdjcjfkfdiaaRefAre
import Derived.Test.YtmlkdjcjfkfdiaaIsChain
import Derived.Test.YtmlkdjcjfkfdiaaRefIsChain
namespace Go.Proofs.Ytmlkdjcjfkfdiaa
open Go.RowKit Go.Shelf Go.Maps

def thyB (ms : List (Int × Int)) (T : List (List Int)) : Bool := decide (T.length ≤ 50) && (T.all (ischB ms) && onceC ms.length T.flatten)
def thyF (ms : List (Int × Int)) (T : List (List Int)) : Bool := vhB ms && thyB ms T
theorem thyF_yes {ms : List (Int × Int)} {T : List (List Int)} (h : vhB ms = true) : thyF ms T = thyB ms T := by simp [thyF, h]
theorem thyF_no {ms : List (Int × Int)} {T : List (List Int)} (h : vhB ms = false) : thyF ms T = false := by simp [thyF, h]
theorem isc_in {ms : List (Int × Int)} {l : List Int} (h : ischB ms l = true) : l.length ≤ 50 ∧ ∀ x ∈ l, 0 ≤ x ∧ x < ms.length := by
  unfold ischB at h
  rw [Bool.and_eq_true] at h
  obtain ⟨h1, h2⟩ := listB_parts h.1
  refine ⟨h1.2, fun x hx => ?_⟩
  have := List.all_eq_true.1 h2 x hx
  simpa [hasB] using this
theorem thy_many {ms : List (Int × Int)} {T : List (List Int)} (h : 50 < T.length) : false = thyB ms T := by
  rw [thyB, decide_eq_false (by omega)]; rfl
theorem thy_bad {ms : List (Int × Int)} {T : List (List Int)} {k : Nat} {l : List Int} (h : T[k]? = some l) (hb : ischB ms l = false) : false = thyB ms T := by
  have : T.all (ischB ms) = false := by
    rw [Bool.eq_false_iff]
    intro e
    have := List.all_eq_true.1 e l (List.mem_of_getElem? h)
    rw [hb] at this
    cases this
  rw [thyB, this]; simp
theorem thy_twice {ms : List (Int × Int)} {T : List (List Int)} {k k2 : Nat} {l : List Int} {x : Int} (h : T[k]? = some l) (hx : l[k2]? = some x) (hb : ischB ms l = true) (hm : x ∈ (T.take k).flatten ++ l.take k2) : false = thyB ms T := by
  obtain ⟨R, e⟩ := flat_split h hx
  rw [thyB, e, once_dup hm ((isc_in hb).2 x (List.mem_of_getElem? hx))]; simp
theorem allT_take {ms : List (Int × Int)} {T : List (List Int)} {k : Nat} {l : List Int} (h : T[k]? = some l) (ha : ∀ z ∈ T.take k, ischB ms z = true) (hb : ischB ms l = true) : ∀ z ∈ T.take (k + 1), ischB ms z = true := by
  intro z hz
  rw [take_snoc h, List.mem_append, List.mem_singleton] at hz
  rcases hz with hz | rfl
  · exact ha z hz
  · exact hb
theorem flatT_in {ms : List (Int × Int)} {T : List (List Int)} (ha : ∀ z ∈ T, ischB ms z = true) : ∀ x ∈ T.flatten, 0 ≤ x ∧ x < ms.length := by
  intro x hx
  obtain ⟨l, hl, hxl⟩ := List.mem_flatten.1 hx
  exact (isc_in (ha l hl)).2 x hxl
theorem thy_yes {ms : List (Int × Int)} {T : List (List Int)} (h50 : T.length ≤ 50) (ha : ∀ z ∈ T, ischB ms z = true) : onceC ms.length T.flatten = thyB ms T := by
  rw [thyB, decide_eq_true h50, List.all_eq_true.2 ha]; rfl
theorem lenT_flat {ms : List (Int × Int)} : ∀ T : List (List Int), (∀ z ∈ T, ischB ms z = true) → T.flatten.length ≤ 50 * T.length
  | [], _ => by simp
  | l :: T, h => by
    have h1 := (isc_in (h l (by simp))).1
    have h2 := lenT_flat T (fun z hz => h z (List.mem_cons_of_mem _ hz))
    rw [List.flatten_cons, List.length_append, List.length_cons]
    omega
set_option maxRecDepth 100000 in
set_option maxHeartbeats 2000000 in
theorem haveEachC_any (ms : List (Int × Int)) (A : Option Addr) (c : Nat) (T : List (List Int)) (A2 : Option Addr) (c2 : Nat) (w : World) (h : Marks w A ms) (hv : vhB ms = true) (hI : Tabs w A2 T) (_ : T.length ≤ c2) (_ : c2 ≤ maxLen) :
    Calls Try.prog 108 #[.slice A ms.length c, .slice A2 T.length c2, .func (Fn.func 73) #[.slice A ms.length c] #[]] w fun e w' => e = .returned (.bool (thyB ms T)) ∧ Below w.heap.size w w' := by
  have H := Lib.hid (And.intro h (And.intro hv hI))
  have hn2 := (vh_parts hv).2
  clear h hv hI
  by_cases h50 : 50 < T.length
  · have t50 : decide (50 < (T.length : Int)) = true := decide_eq_true (by omega)
    have HR := Lib.hid (thy_many (ms := ms) h50)
    go_enter Try.func108, Try.ntmps108
    go_wp2
    go_ret
    exact ⟨ret_bool HR.out, Below.refl _ _⟩
  · have t50 : decide (50 < (T.length : Int)) = false := decide_eq_false (by omega)
    have hT50 : T.length ≤ 50 := by omega
    clear h50
    have hmm := @run_makeMap Try.prog
    go_enter Try.func108, Try.ntmps108
    go_wp2
    go_loopw [18] (fun i wr => ∃ k : Nat, k ≤ T.length ∧ i = .int .i64 k ∧ wr.ownsMap Try.prog 3 (plainElem Try.prog 4) w.heap.size ((T.take k).flatten).length (keysB (H := Unit) ((T.take k).flatten.map keyI)) ∧ Hid (∀ z ∈ T.take k, ischB ms z = true) ∧ Hid ((T.take k).flatten.Nodup) ∧ Below w.heap.size w wr) (fun i _ => T.length - (intOf i).toNat)
    case atStart => exact ⟨0, Nat.zero_le _, rfl, by rw [List.take_zero, List.flatten_nil, List.map_nil, keysB_nil]; exact World.ownsMap_made _ _ _ _, Lib.hid (by intro z hz; simp at hz), Lib.hid (by simp), (Below.refl _ _).alloc (Nat.le_refl _) _⟩
    case round =>
      clear hmm
      obtain ⟨k, hk, rfl, hown, hall, hnd, hB⟩ := hrel
      rename World => wr
      by_cases hlt : k < T.length
      · obtain ⟨b, o, e, hbk, hc⟩ := H.out.2.2 (by omega)
        subst e
        obtain ⟨l, hz⟩ := getT_of_lt hlt
        obtain ⟨X, cx, f1, hO⟩ := hc k l hz
        have f0 := (hB.cell (p := ⟨b, o + k, none⟩) hbk).trans f1
        have HZ := Lib.hid hz
        have HX := Lib.hid hO
        have hxl := hO.le
        have hxc := hO.cap
        have HF := Lib.hid (isChain_any ms A c l X cx wr (H.out.1.below hB) H.out.2.1 (hO.below hB).ints hO.le hO.cap)
        have HN := Lib.hid (flat_take hz)
        have hfl : Hid (((T.take k).flatten).length ≤ 2500) := Lib.hid (by have := lenT_flat _ hall.out; rw [List.length_take] at this; omega)
        have HW := Lib.hid hB
        have HOW := Lib.hid hown
        clear hc f1 hO hz hB hown
        cases hb : ischB ms l with
        | false =>
          have HR := Lib.hid (thy_bad HZ.out hb)
          have HBB := Lib.hid hb
          clear hb
          go_wp2_with (go_at_call 73; refine HF.out.mono ?_; rintro e w2 ⟨he, hB2⟩; rw [HBB.out] at he; subst he)
          go_ret
          exact ⟨ret_bool HR.out, below_step HW.out hB2⟩
        | true =>
          have HBB := Lib.hid hb
          have hll : l.length ≤ 50 := (isc_in hb).1
          have HIN := Lib.hid (isc_in hb).2
          clear hb
          go_wp2_with (go_at_call 73; refine HF.out.mono ?_; rintro e w2 ⟨he, hB2⟩; rw [HBB.out] at he; subst he)
          have HW2 := Lib.hid (below_step HW.out hB2)
          have HOW2 := Lib.hid (map_below HOW.out hB2)
          clear hB2 HW HOW HF
          go_loopw [28] (fun i wr2 => ∃ k2 : Nat, k2 ≤ l.length ∧ i = .int .i64 k2 ∧ wr2.ownsMap Try.prog 3 (plainElem Try.prog 4) w.heap.size ((T.take k).flatten ++ l.take k2).length (keysB (H := Unit) (((T.take k).flatten ++ l.take k2).map keyI)) ∧ Hid (((T.take k).flatten ++ l.take k2).Nodup) ∧ Below w.heap.size w wr2) (fun i _ => l.length - (intOf i).toNat)
          case atStart => exact ⟨0, Nat.zero_le _, rfl, by rw [List.take_zero, List.append_nil]; exact HOW2.out, by rw [List.take_zero, List.append_nil]; exact hnd, HW2.out⟩
          case round =>
            clear HW2 HOW2
            obtain ⟨k2, hk2, rfl, hown, hnd2, hB⟩ := hrel
            rename World => wr2
            have hz2 := hB.size
            by_cases hlt2 : k2 < l.length
            · obtain ⟨ad, x, rfl, hbk2, hx, g1⟩ := (HX.out.below hB).ints.get hlt2
              have hxin := HIN.out x (List.mem_of_getElem? hx.out)
              have hkey := keyI_ok (x := x) (by omega)
              obtain ⟨d, hrun, hat⟩ := look_bool intKeyed Try.underlying94 Try.underlying4 (zeroB _) hown hkey
              have HA := Lib.hid ((keysB_at (keyI_key x) keysI_lit hat).trans mem_keys)
              have HK := Lib.hid (keys_next (F := (T.take k).flatten) hx.out)
              have hlen : ((T.take k).flatten ++ l.take k2).length < maxLen := by
                have := hfl.out
                rw [List.length_append, List.length_take]
                unfold maxLen
                omega
              have HLN := Lib.hid hlen
              have hl1 : ((T.take k).flatten ++ l.take (k2 + 1)).length = ((T.take k).flatten ++ l.take k2).length + 1 := by rw [take_snoc hx.out]; simp; omega
              have HL1 := Lib.hid hl1
              have HOW := Lib.hid hown
              have HB := Lib.hid hB
              clear hat hlen hl1
              cases d
              all_goals
                go_wp2_with (at_mapUpdate; refine wpList_mapUpdate_own _ rfl _ _ _ 94 rfl 3 4 intKeyed Try.underlying94 (plainElem (H := Unit) Try.prog 4) w.heap.size _ _ rfl HOW.out HLN.out _ _ _ rfl rfl hkey _ [] (plainElem_bool Try.underlying4 true) ?_; intro w1 hown1 hgrow1)
              · go_roundw
                case rel => exact ⟨k2 + 1, by omega, by go_num, by rw [HL1.out, HK.out, keysB_snoc]; exact hown1, (by rw [take_snoc hx.out, ← List.append_assoc]; exact nodup_next hnd2.out (fun hm => by have := HA.out.2 hm; cases this)), HB.out.grown hgrow1 (by omega) (fun j hj => by cases hj; exact Nat.le_refl _)⟩
                case measure => simp [intOf]; omega
              · go_ret
                exact ⟨ret_bool (thy_twice HZ.out hx.out HBB.out (HA.out.1 (by first | trivial | rfl))), HB.out⟩
            · obtain rfl : k2 = l.length := by omega
              rw [List.take_length] at hown hnd2
              rw [← HN.out] at hown hnd2
              go_wp2
              go_roundw
              case rel => exact ⟨k + 1, by omega, by go_num, hown, allT_take HZ.out hall.out HBB.out, hnd2, hB⟩
              case measure => simp [intOf]; omega
      · obtain rfl : k = T.length := by omega
        rw [List.take_length] at hown hnd hall
        have HS := Lib.hid (size_nodup (H := Unit) hnd.out)
        have HR := Lib.hid ((once_len (flatT_in hall.out) hnd.out).trans (thy_yes hT50 hall.out))
        obtain ⟨D, hD⟩ : ∃ D, D = keysB (H := Unit) (T.flatten.map keyI) := ⟨_, rfl⟩
        rw [← hD] at hown HS
        clear hD
        go_wp2_with (at_len; refine wpList_len_own _ rfl _ 94 rfl 3 4 Try.underlying94 _ w.heap.size _ _ rfl hown ?_)
        go_ret
        exact ⟨ret_bool (by rw [← HR.out, HS.out]; exact beq_len _ _), hB⟩

set_option maxRecDepth 100000 in
theorem areThreads_any (ms : List (Int × Int)) (A : Option Addr) (c : Nat) (l : List (List Int)) (A2 : Option Addr) (c2 : Nat) (w : World) (h : Marks w A ms) (hv : vhB ms = true) (hI : Tabs w A2 l) (hl : l.length ≤ c2) (hl2 : c2 ≤ maxLen) :
    Calls Try.prog 88 #[.slice A ms.length c, .slice A2 l.length c2] w fun e w' => e = .returned (.bool (thyB ms l)) ∧ Below w.heap.size w w' := by
  have HQ := Lib.hid (haveEachC_any ms A c l A2 c2 w h hv hI hl hl2)
  clear h hv hI
  go_enter Try.func88, Try.ntmps88
  go_wp2_with (go_at_call 108; refine HQ.out.mono ?_; rintro e w1 ⟨rfl, hB1⟩)
  go_ret
  exact ⟨rfl, hB1⟩

set_option maxRecDepth 100000 in
theorem areThreads1_any (ms : List (Int × Int)) (A : Option Addr) (c : Nat) (l : List (List Int)) (A2 : Option Addr) (c2 : Nat) (B0 B1 : Nat) (w : World) (h : Marks w A ms) (hv : vhB ms = true) (hI : Tabs w A2 l) (hl : l.length ≤ c2) (hl2 : c2 ≤ maxLen)
    (h0 : w.cell? ⟨B0, 0, none⟩ = some (.slice A ms.length c)) (h1 : w.cell? ⟨B1, 0, none⟩ = some (.slice A2 l.length c2)) :
    Calls Try.prog 87 #[.pointer (some ⟨B0, 0, none⟩), .pointer (some ⟨B1, 0, none⟩)] w fun e w' => e = .returned (.bool (thyB ms l)) ∧ Below w.heap.size w w' := by
  have HQ := Lib.hid (areThreads_any ms A c l A2 c2 w h hv hI hl hl2)
  clear h hv hI
  go_enter Try.func87, Try.ntmps87
  go_wp2_with (go_at_call 88; refine HQ.out.mono ?_; rintro e w1 ⟨rfl, hB1⟩)
  go_ret
  exact ⟨rfl, hB1⟩

set_option maxRecDepth 100000 in
theorem toldAreThreads_any (ms : List (Int × Int)) (A : Option Addr) (c : Nat) (l : List (List Int)) (A2 : Option Addr) (c2 : Nat) (B0 B1 : Nat) (w : World) (h : Clk w A c ms) (hI : Tabs w A2 l) (hl : l.length ≤ c2) (hl2 : c2 ≤ maxLen)
    (z0 : B0 < w.heap.size) (z1 : B1 < w.heap.size) (h0 : w.cell? ⟨B0, 0, none⟩ = some (.slice A ms.length c)) (h1 : w.cell? ⟨B1, 0, none⟩ = some (.slice A2 l.length c2)) :
    Calls Try.prog 71 #[.slice A ms.length c, .func (Fn.func 87) #[] #[.pointer (some ⟨B0, 0, none⟩), .pointer (some ⟨B1, 0, none⟩)]] w fun e w' => ∃ (x : Bool) (E : Int), e = .returned (.tuple #[.bool x, .int .i64 E]) ∧ Below w.heap.size w w' ∧ Hid (x = thyF ms l ∧ E = hitsE ms) := by
  have H := Lib.hid (And.intro h (And.intro hI (And.intro (And.intro z0 z1) (And.intro h0 h1))))
  clear h hI h0 h1
  cases hv : vhB ms with
  | true =>
    have HV := Lib.hid hv
    clear hv
    go_enter Try.func71, Try.ntmps71
    go_wp2_with (first
      | (go_at_call 21; refine (valid_any ms A c _ H.out.1.marks H.out.1.len).mono ?_; rintro e w1 ⟨he, hB1⟩; rw [HV.out] at he; subst he)
      | (go_at_call 87; refine (areThreads1_any ms A c l A2 c2 B0 B1 _ (H.out.1.marks.below hB1) HV.out (H.out.2.1.below hB1) hl hl2 ((hB1.cell (p := ⟨B0, 0, none⟩) H.out.2.2.1.1).trans H.out.2.2.2.1) ((hB1.cell (p := ⟨B1, 0, none⟩) H.out.2.2.1.2).trans H.out.2.2.2.2)).mono ?_; rintro e w2 ⟨rfl, hB2⟩))
    go_ret2
    exact ⟨_, _, rfl, below_step hB1 hB2, (thyF_yes HV.out).symm, (hitsE_yes HV.out).symm⟩
  | false =>
    have HV := Lib.hid hv
    clear hv
    go_enter Try.func71, Try.ntmps71
    go_wp2_with (go_at_call 21; refine (valid_any ms A c _ H.out.1.marks H.out.1.len).mono ?_; rintro e w1 ⟨he, hB1⟩; rw [HV.out] at he; subst he)
    go_ret2
    exact ⟨_, _, rfl, hB1, (thyF_no HV.out).symm, (hitsE_no HV.out).symm⟩

set_option maxRecDepth 100000 in
theorem coneAreThreads_any (ms : List (Int × Int)) (A : Option Addr) (c : Nat) (l : List (List Int)) (A2 : Option Addr) (c2 : Nat) (w : World) (h : Clk w A c ms) (hI : Tabs w A2 l) (hl : l.length ≤ c2) (hl2 : c2 ≤ maxLen) :
    Calls Try.prog 42 #[.slice A ms.length c, .slice A2 l.length c2] w fun e w' => ∃ (x : Bool) (E : Int), e = .returned (.tuple #[.bool x, .int .i64 E]) ∧ Below w.heap.size w w' ∧ Hid (x = thyF ms l ∧ E = hitsE ms) := by
  obtain ⟨w1, hw1⟩ : ∃ w1, w1 = (w.alloc (.cells #[.slice A ms.length c] 22)).alloc (.cells #[.slice A2 l.length c2] 38) := ⟨_, rfl⟩
  have hBB : Below w.heap.size w w1 := by rw [hw1]; exact ((Below.refl _ _).alloc (Nat.le_refl _) _).alloc (by first | (simp; done) | (simp; omega) | omega) _
  have z0 : w.heap.size < w1.heap.size := by rw [hw1]; simp; omega
  have z1 : w.heap.size + 1 < w1.heap.size := by rw [hw1]; simp
  have g0 : w1.cell? ⟨w.heap.size, 0, none⟩ = some (.slice A ms.length c) := by rw [hw1]; simp
  have g1 : w1.cell? ⟨w.heap.size + 1, 0, none⟩ = some (.slice A2 l.length c2) := by rw [hw1]; simp
  have hcon := toldAreThreads_any ms A c l A2 c2 w.heap.size (w.heap.size + 1) w1 (h.below hBB) (hI.below hBB) hl hl2 z0 z1 g0 g1
  rw [hw1] at hcon
  have HQ := Lib.hid hcon
  clear hcon hBB h hI z0 z1 g0 g1
  go_enter Try.func42, Try.ntmps42
  go_wp2_with (go_at_call 71; refine HQ.out.mono ?_; rintro e w2 ⟨x, E, rfl, hB2, hy⟩)
  go_ret2
  exact ⟨x, E, rfl, Below.trans (by repeat (first | with_reducible exact Below.refl _ _ | with_reducible assumption | refine below_drewN ?_ _ | with_reducible refine Below.drew ?_ | (refine Below.setCell ?_ (by first | (simp; done) | (simp; omega) | omega) _) | (refine Below.alloc ?_ (by first | (simp; done) | (simp; omega) | omega) _))) (hB2.mono (by first | (simp; done) | (simp; omega) | omega)), hy⟩

set_option maxRecDepth 100000 in
set_option maxHeartbeats 2000000 in
theorem refOnceT_any (ms : List (Int × Int)) (A : Option Addr) (c : Nat) (T : List (List Int)) (A2 : Option Addr) (c2 : Nat) (w : World) (hn : ms.length ≤ 1000) (hI : Tabs w A2 T) (hT : T.length ≤ 50) (ha : ∀ z ∈ T, ischB ms z = true) :
    Calls Try.prog 109 #[.slice A ms.length c, .slice A2 T.length c2] w fun e w' => e = .returned (.bool (onceC ms.length T.flatten)) ∧ Below w.heap.size w w' := by
  obtain ⟨i0, hi0, hz0, hz1, hz2⟩ := info_parts int_info
  have HZ2 := Lib.hid hz2
  have H := Lib.hid (And.intro hI ha)
  obtain ⟨n, hnn⟩ : ∃ n, n = ms.length := ⟨_, rfl⟩
  have HN := Lib.hid hnn
  rw [← hnn] at hn ⊢
  clear hz2 hI ha hnn
  go_enter Try.func109, Try.ntmps109
  go_wp2_with (at_make; refine wpList_make_full _ rfl _ _ 28 rfl w.heap.size 3 i0 (.int .i64 0) 1 Try.underlying28 hi0 hz0 hz1 _ _ _ _ n rfl rfl rfl rfl (by rw [HZ2.out]; omega) (by unfold maxLen; omega) (Nat.le_refl _) ?_; intro w1 hown1 hg1)
  have hB1 : Below w.heap.size w w1 := (Below.refl _ _).grown hg1 (Nat.le_refl _) (by simp)
  rw [made_cnt] at hown1
  have HO1 := Lib.hid hown1
  have HB1 := Lib.hid hB1
  clear hg1 HZ2 hz0 hz1 hi0 hown1 hB1
  go_loopw [6] (fun i wr => ∃ k : Nat, k ≤ T.length ∧ i = .int .i64 k ∧ Hid (wr.ownsRow w.heap.size 3 1 (.slice (some ⟨w.heap.size, 0, none⟩) n n) n ((cntL n (T.take k).flatten).map (Value.int .i64))) ∧ Hid (Below w.heap.size w wr)) (fun i _ => T.length - (intOf i).toNat)
  case atStart => exact ⟨0, Nat.zero_le _, rfl, HO1, HB1⟩
  case round =>
    clear HO1 HB1
    obtain ⟨k, hk, rfl, HO, HB⟩ := hrel
    rename World => wr
    by_cases hlt : k < T.length
    · obtain ⟨b, o, e, hbk, hc⟩ := H.out.1 (by omega)
      subst e
      obtain ⟨l, hz⟩ := getT_of_lt hlt
      obtain ⟨X, cx, f1, hX⟩ := hc k l hz
      have HZ := Lib.hid hz
      have HX := Lib.hid hX
      have HF1 := Lib.hid f1
      obtain ⟨hll0, hin0⟩ := isc_in (H.out.2 l (List.mem_of_getElem? hz))
      have hll : l.length ≤ 50 := hll0
      have HIN := Lib.hid hin0
      have HFL := Lib.hid (show ((T.take k).flatten).length ≤ 2500 by have := lenT_flat (ms := ms) (T.take k) (fun z hz => H.out.2 z (List.mem_of_mem_take hz)); rw [List.length_take] at this; omega)
      clear hc f1 hX hz hin0 hll0
      go_wp2
      go_loopw [7] (fun i wr2 => ∃ k2 : Nat, k2 ≤ l.length ∧ i = .int .i64 k2 ∧ Hid (wr2.ownsRow w.heap.size 3 1 (.slice (some ⟨w.heap.size, 0, none⟩) n n) n ((cntL n ((T.take k).flatten ++ l.take k2)).map (Value.int .i64))) ∧ Hid (Below w.heap.size w wr2)) (fun i _ => l.length - (intOf i).toNat)
      case atStart => exact ⟨0, Nat.zero_le _, rfl, by rw [List.take_zero, List.append_nil]; exact HO, HB⟩
      case round =>
        clear HO HB
        obtain ⟨k2, hk2, rfl, HO, HB⟩ := hrel
        rename World => wr2
        have f0 := (HB.out.cell (p := ⟨b, o + k, none⟩) hbk).trans HF1.out
        by_cases hlt2 : k2 < l.length
        · obtain ⟨ad, x, rfl, hbk2, hx, g1⟩ := (HX.out.below HB.out).ints.get hlt2
          obtain ⟨hx0, hx1⟩ := HIN.out x (List.mem_of_getElem? hx.out)
          obtain ⟨j, rfl⟩ := Int.eq_ofNat_of_zero_le hx0
          have hj : j < n := by have := HN.out; omega
          have hc := HO.out.cellAt j (by omega)
          rw [List.getElem?_map, cnt_get hj, Option.map_some] at hc
          have HST := Lib.hid (cnt_set (F := (T.take k).flatten ++ l.take k2) hj)
          have hcnt : ((T.take k).flatten ++ l.take k2).count (j : Int) ≤ 2550 := by
            refine Nat.le_trans List.count_le_length ?_
            have := HFL.out
            rw [List.length_append, List.length_take]
            omega
          obtain ⟨m, hm⟩ : ∃ m, m = ((T.take k).flatten ++ l.take k2).count (j : Int) := ⟨_, rfl⟩
          rw [← hm] at hc hcnt HST
          have hf := HO.out.frozenAt j
          have HS2 := Lib.hid (HO.out.stored j (Value.int .i64 ((m : Int) + 1))).1
          have HBS := Lib.hid (HB.out.setCell (p := ⟨w.heap.size, j, none⟩) (Nat.le_refl _) (Value.int .i64 ((m : Int) + 1)))
          clear hm hx0 hx1
          go_wp2
          go_roundw
          case rel =>
            refine ⟨k2 + 1, by omega, by go_num, ?_, HBS⟩
            have := HS2.out
            rw [← List.map_set, HST.out, List.append_assoc, ← take_snoc hx.out] at this
            exact this
          case measure => simp [intOf]; omega
        · obtain rfl : k2 = l.length := by omega
          have HO2 : Hid (wr2.ownsRow w.heap.size 3 1 (.slice (some ⟨w.heap.size, 0, none⟩) n n) n ((cntL n (T.take (k + 1)).flatten).map (Value.int .i64))) := by
            rw [flat_take HZ.out]
            have := HO.out
            rw [List.take_length] at this
            exact this
          go_wp2
          go_roundw
          case rel => exact ⟨k + 1, by omega, by go_num, HO2, HB⟩
          case measure => simp [intOf]; omega
    · obtain rfl : k = T.length := by omega
      rw [List.take_length] at HO
      go_wp2
      go_loop [8] (fun i => ∃ q : Nat, q ≤ n ∧ i = .int .i64 q ∧ Hid (∀ j : Nat, j < q → T.flatten.count (j : Int) = 1)) (fun i => n - (intOf i).toNat)
      case atStart => exact ⟨0, Nat.zero_le _, rfl, Lib.hid (fun j hj => absurd hj (Nat.not_lt_zero j))⟩
      case round =>
        obtain ⟨q, hq, rfl, hall⟩ := hrel
        by_cases hlt3 : q < n
        · have hc := HO.out.cellAt q (by omega)
          rw [List.getElem?_map, cnt_get hlt3, Option.map_some] at hc
          obtain ⟨m, hm⟩ : ∃ m, m = T.flatten.count (q : Int) := ⟨_, rfl⟩
          rw [← hm] at hc
          have HM := Lib.hid hm
          clear hm
          by_cases h1 : m = 1
          · subst h1
            have HA : Hid (∀ j : Nat, j < q + 1 → T.flatten.count (j : Int) = 1) := Lib.hid fun j hj => by
              rcases Nat.lt_or_ge j q with h2 | h2
              · exact hall.out j h2
              · obtain rfl : j = q := by omega
                exact HM.out.symm
            go_wp2
            go_round
            case rel => exact ⟨q + 1, by omega, by go_num, HA⟩
            case measure => simp [intOf]; omega
          · have t1 : ((m : Int) != 1) = true := by simp; omega
            have HR := Lib.hid (once_no (F := T.flatten) hlt3 (by rw [← HM.out]; exact h1))
            clear h1
            go_wp2
            go_ret
            exact ⟨ret_bool HR.out, HB.out⟩
        · obtain rfl : q = n := by omega
          have HR : Hid (true = onceC q T.flatten) := Lib.hid (onceC_iff.2 hall.out).symm
          clear hall
          go_wp2
          go_ret
          exact ⟨ret_bool HR.out, HB.out⟩

set_option maxRecDepth 100000 in
set_option maxHeartbeats 2000000 in
theorem refAreT_any (ms : List (Int × Int)) (A : Option Addr) (c : Nat) (T : List (List Int)) (A2 : Option Addr) (c2 : Nat) (w : World) (h : Marks w A ms) (hv : vhB ms = true) (hI : Tabs w A2 T) (hl : T.length ≤ maxLen) :
    Calls Try.prog 81 #[.slice A ms.length c, .slice A2 T.length c2, .bool false] w fun e w' => e = .returned (.bool (thyB ms T)) ∧ Below w.heap.size w w' := by
  unfold maxLen at hl
  have hn2 := (vh_parts hv).2
  have H := Lib.hid (And.intro h (And.intro hv hI))
  clear h hv hI
  by_cases h50 : 50 < T.length
  · have t50 : decide (50 < (T.length : Int)) = true := decide_eq_true (by omega)
    have HR := Lib.hid (thy_many (ms := ms) h50)
    go_enter Try.func81, Try.ntmps81
    go_wp2
    go_ret
    exact ⟨ret_bool HR.out, Below.refl _ _⟩
  · have t50 : decide (50 < (T.length : Int)) = false := decide_eq_false (by omega)
    have hT50 : T.length ≤ 50 := by omega
    clear h50
    go_enter Try.func81, Try.ntmps81
    go_wp2
    go_loopw [7] (fun i wr => ∃ k : Nat, k ≤ T.length ∧ i = .int .i64 k ∧ Hid (∀ z ∈ T.take k, ischB ms z = true) ∧ Hid (Below w.heap.size w wr)) (fun i _ => T.length - (intOf i).toNat)
    case atStart => exact ⟨0, Nat.zero_le _, rfl, Lib.hid (by intro z hz; simp at hz), Lib.hid (Below.refl _ _)⟩
    case round =>
      obtain ⟨k, hk, rfl, hall, HB⟩ := hrel
      rename World => wr
      by_cases hlt : k < T.length
      · obtain ⟨b, o, e, hbk, hc⟩ := H.out.2.2 (by omega)
        subst e
        obtain ⟨l, hz⟩ := getT_of_lt hlt
        obtain ⟨X, cx, f1, hX⟩ := hc k l hz
        have HZ := Lib.hid hz
        have f0 := (HB.out.cell (p := ⟨b, o + k, none⟩) hbk).trans f1
        have HF := Lib.hid (refIsChain_any ms A c l X cx wr (H.out.1.below HB.out) H.out.2.1 (hX.below HB.out).ints (Nat.le_trans hX.le hX.cap))
        clear hc f1 hX hz
        cases hb : ischB ms l with
        | false =>
          have HR := Lib.hid (thy_bad HZ.out hb)
          have HBB := Lib.hid hb
          clear hb
          go_wp2_with (go_at_call 74; refine HF.out.mono ?_; rintro e w2 ⟨he, hB2⟩; rw [HBB.out] at he; subst he)
          go_ret
          exact ⟨ret_bool HR.out, below_step HB.out hB2⟩
        | true =>
          have HBB := Lib.hid hb
          clear hb
          go_wp2_with (go_at_call 74; refine HF.out.mono ?_; rintro e w2 ⟨he, hB2⟩; rw [HBB.out] at he; subst he)
          go_roundw
          case rel => exact ⟨k + 1, by omega, by go_num, allT_take HZ.out hall.out HBB.out, below_step HB.out hB2⟩
          case measure => simp [intOf]; omega
      · obtain rfl : k = T.length := by omega
        rw [List.take_length] at hall
        have HR := Lib.hid (thy_yes hT50 hall.out)
        have HF := Lib.hid (refOnceT_any ms A c T A2 c2 wr (by omega) (H.out.2.2.below HB.out) hT50 hall.out)
        go_wp2_with (go_at_call 109; refine HF.out.mono ?_; rintro e w2 ⟨rfl, hB2⟩)
        go_ret
        exact ⟨ret_bool HR.out, below_step HB.out hB2⟩

set_option maxRecDepth 100000 in
theorem refConeAreThreads_any (ms : List (Int × Int)) (A : Option Addr) (c : Nat) (l : List (List Int)) (A2 : Option Addr) (c2 : Nat) (w : World) (h : Clk w A c ms) (hI : Tabs w A2 l) (hl : l.length ≤ maxLen) :
    Calls Try.prog 43 #[.slice A ms.length c, .slice A2 l.length c2] w fun e w' => ∃ (x : Bool) (E : Int), e = .returned (.tuple #[.bool x, .int .i64 E]) ∧ Below w.heap.size w w' ∧ Hid (x = thyF ms l ∧ E = hitsE ms) := by
  have H := Lib.hid (And.intro h hI)
  clear h hI
  cases hv : vhB ms with
  | true =>
    have HV := Lib.hid hv
    clear hv
    go_enter Try.func43, Try.ntmps43
    go_wp2_with (first
      | (go_at_call 22; refine (refValid_any ms A c _ H.out.1.marks H.out.1.len).mono ?_; rintro e w1 ⟨he, n1, rfl⟩; rw [HV.out] at he; subst he)
      | (go_at_call 81; refine (refAreT_any ms A c l A2 c2 _ (H.out.1.marks.below (below_drewN (Below.refl _ _) _)) HV.out (H.out.2.below (below_drewN (Below.refl _ _) _)) hl).mono ?_; rintro e w2 ⟨rfl, hB2⟩))
    go_ret2
    exact ⟨_, _, rfl, below_step (below_drewN (Below.refl _ _) _) hB2, (thyF_yes HV.out).symm, (hitsE_yes HV.out).symm⟩
  | false =>
    have HV := Lib.hid hv
    clear hv
    go_enter Try.func43, Try.ntmps43
    go_wp2_with (go_at_call 22; refine (refValid_any ms A c _ H.out.1.marks H.out.1.len).mono ?_; rintro e w1 ⟨he, n1, rfl⟩; rw [HV.out] at he; subst he)
    go_ret2
    exact ⟨_, _, rfl, below_drewN (Below.refl _ _) _, (thyF_no HV.out).symm, (hitsE_no HV.out).symm⟩
end Go.Proofs.Ytmlkdjcjfkfdiaa
