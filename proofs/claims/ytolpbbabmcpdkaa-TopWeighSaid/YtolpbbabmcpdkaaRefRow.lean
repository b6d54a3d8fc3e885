/-
  Contract: row (firnref07).
-/
import Derived.Test.YtolpbbabmcpdkaaJoined
import Derived.Test.YtolpbbabmcpdkaaRow
import Derived.Test.YtolpbbabmcpdkaaCutW
import Derived.Laws.OwnMore
set_option linter.unusedVariables false
set_option linter.unusedSimpArgs false
namespace Go.Proofs.Ytolpbbabmcpdkaa
open Go.RowKit Go.Shelf

def rkL (ns ss : List Int) : Nat → List Int
  | 0 => List.replicate ns.length 0
  | a + 1 => (rkL ns ss a).set (rankN ns ss a) (a : Int)
theorem rk_len (ns ss : List Int) : ∀ a, (rkL ns ss a).length = ns.length
  | 0 => by simp [rkL]
  | a + 1 => by rw [rkL, List.length_set, rk_len ns ss a]
def cntN (ns ss : List Int) (a k : Nat) : Nat := (List.range k).countP (fun b => befB ns ss b a)
theorem cnt_succ (ns ss : List Int) (a k : Nat) : cntN ns ss a (k + 1) = cntN ns ss a k + (if befB ns ss k a then 1 else 0) := by
  unfold cntN; rw [List.range_succ, List.countP_append]; simp [List.countP_cons]
theorem cnt_le (ns ss : List Int) (a k : Nat) : cntN ns ss a k ≤ k := by
  have := List.countP_le_length (p := fun b => befB ns ss b a) (l := List.range k)
  simpa [cntN] using this
theorem cnt_yes {ns ss : List Int} {a k : Nat} (h : befB ns ss k a = true) : cntN ns ss a (k + 1) = cntN ns ss a k + 1 := by rw [cnt_succ, h]; rfl
theorem cnt_no {ns ss : List Int} {a k : Nat} (h : befB ns ss k a = false) : cntN ns ss a (k + 1) = cntN ns ss a k := by rw [cnt_succ, h]; rfl
section
variable {ns ss : List Int} (hn : ∀ a, 0 ≤ ns.getD a 0) (hs : ∀ a, 0 ≤ ss.getD a 0)
include hn hs
theorem rk_get : ∀ (a i : Nat), a ≤ ns.length → i < a → (rkL ns ss a)[rankN ns ss i]? = some (i : Int)
  | 0, i, _, h => absurd h (by omega)
  | a + 1, i, ha, hi => by
    rw [rkL, List.getElem?_set]
    by_cases e : i = a
    · subst e
      rw [if_pos rfl, if_pos (by rw [rk_len]; exact rank_bd (by omega))]
    · rw [if_neg (fun h => e (rank_inj hn hs (by omega) (by omega) h.symm))]
      exact rk_get a i (by omega) (by omega)
theorem rk_all : rkL ns ss ns.length = rowL ns ss := by
  apply List.ext_getElem?
  intro i
  by_cases hi : i < ns.length
  · obtain ⟨a, ha⟩ := getElem?_of_lt (zs := rowN ns ss) (k := i) (by rw [row_len]; exact hi)
    have hm : a < ns.length := row_mem.1 (List.mem_of_getElem? ha)
    have hr := row_rank hn hs ha
    rw [rowL, List.getElem?_map, ha, ← hr, rk_get hn hs _ _ (Nat.le_refl _) hm]; rfl
  · rw [List.getElem?_eq_none (by rw [rk_len]; omega), List.getElem?_eq_none (by rw [rowL_len]; omega)]
end
theorem own_keep {w w' : World} {base : Nat} {e : TypeId} {size n : Nat} {v : Value} {xs : List Value} (h : w.ownsRow base e size v n xs) (hb : Below w.heap.size w w') : w'.ownsRow base e size v n xs :=
  ⟨h.1, h.2.elim .inl fun ⟨g, c, cur, h1, h2, h3, h4⟩ => .inr ⟨g, c, cur, h1, h2, (hb.block g (Array.getElem?_eq_some_iff.1 h3).1).trans h3, h4⟩⟩
theorem made_zero (n : Nat) : (madeCells (Value.int .i64 0).cells (n * 1)).toList = (List.replicate n (0 : Int)).map (Value.int .i64) := by rw [made_fill, fill_zero]

set_option maxRecDepth 100000 in
set_option maxHeartbeats 4000000 in
theorem refRow_own (ns ss : List Int) (A B : Option Addr) (c d : Nat) (ho : Od ns ss) (w : World) (hA : Ints w A ns) (hB : Ints w B ss) :
    Calls Try.prog 74 #[.agg #[.slice A ns.length c, .slice B ss.length d]] w fun e w' => ∃ gb : Nat, e = .returned (.slice (some ⟨gb, 0, none⟩) ns.length ns.length) ∧ w'.ownsRow w.heap.size 3 1 (.slice (some ⟨gb, 0, none⟩) ns.length ns.length) ns.length ((rowL ns ss).map (Value.int .i64)) ∧ Below w.heap.size w w' := by
  obtain ⟨i0, hi0, hz0, hz1, hz2⟩ := info_parts int_info
  have HZ2 := Lib.hid hz2
  have HO := Lib.hid ho
  have hn10 := ho.le
  have hnn := Lib.hid (fun a => (getD_bd (by omega) ho.nb a).1)
  have hsn := Lib.hid (fun a => (getD_bd (by omega) ho.sb a).1)
  have HA := Lib.hid hA
  have HB := Lib.hid hB
  obtain ⟨W0, hW0, HW, H0, z0⟩ := one_new w #[.slice A ns.length c, .slice B ss.length d] 24
  clear hz2 ho hA hB
  have HK : Hid (∀ W, Below W0.heap.size W0 W → W.cell? ⟨w.heap.size, 0, none⟩ = some (.slice A ns.length c) ∧ W.cell? ⟨w.heap.size, 1, none⟩ = some (.slice B ss.length d)) := Lib.hid fun W hW =>
    have q0 := (hW.block _ z0).trans H0.out
    ⟨blk_cell q0 0 rfl, blk_cell q0 1 rfl⟩
  obtain ⟨b0, b1⟩ := HK.out W0 (Below.refl _ _)
  go_enter Try.func74, Try.ntmps74
  go_wp2_with (at_make; rw [← hW0]; refine wpList_make_full _ rfl _ _ 22 rfl W0.heap.size 3 i0 (.int .i64 0) 1 Try.underlying22 hi0 hz0 hz1 _ _ _ _ ns.length rfl rfl rfl rfl (by rw [HZ2.out]; omega) (by unfold maxLen; omega) (Nat.le_refl _) ?_; intro w1 hown1 hg1)
  have hB1 : Below W0.heap.size W0 w1 := (Below.refl _ _).grown hg1 (Nat.le_refl _) (by simp)
  rw [made_zero] at hown1
  have hs0 : W0.heap.size = w.heap.size + 1 := by rw [hW0]; simp
  rw [hs0] at hown1
  obtain ⟨gb, hgb⟩ : ∃ g, w.heap.size + 1 = g := ⟨_, rfl⟩
  rw [hgb] at hown1 hs0 ⊢
  have HGB := Lib.hid hs0
  clear hg1 HZ2 hz0 hz1 hi0 hgb hs0 b0 b1
  go_loopw [14] (fun i wr => ∃ a : Nat, a ≤ ns.length ∧ i = .int .i64 a ∧ Hid (wr.ownsRow gb 3 1 (.slice (some ⟨gb, 0, none⟩) ns.length ns.length) ns.length ((rkL ns ss a).map (Value.int .i64))) ∧ Hid (Below W0.heap.size W0 wr)) (fun i _ => ns.length - (intOf i).toNat)
  case atStart => exact ⟨0, Nat.zero_le _, rfl, Lib.hid hown1, Lib.hid hB1⟩
  case round =>
    clear hown1 hB1
    obtain ⟨a, ha, rfl, hown, hB⟩ := hrel
    rename World => wo
    by_cases hlt : a < ns.length
    · have hrb := rank_bd (ns := ns) (ss := ss) hlt
      obtain ⟨rk, hrk⟩ : ∃ r, rankN ns ss a = r := ⟨_, rfl⟩
      have HCE : Hid (cntN ns ss a ns.length = rk) := Lib.hid hrk
      have HNX : Hid (((rkL ns ss a).map (Value.int .i64)).set rk (.int .i64 a) = (rkL ns ss (a + 1)).map (Value.int .i64)) := Lib.hid (by rw [← hrk, rkL, List.map_set])
      rw [hrk] at hrb
      clear hrk
      go_wp2
      go_loopw [5, 19] (fun v i wr => ∃ k : Nat, k ≤ ns.length ∧ i = .int .i64 k ∧ v = .int .i64 (cntN ns ss a k : Nat) ∧ Hid (Below wo.heap.size wo wr)) (fun _ i _ => ns.length - (intOf i).toNat)
      case atStart => exact ⟨0, Nat.zero_le _, rfl, rfl, Lib.hid (Below.refl _ _)⟩
      case round =>
        obtain ⟨k, hk, rfl, rfl, hBi⟩ := hrel
        rename World => wi
        have hcl := cnt_le ns ss a k
        obtain ⟨C, hC⟩ : ∃ C, cntN ns ss a k = C := ⟨_, rfl⟩
        rw [hC] at hcl ⊢
        have HC := Lib.hid hC
        clear hC
        by_cases hkt : k < ns.length
        · have hBX : Hid (Below W0.heap.size W0 wi) := Lib.hid (below_step hB.out hBi.out)
          have HQ := Lib.hid fun (V : World) (hV : Below wi.heap.size wi V) => HK.out V (below_step hBX.out hV)
          have HIA := Lib.hid fun (V : World) (hV : Below wi.heap.size wi V) => HA.out.below (below_step HW.out (below_step hBX.out hV))
          have HIB := Lib.hid fun (V : World) (hV : Below wi.heap.size wi V) => HB.out.below (below_step HW.out (below_step hBX.out hV))
          have HNA : Hid (∀ V, Below wi.heap.size wi V → Calls Try.prog 104 #[.agg #[.slice A ns.length c, .slice B ss.length d], .int .i64 a] V fun e w' => e = .returned (.bool (empB ns ss a)) ∧ Below V.heap.size V w') := Lib.hid fun V hV => nothing_any ns ss A B c d HO.out a hlt V (HIA.out V hV) (HIB.out V hV)
          have HNB : Hid (∀ V, Below wi.heap.size wi V → Calls Try.prog 104 #[.agg #[.slice A ns.length c, .slice B ss.length d], .int .i64 k] V fun e w' => e = .returned (.bool (empB ns ss k)) ∧ Below V.heap.size V w') := Lib.hid fun V hV => nothing_any ns ss A B c d HO.out k hkt V (HIA.out V hV) (HIB.out V hV)
          have HX : Hid (∀ V, Below wi.heap.size wi V → Calls Try.prog 92 #[.agg #[.slice A ns.length c, .slice B ss.length d], .int .i64 k, .int .i64 a] V fun e w' => e = .returned (.bool (gtB ns ss k a)) ∧ Below V.heap.size V w') := Lib.hid fun V hV => ahead_any ns ss A B c d HO.out k a hkt hlt V (HIA.out V hV) (HIB.out V hV)
          have HY : Hid (∀ V, Below wi.heap.size wi V → Calls Try.prog 92 #[.agg #[.slice A ns.length c, .slice B ss.length d], .int .i64 a, .int .i64 k] V fun e w' => e = .returned (.bool (gtB ns ss a k)) ∧ Below V.heap.size V w') := Lib.hid fun V hV => ahead_any ns ss A B c d HO.out a k hlt hkt V (HIA.out V hV) (HIB.out V hV)
          have HBF : Hid (befB ns ss k a = befF (empB ns ss k) (empB ns ss a) (gtB ns ss k a) (gtB ns ss a k) (decide (k < a))) := Lib.hid rfl
          have HYES := Lib.hid (fun h => cnt_yes (ns := ns) (ss := ss) (a := a) (k := k) h)
          have HNO := Lib.hid (fun h => cnt_no (ns := ns) (ss := ss) (a := a) (k := k) h)
          rw [HC.out] at HYES HNO
          generalize befB ns ss k a = bf at HBF HYES HNO
          generalize empB ns ss a = e1 at HNA HBF
          generalize empB ns ss k = e2 at HNB HBF
          generalize gtB ns ss k a = x at HX HBF
          generalize gtB ns ss a k = y at HY HBF
          have hki : decide ((k : Int) < (a : Int)) = decide (k < a) := decide_eq_decide.2 (by omega)
          obtain ⟨l, hkn⟩ : ∃ l, decide (k < a) = l := ⟨_, rfl⟩
          rw [hkn] at HBF hki
          have q0 : ∀ g : Gw wi, g.v.cell? ⟨w.heap.size, 0, none⟩ = some (.slice A ns.length c) := fun g => (HQ.out g.v g.h).1
          have q1 : ∀ g : Gw wi, g.v.cell? ⟨w.heap.size, 1, none⟩ = some (.slice B ss.length d) := fun g => (HQ.out g.v g.h).2
          cases hd : (e1 != e2)
          case false =>
            have he : e1 = e2 := by simpa using hd
            subst he
            cases x
            case true =>
              have HN := Lib.hid (HYES.out (by rw [HBF.out]; cases e1 <;> cases y <;> cases l <;> rfl))
              have hV := Below.refl wi.heap.size wi
              go_wp2
              refine wp_region_grow (by kernel_rfl) (by kernel_rfl) ?_
              repeat (go_big_quiet_step ((first | (go_at_call 104; with_reducible exact Calls.grow_of (HNA.out _ (Gw.h _))) | (go_at_call 104; with_reducible exact Calls.grow_of (HNB.out _ (Gw.h _))))))
              refine wpQuiet_nil ?_
              rintro _ ⟨g1, rfl⟩
              have hV : Below wi.heap.size wi g1.v := g1.h
              generalize g1.v = V1 at hV ⊢
              obtain ⟨b0, b1⟩ := HQ.out _ hV
              clear q0 q1
              go_wp2_with (first
                | (go_at_call 92; with_reducible refine (HX.out _ hV).mono ?_; rintro e V2 ⟨rfl, hBB⟩; have hV2 := below_step hV hBB; clear hV hBB; have hV := hV2; clear hV2 b0 b1; obtain ⟨b0, b1⟩ := HQ.out _ hV)
                | fail)
              go_roundw
              case rel => exact ⟨k + 1, by omega, by go_num, by rw [HN.out]; go_num, Lib.hid (below_step hBi.out hV)⟩
              case measure => simp [intOf]; omega
            case false =>
              cases y
              case true =>
                have HN := Lib.hid (HNO.out (by rw [HBF.out]; cases e1 <;> cases l <;> rfl))
                have hV := Below.refl wi.heap.size wi
                go_wp2
                refine wp_region_grow (by kernel_rfl) (by kernel_rfl) ?_
                repeat (go_big_quiet_step ((first | (go_at_call 104; with_reducible exact Calls.grow_of (HNA.out _ (Gw.h _))) | (go_at_call 104; with_reducible exact Calls.grow_of (HNB.out _ (Gw.h _))))))
                refine wpQuiet_nil ?_
                rintro _ ⟨g1, rfl⟩
                have hV : Below wi.heap.size wi g1.v := g1.h
                generalize g1.v = V1 at hV ⊢
                obtain ⟨b0, b1⟩ := HQ.out _ hV
                clear q0 q1
                go_wp2_with (first
                  | (go_at_call 92; with_reducible refine (HX.out _ hV).mono ?_; rintro e V2 ⟨rfl, hBB⟩; have hV2 := below_step hV hBB; clear hV hBB; have hV := hV2; clear hV2 b0 b1; obtain ⟨b0, b1⟩ := HQ.out _ hV)
                  | (go_at_call 92; with_reducible refine (HY.out _ hV).mono ?_; rintro e V3 ⟨rfl, hBB⟩; have hV2 := below_step hV hBB; clear hV hBB; have hV := hV2; clear hV2 b0 b1; obtain ⟨b0, b1⟩ := HQ.out _ hV)
                  | fail)
                go_roundw
                case rel => exact ⟨k + 1, by omega, by go_num, by rw [HN.out], Lib.hid (below_step hBi.out hV)⟩
                case measure => simp [intOf]; omega
              case false =>
                cases l
                case true =>
                  have HN := Lib.hid (HYES.out (by rw [HBF.out]; cases e1 <;> rfl))
                  have hV := Below.refl wi.heap.size wi
                  go_wp2
                  refine wp_region_grow (by kernel_rfl) (by kernel_rfl) ?_
                  repeat (go_big_quiet_step ((first | (go_at_call 104; with_reducible exact Calls.grow_of (HNA.out _ (Gw.h _))) | (go_at_call 104; with_reducible exact Calls.grow_of (HNB.out _ (Gw.h _))))))
                  refine wpQuiet_nil ?_
                  rintro _ ⟨g1, rfl⟩
                  have hV : Below wi.heap.size wi g1.v := g1.h
                  generalize g1.v = V1 at hV ⊢
                  obtain ⟨b0, b1⟩ := HQ.out _ hV
                  clear q0 q1
                  go_wp2_with (first
                    | (go_at_call 92; with_reducible refine (HX.out _ hV).mono ?_; rintro e V2 ⟨rfl, hBB⟩; have hV2 := below_step hV hBB; clear hV hBB; have hV := hV2; clear hV2 b0 b1; obtain ⟨b0, b1⟩ := HQ.out _ hV)
                    | (go_at_call 92; with_reducible refine (HY.out _ hV).mono ?_; rintro e V3 ⟨rfl, hBB⟩; have hV2 := below_step hV hBB; clear hV hBB; have hV := hV2; clear hV2 b0 b1; obtain ⟨b0, b1⟩ := HQ.out _ hV)
                    | fail)
                  go_roundw
                  case rel => exact ⟨k + 1, by omega, by go_num, by rw [HN.out]; go_num, Lib.hid (below_step hBi.out hV)⟩
                  case measure => simp [intOf]; omega
                case false =>
                  have HN := Lib.hid (HNO.out (by rw [HBF.out]; cases e1 <;> rfl))
                  have hV := Below.refl wi.heap.size wi
                  go_wp2
                  refine wp_region_grow (by kernel_rfl) (by kernel_rfl) ?_
                  repeat (go_big_quiet_step ((first | (go_at_call 104; with_reducible exact Calls.grow_of (HNA.out _ (Gw.h _))) | (go_at_call 104; with_reducible exact Calls.grow_of (HNB.out _ (Gw.h _))))))
                  refine wpQuiet_nil ?_
                  rintro _ ⟨g1, rfl⟩
                  have hV : Below wi.heap.size wi g1.v := g1.h
                  generalize g1.v = V1 at hV ⊢
                  obtain ⟨b0, b1⟩ := HQ.out _ hV
                  clear q0 q1
                  go_wp2_with (first
                    | (go_at_call 92; with_reducible refine (HX.out _ hV).mono ?_; rintro e V2 ⟨rfl, hBB⟩; have hV2 := below_step hV hBB; clear hV hBB; have hV := hV2; clear hV2 b0 b1; obtain ⟨b0, b1⟩ := HQ.out _ hV)
                    | (go_at_call 92; with_reducible refine (HY.out _ hV).mono ?_; rintro e V3 ⟨rfl, hBB⟩; have hV2 := below_step hV hBB; clear hV hBB; have hV := hV2; clear hV2 b0 b1; obtain ⟨b0, b1⟩ := HQ.out _ hV)
                    | fail)
                  go_roundw
                  case rel => exact ⟨k + 1, by omega, by go_num, by rw [HN.out], Lib.hid (below_step hBi.out hV)⟩
                  case measure => simp [intOf]; omega
          case true =>
            cases e1
            case true =>
              have he : e2 = false := by revert hd; cases e2 <;> decide
              subst he
              have HN := Lib.hid (HYES.out (by rw [HBF.out]; rfl))
              have hV := Below.refl wi.heap.size wi
              go_wp2
              refine wp_region_grow (by kernel_rfl) (by kernel_rfl) ?_
              repeat (go_big_quiet_step ((first | (go_at_call 104; with_reducible exact Calls.grow_of (HNA.out _ (Gw.h _))) | (go_at_call 104; with_reducible exact Calls.grow_of (HNB.out _ (Gw.h _))))))
              refine wpQuiet_nil ?_
              rintro _ ⟨g1, rfl⟩
              have hV : Below wi.heap.size wi g1.v := g1.h
              generalize g1.v = V1 at hV ⊢
              obtain ⟨b0, b1⟩ := HQ.out _ hV
              clear q0 q1
              go_wp2_with (first
                | (go_at_call 104; with_reducible refine (HNA.out _ hV).mono ?_; rintro e V2 ⟨rfl, hBB⟩; have hV2 := below_step hV hBB; clear hV hBB; have hV := hV2; clear hV2 b0 b1; obtain ⟨b0, b1⟩ := HQ.out _ hV)
                | fail)
              go_roundw
              case rel => exact ⟨k + 1, by omega, by go_num, by rw [HN.out]; go_num, Lib.hid (below_step hBi.out hV)⟩
              case measure => simp [intOf]; omega
            case false =>
              have he : e2 = true := by revert hd; cases e2 <;> decide
              subst he
              have HN := Lib.hid (HNO.out (by rw [HBF.out]; rfl))
              have hV := Below.refl wi.heap.size wi
              go_wp2
              refine wp_region_grow (by kernel_rfl) (by kernel_rfl) ?_
              repeat (go_big_quiet_step ((first | (go_at_call 104; with_reducible exact Calls.grow_of (HNA.out _ (Gw.h _))) | (go_at_call 104; with_reducible exact Calls.grow_of (HNB.out _ (Gw.h _))))))
              refine wpQuiet_nil ?_
              rintro _ ⟨g1, rfl⟩
              have hV : Below wi.heap.size wi g1.v := g1.h
              generalize g1.v = V1 at hV ⊢
              obtain ⟨b0, b1⟩ := HQ.out _ hV
              clear q0 q1
              go_wp2_with (first
                | (go_at_call 104; with_reducible refine (HNA.out _ hV).mono ?_; rintro e V2 ⟨rfl, hBB⟩; have hV2 := below_step hV hBB; clear hV hBB; have hV := hV2; clear hV2 b0 b1; obtain ⟨b0, b1⟩ := HQ.out _ hV)
                | fail)
              go_roundw
              case rel => exact ⟨k + 1, by omega, by go_num, by rw [HN.out], Lib.hid (below_step hBi.out hV)⟩
              case measure => simp [intOf]; omega
        · obtain rfl : k = ns.length := by omega
          have hCr : C = rk := by rw [← HC.out]; exact HCE.out
          subst hCr
          have ho2 : Hid (wi.ownsRow gb 3 1 (.slice (some ⟨gb, 0, none⟩) ns.length ns.length) ns.length ((rkL ns ss a).map (Value.int .i64))) := Lib.hid (own_keep hown.out hBi.out)
          obtain ⟨u, hu⟩ := getElem?_of_lt (zs := rkL ns ss a) (k := C) (by rw [rk_len]; exact hrb)
          have r0 := (ho2.out.cellAt C (by omega)).trans (by rw [List.getElem?_map, hu]; rfl : ((rkL ns ss a).map (Value.int .i64))[C]? = some (.int .i64 u))
          have rf := ho2.out.frozenAt C
          have hst := (ho2.out.stored C (.int .i64 a)).1
          rw [HNX.out] at hst
          have HST := Lib.hid hst
          have HBN : Hid (Below W0.heap.size W0 (wi.setCell ⟨gb, C, none⟩ (.int .i64 a))) := Lib.hid ((below_step hB.out hBi.out).setCell (show W0.heap.size ≤ gb by rw [HGB.out]; exact Nat.le_refl _) _)
          clear hst hu ho2 hcl
          go_wp2
          go_roundw
          case rel => exact ⟨a + 1, by omega, by go_num, HST, HBN⟩
          case measure => simp [intOf]; omega
    · obtain rfl : a = ns.length := by omega
      have hfin := hown.out
      rw [rk_all hnn.out hsn.out] at hfin
      have HF := Lib.hid hfin
      clear hfin
      go_wp2
      go_ret
      exact ⟨gb, rfl, own_mono HF.out (by rw [← HGB.out]; exact HW.out.size), below_step HW.out hB.out⟩
end Go.Proofs.Ytolpbbabmcpdkaa
