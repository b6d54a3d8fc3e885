/-
  Plain words for plans; contract: plan (firnref03).
-/
import Derived.Test.YtcmnjmhedmneiaaDoorRefEnc
namespace Go.Proofs.YtcmnjmhedmneiaaDoor
open Go.RowKit Go.Shelf

/-- The text of differences in words of some steps' widths, from a step on. -/
def planG : Nat → List (Int × Nat) → List UInt8
  | _, [] => []
  | a, p :: t => changeL a p.2 ++ wordL (wdN p.2) p.1 ++ planG p.2 t
def lastK (a : Nat) (ps : List (Int × Nat)) : Nat := (ps.getLast?.map Prod.snd).getD a
theorem lastK_cons (a : Nat) (p : Int × Nat) (t : List (Int × Nat)) : lastK a (p :: t) = lastK p.2 t := by
  cases t with
  | nil => rfl
  | cons k u =>
    unfold lastK
    rw [List.getLast?_cons_cons]
    cases hh : (k :: u).getLast? with
    | none => simp at hh
    | some z => rfl
theorem lastK_snoc (a : Nat) (ps : List (Int × Nat)) (p : Int × Nat) : lastK a (ps ++ [p]) = p.2 := by simp [lastK]
theorem plan_snoc : ∀ (a : Nat) (ps : List (Int × Nat)) (p : Int × Nat), planG a (ps ++ [p]) = planG a ps ++ (changeL (lastK a ps) p.2 ++ wordL (wdN p.2) p.1)
  | a, [], p => by simp [planG, lastK]
  | a, r :: t, p => by rw [List.cons_append, planG, plan_snoc r.2 t p, planG, lastK_cons]; simp only [List.append_assoc]
theorem plan_next {a : Nat} {ps : List (Int × Nat)} {m : Nat} {p : Int × Nat} (h : ps[m]? = some p) :
    planG a (ps.take (m + 1)) = planG a (ps.take m) ++ (changeL (lastK a (ps.take m)) p.2 ++ wordL (wdN p.2) p.1) ∧ lastK a (ps.take (m + 1)) = p.2 := by
  rw [take_snoc h, plan_snoc, lastK_snoc]; exact ⟨rfl, rfl⟩
theorem zip_at {ds : List Int} {ks : List Nat} {m k : Nat} {d : Int} (h : ds[m]? = some d) (h2 : ks[m]? = some k) : (ds.zip ks)[m]? = some (d, k) := by
  rw [List.getElem?_zip_eq_some]; exact ⟨h, h2⟩
def wdL (ks : List Nat) : List Int := ks.map fun k => (wdN k : Int)
theorem wdL_at {ks : List Nat} {m k : Nat} (h : ks[m]? = some k) : (wdL ks)[m]? = some (wdN k : Int) := by rw [wdL, List.getElem?_map, h]; rfl

set_option maxRecDepth 100000 in
set_option maxHeartbeats 1000000 in
theorem refplan_any (ds : List Int) (ks : List Nat) (A B : Option Addr) (c e0 : Nat) (w : World) (hA : Ints w A ds) (hB : Ints w B (wdL ks)) (hl : ks.length = ds.length) (hn1 : 1 ≤ ds.length) (hn2 : ds.length ≤ 40)
    (hk : ∀ k ∈ ks, k < 5) (hcan : ∀ (i : Nat) (d : Int) (k : Nat), ds[i]? = some d → ks[i]? = some k → canB (wdN k) d = true) :
    Calls Tryd.prog 77 #[.slice A ds.length c, .slice B ds.length e0] w fun e w' => ∃ q : ByteArray, e = .returned (.string q) ∧ q.size ≤ 2360 ∧ Below w.heap.size w w' ∧ Hid (q = ⟨(planG 2 (ds.zip ks)).toArray⟩) := by
  have hwl : (wdL ks).length = ds.length := by simp [wdL, hl]
  obtain ⟨bl, off, ea, hbk, hc⟩ := hA.open_ (by omega)
  obtain ⟨bm, of2, eb, hbm, hc2⟩ := hB.open_ (by omega)
  subst ea eb
  have HC := Lib.hid hc
  have HC2 := Lib.hid hc2
  have HK := Lib.hid (And.intro hl (And.intro hk hcan))
  clear hA hB hc hc2 hl hk hcan hwl
  go_enter Tryd.func77, Tryd.ntmps77
  go_wp2
  go_loopw [5, 6, 13] (fun v a i wr => ∃ m : Nat, m ≤ ds.length ∧ i = .int .i64 m ∧ Below w.heap.size w wr ∧ ∃ (q : ByteArray) (now : Nat), v = .string q ∧ q.size ≤ 59 * m ∧ a = .int .i64 now ∧ now < 5 ∧ Hid (q = ⟨(planG 2 ((ds.zip ks).take m)).toArray⟩ ∧ now = lastK 2 ((ds.zip ks).take m))) (fun _ _ i _ => ds.length - (intOf i).toNat)
  case atStart => exact ⟨0, Nat.zero_le _, rfl, Below.refl _ _, ⟨#[]⟩, 2, rfl, by show 0 ≤ _; omega, rfl, by omega, Lib.hid ⟨rfl, rfl⟩⟩
  case round =>
    obtain ⟨m, hm, rfl, hB, q, now, rfl, hq, rfl, hnow, hX⟩ := hrel
    by_cases hlt : m < ds.length
    · obtain ⟨d, hd⟩ := getElem?_of_lt hlt
      obtain ⟨k, hk⟩ := getElem?_of_lt (show m < ks.length by rw [HK.out.1]; exact hlt)
      have hk5 := HK.out.2.1 k (List.mem_of_getElem? hk)
      have hcn := HK.out.2.2 m d k hd hk
      have f0 := (hB.cell (p := ⟨bl, off + m, none⟩) hbk).trans (HC.out m d hd)
      have f1 := (hB.cell (p := ⟨bm, of2 + m, none⟩) hbm).trans (HC2.out m _ (wdL_at hk))
      have HN := Lib.hid (plan_next (a := 2) (zip_at hd hk))
      obtain ⟨q1, hq1, hQ1, hto0⟩ := refto_some now k hnow hk5
      obtain ⟨q2, hq2, hQ2, hwo0⟩ := refword_some k d (can_in hcn)
      have HQ1 := Lib.hid hQ1
      have HQ2 := Lib.hid hQ2
      have hto := Lib.hid hto0
      have hwo := Lib.hid hwo0
      have hkind := Lib.hid (refkind_any (wdN k))
      have HO := Lib.hid (ks_wd hk5)
      have hsz := hB.size
      have hqs : q.size ≤ 2360 := by omega
      have hqm : (q ++ (q1 ++ q2)).size ≤ 59 * (m + 1) := by
        rw [ByteArray.size_append, ByteArray.size_append]
        have h1 : q1.size ≤ 48 := by rw [HQ1.out, sv_size]; exact change_len hnow hk5
        omega
      have r12 : (9223372036854775807 < q1.size + q2.size) = False := eq_false (by omega)
      have r123 : (9223372036854775807 < q.size + (q1.size + q2.size)) = False := eq_false (by omega)
      have r124 : (9223372036854775807 < q.size + (q1 ++ q2).size) = False := eq_false (by rw [ByteArray.size_append]; omega)
      clear hd hk hcn hQ1 hQ2 hto0 hwo0
      go_wp2_with (go_at_call 67; refine (hkind.out _).mono ?_; rintro e w1 ⟨rfl, rfl⟩; rw [HO.out, st_some])
      go_quiet ((first
        | (go_at_call 97; exact Calls.quiet_of_same (hto.out _))
        | (go_at_call 69; exact Calls.quiet_of_same (hwo.out _))))
      have hB2 := below_drewN hB nq
      clear r12 r123 r124 f0 f1 hB
      go_wp2
      go_roundw
      case rel => exact ⟨m + 1, by omega, by go_num, hB2, _, k, rfl, hqm, rfl, hk5, Lib.hid ⟨by rw [HN.out.1, hX.out.1, HQ1.out, HQ2.out, ← hX.out.2, sv_append, sv_append], HN.out.2.symm⟩⟩
      case measure => simp [intOf]; omega
    · obtain rfl : m = ds.length := by omega
      go_wp2
      go_ret
      exact ⟨q, rfl, by omega, hB, Lib.hid (by have h4 := hX.out.1; rwa [List.take_of_length_le (by rw [List.length_zip, HK.out.1, Nat.min_self]; exact Nat.le_refl _)] at h4)⟩
end Go.Proofs.YtcmnjmhedmneiaaDoor
