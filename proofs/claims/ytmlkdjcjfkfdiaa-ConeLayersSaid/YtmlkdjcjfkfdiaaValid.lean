/-
  Contracts: validPlace, Valid (cone).
-/
import Derived.Test.YtmlkdjcjfkfdiaaKeys
namespace Go.Proofs.Ytmlkdjcjfkfdiaa
open Go.RowKit Go.Maps

theorem validPlace_any (x : Int) (w : World) :
    Calls Try.prog 63 #[.int .i64 x] w fun e w' => e = .returned (.bool (plB x)) ∧ w = w' := by
  go_enter Try.func63, Try.ntmps63
  go_wp2
  all_goals
    go_ret
    exact ⟨ret_bool (by simp [plB]; try omega), rfl⟩
theorem zeroB (w : World) : (zeroValue 4).run Try.prog w = .ok (.bool false) w := by kernel_rfl
theorem plB_bd {x : Int} (h : plB x = true) : -1000 ≤ x ∧ x ≤ 1000 := by simpa [plB] using h
theorem wf_of {x : Int} (h : -1000 ≤ x ∧ x ≤ 1000) : (Lit.int .i64 x).wf = true := WalkArith.wf_i64 (by omega)
theorem key_mem {ms : List (Int × Int)} {k : Nat} {m : Int × Int} (hall : (ms.take k).all hitB = true) (hm1 : plB m.1 = true) (hm2 : plB m.2 = true) (h : keyH m ∈ (ms.take k).map keyH) : m ∈ ms.take k := by
  obtain ⟨y, hy, e⟩ := List.mem_map.1 h
  have hyb := List.all_eq_true.1 hall y hy
  simp [hitB] at hyb
  rw [← keyH_inj (wf_of (plB_bd hyb.1)) (wf_of (plB_bd hyb.2)) (wf_of (plB_bd hm1)) (wf_of (plB_bd hm2)) e]
  exact hy
theorem keys_take {ms : List (Int × Int)} {k : Nat} {m : Int × Int} (h : ms[k]? = some m) : (ms.take (k + 1)).map keyH = (ms.take k).map keyH ++ [keyH m] := by
  rw [take_snoc h]; simp
theorem vh_next {ms : List (Int × Int)} {k : Nat} {a b : Int} (h : ms[k]? = some (a, b)) (hall : (ms.take k).all hitB = true) (h1 : plB a = true) (h2 : plB b = true) : (ms.take (k + 1)).all hitB = true := by
  rw [all_snoc h, hall]; simp [hitB, h1, h2]
theorem keys_lit {l : List (Int × Int)} : ∀ x ∈ l.map keyH, WideAt.IsKeyLit x := by
  intro x hx
  obtain ⟨y, _, rfl⟩ := List.mem_map.1 hx
  exact keyH_key y

set_option maxRecDepth 100000 in
set_option maxHeartbeats 800000 in
theorem valid_any (ms : List (Int × Int)) (A : Option Addr) (c : Nat) (w : World) (h : Marks w A ms) (hl : ms.length ≤ maxLen) :
    Calls Try.prog 21 #[.slice A ms.length c] w fun e w' => e = .returned (.bool (vhB ms)) ∧ Below w.heap.size w w' := by
  unfold maxLen at hl
  have H := Lib.hid h
  clear h
  by_cases hn : 1 ≤ ms.length ∧ ms.length ≤ 14
  · have n1 : decide ((ms.length : Int) < 1) = false := by simp; omega
    have n2 : decide (14 < (ms.length : Int)) = false := by simp; omega
    obtain ⟨bl, off, rfl, hbk, hcells⟩ := H.out.open_ (by omega)
    have HC := Lib.hid hcells
    clear hcells
    have hmm := @run_makeMap Try.prog
    go_enter Try.func21, Try.ntmps21
    go_wp2
    go_loopw [17] (fun i wr => ∃ k : Nat, k ≤ ms.length ∧ i = .int .i64 k ∧ wr.ownsMap Try.prog 63 (plainElem Try.prog 4) w.heap.size k (keysB (H := Unit) ((ms.take k).map keyH)) ∧ Hid ((ms.take k).all hitB = true) ∧ Hid ((ms.take k).Nodup) ∧ Below w.heap.size w wr) (fun i _ => ms.length - (intOf i).toNat)
    case atStart => exact ⟨0, Nat.zero_le _, rfl, by rw [List.take_zero, List.map_nil, keysB_nil]; exact World.ownsMap_made _ _ _ _, rfl, List.nodup_nil, (Below.refl _ _).alloc (Nat.le_refl _) _⟩
    case round =>
      clear hmm
      obtain ⟨k, hk, rfl, hown, hall, hnd, hB⟩ := hrel
      by_cases hlt : k < ms.length
      · obtain ⟨a, b, hx⟩ := getM_of_lt hlt
        have f0 := (hB.cell (p := ⟨bl, off + k * 2, none⟩) hbk).trans (HC.out _ _ hx).1
        have f1 := (hB.cell (p := ⟨bl, off + k * 2 + 1, none⟩) hbk).trans (HC.out _ _ hx).2
        have HX := Lib.hid hx
        clear hx
        have hz := hB.size
        by_cases hp1 : plB a = true
        · by_cases hp2 : plB b = true
          · have hkey := keyH_ok (wf_of (plB_bd hp1)) (wf_of (plB_bd hp2))
            have hown2 := hown.alloc (.cells #[.int .i64 a, .int .i64 b] 63)
            obtain ⟨c, hrun, hat⟩ := look_bool hitKeyed Try.underlying70 Try.underlying4 (zeroB _) hown2 hkey
            have HA := Lib.hid (keysB_at (keyH_key (a, b)) keys_lit hat)
            clear hat
            cases c
            all_goals
              go_wp2_with (first
                | (go_at_call 63; refine (validPlace_any _ _).mono ?_; rintro e w' ⟨rfl, rfl⟩)
                | (at_mapUpdate; refine wpList_mapUpdate_own _ rfl _ _ _ 70 rfl 63 4 hitKeyed Try.underlying70 (plainElem (H := Unit) Try.prog 4) w.heap.size k _ rfl hown2 (by unfold maxLen; omega) _ _ _ rfl rfl hkey _ [] (plainElem_bool Try.underlying4 true) ?_; intro w1 hown1 hgrow1))
            · go_roundw
              case rel => exact ⟨k + 1, by omega, by go_num, by rw [keys_take HX.out, keysB_snoc]; exact hown1, vh_next HX.out hall.out hp1 hp2, nodup_snoc HX.out hnd.out (fun hm => by have := HA.out.2 (List.mem_map_of_mem hm); cases this), (hB.alloc hB.size _).grown hgrow1 (by first | (simp; done) | (simp; omega) | omega) (fun j hj => by cases hj; exact Nat.le_refl _)⟩
              case measure => simp [intOf]; omega
            · go_ret
              exact ⟨ret_bool (vh_twice HX.out (key_mem hall.out hp1 hp2 (HA.out.1 (by first | trivial | rfl)))), hB.alloc hB.size _⟩
          · have hp2' : plB b = false := by simpa using hp2
            go_wp2_with (go_at_call 63; refine (validPlace_any _ _).mono ?_; rintro e w' ⟨rfl, rfl⟩)
            go_ret
            exact ⟨ret_bool (vh_bad HX.out (by simp [hitB, hp2'])), hB.alloc hB.size _⟩
        · have hp1' : plB a = false := by simpa using hp1
          go_wp2_with (go_at_call 63; refine (validPlace_any _ _).mono ?_; rintro e w' ⟨rfl, rfl⟩)
          go_ret
          exact ⟨ret_bool (vh_bad HX.out (by simp [hitB, hp1'])), hB.alloc hB.size _⟩
      · go_wp2
        go_ret
        exact ⟨ret_bool (vh_all hn (by omega) hall.out hnd.out), hB⟩
  · by_cases n1 : (ms.length : Int) < 1
    · go_enter Try.func21, Try.ntmps21
      go_wp2
      go_ret
      exact ⟨ret_bool (vh_len hn), Below.refl _ _⟩
    · have n2 : 14 < (ms.length : Int) := by omega
      have n3 : decide ((ms.length : Int) < 1) = false := by simp; omega
      go_enter Try.func21, Try.ntmps21
      go_wp2
      go_ret
      exact ⟨ret_bool (vh_len hn), Below.refl _ _⟩
end Go.Proofs.Ytmlkdjcjfkfdiaa
