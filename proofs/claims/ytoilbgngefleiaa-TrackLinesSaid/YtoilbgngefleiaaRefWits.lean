/-
  Contract: witnesses (firnref05).
-/
import Derived.Test.YtoilbgngefleiaaLis
namespace Go.Proofs.Ytoilbgngefleiaa
open Go.RowKit Go.Shelf
set_option linter.unusedVariables false
set_option linter.unusedSimpArgs false

theorem part3c_next (ms : List (Int × Int)) (a b m : Nat) : part3c ms a b (m + 1) = part3c ms a b m ++ in3 ms a b m := range_flat _ _
theorem cap2 {k n m : Nat} (hk : k ≤ n) (hn : n ≤ 12) {ms : List (Int × Int)} (hl : ms.length = n) : (all2 ms k).length ≤ 144 := by
  have := all2_len ms k
  have h : ms.length * k ≤ 12 * 12 := Nat.mul_le_mul (by omega) (by omega)
  omega
theorem cap3 {k : Nat} {ms : List (Int × Int)} (hn : ms.length ≤ 12) (hk : k ≤ 12) : (all3 ms k).length ≤ 1728 := by
  have := all3_len ms k
  have h : ms.length * ms.length * k ≤ 12 * 12 * 12 := Nat.mul_le_mul (Nat.mul_le_mul hn hn) hk
  omega
theorem cap3b {a k : Nat} {ms : List (Int × Int)} (hn : ms.length ≤ 12) (hk : k ≤ 12) : (part3b ms a k).length ≤ 144 := by
  have := part3b_len ms a k
  have h : ms.length * k ≤ 12 * 12 := Nat.mul_le_mul hn hk
  omega
set_option maxRecDepth 100000 in
set_option maxHeartbeats 8000000 in
theorem refWits_any (ms : List (Int × Int)) (A : Option Addr) (c : Nat) (w : World) (h : Clk w A c ms) (hn2 : ms.length ≤ 12) (hpt : ∀ q ∈ ms, ptB q = true) :
    Calls Try.prog 96 #[.slice A ms.length c] w fun e w' => ∃ v : Value, e = .returned v ∧ LisR w' w.heap.size v (witL ms) ∧ Below w.heap.size w w' := by
  have H := Lib.hid h
  have HPT := Lib.hid hpt
  clear h hpt
  go_enter Try.func96, Try.ntmps96
  go_wp2
  go_loopw [3, 15] (fun v i wr => ∃ k : Nat, k ≤ ms.length ∧ i = .int .i64 k ∧ Hid (LisR wr w.heap.size v (all2 ms k)) ∧ Hid (Below w.heap.size w wr)) (fun _ i _ => ms.length - (intOf i).toNat)
  case atStart => exact ⟨0, Nat.zero_le _, rfl, Lib.hid (LisR.nil_ _ _), Lib.hid (Below.refl _ _)⟩
  case round =>
    obtain ⟨k, hk, rfl, HT, HW⟩ := hrel
    by_cases hlt : k < ms.length
    · have HT0 : Hid (LisR wr w.heap.size u3 (all2 ms k ++ part2 ms k (k + 1))) := Lib.hid (by rw [part2_start, List.append_nil]; exact HT.out)
      go_wp2
      go_loopw [3, 5] (fun v i wr => ∃ m : Nat, k + 1 ≤ m ∧ m ≤ ms.length ∧ i = .int .i64 m ∧ Hid (LisR wr w.heap.size v (all2 ms k ++ part2 ms k m)) ∧ Hid (Below w.heap.size w wr)) (fun _ i _ => ms.length - (intOf i).toNat)
      case atStart => exact ⟨k + 1, Nat.le_refl _, by omega, by go_num, HT0, HW⟩
      case round =>
        clear HT HT0 HW
        obtain ⟨m, hkm, hm, rfl, HT, HW⟩ := hrel
        rename World => wi
        by_cases hlt2 : m < ms.length
        · have HLEN : Hid ((all2 ms k ++ part2 ms k m).length ≤ 2000) := Lib.hid (by
            rw [List.length_append]
            have h1 := cap2 (m := 0) hk hn2 rfl
            have h2 := part2_len ms k m
            omega)
          have hkm2 : k < m := by omega
          obtain ⟨b, hb⟩ : ∃ b, wiB ms [(k : Int), (m : Int)] = b := ⟨_, rfl⟩
          have HBB := Lib.hid hb
          obtain ⟨⟨tn, td⟩, htt⟩ : ∃ z, twV ms [(k : Int), (m : Int)] = z := ⟨_, rfl⟩
          have HTT := Lib.hid htt
          clear hb htt
          have HTE : Hid (∀ V : World, Below wi.heap.size wi V → V.heap[wi.heap.size]? = some (.cells #[.int .i64 k, .int .i64 m] 3 (0, 0)) → Calls Try.prog 79 #[.slice A ms.length c, .slice (some ⟨wi.heap.size, 0, none⟩) 2 2] V fun e w' => e = .returned (.tuple #[.agg #[.int .i64 tn, .int .i64 td], .bool b]) ∧ Below V.heap.size V w') := Lib.hid (fun V hV hc => by
            have := refTells1_any ms A c [(k : Int), (m : Int)] (some ⟨wi.heap.size, 0, none⟩) 2 V (H.out.below (HW.out.trans (hV.mono HW.out.size))) (blk_ints (zs := [(k : Int), (m : Int)]) hc) (by simp) (Nat.le_refl _) (by unfold maxLen; omega) HPT.out
            rw [HTT.out, HBB.out] at this
            exact this)
          go_upto_region 9 with (go_at_call 79; refine (HTE.out _ ((Below.refl _ _).alloc (Nat.le_refl _) _) (heap_alloc_new _ _)).mono ?_; rintro e w2 ⟨rfl, hB2⟩; have hB2 : Below wi.heap.size wi w2 := ((Below.refl wi.heap.size wi).alloc (Nat.le_refl _) _).trans (hB2.mono (by simp)))
          obtain ⟨W3, hW3, hB3⟩ : ∃ W3, w2.alloc (.cells #[.int .i64 tn, .int .i64 td] 34) = W3 ∧ Below wi.heap.size wi W3 := ⟨_, rfl, hB2.alloc hB2.size _⟩
          rw [hW3]
          clear hW3
          have HT := Lib.hid (HT.out.below hB3)
          have HW : Hid (Below w.heap.size w _) := Lib.hid (below_step HW.out hB3)
          clear hB2 hB3
          cases b with
          | true =>
            have HN : Hid ((all2 ms k ++ part2 ms k m) ++ [[(k : Int), (m : Int)]] = all2 ms k ++ part2 ms k (m + 1)) := Lib.hid (by rw [part2_next ms hkm2, in2, if_pos HBB.out, List.append_assoc])
            go_wp2_with (at_builtin; refine wp_app_lis _ rfl (.tmp 35) (.tmp 39) rfl w.heap.size _ _ [(k : Int), (m : Int)] _ rfl rfl HT.out rfl (Nat.le_trans HLEN.out (by omega)) HW.out.size ?_; intro v4 w4 hT4 hB4 _)
            go_roundw
            case rel => exact ⟨m + 1, by omega, by omega, by go_num, Lib.hid (by rw [← HN.out]; exact hT4), Lib.hid (HW.out.trans hB4)⟩
            case measure => simp [intOf]; omega
          | false =>
            have HN : Hid (all2 ms k ++ part2 ms k m = all2 ms k ++ part2 ms k (m + 1)) := Lib.hid (by rw [part2_next ms hkm2, in2, HBB.out]; simp)
            go_wp2
            go_roundw
            case rel => exact ⟨m + 1, by omega, by omega, by go_num, Lib.hid (by rw [← HN.out]; exact HT.out), HW⟩
            case measure => simp [intOf]; omega
        · obtain rfl : m = ms.length := by omega
          have HT1 : Hid (LisR wi w.heap.size u3 (all2 ms (k + 1))) := Lib.hid (by rw [all2, range_flat]; exact HT.out)
          go_wp2
          go_roundw
          case rel => exact ⟨k + 1, by omega, by go_num, HT1, HW⟩
          case measure => simp [intOf]; omega
    · obtain rfl : k = ms.length := by omega
      have HT1 : Hid (LisR wr w.heap.size u3 (all2 ms ms.length ++ all3 ms 0)) := Lib.hid (by rw [show all3 ms 0 = [] from rfl, List.append_nil]; exact HT.out)
      clear HT hlt hk
      go_wp2
      go_loopw [3, 44] (fun v i wr => ∃ k : Nat, k ≤ ms.length ∧ i = .int .i64 k ∧ Hid (LisR wr w.heap.size v (all2 ms ms.length ++ all3 ms k)) ∧ Hid (Below w.heap.size w wr)) (fun _ i _ => ms.length - (intOf i).toNat)
      case atStart => exact ⟨0, Nat.zero_le _, rfl, HT1, HW⟩
      case round =>
        clear HT1 HW
        obtain ⟨k, hk, rfl, HT, HW⟩ := hrel
        rename World => wa
        by_cases hlt : k < ms.length
        · have HT0 : Hid (LisR wa w.heap.size u3 ((all2 ms ms.length ++ all3 ms k) ++ part3b ms k 0)) := Lib.hid (by rw [show part3b ms k 0 = [] from rfl, List.append_nil]; exact HT.out)
          go_wp2
          go_loopw [3, 49] (fun v i wr => ∃ m : Nat, m ≤ ms.length ∧ i = .int .i64 m ∧ Hid (LisR wr w.heap.size v ((all2 ms ms.length ++ all3 ms k) ++ part3b ms k m)) ∧ Hid (Below w.heap.size w wr)) (fun _ i _ => ms.length - (intOf i).toNat)
          case atStart => exact ⟨0, Nat.zero_le _, rfl, HT0, HW⟩
          case round =>
            clear HT HT0 HW
            obtain ⟨m, hm, rfl, HT, HW⟩ := hrel
            rename World => wb
            by_cases hlt2 : m < ms.length
            · have HT0 : Hid (LisR wb w.heap.size u3 (((all2 ms ms.length ++ all3 ms k) ++ part3b ms k m) ++ part3c ms k m 0)) := Lib.hid (by rw [show part3c ms k m 0 = [] from rfl, List.append_nil]; exact HT.out)
              go_wp2
              go_loopw [3, 54] (fun v i wr => ∃ d : Nat, d ≤ ms.length ∧ i = .int .i64 d ∧ Hid (LisR wr w.heap.size v (((all2 ms ms.length ++ all3 ms k) ++ part3b ms k m) ++ part3c ms k m d)) ∧ Hid (Below w.heap.size w wr)) (fun _ i _ => ms.length - (intOf i).toNat)
              case atStart => exact ⟨0, Nat.zero_le _, rfl, HT0, HW⟩
              case round =>
                clear HT HT0 HW
                obtain ⟨d, hd, rfl, HT, HW⟩ := hrel
                rename World => wi
                by_cases hlt3 : d < ms.length
                · have HLEN : Hid ((((all2 ms ms.length ++ all3 ms k) ++ part3b ms k m) ++ part3c ms k m d).length ≤ 3000) := Lib.hid (by
                    rw [List.length_append, List.length_append, List.length_append]
                    have h1 := cap2 (m := 0) (Nat.le_refl _) hn2 rfl
                    have h2 := cap3 (k := k) hn2 (by omega)
                    have h3 := cap3b (a := k) (k := m) hn2 (by omega)
                    have h4 := part3c_len ms k m d
                    omega)
                  obtain ⟨b, hb⟩ : ∃ b, wiB ms [(k : Int), (m : Int), (d : Int)] = b := ⟨_, rfl⟩
                  have HBB := Lib.hid hb
                  obtain ⟨⟨tn, td⟩, htt⟩ : ∃ z, twV ms [(k : Int), (m : Int), (d : Int)] = z := ⟨_, rfl⟩
                  have HTT := Lib.hid htt
                  clear hb htt
                  have HTE : Hid (∀ V : World, Below wi.heap.size wi V → V.heap[wi.heap.size]? = some (.cells #[.int .i64 k, .int .i64 m, .int .i64 d] 3 (0, 0)) → Calls Try.prog 79 #[.slice A ms.length c, .slice (some ⟨wi.heap.size, 0, none⟩) 3 3] V fun e w' => e = .returned (.tuple #[.agg #[.int .i64 tn, .int .i64 td], .bool b]) ∧ Below V.heap.size V w') := Lib.hid (fun V hV hc => by
                    have := refTells1_any ms A c [(k : Int), (m : Int), (d : Int)] (some ⟨wi.heap.size, 0, none⟩) 3 V (H.out.below (HW.out.trans (hV.mono HW.out.size))) (blk_ints (zs := [(k : Int), (m : Int), (d : Int)]) hc) (by simp) (Nat.le_refl _) (by unfold maxLen; omega) HPT.out
                    rw [HTT.out, HBB.out] at this
                    exact this)
                  go_upto_region 22 with (go_at_call 79; refine (HTE.out _ ((Below.refl _ _).alloc (Nat.le_refl _) _) (heap_alloc_new _ _)).mono ?_; rintro e w2 ⟨rfl, hB2⟩; have hB2 : Below wi.heap.size wi w2 := ((Below.refl wi.heap.size wi).alloc (Nat.le_refl _) _).trans (hB2.mono (by simp)))
                  obtain ⟨W3, hW3, hB3⟩ : ∃ W3, w2.alloc (.cells #[.int .i64 tn, .int .i64 td] 34) = W3 ∧ Below wi.heap.size wi W3 := ⟨_, rfl, hB2.alloc hB2.size _⟩
                  rw [hW3]
                  clear hW3
                  have HT := Lib.hid (HT.out.below hB3)
                  have HW : Hid (Below w.heap.size w _) := Lib.hid (below_step HW.out hB3)
                  clear hB2 hB3
                  cases b with
                  | true =>
                    have HN : Hid ((((all2 ms ms.length ++ all3 ms k) ++ part3b ms k m) ++ part3c ms k m d) ++ [[(k : Int), (m : Int), (d : Int)]] = ((all2 ms ms.length ++ all3 ms k) ++ part3b ms k m) ++ part3c ms k m (d + 1)) := Lib.hid (by rw [part3c_next, in3, if_pos HBB.out, List.append_assoc])
                    go_wp2_with (at_builtin; refine wp_app_lis _ rfl (.tmp 67) (.tmp 72) rfl w.heap.size _ _ [(k : Int), (m : Int), (d : Int)] _ rfl rfl HT.out rfl (Nat.le_trans HLEN.out (by omega)) HW.out.size ?_; intro v4 w4 hT4 hB4 _)
                    go_roundw
                    case rel => exact ⟨d + 1, by omega, by go_num, Lib.hid (by rw [← HN.out]; exact hT4), Lib.hid (HW.out.trans hB4)⟩
                    case measure => simp [intOf]; omega
                  | false =>
                    have HN : Hid (((all2 ms ms.length ++ all3 ms k) ++ part3b ms k m) ++ part3c ms k m d = ((all2 ms ms.length ++ all3 ms k) ++ part3b ms k m) ++ part3c ms k m (d + 1)) := Lib.hid (by rw [part3c_next, in3, HBB.out]; simp)
                    go_wp2
                    go_roundw
                    case rel => exact ⟨d + 1, by omega, by go_num, Lib.hid (by rw [← HN.out]; exact HT.out), HW⟩
                    case measure => simp [intOf]; omega
                · obtain rfl : d = ms.length := by omega
                  have HT1 : Hid (LisR wi w.heap.size u3 ((all2 ms ms.length ++ all3 ms k) ++ part3b ms k (m + 1))) := Lib.hid (by rw [part3b, range_flat, ← List.append_assoc]; exact HT.out)
                  go_wp2
                  go_roundw
                  case rel => exact ⟨m + 1, by omega, by go_num, HT1, HW⟩
                  case measure => simp [intOf]; omega
            · obtain rfl : m = ms.length := by omega
              have HT1 : Hid (LisR wb w.heap.size u3 (all2 ms ms.length ++ all3 ms (k + 1))) := Lib.hid (by rw [all3, range_flat, ← List.append_assoc]; exact HT.out)
              go_wp2
              go_roundw
              case rel => exact ⟨k + 1, by omega, by go_num, HT1, HW⟩
              case measure => simp [intOf]; omega
        · obtain rfl : k = ms.length := by omega
          go_wp2
          go_ret
          exact ⟨_, rfl, HT.out, HW.out⟩
end Go.Proofs.Ytoilbgngefleiaa
