/-
  Contract: Same (firnref01).
-/
import Derived.Test.YtjghlfagdleglaaSame
namespace Go.Proofs.Ytjghlfagdleglaa
open Go.RowKit

theorem own_more {w : World} {base base' : Nat} {t : TypeId} {sz n : Nat} {v : Value} {xs : List Value} (h : w.ownsRow base t sz v n xs) (hb : base' ≤ base) : w.ownsRow base' t sz v n xs := by
  refine ⟨h.1, ?_⟩
  rcases h.2 with h0 | ⟨g, cap, cur, h1, h2, h3⟩
  · exact .inl h0
  · exact .inr ⟨g, cap, cur, h1, Nat.le_trans hb h2, h3⟩
theorem map_take_fst {ms : List (Int × Int)} {k : Nat} {m : Int × Int} (h : ms[k]? = some m) : (ms.take (k + 1)).map Prod.fst = (ms.take k).map Prod.fst ++ [m.1] := by
  rw [take_snoc h]; simp
theorem refTimes_in {ms ns : List (Int × Int)} {x : Int} (hv : vkB ms = true) (hv' : vkB ns = true) (h : x ∈ refTimes ms ns) : -1 ≤ x ∧ x ≤ 100001 := by
  simp only [refTimes, List.mem_append, List.mem_map, List.mem_cons] at h
  rcases h with (h | ⟨m, hm, rfl⟩) | ⟨m, hm, rfl⟩
  · rcases h with h | h | h
    · omega
    · omega
    · cases h
  · obtain ⟨j, hj⟩ := List.getElem?_of_mem hm
    have := vk_at hv (a := m.1) (b := m.2) hj
    omega
  · obtain ⟨j, hj⟩ := List.getElem?_of_mem hm
    have := vk_at hv' (a := m.1) (b := m.2) hj
    omega

set_option maxRecDepth 100000 in
set_option maxHeartbeats 1600000 in
theorem refSame_any (ms ns : List (Int × Int)) (A B : Option Addr) (c d : Nat) (w : World) (hA : Clk w A c ms) (hB : Clk w B d ns) :
    Calls Try.prog 50 #[.slice A ms.length c, .slice B ns.length d] w fun e w' => e = .returned (.tuple #[.bool (sameR ms ns), .int .i64 (twoE ms ns)]) ∧ Below w.heap.size w w' := by
  have HA := Lib.hid hA
  have HB := Lib.hid hB
  clear hA hB
  by_cases hv : vkB ms = true
  · have HV := Lib.hid hv
    by_cases hv' : vkB ns = true
    · have HV' := Lib.hid hv'
      obtain ⟨hn2, hn30⟩ := vk_parts hv
      obtain ⟨hm2, hm30⟩ := vk_parts hv'
      clear hv hv'
      obtain ⟨b1, o1, rfl, hb1, hcells1⟩ := HA.out.marks.open_ (by omega)
      obtain ⟨b2, o2, rfl, hb2, hcells2⟩ := HB.out.marks.open_ (by omega)
      have HC1 := Lib.hid hcells1
      have HC2 := Lib.hid hcells2
      clear hcells1 hcells2
      go_enter Try.func50, Try.ntmps50
      have TA : Hid True := Lib.hid trivial
      go_wp2_with (first
        | (go_at_call 33; have hstop := hB1; refine (refValidClock_any ns _ _ _ (HB.out.below hB1).marks HB.out.len).mono ?_; rintro e w2 ⟨he, hB2⟩; rw [HV'.out] at he; subst he; have hW2 := hB1.trans (hB2.mono hB1.size); have hz2 := hW2.size)
        | (clear TA; go_at_call 33; refine (refValidClock_any ms _ _ _ (HA.out.below (by exact (by repeat (first | with_reducible exact Below.refl _ _ | with_reducible assumption | refine below_drewN ?_ _ | with_reducible refine Below.drew ?_ | (refine Below.setCell ?_ (by first | (simp; done) | (simp; omega) | omega) _) | (refine Below.alloc ?_ (by first | (simp; done) | (simp; omega) | omega) _))))).marks HA.out.len).mono ?_; rintro e w1 ⟨he, hB1⟩; rw [HV.out] at he; subst he))
      go_loopw [6, 24] (fun v i wr => ∃ k : Nat, k ≤ ms.length ∧ i = .int .i64 k ∧ wr.ownsRow w.heap.size 3 1 v (([-1, 100001] : List Int) ++ (ms.take k).map Prod.fst).length ((([-1, 100001] : List Int) ++ (ms.take k).map Prod.fst).map (Value.int .i64)) ∧ Below w.heap.size w wr) (fun _ i _ => ms.length - (intOf i).toNat)
      case atStart => exact ⟨0, Nat.zero_le _, rfl, own_more (own_two (w := w2) (a := -1) (b := 100001)) hz2, Below.alloc hW2 hz2 _⟩
      case round =>
        clear hB1 hB2 hW2 hz2
        obtain ⟨k, hk, rfl, hown, hB⟩ := hrel
        by_cases hlt : k < ms.length
        · obtain ⟨p, q, hx⟩ := getM_of_lt hlt
          have f0 := (hB.cell (p := ⟨b1, o1 + k * 2, none⟩) hb1).trans (HC1.out _ _ hx).1
          have f1 := (hB.cell (p := ⟨b1, o1 + k * 2 + 1, none⟩) hb1).trans (HC1.out _ _ hx).2
          have HX := Lib.hid hx
          clear hx
          have hz := hB.size
          have hkl : (([-1, 100001] : List Int) ++ (ms.take k).map Prod.fst).length ≤ 1000 := by simp; omega
          have HO3 := Lib.hid (hown.alloc (.cells #[.int .i64 p, .int .i64 q] 61))
          have HW3 : Hid (Below w.heap.size w (wr.alloc (.cells #[.int .i64 p, .int .i64 q] 61))) := by show Below _ _ _; exact Below.alloc hB hz _
          have HS : Hid (Value.slice (some ⟨wr.heap.size + 1, 0, none⟩) 1 1 = Value.slice (some ⟨(wr.alloc (.cells #[.int .i64 p, .int .i64 q] 61)).heap.size, 0, none⟩) 1 1) := by show _ = _; simp
          clear hown
          go_wp2_with (at_builtin; refine wp_app_int (wr.alloc (.cells #[.int .i64 p, .int .i64 q] 61)) rfl (.tmp 28) (.tmp 31) rfl w.heap.size _ _ _ p rfl HO3.out HS.out (by omega) HW3.out.size ?_; intro v2 w2 hown2 hB2)
          go_roundw
          case rel => exact ⟨k + 1, by omega, by go_num, by rw [map_take_fst HX.out, ← List.append_assoc, List.length_append]; exact hown2, HW3.out.trans hB2⟩
          case measure => simp [intOf]; omega
        · obtain rfl : k = ms.length := by omega
          go_wp2_with fail
          go_loopw [6, 36] (fun v i wr => ∃ k : Nat, k ≤ ns.length ∧ i = .int .i64 k ∧ wr.ownsRow w.heap.size 3 1 v (([-1, 100001] : List Int) ++ ms.map Prod.fst ++ (ns.take k).map Prod.fst).length ((([-1, 100001] : List Int) ++ ms.map Prod.fst ++ (ns.take k).map Prod.fst).map (Value.int .i64)) ∧ Below w.heap.size w wr) (fun _ i _ => ns.length - (intOf i).toNat)
          case atStart => exact ⟨0, Nat.zero_le _, rfl, by rw [List.take_length] at hown; simpa using hown, hB⟩
          case round =>
            clear hown hB
            obtain ⟨k, hk, rfl, hown, hB⟩ := hrel
            by_cases hlt : k < ns.length
            · obtain ⟨p, q, hx⟩ := getM_of_lt hlt
              have f0 := (hB.cell (p := ⟨b2, o2 + k * 2, none⟩) hb2).trans (HC2.out _ _ hx).1
              have f1 := (hB.cell (p := ⟨b2, o2 + k * 2 + 1, none⟩) hb2).trans (HC2.out _ _ hx).2
              have HX := Lib.hid hx
              clear hx
              have hz := hB.size
              have hkl : (([-1, 100001] : List Int) ++ ms.map Prod.fst ++ (ns.take k).map Prod.fst).length ≤ 1000 := by simp; omega
              have HO3 := Lib.hid (hown.alloc (.cells #[.int .i64 p, .int .i64 q] 61))
              have HW3 : Hid (Below w.heap.size w (wr.alloc (.cells #[.int .i64 p, .int .i64 q] 61))) := by show Below _ _ _; exact Below.alloc hB hz _
              have HS : Hid (Value.slice (some ⟨wr.heap.size + 1, 0, none⟩) 1 1 = Value.slice (some ⟨(wr.alloc (.cells #[.int .i64 p, .int .i64 q] 61)).heap.size, 0, none⟩) 1 1) := by show _ = _; simp
              clear hown
              go_wp2_with (at_builtin; refine wp_app_int (wr.alloc (.cells #[.int .i64 p, .int .i64 q] 61)) rfl (.tmp 40) (.tmp 43) rfl w.heap.size _ _ _ p rfl HO3.out HS.out (by omega) HW3.out.size ?_; intro v2 w2 hown2 hB2)
              go_roundw
              case rel => exact ⟨k + 1, by omega, by go_num, by rw [map_take_fst HX.out, ← List.append_assoc, List.length_append]; exact hown2, HW3.out.trans hB2⟩
              case measure => simp [intOf]; omega
            · obtain rfl : k = ns.length := by omega
              rw [List.take_length] at hown
              have hW3 := hB
              have hlb := hW3.size
              obtain ⟨xs, hxs⟩ : ∃ xs, xs = refTimes ms ns := ⟨_, rfl⟩
              rw [show ([-1, 100001] : List Int) ++ ms.map Prod.fst ++ ns.map Prod.fst = xs from hxs.symm] at hown
              have hcl : 0 < xs.length ∧ xs.length ≤ 1000 := by rw [hxs]; simp [refTimes]; omega
              obtain ⟨A3, c3, rfl, H3⟩ := own_ints hown
              have H3 := Lib.hid H3
              have HXS := Lib.hid hxs
              clear hown hxs
              go_wp2_with fail
              go_loopw [48] (fun i w' => ∃ k : Nat, k ≤ xs.length ∧ i = .int .i64 k ∧ Below wr.heap.size wr w' ∧ Hid ((xs.take k).all (eqT ms ns) = true)) (fun i _ => xs.length - (intOf i).toNat)
              case atStart => exact ⟨0, Nat.zero_le _, rfl, Below.refl _ _, rfl⟩
              case round =>
                obtain ⟨k, hk, rfl, hBw, hall⟩ := hrel
                have hz := hBw.size
                have hW := hW3.trans (hBw.mono hlb)
                by_cases hlt : k < xs.length
                · obtain ⟨b3, o3, rfl, hb3, hcells⟩ := H3.out.ints.open_ (by omega)
                  obtain ⟨x, hx⟩ : ∃ x, xs[k]? = some x := ⟨_, List.getElem?_eq_getElem hlt⟩
                  have f0 := (hBw.cell (p := ⟨b3, o3 + k, none⟩) hb3).trans (hcells k x hx)
                  have hin := refTimes_in HV.out HV'.out (by rw [← HXS.out]; exact List.mem_of_getElem? hx)
                  have HX := Lib.hid hx
                  clear hx hcells
                  have TA : Hid True := Lib.hid trivial
                  cases he : eqT ms ns x
                  · have fin : Hid (false = sameR ms ns ∧ 0 = twoE ms ns) := by
                      refine ⟨?_, by simp [twoE, HV.out, HV'.out]⟩
                      rw [sameR, HV.out, HV'.out, ← HXS.out]
                      exact (all_no HX.out he).symm
                    by_cases h1 : tN ms x = tN ns x
                    · have t1 : (tN ms x == tN ns x) = true := by simpa using h1
                      have t2 : (tD ms x == tD ns x) = false := by simpa [eqT, t1] using he
                      clear he h1
                      go_wp2_with (first
                        | (go_at_call 62; have hstop := hB4; refine (refat2_any ns _ _ x _ (HB.out.below (hW.trans (hB4.mono (by omega)))) HV'.out (by omega) (by omega)).mono ?_; rintro e w5 ⟨rfl, hB5⟩; have z4 := hB4.size)
                        | (clear TA; go_at_call 62; refine (refat2_any ms _ _ x _ (HA.out.below hW) HV.out (by omega) (by omega)).mono ?_; rintro e w4 ⟨rfl, hB4⟩))
                      go_ret2
                      exact ⟨by rw [← fin.out.1, ← fin.out.2]; rfl, hW.trans ((hB4.mono (by omega)).trans (hB5.mono (by omega)))⟩
                    · have t1 : (tN ms x == tN ns x) = false := by simpa using h1
                      clear he h1
                      go_wp2_with (first
                        | (go_at_call 62; have hstop := hB4; refine (refat2_any ns _ _ x _ (HB.out.below (hW.trans (hB4.mono (by omega)))) HV'.out (by omega) (by omega)).mono ?_; rintro e w5 ⟨rfl, hB5⟩; have z4 := hB4.size)
                        | (clear TA; go_at_call 62; refine (refat2_any ms _ _ x _ (HA.out.below hW) HV.out (by omega) (by omega)).mono ?_; rintro e w4 ⟨rfl, hB4⟩))
                      go_ret2
                      exact ⟨by rw [← fin.out.1, ← fin.out.2]; rfl, hW.trans ((hB4.mono (by omega)).trans (hB5.mono (by omega)))⟩
                  · have HE := Lib.hid he
                    obtain ⟨t1, t2⟩ : (tN ms x == tN ns x) = true ∧ (tD ms x == tD ns x) = true := by simpa [eqT] using he
                    clear he
                    go_wp2_with (first
                      | (go_at_call 62; have hstop := hB4; refine (refat2_any ns _ _ x _ (HB.out.below (hW.trans (hB4.mono (by omega)))) HV'.out (by omega) (by omega)).mono ?_; rintro e w5 ⟨rfl, hB5⟩; have z4 := hB4.size)
                      | (clear TA; go_at_call 62; refine (refat2_any ms _ _ x _ (HA.out.below hW) HV.out (by omega) (by omega)).mono ?_; rintro e w4 ⟨rfl, hB4⟩))
                    go_roundw
                    case rel => exact ⟨k + 1, by omega, by go_num, hBw.trans ((hB4.mono (by omega)).trans (hB5.mono (by omega))), take_all hall.out HX.out HE.out⟩
                    case measure => simp [intOf]; omega
                · obtain rfl : k = xs.length := by omega
                  go_wp2
                  go_ret2
                  refine ⟨?_, hW⟩
                  have := hall.out
                  rw [List.take_length, HXS.out] at this
                  rw [sameR, twoE, HV.out, HV'.out, this]; rfl
    · have hv2 : vkB ns = false := by simpa using hv'
      go_enter Try.func50, Try.ntmps50
      have TA : Hid True := Lib.hid trivial
      go_wp2_with (first
        | (go_at_call 33; have hstop := hB1; refine (refValidClock_any ns _ _ _ (HB.out.below hB1).marks HB.out.len).mono ?_; rintro e w2 ⟨he, hB2⟩; rw [hv2] at he; subst he; have hW2 := hB1.trans (hB2.mono hB1.size))
        | (clear TA; go_at_call 33; refine (refValidClock_any ms _ _ _ (HA.out.below (by exact (by repeat (first | with_reducible exact Below.refl _ _ | with_reducible assumption | refine below_drewN ?_ _ | with_reducible refine Below.drew ?_ | (refine Below.setCell ?_ (by first | (simp; done) | (simp; omega) | omega) _) | (refine Below.alloc ?_ (by first | (simp; done) | (simp; omega) | omega) _))))).marks HA.out.len).mono ?_; rintro e w1 ⟨he, hB1⟩; rw [HV.out] at he; subst he))
      go_ret2
      exact ⟨by simp [sameR, twoE, hv2], hW2⟩
  · have hv2 : vkB ms = false := by simpa using hv
    go_enter Try.func50, Try.ntmps50
    go_wp2_with (go_at_call 33; refine (refValidClock_any ms _ _ _ (HA.out.below (by exact (by repeat (first | with_reducible exact Below.refl _ _ | with_reducible assumption | refine below_drewN ?_ _ | with_reducible refine Below.drew ?_ | (refine Below.setCell ?_ (by first | (simp; done) | (simp; omega) | omega) _) | (refine Below.alloc ?_ (by first | (simp; done) | (simp; omega) | omega) _))))).marks HA.out.len).mono ?_; rintro e w1 ⟨he, hB1⟩; rw [hv2] at he; subst he)
    go_ret2
    exact ⟨by simp [sameR, twoE, hv2], hB1⟩
end Go.Proofs.Ytjghlfagdleglaa
