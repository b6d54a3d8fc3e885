/-
  What the answers are where they are known: contracts with their values put in.
-/
import Derived.Test.YtcmnjmhedmneiaaDoorRefDecode
import Derived.Test.YtcmnjmhedmneiaaDoorWide
import Derived.Test.YtcmnjmhedmneiaaDoorPlan
namespace Go.Proofs.YtcmnjmhedmneiaaDoor
open Go.RowKit Go.Shelf

theorem plan_dec {s : List Int} {ps : List (Int × Nat)} {q : ByteArray} (hv : vwB s = true) (hf : Fits ps) (hd : ps.map Prod.fst = difL s) (hl : (planG 2 ps).length ≤ 1000) (hq : q = ⟨(planG 2 ps).toArray⟩) :
    dcE q = 0 ∧ dcS q = s ∧ dcW q = wdL (ps.map Prod.snd) ∧ dcC q = chgN 2 ps ∧ itE s q = 0 ∧ itB s q = true ∧ q.size = (planG 2 ps).length ∧ vbB q = true := by
  have h1 : sumL (ps.map Prod.fst) = s := by rw [hd, sum_dif]
  obtain ⟨a, b, c, d, e, f⟩ := dc_plan hf hl (by rw [h1]; exact hv)
  subst hq
  refine ⟨a, by rw [b, h1], c, d, by simp [itE, hv, e], ?_, sv_size _, e⟩
  rw [it_of hv e f, decide_eq_true_eq]
  exact hd
theorem enc_dec {s : List Int} {q : ByteArray} (hv : vwB s = true) (hq : q = ⟨(encT s).toArray⟩) :
    ∃ ps, ps.map Prod.fst = difL s ∧ Fits ps ∧ q = ⟨(planG 2 ps).toArray⟩ ∧ (planG 2 ps).length ≤ 451 := by
  obtain ⟨ps, h1, h2, h3, _⟩ := enc_read (dif_all hv)
  have hl := enc_451 (dif_all hv) (by rw [show (difL s).length = s.length from difG_len 0 s]; exact (vw_parts hv).1.2)
  rw [(enc_ok hv).2, h3] at hq
  rw [h3] at hl
  exact ⟨ps, h1, h2, hq, hl⟩
theorem wide_zip (s : List Int) : (difL s).zip (List.replicate s.length 4) = wideP (difL s) := by
  rw [wideP, show (difL s).length = s.length from difG_len 0 s]
theorem wide_dec {s : List Int} {q : ByteArray} (hv : vwB s = true) (hq : q = ⟨(wideL s).toArray⟩) :
    q = ⟨(planG 2 (wideP (difL s))).toArray⟩ ∧ Fits (wideP (difL s)) ∧ (wideP (difL s)).map Prod.fst = difL s ∧ (planG 2 (wideP (difL s))).length ≤ 451 := by
  have hl := wide_plan (difL s)
  have h4 : (difL s).length = s.length := difG_len 0 s
  have h5 := (vw_parts hv).1.2
  rw [(wide_ok hv).2, wide_zip] at hq
  exact ⟨hq, wide_fits _ (dif_all hv), wide_fst _, by omega⟩
theorem max_big {n : Nat} (h : n ≤ 1000) : n ≤ maxLen := by unfold maxLen; omega

theorem decode_eq {q : ByteArray} {E : Int} {l : List Int} {w : World} (hq : q.size ≤ maxLen) (hW : Wids w) (he : dcE q = E) (hs : dcS q = l) :
    Calls Tryd.prog 41 #[.string q] w fun e w' => ∃ (A : Option Addr) (c : Nat), e = .returned (.tuple #[.slice A l.length c, .int .i64 E]) ∧ Out w' A c l ∧ Below w.heap.size w w' := by
  refine (waveDecode_any q w hq hW).mono ?_
  rintro e w' ⟨A, c, zs, F, rfl, hO, hB, hF⟩
  obtain rfl := hF.out.1.trans hs
  obtain rfl := hF.out.2.trans he
  exact ⟨A, c, rfl, hO, hB⟩
theorem widths_eq {q : ByteArray} {E : Int} {l : List Int} {w : World} (hq : q.size ≤ maxLen) (hW : Wids w) (he : dcE q = E) (hs : dcW q = l) :
    Calls Tryd.prog 43 #[.string q] w fun e w' => ∃ (A : Option Addr) (c : Nat), e = .returned (.tuple #[.slice A l.length c, .int .i64 E]) ∧ Out w' A c l ∧ Below w.heap.size w w' := by
  refine (waveWidths_any q w hq hW).mono ?_
  rintro e w' ⟨A, c, zs, F, rfl, hO, hB, hF⟩
  obtain rfl := hF.out.1.trans hs
  obtain rfl := hF.out.2.trans he
  exact ⟨A, c, rfl, hO, hB⟩
theorem changes_eq {q : ByteArray} {E : Int} {m : Nat} {w : World} (hq : q.size ≤ maxLen) (hW : Wids w) (he : dcE q = E) (hs : dcC q = m) :
    Calls Tryd.prog 45 #[.string q] w fun e w' => e = .returned (.tuple #[.int .i64 m, .int .i64 E]) ∧ Below w.heap.size w w' := by
  refine (waveChanges_any q w hq hW).mono ?_
  rintro e w' ⟨n, F, rfl, hB, hF⟩
  obtain rfl := hF.out.1
  obtain rfl := hF.out.2.trans he
  subst hs
  exact ⟨rfl, hB⟩
theorem isText_eq {s : List Int} {A : Option Addr} {c : Nat} {q : ByteArray} {E : Int} {b : Bool} {w : World} (h : Ints w A s) (hl : s.length ≤ maxLen) (hq : q.size ≤ maxLen) (hW : Wids w) (he : itE s q = E) (hs : itB s q = b) :
    Calls Tryd.prog 47 #[.slice A s.length c, .string q] w fun e w' => e = .returned (.tuple #[.bool b, .int .i64 E]) ∧ Below w.heap.size w w' := by
  refine (waveIsText_any s A c q w h hl hq hW).mono ?_
  rintro e w' ⟨n, F, rfl, hB, hF⟩
  obtain rfl := hF.out.1.trans hs
  obtain rfl := hF.out.2.trans he
  exact ⟨rfl, hB⟩
theorem encode_eq {s : List Int} {A : Option Addr} {c : Nat} {w : World} (h : Ints w A s) (hl : s.length ≤ maxLen) (hW : Wids w) (hv : vwB s = true) :
    Calls Tryd.prog 33 #[.slice A s.length c] w fun e w' => ∃ q : ByteArray, e = .returned (.tuple #[.string q, .int .i64 0]) ∧ Below w.heap.size w w' ∧ Hid (q = ⟨(encT s).toArray⟩) := by
  refine (encode_some s A c w h hl hW).mono ?_
  rintro e w' ⟨q, E, rfl, hB, hF⟩
  obtain rfl := hF.out.2.trans (enc_ok hv).1
  exact ⟨q, rfl, hB, Lib.hid hF.out.1⟩
theorem wide_eq {s : List Int} {A : Option Addr} {c : Nat} {w : World} (h : Ints w A s) (hl : s.length ≤ maxLen) (hW : Wids w) (hv : vwB s = true) :
    Calls Tryd.prog 37 #[.slice A s.length c] w fun e w' => ∃ q : ByteArray, e = .returned (.tuple #[.string q, .int .i64 0]) ∧ Below w.heap.size w w' ∧ Hid (q = ⟨(wideL s).toArray⟩) := by
  refine (waveWide_any s A c w h hl hW).mono ?_
  rintro e w' ⟨q, E, rfl, hB, hF⟩
  obtain rfl := hF.out.2.trans (enc_ok hv).1
  exact ⟨q, rfl, hB, Lib.hid hF.out.1⟩
theorem bound_eq {s : List Int} {A : Option Addr} {c : Nat} {w : World} (h : Ints w A s) (hl : s.length ≤ maxLen) (hW : Wids w) (hv : vwB s = true) :
    Calls Tryd.prog 39 #[.slice A s.length c] w fun e w' => e = .returned (.tuple #[.int .i64 (bndI (difL s)), .int .i64 0]) ∧ Below w.heap.size w w' := by
  refine (waveBound_any s A c w h hl hW).mono ?_
  rintro e w' ⟨n, E, rfl, hB, hF⟩
  obtain rfl := hF.out.2.trans (bnd_ok hv).1
  obtain rfl := hF.out.1.trans (bnd_ok hv).2
  exact ⟨rfl, hB⟩
theorem length_eq {s : List Int} {A : Option Addr} {c : Nat} {w : World} (h : Ints w A s) (hl : s.length ≤ maxLen) (hW : Wids w) (hv : vwB s = true) :
    Calls Tryd.prog 35 #[.slice A s.length c] w fun e w' => e = .returned (.tuple #[.int .i64 (encT s).length, .int .i64 0]) ∧ Below w.heap.size w w' := by
  refine (length_any s A c w h hl hW).mono ?_
  rintro e w' ⟨n, E, rfl, hB, hF⟩
  obtain rfl := hF.out.2.trans (enc_ok hv).1
  obtain rfl := hF.out.1
  exact ⟨rfl, hB⟩
theorem diffs_eq {s : List Int} {A : Option Addr} {c : Nat} {w : World} (h : Ints w A s) (hl : s.length ≤ maxLen) (hv : vwB s = true) :
    Calls Tryd.prog 20 #[.slice A s.length c] w fun e w' => ∃ (A : Option Addr) (c : Nat) (zs : List Int), e = .returned (.tuple #[.slice A zs.length c, .int .i64 0]) ∧ Out w' A c zs ∧ Below w.heap.size w w' ∧ Hid (zs = difL s) := by
  refine (waveDifferences_any s A c w h hl).mono ?_
  rintro e w' ⟨A, c, zs, F, rfl, hO, hB, hF⟩
  obtain rfl := hF.out.2.trans (dif_ok hv).1
  exact ⟨A, c, zs, rfl, hO, hB, Lib.hid (hF.out.1.trans (dif_ok hv).2)⟩
theorem samples_eq {s zs : List Int} {A : Option Addr} {c : Nat} {w : World} (h : Ints w A zs) (hl : zs.length ≤ maxLen) (hz : zs = difL s) (hv : vwB s = true) :
    Calls Tryd.prog 22 #[.slice A zs.length c] w fun e w' => ∃ (A : Option Addr) (c : Nat), e = .returned (.tuple #[.slice A s.length c, .int .i64 0]) ∧ Out w' A c s ∧ Below w.heap.size w w' := by
  subst hz
  have hv2 : vwB (sumL (difL s)) = true := by rw [sum_dif]; exact hv
  have hi : I64s (difL s) := fun d hd => by have := dif_all hv d hd; omega
  refine (waveSamples_any (difL s) A c w h hl hi).mono ?_
  rintro e w' ⟨A, c, zs, F, rfl, hO, hB, hF⟩
  obtain rfl := hF.out.2.trans (smp_ok hv2).1
  obtain rfl := hF.out.1.trans ((smp_ok hv2).2.trans (sum_dif s))
  exact ⟨A, c, rfl, hO, hB⟩
end Go.Proofs.YtcmnjmhedmneiaaDoor
