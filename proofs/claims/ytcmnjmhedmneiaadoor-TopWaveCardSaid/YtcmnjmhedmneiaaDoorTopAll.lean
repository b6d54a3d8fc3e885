/-
  Joined for one claim: answers put in, bytes of texts, what holds of each text of a wave form.
-/
import Derived.Test.YtcmnjmhedmneiaaDoorRefDecode
import Derived.Test.YtcmnjmhedmneiaaDoorWide
import Derived.Test.YtcmnjmhedmneiaaDoorPlan
import Derived.Test.YtcmnjmhedmneiaaDoorRdM
import Derived.Test.YtcmnjmhedmneiaaDoorTwo
import Derived.Test.YtcmnjmhedmneiaaDoorWord
import Derived.Test.YtcmnjmhedmneiaaDoorBits
import Derived.Test.YtcmnjmhedmneiaaDoorSamples
import Derived.Test.YtcmnjmhedmneiaaDoorSteps
namespace Go.Proofs.YtcmnjmhedmneiaaDoor
open Go.RowKit Go.Shelf


theorem plan_dec {s : List Int} {ps : List (Int × Nat)} {q : ByteArray} (hv : vwB s = true) (hf : Fits ps) (hd : ps.map Prod.fst = difL s) (hl : (planG 2 ps).length ≤ 1000) (hq : q = ⟨(planG 2 ps).toArray⟩) :
    dcE q = 0 ∧ dcS q = s ∧ dcW q = wdL (ps.map Prod.snd) ∧ dcC q = chgN 2 ps ∧ itE s q = 0 ∧ itB s q = true ∧ q.size = (planG 2 ps).length ∧ vbB q = true := by
  have h1 : sumL (ps.map Prod.fst) = s := by rw [hd, sum_dif]
  obtain ⟨a, b, c, d, e, f⟩ := dc_plan hf hl (by rw [h1]; exact hv)
  subst hq
  refine ⟨a, by rw [b, h1], c, d, by simp [itE, hv, e], ?_, sv_size _, e⟩
  rw [it_of hv e f, decide_eq_true_eq]
  exact hd
theorem enc_dec {s : List Int} {q : ByteArray} (hv : vwB s = true) (hq : q = ⟨(encT s).toArray⟩) :
    ∃ ps, ps.map Prod.fst = difL s ∧ Fits ps ∧ q = ⟨(planG 2 ps).toArray⟩ ∧ (planG 2 ps).length ≤ 451 := by
  obtain ⟨ps, h1, h2, h3, _⟩ := enc_read (dif_all hv)
  have hl := enc_451 (dif_all hv) (by rw [show (difL s).length = s.length from difG_len 0 s]; exact (vw_parts hv).1.2)
  rw [(enc_ok hv).2, h3] at hq
  rw [h3] at hl
  exact ⟨ps, h1, h2, hq, hl⟩
theorem wide_zip (s : List Int) : (difL s).zip (List.replicate s.length 4) = wideP (difL s) := by
  rw [wideP, show (difL s).length = s.length from difG_len 0 s]
theorem wide_dec {s : List Int} {q : ByteArray} (hv : vwB s = true) (hq : q = ⟨(wideL s).toArray⟩) :
    q = ⟨(planG 2 (wideP (difL s))).toArray⟩ ∧ Fits (wideP (difL s)) ∧ (wideP (difL s)).map Prod.fst = difL s ∧ (planG 2 (wideP (difL s))).length ≤ 451 := by
  have hl := wide_plan (difL s)
  have h4 : (difL s).length = s.length := difG_len 0 s
  have h5 := (vw_parts hv).1.2
  rw [(wide_ok hv).2, wide_zip] at hq
  exact ⟨hq, wide_fits _ (dif_all hv), wide_fst _, by omega⟩
theorem max_big {n : Nat} (h : n ≤ 1000) : n ≤ maxLen := by unfold maxLen; omega

theorem decode_eq {q : ByteArray} {E : Int} {l : List Int} {w : World} (hq : q.size ≤ maxLen) (hW : Wids w) (he : dcE q = E) (hs : dcS q = l) :
    Calls Tryd.prog 41 #[.string q] w fun e w' => ∃ (A : Option Addr) (c : Nat), e = .returned (.tuple #[.slice A l.length c, .int .i64 E]) ∧ Out w' A c l ∧ Below w.heap.size w w' := by
  refine (waveDecode_any q w hq hW).mono ?_
  rintro e w' ⟨A, c, zs, F, rfl, hO, hB, hF⟩
  obtain rfl := hF.out.1.trans hs
  obtain rfl := hF.out.2.trans he
  exact ⟨A, c, rfl, hO, hB⟩
theorem widths_eq {q : ByteArray} {E : Int} {l : List Int} {w : World} (hq : q.size ≤ maxLen) (hW : Wids w) (he : dcE q = E) (hs : dcW q = l) :
    Calls Tryd.prog 43 #[.string q] w fun e w' => ∃ (A : Option Addr) (c : Nat), e = .returned (.tuple #[.slice A l.length c, .int .i64 E]) ∧ Out w' A c l ∧ Below w.heap.size w w' := by
  refine (waveWidths_any q w hq hW).mono ?_
  rintro e w' ⟨A, c, zs, F, rfl, hO, hB, hF⟩
  obtain rfl := hF.out.1.trans hs
  obtain rfl := hF.out.2.trans he
  exact ⟨A, c, rfl, hO, hB⟩
theorem changes_eq {q : ByteArray} {E : Int} {m : Nat} {w : World} (hq : q.size ≤ maxLen) (hW : Wids w) (he : dcE q = E) (hs : dcC q = m) :
    Calls Tryd.prog 45 #[.string q] w fun e w' => e = .returned (.tuple #[.int .i64 m, .int .i64 E]) ∧ Below w.heap.size w w' := by
  refine (waveChanges_any q w hq hW).mono ?_
  rintro e w' ⟨n, F, rfl, hB, hF⟩
  obtain rfl := hF.out.1
  obtain rfl := hF.out.2.trans he
  subst hs
  exact ⟨rfl, hB⟩
theorem isText_eq {s : List Int} {A : Option Addr} {c : Nat} {q : ByteArray} {E : Int} {b : Bool} {w : World} (h : Ints w A s) (hl : s.length ≤ maxLen) (hq : q.size ≤ maxLen) (hW : Wids w) (he : itE s q = E) (hs : itB s q = b) :
    Calls Tryd.prog 47 #[.slice A s.length c, .string q] w fun e w' => e = .returned (.tuple #[.bool b, .int .i64 E]) ∧ Below w.heap.size w w' := by
  refine (waveIsText_any s A c q w h hl hq hW).mono ?_
  rintro e w' ⟨n, F, rfl, hB, hF⟩
  obtain rfl := hF.out.1.trans hs
  obtain rfl := hF.out.2.trans he
  exact ⟨rfl, hB⟩
theorem encode_eq {s : List Int} {A : Option Addr} {c : Nat} {w : World} (h : Ints w A s) (hl : s.length ≤ maxLen) (hW : Wids w) (hv : vwB s = true) :
    Calls Tryd.prog 33 #[.slice A s.length c] w fun e w' => ∃ q : ByteArray, e = .returned (.tuple #[.string q, .int .i64 0]) ∧ Below w.heap.size w w' ∧ Hid (q = ⟨(encT s).toArray⟩) := by
  refine (encode_some s A c w h hl hW).mono ?_
  rintro e w' ⟨q, E, rfl, hB, hF⟩
  obtain rfl := hF.out.2.trans (enc_ok hv).1
  exact ⟨q, rfl, hB, Lib.hid hF.out.1⟩
theorem wide_eq {s : List Int} {A : Option Addr} {c : Nat} {w : World} (h : Ints w A s) (hl : s.length ≤ maxLen) (hW : Wids w) (hv : vwB s = true) :
    Calls Tryd.prog 37 #[.slice A s.length c] w fun e w' => ∃ q : ByteArray, e = .returned (.tuple #[.string q, .int .i64 0]) ∧ Below w.heap.size w w' ∧ Hid (q = ⟨(wideL s).toArray⟩) := by
  refine (waveWide_any s A c w h hl hW).mono ?_
  rintro e w' ⟨q, E, rfl, hB, hF⟩
  obtain rfl := hF.out.2.trans (enc_ok hv).1
  exact ⟨q, rfl, hB, Lib.hid hF.out.1⟩
theorem bound_eq {s : List Int} {A : Option Addr} {c : Nat} {w : World} (h : Ints w A s) (hl : s.length ≤ maxLen) (hW : Wids w) (hv : vwB s = true) :
    Calls Tryd.prog 39 #[.slice A s.length c] w fun e w' => e = .returned (.tuple #[.int .i64 (bndI (difL s)), .int .i64 0]) ∧ Below w.heap.size w w' := by
  refine (waveBound_any s A c w h hl hW).mono ?_
  rintro e w' ⟨n, E, rfl, hB, hF⟩
  obtain rfl := hF.out.2.trans (bnd_ok hv).1
  obtain rfl := hF.out.1.trans (bnd_ok hv).2
  exact ⟨rfl, hB⟩
theorem length_eq {s : List Int} {A : Option Addr} {c : Nat} {w : World} (h : Ints w A s) (hl : s.length ≤ maxLen) (hW : Wids w) (hv : vwB s = true) :
    Calls Tryd.prog 35 #[.slice A s.length c] w fun e w' => e = .returned (.tuple #[.int .i64 (encT s).length, .int .i64 0]) ∧ Below w.heap.size w w' := by
  refine (length_any s A c w h hl hW).mono ?_
  rintro e w' ⟨n, E, rfl, hB, hF⟩
  obtain rfl := hF.out.2.trans (enc_ok hv).1
  obtain rfl := hF.out.1
  exact ⟨rfl, hB⟩
theorem diffs_eq {s : List Int} {A : Option Addr} {c : Nat} {w : World} (h : Ints w A s) (hl : s.length ≤ maxLen) (hv : vwB s = true) :
    Calls Tryd.prog 20 #[.slice A s.length c] w fun e w' => ∃ (A : Option Addr) (c : Nat) (zs : List Int), e = .returned (.tuple #[.slice A zs.length c, .int .i64 0]) ∧ Out w' A c zs ∧ Below w.heap.size w w' ∧ Hid (zs = difL s) := by
  refine (waveDifferences_any s A c w h hl).mono ?_
  rintro e w' ⟨A, c, zs, F, rfl, hO, hB, hF⟩
  obtain rfl := hF.out.2.trans (dif_ok hv).1
  exact ⟨A, c, zs, rfl, hO, hB, Lib.hid (hF.out.1.trans (dif_ok hv).2)⟩
theorem samples_eq {s zs : List Int} {A : Option Addr} {c : Nat} {w : World} (h : Ints w A zs) (hl : zs.length ≤ maxLen) (hz : zs = difL s) (hv : vwB s = true) :
    Calls Tryd.prog 22 #[.slice A zs.length c] w fun e w' => ∃ (A : Option Addr) (c : Nat), e = .returned (.tuple #[.slice A s.length c, .int .i64 0]) ∧ Out w' A c s ∧ Below w.heap.size w w' := by
  subst hz
  have hv2 : vwB (sumL (difL s)) = true := by rw [sum_dif]; exact hv
  have hi : I64s (difL s) := fun d hd => by have := dif_all hv d hd; omega
  refine (waveSamples_any (difL s) A c w h hl hi).mono ?_
  rintro e w' ⟨A, c, zs, F, rfl, hO, hB, hF⟩
  obtain rfl := hF.out.2.trans (smp_ok hv2).1
  obtain rfl := hF.out.1.trans ((smp_ok hv2).2.trans (sum_dif s))
  exact ⟨A, c, rfl, hO, hB⟩

theorem zip_fs : ∀ ps : List (Int × Nat), (ps.map Prod.fst).zip (ps.map Prod.snd) = ps
  | [] => rfl
  | p :: t => by rw [List.map_cons, List.map_cons, List.zip_cons_cons, zip_fs t]
theorem kOf_wd {k : Nat} (h : k < 5) : kOf (wdN k) = k := by rw [kOf, ks_wd h]; rfl
theorem kind_wd {k : Nat} (h : k < 5) : kindB (wdN k) = true := by rw [kindB, ks_wd h]; rfl
theorem ksL_wd {ks : List Nat} (h : ∀ k ∈ ks, k < 5) : ksL (wdL ks) = ks := by
  induction ks with
  | nil => rfl
  | cons k t ih =>
    show kOf (wdN k) :: ksL (wdL t) = k :: t
    rw [kOf_wd (h k (by simp)), ih (fun x hx => h x (by simp [hx]))]
theorem kinds_wd {ks : List Nat} (h : ∀ k ∈ ks, k < 5) : kindsB (wdL ks) = true := by
  rw [kindsB, List.all_eq_true]
  intro x hx
  obtain ⟨k, hk, rfl⟩ := List.mem_map.1 hx
  exact kind_wd (h k hk)
theorem fits_lt {ps : List (Int × Nat)} (h : Fits ps) : ∀ k ∈ ps.map Prod.snd, k < 5 := fun k hk => by
  obtain ⟨p, hp, rfl⟩ := List.mem_map.1 hk
  exact (h p hp).1
theorem wdL_len (ks : List Nat) : (wdL ks).length = ks.length := by simp [wdL]
/-- A plan of what fits is the plan. -/
theorem pl_fits {s : List Int} {ps : List (Int × Nat)} (hv : vwB s = true) (hf : Fits ps) (hd : ps.map Prod.fst = difL s) (hl : (planG 2 ps).length ≤ 1000) :
    plE s (wdL (ps.map Prod.snd)) = 0 ∧ plT s (wdL (ps.map Prod.snd)) = planG 2 ps ∧ (wdL (ps.map Prod.snd)).length = s.length := by
  have hlen : (wdL (ps.map Prod.snd)).length = s.length := by
    rw [wdL_len, List.length_map, ← show (difL s).length = s.length from difG_len 0 s, ← hd, List.length_map]
  have hz : (difL s).zip (ksL (wdL (ps.map Prod.snd))) = ps := by rw [ksL_wd (fits_lt hf), ← hd, zip_fs]
  have hp : planL s (wdL (ps.map Prod.snd)) = planG 2 ps := by rw [planL, hz]
  obtain ⟨a, b⟩ := pl_ok hv hlen (kinds_wd (fits_lt hf)) (by rw [cansB, hz, List.all_eq_true]; exact fun p hp => (hf p hp).2) (by rw [hp]; omega)
  exact ⟨a, by rw [b, hp], hlen⟩
/-- Whatever is planned is a plan of what fits. -/
theorem pl_zero {s ws : List Int} (h : plE s ws = 0) : ∃ ps, vwB s = true ∧ Fits ps ∧ ps.map Prod.fst = difL s ∧ wdL (ps.map Prod.snd) = ws ∧ plT s ws = planG 2 ps ∧ (planG 2 ps).length ≤ 1000 := by
  unfold plE at h
  cases hv : vwB s with
  | false => rw [hv] at h; simp at h
  | true =>
    by_cases hl : ws.length = s.length
    · cases hk : kindsB ws with
      | false => rw [hv, hk] at h; simp [hl] at h
      | true =>
        cases hc : cansB (difL s) (ksL ws) with
        | false => rw [hv, hk, hc] at h; simp [hl] at h
        | true =>
          by_cases hb : 1000 < (planL s ws).length
          · rw [hv, hk, hc] at h; simp [hl, hb] at h
          · have hll : (difL s).length = (ksL ws).length := by rw [show (difL s).length = s.length from difG_len 0 s, ksL, List.length_map, hl]
            refine ⟨(difL s).zip (ksL ws), rfl, ?_, List.map_fst_zip (by omega), ?_, (pl_ok hv hl hk hc hb).2, by show (planL s ws).length ≤ 1000; omega⟩
            · intro p hp
              have := hc
              rw [cansB, List.all_eq_true] at this
              exact ⟨zip_lt (ks_lt hk) p hp, this p hp⟩
            · rw [List.map_snd_zip (by omega), wdL_ks hk]
    · rw [hv] at h; simp [hl] at h
theorem pl_cases (s ws : List Int) : plE s ws = 0 ∨ plE s ws = 2 ∨ plE s ws = 5 ∨ plE s ws = 4 ∨ vwB s = false := by
  unfold plE
  cases hv : vwB s with
  | false => exact .inr (.inr (.inr (.inr rfl)))
  | true =>
    rw [if_pos rfl]
    by_cases hl : ws.length = s.length
    · rw [if_pos hl]
      cases kindsB ws with
      | false => exact .inr (.inl rfl)
      | true =>
        rw [if_pos rfl]
        cases cansB (difL s) (ksL ws) with
        | false => exact .inr (.inr (.inl rfl))
        | true =>
          rw [if_pos rfl]
          by_cases hb : 1000 < (planL s ws).length
          · rw [if_pos hb]; exact .inr (.inr (.inr (.inl rfl)))
          · rw [if_neg hb]; exact .inl rfl
    · rw [if_neg hl]; exact .inr (.inl rfl)
theorem pl_far {s ws : List Int} (h : plE s ws ≠ 0) : plT s ws = [] := by rw [plT, if_neg h]

/-- All that holds of a text that is read. -/
theorem rd_all {t : ByteArray} {x : List (Int × Nat) × Nat} (hv : vbB t = true) (hr : rdT t = some x) (hs : vwB (sumL (dsO x)) = true) :
    Fits x.1 ∧ dsO x = difL (sumL (dsO x)) ∧ (planG 2 x.1).length ≤ t.size ∧ chgN 2 x.1 ≤ x.2 ∧ ((planG 2 x.1).length < t.size ∨ t = ⟨(planG 2 x.1).toArray⟩) ∧ LeT (encT (sumL (dsO x))) (planG 2 x.1) ∧ LeT (encT (sumL (dsO x))) t.data.toList := by
  have hb := (vb_parts hv).2
  obtain ⟨h1, h2, h3⟩ := rd_reads _ 2 t.data.toList (Nat.lt_succ_self _) (by omega) hb x.1 x.2 hr
  have hl : t.data.toList.length = t.size := by simp
  have he : encT (sumL (dsO x)) = encL (x.1.map Prod.fst) 2 := by rw [(enc_ok hs).2, dif_sum]; rfl
  have hle : LeT (encT (sumL (dsO x))) (planG 2 x.1) := by rw [he]; exact enc_least x.1 (fit_bd h1) h1 2
  refine ⟨h1, (dif_sum _).symm, ?_, h2, ?_, hle, ?_⟩
  · rcases h3 with ⟨h3, _⟩ | h3
    · rw [← h3, hl]; exact Nat.le_refl _
    · omega
  · rcases h3 with ⟨h3, _⟩ | h3
    · right
      rw [← h3]
    · left; omega
  · rw [he]; exact text_least hb (show rdL 2 t.data.toList = some (x.1, x.2) from hr) (fit_bd h1)

theorem plan_eq {s ws : List Int} {A B : Option Addr} {c d : Nat} {w : World} (hA : Ints w A s) (hB : Ints w B ws) (hl : s.length ≤ maxLen) (hlw : ws.length ≤ maxLen) (hW : Wids w) {E : Int} (he : plE s ws = E) :
    Calls Tryd.prog 49 #[.slice A s.length c, .slice B ws.length d] w fun e w' => ∃ q : ByteArray, e = .returned (.tuple #[.string q, .int .i64 E]) ∧ Below w.heap.size w w' ∧ Hid (q = ⟨(plT s ws).toArray⟩) := by
  refine (wavePlan_any s ws A B c d w hA hB hl hlw hW).mono ?_
  rintro e w' ⟨q, F, rfl, hB, hF⟩
  obtain rfl := hF.out.2.trans he
  exact ⟨q, rfl, hB, Lib.hid hF.out.1⟩

def btI (l : List UInt8) (i : Nat) : Int := if l[i]? = some 49 then 1 else 0
def byteI (l : List UInt8) (k : Nat) : Int :=
  btI l (8 * k) * 128 + btI l (8 * k + 1) * 64 + btI l (8 * k + 2) * 32 + btI l (8 * k + 3) * 16 + btI l (8 * k + 4) * 8 + btI l (8 * k + 5) * 4 + btI l (8 * k + 6) * 2 + btI l (8 * k + 7)
/-- The bytes of a text, behind the two that tell its length. -/
def pbI (l : List UInt8) : List Int := (List.range ((l.length + 7) / 8)).map (byteI l)
def pkI (l : List UInt8) : List Int := ((l.length / 256 : Nat) : Int) :: ((l.length % 256 : Nat) : Int) :: pbI l
theorem bt_bd (l : List UInt8) (i : Nat) : 0 ≤ btI l i ∧ btI l i ≤ 1 := by unfold btI; split <;> omega
theorem byte_bd (l : List UInt8) (k : Nat) : 0 ≤ byteI l k ∧ byteI l k ≤ 255 := by
  have h0 := bt_bd l (8 * k); have h1 := bt_bd l (8 * k + 1); have h2 := bt_bd l (8 * k + 2); have h3 := bt_bd l (8 * k + 3)
  have h4 := bt_bd l (8 * k + 4); have h5 := bt_bd l (8 * k + 5); have h6 := bt_bd l (8 * k + 6); have h7 := bt_bd l (8 * k + 7)
  unfold byteI; omega
theorem pb_len (l : List UInt8) : (pbI l).length = (l.length + 7) / 8 := by simp [pbI]
theorem pk_len (l : List UInt8) : (pkI l).length = 2 + (l.length + 7) / 8 := by simp [pkI, pb_len]; omega
theorem bt_take (l : List UInt8) (m i : Nat) : btI (l.take m) i = if i < m then btI l i else 0 := by
  unfold btI
  rw [List.getElem?_take]
  by_cases h : i < m
  · rw [if_pos h, if_pos h]
  · rw [if_neg h, if_neg h]; rfl
/-- The byte in work behind one bit more; it was free below that bit. -/
theorem byte_step {l : List UInt8} {m q r : Nat} (hm : m = 8 * q + r) (hr : r < 8) :
    byteI (l.take (m + 1)) q = byteI (l.take m) q + btI l m * 2 ^ (7 - r) ∧ byteI (l.take m) q % 2 ^ (8 - r) = 0 := by
  subst hm
  unfold byteI
  simp only [bt_take]
  rcases (show r = 0 ∨ r = 1 ∨ r = 2 ∨ r = 3 ∨ r = 4 ∨ r = 5 ∨ r = 6 ∨ r = 7 by omega) with rfl | rfl | rfl | rfl | rfl | rfl | rfl | rfl
  all_goals
    constructor
    · simp (disch := omega) only [if_pos, if_neg, Nat.reduceSub, Int.reducePow, Int.zero_mul, Int.add_zero, Int.zero_add]
      try (first | rfl | omega)
    · simp (disch := omega) only [if_neg, Nat.reduceSub, Int.reducePow, Int.zero_mul, Int.add_zero, if_pos]
      try omega
theorem byte_old {l : List UInt8} {m k : Nat} (h : 8 * k + 8 ≤ m) : byteI (l.take m) k = byteI l k := by
  unfold byteI
  simp only [bt_take]
  simp (disch := omega) only [if_pos]
theorem byte_free {l : List UInt8} {q : Nat} : byteI (l.take (8 * q)) q = 0 := by
  unfold byteI
  simp only [bt_take]
  simp (disch := omega) only [if_neg]
  simp
theorem pb_take_get {l : List UInt8} {m k : Nat} (hm : m ≤ l.length) (h : k < (m + 7) / 8) : (pbI (l.take m))[k]? = some (byteI (l.take m) k) := by
  rw [pbI, List.getElem?_map, List.getElem?_range (by rw [List.length_take]; omega)]; rfl
/-- A byte is begun. -/
theorem pb_new {l : List UInt8} {m q : Nat} (hl : m < l.length) (hm : m = 8 * q) :
    pbI (l.take (m + 1)) = pbI (l.take m) ++ [btI l m * 128] := by
  have h1 : (l.take (m + 1)).length = m + 1 := by rw [List.length_take]; omega
  have h2 : (l.take m).length = m := by rw [List.length_take]; omega
  apply List.ext_getElem?
  intro k
  rcases Nat.lt_trichotomy k q with h | h | h
  · rw [pb_take_get (by omega) (by omega), List.getElem?_append_left (by rw [pb_len, h2]; omega), pb_take_get (by omega) (by omega), byte_old (by omega), byte_old (by omega)]
  · subst h
    rw [pb_take_get (by omega) (by omega), List.getElem?_append_right (by rw [pb_len, h2]; omega), pb_len, h2, show k - (m + 7) / 8 = 0 by omega, (byte_step (q := k) (r := 0) (by omega) (by omega)).1, hm, byte_free]
    simp
  · rw [List.getElem?_eq_none (by rw [pb_len, h1]; omega), List.getElem?_eq_none (by rw [List.length_append, pb_len, h2, List.length_singleton]; omega)]
/-- A byte is gone on with. -/
theorem pb_more {l : List UInt8} {m q r : Nat} (hl : m < l.length) (hm : m = 8 * q + r) (hr : r < 8) (h0 : 0 < r) :
    pbI (l.take (m + 1)) = (pbI (l.take m)).set q (byteI (l.take m) q + btI l m * 2 ^ (7 - r)) := by
  have h1 : (l.take (m + 1)).length = m + 1 := by rw [List.length_take]; omega
  have h2 : (l.take m).length = m := by rw [List.length_take]; omega
  apply List.ext_getElem?
  intro k
  rw [List.getElem?_set]
  rcases Nat.lt_trichotomy k q with h | h | h
  · rw [if_neg (by omega), pb_take_get (by omega) (by omega), pb_take_get (by omega) (by omega), byte_old (by omega), byte_old (by omega)]
  · subst h
    rw [if_pos rfl, if_pos (by rw [pb_len, h2]; omega), pb_take_get (by omega) (by omega), (byte_step hm hr).1]
  · rw [if_neg (by omega), List.getElem?_eq_none (by rw [pb_len, h1]; omega), List.getElem?_eq_none (by rw [pb_len, h2]; omega)]

/-! ### there and back -/
def unL (b : List Int) (n : Nat) : List UInt8 := (List.range n).map fun i => bitU (b.getD (2 + i / 8) 0) (7 - i % 8)
def cntI (b : List Int) : Int := b.getD 0 0 * 256 + b.getD 1 0
theorem un_len (b : List Int) (n : Nat) : (unL b n).length = n := by simp [unL]
theorem un_snoc (b : List Int) (n : Nat) : unL b (n + 1) = unL b n ++ [bitU (b.getD (2 + n / 8) 0) (7 - n % 8)] := by simp [unL, List.range_succ]
theorem un_bits (b : List Int) (n : Nat) : (unL b n).all bitB = true := by
  rw [List.all_eq_true]
  intro x hx
  obtain ⟨i, _, rfl⟩ := List.mem_map.1 hx
  unfold bitU; split <;> rfl
def bI (b : Bool) : Int := if b then 1 else 0
theorem byte_back : ∀ a b c d e f g h : Bool, ∀ x, x = bI a * 128 + bI b * 64 + bI c * 32 + bI d * 16 + bI e * 8 + bI f * 4 + bI g * 2 + bI h →
    x / 2 ^ 7 % 2 = bI a ∧ x / 2 ^ 6 % 2 = bI b ∧ x / 2 ^ 5 % 2 = bI c ∧ x / 2 ^ 4 % 2 = bI d ∧ x / 2 ^ 3 % 2 = bI e ∧ x / 2 ^ 2 % 2 = bI f ∧ x / 2 ^ 1 % 2 = bI g ∧ x / 2 ^ 0 % 2 = bI h := by
  intro a b c d e f g h x hx
  have h7 : ∀ b : Bool, 0 ≤ bI b ∧ bI b ≤ 1 := by decide
  have := h7 a; have := h7 b; have := h7 c; have := h7 d; have := h7 e; have := h7 f; have := h7 g; have := h7 h
  refine ⟨?_, ?_, ?_, ?_, ?_, ?_, ?_, ?_⟩ <;> omega
def isB (l : List UInt8) (i : Nat) : Bool := decide (l[i]? = some 49)
theorem bt_is (l : List UInt8) (i : Nat) : btI l i = bI (isB l i) := by
  unfold btI isB bI
  by_cases h : l[i]? = some 49
  · rw [if_pos h, decide_eq_true h]; rfl
  · rw [if_neg h, decide_eq_false h]; rfl
theorem byte_bit (l : List UInt8) (k j : Nat) (hj : j < 8) : byteI l k / 2 ^ (7 - j) % 2 = btI l (8 * k + j) := by
  have h := byte_back (isB l (8 * k)) (isB l (8 * k + 1)) (isB l (8 * k + 2)) (isB l (8 * k + 3)) (isB l (8 * k + 4)) (isB l (8 * k + 5)) (isB l (8 * k + 6)) (isB l (8 * k + 7)) (byteI l k) (by simp only [byteI, bt_is])
  simp only [← bt_is] at h
  rcases (show j = 0 ∨ j = 1 ∨ j = 2 ∨ j = 3 ∨ j = 4 ∨ j = 5 ∨ j = 6 ∨ j = 7 by omega) with rfl | rfl | rfl | rfl | rfl | rfl | rfl | rfl
  · exact h.1
  · exact h.2.1
  · exact h.2.2.1
  · exact h.2.2.2.1
  · exact h.2.2.2.2.1
  · exact h.2.2.2.2.2.1
  · exact h.2.2.2.2.2.2.1
  · exact h.2.2.2.2.2.2.2
theorem pk_back {l : List UInt8} (_hl : l.length ≤ 1000) (hb : l.all bitB = true) : cntI (pkI l) = l.length ∧ unL (pkI l) l.length = l := by
  refine ⟨by simp [cntI, pkI]; omega, ?_⟩
  apply List.ext_getElem?
  intro i
  rcases Nat.lt_or_ge i l.length with h | h
  · rw [unL, List.getElem?_map, List.getElem?_range h]
    obtain ⟨x, hx⟩ := getElem?_of_lt h
    rw [hx]
    have e1 : (pkI l).getD (2 + i / 8) 0 = byteI l (i / 8) := by
      rw [List.getD_eq_getElem?_getD, pkI, show 2 + i / 8 = (i / 8 + 1) + 1 by omega, List.getElem?_cons_succ, List.getElem?_cons_succ, pbI, List.getElem?_map, List.getElem?_range (by omega)]; rfl
    have e2 := byte_bit l (i / 8) (i % 8) (by omega)
    rw [show 8 * (i / 8) + i % 8 = i by omega] at e2
    show some (bitU ((pkI l).getD (2 + i / 8) 0) (7 - i % 8)) = some x
    rw [e1, bitU, e2, btI, hx]
    rw [List.all_eq_true] at hb
    have h3 := hb x (List.mem_of_getElem? hx)
    simp only [bitB, Bool.or_eq_true, beq_iff_eq] at h3
    rcases h3 with rfl | rfl <;> rfl
  · rw [List.getElem?_eq_none h, List.getElem?_eq_none (by rw [un_len]; exact h)]
/-- What Unpack answers. -/
def unB (b : List Int) : Bool := decide (2 ≤ b.length) && (decide (cntI b ≤ 1000) && decide (pkI (unL b (cntI b).toNat) = b))
def unE (b : List Int) : Int := if unB b then 0 else 3
def unT (b : List Int) : List UInt8 := if unB b then unL b (cntI b).toNat else []
theorem un_ok {b : List Int} (h1 : 2 ≤ b.length) (h2 : cntI b ≤ 1000) (h3 : pkI (unL b (cntI b).toNat) = b) : unE b = 0 ∧ unT b = unL b (cntI b).toNat := by
  have : unB b = true := by rw [unB, decide_eq_true h1, decide_eq_true h2, decide_eq_true h3]; rfl
  rw [unE, unT, if_pos this, if_pos this]; exact ⟨rfl, rfl⟩
theorem un_no {b : List Int} (h : unB b = false) : unE b = 3 ∧ unT b = [] := by rw [unE, unT, h]; exact ⟨rfl, rfl⟩
theorem un_few {b : List Int} (h : ¬ 2 ≤ b.length) : unE b = 3 ∧ unT b = [] := un_no (by rw [unB, decide_eq_false h]; rfl)
theorem un_many {b : List Int} (h : ¬ cntI b ≤ 1000) : unE b = 3 ∧ unT b = [] := un_no (by rw [unB, decide_eq_false h, Bool.false_and, Bool.and_false])
theorem un_other {b : List Int} (h : pkI (unL b (cntI b).toNat) ≠ b) : unE b = 3 ∧ unT b = [] := un_no (by rw [unB, decide_eq_false h, Bool.and_false, Bool.and_false])
theorem un_size {b : List Int} (h2 : b.length ≠ 2 + ((cntI b).toNat + 7) / 8) : unE b = 3 ∧ unT b = [] :=
  un_other (by intro he; have := congrArg List.length he; rw [pk_len, un_len] at this; omega)
def pcE (t : ByteArray) : Int := if vbB t then 0 else 31
def pcL (t : ByteArray) : List Int := if vbB t then pkI t.data.toList else []
theorem un_pack {l : List UInt8} (hl : l.length ≤ 1000) (hb : l.all bitB = true) : unE (pkI l) = 0 ∧ unT (pkI l) = l := by
  obtain ⟨h1, h2⟩ := pk_back hl hb
  have e : (cntI (pkI l)).toNat = l.length := by rw [h1]; rfl
  obtain ⟨a, b⟩ := un_ok (b := pkI l) (by rw [pk_len]; omega) (by rw [h1]; omega) (by rw [e, h2])
  exact ⟨a, by rw [b, e, h2]⟩
theorem un_again {b : List Int} (h : unE b = 0) : vbB ⟨(unT b).toArray⟩ = true ∧ pkI (unT b) = b := by
  cases hu : unB b with
  | false => rw [(un_no hu).1] at h; cases h
  | true =>
    have e : unT b = unL b (cntI b).toNat := by rw [unT, if_pos hu]
    simp only [unB, Bool.and_eq_true, decide_eq_true_eq] at hu
    rw [e]
    exact ⟨bits_of (by rw [un_len]; omega) (un_bits _ _), hu.2.2⟩

/-- A slice of bytes that reads as the list. -/
def Bts (w : World) (A : Option Addr) (zs : List Int) : Prop := Reads w w.heap.size 1 A zs.length (zs.map (Value.int .u8))
theorem Bts.below {w w' : World} {A : Option Addr} {zs : List Int} (h : Bts w A zs) (hb : Below w.heap.size w w') : Bts w' A zs :=
  (Reads.below h hb).more hb.size
theorem Bts.drew {w : World} {A : Option Addr} {zs : List Int} (h : Bts w A zs) : Bts w.drew A zs := h
/-- The address of a list that is not empty, written out. -/
theorem Bts.open_ {w : World} {A : Option Addr} {zs : List Int} (h : Bts w A zs) (hn : 0 < zs.length) :
    ∃ b o, A = some ⟨b, o, none⟩ ∧ b < w.heap.size ∧ ∀ (k : Nat) (z : Int), zs[k]? = some z → w.cell? ⟨b, o + k, none⟩ = some (.int .u8 z) := by
  obtain ⟨ad, u, e, hb, _, hc⟩ := Reads.at_ h hn
  obtain ⟨b, o, s⟩ := ad
  have hs : s = none := by simpa [Addr.add] using World.cell?_spot hc
  subst hs
  refine ⟨b, o, e, hb, fun k z hz => ?_⟩
  obtain ⟨ad', e', _, hall⟩ := h.2 hn
  rw [e] at e'
  obtain rfl := Option.some.inj e'
  rw [← add_mk]
  exact hall k _ (by rw [List.getElem?_map, hz]; rfl)
/-- A slice of bytes as a call hands it back. -/
structure OutB (w : World) (A : Option Addr) (c : Nat) (zs : List Int) : Prop where
  bts : Bts w A zs
  le : zs.length ≤ c
  cap : c ≤ maxLen
theorem OutB.nil_ {w : World} {A : Option Addr} : OutB w A 0 [] := ⟨Reads.none_, Nat.le_refl _, Nat.zero_le _⟩
theorem OutB.below {w w' : World} {A : Option Addr} {c : Nat} {zs : List Int} (h : OutB w A c zs) (hb : Below w.heap.size w w') : OutB w' A c zs := ⟨h.bts.below hb, h.le, h.cap⟩
theorem own_bts {w : World} {base n : Nat} {v : Value} {xs : List Int} (h : w.ownsRow base 5 1 v n (xs.map (Value.int .u8))) :
    ∃ A c, v = .slice A xs.length c ∧ OutB w A c xs := by
  have hl : xs.length = n := by have := h.1; simpa using this
  subst hl
  rcases h.2 with ⟨rfl, h0⟩ | ⟨g, cap, cur, rfl, _, _, h1, h2, _⟩
  · have : xs = [] := List.eq_nil_of_length_eq_zero h0
    subst this
    exact ⟨none, 0, rfl, OutB.nil_⟩
  · exact ⟨_, cap, rfl, Reads.of_own h, h1, h2⟩
theorem row_fullB {w : World} {base g n : Nat} {e : TypeId} {xs : List Value} (hh : w.heap[g]? = some (.cells xs.toArray e (0, 0))) (hb : base ≤ g) (hl : xs.length = n) (hm : n ≤ maxLen) : w.ownsRow base e 1 (.slice (some ⟨g, 0, none⟩) n n) n xs :=
  ⟨by rw [hl, Nat.mul_one], .inr ⟨g, n, xs.toArray, rfl, hb, hh, Nat.le_refl _, hm, by simp [hl], by simp [← hl]⟩⟩

section
variable {ops : Array Oper} {rest : List Oper} {o : Oper} {a : Act} {Q : Exit → Act → World → Prop}
theorem wp_app_byte (w : World) (hgd : o.guard = none) (s x : Operand)
    (ho : o.op = .call { callee := .builtin .append, args := #[s, x], argTypes := #[43, 43] })
    (base : Nat) (v : Value) (n : Nat) (xs : List Int) (z : Int) (hs : a.eval s = v) (hown : w.ownsRow base 5 1 v n (xs.map (Value.int .u8)))
    (hx : a.eval x = .slice (some ⟨w.heap.size, 0, none⟩) 1 1) (hn : n ≤ 1000000) (hbase : base ≤ w.heap.size)
    (h : ∀ v' w', w'.ownsRow base 5 1 v' (n + 1) ((xs ++ [z]).map (Value.int .u8)) → Below base w w' → wpList Tryd.prog ops Q rest (a.put o.dst v') w') :
    wpList Tryd.prog ops Q (o :: rest) a (w.alloc (.cells #[.int .u8 z] 5)) := by
  obtain ⟨i0, hi0, hz0, hz1, hz2⟩ := info_parts byte_info
  refine wp_app w hgd s x 43 ho base 5 i0 (.int .u8 0) 1 1 Tryd.underlying43 hi0 hz0 hz1 hz2 rfl (by decide) (by decide) v n _ [.int .u8 z] hs hown hx rfl ?_ hn hbase ?_
  · intro u hu; simp at hu; subst hu; rfl
  · intro v' w' h1 h2
    exact h v' w' (by simpa using h1) h2
end

theorem or_all : ∀ r, r < 8 → ∀ x, x < 256 → x % 2 ^ (8 - r) = 0 → bits .or .u8 ((x : Nat) : Int) (((128 / 2 ^ r : Nat) : Nat) : Int) = ((x + 2 ^ (7 - r) : Nat) : Int) := by decide +kernel

/-- The bytes behind so many bits. -/
def pkT (l : List UInt8) (n m : Nat) : List Int := ((n : Int) / 256) :: ((n : Int) % 256) :: pbI (l.take m)

theorem or_int {r x : Nat} (hr : r < 8) (hx : x < 256) (h : x % 2 ^ (8 - r) = 0) : bits .or .u8 (x : Int) (128 / 2 ^ r) = (x : Int) + 2 ^ (7 - r) := by
  have := or_all r hr x hx h
  rw [show ((128 / 2 ^ r : Nat) : Int) = 128 / 2 ^ r by simp] at this
  rw [this]; simp
theorem or_zero : bits .or .u8 0 128 = 128 := by decide +kernel
theorem pkT_len {l : List UInt8} {n m : Nat} (hm : m ≤ l.length) : (pkT l n m).length = 2 + (m + 7) / 8 := by
  rw [pkT, List.length_cons, List.length_cons, pb_len, List.length_take, Nat.min_eq_left hm]; omega
theorem pkT_set {l : List UInt8} {n m q : Nat} {z : Int} (h : pbI (l.take (m + 1)) = (pbI (l.take m)).set q z) : ((pkT l n m).map (Value.int .u8)).set (2 + q) (.int .u8 z) = (pkT l n (m + 1)).map (Value.int .u8) := by
  rw [← List.map_set, pkT, show 2 + q = q + 1 + 1 by omega, List.set_cons_succ, List.set_cons_succ, ← h]; rfl
theorem pkT_new {l : List UInt8} {n m : Nat} {z : Int} (h : pbI (l.take (m + 1)) = pbI (l.take m) ++ [z]) : pkT l n m ++ [z] = pkT l n (m + 1) := by
  rw [pkT, pkT, h]; rfl
theorem set_last {xs : List Int} {n : Nat} (hn : xs.length = n) (z : Int) : ((xs ++ [0]).map (Value.int .u8)).set n (.int .u8 z) = (xs ++ [z]).map (Value.int .u8) := by
  subst hn
  rw [List.map_append, List.map_append, List.set_append_right _ _ (by simp)]
  simp
theorem pb_same {l : List UInt8} {m q r : Nat} (hl : m < l.length) (hm : m = 8 * q + r) (hr : r < 8) (h0 : 0 < r) (hb : btI l m = 0) : pbI (l.take (m + 1)) = pbI (l.take m) := by
  rw [pb_more hl hm hr h0, hb, Int.zero_mul, Int.add_zero]
  apply List.ext_getElem?
  intro k
  rw [List.getElem?_set]
  by_cases hk : q = k
  · subst hk
    have h1 : (l.take m).length = m := by rw [List.length_take]; omega
    rw [if_pos rfl, if_pos (by rw [pb_len, h1]; omega), pb_take_get (by omega) (by omega)]
  · rw [if_neg hk]
theorem bt_one {t : ByteArray} {m : Nat} (hm : m < t.size) (h : t[m].toNat = 49) : btI t.data.toList m = 1 := by
  rw [btI, byte_at hm, if_pos]
  rw [← UInt8.toNat_inj.1 (show t[m].toNat = (49 : UInt8).toNat from h)]
theorem bt_zero {t : ByteArray} {m : Nat} (hm : m < t.size) (h : t[m].toNat ≠ 49) : btI t.data.toList m = 0 := by
  rw [btI, byte_at hm, if_neg]
  intro he
  exact h (by rw [Option.some.inj he]; rfl)

set_option maxRecDepth 100000 in
set_option maxHeartbeats 2000000 in
theorem wavepack_any (t : ByteArray) (w : World) (ht : t.size ≤ 1000) :
    Calls Tryd.prog 91 #[.string t] w fun e w' => ∃ (A : Option Addr) (c : Nat) (zs : List Int), e = .returned (.slice A zs.length c) ∧ OutB w' A c zs ∧ Below w.heap.size w w' ∧ Hid (zs = pkI t.data.toList) := by
  go_enter Tryd.func91, Tryd.ntmps91
  go_wp2
  have hB0 : Below w.heap.size w (w.alloc (.cells #[.int .u8 ((t.size : Int) / 256), .int .u8 ((t.size : Int) % 256)] 5)) := (Below.refl _ _).alloc (Nat.le_refl _) _
  have hown0 : (w.alloc (.cells #[.int .u8 ((t.size : Int) / 256), .int .u8 ((t.size : Int) % 256)] 5)).ownsRow w.heap.size 5 1 (.slice (some ⟨w.heap.size, 0, none⟩) 2 2) 2 ((pkT t.data.toList t.size 0).map (Value.int .u8)) := by
    rw [show pkT t.data.toList t.size 0 = [(t.size : Int) / 256, (t.size : Int) % 256] by simp [pkT, pbI]]
    exact row_fullB (heap_alloc_new w _) (Nat.le_refl _) rfl (by unfold maxLen; omega)
  generalize w.alloc (.cells #[.int .u8 ((t.size : Int) / 256), .int .u8 ((t.size : Int) % 256)] 5) = W0 at hB0 hown0 ⊢
  go_loopw [3, 15] (fun v i wr => ∃ m : Nat, m ≤ t.size ∧ i = .int .i64 m ∧ ∃ (g cap n : Nat), v = .slice (some ⟨g, 0, none⟩) n cap ∧ (2 ≤ n ∧ n ≤ 200) ∧ wr.ownsRow w.heap.size 5 1 (.slice (some ⟨g, 0, none⟩) n cap) n ((pkT t.data.toList t.size m).map (Value.int .u8)) ∧ Below w.heap.size w wr ∧ Hid (n = 2 + (m + 7) / 8)) (fun _ i _ => t.size - (intOf i).toNat)
  case atStart => exact ⟨0, Nat.zero_le _, rfl, w.heap.size, 2, 2, rfl, by omega, hown0, hB0, rfl⟩
  case round =>
    clear hown0 hB0
    obtain ⟨m, hm, rfl, g, cap, n, rfl, ⟨hn1, hn2⟩, hown, hB, HN⟩ := hrel
    have hsz := hB.size
    have hlen : t.data.toList.length = t.size := by simp
    have hown_g : w.heap.size ≤ g := (own_lt hown rfl).1
    by_cases hlt : m < t.size
    · obtain ⟨q, r, hmr, hr⟩ : ∃ q r, m = 8 * q + r ∧ r < 8 := ⟨m / 8, m % 8, by omega, by omega⟩
      have HB := Lib.hid (byte_at hlt)
      have HMR := Lib.hid hmr
      have e8 : (m : Int) % 8 = (r : Int) := by omega
      by_cases h0 : r = 0
      · subst h0
        have s0 : (((0 : Nat) : Int) == 0) = true := rfl
        have hn := HN.out
        have s1 : ((n + 1 : Nat) : Int) - 1 = (n : Int) := by omega
        have s2 : IntKind.i64.wrap ((n : Int) + 1 - 1) = (n : Int) := by rw [show (n : Int) + 1 - 1 = (n : Int) by omega]; exact IntWalk.i64_in _ (by omega)
        have hn' : n + 1 = 2 + (m + 1 + 7) / 8 := by omega
        have HNN := Lib.hid hn'
        have HPN := Lib.hid (pb_new (l := t.data.toList) (m := m) (q := q) (by omega) (by omega))
        have HLN : Hid ((pkT t.data.toList t.size m).length = n) := Lib.hid (by rw [pkT_len (by omega)]; omega)
        clear hmr hn hn'
        by_cases h1 : t[m].toNat = 49
        · have u1 : ((t[m].toNat : Int) == 49) = true := by rw [h1]; rfl
          have HBT := Lib.hid (bt_one hlt h1)
          go_wp2_with (at_builtin; refine wp_app_byte _ rfl (.tmp 21) (.tmp 22) rfl w.heap.size _ n _ 0 rfl hown rfl (by omega) hsz ?_; intro v2 w2 hown2 hB2; obtain ⟨A2, c2, e2, hO2⟩ := own_bts hown2; have hl2 : (pkT t.data.toList t.size m ++ [0]).length = n + 1 := (by rw [List.length_append, HLN.out]; rfl); rw [hl2] at e2; subst e2)
          obtain ⟨g2, rfl⟩ : ∃ g2, A2 = some ⟨g2, 0, none⟩ := by
            rcases hown2.2 with ⟨hv, h0⟩ | ⟨g2, _, _, hv, _⟩
            · omega
            · injection hv with hv; exact ⟨g2, hv⟩
          have c3 := hown2.cellAt n (by omega)
          rw [List.getElem?_map, List.getElem?_append_right (by rw [HLN.out]; exact Nat.le_refl _), HLN.out, Nat.sub_self] at c3
          have c4 : w2.cell? ⟨g2, n, none⟩ = some (.int .u8 0) := c3
          have z2 := hown2.frozenAt n
          have hg2 : w.heap.size ≤ g2 := (own_lt hown2 rfl).1
          have HO := Lib.hid hown2
          clear hown hown2 hO2 c3
          go_region
          go_wp2
          go_roundw
          case rel => exact ⟨m + 1, by omega, by go_num, g2, c2, n + 1, rfl, ⟨by omega, by have := HNN.out; omega⟩, by
            have hpn := HPN.out
            rw [HBT.out, Int.one_mul] at hpn
            rw [← pkT_new hpn, ← set_last HLN.out 128, or_zero]
            exact (World.ownsRow.stored HO.out n _).1, ((hB.trans hB2).setCell hg2 _).drew, HNN⟩
          case measure => simp [intOf]; omega
        · have u1 : ((t[m].toNat : Int) == 49) = false := beq_eq_false_iff_ne.2 (by omega)
          have HBT := Lib.hid (bt_zero hlt h1)
          go_wp2_with (at_builtin; refine wp_app_byte _ rfl (.tmp 21) (.tmp 22) rfl w.heap.size _ n _ 0 rfl hown rfl (by omega) hsz ?_; intro v2 w2 hown2 hB2; obtain ⟨A2, c2, e2, hO2⟩ := own_bts hown2; have hl2 : (pkT t.data.toList t.size m ++ [0]).length = n + 1 := (by rw [List.length_append, HLN.out]; rfl); rw [hl2] at e2; subst e2)
          obtain ⟨g2, rfl⟩ : ∃ g2, A2 = some ⟨g2, 0, none⟩ := by
            rcases hown2.2 with ⟨hv, h0⟩ | ⟨g2, _, _, hv, _⟩
            · omega
            · injection hv with hv; exact ⟨g2, hv⟩
          go_roundw
          case rel => exact ⟨m + 1, by omega, by go_num, g2, c2, n + 1, rfl, ⟨by omega, by have := HNN.out; omega⟩, by
            have hpn := HPN.out
            rw [HBT.out, Int.zero_mul] at hpn
            rw [← pkT_new hpn]
            exact hown2, hB.trans hB2, HNN⟩
          case measure => simp [intOf]; omega
      · have s0 : ((r : Int) == 0) = false := beq_eq_false_iff_ne.2 (by omega)
        have hn := HN.out
        obtain ⟨j, hj⟩ : ∃ j, n - 1 = j := ⟨_, rfl⟩
        have hjq : j = 2 + q := by omega
        have s1 : (n : Int) - 1 = (j : Int) := by omega
        have s2 : IntKind.i64.wrap ((n : Int) - 1) = (j : Int) := by rw [s1]; exact IntWalk.i64_in _ (by omega)
        have hget : (pkT t.data.toList t.size m)[j]? = some (byteI (t.data.toList.take m) q) := by
          rw [hjq, show 2 + q = q + 1 + 1 by omega, pkT, List.getElem?_cons_succ, List.getElem?_cons_succ, pb_take_get (by omega) (by omega)]
        have c2 := hown.cellAt j (by omega)
        rw [List.getElem?_map, hget] at c2
        have z2 := hown.frozenAt j
        have hst := byte_step (l := t.data.toList) hmr hr
        have hbd := byte_bd (t.data.toList.take m) q
        have HPM := Lib.hid (pb_more (l := t.data.toList) (by omega) hmr hr (by omega))
        have HPS := Lib.hid (fun h => pb_same (l := t.data.toList) (by omega) hmr hr (by omega) h)
        have hn' : n = 2 + (m + 1 + 7) / 8 := by omega
        by_cases h1 : t[m].toNat = 49
        · have u1 : ((t[m].toNat : Int) == 49) = true := by rw [h1]; rfl
          have HBT := Lib.hid (bt_one hlt h1)
          obtain ⟨x, hx⟩ : ∃ x : Nat, byteI (t.data.toList.take m) q = (x : Int) := ⟨(byteI (t.data.toList.take m) q).toNat, by omega⟩
          rw [hx] at c2 hbd hst
          have HX := Lib.hid hx
          have HOR := Lib.hid (or_int (r := r) (x := x) hr (by omega) (by have := hst.2; exact_mod_cast this))
          have jn : j < n := by omega
          have HJQ := Lib.hid hjq
          have HNN := Lib.hid hn'
          have HO := Lib.hid hown
          have r7 : r ≤ 7 := by omega
          have jc : (Option.map (Value.int IntKind.u8) (some (x : Int))) = some (.int .u8 (x : Int)) := rfl
          rw [jc] at c2
          clear hmr hn hjq hget hst hx hn' hown hbd jc
          go_wp2
          go_region
          go_wp2
          go_roundw
          case rel => exact ⟨m + 1, by omega, by go_num, g, cap, n, rfl, ⟨hn1, hn2⟩, by
            rw [← pkT_set HPM.out, HOR.out, HBT.out, HX.out, Int.one_mul, ← HJQ.out]
            exact (World.ownsRow.stored HO.out j _).1, (hB.setCell hown_g _).drew, HNN⟩
          case measure => simp [intOf]; omega
        · have u1 : ((t[m].toNat : Int) == 49) = false := beq_eq_false_iff_ne.2 (by omega)
          have HBT := Lib.hid (bt_zero hlt h1)
          have HNN := Lib.hid hn'
          have HO := Lib.hid hown
          clear hmr hn hjq hget hst hn' hown hbd c2 z2 s1 s2
          go_wp2
          go_roundw
          case rel => exact ⟨m + 1, by omega, by go_num, g, cap, n, rfl, ⟨hn1, hn2⟩, by
            have hpk : pkT t.data.toList t.size (m + 1) = pkT t.data.toList t.size m := by rw [pkT, HPS.out HBT.out]; rfl
            rw [hpk]; exact HO.out, hB, HNN⟩
          case measure => simp [intOf]; omega
    · obtain rfl : m = t.size := by omega
      obtain ⟨A, c, e1, hO⟩ := own_bts hown
      have hl2 : (pkT t.data.toList t.size t.size).length = n := by rw [pkT_len (by omega)]; exact HN.out.symm
      have HK : Hid (pkT t.data.toList t.size t.size = pkI t.data.toList) := Lib.hid (by
        rw [pkT, List.take_of_length_le (by omega), pkI, hlen]; simp)
      rw [hl2] at e1
      cases e1
      have HO := Lib.hid hO
      have HL := Lib.hid hl2
      clear hown hO hl2
      go_wp2
      go_ret
      exact ⟨_, _, pkT t.data.toList t.size t.size, by rw [HL.out]; rfl, HO.out, hB, HK⟩

theorem Bts.get {w : World} {A : Option Addr} {zs : List Int} (h : Bts w A zs) {k : Nat} (hk : k < zs.length) :
    ∃ ad z, A = some ad ∧ ad.block < w.heap.size ∧ Hid (zs[k]? = some z) ∧ w.cell? (ad.add k) = some (.int .u8 z) := by
  obtain ⟨ad, u, e, hb, hx, hc⟩ := Reads.at_ h hk
  rw [List.getElem?_map, List.getElem?_eq_getElem hk] at hx
  simp only [Option.map_some, Option.some.injEq] at hx
  exact ⟨ad, zs[k], e, hb, List.getElem?_eq_getElem hk, by rw [hc, ← hx]⟩
set_option maxRecDepth 100000 in
theorem equalB_any (xs ys : List Int) (A B : Option Addr) (c d : Nat) (w : World) (hA : Bts w A xs) (hB : Bts w B ys) (hl : xs.length ≤ maxLen) :
    Calls Tryd.prog 93 #[.slice A xs.length c, .slice B ys.length d] w fun e w' => e = .returned (.bool (decide (xs = ys))) ∧ ∃ n, w' = w.drewN n := by
  unfold maxLen at hl
  have HA := Lib.hid hA
  have HB := Lib.hid hB
  clear hA hB
  by_cases hlen : xs.length = ys.length
  · have HL := Lib.hid hlen
    have hn : (((xs.length : Int) != (ys.length : Int)) = false) := by rw [hlen]; simp
    have hle : xs.length ≤ ys.length := by omega
    clear hlen
    go_enter Tryd.func93, Tryd.ntmps93
    go_wp2
    go_loopw [13] (fun i wr => ∃ k m : Nat, k ≤ xs.length ∧ i = .int .i64 k ∧ wr = w.drewN m ∧ Hid (xs.take k = ys.take k)) (fun i _ => xs.length - (intOf i).toNat)
    case atStart => exact ⟨0, 0, Nat.zero_le _, rfl, rfl, rfl⟩
    case round =>
      obtain ⟨k, m, hk, rfl, rfl, ht⟩ := hrel
      by_cases hlt : k < xs.length
      · obtain ⟨ad, x, rfl, _, hx, c1⟩ := HA.out.get hlt
        obtain ⟨ad2, y, rfl, _, hy, c2⟩ := HB.out.get (show k < ys.length by omega)
        have hlt2 : k < ys.length := by omega
        by_cases h1 : x = y
        · subst h1
          go_wp2
          go_quiet (fail)
          go_wp2
          go_roundw
          case rel => exact ⟨k + 1, _, by omega, by go_num, (by first | rfl | exact World.drewN_drewN _ _ _), eq_next hx.out hy.out rfl ht.out⟩
          case measure => simp [intOf]; omega
        · have t1 : (x == y) = false := by simpa using h1
          have t2 : (x != y) = true := by simpa using h1
          go_wp2
          go_quiet (fail)
          go_wp2
          go_ret
          exact ⟨ret_bool (ne_at hx.out hy.out h1), _, (by first | rfl | exact World.drewN_drewN _ _ _)⟩
      · go_wp2
        go_ret
        exact ⟨ret_bool (eq_end HL.out (by omega) ht.out), _, rfl⟩
  · have hn : (((xs.length : Int) != (ys.length : Int)) = true) := by simp; omega
    go_enter Tryd.func93, Tryd.ntmps93
    go_wp2
    go_ret
    exact ⟨ret_bool (ne_len hlen), 0, rfl⟩


/-- What a call answers that returns bytes and an error. -/
def BytRes (E : Int) (ys : List Int) (e : Ending) (w w' : World) : Prop :=
  ∃ (A : Option Addr) (c : Nat) (zs : List Int) (F : Int), e = .returned (.tuple #[.slice A zs.length c, .int .i64 F]) ∧ OutB w' A c zs ∧ Below w.heap.size w w' ∧ Hid (zs = ys ∧ F = E)
theorem pc_no {t : ByteArray} (h : vbB t = false) : pcE t = 31 ∧ pcL t = [] := by simp [pcE, pcL, h]
theorem pc_ok {t : ByteArray} (h : vbB t = true) : pcE t = 0 ∧ pcL t = pkI t.data.toList := by simp [pcE, pcL, h]
set_option maxRecDepth 100000 in
theorem wavePack_any (t : ByteArray) (w : World) (ht : t.size ≤ maxLen) :
    Calls Tryd.prog 51 #[.string t] w fun e w' => BytRes (pcE t) (pcL t) e w w' := by
  cases hv : vbB t with
  | false =>
    have HV := Lib.hid hv
    clear hv
    go_enter Tryd.func51, Tryd.ntmps51
    go_wp2_with (go_at_call 26; refine (wavevb_any t _ ht).mono ?_; rintro e w1 ⟨rfl, rfl⟩; rw [HV.out])
    go_ret2
    exact ⟨none, 0, [], 31, rfl, OutB.nil_, Below.refl _ _, Lib.hid ⟨(pc_no HV.out).2.symm, (pc_no HV.out).1.symm⟩⟩
  | true =>
    have HV := Lib.hid hv
    have hs := (vb_parts hv).1
    clear hv
    go_enter Tryd.func51, Tryd.ntmps51
    go_wp2_with (first
      | (go_at_call 26; refine (wavevb_any t _ ht).mono ?_; rintro e w1 ⟨rfl, rfl⟩; rw [HV.out])
      | (go_at_call 91; refine (wavepack_any t _ hs).mono ?_; rintro e w2 ⟨A, c, zs, rfl, hO, hB, hz⟩))
    go_ret2
    exact ⟨A, c, zs, 0, rfl, hO, hB, Lib.hid ⟨hz.out.trans (pc_ok HV.out).2.symm, (pc_ok HV.out).1.symm⟩⟩

def Bys (b : List Int) : Prop := ∀ z ∈ b, 0 ≤ z ∧ z ≤ 255
/-- The first of so many bytes are written. -/
def genK (f : Nat → UInt8) (n i : Nat) : List UInt8 := (List.range n).map fun j => if j < i then f j else 0
theorem genK_len (f : Nat → UInt8) (n i : Nat) : (genK f n i).length = n := by simp [genK]
theorem genK_end (f : Nat → UInt8) (n : Nat) : genK f n n = (List.range n).map f := by
  unfold genK
  apply List.map_congr_left
  intro j hj
  rw [if_pos (List.mem_range.1 hj)]
theorem genK_next {f : Nat → UInt8} {n i : Nat} (h : i < n) : (Lib.byteCells (genK f n i)).set i (.int .u8 (f i).toNat) = Lib.byteCells (genK f n (i + 1)) := by
  unfold Lib.byteCells
  rw [← List.map_set]
  congr 1
  apply List.ext_getElem?
  intro j
  by_cases hj : j < n
  · by_cases he : j = i
    · subst he
      rw [List.getElem?_set_self (by rw [genK_len]; exact h)]
      simp [genK, h]
    · rw [List.getElem?_set_ne (by omega)]
      simp only [genK, List.getElem?_map, List.getElem?_range hj, Option.map_some]
      congr 1
      by_cases h2 : j < i
      · rw [if_pos h2, if_pos (by omega)]
      · rw [if_neg h2, if_neg (by omega)]
  · rw [List.getElem?_eq_none (by rw [List.length_set, genK_len]; omega), List.getElem?_eq_none (by rw [genK_len]; omega)]
theorem made_gen (f : Nat → UInt8) (n : Nat) : (madeCells (Value.int .u8 0).cells (n * 1)).toList = Lib.byteCells (genK f n 0) := by
  have e : genK f n 0 = List.replicate n 0 := by
    rw [List.eq_replicate_iff]; simp [genK]
  rw [e, Lib.byteCells, List.map_replicate, List.eq_replicate_iff]
  simp [madeCells, Value.cells, Nat.mod_one]
def ubF (b : List Int) (i : Nat) : UInt8 := bitU (b.getD (2 + i / 8) 0) (7 - i % 8)
theorem ub_end (b : List Int) (n : Nat) : genK (ubF b) n n = unL b n := genK_end _ _
theorem andB_all : ∀ y, y < 256 → bits .and .u8 ((y : Nat) : Int) 1 = ((y % 2 : Nat) : Int) := by decide +kernel
theorem bit_valB {x : Int} (hx : 0 ≤ x ∧ x ≤ 255) (j : Nat) : (48 + bits .and .u8 (x / 2 ^ j) 1) % 256 = ((bitU x j).toNat : Int) := by
  have h0 : 0 ≤ x / 2 ^ j := Int.ediv_nonneg hx.1 (by have : (0 : Int) < 2 ^ j := Int.pow_pos (by omega); omega)
  have h1 : x / 2 ^ j ≤ x := Int.ediv_le_self _ hx.1
  obtain ⟨y, hy⟩ : ∃ y : Nat, x / 2 ^ j = (y : Int) := ⟨(x / 2 ^ j).toNat, by omega⟩
  rw [bitU, hy, andB_all y (by omega)]
  have h := Nat.mod_two_eq_zero_or_one y
  rcases h with h | h
  · rw [h, if_neg (by omega)]; rfl
  · rw [h, if_pos (by omega)]; rfl
theorem or_cnt_all : ∀ x, x < 256 → ∀ y, y < 256 → (256 * x ||| y) = 256 * x + y := by decide +kernel
theorem or_cnt {x y : Int} (hx : 0 ≤ x ∧ x ≤ 255) (hy : 0 ≤ y ∧ y ≤ 255) : bits .or .i64 (x * 256) y = x * 256 + y := by
  obtain ⟨a, rfl⟩ : ∃ a : Nat, x = (a : Int) := ⟨x.toNat, by omega⟩
  obtain ⟨b, rfl⟩ : ∃ b : Nat, y = (b : Int) := ⟨y.toNat, by omega⟩
  have h := or_cnt_all a (by omega) b (by omega)
  show IntKind.i64.wrap ((BitVec.ofInt 64 ((a : Int) * 256) ||| BitVec.ofInt 64 (b : Int)).toNat : Int) = _
  rw [show (a : Int) * 256 = ((256 * a : Nat) : Int) by omega, BitVec.toNat_or, BitVec.ofInt_natCast, BitVec.ofInt_natCast, BitVec.toNat_ofNat, BitVec.toNat_ofNat, Nat.mod_eq_of_lt (by omega), Nat.mod_eq_of_lt (by omega), h, IntKind.wrap_i64]
  omega
theorem by_at {b : List Int} (h : Bys b) (k : Nat) : 0 ≤ b.getD k 0 ∧ b.getD k 0 ≤ 255 := by
  rw [List.getD_eq_getElem?_getD]
  cases hk : b[k]? with
  | none => exact ⟨Int.le_refl 0, by decide⟩
  | some z => exact h z (List.mem_of_getElem? hk)
theorem getD_at {b : List Int} {k : Nat} (h : k < b.length) : b[k]? = some (b.getD k 0) := by
  rw [List.getD_eq_getElem?_getD, List.getElem?_eq_getElem h]; rfl


set_option maxRecDepth 100000 in
set_option maxHeartbeats 2000000 in
theorem waveUnpack_any (b : List Int) (A : Option Addr) (c : Nat) (w : World) (h : Bts w A b) (hl : b.length ≤ 1000) (hb : Bys b) :
    Calls Tryd.prog 53 #[.slice A b.length c] w fun e w' => TextRes (unE b) (unT b) e w w' := by
  have H := Lib.hid h
  clear h
  by_cases h2 : b.length < 2
  · have u0 : decide ((b.length : Int) < 2) = true := decide_eq_true (by omega)
    have HR := Lib.hid (un_few (b := b) (by omega))
    go_enter Tryd.func53, Tryd.ntmps53
    go_wp2
    go_ret2
    exact ⟨⟨#[]⟩, 3, rfl, Below.refl _ _, Lib.hid ⟨by rw [HR.out.2], HR.out.1.symm⟩⟩
  · have u0 : decide ((b.length : Int) < 2) = false := decide_eq_false (by omega)
    obtain ⟨bl, off, rfl, hbk, hc⟩ := H.out.open_ (by omega)
    have k0 : w.cell? ⟨bl, off, none⟩ = some (.int .u8 (b.getD 0 0)) := hc 0 _ (getD_at (by omega))
    have k1 : w.cell? ⟨bl, off + 1, none⟩ = some (.int .u8 (b.getD 1 0)) := hc 1 _ (getD_at (by omega))
    have i0 : (0 : Int) < (b.length : Int) := by omega
    have i1 : (1 : Int) < (b.length : Int) := by omega
    have b0 := by_at hb 0
    have b1 := by_at hb 1
    have HC := Lib.hid hc
    have hor := or_cnt b0 b1
    obtain ⟨n, hn⟩ : ∃ n : Nat, cntI b = (n : Int) := ⟨(cntI b).toNat, by unfold cntI; omega⟩
    have hn2 : b.getD 0 0 * 256 + b.getD 1 0 = (n : Int) := hn
    rw [hn2] at hor
    have hnb : n ≤ 65535 := by omega
    have HCN := Lib.hid hn
    have HBY := Lib.hid hb
    generalize hx : b.getD 0 0 = x at k0 b0 hor hn2
    generalize hy : b.getD 1 0 = y at k1 b1 hor hn2
    have HOR := Lib.hid hor
    clear hc hx hy hb hn hn2 hor
    go_enter Tryd.func53, Tryd.ntmps53
    go_wp2
    go_quiet (fail)
    rw [HOR.out]
    clear k0 k1 HOR b0 b1
    have hW0 : Below w.heap.size w (w.drewN nq) := below_drewN (Below.refl _ _) nq
    generalize w.drewN nq = W0 at hW0 ⊢
    have s1 : (b.length : Int) - 2 = ((b.length - 2 : Nat) : Int) := by omega
    by_cases h3 : 1000 < n
    · have u1 : decide (1000 < (n : Int)) = true := decide_eq_true (by omega)
      have HR := Lib.hid (un_many (b := b) (by rw [HCN.out]; omega))
      go_wp2
      go_ret2
      exact ⟨⟨#[]⟩, 3, rfl, hW0, Lib.hid ⟨by rw [HR.out.2], HR.out.1.symm⟩⟩
    · have u1 : decide (1000 < (n : Int)) = false := decide_eq_false (by omega)
      by_cases h4 : 8 * ((b.length : Int) - 2) < (n : Int)
      · have u2 : decide (8 * ((b.length : Int) - 2) < (n : Int)) = true := decide_eq_true h4
        have HR := Lib.hid (un_size (b := b) (by rw [HCN.out]; omega))
        have hl9 : 8 * ((b.length : Int) - 2) < 1001 := by omega
        go_wp2
        go_ret2
        exact ⟨⟨#[]⟩, 3, rfl, hW0, Lib.hid ⟨by rw [HR.out.2], HR.out.1.symm⟩⟩
      · have u2 : decide (8 * ((b.length : Int) - 2) < (n : Int)) = false := decide_eq_false h4
        have hlb : n ≤ 8 * (b.length - 2) := by omega
        have hn1000 : n ≤ 1000 := by omega
        obtain ⟨j0, hj0, hz0, hz1, hz2⟩ := info_parts byte_info
        have HZ2 := Lib.hid hz2
        clear hz2
        go_wp2_with (at_make; refine wpList_make_full _ rfl _ _ 43 rfl W0.heap.size 5 j0 (.int .u8 0) 1 Tryd.underlying43 hj0 hz0 hz1 _ _ _ _ n rfl rfl rfl rfl (by rw [HZ2.out]; omega) (by unfold maxLen; omega) (Nat.le_refl _) ?_; intro w4 hown4 hg4)
        have hB4 : Below W0.heap.size W0 w4 := (Below.refl _ _).grown hg4 (Nat.le_refl _) (by simp)
        rw [made_gen (ubF b) n] at hown4
        have hbW : bl < W0.heap.size := Nat.lt_of_lt_of_le hbk hW0.size
        have HC0 := Lib.hid (fun (k : Nat) (z : Int) (hk : b[k]? = some z) => (hW0.cell (p := ⟨bl, off + k, none⟩) hbk).trans (HC.out k z hk))
        clear hg4 HZ2 hz0 hz1 hj0 h3 h4
        go_loopw [34] (fun i wr => ∃ m : Nat, m ≤ n ∧ i = .int .i64 m ∧ wr.ownsRow W0.heap.size 5 1 (.slice (some ⟨W0.heap.size, 0, none⟩) n n) n (Lib.byteCells (genK (ubF b) n m)) ∧ Below W0.heap.size W0 wr) (fun i _ => n - (intOf i).toNat)
        case atStart => exact ⟨0, Nat.zero_le _, rfl, hown4, hB4⟩
        case round =>
          clear hown4 hB4
          obtain ⟨m, hm, rfl, hown, hB⟩ := hrel
          by_cases hlt : m < n
          · obtain ⟨q, r, hmr, hr⟩ : ∃ q r, m = 8 * q + r ∧ r < 8 := ⟨m / 8, m % 8, by omega, by omega⟩
            obtain ⟨j, hj⟩ : ∃ j, 7 - r = j := ⟨_, rfl⟩
            have e8 : (m : Int) % 8 = (r : Int) := by omega
            have e9 : (m : Int) / 8 = (q : Int) := by omega
            have s3 : (7 : Int) - (r : Int) = (j : Int) := by omega
            have s4 : IntKind.i64.wrap ((7 : Int) - (r : Int)) = (j : Int) := by rw [s3]; exact IntWalk.i64_in _ (by omega)
            have hqb : 2 + q < b.length := by omega
            have f0 := (hB.cell (p := ⟨bl, off + (2 + q), none⟩) hbW).trans (HC0.out (2 + q) _ (getD_at hqb))
            have hxb := by_at HBY.out (2 + q)
            have HV0 := bit_valB hxb j
            have HF : Hid (bitU (b.getD (2 + q) 0) j = ubF b m) := Lib.hid (by rw [ubF, ← hj, show m / 8 = q by omega, show m % 8 = r by omega])
            have HV := Lib.hid HV0
            generalize b.getD (2 + q) 0 = x at f0 hxb HV HF
            have c2 := hown.cellAt m (by omega)
            obtain ⟨u, hu⟩ : ∃ u, (Lib.byteCells (genK (ubF b) n m))[m]? = some u := ⟨_, List.getElem?_eq_getElem (by rw [Lib.byteCells_length, genK_len]; exact hlt)⟩
            rw [hu] at c2
            have z2 := hown.frozenAt m
            have HNX := Lib.hid (genK_next (f := ubF b) hlt)
            have HO := Lib.hid hown
            have j7 : j ≤ 7 := by omega
            have q0 : (0 : Int) ≤ 2 + (q : Int) := by omega
            have q1 : 2 + (q : Int) < (b.length : Int) := by omega
            have q2 : (2 + (q : Int)).toNat = 2 + q := by omega
            clear hmr hu hown hj HV0 hqb
            go_wp2
            go_roundw
            case rel => exact ⟨m + 1, by omega, by go_num, by rw [HV.out, HF.out, ← HNX.out]; exact (World.ownsRow.stored HO.out m _).1, hB.setCell (Nat.le_refl _) _⟩
            case measure => simp [intOf]; omega
          · obtain rfl : m = n := by omega
            have hl0 := un_len b m
            have hcv : (convert 43 9 (.slice (some ⟨W0.heap.size, 0, none⟩) m m)).run Tryd.prog wr = .ok (.string ⟨(unL b m).toArray⟩) wr := by
              have := run_convert_bytes_back (P := Tryd.prog) wr 43 9 5 ⟨W0.heap.size, 0, none⟩ m (unL b m) Tryd.underlying43 Tryd.underlying5 Tryd.underlying9 (fun j hj => by
                have hc := hown.cellAt j (by omega)
                rw [ub_end] at hc
                rw [add_mk, Nat.zero_add, hc, Lib.byteCells, List.getElem?_map, List.getElem?_eq_getElem hj]; rfl)
              rwa [hl0] at this
            have hW1 := below_step hW0 hB
            have HU : Hid (unL b (cntI b).toNat = unL b m) := Lib.hid (by rw [HCN.out]; rfl)
            have HPK := Lib.hid (fun W' => wavepack_any ⟨(unL b m).toArray⟩ W' (by rw [sv_size, hl0]; omega))
            obtain ⟨tx, htx⟩ : ∃ tx : ByteArray, (⟨(unL b m).toArray⟩ : ByteArray) = tx := ⟨_, rfl⟩
            have HTX : Hid (tx.data.toList = unL b m) := Lib.hid (by rw [← htx])
            have HTS := Lib.hid htx
            rw [htx] at hcv HPK
            clear htx hown hl0
            by_cases hp : pkI (unL b m) = b
            · have HP := Lib.hid hp
              have HR := Lib.hid (un_ok (b := b) (by omega) (by rw [HCN.out]; omega) (by rw [HU.out]; exact hp))
              clear hp
              go_wp2_with (first
                | (go_at_call 91; refine (HPK.out _).mono ?_; rintro e w5 ⟨A5, c5, zs, rfl, hO5, hB5, hz⟩; have hW5 := below_step hW1 hB5; have hzb : Hid (zs = b) := Lib.hid (by rw [hz.out, HTX.out, HP.out]))
                | (go_at_call 93; refine (equalB_any zs b _ _ _ _ _ hO5.bts (H.out.below hW5) (Nat.le_trans hO5.le hO5.cap)).mono ?_; rintro e w6 ⟨rfl, n6, rfl⟩; rw [decide_eq_true hzb.out]))
              go_ret2
              exact ⟨tx, 0, rfl, below_drewN hW5 n6, Lib.hid ⟨by rw [HR.out.2, HU.out]; exact HTS.out.symm, HR.out.1.symm⟩⟩
            · have HP := Lib.hid hp
              have HR := Lib.hid (un_other (b := b) (by rw [HU.out]; exact hp))
              clear hp
              go_wp2_with (first
                | (go_at_call 91; refine (HPK.out _).mono ?_; rintro e w5 ⟨A5, c5, zs, rfl, hO5, hB5, hz⟩; have hW5 := below_step hW1 hB5; have hzb : Hid (zs ≠ b) := Lib.hid (by rw [hz.out, HTX.out]; exact HP.out))
                | (go_at_call 93; refine (equalB_any zs b _ _ _ _ _ hO5.bts (H.out.below hW5) (Nat.le_trans hO5.le hO5.cap)).mono ?_; rintro e w6 ⟨rfl, n6, rfl⟩; rw [decide_eq_false hzb.out]))
              go_ret2
              exact ⟨⟨#[]⟩, 3, rfl, below_drewN hW5 n6, Lib.hid ⟨by rw [HR.out.2], HR.out.1.symm⟩⟩

theorem max_small {n : Nat} (h : n ≤ 1000) : n ≤ maxLen := by unfold maxLen; omega
theorem pk_bys {l : List UInt8} (h : l.length ≤ 1000) : Bys (pkI l) := by
  intro z hz
  rw [pkI, List.mem_cons, List.mem_cons] at hz
  rcases hz with rfl | rfl | hz
  · omega
  · omega
  · obtain ⟨k, _, rfl⟩ := List.mem_map.1 hz
    exact byte_bd l k
theorem pack_eq {t : ByteArray} {w : World} (ht : t.size ≤ maxLen) (hv : vbB t = true) :
    Calls Tryd.prog 51 #[.string t] w fun e w' => ∃ (A : Option Addr) (c : Nat) (zs : List Int), e = .returned (.tuple #[.slice A zs.length c, .int .i64 0]) ∧ OutB w' A c zs ∧ Below w.heap.size w w' ∧ Hid (zs = pkI t.data.toList) := by
  refine (wavePack_any t w ht).mono ?_
  rintro e w' ⟨A, c, zs, F, rfl, hO, hB, hF⟩
  obtain rfl := hF.out.2.trans (pc_ok hv).1
  exact ⟨A, c, zs, rfl, hO, hB, Lib.hid (hF.out.1.trans (pc_ok hv).2)⟩
theorem pack_no {t : ByteArray} {w : World} (ht : t.size ≤ maxLen) (hv : vbB t = false) :
    Calls Tryd.prog 51 #[.string t] w fun e w' => ∃ (A : Option Addr) (c : Nat), e = .returned (.tuple #[.slice A 0 c, .int .i64 31]) ∧ Below w.heap.size w w' := by
  refine (wavePack_any t w ht).mono ?_
  rintro e w' ⟨A, c, zs, F, rfl, hO, hB, hF⟩
  obtain rfl := hF.out.2.trans (pc_no hv).1
  obtain rfl := hF.out.1.trans (pc_no hv).2
  exact ⟨A, c, rfl, hB⟩
theorem unpack_eq {b : List Int} {A : Option Addr} {c : Nat} {w : World} (h : Bts w A b) (hl : b.length ≤ 1000) (hb : Bys b) {E : Int} (he : unE b = E) :
    Calls Tryd.prog 53 #[.slice A b.length c] w fun e w' => ∃ q : ByteArray, e = .returned (.tuple #[.string q, .int .i64 E]) ∧ Below w.heap.size w w' ∧ Hid (q = ⟨(unT b).toArray⟩) := by
  refine (waveUnpack_any b A c w h hl hb).mono ?_
  rintro e w' ⟨q, F, rfl, hB, hF⟩
  obtain rfl := hF.out.2.trans he
  exact ⟨q, rfl, hB, Lib.hid hF.out.1⟩
theorem bt_eta (t : ByteArray) : (⟨t.data.toList.toArray⟩ : ByteArray) = t := by cases t; rfl
/-- The text that comes back from its own bytes. -/
theorem unpack_back {t : ByteArray} {zs : List Int} {A : Option Addr} {c : Nat} {w : World} (h : Bts w A zs) (hz : zs = pkI t.data.toList) (hv : vbB t = true) :
    Calls Tryd.prog 53 #[.slice A zs.length c] w fun e w' => e = .returned (.tuple #[.string t, .int .i64 0]) ∧ Below w.heap.size w w' := by
  obtain ⟨hs, hb⟩ := vb_parts hv
  have hl : t.data.toList.length ≤ 1000 := by simpa using hs
  have hu := un_pack hl hb
  subst hz
  refine (unpack_eq h (by rw [pk_len]; omega) (pk_bys hl) hu.1).mono ?_
  rintro e w' ⟨q, rfl, hB, hq⟩
  have : q = t := by rw [hq.out, hu.2, bt_eta]
  subst this
  exact ⟨rfl, hB⟩
theorem un_zero_or (b : List Int) : unE b = 0 ∨ (unE b = 3 ∧ unT b = []) := by
  cases hu : unB b with
  | true => exact .inl (by rw [unE, if_pos hu])
  | false => exact .inr (un_no hu)

theorem str_info : (Tryd.prog.info? 9).map (fun i => (i.zero, i.size, i.bytes)) = some (some (.string ⟨#[]⟩), 1, 16) := by kernel_rfl
section
variable {ops : Array Oper} {rest : List Oper} {o : Oper} {a : Act} {Q : Exit → Act → World → Prop}
theorem wp_app_str (w : World) (hgd : o.guard = none) (s x : Operand)
    (ho : o.op = .call { callee := .builtin .append, args := #[s, x], argTypes := #[53, 53] })
    (base : Nat) (v : Value) (n : Nat) (xs : List ByteArray) (z : ByteArray) (hs : a.eval s = v) (hown : w.ownsRow base 9 1 v n (xs.map Value.string))
    (hx : a.eval x = .slice (some ⟨w.heap.size, 0, none⟩) 1 1) (hn : n ≤ 1000000) (hbase : base ≤ w.heap.size)
    (h : ∀ g c w', w'.ownsRow base 9 1 (.slice (some ⟨g, 0, none⟩) (n + 1) c) (n + 1) ((xs ++ [z]).map Value.string) → Below base w w' → wpList Tryd.prog ops Q rest (a.put o.dst (.slice (some ⟨g, 0, none⟩) (n + 1) c)) w') :
    wpList Tryd.prog ops Q (o :: rest) a (w.alloc (.cells #[.string z] 9)) := by
  obtain ⟨i0, hi0, hz0, hz1, hz2⟩ := info_parts str_info
  refine wp_app w hgd s x 53 ho base 9 i0 (.string ⟨#[]⟩) 1 16 Tryd.underlying53 hi0 hz0 hz1 hz2 rfl (by decide) (by decide) v n _ [.string z] hs hown hx rfl ?_ hn hbase ?_
  · intro u hu; simp at hu; subst hu; rfl
  · intro v' w' h1 h2
    have h3 : w'.ownsRow base 9 1 v' (n + 1) ((xs ++ [z]).map Value.string) := by simpa using h1
    rcases h3.2 with ⟨rfl, h0⟩ | ⟨g, cap, _, rfl, _⟩
    · omega
    · exact h g cap w' h3 h2
end
/-- Each is a text of the wave form. -/
def AllT (s : List Int) (T : List ByteArray) : Prop := ∀ x ∈ T, itB s x = true
theorem it_least2 {s : List Int} {t : ByteArray} (h : itB s t = true) : LeT (encT s) t.data.toList := by
  obtain ⟨x, hs, hv, hr, hd⟩ := it_true h
  have hsum : sumL (dsO x) = s := by rw [hd, sum_dif]
  have := (rd_all hv hr (by rw [hsum]; exact hs)).2.2.2.2.2.2
  rwa [hsum] at this
theorem good_all {s : List Int} {x : ByteArray} (h : itB s x = true) : ∃ ws : List Int, dcE x = 0 ∧ dcS x = s ∧ dcW x = ws ∧ itE s x = 0 ∧ vbB x = true ∧ plE s ws = 0 ∧ (plT s ws).length ≤ x.size ∧ (encT s).length ≤ (plT s ws).length ∧ ws.length = s.length ∧ x.size ≤ 1000 := by
  obtain ⟨r, hs, hv, hr, hd⟩ := it_true h
  have hsum : sumL (dsO r) = s := by rw [hd, sum_dif]
  have hvs : vwB (sumL (dsO r)) = true := by rw [hsum]; exact hs
  obtain ⟨a1, a2, a3, _, _, a6, _⟩ := rd_all hv hr hvs
  obtain ⟨d0, d1, d2, _⟩ := dc_ok hv hr hvs
  have hx := (vb_parts hv).1
  obtain ⟨p1, p2, p3⟩ := pl_fits (s := s) hs a1 hd (by omega)
  rw [hsum] at a6 d1
  refine ⟨wsO r, d0, d1, d2, by simp [itE, hs, hv], hv, p1, ?_, ?_, p3, hx⟩
  · rw [show plT s (wsO r) = planG 2 r.1 from p2]; exact a3
  · rw [show plT s (wsO r) = planG 2 r.1 from p2]; exact a6.len
theorem enc_good {s : List Int} {q : ByteArray} (hv : vwB s = true) (hq : q = ⟨(encT s).toArray⟩) : itB s q = true := by
  obtain ⟨ps, h1, h2, h3, h4⟩ := enc_dec hv hq
  exact (plan_dec hv h2 h1 (by omega) h3).2.2.2.2.2.1
theorem wide_good {s : List Int} {q : ByteArray} (hv : vwB s = true) (hq : q = ⟨(wideL s).toArray⟩) : itB s q = true := by
  obtain ⟨h3, h2, h1, h4⟩ := wide_dec hv hq
  exact (plan_dec hv h2 h1 (by omega) h3).2.2.2.2.2.1
theorem plan_good {s ws : List Int} {q : ByteArray} (h : plE s ws = 0) (hq : q = ⟨(plT s ws).toArray⟩) : itB s q = true := by
  obtain ⟨ps, hv, hf, hd, _, hp, hl⟩ := pl_zero h
  exact (plan_dec hv hf hd hl (by rw [hq, hp])).2.2.2.2.2.1
theorem refIsText_eq {s : List Int} {A : Option Addr} {c : Nat} {q : ByteArray} {E : Int} {b : Bool} {w : World} (h : Ints w A s) (hl : s.length ≤ maxLen) (hq : q.size ≤ maxLen) (he : itE s q = E) (hs : itB s q = b) :
    Calls Tryd.prog 48 #[.slice A s.length c, .string q] w fun e w' => e = .returned (.tuple #[.bool b, .int .i64 E]) ∧ Below w.heap.size w w' := by
  refine (refIsText_any s A c q w h hl hq).mono ?_
  rintro e w' ⟨n, F, rfl, hB, hF⟩
  obtain rfl := hF.out.1.trans hs
  obtain rfl := hF.out.2.trans he
  exact ⟨rfl, hB⟩
theorem enc_bnd {s : List Int} (hv : vwB s = true) : bndI (difL s) ≤ ((encT s).length : Int) := by rw [(enc_ok hv).2]; exact bnd_enc (dif_all hv)
end Go.Proofs.YtcmnjmhedmneiaaDoor
