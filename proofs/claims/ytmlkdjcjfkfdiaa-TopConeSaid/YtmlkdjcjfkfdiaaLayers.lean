/-
  Contracts: Index, Contains (slices, ints), all, layers, Layers (cone), with its plain words.
-/
import Derived.Test.YtmlkdjcjfkfdiaaTables
import Derived.Deep.CutRange
namespace Go.Proofs.Ytmlkdjcjfkfdiaa
open Go.RowKit Go.Shelf

/-- The layers of some hits, with no more than m of them. -/
def layR (ms : List (Int × Int)) : Nat → List Int → List (List Int)
  | 0, _ => []
  | m + 1, left => if left.length = 0 then [] else firstOfL ms left :: layR ms m (left.filter fun a => !(firstOfL ms left).contains a)
def layersL (ms : List (Int × Int)) : List (List Int) := layR ms ms.length (allL ms.length)
def layersF (ms : List (Int × Int)) : List (List Int) := if vhB ms then layersL ms else []
theorem least_of (f : Int → Int) : ∀ l : List Int, l ≠ [] → ∃ a ∈ l, ∀ b ∈ l, f a ≤ f b
  | [], h => absurd rfl h
  | [a], _ => ⟨a, by simp, fun b hb => by simp at hb; subst hb; exact Int.le_refl _⟩
  | a :: c :: t, _ => by
    obtain ⟨x, hx, hx2⟩ := least_of f (c :: t) (by simp)
    by_cases h : f a ≤ f x
    · refine ⟨a, by simp, fun b hb => ?_⟩
      rcases List.mem_cons.1 hb with rfl | hb
      · exact Int.le_refl _
      · exact Int.le_trans h (hx2 b hb)
    · refine ⟨x, List.mem_cons_of_mem _ hx, fun b hb => ?_⟩
      rcases List.mem_cons.1 hb with rfl | hb
      · omega
      · exact hx2 b hb
theorem first_ne {ms : List (Int × Int)} {l : List Int} (h : l ≠ []) : ∃ a ∈ l, a ∈ firstOfL ms l := by
  obtain ⟨a, ha, hb⟩ := least_of (fun a => (hAt ms a).2) l h
  refine ⟨a, ha, List.mem_filter.2 ⟨ha, ?_⟩⟩
  have : (l.any fun b => befI ms b a) = false := by
    rw [List.any_eq_false]
    intro b hb2 hbef
    have := hb b hb2
    unfold befI bef at hbef
    have h2 := of_decide_eq_true hbef
    omega
  rw [this]; rfl
theorem rest_lt {ms : List (Int × Int)} {l : List Int} (h : l ≠ []) : (l.filter fun a => !(firstOfL ms l).contains a).length < l.length := by
  obtain ⟨a, ha, hb⟩ := first_ne (ms := ms) h
  exact List.length_filter_lt_length_iff_exists.2 ⟨a, ha, by simp [hb]⟩
theorem lay_step {ms : List (Int × Int)} {m : Nat} {l : List Int} (h : l ≠ []) (hm : l.length ≤ m) : ∃ k, m = k + 1 ∧ layR ms m l = firstOfL ms l :: layR ms k (l.filter fun a => !(firstOfL ms l).contains a) := by
  obtain ⟨k, rfl⟩ : ∃ k, m = k + 1 := ⟨m - 1, by have : 0 < l.length := List.length_pos_iff.2 h; omega⟩
  refine ⟨k, rfl, ?_⟩
  rw [layR, if_neg (by have : 0 < l.length := List.length_pos_iff.2 h; omega)]
theorem lay_nil (ms : List (Int × Int)) : ∀ m, layR ms m [] = []
  | 0 => rfl
  | m + 1 => by rw [layR]; simp

set_option maxRecDepth 100000 in
theorem idx_any (zs : List Int) (A : Option Addr) (c : Nat) (x : Int) (w : World) (h : Ints w A zs) (hl : zs.length ≤ 1000) :
    Calls Try.prog 122 #[.slice A zs.length c, .int .i64 x] w fun e w' => ∃ r : Int, e = .returned (.int .i64 r) ∧ w = w' ∧ Hid (0 ≤ r ↔ x ∈ zs) := by
  have H := Lib.hid h
  clear h
  go_enter Try.func122, Try.ntmps122
  go_wp2
  go_loop [8] (fun i => ∃ k : Nat, k ≤ zs.length ∧ i = .int .i64 k ∧ Hid (∀ z ∈ zs.take k, z ≠ x)) (fun i => zs.length - (intOf i).toNat)
  case atStart => exact ⟨0, Nat.zero_le _, rfl, Lib.hid (by intro z hz; simp at hz)⟩
  case round =>
    obtain ⟨k, hk, rfl, ha⟩ := hrel
    by_cases hlt : k < zs.length
    · obtain ⟨ad, z, rfl, hbk, hz, hc⟩ := H.out.get hlt
      have HZ := Lib.hid hz.out
      clear hz
      by_cases h1 : x = z
      · subst h1
        have HX : Hid ((0 : Int) ≤ (k : Int) ↔ x ∈ zs) := Lib.hid ⟨fun _ => List.mem_of_getElem? HZ.out, fun _ => by omega⟩
        go_wp2
        go_ret
        exact ⟨k, rfl, rfl, HX⟩
      · have t1 : (x == z) = false := by simpa using h1
        have HN := Lib.hid h1
        clear h1
        have HA : Hid (∀ y ∈ zs.take (k + 1), y ≠ x) := Lib.hid (by
          intro y hy
          rw [List.take_add_one, HZ.out, Option.toList_some, List.mem_append, List.mem_singleton] at hy
          rcases hy with hy | rfl
          · exact ha.out y hy
          · exact fun e => HN.out e.symm)
        go_wp2
        go_round
        case rel => exact ⟨k + 1, by omega, by go_num, HA⟩
        case measure => simp [intOf]; omega
    · obtain rfl : k = zs.length := by omega
      have HC : Hid ((0 : Int) ≤ -1 ↔ x ∈ zs) := Lib.hid ⟨fun h => absurd h (by omega), fun hm => absurd rfl (ha.out x (by rw [List.take_length]; exact hm))⟩
      clear ha
      go_wp2
      go_ret
      exact ⟨-1, rfl, rfl, HC⟩
set_option maxRecDepth 100000 in
theorem contains_ints (zs : List Int) (A : Option Addr) (c : Nat) (x : Int) (w : World) (h : Ints w A zs) (hl : zs.length ≤ 1000) :
    Calls Try.prog 107 #[.slice A zs.length c, .int .i64 x] w fun e w' => e = .returned (.bool (zs.contains x)) ∧ w = w' := by
  have H := Lib.hid h
  clear h
  go_enter Try.func107, Try.ntmps107
  go_wp2_with (go_at_call 122; refine (idx_any zs A c x _ H.out hl).mono ?_; rintro e w1 ⟨r, rfl, rfl, hr⟩)
  go_ret
  exact ⟨ret_bool (by rw [Bool.eq_iff_iff]; simp [hr.out]), rfl⟩
set_option maxRecDepth 100000 in
theorem keep_layers (l : List Int) (B : Option Addr) (c Bs : Nat) (S : List Int) (w : World) (hI : Ints w B l) (hn : l.length ≤ 1000) (hb : Bs < w.heap.size) (g0 : w.cell? ⟨Bs, 0, none⟩ = some (.slice B l.length c)) :
    KeepAt 106 #[.pointer (some ⟨Bs, 0, none⟩)] (fun a => !(l.contains a)) S w := by
  intro W a _ hB
  have HI := Lib.hid (hI.below hB)
  have c0 := (hB.cell (p := ⟨Bs, 0, none⟩) hb).trans g0
  clear hI g0 hB
  show Calls Try.prog _ #[.int .i64 a, .pointer (some ⟨Bs, 0, none⟩)] W _
  go_enter Try.func106, Try.ntmps106
  go_wp2_with (go_at_call 107; refine (contains_ints l B c a _ HI.out hn).mono ?_; rintro e w2 ⟨rfl, rfl⟩)
  go_ret
  exact ⟨ret_bool (by simp), Below.refl _ _⟩

set_option maxRecDepth 100000 in
set_option maxHeartbeats 400000 in
theorem all_ownL (n : Nat) (A : Option Addr) (c : Nat) (w : World) (hn : n ≤ 1000) :
    Calls Try.prog 98 #[.slice A n c] w fun e w' => ∃ (A' : Option Addr) (c' : Nat), e = .returned (.slice A' n c') ∧ w'.ownsRow w.heap.size 3 1 (.slice A' n c') n ((allL n).map (Value.int .i64)) ∧ Below w.heap.size w w' := by
  obtain ⟨i0, hi0, hz0, hz1, hz2⟩ := info_parts int_info
  have HZ2 := Lib.hid hz2
  clear hz2
  go_enter Try.func98, Try.ntmps98
  go_wp2_with (at_make; refine wpList_make_full _ rfl _ _ 28 rfl w.heap.size 3 i0 (.int .i64 0) 1 Try.underlying28 hi0 hz0 hz1 _ _ _ _ n rfl rfl rfl rfl (by rw [HZ2.out]; omega) (by unfold maxLen; omega) (Nat.le_refl _) ?_; intro w1 hown1 hg1)
  have hB1 : Below w.heap.size w w1 := (Below.refl _ _).grown hg1 (Nat.le_refl _) (by simp)
  rw [made_fill] at hown1
  clear hg1 HZ2 hz0 hz1 hi0
  go_loopw [10] (fun i wr => ∃ k : Nat, k ≤ n ∧ i = .int .i64 k ∧ wr.ownsRow w.heap.size 3 1 (.slice (some ⟨w.heap.size, 0, none⟩) n n) n ((fillL n k).map (Value.int .i64)) ∧ Below w.heap.size w wr) (fun i _ => n - (intOf i).toNat)
  case atStart => exact ⟨0, Nat.zero_le _, rfl, hown1, hB1⟩
  case round =>
    clear hown1 hB1
    obtain ⟨k, hk, rfl, hown, hB⟩ := hrel
    by_cases hlt : k < n
    · have hc := hown.cellAt k (by omega)
      rw [List.getElem?_map, fill_get hlt, Option.map_some] at hc
      have hf := hown.frozenAt k
      go_wp2
      go_roundw
      case rel => exact ⟨k + 1, by omega, by go_num, by rw [← fill_set hlt, List.map_set]; exact (hown.stored k _).1, hB.setCell (Nat.le_refl _) _⟩
      case measure => simp [intOf]; omega
    · obtain rfl : k = n := by omega
      go_wp2
      go_ret
      rw [fill_full] at hown
      exact ⟨_, _, rfl, hown, hB⟩


set_option maxRecDepth 100000 in
set_option maxHeartbeats 2000000 in
theorem layers_any (ms : List (Int × Int)) (A : Option Addr) (c : Nat) (w : World) (h : Marks w A ms) (hv : vhB ms = true) :
    Calls Try.prog 78 #[.slice A ms.length c] w fun e w' => ∃ (A' : Option Addr) (c' : Nat) (T : List (List Int)), e = .returned (.slice A' T.length c') ∧ TOut w' A' c' T ∧ Below w.heap.size w w' ∧ Hid (T = layersL ms) := by
  obtain ⟨hn1, hn2⟩ := vh_parts hv
  have H := Lib.hid (And.intro h hv)
  have HAL := Lib.hid (all_ownL ms.length A c w (by omega))
  have eg : ∀ args w, (callFunc 106 args).run Try.prog w = .ok (.enter 106 args) w := enters_of Try.func106 (by kernel_rfl) rfl
  have HEG := Lib.hid eg
  clear h hv eg
  go_enter Try.func78, Try.ntmps78
  go_wp2_with (go_at_call 98; refine HAL.out.mono ?_; rintro e w1 ⟨A1, c1, rfl, ho1, hB1⟩)
  have HO1 : Hid (OwnI w1 w.heap.size A1 c1 (allL ms.length)) := Lib.hid (by unfold OwnI; rw [allL_len]; exact ho1)
  have HB1 := Lib.hid hB1
  clear ho1 hB1 HAL
  go_loopw [3, 4] (fun v lv wr => ∃ (T : List (List Int)) (left : List Int) (A5 : Option Addr) (c5 m : Nat), lv = .slice A5 left.length c5 ∧ T.length + left.length ≤ 14 ∧ Hid (TabO wr w.heap.size v T) ∧ Hid (OwnI wr w.heap.size A5 c5 left) ∧ Hid (Below w.heap.size w wr) ∧ Hid (left.length ≤ m ∧ (∀ a ∈ left, a ∈ allL ms.length) ∧ T ++ layR ms m left = layersL ms)) (fun _ lv _ => match lv with | .slice _ n _ => n | _ => 0)
  case atStart => exact ⟨[], allL ms.length, A1, c1, ms.length, by rw [allL_len], by rw [allL_len]; simpa using hn2, Lib.hid (TabO.nil_ _ _), HO1, HB1, Lib.hid ⟨by rw [allL_len]; exact Nat.le_refl _, fun _ h => h, rfl⟩⟩
  case round =>
    clear HO1 HB1
    obtain ⟨T, left, A5, c5, m, rfl, hTl, HT, HL, HB, HR⟩ := hrel
    rename World => wr
    by_cases hne : left = []
    · subst hne
      have hz : T = layersL ms := by
        have := HR.out.2.2
        rw [lay_nil, List.append_nil] at this
        exact this
      go_wp2
      go_ret
      obtain ⟨A', c', hvv, hO⟩ := HT.out.out
      subst hvv
      exact ⟨A', c', T, rfl, hO, HB.out, Lib.hid hz⟩
    · have hpos : 0 < left.length := List.length_pos_iff.2 hne
      have hpos1 : decide ((0 : Int) < (left.length : Int)) = true := decide_eq_true (by omega)
      have HF := Lib.hid (firstOf_own ms A c left A5 c5 wr (H.out.1.below HB.out) H.out.2 (fun b hb => allL_has (HR.out.2.1 b hb)) HL.out.out.ints (by omega))
      have HNE := Lib.hid hne
      have HLT := Lib.hid (rest_lt (ms := ms) hne)
      have HST := Lib.hid (lay_step (ms := ms) hne HR.out.1)
      clear hne
      go_upto_region 5 with (go_at_call 100; refine HF.out.mono ?_; rintro e w3 ⟨B3, c3, l, rfl, ho3, hB3, hy3⟩)
      have HY3 := Lib.hid hy3.out
      have hll : l.length ≤ left.length := by rw [HY3.out]; exact List.length_filter_le _ _
      have hbx : Below w3.heap.size w3 (w3.alloc (.cells #[.slice B3 l.length c3] 28)) := (Below.refl _ _).alloc (Nat.le_refl _) _
      have HT3 := Lib.hid ((HT.out.below hB3).below hbx)
      have HL3 := Lib.hid (own_below (own_below HL.out hB3) hbx)
      have HO3 : Hid (OwnI (w3.alloc (.cells #[.slice B3 l.length c3] 28)) w.heap.size B3 c3 l) := Lib.hid (own_below (own_base2 ho3 HB.out.size) hbx)
      have HB3 := Lib.hid (below_step (below_step HB.out hB3) hbx)
      have gx : (w3.alloc (.cells #[.slice B3 l.length c3] 28)).heap[w3.heap.size]? = some (.cells #[.slice B3 l.length c3] 28) := heap_alloc_new _ _
      have hxl : w3.heap.size < (w3.alloc (.cells #[.slice B3 l.length c3] 28)).heap.size := by simp
      have HVB : Hid (∀ g, u3.ownBlock = some g → g < w3.heap.size) := Lib.hid fun g hg => by
        obtain ⟨svs, h1, _⟩ := HT.out.below hB3
        exact (h1.lt g hg).2
      clear ho3 hB3 hy3 hbx HF HT HL HB
      obtain ⟨X3, hX3⟩ : ∃ X, w3.alloc (.cells #[.slice B3 l.length c3] 28) = X := ⟨_, rfl⟩
      rw [hX3] at HT3 HL3 HO3 HB3 gx hxl ⊢
      clear hX3
      obtain ⟨gb, hgb⟩ : ∃ g, w3.heap.size = g := ⟨_, rfl⟩
      rw [hgb] at gx hxl HVB ⊢
      clear hgb
      have HGX := Lib.hid gx
      have x0 : X3.cell? ⟨gb, 0, none⟩ = some (.slice B3 l.length c3) := by rw [cell_of_row X3 gb 0 _ _ (0, 0) gx]; rfl
      clear gx
      go_upto_region 6 with (at_builtin; refine wp_app_list X3 rfl (.tmp 14) (.tmp 16) rfl w.heap.size _ _ T B3 c3 l rfl rfl HT3.out HO3.out rfl (by omega) HB3.out.size ?_; intro v4 w4 hT4 hB4 hk4 hf4)
      have HT4 := Lib.hid hT4
      have HL4 : Hid (OwnI w4 w.heap.size A5 c5 left) := Lib.hid (hk4 _ _ _ HL3.out)
      have HO4 : Hid (OwnI w4 w.heap.size B3 c3 l) := Lib.hid (hk4 _ _ _ HO3.out)
      have gx4 := (hf4 gb hxl (fun e => Nat.lt_irrefl _ (HVB.out gb e))).trans HGX.out
      have x04 : w4.cell? ⟨gb, 0, none⟩ = some (.slice B3 l.length c3) := by rw [cell_of_row w4 gb 0 _ _ (0, 0) gx4]; rfl
      have hgl4 : gb < w4.heap.size := (Array.getElem?_eq_some_iff.1 gx4).1
      have HB4 := Lib.hid (HB3.out.trans hB4)
      have HK := Lib.hid (kept_own _ _ _ HEG.out left A5 c5 w4 (keep_layers l B3 c3 gb left w4 HO4.out.out.ints (by omega) hgl4 x04) HL4.out.out.ints (by omega))
      clear hT4 hB4 hk4 hf4 gx4 x0 hxl
      go_wp2_with (go_at_call 97; refine HK.out.mono ?_; rintro e w5 ⟨A6, c6, zs, rfl, ho6, hB6, hy6⟩)
      go_roundw
      case rel =>
        obtain ⟨k, hk, hst⟩ := HST.out
        have e1 : zs = left.filter fun a => !(firstOfL ms left).contains a := by rw [hy6.out, HY3.out]
        have e2 : zs.length < left.length := by rw [e1]; exact HLT.out
        refine ⟨T ++ [l], zs, A6, c6, k, rfl, by simp; omega, Lib.hid (HT4.out.below hB6), Lib.hid (own_base2 ho6 HB4.out.size), Lib.hid (below_step HB4.out hB6), Lib.hid ⟨by have := HR.out.1; omega, fun a ha => ?_, ?_⟩⟩
        · rw [e1] at ha
          exact HR.out.2.1 a (List.mem_filter.1 ha).1
        · rw [← HR.out.2.2, hst, e1, HY3.out, List.append_assoc]; rfl
      case measure =>
        have e1 : zs = left.filter fun a => !(firstOfL ms left).contains a := by rw [hy6.out, HY3.out]
        show zs.length < left.length
        rw [e1]; exact HLT.out
end Go.Proofs.Ytmlkdjcjfkfdiaa
