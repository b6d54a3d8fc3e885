/-
  Contracts: changed, read (wave).
-/
import Derived.Test.YtcmnjmhedmneiaaDoorSampF
namespace Go.Proofs.YtcmnjmhedmneiaaDoor
open Go.RowKit Go.Shelf

set_option maxRecDepth 100000 in
theorem changed_any (k : Nat) (hk : k < 5) (b : UInt8) (hb : bitB b = true) (w : World) :
    Calls Tryd.prog 102 #[.int .i64 k, .int .u8 b.toNat] w fun e w' => e = .returned (stV (chgF k b)) ∧ w = w' := by
  simp only [bitB, Bool.or_eq_true, beq_iff_eq] at hb
  rcases hb with rfl | rfl
  · by_cases h : 0 < k
    · rw [chg_down h]
      have h0 : decide (0 < (k : Int)) = true := decide_eq_true (by omega)
      have h1 : IntKind.i64.wrap ((k : Int) - 1) = (k : Int) - 1 := IntWalk.i64_in _ (by omega)
      go_enter Tryd.func102, Tryd.ntmps102
      go_wp2
      go_ret2
      exact ⟨by rw [st_some, show ((k - 1 : Nat) : Int) = (k : Int) - 1 by omega]; rfl, rfl⟩
    · rw [chg_bottom h]
      have h0 : decide (0 < (k : Int)) = false := decide_eq_false (by omega)
      go_enter Tryd.func102, Tryd.ntmps102
      go_wp2
      go_ret2
      exact ⟨by rw [st_none]; rfl, rfl⟩
  · by_cases h : k < 4
    · rw [chg_up h]
      have h0 : decide ((k : Int) < 4) = true := decide_eq_true (by omega)
      go_enter Tryd.func102, Tryd.ntmps102
      go_wp2
      go_ret2
      exact ⟨by rw [st_some]; rfl, rfl⟩
    · rw [chg_top h]
      have h0 : decide ((k : Int) < 4) = false := decide_eq_false (by omega)
      go_enter Tryd.func102, Tryd.ntmps102
      go_wp2
      go_ret2
      exact ⟨by rw [st_none]; rfl, rfl⟩

theorem blk_frozen {w : World} {g : Nat} {t : TypeId} {cs : Array Value} (h : w.heap[g]? = some (.cells cs t (0, 0))) (i : Nat) : w.frozen? ⟨g, i, none⟩ = false := by
  simp [World.frozen?, h]
/-- Three cells of a block that can be written. -/
structure At3 (w : World) (M : Nat) (x y z : Value) : Prop where
  c0 : w.cell? ⟨M, 0, none⟩ = some x
  c1 : w.cell? ⟨M, 1, none⟩ = some y
  c2 : w.cell? ⟨M, 2, none⟩ = some z
  f0 : w.frozen? ⟨M, 0, none⟩ = false
  f1 : w.frozen? ⟨M, 1, none⟩ = false
  f2 : w.frozen? ⟨M, 2, none⟩ = false
theorem At3.below {w w' : World} {B M : Nat} {x y z : Value} (h : At3 w M x y z) (hB : Below B w w') (hM : M < B) : At3 w' M x y z :=
  ⟨(hB.cell (p := ⟨M, 0, none⟩) hM).trans h.c0, (hB.cell (p := ⟨M, 1, none⟩) hM).trans h.c1, (hB.cell (p := ⟨M, 2, none⟩) hM).trans h.c2,
   (hB.frozen (p := ⟨M, 0, none⟩) hM).trans h.f0, (hB.frozen (p := ⟨M, 1, none⟩) hM).trans h.f1, (hB.frozen (p := ⟨M, 2, none⟩) hM).trans h.f2⟩
theorem at3_new (w : World) (x y z : Value) (t : TypeId) : At3 (w.alloc (.cells #[x, y, z] t)) w.heap.size x y z := by
  have k := heap_alloc_new w (.cells #[x, y, z] t)
  exact ⟨cell_of_row _ _ 0 _ _ _ k, cell_of_row _ _ 1 _ _ _ k, cell_of_row _ _ 2 _ _ _ k, blk_frozen k 0, blk_frozen k 1, blk_frozen k 2⟩
theorem At3.set {w : World} {M : Nat} {x y z : Value} (h : At3 w M x y z) (i : Nat) (u : Value) : At3 (w.setCell ⟨M, i, none⟩ u) M (if i = 0 then u else x) (if i = 1 then u else y) (if i = 2 then u else z) := by
  have hne : ∀ i j : Nat, i ≠ j → (⟨M, i, none⟩ : Addr) ≠ ⟨M, j, none⟩ := fun i j hij e => hij (by injection e)
  have hs : ∀ j v, w.cell? ⟨M, j, none⟩ = some v → (w.setCell ⟨M, i, none⟩ u).cell? ⟨M, j, none⟩ = some (if i = j then u else v) := fun j v hv => by
    by_cases hij : i = j
    · subst hij
      rw [if_pos rfl]
      exact World.cell?_setCell_same _ _ _ hv
    · rw [if_neg hij, World.cell?_setCell_other _ _ _ _ (hne i j hij)]; exact hv
  exact ⟨hs 0 x h.c0, hs 1 y h.c1, hs 2 z h.c2, by rw [World.frozen?_setCell]; exact h.f0, by rw [World.frozen?_setCell]; exact h.f1, by rw [World.frozen?_setCell]; exact h.f2⟩
theorem At3.other {w : World} {M G i : Nat} {x y z u : Value} (h : At3 w M x y z) (hG : G ≠ M) : At3 (w.setCell ⟨G, i, none⟩ u) M x y z := by
  have hne : ∀ j : Nat, (⟨G, i, none⟩ : Addr) ≠ ⟨M, j, none⟩ := fun j e => hG (by injection e)
  exact ⟨by rw [World.cell?_setCell_other _ _ _ _ (hne 0)]; exact h.c0, by rw [World.cell?_setCell_other _ _ _ _ (hne 1)]; exact h.c1, by rw [World.cell?_setCell_other _ _ _ _ (hne 2)]; exact h.c2,
    by rw [World.frozen?_setCell]; exact h.f0, by rw [World.frozen?_setCell]; exact h.f1, by rw [World.frozen?_setCell]; exact h.f2⟩
theorem At3.drewN {w : World} {M : Nat} {x y z : Value} (h : At3 w M x y z) (n : Nat) : At3 (w.drewN n) M x y z := ⟨h.c0, h.c1, h.c2, h.f0, h.f1, h.f2⟩
theorem At3.put {w : World} {M : Nat} {x y z : Value} (h : At3 w M x y z) (a b c : Value) : At3 (((w.setCell ⟨M, 0, none⟩ a).setCell ⟨M, 1, none⟩ b).setCell ⟨M, 2, none⟩ c) M a b c :=
  ((h.set 0 a).set 1 b).set 2 c
theorem put_below {B M : Nat} {w w' : World} (h : Below B w w') (hM : B ≤ M) (a b c : Value) : Below B w (((w'.setCell ⟨M, 0, none⟩ a).setCell ⟨M, 1, none⟩ b).setCell ⟨M, 2, none⟩ c) :=
  ((h.setCell hM _).setCell hM _).setCell hM _
theorem put_other {W : World} {M : Nat} (a b c : Value) (k : Nat) (h : k ≠ M) : (((W.setCell ⟨M, 0, none⟩ a).setCell ⟨M, 1, none⟩ b).setCell ⟨M, 2, none⟩ c).heap[k]? = W.heap[k]? := by
  rw [Below.heap_setCell _ _ _ _ h, Below.heap_setCell _ _ _ _ h, Below.heap_setCell _ _ _ _ h]
theorem app_shape {w w' : World} {base n : Nat} {v v' : Value} {xs : List Int} (h : AppAt w base v n xs v' w') : ∃ B d, v' = .slice B n d := by
  obtain ⟨B, d, e, _⟩ := own_ints h.1
  have := h.1.1
  simp at this
  exact ⟨B, d, by rw [e, this]⟩
theorem set_size (w : World) (a : Addr) (u : Value) : (w.setCell a u).heap.size = w.heap.size := by simp
/-- What reading leaves, of a message and a yes or no. -/
def MsgRes (t : ByteArray) (e : Ending) (w w' : World) : Prop :=
  Below w.heap.size w w' ∧
  ((∃ (A B : Option Addr) (c d : Nat) (zs ws : List Int) (m : Nat), e = .returned (.tuple #[.agg #[.slice A zs.length c, .slice B ws.length d, .int .i64 m], .bool true]) ∧ Out w' A c zs ∧ Out w' B d ws ∧ m ≤ 1000 ∧ Hid (Fr (w.heap.size + 2) A ∧ Fr (w.heap.size + 2) B) ∧ Hid (∃ x, rdT t = some x ∧ zs = dsO x ∧ ws = wsO x ∧ m = x.2)) ∨
   (e = .returned (.tuple #[.agg #[.slice none 0 0, .slice none 0 0, .int .i64 0], .bool false]) ∧ Hid (rdT t = none)))
theorem rd_turn2 {k k' : Nat} {l : List UInt8} {b : UInt8} (h1 : wdN k + 2 ≤ l.length) (h2 : l.take (wdN k) = signL (wdN k)) (hb : l[wdN k]? = some b) (hc : chgF k b = some k') : rdL k l = addR [] 1 (rdL k' (l.drop (wdN k + 1))) := by
  rw [rd_chg h2 h1 hb, hc, Option.bind_some]

set_option maxRecDepth 100000 in
set_option maxHeartbeats 4000000 in
theorem waveread_any (t : ByteArray) (w : World) (hb : vbB t = true) (hW : Wids w) :
    Calls Tryd.prog 84 #[.string t] w fun e w' => MsgRes t e w w' := by
  obtain ⟨ht, hbits⟩ := vb_parts hb
  have HBT := Lib.hid hbits
  have HW := Lib.hid hW
  clear hb hbits hW
  go_enter Tryd.func84, Tryd.ntmps84
  go_wp2
  have hB0 : Below w.heap.size w ((w.alloc (.cells #[.slice none 0 0, .slice none 0 0, .int .i64 0] 76)).alloc (.cells #[.slice none 0 0, .slice none 0 0, .int .i64 0] 76)) := (by repeat (first | with_reducible exact Below.refl _ _ | with_reducible assumption | refine below_drewN ?_ _ | with_reducible refine Below.drew ?_ | (refine Below.setCell ?_ (by first | (simp; done) | (simp; omega) | omega) _) | (refine Below.alloc ?_ (by first | (simp; done) | (simp; omega) | omega) _)))
  have hR0 : At3 ((w.alloc (.cells #[.slice none 0 0, .slice none 0 0, .int .i64 0] 76)).alloc (.cells #[.slice none 0 0, .slice none 0 0, .int .i64 0] 76)) w.heap.size (.slice none 0 0) (.slice none 0 0) (.int .i64 0) :=
    (at3_new w _ _ _ _).below ((Below.refl _ _).alloc (Nat.le_refl _) _) (by simp)
  have hM0 : At3 ((w.alloc (.cells #[.slice none 0 0, .slice none 0 0, .int .i64 0] 76)).alloc (.cells #[.slice none 0 0, .slice none 0 0, .int .i64 0] 76)) (w.heap.size + 1) (.slice none 0 0) (.slice none 0 0) (.int .i64 0) := by
    have := at3_new (w.alloc (.cells #[.slice none 0 0, .slice none 0 0, .int .i64 0] 76)) (.slice none 0 0) (.slice none 0 0) (.int .i64 0) 76
    rwa [show (w.alloc (.cells #[.slice none 0 0, .slice none 0 0, .int .i64 0] 76)).heap.size = w.heap.size + 1 by simp] at this
  have hS0 : w.heap.size + 2 ≤ ((w.alloc (.cells #[.slice none 0 0, .slice none 0 0, .int .i64 0] 76)).alloc (.cells #[.slice none 0 0, .slice none 0 0, .int .i64 0] 76)).heap.size := by simp
  generalize ((w.alloc (.cells #[.slice none 0 0, .slice none 0 0, .int .i64 0] 76)).alloc (.cells #[.slice none 0 0, .slice none 0 0, .int .i64 0] 76)) = W0 at hB0 hR0 hM0 hS0 ⊢
  have HM0 := Lib.hid hM0
  have HR0 := Lib.hid hR0
  clear hM0 hR0
  go_loopw [0, 5] (fun tx kk wr => ∃ (q : ByteArray) (ps : List (Int × Nat)) (m k : Nat) (v1 v2 : Value), tx = .string q ∧ kk = .int .i64 k ∧ k < 5 ∧ q.size ≤ 1000 ∧ m + q.size ≤ 1000 ∧ ps.length + q.size ≤ 1000 ∧
    wr.ownsRow (w.heap.size + 2) 3 1 v1 ps.length ((ps.map Prod.fst).map (Value.int .i64)) ∧ wr.ownsRow (w.heap.size + 2) 3 1 v2 ps.length ((wdL (ps.map Prod.snd)).map (Value.int .i64)) ∧ Sep v1 v2 ∧ Below w.heap.size w wr ∧ w.heap.size + 2 ≤ wr.heap.size ∧
    Hid (At3 wr (w.heap.size + 1) v1 v2 (.int .i64 m)) ∧ Hid (At3 wr w.heap.size (.slice none 0 0) (.slice none 0 0) (.int .i64 0)) ∧
    Hid (q.data.toList.all bitB = true) ∧ Hid (rdT t = addR ps m (rdL k q.data.toList))) (fun tx _ _ => match tx with | .string q => q.size | _ => 0)
  case atStart => exact ⟨t, [], 0, 2, _, _, rfl, rfl, by omega, ht, by omega, by simpa using ht, World.ownsRow_nil _ _ _ _, World.ownsRow_nil _ _ _ _, sep_none, hB0, hS0, HM0, HR0, HBT, Lib.hid (by rw [addR_zero]; rfl)⟩
  case round =>
    clear hB0 hS0 HM0 HR0
    obtain ⟨q, ps, m, k, v1, v2, rfl, rfl, hk, hq, hmq, hpq, hown1, hown2, hsep, hB, hS, HM, HR1, HQB, HR⟩ := hrel
    obtain ⟨A1, c1, e1, hO1⟩ := own_ints hown1
    obtain ⟨A2, c2, e2, hO2⟩ := own_ints hown2
    have hl1 : (ps.map Prod.fst).length = ps.length := by simp
    have hl2 : (wdL (ps.map Prod.snd)).length = ps.length := by simp [wdL]
    have HO1 := Lib.hid hO1
    have HO2 := Lib.hid hO2
    have HL1 := Lib.hid hl1
    have HL2 := Lib.hid hl2
    rw [hl1] at e1
    rw [hl2] at e2
    subst e1 e2
    clear hO1 hO2 hl1 hl2
    obtain ⟨m0, m1, m2, f0, f1, f2⟩ := HM.out
    obtain ⟨r0, r1, r2, g0, g1, g2⟩ := HR1.out
    have hlen : q.data.toList.length = q.size := by simp
    have hWr := Lib.hid (HW.out.below hB)
    by_cases hlt : 0 < q.size
    · have hne : q.data.toList ≠ [] := by intro he; rw [he] at hlen; simp at hlen; omega
      have i0 : q.toList.isEmpty = false := by rw [Lib.toList_data]; cases hq : q.data.toList with
        | nil => exact absurd hq hne
        | cons _ _ => rfl
      have hw := wd_bd k
      have t0 := hWr.out.2 k hk
      by_cases h1 : q.size < wdN k
      · have HN : Hid (rdT t = none) := Lib.hid (by rw [HR.out, rd_short hne (by omega)]; rfl)
        generalize wdN k = W at h1 hw t0
        have u1 : decide ((q.size : Int) < (W : Int)) = true := decide_eq_true (by omega)
        go_wp2
        have P := HR1.out.put (.slice none 0 0) (.slice none 0 0) (.int .i64 0)
        refine bodyPost_ret (v := .tuple #[.agg #[.slice none 0 0, .slice none 0 0, .int .i64 0], .bool false]) (by simp [results, Tryd.results84, go_sem, P.c0, P.c1, P.c2]) rfl ?_
        exact ⟨put_below hB (Nat.le_refl _) _ _ _, .inr ⟨rfl, HN⟩⟩
      · have hfl : (q.extract 0 (wdN k)).size = wdN k := by rw [ByteArray.size_extract]; omega
        have hfb : bitsB (q.extract 0 (wdN k)) = true := by rw [bitsB, ext_front]; exact all_take HQB.out _
        have hfl2 : (q.data.toList.take (wdN k)).length = wdN k := by rw [List.length_take]; omega
        have hsgn := sign_some k wr
        have HC2 := Lib.hid (fun W' => wnumber_any k hk (q.extract 0 (wdN k)) W' hfl hfb)
        obtain ⟨q1, hq1⟩ : ∃ q1, q.extract (wdN k) q.size = q1 := ⟨_, rfl⟩
        obtain ⟨qw, hqw⟩ : ∃ qw, q.extract 0 (wdN k) = qw := ⟨_, rfl⟩
        have HQW : Hid (qw.data.toList = q.data.toList.take (wdN k)) := Lib.hid (by rw [← hqw, ext_front])
        have HQ1 : Hid (q1.data.toList = q.data.toList.drop (wdN k)) := Lib.hid (by rw [← hq1]; exact ext_back q _)
        have HQ1B : Hid (q1.data.toList.all bitB = true) := Lib.hid (by rw [HQ1.out]; exact all_drop HQB.out _)
        have HS1 : Hid (q1.size = q.size - wdN k) := Lib.hid (by rw [← hq1, ByteArray.size_extract]; omega)
        rw [hqw] at HC2
        by_cases h2 : q.data.toList.take (wdN k) = signL (wdN k)
        · have HSG : Hid (qw.data.toList = signL (wdN k)) := Lib.hid (by rw [HQW.out, h2])
          have hMb : w.heap.size + 1 < wr.heap.size := by omega
          have hRb : w.heap.size < wr.heap.size := by omega
          have hq1s := HS1.out
          clear m0 m1 m2 f0 f1 f2 g0 g1 g2 r0 r1 r2
          by_cases h3 : q1.size < 2
          · have HN : Hid (rdT t = none) := Lib.hid (by rw [HR.out, rd_one (by omega) h2 (by omega)]; rfl)
            generalize wdN k = W at hsgn h1 hw t0 hq1 hqw HS1 HQ1 HSG hq1s
            have u1 : decide ((q.size : Int) < (W : Int)) = false := decide_eq_false (by omega)
            have u2 : decide ((q1.size : Int) < 2) = true := decide_eq_true (by omega)
            clear hfl hfl2 hfb h2 hq1s
            go_wp2_with (go_at_call 101; refine hsgn.mono ?_; rintro e w1 ⟨qs, rfl, _, hB1, hQS⟩; have j0 : (qw.toList == qs.toList) = true := (by rw [Lib.toList_data, Lib.toList_data, hQS.out]; exact beq_iff_eq.2 HSG.out); have HM1 := Lib.hid (HM.out.below hB1 hMb); have HR11 := Lib.hid (HR1.out.below hB1 hRb); have m2 := HM1.out.c2; have f2 := HM1.out.f2; have g0 := HR11.out.f0; have g1 := HR11.out.f1; have g2 := HR11.out.f2; have r0 := HR11.out.c0; have r1 := HR11.out.c1; have r2 := HR11.out.c2)
            have P := HR11.out.put (.slice none 0 0) (.slice none 0 0) (.int .i64 0)
            refine bodyPost_ret (v := .tuple #[.agg #[.slice none 0 0, .slice none 0 0, .int .i64 0], .bool false]) (by simp [results, Tryd.results84, go_sem, P.c0, P.c1, P.c2]) rfl ?_
            exact ⟨put_below (below_step hB hB1) (Nat.le_refl _) _ _ _, .inr ⟨rfl, HN⟩⟩
          · have hp : 0 < q1.size := by omega
            have HB1 := Lib.hid (byte_at hp)
            have HB : Hid (q.data.toList[wdN k]? = some q1[0]) := Lib.hid (by
              have h4 := HB1.out
              rw [HQ1.out, List.getElem?_drop] at h4
              exact h4)
            have hbb : bitB q1[0] = true := by have := HQ1B.out; rw [List.all_eq_true] at this; exact this _ (List.mem_of_getElem? HB1.out)
            have HCH := Lib.hid (fun W' => changed_any k hk q1[0] hbb W')
            have HQ2 : Hid ((q1.extract 1 q1.size).data.toList = q.data.toList.drop (wdN k + 1)) := Lib.hid (by rw [ext_back, HQ1.out, List.drop_drop])
            have HQ2B : Hid ((q1.extract 1 q1.size).data.toList.all bitB = true) := Lib.hid (by rw [HQ2.out]; exact all_drop HQB.out _)
            have HS2 : Hid ((q1.extract 1 q1.size).size = q1.size - 1) := Lib.hid (by rw [ByteArray.size_extract]; omega)
            cases hc : chgF k q1[0] with
            | none =>
              have HN : Hid (rdT t = none) := Lib.hid (by rw [HR.out, rd_bad (by omega) h2 HB.out hc]; rfl)
              rw [hc] at HCH
              clear hc hbb HB HB1 HQ2 HQ2B HS2
              generalize wdN k = W at hsgn h1 hw t0 hq1 hqw HS1 HQ1 HSG hq1s
              have u1 : decide ((q.size : Int) < (W : Int)) = false := decide_eq_false (by omega)
              have u2 : decide ((q1.size : Int) < 2) = false := decide_eq_false (by omega)
              clear hfl hfl2 hfb h2 hq1s
              go_wp2_with (first
                | (go_at_call 101; refine hsgn.mono ?_; rintro e w1 ⟨qs, rfl, _, hB1, hQS⟩; have j0 : (qw.toList == qs.toList) = true := (by rw [Lib.toList_data, Lib.toList_data, hQS.out]; exact beq_iff_eq.2 HSG.out); have HM1 := Lib.hid (HM.out.below hB1 hMb); have HR11 := Lib.hid (HR1.out.below hB1 hRb); have m2 := HM1.out.c2; have f2 := HM1.out.f2; have g0 := HR11.out.f0; have g1 := HR11.out.f1; have g2 := HR11.out.f2; have r0 := HR11.out.c0; have r1 := HR11.out.c1; have r2 := HR11.out.c2)
                | (go_at_call 102; refine (HCH.out _).mono ?_; rintro e w2 ⟨rfl, rfl⟩; rw [st_none]))
              have P := HR11.out.put (.slice none 0 0) (.slice none 0 0) (.int .i64 0)
              refine bodyPost_ret (v := .tuple #[.agg #[.slice none 0 0, .slice none 0 0, .int .i64 0], .bool false]) (by simp [results, Tryd.results84, go_sem, P.c0, P.c1, P.c2]) rfl ?_
              exact ⟨put_below (below_step hB hB1) (Nat.le_refl _) _ _ _, .inr ⟨rfl, HN⟩⟩
            | some k' =>
              have hk' := chg_lt hk hc
              have HT : Hid (rdL k q.data.toList = addR [] 1 (rdL k' (q.data.toList.drop (wdN k + 1)))) := Lib.hid (rd_turn2 (by omega) h2 HB.out hc)
              rw [hc] at HCH
              clear hc hbb HB HB1
              generalize wdN k = W at hsgn h1 hw t0 hq1 hqw HS1 HQ1 HSG hq1s HT HQ2
              have u1 : decide ((q.size : Int) < (W : Int)) = false := decide_eq_false (by omega)
              have u2 : decide ((q1.size : Int) < 2) = false := decide_eq_false (by omega)
              clear hfl hfl2 hfb h2 hq1s
              go_wp2_with (first
                | (go_at_call 101; refine hsgn.mono ?_; rintro e w1 ⟨qs, rfl, _, hB1, hQS⟩; have j0 : (qw.toList == qs.toList) = true := (by rw [Lib.toList_data, Lib.toList_data, hQS.out]; exact beq_iff_eq.2 HSG.out); have HM1 := Lib.hid (HM.out.below hB1 hMb); have HR11 := Lib.hid (HR1.out.below hB1 hRb); have m2 := HM1.out.c2; have f2 := HM1.out.f2; have g0 := HR11.out.f0; have g1 := HR11.out.f1; have g2 := HR11.out.f2; have r0 := HR11.out.c0; have r1 := HR11.out.c1; have r2 := HR11.out.c2)
                | (go_at_call 102; refine (HCH.out _).mono ?_; rintro e w2 ⟨rfl, rfl⟩; rw [st_some]))
              have own1 := ownsRow_setCell_below (own_below hown1 hB1) (a := ⟨w.heap.size + 1, 2, none⟩) (by show w.heap.size + 1 < w.heap.size + 2; omega) (.int .i64 ((m : Int) + 1))
              have own2 := ownsRow_setCell_below (own_below hown2 hB1) (a := ⟨w.heap.size + 1, 2, none⟩) (by show w.heap.size + 1 < w.heap.size + 2; omega) (.int .i64 ((m : Int) + 1))
              have HM2 : At3 (w1.setCell ⟨w.heap.size + 1, 2, none⟩ (.int .i64 ((m : Int) + 1))) (w.heap.size + 1) (.slice A1 ps.length c1) (.slice A2 ps.length c2) (.int .i64 ((m + 1 : Nat) : Int)) := HM1.out.set 2 (.int .i64 ((m : Int) + 1))
              have HR2 := HR11.out.other (G := w.heap.size + 1) (i := 2) (u := .int .i64 ((m : Int) + 1)) (by omega)
              have hBW2 : Below w.heap.size w (w1.setCell ⟨w.heap.size + 1, 2, none⟩ (.int .i64 ((m : Int) + 1))) := (below_step hB hB1).setCell (by show w.heap.size ≤ w.heap.size + 1; omega) _
              have hsW2 : w.heap.size + 2 ≤ (w1.setCell ⟨w.heap.size + 1, 2, none⟩ (.int .i64 ((m : Int) + 1))).heap.size := by rw [set_size]; exact Nat.le_trans hS hB1.size
              generalize w1.setCell ⟨w.heap.size + 1, 2, none⟩ (.int .i64 ((m : Int) + 1)) = W2 at own1 own2 HM2 HR2 hBW2 hsW2 ⊢
              have HM3 := Lib.hid HM2
              have HR3 := Lib.hid HR2
              clear HM2 HR2
              go_quiet (fail)
              go_wp2
              have hs2 := HS2.out
              have hq1s := HS1.out
              go_roundw
              case rel => exact ⟨q1.extract 1 q1.size, ps, m + 1, k', _, _, rfl, rfl, hk', by omega, by omega, by omega, own_drewB own1 nq, own_drewB own2 nq, hsep, below_drewN hBW2 nq, hsW2, Lib.hid (HM3.out.drewN nq), Lib.hid (HR3.out.drewN nq), HQ2B, Lib.hid (by rw [HR.out, HT.out, addR_addR, HQ2.out, List.append_nil])⟩
              case measure => show (q1.extract 1 q1.size).size < q.size; omega
        · have HNS : Hid (qw.data.toList ≠ signL (wdN k)) := Lib.hid (by rw [HQW.out]; exact h2)
          have HRW : Hid (rdL k q.data.toList = addR [(numL qw.data.toList, k)] 0 (rdL k q1.data.toList)) := Lib.hid (by rw [HQW.out, HQ1.out]; exact rd_word (by omega) h2)
          have HWK : Hid ((wdL (ps.map Prod.snd) ++ [(wdN k : Int)]) = wdL ((ps ++ [(numL qw.data.toList, k)]).map Prod.snd)) := Lib.hid (by simp [wdL])
          have HNK : Hid ((ps.map Prod.fst ++ [numL qw.data.toList]) = ((ps ++ [(numL qw.data.toList, k)]).map Prod.fst)) := Lib.hid (by simp)
          generalize numL qw.data.toList = n at HC2 HRW HWK HNK
          generalize hWk : wdN k = W at hsgn h1 hw t0 hq1 hqw HS1 HQ1 HNS HWK
          have u1 : decide ((q.size : Int) < (W : Int)) = false := decide_eq_false (by omega)
          have hMb : w.heap.size + 1 < wr.heap.size := by omega
          have hMe : w.heap.size + 1 < w.heap.size + 2 := by omega
          clear hfl hfl2 hfb h2 hWk m1 m2 f1 f2 g0 g1 g2 r0 r1 r2
          go_wp2_with (go_at_call 101; refine hsgn.mono ?_; rintro e w1 ⟨qs, rfl, _, hB1, hQS⟩; have j0 : (qw.toList == qs.toList) = false := (by rw [Lib.toList_data, Lib.toList_data, hQS.out]; exact beq_eq_false_iff_ne.2 HNS.out))
          have own1 := own_below hown1 hB1
          have own2 := own_below hown2 hB1
          have HM1 := Lib.hid (HM.out.below hB1 hMb)
          have HR11 := Lib.hid (HR1.out.below hB1 (by omega : w.heap.size < wr.heap.size))
          have hBw1 := below_step hB hB1
          have hsz1 : w.heap.size + 2 ≤ w1.heap.size := Nat.le_trans hS hB1.size
          have c0 := HM1.out.c0
          have d0 := HM1.out.f0
          have hMw1 : w.heap.size + 1 < w1.heap.size := by omega
          clear m0 f0 t0
          have hnew := World.new_ne w1 ⟨w.heap.size + 1, 0, none⟩ c0
          go_region_law
            (first
              | (refine step_app_at _ rfl (.tmp 31) (.tmp 34) rfl (w.heap.size + 2) (.slice A1 ps.length c1) ps.length _ n rfl own1 rfl (by omega) hsz1 ?_; intro v1' w2 hA1; obtain ⟨B1, e1, rfl⟩ := app_shape hA1; have c0 := (hA1.2.1.cell (p := ⟨w.heap.size + 1, 0, none⟩) hMe).trans c0; have d0 := (hA1.2.1.frozen (p := ⟨w.heap.size + 1, 0, none⟩) hMe).trans d0)
              | (go_simp; go_wp2_with (go_at_call 70; refine (HC2.out _).mono ?_; rintro e w2 ⟨rfl, rfl⟩)))
          all_goals
            have HM2 := (HM1.out.below hA1.2.1 hMe).set 0 (.slice B1 (ps.length + 1) e1)
            have HR2 := (HR11.out.below hA1.2.1 (by omega)).other (G := w.heap.size + 1) (i := 0) (u := .slice B1 (ps.length + 1) e1) (by omega)
            have own1b := ownsRow_setCell_below hA1.1 (a := ⟨w.heap.size + 1, 0, none⟩) hMe (.slice B1 (ps.length + 1) e1)
            have own2b := ownsRow_setCell_below (own_keep2 own2 hA1.2.2.1 hsep) (a := ⟨w.heap.size + 1, 0, none⟩) hMe (.slice B1 (ps.length + 1) e1)
            have hs1 := sep_app own2 hsep hA1.2.2.2
            have hBW2 : Below w.heap.size w (w2.setCell ⟨w.heap.size + 1, 0, none⟩ (.slice B1 (ps.length + 1) e1)) := (hBw1.trans (hA1.2.1.mono (by omega))).setCell (by show w.heap.size ≤ w.heap.size + 1; omega) _
            have hsW2 : w.heap.size + 2 ≤ (w2.setCell ⟨w.heap.size + 1, 0, none⟩ (.slice B1 (ps.length + 1) e1)).heap.size := by rw [set_size]; exact Nat.le_trans hsz1 hA1.2.1.size
            clear c0 d0 hA1
            generalize w2.setCell ⟨w.heap.size + 1, 0, none⟩ (.slice B1 (ps.length + 1) e1) = W2 at HM2 HR2 own1b own2b hBW2 hsW2 ⊢
            have HM3 := Lib.hid HM2
            have HR3 := Lib.hid HR2
            have m1 := HM2.c1
            clear HM2 HR2 own1 own2 hown1 hown2 hsz1 hnew hMw1
            go_wp2_with (at_builtin; refine wp_app_at _ rfl (.tmp 38) (.tmp 40) rfl (w.heap.size + 2) (.slice A2 ps.length c2) ps.length _ W rfl own2b rfl (by omega) hsW2 ?_; intro v2' w3 hA2; obtain ⟨B2, e2, rfl⟩ := app_shape hA2; have m1 := (hA2.2.1.cell (p := ⟨w.heap.size + 1, 1, none⟩) hMe).trans m1; have f1 := (hA2.2.1.frozen (p := ⟨w.heap.size + 1, 1, none⟩) hMe).trans HM3.out.f1)
            have HM4 := (HM3.out.below hA2.2.1 hMe).set 1 (.slice B2 (ps.length + 1) e2)
            have HR4 := (HR3.out.below hA2.2.1 (by omega)).other (G := w.heap.size + 1) (i := 1) (u := .slice B2 (ps.length + 1) e2) (by omega)
            have own1c := ownsRow_setCell_below (own_keep2 own1b hA2.2.2.1 hs1.symm) (a := ⟨w.heap.size + 1, 1, none⟩) hMe (.slice B2 (ps.length + 1) e2)
            have own2c := ownsRow_setCell_below hA2.1 (a := ⟨w.heap.size + 1, 1, none⟩) hMe (.slice B2 (ps.length + 1) e2)
            have hs3 := sep_app own1b hs1.symm hA2.2.2.2
            have hpl : (ps ++ [(n, k)]).length = ps.length + 1 := by simp
            have hq1s := HS1.out
            go_roundw
            case rel => exact ⟨q1, ps ++ [(n, k)], m, k, .slice B1 (ps.length + 1) e1, .slice B2 (ps.length + 1) e2, rfl, rfl, hk, by omega, by omega, by omega, by rw [← HNK.out, hpl]; exact own1c, by rw [← HWK.out, hpl]; exact own2c, hs3.symm, (hBW2.trans (hA2.2.1.mono (by omega))).setCell (by show w.heap.size ≤ w.heap.size + 1; omega) _, by rw [set_size]; exact Nat.le_trans hsW2 hA2.2.1.size, Lib.hid HM4, Lib.hid HR4, HQ1B, Lib.hid (by rw [HR.out, HRW.out, addR_addR, Nat.add_zero])⟩
            case measure => show q1.size < q.size; omega
    · have hz : q.size = 0 := by omega
      have hnil : q.data.toList = [] := List.eq_nil_of_length_eq_zero (by omega)
      have i0 : q.toList.isEmpty = true := by rw [Lib.toList_data, hnil]; rfl
      have HR : Hid (rdT t = some (ps, m)) := Lib.hid (by rw [HR.out, hnil, rd_nil]; simp [addR])
      clear hnil hlen
      go_wp2
      have P := HR1.out.put (.slice A1 ps.length c1) (.slice A2 ps.length c2) (.int .i64 m)
      have hBP := put_below hB (Nat.le_refl w.heap.size) (.slice A1 ps.length c1) (.slice A2 ps.length c2) (.int .i64 m)
      have hn1 := own_any hown1 (fun g hg1 hg2 => put_other (W := wr) (M := w.heap.size) (.slice A1 ps.length c1) (.slice A2 ps.length c2) (.int .i64 m) g (by omega))
      have hn2 := own_any hown2 (fun g hg1 hg2 => put_other (W := wr) (M := w.heap.size) (.slice A1 ps.length c1) (.slice A2 ps.length c2) (.int .i64 m) g (by omega))
      refine bodyPost_ret (v := .tuple #[.agg #[.slice A1 ps.length c1, .slice A2 ps.length c2, .int .i64 m], .bool true]) (by simp [results, Tryd.results84, go_sem, P.c0, P.c1, P.c2]) rfl ?_
      obtain ⟨B1, d1, e1, hO1⟩ := own_ints hn1
      obtain ⟨B2, d2, e2, hO2⟩ := own_ints hn2
      refine ⟨hBP, .inl ⟨A1, A2, c1, c2, ps.map Prod.fst, wdL (ps.map Prod.snd), m, by rw [HL1.out, HL2.out], ?_, ?_, by omega, Lib.hid ⟨fr_own hn1, fr_own hn2⟩, Lib.hid ⟨_, HR.out, rfl, rfl, rfl⟩⟩⟩
      · injection e1 with j1 _ j2; subst j1 j2; exact hO1
      · injection e2 with j1 _ j2; subst j1 j2; exact hO2
end Go.Proofs.YtcmnjmhedmneiaaDoor
