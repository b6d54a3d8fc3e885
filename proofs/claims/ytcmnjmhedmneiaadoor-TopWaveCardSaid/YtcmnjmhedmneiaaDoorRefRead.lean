/-
  Contract: read (firnref03).
-/
import Derived.Test.YtcmnjmhedmneiaaDoorRdM
import Derived.Test.YtcmnjmhedmneiaaDoorTwo
import Derived.Test.YtcmnjmhedmneiaaDoorRefNumber
namespace Go.Proofs.YtcmnjmhedmneiaaDoor
open Go.RowKit Go.Shelf

theorem ext_list (q : ByteArray) (a b : Nat) : (q.extract a b).data.toList = (q.data.toList.take b).drop a := by
  simp [ByteArray.data_extract, List.drop_take]
theorem ext_front (q : ByteArray) (k : Nat) : (q.extract 0 k).data.toList = q.data.toList.take k := by rw [ext_list, List.drop_zero]
theorem ext_back (q : ByteArray) (k : Nat) : (q.extract k q.size).data.toList = q.data.toList.drop k := by
  rw [ext_list, List.take_of_length_le (by simp)]
theorem all_take {l : List UInt8} (h : l.all bitB = true) (k : Nat) : (l.take k).all bitB = true := by
  rw [List.all_eq_true] at h ⊢; exact fun b hb => h b (List.mem_of_mem_take hb)
theorem all_drop {l : List UInt8} (h : l.all bitB = true) (k : Nat) : (l.drop k).all bitB = true := by
  rw [List.all_eq_true] at h ⊢; exact fun b hb => h b (List.mem_of_mem_drop hb)
/-- Nothing is read where a sign of change stands last. -/
def stF (b : Bool) (l : List UInt8) (o : Reading) : Reading := if b = true ∧ l = [] then none else o
theorem st_off (l : List UInt8) (o : Reading) : stF false l o = o := by simp [stF]
theorem st_ne {b : Bool} {l : List UInt8} (h : l ≠ []) (o : Reading) : stF b l o = o := by simp [stF, h]
theorem rd_bad {k : Nat} {l : List UInt8} {b : UInt8} (h1 : wdN k < l.length) (h2 : l.take (wdN k) = signL (wdN k)) (hb : l[wdN k]? = some b) (hc : chgF k b = none) : rdL k l = none := by
  rcases Nat.lt_or_ge l.length (wdN k + 2) with h | h
  · exact rd_one (by omega) h2 h
  · rw [rd_chg h2 h hb, hc]; rfl
theorem rd_turn {k k' : Nat} {l : List UInt8} {b : UInt8} (h1 : wdN k < l.length) (h2 : l.take (wdN k) = signL (wdN k)) (hb : l[wdN k]? = some b) (hc : chgF k b = some k') : rdL k l = stF true (l.drop (wdN k + 1)) (addR [] 1 (rdL k' (l.drop (wdN k + 1)))) := by
  rcases Nat.lt_or_ge l.length (wdN k + 2) with h | h
  · rw [rd_one (by omega) h2 h, stF, if_pos ⟨rfl, List.drop_of_length_le (by omega)⟩]
  · rw [rd_chg h2 h hb, hc, Option.bind_some, st_ne]
    intro he
    have := congrArg List.length he
    rw [List.length_drop] at this
    simp at this
    omega
theorem st_add (b : Bool) (l : List UInt8) (ps : List (Int × Nat)) (c : Nat) (o : Reading) : addR ps c (stF b l o) = stF b l (addR ps c o) := by
  unfold stF
  split
  · rfl
  · rfl
/-- A word is the sign of change exactly if its number is the least one. -/
theorem num_sign {k : Nat} (hk : k < 5) {l : List UInt8} (hl : l.length = wdN k) (hb : l.all bitB = true) : (numL l = -halfN (wdN k)) ↔ l = signL (wdN k) := by
  constructor
  · intro h
    have := (num_back hk hl hb).2
    rw [h, (sign_word k hk).2] at this
    exact this.symm
  · rintro rfl
    have h1 := sign_word k hk
    rw [← h1.2]
    exact num_there hk h1.1
theorem num_bd {k : Nat} (hk : k < 5) {l : List UInt8} (hl : l.length = wdN k) (hb : l.all bitB = true) : -1024 ≤ numL l ∧ numL l ≤ 1023 := by
  have h := (num_back hk hl hb).1
  have h2 := half_bd (wdN k) (by have := wd_bd k; omega)
  simp only [inwB, decide_eq_true_eq] at h
  omega

theorem chg_up {k : Nat} (h : k < 4) : chgF k 49 = some (k + 1) := by unfold chgF; rw [if_pos rfl, if_pos h]
theorem chg_top {k : Nat} (h : ¬ k < 4) : chgF k 49 = none := by unfold chgF; rw [if_pos rfl, if_neg h]
theorem chg_down {k : Nat} (h : 0 < k) : chgF k 48 = some (k - 1) := by unfold chgF; rw [if_neg (by decide), if_pos rfl, if_pos h]
theorem chg_bottom {k : Nat} (h : ¬ 0 < k) : chgF k 48 = none := by unfold chgF; rw [if_neg (by decide), if_pos rfl, if_neg h]

theorem results_tmp4 {fn : Func} {t u v x : Tmp} (h : fn.results = #[.tmp t, .tmp u, .tmp v, .tmp x]) (tmps : Array Value) (P : Program) (w : World) :
    (results fn tmps).run P w = .ok (.tuple #[tmps.getD t undef, tmps.getD u undef, tmps.getD v undef, tmps.getD x undef]) w := by
  simp [results, h]

/-- What the reading leaves, of two lists, a number and a yes or no. -/
def RdRes (t : ByteArray) (e : Ending) (w w' : World) : Prop :=
  Below w.heap.size w w' ∧
  ((∃ (A B : Option Addr) (c d : Nat) (zs ws : List Int) (m : Nat), e = .returned (.tuple #[.slice A zs.length c, .slice B ws.length d, .int .i64 m, .bool true]) ∧ Out w' A c zs ∧ Out w' B d ws ∧ m ≤ 1000 ∧ Hid (zs ≠ []) ∧ Hid (∃ x, rdT t = some x ∧ zs = dsO x ∧ ws = wsO x ∧ m = x.2)) ∨
   (∃ v1 v2 v3 : Value, e = .returned (.tuple #[v1, v2, v3, .bool false]) ∧ Hid (rdT t = none ∨ ∃ x, rdT t = some x ∧ dsO x = [])))

set_option maxRecDepth 100000 in
set_option maxHeartbeats 4000000 in
theorem refread_any (t : ByteArray) (w : World) (hb : vbB t = true) :
    Calls Tryd.prog 100 #[.string t] w fun e w' => RdRes t e w w' := by
  obtain ⟨ht, hbits⟩ := vb_parts hb
  have HBT := Lib.hid hbits
  clear hb hbits
  go_enter Tryd.func100, Tryd.ntmps100
  go_wp2
  go_loopw [0, 2, 3, 4, 6, 7] (fun tx s2 s3 c kk ch wr => ∃ (q : ByteArray) (ps : List (Int × Nat)) (m k : Nat) (b : Bool) (v1 v2 : Value), v1 = s2 ∧ v2 = s3 ∧ tx = .string q ∧ c = .int .i64 m ∧ kk = .int .i64 k ∧ ch = .bool b ∧ k < 5 ∧ q.size ≤ 1000 ∧ m + q.size ≤ 1000 ∧ ps.length + q.size ≤ 1000 ∧
    wr.ownsRow w.heap.size 3 1 v1 ps.length ((ps.map Prod.fst).map (Value.int .i64)) ∧ wr.ownsRow w.heap.size 3 1 v2 ps.length ((wdL (ps.map Prod.snd)).map (Value.int .i64)) ∧ Sep v1 v2 ∧ Below w.heap.size w wr ∧
    Hid (q.data.toList.all bitB = true) ∧ Hid (rdT t = stF b q.data.toList (addR ps m (rdL k q.data.toList)))) (fun tx _ _ _ _ _ _ => match tx with | .string q => q.size | _ => 0)
  case atStart => exact ⟨t, [], 0, 2, false, _, _, rfl, rfl, rfl, rfl, rfl, rfl, by omega, ht, by omega, by simpa using ht, World.ownsRow_nil _ _ _ _, World.ownsRow_nil _ _ _ _, sep_none, Below.refl _ _, HBT, Lib.hid (by rw [st_off, addR_zero]; rfl)⟩
  case round =>
    obtain ⟨q, ps, m, k, b, v1, v2, rfl, rfl, rfl, rfl, rfl, rfl, hk, hq, hmq, hpq, hown1, hown2, hsep, hB, HQB, HR⟩ := hrel
    have hsz := hB.size
    have hlen : q.data.toList.length = q.size := by simp
    by_cases hlt : 0 < q.size
    · have u0 : decide (0 < (q.size : Int)) = true := decide_eq_true (by omega)
      have hne : q.data.toList ≠ [] := by intro he; rw [he] at hlen; simp at hlen; omega
      have HR : Hid (rdT t = addR ps m (rdL k q.data.toList)) := Lib.hid (by rw [HR.out, st_ne hne])
      have c1 := refwidth_any k hk wr
      have hw := wd_bd k
      by_cases h1 : q.size < wdN k
      · have HN : Hid (rdT t = none) := Lib.hid (by rw [HR.out, rd_short hne (by omega)]; rfl)
        generalize wdN k = W at c1 h1 hw
        have u1 : decide ((q.size : Int) < (W : Int)) = true := decide_eq_true (by omega)
        go_wp2_with (go_at_call 76; refine c1.mono ?_; rintro e w1 ⟨rfl, rfl⟩)
        ((try simp only [Exit.inBlock, Exit.then]); refine bodyPost_ret (results_tmp4 rfl _ _ _) rfl ?_)
        exact ⟨hB, .inr ⟨_, _, _, rfl, Lib.hid (.inl HN.out)⟩⟩
      · have hfl : (q.extract 0 (wdN k)).size = wdN k := by rw [ByteArray.size_extract]; omega
        have hfb : bitsB (q.extract 0 (wdN k)) = true := by rw [bitsB, ext_front]; exact all_take HQB.out _
        have hfl2 : (q.data.toList.take (wdN k)).length = wdN k := by rw [List.length_take]; omega
        have c2 := refnumber_any (q.extract 0 (wdN k)) wr (by omega) (by omega) hfb
        have c3 := refhalf_any (wdN k) (by omega) (by omega) wr
        have hnb := num_bd hk hfl2 (all_take HQB.out _)
        have hns := num_sign hk hfl2 (all_take HQB.out _)
        have hhb := half_bd (wdN k) (by omega)
        have HQ1 : Hid ((q.extract (wdN k) q.size).data.toList = q.data.toList.drop (wdN k)) := Lib.hid (ext_back q _)
        have HQ1B : Hid ((q.extract (wdN k) q.size).data.toList.all bitB = true) := Lib.hid (by rw [HQ1.out]; exact all_drop HQB.out _)
        have s1 : (q.extract (wdN k) q.size).size = q.size - wdN k := by rw [ByteArray.size_extract]; omega
        rw [ext_front] at c2
        by_cases h2 : numL (q.data.toList.take (wdN k)) = -halfN (wdN k)
        · have hsg := hns.1 h2
          clear hns hhb
          by_cases h3 : q.size = wdN k
          · have HN : Hid (rdT t = none) := Lib.hid (by rw [HR.out, rd_one (by omega) hsg (by omega)]; rfl)
            have s2 : (q.extract (wdN k) q.size).size = 0 := by omega
            generalize numL (q.data.toList.take (wdN k)) = n at c2 hnb h2
            generalize halfN (wdN k) = h at c3 h2
            generalize wdN k = W at c1 c2 c3 h1 hw hfl HQ1 HQ1B s1 s2 h3 hfl2 hsg
            have u1 : decide ((q.size : Int) < (W : Int)) = false := decide_eq_false (by omega)
            have u2 : (n != -h) = false := by simp [h2]
            clear hsg hfl hfl2 hfb
            go_wp2_with (first
              | (go_at_call 76; refine c1.mono ?_; rintro e w1 ⟨rfl, rfl⟩)
              | (go_at_call 71; refine c2.mono ?_; rintro e w1 ⟨rfl, rfl⟩)
              | (go_at_call 68; refine c3.mono ?_; rintro e w1 ⟨rfl, rfl⟩))
            ((try simp only [Exit.inBlock, Exit.then]); refine bodyPost_ret (results_tmp4 rfl _ _ _) rfl ?_)
            exact ⟨hB, .inr ⟨_, _, _, rfl, Lib.hid (.inl HN.out)⟩⟩
          · obtain ⟨q1, hq1⟩ : ∃ q1, q.extract (wdN k) q.size = q1 := ⟨_, rfl⟩
            rw [hq1] at HQ1 HQ1B s1
            have hp : 0 < q1.size := by omega
            have HB1 := Lib.hid (byte_at hp)
            have HB : Hid (q.data.toList[wdN k]? = some q1[0]) := Lib.hid (by
              have h4 := HB1.out
              rw [HQ1.out, List.getElem?_drop] at h4
              exact h4)
            have hbb := bit_two (by have := HQ1B.out; rw [List.all_eq_true] at this; exact this _ (List.mem_of_getElem? HB1.out))
            have HRC := Lib.hid (fun (b : UInt8) (hb : q.data.toList[wdN k]? = some b) => rd_bad (k := k) (b := b) (by omega) hsg hb)
            have HRT := Lib.hid (fun (b : UInt8) (k' : Nat) (hb : q.data.toList[wdN k]? = some b) => rd_turn (k := k) (k' := k') (b := b) (by omega) hsg hb)
            have HQ2 : Hid ((q1.extract 1 q1.size).data.toList = q.data.toList.drop (wdN k + 1)) := Lib.hid (by rw [ext_back, HQ1.out, List.drop_drop])
            have HQ2B : Hid ((q1.extract 1 q1.size).data.toList.all bitB = true) := Lib.hid (by rw [HQ2.out]; exact all_drop HQB.out _)
            have HS2 : Hid ((q1.extract 1 q1.size).size = q1.size - 1) := Lib.hid (by rw [ByteArray.size_extract]; omega)
            have HS1 : Hid (q1.size = q.size - wdN k) := Lib.hid s1
            have u5 : ((q1.size : Int) == 0) = false := beq_eq_false_iff_ne.2 (by omega)
            clear s1
            rcases hbb with hb0 | hb0
            · have HE : Hid (q1[0] = 48) := Lib.hid (UInt8.toNat_inj.1 (by rw [hb0]; rfl))
              have u3 : ((q1[0].toNat : Int) == 49) = false := by rw [hb0]; rfl
              by_cases hk0 : 0 < k
              · have HT : Hid (rdL k q.data.toList = stF true (q.data.toList.drop (wdN k + 1)) (addR [] 1 (rdL (k - 1) (q.data.toList.drop (wdN k + 1))))) := Lib.hid (HRT.out _ _ HB.out (by rw [HE.out]; exact chg_down hk0))
                clear HRC HRT HB HB1 HE HQ1 HQ1B hb0
                generalize numL (q.data.toList.take (wdN k)) = n at c2 hnb h2
                generalize halfN (wdN k) = h at c3 h2
                generalize wdN k = W at c1 c2 c3 h1 hw hfl h3 hfl2 hsg HQ2 HT hq1 HS1
                have u1 : decide ((q.size : Int) < (W : Int)) = false := decide_eq_false (by omega)
                have u2 : (n != -h) = false := by simp [h2]
                have u6 : decide ((k : Int) - 1 < 0) = false := decide_eq_false (by omega)
                have u7 : decide (5 ≤ (k : Int) - 1) = false := decide_eq_false (by omega)
                have u8 : IntKind.i64.wrap ((k : Int) - 1) = (k : Int) - 1 := IntWalk.i64_in _ (by omega)
                clear hsg hfl hfl2 hfb
                go_wp2_with (first
                  | (go_at_call 76; refine c1.mono ?_; rintro e w1 ⟨rfl, rfl⟩)
                  | (go_at_call 71; refine c2.mono ?_; rintro e w1 ⟨rfl, rfl⟩)
                  | (go_at_call 68; refine c3.mono ?_; rintro e w1 ⟨rfl, rfl⟩))
                have hs1 := HS1.out
                have hs2 := HS2.out
                go_roundw
                case rel => exact ⟨_, ps, m + 1, k - 1, true, v1, v2, rfl, rfl, rfl, by go_num, by rw [show ((k - 1 : Nat) : Int) = (k : Int) - 1 by omega], rfl, by omega, by omega, by omega, by omega, hown1, hown2, hsep, hB, HQ2B, Lib.hid (by rw [HR.out, HT.out, st_add, addR_addR, HQ2.out, List.append_nil])⟩
                case measure => show (q1.extract 1 q1.size).size < q.size; omega
              · have HN : Hid (rdT t = none) := Lib.hid (by rw [HR.out, HRC.out _ HB.out (by rw [HE.out]; exact chg_bottom hk0)]; rfl)
                clear HRC HRT HB HB1 HE HQ1 HQ1B hb0
                generalize numL (q.data.toList.take (wdN k)) = n at c2 hnb h2
                generalize halfN (wdN k) = h at c3 h2
                generalize wdN k = W at c1 c2 c3 h1 hw hfl h3 hfl2 hsg HQ2  hq1 HS1
                have u1 : decide ((q.size : Int) < (W : Int)) = false := decide_eq_false (by omega)
                have u2 : (n != -h) = false := by simp [h2]
                have u6 : decide ((k : Int) - 1 < 0) = true := decide_eq_true (by omega)
                have u8 : IntKind.i64.wrap ((k : Int) - 1) = (k : Int) - 1 := IntWalk.i64_in _ (by omega)
                clear hsg hfl hfl2 hfb
                go_wp2_with (first
                  | (go_at_call 76; refine c1.mono ?_; rintro e w1 ⟨rfl, rfl⟩)
                  | (go_at_call 71; refine c2.mono ?_; rintro e w1 ⟨rfl, rfl⟩)
                  | (go_at_call 68; refine c3.mono ?_; rintro e w1 ⟨rfl, rfl⟩))
                ((try simp only [Exit.inBlock, Exit.then]); refine bodyPost_ret (results_tmp4 rfl _ _ _) rfl ?_)
                exact ⟨hB, .inr ⟨_, _, _, rfl, Lib.hid (.inl HN.out)⟩⟩
            · have HE : Hid (q1[0] = 49) := Lib.hid (UInt8.toNat_inj.1 (by rw [hb0]; rfl))
              have u3 : ((q1[0].toNat : Int) == 49) = true := by rw [hb0]; rfl
              by_cases hk0 : k < 4
              · have HT : Hid (rdL k q.data.toList = stF true (q.data.toList.drop (wdN k + 1)) (addR [] 1 (rdL (k + 1) (q.data.toList.drop (wdN k + 1))))) := Lib.hid (HRT.out _ _ HB.out (by rw [HE.out]; exact chg_up hk0))
                clear HRC HRT HB HB1 HE HQ1 HQ1B hb0
                generalize numL (q.data.toList.take (wdN k)) = n at c2 hnb h2
                generalize halfN (wdN k) = h at c3 h2
                generalize wdN k = W at c1 c2 c3 h1 hw hfl h3 hfl2 hsg HQ2 HT hq1 HS1
                have u1 : decide ((q.size : Int) < (W : Int)) = false := decide_eq_false (by omega)
                have u2 : (n != -h) = false := by simp [h2]
                have u6 : decide ((k : Int) + 1 < 0) = false := decide_eq_false (by omega)
                have u7 : decide (5 ≤ (k : Int) + 1) = false := decide_eq_false (by omega)
                have u8 : IntKind.i64.wrap ((k : Int) + 1) = (k : Int) + 1 := IntWalk.i64_in _ (by omega)
                clear hsg hfl hfl2 hfb
                go_wp2_with (first
                  | (go_at_call 76; refine c1.mono ?_; rintro e w1 ⟨rfl, rfl⟩)
                  | (go_at_call 71; refine c2.mono ?_; rintro e w1 ⟨rfl, rfl⟩)
                  | (go_at_call 68; refine c3.mono ?_; rintro e w1 ⟨rfl, rfl⟩))
                have hs1 := HS1.out
                have hs2 := HS2.out
                go_roundw
                case rel => exact ⟨_, ps, m + 1, k + 1, true, v1, v2, rfl, rfl, rfl, by go_num, by rw [show ((k + 1 : Nat) : Int) = (k : Int) + 1 by omega], rfl, by omega, by omega, by omega, by omega, hown1, hown2, hsep, hB, HQ2B, Lib.hid (by rw [HR.out, HT.out, st_add, addR_addR, HQ2.out, List.append_nil])⟩
                case measure => show (q1.extract 1 q1.size).size < q.size; omega
              · have HN : Hid (rdT t = none) := Lib.hid (by rw [HR.out, HRC.out _ HB.out (by rw [HE.out]; exact chg_top hk0)]; rfl)
                clear HRC HRT HB HB1 HE HQ1 HQ1B hb0
                generalize numL (q.data.toList.take (wdN k)) = n at c2 hnb h2
                generalize halfN (wdN k) = h at c3 h2
                generalize wdN k = W at c1 c2 c3 h1 hw hfl h3 hfl2 hsg HQ2  hq1 HS1
                have u1 : decide ((q.size : Int) < (W : Int)) = false := decide_eq_false (by omega)
                have u2 : (n != -h) = false := by simp [h2]
                have u6 : decide ((k : Int) + 1 < 0) = false := decide_eq_false (by omega)
                have u7 : decide (5 ≤ (k : Int) + 1) = true := decide_eq_true (by omega)
                have u8 : IntKind.i64.wrap ((k : Int) + 1) = (k : Int) + 1 := IntWalk.i64_in _ (by omega)
                clear hsg hfl hfl2 hfb
                go_wp2_with (first
                  | (go_at_call 76; refine c1.mono ?_; rintro e w1 ⟨rfl, rfl⟩)
                  | (go_at_call 71; refine c2.mono ?_; rintro e w1 ⟨rfl, rfl⟩)
                  | (go_at_call 68; refine c3.mono ?_; rintro e w1 ⟨rfl, rfl⟩))
                ((try simp only [Exit.inBlock, Exit.then]); refine bodyPost_ret (results_tmp4 rfl _ _ _) rfl ?_)
                exact ⟨hB, .inr ⟨_, _, _, rfl, Lib.hid (.inl HN.out)⟩⟩
        · have HW : Hid (rdL k q.data.toList = addR [(numL (q.data.toList.take (wdN k)), k)] 0 (rdL k (q.data.toList.drop (wdN k)))) := Lib.hid (rd_word (by omega) (fun e => h2 (hns.2 e)))
          have HWK : Hid ((wdL (ps.map Prod.snd) ++ [(wdN k : Int)]) = wdL ((ps ++ [(numL (q.data.toList.take (wdN k)), k)]).map Prod.snd)) := Lib.hid (by simp [wdL])
          have HNK : Hid ((ps.map Prod.fst ++ [numL (q.data.toList.take (wdN k))]) = ((ps ++ [(numL (q.data.toList.take (wdN k)), k)]).map Prod.fst)) := Lib.hid (by simp)
          generalize numL (q.data.toList.take (wdN k)) = n at c2 hnb hns h2 HW HWK HNK
          generalize halfN (wdN k) = h at c3 hnb hns h2 hhb
          generalize wdN k = W at c1 c2 c3 h1 hw hfl HQ1 HQ1B s1 HW HWK
          have u1 : decide ((q.size : Int) < (W : Int)) = false := decide_eq_false (by omega)
          have u2 : (n != -h) = true := by simpa using h2
          clear hns hfl hfl2 hfb
          go_wp2_with (first
            | (go_at_call 76; refine c1.mono ?_; rintro e w1 ⟨rfl, rfl⟩)
            | (go_at_call 71; refine c2.mono ?_; rintro e w1 ⟨rfl, rfl⟩)
            | (go_at_call 68; refine c3.mono ?_; rintro e w1 ⟨rfl, rfl⟩)
            | (at_builtin; refine wp_app_at _ rfl (.tmp 31) (.tmp 33) rfl w.heap.size v1 ps.length _ n rfl hown1 rfl (by omega) hsz ?_; intro v1' w2 hA1; have hsz2 := Nat.le_trans hsz hA1.2.1.size)
            | (at_builtin; refine wp_app_at _ rfl (.tmp 35) (.tmp 37) rfl w.heap.size v2 ps.length _ W rfl (own_keep2 hown2 hA1.2.2.1 hsep) rfl (by omega) hsz2 ?_; intro v2' w3 hA2))
          have hs1 := sep_app hown2 hsep hA1.2.2.2
          have hs2 : Sep v2 v1' := hs1.symm
          have hs3 := sep_app hA1.1 hs2 hA2.2.2.2
          go_roundw
          case rel => exact ⟨q.extract W q.size, ps ++ [(n, k)], m, k, false, v1', v2', rfl, rfl, rfl, rfl, rfl, rfl, hk, by omega, by omega, by rw [List.length_append, List.length_singleton]; omega, by rw [← HNK.out, List.length_append, List.length_singleton]; exact own_keep2 hA1.1 hA2.2.2.1 hs2, by rw [← HWK.out, List.length_append, List.length_singleton]; exact hA2.1, hs3.symm, hB.trans (hA1.2.1.trans hA2.2.1), HQ1B, Lib.hid (by rw [HR.out, HW.out, addR_addR, Nat.add_zero, st_off, HQ1.out])⟩
          case measure => show (q.extract W q.size).size < q.size; omega
    · have hz : q.size = 0 := by omega
      have hnil : q.data.toList = [] := List.eq_nil_of_length_eq_zero (by omega)
      have u0 : decide (0 < (q.size : Int)) = false := decide_eq_false (by omega)
      have HR : Hid (rdT t = if b = true then none else some (ps, m)) := Lib.hid (by
        rw [HR.out, hnil, rd_nil, stF]
        cases b with
        | true => rfl
        | false => simp [addR])
      obtain ⟨A1, c1, e1, hO1⟩ := own_ints hown1
      obtain ⟨A2, c2, e2, hO2⟩ := own_ints hown2
      have hl1 : (ps.map Prod.fst).length = ps.length := by simp
      have hl2 : (wdL (ps.map Prod.snd)).length = ps.length := by simp [wdL]
      have HO1 := Lib.hid hO1
      have HO2 := Lib.hid hO2
      have HL1 := Lib.hid hl1
      have HL2 := Lib.hid hl2
      rw [hl1] at e1
      rw [hl2] at e2
      subst e1 e2
      clear hnil hlen hown1 hown2 hsep hO1 hO2 hl1 hl2
      by_cases hp : ps.length = 0
      · have v0 : decide (0 < (ps.length : Int)) = false := decide_eq_false (by omega)
        have HN : Hid (rdT t = none ∨ ∃ x, rdT t = some x ∧ dsO x = []) := Lib.hid (by
          obtain rfl := List.eq_nil_of_length_eq_zero hp
          rw [HR.out]
          cases b with
          | true => exact .inl rfl
          | false => exact .inr ⟨_, rfl, rfl⟩)
        go_wp2
        ((try simp only [Exit.inBlock, Exit.then]); refine bodyPost_ret (results_tmp4 rfl _ _ _) rfl ?_)
        exact ⟨hB, .inr ⟨_, _, _, rfl, HN⟩⟩
      · have v0 : decide (0 < (ps.length : Int)) = true := decide_eq_true (by omega)
        cases b with
        | true =>
          go_wp2
          ((try simp only [Exit.inBlock, Exit.then]); refine bodyPost_ret (results_tmp4 rfl _ _ _) rfl ?_)
          exact ⟨hB, .inr ⟨_, _, _, rfl, Lib.hid (.inl HR.out)⟩⟩
        | false =>
          go_wp2
          ((try simp only [Exit.inBlock, Exit.then]); refine bodyPost_ret (results_tmp4 rfl _ _ _) rfl ?_)
          exact ⟨hB, .inl ⟨A1, A2, c1, c2, ps.map Prod.fst, wdL (ps.map Prod.snd), m, by rw [HL1.out, HL2.out]; rfl, HO1.out, HO2.out, by omega, Lib.hid (by intro he; have := congrArg List.length he; rw [HL1.out] at this; exact hp this), Lib.hid ⟨_, HR.out, rfl, rfl, rfl⟩⟩⟩
end Go.Proofs.YtcmnjmhedmneiaaDoor
