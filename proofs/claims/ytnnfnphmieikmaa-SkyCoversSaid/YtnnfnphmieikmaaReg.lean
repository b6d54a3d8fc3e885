/-
  Contracts: size, first, add, has.
-/
import Derived.Test.YtnnfnphmieikmaaArea5
namespace Go.Proofs.Ytnnfnphmieikmaa
open Go Go.RowKit Go.Shelf

theorem size_any (o : Nat) (ho : o < 5) (p : Int) (w : World) :
    Calls Try.prog 100 #[.agg #[.int .i64 (o : Int), .int .i64 p]] w fun e w' => e = .returned (.int .i64 (wN o : Nat)) ∧ Below w.heap.size w w' := by
  obtain rfl | rfl | rfl | rfl | rfl := five ho
  all_goals
    go_enter Try.func100, Try.ntmps100
    go_wp2
    go_ret
    exact ⟨rfl, (by repeat (first | with_reducible exact Below.refl _ _ | with_reducible assumption | refine below_drewN ?_ _ | with_reducible refine Below.drew ?_ | (refine Below.setCell ?_ (by first | (simp; done) | (simp; omega) | omega) _) | (refine Below.alloc ?_ (by first | (simp; done) | (simp; omega) | omega) _)))⟩
set_option maxRecDepth 100000 in
theorem first_any (o p : Nat) (ho : o < 5) (hp : p ≤ 3072) (w : World) :
    Calls Try.prog 121 #[.agg #[.int .i64 (o : Int), .int .i64 (p : Int)]] w fun e w' => e = .returned (.int .i64 ((p * wN o : Nat) : Int)) ∧ Below w.heap.size w w' := by
  have CS := Lib.hid (fun W => size_any o ho (p : Int) W)
  have hS2 := wN_le o
  generalize wN o = S at *
  have hb : p * S ≤ 3072 * 256 := Nat.mul_le_mul hp hS2
  have s1 : IntKind.i64.wrap ((p : Int) * (S : Int)) = ((p * S : Nat) : Int) := by rw [← Int.natCast_mul]; exact IntWalk.i64_in _ (by omega)
  go_enter Try.func121, Try.ntmps121
  go_wp2
  have c0 := cell_new w #[.int .i64 (o : Int), .int .i64 (p : Int)] 43 0 (u := .int .i64 (o : Int)) rfl
  have c1 := cell_new w #[.int .i64 (o : Int), .int .i64 (p : Int)] 43 1 (u := .int .i64 (p : Int)) rfl
  go_region_held3 (fun W => W.cell? ⟨w.heap.size, 0, none⟩ = some (.int .i64 (o : Int)) ∧ W.cell? ⟨w.heap.size, 1, none⟩ = some (.int .i64 (p : Int)))
    ((first | with_reducible exact ⟨c0, c1⟩ | exact ⟨c0, c1⟩))
    ((go_at_call 100; refine (CS.out _).mono ?_; rintro e w3 ⟨rfl, hB3⟩; have c0 := (hB3.cell (p := ⟨w.heap.size, 0, none⟩) (by simp)).trans c0; have c1 := (hB3.cell (p := ⟨w.heap.size, 1, none⟩) (by simp)).trans c1; have HB3 : Hid (Below w.heap.size w w3) := Lib.hid (Below.trans (by first | exact Below.alloc (Below.refl _ _) (Nat.le_refl _) _ | exact Below.drew (Below.alloc (Below.refl _ _) (Nat.le_refl _) _) | exact below_drewN (Below.alloc (Below.refl _ _) (Nat.le_refl _) _) _) (hB3.mono (by simp))); clear hB3))
  all_goals
    go_wp2
    go_ret
    exact ⟨rfl, (by first | exact HB3.out | exact below_drewN HB3.out _)⟩

def regC (P : Nat → Bool) : Array Value := ((List.range 48).map fun n => Value.int .u64 (wordAt P n : Nat)).toArray
theorem regC_size (P : Nat → Bool) : (regC P).size = 48 := by simp [regC]
theorem regC_get {P : Nat → Bool} {n : Nat} (h : n < 48) : (regC P)[n]? = some (.int .u64 (wordAt P n : Nat)) := by
  simp only [regC, List.getElem?_toArray, List.getElem?_map, List.getElem?_range h]; rfl
/-- A region in memory. -/
def Reg (w : World) (g : Nat) (P : Nat → Bool) : Prop := w.heap[g]? = some (.cells (regC P) 91 (0, 0))
theorem Reg.lt {w : World} {g : Nat} {P : Nat → Bool} (h : Reg w g P) : g < w.heap.size := (Array.getElem?_eq_some_iff.1 h).1
theorem Reg.below {w w' : World} {g : Nat} {P : Nat → Bool} (h : Reg w g P) (hb : Below w.heap.size w w') : Reg w' g P := (hb.block g h.lt).trans h
theorem Reg.cell {w : World} {g n : Nat} {P : Nat → Bool} (h : Reg w g P) (hn : n < 48) : w.cell? ⟨g, n, none⟩ = some (.int .u64 (wordAt P n : Nat)) := blk_cell h n (regC_get hn)
theorem regC_ext {P : Nat → Bool} {cs : Array Value} (hs : cs.size = 48) (h : ∀ n, n < 48 → cs[n]? = some (.int .u64 (wordAt P n : Nat))) : cs = regC P := by
  refine Array.ext_getElem? fun n => ?_
  by_cases hn : n < 48
  · rw [h n hn, regC_get hn]
  · rw [Array.getElem?_eq_none (by omega), Array.getElem?_eq_none (by rw [regC_size]; omega)]
theorem regC_congr {P R : Nat → Bool} (h : ∀ q, q < 3072 → P q = R q) : regC P = regC R :=
  (regC_ext (regC_size P) fun n hn => by rw [regC_get hn, word_congr (P := P) (R := R) fun b hb => h _ (by omega)])
theorem Reg.congr {w : World} {g : Nat} {P R : Nat → Bool} (h : Reg w g P) (e : ∀ q, q < 3072 → P q = R q) : Reg w g R := by
  unfold Reg at *; rwa [← regC_congr e]
theorem Reg.word {w : World} {g n : Nat} {P R : Nat → Bool} {v : Nat} (h : Reg w g P) (hv : v = wordAt R n) (e : ∀ m, m < 48 → m ≠ n → wordAt R m = wordAt P m) : Reg (w.setCell ⟨g, n, none⟩ (.int .u64 (v : Nat))) g R := by
  unfold Reg at *
  rw [heap_setCell_same w g n _ _ _ h]
  congr 2
  refine regC_ext (by simp [regC_size]) fun m hm => ?_
  rw [Array.getElem?_setIfInBounds]
  by_cases hmn : n = m
  · subst hmn; rw [if_pos rfl, if_pos (by rw [regC_size]; exact hm), hv]
  · rw [if_neg hmn, regC_get hm, e m hm (fun h => hmn h.symm)]
theorem pow_u64 {b : Nat} (hb : b < 64) : IntKind.u64.wrap (2 ^ b) = ((2 ^ b : Nat) : Int) := by
  have h : 2 ^ b < 18446744073709551616 := Nat.lt_of_lt_of_eq (Nat.pow_lt_pow_right (a := 2) (by omega) hb) rfl
  rw [IntKind.wrap_u64, show ((2 : Int) ^ b) = ((2 ^ b : Nat) : Int) by simp]
  generalize 2 ^ b = z at *
  omega
theorem put_u64 (P : Nat → Bool) (n : Nat) {b : Nat} (hb : b < 64) : bits BinOp.or IntKind.u64 ((wordAt P n : Nat) : Int) (IntKind.u64.wrap (2 ^ b)) = ((wordAt (fun q => P q || decide (q = 64 * n + b)) n : Nat) : Int) := by
  have h := Nat.pow_lt_pow_right (a := 2) (by omega) hb
  have h2 := word_lt P n
  rw [pow_u64 hb, u64_or_nat _ _ (by omega) (by omega), word_put, show (64 * n + b) / 64 = n by omega, show (64 * n + b) % 64 = b by omega, if_pos rfl]
theorem put_other (P : Nat → Bool) {n m b : Nat} (hb : b < 64) (h : m ≠ n) : wordAt (fun q => P q || decide (q = 64 * n + b)) m = wordAt P m := by
  rw [word_put, if_neg (by omega)]
theorem test_u64 (P : Nat → Bool) {n b : Nat} (hb : b < 64) : bits BinOp.and IntKind.u64 (((wordAt P n : Nat) : Int) / 2 ^ b) 1 = if P (64 * n + b) then 1 else 0 := by
  have h2 := word_lt P n
  have e : ((wordAt P n : Nat) : Int) / 2 ^ b = ((wordAt P n / 2 ^ b : Nat) : Int) := by simp
  have h3 := Nat.div_le_self (wordAt P n) (2 ^ b)
  have h4 := word_test P (64 * n + b)
  rw [show (64 * n + b) / 64 = n by omega, show (64 * n + b) % 64 = b by omega] at h4
  rw [e, show (1 : Int) = ((1 : Nat) : Int) from rfl, u64_and_nat _ _ (by omega) (by omega), nat_mask1, h4]
  split <;> rfl
/-- Only one block has turned. -/
def Only (a w : World) (g : Nat) : Prop := a.grownBy w (some g)
theorem Only.refl (w : World) (g : Nat) : Only w w g := World.grownBy.refl w _
theorem Only.step {a w w1 : World} {g : Nat} (h : Only a w g) (hb : Below w.heap.size w w1) : Only a w1 g :=
  ⟨hb.os.trans h.os, hb.tape.trans h.tape, hb.output.trans h.output, Nat.le_trans h.size hb.size, fun i hi hn => (hb.block i (Nat.lt_of_lt_of_le hi h.size)).trans (h.block i hi hn)⟩
theorem Only.set_ {a w : World} {g i : Nat} (h : Only a w g) (u : Value) : Only a (w.setCell ⟨g, i, none⟩ u) g :=
  ⟨h.os, h.tape, h.output, by simpa [World.setCell] using h.size, fun j hj hne => (Below.heap_setCell w ⟨g, i, none⟩ u j (by rintro rfl; exact hne rfl)).trans (h.block j hj hne)⟩
theorem Only.drewN {a w : World} {g : Nat} (h : Only a w g) (n : Nat) : Only a (w.drewN n) g := ⟨h.os, h.tape, h.output, h.size, h.block⟩
theorem Only.below {a w : World} {g B : Nat} (h : Only a w g) (hg : B ≤ g) (hB : B ≤ a.heap.size) : Below B a w :=
  ⟨h.os, h.tape, h.output, h.size, fun i hi => h.block i (by omega) (by intro e; injection e; omega)⟩

set_option maxRecDepth 100000 in
set_option maxHeartbeats 800000 in
theorem add_any (g : Nat) (P : Nat → Bool) (o p : Nat) (ho : o < 5) (hp : p < pxN o) (w : World) (h : Reg w g P) :
    Calls Try.prog 111 #[.pointer (some ⟨g, 0, none⟩), .agg #[.int .i64 (o : Int), .int .i64 (p : Int)]] w fun e w' => e = .returned (.tuple #[]) ∧ Reg w' g (fun q => P q || inC o p q) ∧ Only w w' g := by
  have hgl := h.lt
  have hpl := (pxN_le ho).1
  have hend := cell_end ho hp
  have hS1 := wN_pos o
  have CS := Lib.hid (fun W => size_any o ho (p : Int) W)
  have CF := Lib.hid (fun W => first_any o p ho (by omega) W)
  have HP : Hid (∀ k q, part o p k q = (decide (p * wN o ≤ q) && decide (q < p * wN o + k))) := Lib.hid (fun k q => rfl)
  have HC : Hid (∀ q, inC o p q = part o p (wN o) q) := Lib.hid (fun q => rfl)
  have HR := Lib.hid h
  have HSN := Lib.hid (part_snoc o p)
  obtain ⟨S, hS⟩ : ∃ S, S = wN o := ⟨_, rfl⟩
  have HS := Lib.hid hS
  rw [← hS] at CS CF hend hS1 HC
  have HSE := Lib.hid hS.symm
  obtain ⟨B, hB⟩ : ∃ B, B = p * S := ⟨_, rfl⟩
  rw [← hB] at CF hend
  have HBE := Lib.hid hB.symm
  clear h hB hS
  go_enter Try.func111, Try.ntmps111
  go_wp2_with (go_at_call 100; refine (CS.out _).mono ?_; rintro e w1 ⟨rfl, hB1⟩; have b1 := (hB1.block w.heap.size (by simp)).trans (heap_alloc_new w _); have HBK := Lib.hid b1; have hW1 : Below w.heap.size w w1 := (Below.trans (by repeat (first | with_reducible exact Below.refl _ _ | with_reducible assumption | refine below_drewN ?_ _ | with_reducible refine Below.drew ?_ | (refine Below.setCell ?_ (by first | (simp; done) | (simp; omega) | omega) _) | (refine Below.alloc ?_ (by first | (simp; done) | (simp; omega) | omega) _))) (hB1.mono (by first | (simp; done) | (simp; omega) | omega))); clear b1 hB1)
  go_loopw [8] (fun i wr => ∃ k : Nat, k ≤ S ∧ i = .int .i64 k ∧ Reg wr g (fun q => P q || part o p k q) ∧ Only w wr g ∧ Hid (wr.heap[w.heap.size]? = some (.cells #[.int .i64 (o : Int), .int .i64 (p : Int)] 43 (0, 0)))) (fun i _ => S - (intOf i).toNat)
  case atStart => exact ⟨0, Nat.zero_le _, rfl, (HR.out.below hW1).congr (fun q _ => by simp [part_zero]), (Only.refl w g).step hW1, HBK⟩
  case round =>
    clear HBK hW1
    obtain ⟨k, hk, rfl, hR, hO, hbk⟩ := hrel
    by_cases hlt : k < S
    · have c0 := blk_cell hbk.out 0 (u := .int .i64 (o : Int)) rfl
      have c1 := blk_cell hbk.out 1 (u := .int .i64 (p : Int)) rfl
      have zz := (Array.getElem?_eq_some_iff.1 hbk.out).1
      have HRr := Lib.hid hR
      have HBK := hbk
      have hq : B + k < 3072 := by omega
      obtain ⟨n, hn⟩ : ∃ n, n = (B + k) / 64 := ⟨_, rfl⟩
      obtain ⟨b, hb⟩ : ∃ b, b = (B + k) % 64 := ⟨_, rfl⟩
      have en : ((B : Int) + (k : Int)) / 64 = (n : Int) := by omega
      have eb : ((B : Int) + (k : Int)) % 64 = (b : Int) := by omega
      have hn48 : n < 48 := by omega
      have hb64 : b < 64 := by omega
      have HNB : Hid (B + k = 64 * n + b) := Lib.hid (by omega)
      clear hR hn hb hbk
      go_wp2_with (go_at_call 121; refine (CF.out _).mono ?_; rintro e w2 ⟨rfl, hB2⟩; have HR2 := Lib.hid (HRr.out.below hB2); have HO2 := Lib.hid (hO.step hB2); have HBK2 : Hid (w2.heap[w.heap.size]? = _) := Lib.hid ((hB2.block w.heap.size zz).trans HBK.out); have cw := HR2.out.cell hn48; have fw := blk_frozen HR2.out n; clear hB2)
      go_region
      go_wp2
      go_roundw
      case rel =>
        refine ⟨k + 1, by omega, by go_num, ?_, (HO2.out.set_ _).drewN 1, Lib.hid ((heap_setCell_other _ _ _ _ (by simp; omega)).trans HBK2.out)⟩
        rw [put_u64 _ _ hb64]
        exact Reg.congr (P := fun q => (P q || part o p k q) || decide (q = 64 * n + b)) (Reg.word HR2.out rfl fun m _ hm => put_other _ hb64 hm) (fun q _ => by rw [HSN.out, ← HNB.out, HSE.out, HBE.out, Bool.or_assoc])
      case measure => simp [intOf]; omega
    · obtain rfl : k = S := by omega
      have HRr := Lib.hid (hR.congr (R := fun q => P q || inC o p q) (fun q _ => by rw [HC.out]))
      clear hR
      go_wp2
      go_end0
      exact ⟨rfl, HRr.out, hO⟩

set_option maxRecDepth 100000 in
set_option maxHeartbeats 800000 in
theorem has_any (g : Nat) (P : Nat → Bool) (o p : Nat) (ho : o < 5) (hp : p < pxN o) (w : World) (h : Reg w g P) :
    Calls Try.prog 103 #[.pointer (some ⟨g, 0, none⟩), .agg #[.int .i64 (o : Int), .int .i64 (p : Int)]] w fun e w' => e = .returned (.bool (fullB P o p)) ∧ Below w.heap.size w w' := by
  have hpl := (pxN_le ho).1
  have hend := cell_end ho hp
  have hS1 := wN_pos o
  have CS := Lib.hid (fun W => size_any o ho (p : Int) W)
  have CF := Lib.hid (fun W => first_any o p ho (by omega) W)
  have HR := Lib.hid h
  have HF : Hid (∀ k, fullTo P o p (k + 1) = (fullTo P o p k && P (p * wN o + k))) := Lib.hid (fullTo_snoc P o p)
  have HNO : Hid (∀ k, k < wN o → P (p * wN o + k) = false → fullB P o p = false) := Lib.hid (fun k hk h => full_not hk h)
  have HALL : Hid (fullTo P o p (wN o) = fullB P o p) := Lib.hid rfl
  have HT : Hid (∀ n b, b < 64 → bits BinOp.and IntKind.u64 (((wordAt P n : Nat) : Int) / 2 ^ b) 1 = if P (64 * n + b) then 1 else 0) := Lib.hid (fun n b hb => test_u64 P hb)
  generalize wN o = S at *
  obtain ⟨B, hB⟩ : ∃ B, B = p * S := ⟨_, rfl⟩
  rw [← hB] at CF hend HF HNO
  clear h hB
  go_enter Try.func103, Try.ntmps103
  go_wp2_with (go_at_call 100; refine (CS.out _).mono ?_; rintro e w1 ⟨rfl, hB1⟩; have b1 := (hB1.block w.heap.size (by simp)).trans (heap_alloc_new w _); have HBK := Lib.hid b1; have hW1 : Below w.heap.size w w1 := (Below.trans (by repeat (first | with_reducible exact Below.refl _ _ | with_reducible assumption | refine below_drewN ?_ _ | with_reducible refine Below.drew ?_ | (refine Below.setCell ?_ (by first | (simp; done) | (simp; omega) | omega) _) | (refine Below.alloc ?_ (by first | (simp; done) | (simp; omega) | omega) _))) (hB1.mono (by first | (simp; done) | (simp; omega) | omega))); clear b1 hB1)
  go_loopw [9] (fun i wr => ∃ k : Nat, k ≤ S ∧ i = .int .i64 k ∧ Below w.heap.size w wr ∧ Hid (fullTo P o p k = true) ∧ Hid (wr.heap[w.heap.size]? = some (.cells #[.int .i64 (o : Int), .int .i64 (p : Int)] 43 (0, 0)))) (fun i _ => S - (intOf i).toNat)
  case atStart => exact ⟨0, Nat.zero_le _, rfl, hW1, rfl, HBK⟩
  case round =>
    clear HBK hW1
    obtain ⟨k, hk, rfl, hB, hall, hbk⟩ := hrel
    by_cases hlt : k < S
    · have c0 := blk_cell hbk.out 0 (u := .int .i64 (o : Int)) rfl
      have c1 := blk_cell hbk.out 1 (u := .int .i64 (p : Int)) rfl
      have zz := (Array.getElem?_eq_some_iff.1 hbk.out).1
      have HBK := hbk
      have hq : B + k < 3072 := by omega
      obtain ⟨n, hn⟩ : ∃ n, n = (B + k) / 64 := ⟨_, rfl⟩
      obtain ⟨b, hb⟩ : ∃ b, b = (B + k) % 64 := ⟨_, rfl⟩
      have en : ((B : Int) + (k : Int)) / 64 = (n : Int) := by omega
      have eb : ((B : Int) + (k : Int)) % 64 = (b : Int) := by omega
      have hn48 : n < 48 := by omega
      have hb64 : b < 64 := by omega
      have HTB := HT.out n b hb64
      rw [show 64 * n + b = B + k by omega] at HTB
      clear hn hb hbk
      cases hP : P (B + k) with
      | true =>
        rw [hP, if_pos rfl] at HTB
        have HP := Lib.hid hP
        clear hP
        go_wp2_with (go_at_call 121; refine (CF.out _).mono ?_; rintro e w2 ⟨rfl, hB2⟩; have hW2 : Below w.heap.size w w2 := Below.trans hB (hB2.mono hB.size); have HBK2 : Hid (w2.heap[w.heap.size]? = _) := Lib.hid ((hB2.block w.heap.size zz).trans HBK.out); have cw := (HR.out.below hW2).cell hn48; clear hB2)
        go_roundw
        case rel => exact ⟨k + 1, by omega, by go_num, hW2, Lib.hid (by rw [HF.out, hall.out, HP.out]; rfl), HBK2⟩
        case measure => simp [intOf]; omega
      | false =>
        rw [hP, if_neg (by simp)] at HTB
        have HP := Lib.hid hP
        clear hP
        go_wp2_with (go_at_call 121; refine (CF.out _).mono ?_; rintro e w2 ⟨rfl, hB2⟩; have hW2 : Below w.heap.size w w2 := Below.trans hB (hB2.mono hB.size); have cw := (HR.out.below hW2).cell hn48; clear hB2)
        go_ret
        exact ⟨ret_bool (HNO.out k hlt HP.out).symm, hW2⟩
    · obtain rfl : k = S := by omega
      clear hbk
      go_wp2
      go_ret
      exact ⟨ret_bool (by rw [← HALL.out, hall.out]), hB⟩
end Go.Proofs.Ytnnfnphmieikmaa
