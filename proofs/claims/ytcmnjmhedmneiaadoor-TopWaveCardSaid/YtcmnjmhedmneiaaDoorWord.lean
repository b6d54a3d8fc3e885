/-
  Contract: word (wave).
-/
import Derived.Test.YtcmnjmhedmneiaaDoorChange
import Derived.Laws.Bits64b
import Derived.Laws.IdiomStrings
namespace Go.Proofs.YtcmnjmhedmneiaaDoor
open Go.RowKit Go.Shelf

theorem byte_info : (Tryd.prog.info? 5).map (fun i => (i.zero, i.size, i.bytes)) = some (some (.int .u8 0), 1, 1) := by kernel_rfl
theorem and_one (x : Int) : bits .and .i64 x 1 = x % 2 := by
  show IntKind.i64.wrap ((BitVec.ofInt 64 x &&& BitVec.ofInt 64 1).toNat : Int) = _
  rw [BitVec.toNat_and, show (BitVec.ofInt 64 1).toNat = 1 from rfl, Nat.and_one_is_mod, BitVec.toNat_ofInt, IntKind.wrap_i64]
  omega
theorem bit_val (n : Int) (j : Nat) : (48 + bits .and .i64 (n / 2 ^ j) 1) % 256 = ((bitU n j).toNat : Int) := by
  rw [and_one, bitU]
  have h := Int.emod_two_eq (n / 2 ^ j)
  rcases h with h | h <;> rw [h] <;> simp
/-- The first bits of a word are written. -/
def wordK (w : Nat) (n : Int) (i : Nat) : List UInt8 := (List.range w).map fun j => if j < i then bitU n (w - 1 - j) else 0
theorem wordK_len (w : Nat) (n : Int) (i : Nat) : (wordK w n i).length = w := by simp [wordK]
theorem wordK_end (w : Nat) (n : Int) : wordK w n w = wordL w n := by
  unfold wordK wordL
  apply List.map_congr_left
  intro j hj
  rw [if_pos (List.mem_range.1 hj)]
theorem wordK_next {w i : Nat} {n : Int} (h : i < w) : (Lib.byteCells (wordK w n i)).set i (.int .u8 (bitU n (w - 1 - i)).toNat) = Lib.byteCells (wordK w n (i + 1)) := by
  unfold Lib.byteCells
  rw [← List.map_set]
  congr 1
  apply List.ext_getElem?
  intro j
  by_cases hj : j < w
  · by_cases he : j = i
    · subst he
      rw [List.getElem?_set_self (by rw [wordK_len]; exact h)]
      simp [wordK, h]
    · rw [List.getElem?_set_ne (by omega)]
      simp only [wordK, List.getElem?_map, List.getElem?_range hj, Option.map_some]
      congr 1
      by_cases h2 : j < i
      · rw [if_pos h2, if_pos (by omega)]
      · rw [if_neg h2, if_neg (by omega)]
  · rw [List.getElem?_eq_none (by rw [List.length_set, wordK_len]; omega), List.getElem?_eq_none (by rw [wordK_len]; omega)]
theorem made_bytes (w : Nat) (n : Int) : (madeCells (Value.int .u8 0).cells (w * 1)).toList = Lib.byteCells (wordK w n 0) := by
  have e : wordK w n 0 = List.replicate w 0 := by
    rw [List.eq_replicate_iff]; simp [wordK]
  rw [e, Lib.byteCells, List.map_replicate, List.eq_replicate_iff]
  simp [madeCells, Value.cells, Nat.mod_one]

set_option maxRecDepth 100000 in
set_option maxHeartbeats 1000000 in
theorem word_any (k : Nat) (n : Int) (w : World) :
    Calls Tryd.prog 66 #[.int .i64 (wdN k), .int .i64 n] w fun e w' => e = .returned (sv (wordL (wdN k) n)) ∧ Below w.heap.size w w' := by
  obtain ⟨W, hW⟩ : ∃ W, wdN k = W := ⟨_, rfl⟩
  have hb := wd_bd k
  rw [hW] at hb ⊢
  obtain ⟨i0, hi0, hz0, hz1, hz2⟩ := info_parts byte_info
  have HZ2 := Lib.hid hz2
  clear hz2 hW
  obtain ⟨hb1, hb2⟩ := hb
  go_enter Tryd.func66, Tryd.ntmps66
  go_wp2_with (at_make; refine wpList_make_full _ rfl _ _ 43 rfl w.heap.size 5 i0 (.int .u8 0) 1 Tryd.underlying43 hi0 hz0 hz1 _ _ _ _ W rfl rfl rfl rfl (by rw [HZ2.out]; omega) (by unfold maxLen; omega) (Nat.le_refl _) ?_; intro w4 hown4 hg4)
  have hB4 : Below w.heap.size w w4 := (Below.refl _ _).grown hg4 (Nat.le_refl _) (by simp)
  rw [made_bytes W n] at hown4
  clear hg4 HZ2 hz0 hz1 hi0
  go_loopw [10] (fun i wr => ∃ m : Nat, m ≤ W ∧ i = .int .i64 m ∧ wr.ownsRow w.heap.size 5 1 (.slice (some ⟨w.heap.size, 0, none⟩) W W) W (Lib.byteCells (wordK W n m)) ∧ Below w.heap.size w wr) (fun i _ => W - (intOf i).toNat)
  case atStart => exact ⟨0, Nat.zero_le _, rfl, hown4, hB4⟩
  case round =>
    clear hown4 hB4
    obtain ⟨m, hm, rfl, hown, hB⟩ := hrel
    by_cases hlt : m < W
    · obtain ⟨j, hj⟩ : ∃ j, W - 1 - m = j := ⟨_, rfl⟩
      have hjm : j + m + 1 = W := by omega
      have s1 : (W : Int) - 1 - (m : Int) = (j : Int) := by omega
      have s2 : IntKind.i64.wrap ((W : Int) - 1 - (m : Int)) = (j : Int) := by rw [s1]; exact IntWalk.i64_in _ (by omega)
      have c2 := hown.cellAt m (by omega)
      obtain ⟨u, hu⟩ : ∃ u, (Lib.byteCells (wordK W n m))[m]? = some u := ⟨_, List.getElem?_eq_getElem (by rw [Lib.byteCells_length, wordK_len]; exact hlt)⟩
      rw [hu] at c2
      have z2 := hown.frozenAt m
      have HNX := Lib.hid (wordK_next (n := n) hlt)
      have HO := Lib.hid hown
      have HJ := Lib.hid (And.intro hj hjm)
      have j10 : j ≤ 10 := by omega
      clear hu hown hj hjm
      have HV := Lib.hid (bit_val n j)
      go_wp2
      go_roundw
      case rel => exact ⟨m + 1, by omega, by go_num, by rw [HV.out, ← HNX.out, HJ.out.1]; exact (World.ownsRow.stored HO.out m _).1, hB.setCell (Nat.le_refl _) _⟩
      case measure => simp [intOf]; omega
    · obtain rfl : m = W := by omega
      have hcv : (convert 43 9 (.slice (some ⟨w.heap.size, 0, none⟩) m m)).run Tryd.prog wr = .ok (.string ⟨(wordL m n).toArray⟩) wr := by
        have hl := word_len m n
        have := run_convert_bytes_back (P := Tryd.prog) wr 43 9 5 ⟨w.heap.size, 0, none⟩ m (wordL m n) Tryd.underlying43 Tryd.underlying5 Tryd.underlying9 (fun j hj => by
          have hc := hown.cellAt j (by omega)
          rw [wordK_end] at hc
          rw [add_mk, Nat.zero_add, hc, Lib.byteCells, List.getElem?_map, List.getElem?_eq_getElem hj]; rfl)
        rwa [hl] at this
      go_wp2
      go_ret
      exact ⟨rfl, hB⟩
end Go.Proofs.YtcmnjmhedmneiaaDoor
