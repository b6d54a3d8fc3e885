/-
  Texts of this seat, joined: each with its own head.
-/
import Derived.IntWalk
import Derived.Test.YtjghlfagdleglaaProg
import Derived.WalkKit
import Derived.WalkSpells
import Derived.WalkLawsBesides
import Derived.Deep.QuietTactic
import Derived.BigQuiet
import Derived.Lib.Hide
import Derived.Deep.AppendLies
import Derived.Deep.Draws
import Derived.Deep.DeepFit
import Derived.Handy
import Derived.StillTailTactics
import Derived.Deep.RegionHeld3
import Derived.ProofKit
import Derived.OpenShut
import Derived.ShutString
import Derived.ChangeOld
import Derived.Below
/-
  Plain lemmas on lists and numbers; nothing of the program.
-/
namespace Go.Proofs.Ytjghlfagdleglaa
open Go Go.RowKit

theorem take_snoc {α : Type} {zs : List α} {k : Nat} {z : α} (h : zs[k]? = some z) : zs.take (k + 1) = zs.take k ++ [z] := by
  rw [List.take_add_one, h]; rfl
theorem all_snoc {α : Type} {p : α → Bool} {zs : List α} {k : Nat} {z : α} (h : zs[k]? = some z) : (zs.take (k + 1)).all p = ((zs.take k).all p && p z) := by
  rw [take_snoc h]; simp
theorem all_full {α : Type} {p : α → Bool} {zs : List α} {k : Nat} (hk : zs.length ≤ k) : (zs.take k).all p = zs.all p := by
  rw [List.take_of_length_le hk]
theorem all_not {α : Type} {p : α → Bool} {zs : List α} {k : Nat} {z : α} (h : zs[k]? = some z) (hp : p z = false) : zs.all p = false := by
  rw [List.all_eq_false]
  exact ⟨z, List.mem_of_getElem? h, by simp [hp]⟩
theorem pow_bounds {b : Int} (h1 : 4 ≤ b) (h2 : b ≤ 32) : 16 ≤ (2 : Int) ^ b.toNat ∧ (2 : Int) ^ b.toNat ≤ 4294967296 := by
  obtain ⟨n, rfl⟩ := Int.eq_ofNat_of_zero_le (show 0 ≤ b by omega)
  rw [Int.toNat_natCast]
  have a1 : (2 : Nat) ^ 4 ≤ 2 ^ n := Nat.pow_le_pow_right (by omega) (by omega)
  have a2 : (2 : Nat) ^ n ≤ 2 ^ 32 := Nat.pow_le_pow_right (by omega) (by omega)
  have e : ((2 : Int) ^ n) = ((2 ^ n : Nat) : Int) := by simp
  rw [e]
  constructor
  · have : (16 : Nat) ≤ 2 ^ n := a1
    omega
  · have : 2 ^ n ≤ (4294967296 : Nat) := a2
    omega
theorem pow_wrap {b : Int} (h1 : 4 ≤ b) (h2 : b ≤ 32) : wrap64 ((2 : Int) ^ b.toNat) = 2 ^ b.toNat := by
  have := pow_bounds h1 h2
  exact IntWalk.wrap64_in _ (by omega)
end Go.Proofs.Ytjghlfagdleglaa

/-
  Words for memory that the walks of this seat share: a slice that reads as a list.
-/
namespace Go.Proofs.Ytjghlfagdleglaa
open Go.RowKit

theorem below_drewN {B : Nat} {a w : World} (h : Below B a w) (n : Nat) : Below B a (w.drewN n) := ⟨h.os, h.tape, h.output, h.size, h.block⟩
theorem block_of_add (a : Addr) (n : Nat) : (a.add n).block = a.block := by unfold Addr.add; split <;> rfl
theorem add_of_add (a : Addr) (i j : Nat) : (a.add i).add j = a.add (i + j) := by
  unfold Addr.add
  by_cases hi : i = 0 <;> by_cases hj : j = 0 <;> simp [hi, hj, Nat.add_assoc]

def Reads (w : World) (B size : Nat) (A : Option Addr) (n : Nat) (xs : List Value) : Prop :=
  xs.length = n * size ∧ (0 < n → ∃ ad, A = some ad ∧ ad.block < B ∧ ∀ j u, xs[j]? = some u → w.cell? (ad.add j) = some u)

section
variable {w w' : World} {B B' size n : Nat} {A : Option Addr} {xs : List Value}
theorem Reads.none_ : Reads w B size A 0 [] := ⟨by simp, fun h => absurd h (by omega)⟩
theorem Reads.at_ {k : Nat} (h : Reads w B 1 A n xs) (hk : k < n) : ∃ ad u, A = some ad ∧ ad.block < B ∧ xs[k]? = some u ∧ w.cell? (ad.add k) = some u := by
  obtain ⟨ad, e, hb, hc⟩ := h.2 (by omega)
  have hl : k < xs.length := by have := h.1; omega
  exact ⟨ad, xs[k], e, hb, List.getElem?_eq_getElem hl, hc k _ (List.getElem?_eq_getElem hl)⟩
theorem Reads.keep (h : Reads w B size A n xs) (hk : ∀ p : Addr, p.block < B → w'.cell? p = w.cell? p) : Reads w' B size A n xs :=
  ⟨h.1, fun hn => by
    obtain ⟨ad, e, hb, hc⟩ := h.2 hn
    exact ⟨ad, e, hb, fun j u hu => (hk _ (by rw [block_of_add]; exact hb)).trans (hc j u hu)⟩⟩
theorem Reads.more (h : Reads w B size A n xs) (hB : B ≤ B') : Reads w B' size A n xs :=
  ⟨h.1, fun hn => by
    obtain ⟨ad, e, hb, hc⟩ := h.2 hn
    exact ⟨ad, e, by omega, hc⟩⟩
theorem Reads.below (h : Reads w B size A n xs) (hb : Below B w w') : Reads w' B size A n xs := h.keep fun _ hp => hb.cell hp
theorem Reads.drew (h : Reads w B size A n xs) : Reads w.drew B size A n xs := h
theorem Reads.drewN (h : Reads w B size A n xs) (k : Nat) : Reads (w.drewN k) B size A n xs := h
theorem Reads.of_own {base : Nat} {e : TypeId} {c : Nat} (h : w.ownsRow base e size (.slice A n c) n xs) : Reads w w.heap.size size A n xs := by
  refine ⟨h.1, fun hn => ?_⟩
  obtain ⟨g, cap, hv, _, hlt⟩ := h.form hn
  have hA : A = some ⟨g, 0, none⟩ := by injection hv
  subst hA
  exact ⟨_, rfl, hlt, h.cells (g := g) rfl⟩
end

/-- A slice of ints that reads as the list zs. -/
def Ints (w : World) (A : Option Addr) (zs : List Int) : Prop := Reads w w.heap.size 1 A zs.length (zs.map (Value.int .i64))

theorem Ints.at_ {w : World} {A : Option Addr} {zs : List Int} (h : Ints w A zs) {k : Nat} (hk : k < zs.length) :
    ∃ ad, A = some ad ∧ ad.block < w.heap.size ∧ w.cell? (ad.add k) = some (.int .i64 (zs.getD k 0)) := by
  obtain ⟨ad, u, e, hb, hx, hc⟩ := Reads.at_ h hk
  refine ⟨ad, e, hb, ?_⟩
  rw [List.getElem?_map, List.getElem?_eq_getElem hk] at hx
  simp only [Option.map_some, Option.some.injEq] at hx
  rw [hc, ← hx, List.getD_eq_getElem?_getD, List.getElem?_eq_getElem hk]; rfl
/-- The element at k, by a name of its own; what it is stays hidden from the walk. -/
theorem Ints.get {w : World} {A : Option Addr} {zs : List Int} (h : Ints w A zs) {k : Nat} (hk : k < zs.length) :
    ∃ ad z, A = some ad ∧ ad.block < w.heap.size ∧ Hid (zs[k]? = some z) ∧ w.cell? (ad.add k) = some (.int .i64 z) := by
  obtain ⟨ad, e, hb, hc⟩ := h.at_ hk
  refine ⟨ad, zs[k], e, hb, List.getElem?_eq_getElem hk, ?_⟩
  rw [hc, List.getD_eq_getElem?_getD, List.getElem?_eq_getElem hk]; rfl
theorem add_mk (b o k : Nat) : (⟨b, o, none⟩ : Addr).add k = ⟨b, o + k, none⟩ := by
  unfold Addr.add; split <;> simp_all
/-- The address of a list that is not empty, written out. -/
theorem Ints.open_ {w : World} {A : Option Addr} {zs : List Int} (h : Ints w A zs) (hn : 0 < zs.length) :
    ∃ b o, A = some ⟨b, o, none⟩ ∧ b < w.heap.size ∧ ∀ (k : Nat) (z : Int), zs[k]? = some z → w.cell? ⟨b, o + k, none⟩ = some (.int .i64 z) := by
  obtain ⟨ad, u, e, hb, _, hc⟩ := Reads.at_ h hn
  obtain ⟨b, o, s⟩ := ad
  have hs : s = none := by simpa [Addr.add] using World.cell?_spot hc
  subst hs
  refine ⟨b, o, e, hb, fun k z hz => ?_⟩
  obtain ⟨ad', e', _, hall⟩ := h.2 hn
  rw [e] at e'
  obtain rfl := Option.some.inj e'
  rw [← add_mk]
  exact hall k _ (by rw [List.getElem?_map, hz]; rfl)
theorem Ints.below {w w' : World} {A : Option Addr} {zs : List Int} (h : Ints w A zs) (hb : Below w.heap.size w w') : Ints w' A zs :=
  (Reads.below h hb).more hb.size
theorem Ints.nil_ {w : World} {A : Option Addr} : Ints w A [] := Reads.none_

/-- A slice of ints as a call hands it back: what it reads as, and that its capacity is no nonsense. -/
structure Out (w : World) (A : Option Addr) (c : Nat) (zs : List Int) : Prop where
  ints : Ints w A zs
  le : zs.length ≤ c
  cap : c ≤ maxLen
theorem Out.nil_ {w : World} {A : Option Addr} : Out w A 0 [] := ⟨Ints.nil_, Nat.le_refl _, Nat.zero_le _⟩
theorem Out.below {w w' : World} {A : Option Addr} {c : Nat} {zs : List Int} (h : Out w A c zs) (hb : Below w.heap.size w w') : Out w' A c zs := ⟨h.ints.below hb, h.le, h.cap⟩
end Go.Proofs.Ytjghlfagdleglaa

/-
  Contracts: validBits, IsBits, size, ValidReadings (tick and firnref01).
-/
namespace Go.Proofs.Ytjghlfagdleglaa
open Go.RowKit

theorem ret_bool {a b : Bool} (h : a = b) : Ending.returned (.bool a) = .returned (.bool b) := by rw [h]
theorem ret_int {k : IntKind} {a b : Int} (h : a = b) : Ending.returned (.int k a) = .returned (.int k b) := by rw [h]

/-- Whether a counter can have so many bits. -/
def bitsB (b : Int) : Bool := decide (4 ≤ b ∧ b ≤ 32)

theorem validBits_any (b : Int) (w : World) :
    Calls Try.prog 57 #[.int .i64 b] w fun e w' => e = .returned (.bool (bitsB b)) ∧ w = w' := by
  go_enter Try.func57, Try.ntmps57
  go_wp2
  all_goals
    go_ret
    exact ⟨ret_bool (by simp [bitsB]; try omega), rfl⟩

theorem isBits_any (b : Int) (w : World) :
    Calls Try.prog 51 #[.int .i64 b] w fun e w' => e = .returned (.bool (bitsB b)) ∧ w = w' := by
  go_enter Try.func51, Try.ntmps51
  go_wp2
  all_goals
    go_ret
    exact ⟨ret_bool (by simp [bitsB]; try omega), rfl⟩
end Go.Proofs.Ytjghlfagdleglaa

/-
  Contracts: ValidReadings (tick and firnref01).
-/
namespace Go.Proofs.Ytjghlfagdleglaa
open Go.RowKit

def okR (b : Int) (z : Int) : Bool := decide (0 ≤ z ∧ z < 2 ^ b.toNat)
def vrB (b : Int) (zs : List Int) : Bool := bitsB b && decide (1 ≤ zs.length ∧ zs.length ≤ 60) && zs.all (okR b)

theorem vr_bits {b : Int} {zs : List Int} (hb : ¬ bitsB b = true) : false = vrB b zs := by simp [vrB, hb]
theorem vr_len {b : Int} {zs : List Int} (hn : ¬ (1 ≤ zs.length ∧ zs.length ≤ 60)) : false = vrB b zs := by
  unfold vrB; rw [decide_eq_false hn]; simp
theorem vr_bad {b : Int} {zs : List Int} {k : Nat} {z : Int} (h : zs[k]? = some z) (hz : z < 0 ∨ (2 : Int) ^ b.toNat ≤ z) : false = vrB b zs := by
  unfold vrB; rw [all_not h (by simp [okR]; omega)]; simp
theorem vr_all {b : Int} {zs : List Int} {k : Nat} (hb : bitsB b = true) (hn : 1 ≤ zs.length ∧ zs.length ≤ 60) (hk : zs.length ≤ k) (h : (zs.take k).all (okR b) = true) : true = vrB b zs := by
  rw [all_full hk] at h; unfold vrB; rw [hb, decide_eq_true hn, h]; rfl
theorem vr_next {b : Int} {zs : List Int} {k : Nat} {z : Int} (h : zs[k]? = some z) (ha : (zs.take k).all (okR b) = true) (h0 : 0 ≤ z) (h1 : z < 2 ^ b.toNat) : (zs.take (k + 1)).all (okR b) = true := by
  rw [all_snoc h, ha]; simp [okR, h0, h1]

theorem validReadings_any (b : Int) (zs : List Int) (A : Option Addr) (c : Nat) (w : World) (h : Ints w A zs) (hl : zs.length ≤ maxLen) :
    Calls Try.prog 18 #[.int .i64 b, .slice A zs.length c] w fun e w' => e = .returned (.bool (vrB b zs)) ∧ w = w' := by
  unfold maxLen at hl
  have H := Lib.hid h
  clear h
  by_cases hb : bitsB b = true
  · have hb' : 4 ≤ b ∧ b ≤ 32 := by simpa [bitsB] using hb
    by_cases hn : 1 ≤ zs.length ∧ zs.length ≤ 60
    · have n1 : decide ((zs.length : Int) < 1) = false := by simp; omega
      have n2 : decide (60 < (zs.length : Int)) = false := by simp; omega
      have HP := Lib.hid (pow_wrap hb'.1 hb'.2)
      go_enter Try.func18, Try.ntmps18
      go_wp2_with (go_at_call 57; refine (validBits_any _ _).mono ?_; rintro e w' ⟨rfl, rfl⟩)
      go_loop [22] (fun i => ∃ k : Nat, k ≤ zs.length ∧ i = .int .i64 k ∧ Hid ((zs.take k).all (okR b) = true)) (fun i => zs.length - (intOf i).toNat)
      case atStart => exact ⟨0, Nat.zero_le _, rfl, rfl⟩
      case round =>
        obtain ⟨k, hk, rfl, hall⟩ := hrel
        by_cases hlt : k < zs.length
        · obtain ⟨ad, z, rfl, hbk, hz, hc⟩ := H.out.get hlt
          go_wp2
          · go_ret
            exact ⟨ret_bool (vr_bad hz.out (by rw [← HP.out]; assumption)), rfl⟩
          · go_round
            case rel => exact ⟨k + 1, by omega, by go_num, vr_next hz.out hall.out (by omega) (by rw [← HP.out]; omega)⟩
            case measure => simp [intOf]; omega
          · go_ret
            exact ⟨ret_bool (vr_bad hz.out (.inl ‹_›)), rfl⟩
        · go_wp2
          go_ret
          exact ⟨ret_bool (vr_all hb hn (by omega) hall.out), rfl⟩
    · by_cases n1 : (zs.length : Int) < 1
      · go_enter Try.func18, Try.ntmps18
        go_wp2_with (go_at_call 57; refine (validBits_any _ _).mono ?_; rintro e w' ⟨rfl, rfl⟩)
        go_ret
        exact ⟨ret_bool (vr_len hn), rfl⟩
      · have n2 : 60 < (zs.length : Int) := by omega
        have n3 : decide ((zs.length : Int) < 1) = false := by simp; omega
        go_enter Try.func18, Try.ntmps18
        go_wp2_with (go_at_call 57; refine (validBits_any _ _).mono ?_; rintro e w' ⟨rfl, rfl⟩)
        go_ret
        exact ⟨ret_bool (vr_len hn), rfl⟩
  · have hb2 : bitsB b = false := by simpa using hb
    go_enter Try.func18, Try.ntmps18
    go_wp2_with (go_at_call 57; refine (validBits_any _ _).mono ?_; rintro e w' ⟨rfl, rfl⟩)
    go_ret
    exact ⟨ret_bool (vr_bits hb), rfl⟩
end Go.Proofs.Ytjghlfagdleglaa

/-
  Appending one element to a slice that the call itself made: one law with its side conditions met.
-/
namespace Go.Proofs.Ytjghlfagdleglaa
open Go.RowKit

theorem cells_new (w : World) (cs : List Value) (t : TypeId) : ∀ j u, cs[j]? = some u → (w.alloc (.cells cs.toArray t)).cell? ((⟨w.heap.size, 0, none⟩ : Addr).add j) = some u := by
  intro j u hj
  have e : ((⟨w.heap.size, 0, none⟩ : Addr).add j) = ⟨w.heap.size, j, none⟩ := by
    unfold Addr.add; split <;> simp_all
  rw [e, cell_of_row _ w.heap.size j cs.toArray t (0, 0) (heap_alloc_new w _)]
  simpa using hj

section
variable {P : Program} {ops : Array Oper} {rest : List Oper} {o : Oper} {a : Act} {Q : Exit → Act → World → Prop}

theorem wp_app (w : World) (hgd : o.guard = none) (s x : Operand) (t : TypeId)
    (ho : o.op = .call { callee := .builtin .append, args := #[s, x], argTypes := #[t, t] })
    (base : Nat) (e : TypeId) (i : TypeInfo) (zero : Value) (size bytes : Nat) (ht : P.underlying t = some (.slice e)) (hi : P.info? e = some i) (hz : i.zero = some zero)
    (hsize : i.size = size) (hby : i.bytes = bytes) (hzs : zero.cells.size = size) (hsz : 0 < size) (hb64 : bytes ≤ 64)
    (v : Value) (n : Nat) (xs : List Value) (cs : List Value) (hs : a.eval s = v) (hown : w.ownsRow base e size v n xs)
    (hx : a.eval x = .slice (some ⟨w.heap.size, 0, none⟩) 1 1) (hl : cs.length = size) (h1 : ∀ u ∈ cs, u.oneCell' = true)
    (hn : n ≤ 1000000) (hbase : base ≤ w.heap.size)
    (h : ∀ v' w', w'.ownsRow base e size v' (n + 1) (xs ++ cs) → Below base w w' → wpList P ops Q rest (a.put o.dst v') w') :
    wpList P ops Q (o :: rest) a (w.alloc (.cells cs.toArray e)) := by
  refine wpList_append_own _ hgd s x t ho base e i zero size bytes ht hi hz hsize hby hzs hsz v n xs hs (hown.alloc _) ⟨w.heap.size, 0, none⟩ 1 1 cs hx (by omega)
    (cells_new w cs e) h1 (by unfold maxLen; omega) ?_ (by simp; omega) ?_
  · have : (n + 1) * bytes ≤ (n + 1) * 64 := Nat.mul_le_mul_left _ hb64
    omega
  · intro v' w' ho' hg _
    refine h v' w' ho' (((Below.refl base w).alloc hbase _).grown hg (by simp; omega) ?_)
    intro k hk
    exact (hown.lt k hk).1
end

theorem int_info : (Try.prog.info? 3).map (fun i => (i.zero, i.size, i.bytes)) = some (some (.int .i64 0), 1, 8) := by kernel_rfl

section
variable {ops : Array Oper} {rest : List Oper} {o : Oper} {a : Act} {Q : Exit → Act → World → Prop}
theorem wp_app_int (w : World) (hgd : o.guard = none) (s x : Operand)
    (ho : o.op = .call { callee := .builtin .append, args := #[s, x], argTypes := #[22, 22] })
    (base : Nat) (v : Value) (n : Nat) (xs : List Int) (z : Int) (hs : a.eval s = v) (hown : w.ownsRow base 3 1 v n (xs.map (Value.int .i64)))
    (hx : a.eval x = .slice (some ⟨w.heap.size, 0, none⟩) 1 1) (hn : n ≤ 1000000) (hbase : base ≤ w.heap.size)
    (h : ∀ v' w', w'.ownsRow base 3 1 v' (n + 1) ((xs ++ [z]).map (Value.int .i64)) → Below base w w' → wpList Try.prog ops Q rest (a.put o.dst v') w') :
    wpList Try.prog ops Q (o :: rest) a (w.alloc (.cells #[.int .i64 z] 3)) := by
  obtain ⟨i0, hi0, hz0, hz1, hz2⟩ := info_parts int_info
  refine wp_app w hgd s x 22 ho base 3 i0 (.int .i64 0) 1 8 Try.underlying22 hi0 hz0 hz1 hz2 rfl (by decide) (by decide) v n _ [.int .i64 z] hs hown hx rfl ?_ hn hbase ?_
  · intro u hu; simp at hu; subst hu; rfl
  · intro v' w' h1 h2
    exact h v' w' (by simpa using h1) h2
end

section
variable {ops : Array Oper} {o : Oper} {a : Act} {K : Act → World → Prop} {Q : Exit → Act → World → Prop} {E : Prop}
theorem step_app {P : Program} (w : World) (hgd : o.guard = none) (s x : Operand) (t : TypeId)
    (ho : o.op = .call { callee := .builtin .append, args := #[s, x], argTypes := #[t, t] })
    (base : Nat) (e : TypeId) (i : TypeInfo) (zero : Value) (size bytes : Nat) (ht : P.underlying t = some (.slice e)) (hi : P.info? e = some i) (hz : i.zero = some zero)
    (hsize : i.size = size) (hby : i.bytes = bytes) (hzs : zero.cells.size = size) (hsz : 0 < size) (hb64 : bytes ≤ 64)
    (v : Value) (n : Nat) (xs : List Value) (cs : List Value) (hs : a.eval s = v) (hown : w.ownsRow base e size v n xs)
    (hx : a.eval x = .slice (some ⟨w.heap.size, 0, none⟩) 1 1) (hl : cs.length = size) (h1 : ∀ u ∈ cs, u.oneCell' = true)
    (hn : n ≤ 1000000) (hbase : base ≤ w.heap.size)
    (h : ∀ v' w', w'.ownsRow base e size v' (n + 1) (xs ++ cs) → Below base w w' → (∀ g, g < w.heap.size → v.ownBlock ≠ some g → w'.heap[g]? = w.heap[g]?) → K (a.put o.dst v') w') :
    if Region.wanted o (yielded ops a.tmps) = true then Oper.wp P o a (w.alloc (.cells cs.toArray e)).drew K Q else E := by
  have hw : Region.wanted o (yielded ops a.tmps) = true := by simp [Region.wanted, hgd]
  rw [if_pos hw]
  refine wp_append_own _ s x t ho base e i zero size bytes ht hi hz hsize hby hzs hsz v n xs hs (hown.alloc _).drew ⟨w.heap.size, 0, none⟩ 1 1 cs hx (by omega)
    (cells_new w cs e) h1 (by unfold maxLen; omega) ?_ (by simp; omega) ?_
  · have : (n + 1) * bytes ≤ (n + 1) * 64 := Nat.mul_le_mul_left _ hb64
    omega
  · intro v' w' ho' hg _
    refine h v' w' ho' ((((Below.refl base w).alloc hbase _).drew).grown hg (by simp; omega) ?_) ?_
    · intro k hk
      exact (hown.lt k hk).1
    · intro g hg1 hg2
      exact (hg.block g (by simp; omega) (fun e => hg2 e.symm)).trans (Below.heap_alloc w _ g hg1)
theorem step_app_int (w : World) (hgd : o.guard = none) (s x : Operand)
    (ho : o.op = .call { callee := .builtin .append, args := #[s, x], argTypes := #[22, 22] })
    (base : Nat) (v : Value) (n : Nat) (xs : List Int) (z : Int) (hs : a.eval s = v) (hown : w.ownsRow base 3 1 v n (xs.map (Value.int .i64)))
    (hx : a.eval x = .slice (some ⟨w.heap.size, 0, none⟩) 1 1) (hn : n ≤ 1000000) (hbase : base ≤ w.heap.size)
    (h : ∀ v' w', w'.ownsRow base 3 1 v' (n + 1) ((xs ++ [z]).map (Value.int .i64)) → Below base w w' → K (a.put o.dst v') w') :
    if Region.wanted o (yielded ops a.tmps) = true then Oper.wp Try.prog o a (w.alloc (.cells #[.int .i64 z] 3)).drew K Q else E := by
  obtain ⟨i0, hi0, hz0, hz1, hz2⟩ := info_parts int_info
  refine step_app w hgd s x 22 ho base 3 i0 (.int .i64 0) 1 8 Try.underlying22 hi0 hz0 hz1 hz2 rfl (by decide) (by decide) v n _ [.int .i64 z] hs hown hx rfl ?_ hn hbase ?_
  · intro u hu; simp at hu; subst hu; rfl
  · intro v' w' h1 h2 _
    exact h v' w' (by simpa using h1) h2
end

theorem own_ne {w : World} {base g : Nat} {e t : TypeId} {size n : Nat} {v : Value} {xs : List Value} {cs : Array Value} (h : w.ownsRow base e size v n xs) (hg : w.heap[g]? = some (.cells cs t (0, 0))) (hne : e ≠ t) : v.ownBlock ≠ some g := by
  rcases h.2 with ⟨rfl, _⟩ | ⟨g', cap, cur, rfl, _, hh, _⟩
  · simp [Value.ownBlock]
  · intro he
    have : g' = g := by simpa [Value.ownBlock] using he
    subst this
    rw [hh] at hg
    injection hg with hg
    injection hg with _ ht
    exact hne ht

/-- What came out of appends reads as its list. -/
theorem own_ints {w : World} {base n : Nat} {v : Value} {xs : List Int} (h : w.ownsRow base 3 1 v n (xs.map (Value.int .i64))) :
    ∃ A c, v = .slice A xs.length c ∧ Out w A c xs := by
  have hl : xs.length = n := by have := h.1; simpa using this
  subst hl
  rcases h.2 with ⟨rfl, h0⟩ | ⟨g, cap, cur, rfl, _, _, h1, h2, _⟩
  · have : xs = [] := List.eq_nil_of_length_eq_zero h0
    subst this
    exact ⟨none, 0, rfl, Out.nil_⟩
  · exact ⟨_, cap, rfl, Reads.of_own h, h1, h2⟩
end Go.Proofs.Ytjghlfagdleglaa

/-
  A slice of marks that reads as a list of pairs; validTick, IsTick; the greatest common divisor, Ratio, lowest.
-/
namespace Go.Proofs.Ytjghlfagdleglaa
open Go.RowKit

def mk2 (m : Int × Int) : List Value := [.int .i64 m.1, .int .i64 m.2]
/-- A slice of marks that reads as the list ms. -/
def Marks (w : World) (A : Option Addr) (ms : List (Int × Int)) : Prop := Reads w w.heap.size 2 A ms.length (ms.flatMap mk2)

theorem flat_get : ∀ (ms : List (Int × Int)) (k : Nat) (m : Int × Int), ms[k]? = some m → (ms.flatMap mk2)[2 * k]? = some (.int .i64 m.1) ∧ (ms.flatMap mk2)[2 * k + 1]? = some (.int .i64 m.2)
  | [], k, m, h => by simp at h
  | a :: t, 0, m, h => by simp at h; subst h; simp [mk2]
  | a :: t, k + 1, m, h => by
    have := flat_get t k m (by simpa using h)
    rw [show 2 * (k + 1) = 2 * k + 2 by omega]
    simpa [mk2] using this
theorem flat_len (ms : List (Int × Int)) : (ms.flatMap mk2).length = ms.length * 2 := by
  induction ms with
  | nil => rfl
  | cons a t ih => rw [List.flatMap_cons, List.length_append, ih]; simp [mk2]; omega
theorem Marks.below {w w' : World} {A : Option Addr} {ms : List (Int × Int)} (h : Marks w A ms) (hb : Below w.heap.size w w') : Marks w' A ms :=
  (Reads.below h hb).more hb.size
theorem Marks.drewN {w : World} {A : Option Addr} {ms : List (Int × Int)} (h : Marks w A ms) (n : Nat) : Marks (w.drewN n) A ms := h
theorem Marks.nil_ {w : World} {A : Option Addr} : Marks w A [] := Reads.none_
theorem Marks.open_ {w : World} {A : Option Addr} {ms : List (Int × Int)} (h : Marks w A ms) (hn : 0 < ms.length) :
    ∃ b o, A = some ⟨b, o, none⟩ ∧ b < w.heap.size ∧ ∀ (k : Nat) (m : Int × Int), ms[k]? = some m → w.cell? ⟨b, o + k * 2, none⟩ = some (.int .i64 m.1) ∧ w.cell? ⟨b, o + k * 2 + 1, none⟩ = some (.int .i64 m.2) := by
  obtain ⟨ad, e, hb, hall⟩ := h.2 hn
  obtain ⟨m0, hm0⟩ : ∃ m, ms[0]? = some m := ⟨_, List.getElem?_eq_getElem hn⟩
  have hc := hall 0 _ (flat_get ms 0 m0 hm0).1
  obtain ⟨b, o, s⟩ := ad
  have hs : s = none := by simpa [Addr.add] using World.cell?_spot hc
  subst hs
  refine ⟨b, o, e, hb, fun k m hm => ?_⟩
  have h2 := flat_get ms k m hm
  rw [Nat.mul_comm k 2, Nat.add_assoc, ← add_mk, ← add_mk]
  exact ⟨hall _ _ h2.1, hall _ _ h2.2⟩

def tickB (x : Int) : Bool := decide (0 ≤ x ∧ x ≤ 100000)
theorem validTick_any (x : Int) (w : World) :
    Calls Try.prog 63 #[.int .i64 x] w fun e w' => e = .returned (.bool (tickB x)) ∧ w = w' := by
  go_enter Try.func63, Try.ntmps63
  go_wp2
  all_goals
    go_ret
    exact ⟨ret_bool (by simp [tickB]; try omega), rfl⟩
theorem isTick_any (x : Int) (w : World) :
    Calls Try.prog 61 #[.int .i64 x] w fun e w' => e = .returned (.bool (tickB x)) ∧ w = w' := by
  go_enter Try.func61, Try.ntmps61
  go_wp2
  all_goals
    go_ret
    exact ⟨ret_bool (by simp [tickB]; try omega), rfl⟩

/-! ### the greatest common divisor -/
theorem gcd_tmod (a b : Int) : Int.gcd b (a.tmod b) = Int.gcd a b := by
  have h : a.tmod b = a - b * a.tdiv b := by have := Int.tmod_add_mul_tdiv a b; omega
  rw [h, Int.gcd_comm b]
  rw [Int.sub_eq_add_neg, ← Int.mul_neg, Int.mul_comm, Int.gcd_add_mul_right_left]
theorem gcd_emod (a b : Int) : Int.gcd b (a % b) = Int.gcd a b := by
  have h : a % b = a - b * (a / b) := by have := Int.emod_add_mul_ediv a b; omega
  rw [h, Int.gcd_comm b]
  rw [Int.sub_eq_add_neg, ← Int.mul_neg, Int.mul_comm, Int.gcd_add_mul_right_left]

def lowN (n d : Int) : Int := n / (Int.gcd n d : Int)
def lowD (n d : Int) : Int := d / (Int.gcd n d : Int)

theorem tmod_lt (a b : Int) (hb : b ≠ 0) : (a.tmod b).natAbs < b.natAbs := by
  rw [Int.natAbs_tmod]; exact Nat.mod_lt _ (by omega)

set_option maxRecDepth 100000 in
theorem gcd_any (n d : Int) (w : World) (hn0 : -4611686018427387904 ≤ n) (hn1 : n ≤ 4611686018427387904) (hd0 : 0 < d) (hd1 : d ≤ 4611686018427387904) :
    Calls Try.prog 79 #[.int .i64 n, .int .i64 d] w fun e w' => ∃ g : Int, e = .returned (.int .i64 g) ∧ (∃ m, w' = w.drewN m) ∧ Hid (g = (Int.gcd n d : Int)) := by
  go_enter Try.func79, Try.ntmps79
  go_wp2
  go_loopw [0, 1] (fun x y wr => ∃ (a b : Int) (m : Nat), x = .int .i64 a ∧ y = .int .i64 b ∧ wr = w.drewN m ∧ -4611686018427387904 ≤ a ∧ a ≤ 4611686018427387904 ∧ -4611686018427387904 ≤ b ∧ b ≤ 4611686018427387904 ∧ Hid (Int.gcd a b = Int.gcd n d)) (fun _ y _ => (intOf y).natAbs)
  case atStart => exact ⟨n, d, 0, rfl, rfl, rfl, hn0, hn1, by omega, hd1, rfl⟩
  case round =>
    obtain ⟨a, b, m, rfl, rfl, rfl, ha0, ha1, hb0, hb1, hg⟩ := hrel
    by_cases hb : b = 0
    · subst hb
      have HG := hg.out
      rw [Int.gcd_zero_right] at HG
      have HG2 := Lib.hid HG
      clear HG hg
      go_wp2
      all_goals
        go_ret
        refine ⟨_, rfl, ⟨_, rfl⟩, ?_⟩
        rw [← HG2.out]
        show _ = _
        omega
    · have hbb : (b == 0) = false := by simpa using hb
      have hbn : (b != 0) = true := by simpa using hb
      have hlt := tmod_lt a b hb
      have hg2 := Lib.hid ((gcd_tmod a b).trans hg.out)
      clear hg
      go_wp2
      go_quiet (fail)
      go_wp2
      go_roundw
      case rel => exact ⟨b, _, _, rfl, rfl, World.drewN_drewN _ _ _, hb0, hb1, by omega, by omega, hg2.out⟩
      case measure => simp only [intOf]; exact hlt

theorem gcd_pos {n d : Int} (hd : 0 < d) : 0 < (Int.gcd n d : Int) := by
  have : Int.gcd n d ≠ 0 := by rw [Ne, Int.gcd_eq_zero_iff]; omega
  omega
theorem gcd_le {n d : Int} (hd : 0 < d) : (Int.gcd n d : Int) ≤ d := Int.le_of_dvd hd (Int.gcd_dvd_right n d)
theorem quo_n {n d g : Int} (hg : g = (Int.gcd n d : Int)) : n.tdiv g = lowN n d := by
  subst hg; rw [lowN]; exact Int.tdiv_eq_ediv_of_dvd (Int.gcd_dvd_left n d)
theorem quo_d {n d g : Int} (hg : g = (Int.gcd n d : Int)) : d.tdiv g = lowD n d := by
  subst hg; rw [lowD]; exact Int.tdiv_eq_ediv_of_dvd (Int.gcd_dvd_right n d)
theorem lowN_bd {n d : Int} (hd : 0 < d) (h0 : -4611686018427387904 ≤ n) (h1 : n ≤ 4611686018427387904) : -9223372036854775808 ≤ lowN n d ∧ lowN n d ≤ 9223372036854775807 := by
  have hg := gcd_pos (n := n) hd
  have e : lowN n d * (Int.gcd n d : Int) = n := Int.ediv_mul_cancel (Int.gcd_dvd_left n d)
  generalize (Int.gcd n d : Int) = g at *
  generalize lowN n d = q at *
  by_cases hq : 0 ≤ q
  · have : q * 1 ≤ q * g := Int.mul_le_mul_of_nonneg_left (by omega) hq
    omega
  · have : q * g ≤ q * 1 := Int.mul_le_mul_of_nonpos_left (by omega) (by omega)
    omega
theorem lowD_bd {n d : Int} (hd : 0 < d) : 1 ≤ lowD n d ∧ lowD n d ≤ d := by
  have hg := gcd_pos (n := n) hd
  have e : lowD n d * (Int.gcd n d : Int) = d := Int.ediv_mul_cancel (Int.gcd_dvd_right n d)
  generalize (Int.gcd n d : Int) = g at *
  generalize lowD n d = q at *
  have hq : 0 < q := by
    rcases Int.lt_or_le 0 q with h | h
    · exact h
    · have : q * g ≤ 0 := Int.mul_nonpos_of_nonpos_of_nonneg h (by omega)
      omega
  have : q * 1 ≤ q * g := Int.mul_le_mul_of_nonneg_left (by omega) (by omega)
  omega
theorem ret_agg2 {a b c d : Int} (h1 : a = c) (h2 : b = d) : Ending.returned (.agg #[.int .i64 a, .int .i64 b]) = .returned (.agg #[.int .i64 c, .int .i64 d]) := by rw [h1, h2]

set_option maxRecDepth 100000 in
theorem ratio_any (n d : Int) (w : World) (hn0 : -4611686018427387904 ≤ n) (hn1 : n ≤ 4611686018427387904) (hd0 : 0 < d) (hd1 : d ≤ 4611686018427387904) :
    Calls Try.prog 52 #[.int .i64 n, .int .i64 d] w fun e w' => e = .returned (.agg #[.int .i64 (lowN n d), .int .i64 (lowD n d)]) ∧ Below w.heap.size w w' := by
  go_enter Try.func52, Try.ntmps52
  go_wp2_with (go_at_call 79; refine (gcd_any _ _ _ hn0 hn1 hd0 hd1).mono ?_; rintro e w1 ⟨g, rfl, ⟨m, rfl⟩, hg⟩)
  have hgp : 0 < g := by rw [hg.out]; exact gcd_pos hd0
  have hg0 : (g == 0) = false := by simp; omega
  have hgn : g ≠ 0 := by omega
  have q1 : IntKind.i64.wrap (n.tdiv g) = lowN n d := by rw [quo_n hg.out]; exact IntWalk.i64_in _ (lowN_bd hd0 hn0 hn1)
  have q2 : IntKind.i64.wrap (d.tdiv g) = lowD n d := by rw [quo_d hg.out]; have := lowD_bd (n := n) hd0; exact IntWalk.i64_in _ (by omega)
  go_region_held3 (fun _ => True) (trivial) ((fail))
  go_wp2
  exact bodyPost_ret (v := .agg #[.int .i64 (lowN n d), .int .i64 (lowD n d)]) (by simp [results, Try.results52, go_sem]) rfl ⟨rfl, (by repeat (first | with_reducible exact Below.refl _ _ | with_reducible assumption | refine below_drewN ?_ _ | with_reducible refine Below.drew ?_ | (refine Below.setCell ?_ (by first | (simp; done) | (simp; omega) | omega) _) | (refine Below.alloc ?_ (by first | (simp; done) | (simp; omega) | omega) _)))⟩

set_option maxRecDepth 100000 in
theorem lowest_any (n d : Int) (w : World) (hn0 : -4611686018427387904 ≤ n) (hn1 : n ≤ 4611686018427387904) (hd0 : 0 < d) (hd1 : d ≤ 4611686018427387904) :
    Calls Try.prog 81 #[.int .i64 n, .int .i64 d] w fun e w' => e = .returned (.agg #[.int .i64 (lowN n d), .int .i64 (lowD n d)]) ∧ Below w.heap.size w w' := by
  go_enter Try.func81, Try.ntmps81
  go_wp2
  all_goals
    go_loopw [5, 6] (fun x y wr => ∃ (a b : Int) (m : Nat), x = .int .i64 a ∧ y = .int .i64 b ∧ wr = (w.alloc (.cells #[.int .i64 0, .int .i64 0] 36)).drewN m ∧ 0 ≤ a ∧ a ≤ 4611686018427387904 ∧ 0 ≤ b ∧ b ≤ 4611686018427387904 ∧ Hid (Int.gcd a b = Int.gcd n d)) (fun _ y _ => (intOf y).natAbs)
    case atStart => first | exact ⟨n, d, 0, rfl, rfl, rfl, by omega, by omega, by omega, by omega, rfl⟩ | exact ⟨-n, d, 0, rfl, rfl, rfl, by omega, by omega, by omega, by omega, Int.neg_gcd⟩
    case round =>
      obtain ⟨a, b, m, rfl, rfl, rfl, ha0, ha1, hb0, hb1, hg⟩ := hrel
      by_cases hb : b = 0
      · subst hb
        have HG := hg.out
        rw [Int.gcd_zero_right] at HG
        have HG2 : Hid (a = (Int.gcd n d : Int)) := by show _ = _; rw [← HG]; omega
        clear HG hg
        have hgp : 0 < a := by rw [HG2.out]; exact gcd_pos hd0
        have hg0 : (a == 0) = false := by simp; omega
        have hgn : a ≠ 0 := by omega
        have q1 : IntKind.i64.wrap (n.tdiv a) = lowN n d := by rw [quo_n HG2.out]; exact IntWalk.i64_in _ (lowN_bd hd0 hn0 hn1)
        have q2 : IntKind.i64.wrap (d.tdiv a) = lowD n d := by rw [quo_d HG2.out]; have := lowD_bd (n := n) hd0; exact IntWalk.i64_in _ (by omega)
        go_wp2
        go_region_held3 (fun _ => True) (trivial) ((fail))
        go_wp2
        exact bodyPost_ret (v := .agg #[.int .i64 (lowN n d), .int .i64 (lowD n d)]) (by simp [results, Try.results81, go_sem]) rfl ⟨rfl, (by repeat (first | with_reducible exact Below.refl _ _ | with_reducible assumption | refine below_drewN ?_ _ | with_reducible refine Below.drew ?_ | (refine Below.setCell ?_ (by first | (simp; done) | (simp; omega) | omega) _) | (refine Below.alloc ?_ (by first | (simp; done) | (simp; omega) | omega) _)))⟩
      · have hbb : (b == 0) = false := by simpa using hb
        have hbn : (b != 0) = true := by simpa using hb
        have hlt : (a % b).natAbs < b.natAbs := by rw [← Int.tmod_eq_emod_of_nonneg ha0]; exact tmod_lt a b hb
        have hnn := Int.emod_nonneg a hb
        have hg2 := Lib.hid ((gcd_emod a b).trans hg.out)
        clear hg
        go_wp2
        go_quiet (fail)
        go_wp2
        go_roundw
        case rel => exact ⟨b, _, _, rfl, rfl, World.drewN_drewN _ _ _, by omega, by omega, by omega, by omega, hg2.out⟩
        case measure => simp only [intOf]; exact hlt
end Go.Proofs.Ytjghlfagdleglaa

/-
  Contracts: both ValidClock, Long, Equal.
-/
namespace Go.Proofs.Ytjghlfagdleglaa
open Go.RowKit

def okM (m : Int × Int) : Bool := tickB m.1 && tickB m.2
def ascFrom : Option (Int × Int) → List (Int × Int) → Bool
  | _, [] => true
  | none, m :: t => okM m && ascFrom (some m) t
  | some p, m :: t => okM m && decide (p.1 < m.1 ∧ p.2 < m.2) && ascFrom (some m) t
def vkB (ms : List (Int × Int)) : Bool := ascFrom none ms && decide (2 ≤ ms.length ∧ ms.length ≤ 30)
def prevM (ms : List (Int × Int)) : Nat → Option (Int × Int)
  | 0 => none
  | k + 1 => ms[k]?

theorem dropM {ms : List (Int × Int)} {k : Nat} {m : Int × Int} (h : ms[k]? = some m) : ms.drop k = m :: ms.drop (k + 1) := by
  obtain ⟨hk, e⟩ := List.getElem?_eq_some_iff.1 h
  rw [List.drop_eq_getElem_cons hk, e]
theorem getM_of_lt {ms : List (Int × Int)} {k : Nat} (h : k < ms.length) : ∃ a b, ms[k]? = some (a, b) := ⟨_, _, List.getElem?_eq_getElem h⟩

theorem asc_bad {ms : List (Int × Int)} {o : Option (Int × Int)} {k : Nat} {m : Int × Int} (hall : ascFrom none ms = ascFrom o (ms.drop k)) (h : ms[k]? = some m) (hm : okM m = false) : false = vkB ms := by
  rw [vkB, hall, dropM h]; cases o <;> simp [ascFrom, hm]
theorem asc_low {ms : List (Int × Int)} {p : Int × Int} {k : Nat} {m : Int × Int} (hall : ascFrom none ms = ascFrom (some p) (ms.drop k)) (h : ms[k]? = some m) (hm : m.1 ≤ p.1 ∨ m.2 ≤ p.2) : false = vkB ms := by
  rw [vkB, hall, dropM h, ascFrom, decide_eq_false (by omega)]; simp
theorem asc_next {ms : List (Int × Int)} {p : Int × Int} {k : Nat} {m : Int × Int} (hall : ascFrom none ms = ascFrom (some p) (ms.drop k)) (h : ms[k]? = some m) (hm : okM m = true) (h1 : p.1 < m.1) (h2 : p.2 < m.2) :
    ascFrom none ms = ascFrom (prevM ms (k + 1)) (ms.drop (k + 1)) := by
  rw [hall, dropM h, ascFrom, hm, decide_eq_true ⟨h1, h2⟩, prevM, h]; rfl
theorem asc_first {ms : List (Int × Int)} {m : Int × Int} (h : ms[0]? = some m) (hm : okM m = true) :
    ascFrom none ms = ascFrom (prevM ms (0 + 1)) (ms.drop (0 + 1)) := by
  have e := dropM h
  rw [List.drop_zero] at e
  rw [prevM, h]
  conv => lhs; rw [e, ascFrom, hm]
  rfl
theorem asc_first' {ms : List (Int × Int)} {k : Nat} {m : Int × Int} (hk : ¬ 0 < k) (h : ms[k]? = some m) (hm : okM m = true) :
    ascFrom none ms = ascFrom (prevM ms (k + 1)) (ms.drop (k + 1)) := by
  obtain rfl : k = 0 := by omega
  exact asc_first h hm
theorem asc_end {ms : List (Int × Int)} {o : Option (Int × Int)} {k : Nat} (hall : ascFrom none ms = ascFrom o (ms.drop k)) (hk : ms.length ≤ k) : ascFrom none ms = true := by
  rw [hall, List.drop_eq_nil_of_le hk]; cases o <;> rfl
theorem vk_len {ms : List (Int × Int)} (hn : ¬ (2 ≤ ms.length ∧ ms.length ≤ 30)) : false = vkB ms := by
  rw [vkB, decide_eq_false hn]; simp
theorem vk_all {ms : List (Int × Int)} (hn : 2 ≤ ms.length ∧ ms.length ≤ 30) (h : ascFrom none ms = true) : true = vkB ms := by
  rw [vkB, decide_eq_true hn, h]; rfl
theorem okM_bad1 {a b : Int} (h : tickB a = false) : okM (a, b) = false := by simp [okM, h]
theorem okM_bad2 {a b : Int} (h : tickB b = false) : okM (a, b) = false := by simp [okM, h]

set_option maxRecDepth 100000 in
set_option maxHeartbeats 400000 in
theorem validClock_any (ms : List (Int × Int)) (A : Option Addr) (c : Nat) (w : World) (h : Marks w A ms) (hl : ms.length ≤ maxLen) :
    Calls Try.prog 32 #[.slice A ms.length c] w fun e w' => e = .returned (.bool (vkB ms)) ∧ Below w.heap.size w w' := by
  unfold maxLen at hl
  by_cases hn : 2 ≤ ms.length ∧ ms.length ≤ 30
  · have n1 : decide ((ms.length : Int) < 2) = false := by simp; omega
    have n2 : decide (30 < (ms.length : Int)) = false := by simp; omega
    obtain ⟨bl, off, rfl, hbk, hcells⟩ := h.open_ (by omega)
    have HC := Lib.hid hcells
    clear hcells h
    go_enter Try.func32, Try.ntmps32
    go_wp2
    go_loopw [15] (fun i wr => ∃ k : Nat, k ≤ ms.length ∧ i = .int .i64 k ∧ Below w.heap.size w wr ∧ Hid (ascFrom none ms = ascFrom (prevM ms k) (ms.drop k))) (fun i _ => ms.length - (intOf i).toNat)
    case atStart => exact ⟨0, Nat.zero_le _, rfl, Below.refl _ _, rfl⟩
    case round =>
      obtain ⟨k, hk, rfl, hB, hall⟩ := hrel
      by_cases hlt : k < ms.length
      · obtain ⟨a, b, hm⟩ := getM_of_lt hlt
        have hca := (hB.cell (p := ⟨bl, off + k * 2, none⟩) hbk).trans (HC.out k _ hm).1
        have hcb := (hB.cell (p := ⟨bl, off + k * 2 + 1, none⟩) hbk).trans (HC.out k _ hm).2
        have hz := hB.size
        have hbw : bl < wr.heap.size := Nat.lt_of_lt_of_le hbk hB.size
        have HM := Lib.hid hm
        clear hm
        by_cases ha : tickB a = true
        · by_cases hb : tickB b = true
          · have HOK : Hid (okM (a, b) = true) := by show _ = _; simp [okM, ha, hb]
            by_cases hk0 : 0 < k
            · obtain ⟨pa, pb, hp⟩ := getM_of_lt (show k - 1 < ms.length by omega)
              have hpa := (hB.cell (p := ⟨bl, off + (k - 1) * 2, none⟩) hbk).trans (HC.out (k - 1) _ hp).1
              have hpb := (hB.cell (p := ⟨bl, off + (k - 1) * 2 + 1, none⟩) hbk).trans (HC.out (k - 1) _ hp).2
              have hprev : prevM ms k = some (pa, pb) := by
                obtain ⟨j, rfl⟩ : ∃ j, k = j + 1 := ⟨k - 1, by omega⟩
                exact hp
              have hall2 : Hid (ascFrom none ms = ascFrom (some (pa, pb)) (ms.drop k)) := by rw [← hprev]; exact hall
              clear hprev hall hp
              have i0 : (0 : Int) ≤ (k : Int) := by omega
              have i1 : (k : Int) < (ms.length : Int) := by omega
              have i3 : (0 : Int) ≤ (k : Int) - 1 := by omega
              have i4 : (k : Int) - 1 < (ms.length : Int) := by omega
              have i7 : (1 : Int) ≤ (k : Int) := by omega
              have i8 : (k : Int) ≤ (ms.length : Int) := by omega
              have i2 : IntKind.i64.wrap ((k : Int) - 1) = (k : Int) - 1 := IntWalk.i64_in _ (by omega)
              have i5 : ((k : Int) - 1).toNat = k - 1 := by omega
              have t0 : decide ((0 : Int) < (k : Int)) = true := by simp; omega
              by_cases h1 : a ≤ pa
              · have t1 : decide (a ≤ pa) = true := decide_eq_true h1
                go_wp2_with (go_at_call 63; refine (validTick_any _ _).mono ?_; rintro e w' ⟨rfl, rfl⟩)
                go_quiet (fail)
                go_wp2
                go_ret
                exact ⟨ret_bool (asc_low hall2.out HM.out (.inl h1)), (by repeat (first | with_reducible exact Below.refl _ _ | with_reducible assumption | refine below_drewN ?_ _ | with_reducible refine Below.drew ?_ | (refine Below.setCell ?_ (by first | (simp; done) | (simp; omega) | omega) _) | (refine Below.alloc ?_ (by first | (simp; done) | (simp; omega) | omega) _)))⟩
              · have t1 : decide (a ≤ pa) = false := decide_eq_false h1
                by_cases h2 : b ≤ pb
                · have t2 : decide (b ≤ pb) = true := decide_eq_true h2
                  go_wp2_with (go_at_call 63; refine (validTick_any _ _).mono ?_; rintro e w' ⟨rfl, rfl⟩)
                  go_quiet (fail)
                  go_wp2
                  go_ret
                  exact ⟨ret_bool (asc_low hall2.out HM.out (.inr h2)), (by repeat (first | with_reducible exact Below.refl _ _ | with_reducible assumption | refine below_drewN ?_ _ | with_reducible refine Below.drew ?_ | (refine Below.setCell ?_ (by first | (simp; done) | (simp; omega) | omega) _) | (refine Below.alloc ?_ (by first | (simp; done) | (simp; omega) | omega) _)))⟩
                · have t2 : decide (b ≤ pb) = false := decide_eq_false h2
                  go_wp2_with (go_at_call 63; refine (validTick_any _ _).mono ?_; rintro e w' ⟨rfl, rfl⟩)
                  go_quiet (fail)
                  clear i2 i5
                  go_wp2
                  go_roundw
                  case rel => exact ⟨k + 1, by omega, by go_num, (by repeat (first | with_reducible exact Below.refl _ _ | with_reducible assumption | refine below_drewN ?_ _ | with_reducible refine Below.drew ?_ | (refine Below.setCell ?_ (by first | (simp; done) | (simp; omega) | omega) _) | (refine Below.alloc ?_ (by first | (simp; done) | (simp; omega) | omega) _))), asc_next hall2.out HM.out HOK.out (by omega) (by omega)⟩
                  case measure => simp [intOf]; omega
            · have t0 : decide ((0 : Int) < (k : Int)) = false := by simp; omega
              have hnx := Lib.hid (asc_first' hk0 HM.out HOK.out)
              go_wp2_with (go_at_call 63; refine (validTick_any _ _).mono ?_; rintro e w' ⟨rfl, rfl⟩)
              go_quiet (fail)
              go_wp2
              go_roundw
              case rel => exact ⟨k + 1, by omega, by go_num, (by repeat (first | with_reducible exact Below.refl _ _ | with_reducible assumption | refine below_drewN ?_ _ | with_reducible refine Below.drew ?_ | (refine Below.setCell ?_ (by first | (simp; done) | (simp; omega) | omega) _) | (refine Below.alloc ?_ (by first | (simp; done) | (simp; omega) | omega) _))), hnx.out⟩
              case measure => simp [intOf]; omega
          · have hb2 : tickB b = false := by simpa using hb
            go_wp2_with (go_at_call 63; refine (validTick_any _ _).mono ?_; rintro e w' ⟨rfl, rfl⟩)
            go_ret
            exact ⟨ret_bool (asc_bad hall.out HM.out (okM_bad2 hb2)), (by repeat (first | with_reducible exact Below.refl _ _ | with_reducible assumption | refine below_drewN ?_ _ | with_reducible refine Below.drew ?_ | (refine Below.setCell ?_ (by first | (simp; done) | (simp; omega) | omega) _) | (refine Below.alloc ?_ (by first | (simp; done) | (simp; omega) | omega) _)))⟩
        · have ha2 : tickB a = false := by simpa using ha
          go_wp2_with (go_at_call 63; refine (validTick_any _ _).mono ?_; rintro e w' ⟨rfl, rfl⟩)
          go_ret
          exact ⟨ret_bool (asc_bad hall.out HM.out (okM_bad1 ha2)), (by repeat (first | with_reducible exact Below.refl _ _ | with_reducible assumption | refine below_drewN ?_ _ | with_reducible refine Below.drew ?_ | (refine Below.setCell ?_ (by first | (simp; done) | (simp; omega) | omega) _) | (refine Below.alloc ?_ (by first | (simp; done) | (simp; omega) | omega) _)))⟩
      · go_wp2
        go_ret
        exact ⟨ret_bool (vk_all hn (asc_end hall.out (by omega))), hB⟩
  · by_cases n1 : (ms.length : Int) < 2
    · go_enter Try.func32, Try.ntmps32
      go_wp2
      go_ret
      exact ⟨ret_bool (vk_len hn), Below.refl _ _⟩
    · have n2 : 30 < (ms.length : Int) := by omega
      have n3 : decide ((ms.length : Int) < 2) = false := by simp; omega
      go_enter Try.func32, Try.ntmps32
      go_wp2
      go_ret
      exact ⟨ret_bool (vk_len hn), Below.refl _ _⟩
end Go.Proofs.Ytjghlfagdleglaa

/-
  Contracts: firnref01.ValidClock, Long, Equal.
-/
namespace Go.Proofs.Ytjghlfagdleglaa
open Go.RowKit

set_option maxRecDepth 100000 in
set_option maxHeartbeats 800000 in
theorem refValidClock_any (ms : List (Int × Int)) (A : Option Addr) (c : Nat) (w : World) (h : Marks w A ms) (hl : ms.length ≤ maxLen) :
    Calls Try.prog 33 #[.slice A ms.length c] w fun e w' => e = .returned (.bool (vkB ms)) ∧ Below w.heap.size w w' := by
  unfold maxLen at hl
  have H := Lib.hid h
  clear h
  go_enter Try.func33, Try.ntmps33
  go_wp2
  go_loopw [7] (fun i wr => ∃ k : Nat, k ≤ ms.length ∧ i = .int .i64 k ∧ Below w.heap.size w wr ∧ Hid (ascFrom none ms = ascFrom (prevM ms k) (ms.drop k))) (fun i _ => ms.length - (intOf i).toNat)
  case atStart => exact ⟨0, Nat.zero_le _, rfl, Below.refl _ _, rfl⟩
  case round =>
    obtain ⟨k, hk, rfl, hB, hall⟩ := hrel
    by_cases hlt : k < ms.length
    · obtain ⟨bl, off, rfl, hbk, hcells⟩ := H.out.open_ (by omega)
      have HC := Lib.hid hcells
      clear hcells
      obtain ⟨a, b, hm⟩ := getM_of_lt hlt
      have hca := (hB.cell (p := ⟨bl, off + k * 2, none⟩) hbk).trans (HC.out k _ hm).1
      have hcb := (hB.cell (p := ⟨bl, off + k * 2 + 1, none⟩) hbk).trans (HC.out k _ hm).2
      have hz := hB.size
      have hbw : bl < wr.heap.size := Nat.lt_of_lt_of_le hbk hB.size
      have HM := Lib.hid hm
      clear hm
      by_cases ha : tickB a = true
      · by_cases hb : tickB b = true
        · have HOK : Hid (okM (a, b) = true) := by show _ = _; simp [okM, ha, hb]
          by_cases hk0 : 0 < k
          · obtain ⟨pa, pb, hp⟩ := getM_of_lt (show k - 1 < ms.length by omega)
            have hpa := (hB.cell (p := ⟨bl, off + (k - 1) * 2, none⟩) hbk).trans (HC.out (k - 1) _ hp).1
            have hpb := (hB.cell (p := ⟨bl, off + (k - 1) * 2 + 1, none⟩) hbk).trans (HC.out (k - 1) _ hp).2
            have hprev : prevM ms k = some (pa, pb) := by
              obtain ⟨j, rfl⟩ : ∃ j, k = j + 1 := ⟨k - 1, by omega⟩
              exact hp
            have hall2 : Hid (ascFrom none ms = ascFrom (some (pa, pb)) (ms.drop k)) := by rw [← hprev]; exact hall
            clear hprev hall hp
            have i0 : (0 : Int) ≤ (k : Int) := by omega
            have i1 : (k : Int) < (ms.length : Int) := by omega
            have i3 : (0 : Int) ≤ (k : Int) - 1 := by omega
            have i4 : (k : Int) - 1 < (ms.length : Int) := by omega
            have i7 : (1 : Int) ≤ (k : Int) := by omega
            have i8 : (k : Int) ≤ (ms.length : Int) := by omega
            have i2 : IntKind.i64.wrap ((k : Int) - 1) = (k : Int) - 1 := IntWalk.i64_in _ (by omega)
            have i5 : ((k : Int) - 1).toNat = k - 1 := by omega
            have t0 : decide ((0 : Int) < (k : Int)) = true := by simp; omega
            by_cases h1 : a ≤ pa
            · have t1 : decide (a ≤ pa) = true := decide_eq_true h1
              go_wp2
              go_quiet ((go_at_call 61; exact Calls.quiet_of_same ((isTick_any _ _).mono fun _ _ h => ⟨h.1, h.2.symm⟩)))
              go_wp2
              go_ret
              exact ⟨ret_bool (asc_low hall2.out HM.out (.inl h1)), (by repeat (first | with_reducible exact Below.refl _ _ | with_reducible assumption | refine below_drewN ?_ _ | with_reducible refine Below.drew ?_ | (refine Below.setCell ?_ (by first | (simp; done) | (simp; omega) | omega) _) | (refine Below.alloc ?_ (by first | (simp; done) | (simp; omega) | omega) _)))⟩
            · have t1 : decide (a ≤ pa) = false := decide_eq_false h1
              by_cases h2 : b ≤ pb
              · have t2 : decide (b ≤ pb) = true := decide_eq_true h2
                go_wp2
                go_quiet ((go_at_call 61; exact Calls.quiet_of_same ((isTick_any _ _).mono fun _ _ h => ⟨h.1, h.2.symm⟩)))
                go_wp2
                go_ret
                exact ⟨ret_bool (asc_low hall2.out HM.out (.inr h2)), (by repeat (first | with_reducible exact Below.refl _ _ | with_reducible assumption | refine below_drewN ?_ _ | with_reducible refine Below.drew ?_ | (refine Below.setCell ?_ (by first | (simp; done) | (simp; omega) | omega) _) | (refine Below.alloc ?_ (by first | (simp; done) | (simp; omega) | omega) _)))⟩
              · have t2 : decide (b ≤ pb) = false := decide_eq_false h2
                go_wp2
                go_quiet ((go_at_call 61; exact Calls.quiet_of_same ((isTick_any _ _).mono fun _ _ h => ⟨h.1, h.2.symm⟩)))
                clear i2 i5
                go_wp2
                go_roundw
                case rel => exact ⟨k + 1, by omega, by go_num, (by repeat (first | with_reducible exact Below.refl _ _ | with_reducible assumption | refine below_drewN ?_ _ | with_reducible refine Below.drew ?_ | (refine Below.setCell ?_ (by first | (simp; done) | (simp; omega) | omega) _) | (refine Below.alloc ?_ (by first | (simp; done) | (simp; omega) | omega) _))), asc_next hall2.out HM.out HOK.out (by omega) (by omega)⟩
                case measure => simp [intOf]; omega
          · have t0 : decide ((0 : Int) < (k : Int)) = false := by simp; omega
            have hnx := Lib.hid (asc_first' hk0 HM.out HOK.out)
            go_wp2
            go_quiet ((go_at_call 61; exact Calls.quiet_of_same ((isTick_any _ _).mono fun _ _ h => ⟨h.1, h.2.symm⟩)))
            go_wp2
            go_roundw
            case rel => exact ⟨k + 1, by omega, by go_num, (by repeat (first | with_reducible exact Below.refl _ _ | with_reducible assumption | refine below_drewN ?_ _ | with_reducible refine Below.drew ?_ | (refine Below.setCell ?_ (by first | (simp; done) | (simp; omega) | omega) _) | (refine Below.alloc ?_ (by first | (simp; done) | (simp; omega) | omega) _))), hnx.out⟩
            case measure => simp [intOf]; omega
        · have hb2 : tickB b = false := by simpa using hb
          go_wp2
          go_quiet ((go_at_call 61; exact Calls.quiet_of_same ((isTick_any _ _).mono fun _ _ h => ⟨h.1, h.2.symm⟩)))
          go_wp2
          go_ret
          exact ⟨ret_bool (asc_bad hall.out HM.out (okM_bad2 hb2)), (by repeat (first | with_reducible exact Below.refl _ _ | with_reducible assumption | refine below_drewN ?_ _ | with_reducible refine Below.drew ?_ | (refine Below.setCell ?_ (by first | (simp; done) | (simp; omega) | omega) _) | (refine Below.alloc ?_ (by first | (simp; done) | (simp; omega) | omega) _)))⟩
      · have ha2 : tickB a = false := by simpa using ha
        go_wp2
        go_quiet ((go_at_call 61; exact Calls.quiet_of_same ((isTick_any _ _).mono fun _ _ h => ⟨h.1, h.2.symm⟩)))
        go_wp2
        go_ret
        exact ⟨ret_bool (asc_bad hall.out HM.out (okM_bad1 ha2)), (by repeat (first | with_reducible exact Below.refl _ _ | with_reducible assumption | refine below_drewN ?_ _ | with_reducible refine Below.drew ?_ | (refine Below.setCell ?_ (by first | (simp; done) | (simp; omega) | omega) _) | (refine Below.alloc ?_ (by first | (simp; done) | (simp; omega) | omega) _)))⟩
    · have hf := asc_end hall.out (show ms.length ≤ k by omega)
      have HF := Lib.hid hf
      clear hf hall
      go_wp2
      all_goals
        go_ret
        exact ⟨ret_bool (by rw [vkB, HF.out, Bool.true_and, Bool.eq_iff_iff]; simp; try omega), hB⟩

theorem long_any (ms : List (Int × Int)) (A : Option Addr) (c : Nat) (w : World) :
    Calls Try.prog 29 #[.slice A ms.length c] w fun e w' => e = .returned (.bool (decide (100 < ms.length))) ∧ w = w' := by
  go_enter Try.func29, Try.ntmps29
  go_wp2
  go_ret
  exact ⟨ret_bool (by simp; omega), rfl⟩
end Go.Proofs.Ytjghlfagdleglaa

/-
  Contracts: size, firnref01.ValidReadings, both ValidCounts, SameInts, many.
-/
namespace Go.Proofs.Ytjghlfagdleglaa
open Go.RowKit

theorem pow_succ' (k : Nat) : (2 : Int) ^ (k + 1) = 2 ^ k * 2 := Int.pow_succ 2 k
theorem pow_lo (k : Nat) : (1 : Int) ≤ 2 ^ k := by
  have h : 0 < (2 : Nat) ^ k := Nat.two_pow_pos k
  have e : ((2 : Int) ^ k) = ((2 ^ k : Nat) : Int) := by simp
  rw [e]; omega
theorem pow_hi {k : Nat} (h : k ≤ 32) : (2 : Int) ^ k ≤ 4294967296 := by
  have a2 : (2 : Nat) ^ k ≤ 2 ^ 32 := Nat.pow_le_pow_right (by omega) h
  have e : ((2 : Int) ^ k) = ((2 ^ k : Nat) : Int) := by simp
  rw [e]
  have : 2 ^ k ≤ (4294967296 : Nat) := a2
  omega

theorem size_any (b : Int) (w : World) (h1 : 0 ≤ b) (h2 : b ≤ 32) :
    Calls Try.prog 58 #[.int .i64 b] w fun e w' => ∃ R : Int, e = .returned (.int .i64 R) ∧ w = w' ∧ Hid (R = 2 ^ b.toNat) := by
  obtain ⟨n, rfl⟩ := Int.eq_ofNat_of_zero_le h1
  go_enter Try.func58, Try.ntmps58
  go_wp2
  go_loop [3, 5] (fun p i => ∃ (k : Nat) (R : Int), k ≤ n ∧ i = .int .i64 k ∧ p = .int .i64 R ∧ 0 ≤ R ∧ R ≤ 4294967296 ∧ Hid (R = 2 ^ k)) (fun _ i => n - (intOf i).toNat)
  case atStart => exact ⟨0, 1, by omega, rfl, rfl, by omega, by omega, rfl⟩
  case round =>
    obtain ⟨k, R, hk, rfl, rfl, hR0, hR1, hR⟩ := hrel
    by_cases hlt : k < n
    · go_wp2
      go_round
      case rel =>
        have e : R * 2 = 2 ^ (k + 1) := by rw [pow_succ', hR.out]
        have := pow_hi (k := k + 1) (by omega)
        exact ⟨k + 1, R * 2, by omega, by go_num, by go_num, by omega, by omega, e⟩
      case measure => simp [intOf]; omega
    · obtain rfl : k = n := by omega
      go_wp2
      go_ret
      exact ⟨_, rfl, rfl, hR.out⟩

theorem vr_bad' {b R : Int} {zs : List Int} {k : Nat} {z : Int} (hR : R = 2 ^ b.toNat) (h : zs[k]? = some z) (hz : z < 0 ∨ R ≤ z) : false = vrB b zs := by subst hR; exact vr_bad h hz
theorem vr_next' {b R : Int} {zs : List Int} {k : Nat} {z : Int} (hR : R = 2 ^ b.toNat) (h : zs[k]? = some z) (ha : (zs.take k).all (okR b) = true) (h0 : 0 ≤ z) (h1 : z < R) : (zs.take (k + 1)).all (okR b) = true := by
  subst hR; exact vr_next h ha h0 h1

theorem refValidReadings_any (b : Int) (zs : List Int) (A : Option Addr) (c : Nat) (w : World) (h : Ints w A zs) (hl : zs.length ≤ maxLen) :
    Calls Try.prog 19 #[.int .i64 b, .slice A zs.length c] w fun e w' => e = .returned (.bool (vrB b zs)) ∧ w = w' := by
  unfold maxLen at hl
  have H := Lib.hid h
  clear h
  by_cases hb : bitsB b = true
  · have hb' : 4 ≤ b ∧ b ≤ 32 := by simpa [bitsB] using hb
    by_cases hn : 1 ≤ zs.length ∧ zs.length ≤ 60
    · have n1 : decide ((zs.length : Int) < 1) = false := by simp; omega
      have n2 : decide (60 < (zs.length : Int)) = false := by simp; omega
      go_enter Try.func19, Try.ntmps19
      go_wp2_with (go_at_call 51; refine (isBits_any _ _).mono ?_; rintro e w' ⟨rfl, rfl⟩)
      go_loop [22] (fun i => ∃ k : Nat, k ≤ zs.length ∧ i = .int .i64 k ∧ Hid ((zs.take k).all (okR b) = true)) (fun i => zs.length - (intOf i).toNat)
      case atStart => exact ⟨0, Nat.zero_le _, rfl, rfl⟩
      case round =>
        obtain ⟨k, hk, rfl, hall⟩ := hrel
        by_cases hlt : k < zs.length
        · obtain ⟨ad, z, rfl, hbk, hz, hc⟩ := H.out.get hlt
          by_cases hz0 : z < 0
          · go_wp2
            go_ret
            exact ⟨ret_bool (vr_bad hz.out (.inl hz0)), rfl⟩
          · go_wp2_with (go_at_call 58; refine (size_any _ _ (by omega) (by omega)).mono ?_; rintro e w' ⟨R, rfl, rfl, hR⟩)
            · go_ret
              exact ⟨ret_bool (vr_bad' (hR.out) hz.out (.inr ‹_›)), rfl⟩
            · go_round
              case rel => exact ⟨k + 1, by omega, by go_num, vr_next' hR.out hz.out hall.out (by omega) (by omega)⟩
              case measure => simp [intOf]; omega
        · go_wp2
          go_ret
          exact ⟨ret_bool (vr_all hb hn (by omega) hall.out), rfl⟩
    · by_cases n1 : (zs.length : Int) < 1
      · go_enter Try.func19, Try.ntmps19
        go_wp2_with (go_at_call 51; refine (isBits_any _ _).mono ?_; rintro e w' ⟨rfl, rfl⟩)
        go_ret
        exact ⟨ret_bool (vr_len hn), rfl⟩
      · have n2 : 60 < (zs.length : Int) := by omega
        have n3 : decide ((zs.length : Int) < 1) = false := by simp; omega
        go_enter Try.func19, Try.ntmps19
        go_wp2_with (go_at_call 51; refine (isBits_any _ _).mono ?_; rintro e w' ⟨rfl, rfl⟩)
        go_ret
        exact ⟨ret_bool (vr_len hn), rfl⟩
  · have hb2 : bitsB b = false := by simpa using hb
    go_enter Try.func19, Try.ntmps19
    go_wp2_with (go_at_call 51; refine (isBits_any _ _).mono ?_; rintro e w' ⟨rfl, rfl⟩)
    go_ret
    exact ⟨ret_bool (vr_bits hb), rfl⟩
end Go.Proofs.Ytjghlfagdleglaa

/-
  Contracts: both ValidCounts, SameInts, many.
-/
namespace Go.Proofs.Ytjghlfagdleglaa
open Go.RowKit

/-- From the number l on the list never falls, and stays within the greatest count. -/
def upFrom : Int → List Int → Bool
  | _, [] => true
  | l, z :: t => decide (l ≤ z ∧ z ≤ 1099511627776) && upFrom z t
def vcB (zs : List Int) : Bool := upFrom 0 zs && decide (1 ≤ zs.length ∧ zs.length ≤ 60)

/-- What is left at k, after the element l. -/
theorem drop_cons {zs : List Int} {k : Nat} {z : Int} (h : zs[k]? = some z) : zs.drop k = z :: zs.drop (k + 1) := by
  obtain ⟨hk, e⟩ := List.getElem?_eq_some_iff.1 h
  rw [List.drop_eq_getElem_cons hk, e]
theorem vc_len {zs : List Int} (hn : ¬ (1 ≤ zs.length ∧ zs.length ≤ 60)) : false = vcB zs := by
  unfold vcB; rw [decide_eq_false hn]; simp
theorem vc_bad {zs : List Int} {k : Nat} {l z : Int} (hall : upFrom 0 zs = upFrom l (zs.drop k)) (h : zs[k]? = some z) (hz : z < l ∨ 1099511627776 < z) : upFrom 0 zs = false := by
  rw [hall, drop_cons h]; simp [upFrom]; omega
theorem vc_false {zs : List Int} (h : upFrom 0 zs = false) : false = vcB zs := by simp [vcB, h]
theorem vc_next {zs : List Int} {k : Nat} {l z : Int} (hall : upFrom 0 zs = upFrom l (zs.drop k)) (h : zs[k]? = some z) (h0 : l ≤ z) (h1 : z ≤ 1099511627776) : upFrom 0 zs = upFrom z (zs.drop (k + 1)) := by
  rw [hall, drop_cons h]; simp [upFrom, h0, h1]
theorem vc_end {zs : List Int} {k : Nat} {l : Int} (hall : upFrom 0 zs = upFrom l (zs.drop k)) (h : zs.length ≤ k) : upFrom 0 zs = true := by
  rw [hall, List.drop_eq_nil_of_le h]; rfl

theorem validCounts_any (zs : List Int) (A : Option Addr) (c : Nat) (w : World) (h : Ints w A zs) (hl : zs.length ≤ maxLen) :
    Calls Try.prog 20 #[.slice A zs.length c] w fun e w' => e = .returned (.bool (vcB zs)) ∧ w = w' := by
  unfold maxLen at hl
  have H := Lib.hid h
  clear h
  by_cases hn : 1 ≤ zs.length ∧ zs.length ≤ 60
  · have n1 : decide ((zs.length : Int) < 1) = false := by simp; omega
    have n2 : decide (60 < (zs.length : Int)) = false := by simp; omega
    go_enter Try.func20, Try.ntmps20
    go_wp2
    go_loop [3, 16] (fun p i => ∃ (k : Nat) (l : Int), k ≤ zs.length ∧ i = .int .i64 k ∧ p = .int .i64 l ∧ Hid (upFrom 0 zs = upFrom l (zs.drop k))) (fun _ i => zs.length - (intOf i).toNat)
    case atStart => exact ⟨0, 0, Nat.zero_le _, rfl, rfl, rfl⟩
    case round =>
      obtain ⟨k, l, hk, rfl, rfl, hall⟩ := hrel
      by_cases hlt : k < zs.length
      · obtain ⟨ad, z, rfl, hbk, hz, hc⟩ := H.out.get hlt
        go_wp2
        · go_ret
          exact ⟨ret_bool (vc_false (vc_bad hall.out hz.out (by omega))), rfl⟩
        · go_round
          case rel => exact ⟨k + 1, z, by omega, by go_num, rfl, vc_next hall.out hz.out (by omega) (by omega)⟩
          case measure => simp [intOf]; omega
        · go_ret
          exact ⟨ret_bool (vc_false (vc_bad hall.out hz.out (by omega))), rfl⟩
      · go_wp2
        go_ret
        exact ⟨ret_bool (by simp [vcB, vc_end hall.out (show zs.length ≤ k by omega), hn]), rfl⟩
  · by_cases n1 : (zs.length : Int) < 1
    · go_enter Try.func20, Try.ntmps20
      go_wp2
      go_ret
      exact ⟨ret_bool (vc_len hn), rfl⟩
    · have n2 : 60 < (zs.length : Int) := by omega
      have n3 : decide ((zs.length : Int) < 1) = false := by simp; omega
      go_enter Try.func20, Try.ntmps20
      go_wp2
      go_ret
      exact ⟨ret_bool (vc_len hn), rfl⟩

theorem refValidCounts_any (zs : List Int) (A : Option Addr) (c : Nat) (w : World) (h : Ints w A zs) (hl : zs.length ≤ maxLen) :
    Calls Try.prog 21 #[.slice A zs.length c] w fun e w' => e = .returned (.bool (vcB zs)) ∧ w = w' := by
  unfold maxLen at hl
  have H := Lib.hid h
  clear h
  go_enter Try.func21, Try.ntmps21
  go_wp2
  go_loop [3, 8] (fun p i => ∃ (k : Nat) (l : Int), k ≤ zs.length ∧ i = .int .i64 k ∧ p = .int .i64 l ∧ Hid (upFrom 0 zs = upFrom l (zs.drop k))) (fun _ i => zs.length - (intOf i).toNat)
  case atStart => exact ⟨0, 0, Nat.zero_le _, rfl, rfl, rfl⟩
  case round =>
    obtain ⟨k, l, hk, rfl, rfl, hall⟩ := hrel
    by_cases hlt : k < zs.length
    · obtain ⟨ad, z, rfl, hbk, hz, hc⟩ := H.out.get hlt
      go_wp2
      · go_ret
        exact ⟨ret_bool (vc_false (vc_bad hall.out hz.out (by omega))), rfl⟩
      · go_round
        case rel => exact ⟨k + 1, z, by omega, by go_num, rfl, vc_next hall.out hz.out (by omega) (by omega)⟩
        case measure => simp [intOf]; omega
      · go_ret
        exact ⟨ret_bool (vc_false (vc_bad hall.out hz.out (by omega))), rfl⟩
    · have hf := vc_end hall.out (show zs.length ≤ k by omega)
      have HF := Lib.hid hf
      clear hf
      go_wp2
      all_goals
        go_ret
        exact ⟨ret_bool (by rw [vcB, HF.out, Bool.true_and, Bool.eq_iff_iff]; simp; try omega), rfl⟩

theorem ne_len {xs ys : List Int} (h : xs.length ≠ ys.length) : false = decide (xs = ys) := by
  rw [eq_comm, decide_eq_false_iff_not]; rintro rfl; exact h rfl
theorem ne_at {xs ys : List Int} {k : Nat} {x y : Int} (hx : xs[k]? = some x) (hy : ys[k]? = some y) (h : x ≠ y) : false = decide (xs = ys) := by
  rw [eq_comm, decide_eq_false_iff_not]; rintro rfl; rw [hx] at hy; exact h (Option.some.inj hy)
theorem eq_next {xs ys : List Int} {k : Nat} {x y : Int} (hx : xs[k]? = some x) (hy : ys[k]? = some y) (h : x = y) (ht : xs.take k = ys.take k) : xs.take (k + 1) = ys.take (k + 1) := by
  rw [take_snoc hx, take_snoc hy, ht, h]
theorem eq_end {xs ys : List Int} {k : Nat} (hl : xs.length = ys.length) (hk : xs.length ≤ k) (ht : xs.take k = ys.take k) : true = decide (xs = ys) := by
  rw [List.take_of_length_le hk, List.take_of_length_le (by omega)] at ht; simp [ht]

/-- Whether two lists of ints are one list. -/
theorem sameInts_any (xs ys : List Int) (A B : Option Addr) (c d : Nat) (w : World) (hA : Ints w A xs) (hB : Ints w B ys) (hl : xs.length ≤ maxLen) :
    Calls Try.prog 22 #[.slice A xs.length c, .slice B ys.length d] w fun e w' => e = .returned (.bool (decide (xs = ys))) ∧ ∃ n, w' = w.drewN n := by
  unfold maxLen at hl
  have HA := Lib.hid hA
  have HB := Lib.hid hB
  clear hA hB
  by_cases hlen : xs.length = ys.length
  · have HL := Lib.hid hlen
    have hn : (((xs.length : Int) != (ys.length : Int)) = false) := by rw [hlen]; simp
    have hle : xs.length ≤ ys.length := by omega
    clear hlen
    go_enter Try.func22, Try.ntmps22
    go_wp2
    go_loopw [5, 13] (fun _ i wr => ∃ k m : Nat, k ≤ xs.length ∧ i = .int .i64 k ∧ wr = w.drewN m ∧ Hid (xs.take k = ys.take k)) (fun _ i _ => xs.length - (intOf i).toNat)
    case atStart => exact ⟨0, 0, Nat.zero_le _, rfl, rfl, rfl⟩
    case round =>
      obtain ⟨k, m, hk, rfl, rfl, ht⟩ := hrel
      by_cases hlt : k < xs.length
      · obtain ⟨ad, x, rfl, _, hx, hc⟩ := HA.out.get hlt
        obtain ⟨bd, y, rfl, _, hy, hd⟩ := HB.out.get (show k < ys.length by omega)
        have hlt2 : k < ys.length := by omega
        by_cases hxy : x = y
        · have hb : (x != y) = false := by simp [hxy]
          have HX := Lib.hid hxy
          clear hxy
          go_wp2
          go_quiet (fail)
          go_wp2
          go_roundw
          case rel => exact ⟨k + 1, _, by omega, by go_num, rfl, eq_next hx.out hy.out HX.out ht.out⟩
          case measure => simp [intOf]; omega
        · have hb : (x != y) = true := by simp [hxy]
          have HX := Lib.hid hxy
          clear hxy
          go_wp2
          go_quiet (fail)
          go_wp2
          go_ret
          exact ⟨ret_bool (ne_at hx.out hy.out HX.out), _, World.drewN_drewN _ _ _⟩
      · go_wp2
        go_ret
        exact ⟨ret_bool (eq_end HL.out (by omega) ht.out), m, rfl⟩
  · have hn : (((xs.length : Int) != (ys.length : Int)) = true) := by simp; omega
    have HL := Lib.hid hlen
    clear hlen
    go_enter Try.func22, Try.ntmps22
    go_wp2
    go_ret
    exact ⟨ret_bool (ne_len HL.out), 0, rfl⟩
end Go.Proofs.Ytjghlfagdleglaa

/-
  Contracts: both Counts.
-/
namespace Go.Proofs.Ytjghlfagdleglaa
open Go.RowKit

/-- How often the counter went round ahead of the k-th reading is read, the k-th included. -/
def rnd (zs : List Int) : Nat → Int
  | 0 => 0
  | k + 1 => if 0 < k ∧ zs.getD k 0 < zs.getD (k - 1) 0 then rnd zs k + 1 else rnd zs k
def cnt (R : Int) (zs : List Int) (k : Nat) : Int := rnd zs (k + 1) * R + zs.getD k 0
def cnts (R : Int) (zs : List Int) (n : Nat) : List Int := (List.range n).map (cnt R zs)
def countsF (b : Int) (zs : List Int) : List Int := if vrB b zs then cnts (2 ^ b.toNat) zs zs.length else []
def countsE (b : Int) (zs : List Int) : Int := if bitsB b then (if vrB b zs then 0 else 10) else 2

theorem cnts_succ (R : Int) (zs : List Int) (k : Nat) : cnts R zs (k + 1) = cnts R zs k ++ [cnt R zs k] := by simp [cnts, List.range_succ]
theorem cnts_length (R : Int) (zs : List Int) (k : Nat) : (cnts R zs k).length = k := by simp [cnts]
theorem rnd_bd (zs : List Int) (k : Nat) : 0 ≤ rnd zs k ∧ rnd zs k ≤ k := by
  induction k with
  | zero => simp [rnd]
  | succ k ih => unfold rnd; split <;> omega
theorem getD_of {zs : List Int} {k : Nat} {z : Int} (h : zs[k]? = some z) : zs.getD k 0 = z := by rw [List.getD_eq_getElem?_getD, h]; rfl
theorem vr_at {b : Int} {zs : List Int} {k : Nat} {z : Int} (hv : vrB b zs = true) (h : zs[k]? = some z) : 0 ≤ z ∧ z < 2 ^ b.toNat := by
  have h2 : zs.all (okR b) = true := by simp [vrB] at hv ⊢; exact hv.2
  have := List.all_eq_true.1 h2 z (List.mem_of_getElem? h)
  simpa [okR] using this
theorem vr_parts {b : Int} {zs : List Int} (hv : vrB b zs = true) : bitsB b = true ∧ (4 ≤ b ∧ b ≤ 32) ∧ 1 ≤ zs.length ∧ zs.length ≤ 60 := by
  simp [vrB] at hv
  exact ⟨hv.1.1, by simpa [bitsB] using hv.1.1, hv.1.2.1, hv.1.2.2⟩

/-- The count in front of the k-th one; 0 in front of the first. -/
def lastC (R : Int) (zs : List Int) : Nat → Int
  | 0 => 0
  | k + 1 => cnt R zs k
theorem mul_bd {r R : Int} (h0 : 0 ≤ r) (h1 : r ≤ 60) (hR0 : 0 ≤ R) (hR1 : R ≤ 4294967296) : 0 ≤ r * R ∧ r * R ≤ 257698037760 := by
  refine ⟨Int.mul_nonneg h0 hR0, ?_⟩
  have := Int.mul_le_mul h1 hR1 hR0 (show (0 : Int) ≤ 60 by decide)
  omega
theorem lastC_mod {R : Int} {zs : List Int} {k : Nat} {l : Int} (hk : zs[k]? = some l) (h0 : 0 ≤ l) (h1 : l < R) : lastC R zs (k + 1) % R = l := by
  show cnt R zs k % R = l
  rw [cnt, getD_of hk, Int.add_comm, Int.add_mul_emod_self_right]
  exact Int.emod_eq_of_lt h0 h1
theorem lastC_next {R : Int} {zs : List Int} {k : Nat} {z : Int} (hall : ∀ (j : Nat) (u : Int), zs[j]? = some u → 0 ≤ u ∧ u < R) (hk : zs[k]? = some z) :
    lastC R zs k + (z - lastC R zs k % R + R) % R = cnt R zs k := by
  obtain ⟨z0, z1⟩ := hall k z hk
  match k, hk with
  | 0, hk =>
    show (0 : Int) + (z - 0 % R + R) % R = cnt R zs 0
    rw [cnt, getD_of hk]
    simp [rnd]
    exact Int.emod_eq_of_lt z0 z1
  | k + 1, hk =>
    obtain ⟨hk1, _⟩ := List.getElem?_eq_some_iff.1 hk
    have hl : zs[k]? = some zs[k] := List.getElem?_eq_getElem (by omega)
    obtain ⟨l0, l1⟩ := hall k _ hl
    rw [lastC_mod hl l0 l1]
    show cnt R zs k + _ = cnt R zs (k + 1)
    rw [cnt, cnt, getD_of hk, getD_of hl]
    have e : rnd zs (k + 1 + 1) = if z < zs[k] then rnd zs (k + 1) + 1 else rnd zs (k + 1) := by
      rw [rnd]; simp only [Nat.add_sub_cancel, getD_of hk, getD_of hl]
      by_cases hh : z < zs[k] <;> simp [hh]
    rw [e]
    split
    · rw [Int.emod_eq_of_lt (by omega) (by omega), Int.add_mul]; omega
    · have : (z - zs[k] + R) % R = z - zs[k] := by
        rw [Int.add_emod_right]; exact Int.emod_eq_of_lt (by omega) (by omega)
      rw [this]; omega
theorem lastC_next' {R : Int} {zs : List Int} {k : Nat} {z : Int} (hall : ∀ (j : Nat) (u : Int), zs[j]? = some u → 0 ≤ u ∧ u < R) (hk : zs[k]? = some z) :
    lastC R zs k + (z - lastC R zs k) % R = cnt R zs k := by
  rw [← lastC_next hall hk]; simp
theorem cnt_bd {R : Int} {zs : List Int} {k : Nat} (hk60 : k < 60) (hR0 : 0 ≤ R) (hR1 : R ≤ 4294967296) {z : Int} (hk : zs[k]? = some z) (h0 : 0 ≤ z) (h1 : z < R) : 0 ≤ cnt R zs k ∧ cnt R zs k ≤ 300000000000 := by
  rw [cnt, getD_of hk]
  have hb := rnd_bd zs (k + 1)
  have := mul_bd hb.1 (by omega) hR0 hR1
  omega
theorem lastC_bd {R : Int} {zs : List Int} (hR0 : 16 ≤ R) (hR1 : R ≤ 4294967296) (hall : ∀ (j : Nat) (u : Int), zs[j]? = some u → 0 ≤ u ∧ u < R) : ∀ k, k ≤ zs.length → k ≤ 60 → 0 ≤ lastC R zs k ∧ lastC R zs k ≤ 300000000000
  | 0, _, _ => by simp [lastC]
  | k + 1, h, h60 => by
    have hk : zs[k]? = some zs[k] := List.getElem?_eq_getElem (by omega)
    obtain ⟨h0, h1⟩ := hall k _ hk
    exact cnt_bd (by omega) (by omega) hR1 hk h0 h1

set_option maxRecDepth 100000 in
set_option maxHeartbeats 400000 in
theorem counts_any (b : Int) (zs : List Int) (A : Option Addr) (c : Nat) (w : World) (h : Ints w A zs) (hl : zs.length ≤ maxLen) :
    Calls Try.prog 16 #[.int .i64 b, .slice A zs.length c] w fun e w' => ∃ (A' : Option Addr) (c' : Nat) (ys : List Int) (E : Int),
      e = .returned (.tuple #[.slice A' ys.length c', .int .i64 E]) ∧ Out w' A' c' ys ∧ Below w.heap.size w w' ∧ Hid (ys = countsF b zs ∧ E = countsE b zs) := by
  have H := Lib.hid h
  clear h
  have HL := Lib.hid hl
  clear hl
  by_cases hb : bitsB b = true
  · by_cases hv : vrB b zs = true
    · obtain ⟨_, ⟨hb4, hb32⟩, hn1, hn60⟩ := vr_parts hv
      have HV := Lib.hid hv
      have HP := Lib.hid (pow_wrap hb4 hb32)
      have hpw := pow_bounds hb4 hb32
      have hall : Hid (∀ (j : Nat) (u : Int), zs[j]? = some u → 0 ≤ u ∧ u < 2 ^ b.toNat) := fun j u hj => vr_at HV.out hj
      obtain ⟨i0, hi0, hz0, hz1, hz2⟩ := info_parts int_info
      have HZ2 := Lib.hid hz2
      clear hz2
      go_enter Try.func16, Try.ntmps16
      go_wp2_with (first
        | (go_at_call 57; refine (validBits_any _ _).mono ?_; rintro e w' ⟨rfl, rfl⟩)
        | (go_at_call 18; refine (validReadings_any _ _ _ _ _ H.out HL.out).mono ?_; rintro e w' ⟨rfl, rfl⟩)
        | (at_make; refine wpList_make_own _ rfl _ _ 22 rfl w.heap.size 3 i0 (.int .i64 0) 1 Try.underlying22 hi0 hz0 hz1 _ _ _ zs.length rfl rfl rfl (by rw [HZ2.out]; omega) (by unfold maxLen; omega) (Nat.le_refl _) ?_; intro w1 hown1 hg1))
      have hB1 : Below w.heap.size w w1 := (Below.refl _ _).grown hg1 (Nat.le_refl _) (by simp)
      clear hg1 HZ2 hz0 hz1 hi0
      obtain ⟨R, hR⟩ : ∃ R : Int, R = 2 ^ b.toNat := ⟨_, rfl⟩
      rw [← hR] at hall hpw
      simp only [← hR]
      have HR := Lib.hid hR
      clear hR HP
      go_loopw [7, 8, 25] (fun v l i wr => ∃ k : Nat, k ≤ zs.length ∧ i = .int .i64 k ∧ l = .int .i64 (lastC R zs k) ∧ wr.ownsRow w.heap.size 3 1 v k ((cnts R zs k).map (Value.int .i64)) ∧ Below w.heap.size w wr) (fun _ _ i _ => zs.length - (intOf i).toNat)
      case atStart => exact ⟨0, Nat.zero_le _, rfl, rfl, hown1, hB1⟩
      case round =>
        clear hown1 hB1
        obtain ⟨k, hk, rfl, rfl, hown, hB⟩ := hrel
        by_cases hlt : k < zs.length
        · obtain ⟨ad, z, rfl, hbk, hz, hc⟩ := H.out.get hlt
          have hcr := (hB.cell (p := ad.add k) (by rw [block_of_add]; exact hbk)).trans hc
          clear hc
          have hza := hall.out k z hz.out
          have hnext := Lib.hid (lastC_next' hall.out hz.out)
          have hlb := lastC_bd hpw.1 hpw.2 hall.out k hk (by omega)
          have hm0 : 0 ≤ lastC R zs k % R := Int.emod_nonneg _ (by omega)
          have hm1 : lastC R zs k % R < R := Int.emod_lt_of_pos _ (by omega)
          generalize lastC R zs k = l at hnext hlb hm0 hm1 ⊢
          have hq0 : 0 ≤ (z - l) % R := Int.emod_nonneg _ (by omega)
          have hq1 : (z - l) % R < R := Int.emod_lt_of_pos _ (by omega)
          go_wp2_with (at_builtin; refine wp_app_int _ rfl (.tmp 40) (.tmp 42) rfl w.heap.size _ k (cnts R zs k) _ rfl hown rfl (by omega) hB.size ?_; intro v2 w2 hown2 hB2)
          go_roundw
          case rel => exact ⟨k + 1, by omega, by go_num, by rw [hnext.out]; rfl, by rw [cnts_succ, ← hnext.out]; exact hown2, hB.trans hB2⟩
          case measure => simp [intOf]; omega
        · obtain rfl : k = zs.length := by omega
          go_wp2
          go_ret2
          obtain ⟨A', c', rfl, hI⟩ := own_ints hown
          exact ⟨A', c', _, _, rfl, hI, hB, by simp [countsF, HV.out, HR.out], by simp [countsE, HV.out, hb]⟩
    · have hv2 : vrB b zs = false := by simpa using hv
      go_enter Try.func16, Try.ntmps16
      go_wp2_with (first
        | (go_at_call 57; refine (validBits_any _ _).mono ?_; rintro e w' ⟨rfl, rfl⟩)
        | (go_at_call 18; refine (validReadings_any _ _ _ _ _ H.out HL.out).mono ?_; rintro e w' ⟨rfl, rfl⟩))
      go_ret2
      exact ⟨none, 0, [], _, rfl, Out.nil_, Below.refl _ _, by simp [countsF, hv2], by simp [countsE, hv2, hb]⟩
  · have hb2 : bitsB b = false := by simpa using hb
    have hv2 : vrB b zs = false := by simp [vrB, hb2]
    go_enter Try.func16, Try.ntmps16
    go_wp2_with (go_at_call 57; refine (validBits_any _ _).mono ?_; rintro e w' ⟨rfl, rfl⟩)
    go_ret2
    exact ⟨none, 0, [], _, rfl, Out.nil_, Below.refl _ _, by simp [countsF, hv2], by simp [countsE, hb2]⟩
end Go.Proofs.Ytjghlfagdleglaa

/-
  Contracts: firnref01.Counts, both Readings.
-/
namespace Go.Proofs.Ytjghlfagdleglaa
open Go.RowKit

theorem size_is (b R : Int) (w : World) (h1 : 0 ≤ b) (h2 : b ≤ 32) (hR : R = 2 ^ b.toNat) :
    Calls Try.prog 58 #[.int .i64 b] w fun e w' => e = .returned (.int .i64 R) ∧ w = w' :=
  (size_any b w h1 h2).mono fun e w' ⟨R', he, hw, h⟩ => ⟨by rw [he, hR, h.out], hw⟩

theorem rnd_first {zs : List Int} {k : Nat} (h : ¬ 0 < k) : rnd zs (k + 1) = rnd zs k := by rw [rnd, if_neg (by omega)]
theorem rnd_up {zs : List Int} {k : Nat} {p z : Int} (h0 : 0 < k) (hp : zs[k - 1]? = some p) (hz : zs[k]? = some z) (h : z < p) : rnd zs (k + 1) = rnd zs k + 1 := by
  rw [rnd, getD_of hp, getD_of hz, if_pos ⟨h0, h⟩]
theorem rnd_stay {zs : List Int} {k : Nat} {p z : Int} (hp : zs[k - 1]? = some p) (hz : zs[k]? = some z) (h : ¬ z < p) : rnd zs (k + 1) = rnd zs k := by
  rw [rnd, getD_of hp, getD_of hz, if_neg (by omega)]
theorem cnt_of {R : Int} {zs : List Int} {k : Nat} {r z : Int} (hz : zs[k]? = some z) (hr : rnd zs (k + 1) = r) : cnt R zs k = r * R + z := by
  rw [cnt, hr, getD_of hz]

set_option maxRecDepth 100000 in
set_option maxHeartbeats 800000 in
theorem refCounts_any (b : Int) (zs : List Int) (A : Option Addr) (c : Nat) (w : World) (h : Ints w A zs) (hl : zs.length ≤ maxLen) :
    Calls Try.prog 17 #[.int .i64 b, .slice A zs.length c] w fun e w' => ∃ (A' : Option Addr) (c' : Nat) (ys : List Int) (E : Int),
      e = .returned (.tuple #[.slice A' ys.length c', .int .i64 E]) ∧ Out w' A' c' ys ∧ Below w.heap.size w w' ∧ Hid (ys = countsF b zs ∧ E = countsE b zs) := by
  have H := Lib.hid h
  clear h
  have HL := Lib.hid hl
  clear hl
  by_cases hb : bitsB b = true
  · by_cases hv : vrB b zs = true
    · obtain ⟨_, ⟨hb4, hb32⟩, hn1, hn60⟩ := vr_parts hv
      have HV := Lib.hid hv
      have hpw := pow_bounds hb4 hb32
      have hall : Hid (∀ (j : Nat) (u : Int), zs[j]? = some u → 0 ≤ u ∧ u < 2 ^ b.toNat) := fun j u hj => vr_at HV.out hj
      obtain ⟨R, hR⟩ : ∃ R : Int, R = 2 ^ b.toNat := ⟨_, rfl⟩
      rw [← hR] at hall hpw
      have HR := Lib.hid hR
      clear hR
      go_enter Try.func17, Try.ntmps17
      go_wp2_with (first
        | (go_at_call 51; refine (isBits_any _ _).mono ?_; rintro e w' ⟨rfl, rfl⟩)
        | (go_at_call 19; refine (refValidReadings_any _ _ _ _ _ H.out HL.out).mono ?_; rintro e w' ⟨rfl, rfl⟩))
      go_loopw [6, 7, 19] (fun v l i wr => ∃ k : Nat, k ≤ zs.length ∧ i = .int .i64 k ∧ l = .int .i64 (rnd zs k) ∧ wr.ownsRow w.heap.size 3 1 v k ((cnts R zs k).map (Value.int .i64)) ∧ Below w.heap.size w wr) (fun _ _ i _ => zs.length - (intOf i).toNat)
      case atStart => exact ⟨0, Nat.zero_le _, rfl, rfl, World.ownsRow_nil _ _ _ _, Below.refl _ _⟩
      case round =>
        obtain ⟨k, hk, rfl, rfl, hown, hB⟩ := hrel
        by_cases hlt : k < zs.length
        · obtain ⟨ad, z, rfl, hbk, hz, hc⟩ := H.out.get hlt
          have hcr := (hB.cell (p := ad.add k) (by rw [block_of_add]; exact hbk)).trans hc
          clear hc
          have hza := hall.out k z hz.out
          have hrb := rnd_bd zs k
          have fin : ∀ r v2 w2, rnd zs (k + 1) = r → World.ownsRow w2 w.heap.size 3 1 v2 (k + 1) ((cnts R zs k ++ [r * R + z]).map (Value.int .i64)) → Below w.heap.size wr w2 →
              (World.ownsRow w2 w.heap.size 3 1 v2 (k + 1) ((cnts R zs (k + 1)).map (Value.int .i64)) ∧ Below w.heap.size w w2) := fun r v2 w2 h1 h2 h3 =>
            ⟨by rw [cnts_succ, cnt_of hz.out h1]; exact h2, hB.trans h3⟩
          have FIN := Lib.hid fin
          clear fin
          by_cases hk0 : 0 < k
          · obtain ⟨ad', p, he, _, hp, hcp⟩ := H.out.get (show k - 1 < zs.length by omega)
            obtain rfl : ad = ad' := by injection he
            have hcpr := (hB.cell (p := ad.add (k - 1)) (by rw [block_of_add]; exact hbk)).trans hcp
            clear hcp he
            by_cases hzp : z < p
            · have hr := Lib.hid (rnd_up hk0 hp.out hz.out hzp)
              generalize rnd zs k = r at hrb hr ⊢
              have hmb := mul_bd (r := r + 1) (by omega) (by omega) (show 0 ≤ R by omega) hpw.2
              go_wp2_with (first
                | (go_at_call 58; refine (size_is _ R _ (by omega) (by omega) HR.out).mono ?_; rintro e w' ⟨rfl, rfl⟩)
                | (at_builtin; refine wp_app_int _ rfl (.tmp 37) (.tmp 44) rfl w.heap.size _ k (cnts R zs k) _ rfl hown rfl (by omega) hB.size ?_; intro v2 w2 hown2 hB2))
              go_roundw
              case rel => exact ⟨k + 1, by omega, by go_num, by rw [hr.out], FIN.out _ _ _ hr.out hown2 hB2⟩
              case measure => simp [intOf]; omega
            · have hr := Lib.hid (rnd_stay hp.out hz.out hzp)
              generalize rnd zs k = r at hrb hr ⊢
              have hmb := mul_bd (r := r) (by omega) (by omega) (show 0 ≤ R by omega) hpw.2
              go_wp2_with (first
                | (go_at_call 58; refine (size_is _ R _ (by omega) (by omega) HR.out).mono ?_; rintro e w' ⟨rfl, rfl⟩)
                | (at_builtin; refine wp_app_int _ rfl (.tmp 37) (.tmp 44) rfl w.heap.size _ k (cnts R zs k) _ rfl hown rfl (by omega) hB.size ?_; intro v2 w2 hown2 hB2))
              go_roundw
              case rel => exact ⟨k + 1, by omega, by go_num, by rw [hr.out], FIN.out _ _ _ hr.out hown2 hB2⟩
              case measure => simp [intOf]; omega
          · have hr := Lib.hid (rnd_first (zs := zs) hk0)
            generalize rnd zs k = r at hrb hr ⊢
            have hmb := mul_bd (r := r) (by omega) (by omega) (show 0 ≤ R by omega) hpw.2
            go_wp2_with (first
              | (go_at_call 58; refine (size_is _ R _ (by omega) (by omega) HR.out).mono ?_; rintro e w' ⟨rfl, rfl⟩)
              | (at_builtin; refine wp_app_int _ rfl (.tmp 37) (.tmp 44) rfl w.heap.size _ k (cnts R zs k) _ rfl hown rfl (by omega) hB.size ?_; intro v2 w2 hown2 hB2))
            go_roundw
            case rel => exact ⟨k + 1, by omega, by go_num, by rw [hr.out], FIN.out _ _ _ hr.out hown2 hB2⟩
            case measure => simp [intOf]; omega
        · obtain rfl : k = zs.length := by omega
          go_wp2
          go_ret2
          obtain ⟨A', c', rfl, hI⟩ := own_ints hown
          exact ⟨A', c', _, _, rfl, hI, hB, by simp [countsF, HV.out, HR.out], by simp [countsE, HV.out, hb]⟩
    · have hv2 : vrB b zs = false := by simpa using hv
      go_enter Try.func17, Try.ntmps17
      go_wp2_with (first
        | (go_at_call 51; refine (isBits_any _ _).mono ?_; rintro e w' ⟨rfl, rfl⟩)
        | (go_at_call 19; refine (refValidReadings_any _ _ _ _ _ H.out HL.out).mono ?_; rintro e w' ⟨rfl, rfl⟩))
      go_ret2
      exact ⟨none, 0, [], _, rfl, Out.nil_, Below.refl _ _, by simp [countsF, hv2], by simp [countsE, hv2, hb]⟩
  · have hb2 : bitsB b = false := by simpa using hb
    have hv2 : vrB b zs = false := by simp [vrB, hb2]
    go_enter Try.func17, Try.ntmps17
    go_wp2_with (go_at_call 51; refine (isBits_any _ _).mono ?_; rintro e w' ⟨rfl, rfl⟩)
    go_ret2
    exact ⟨none, 0, [], _, rfl, Out.nil_, Below.refl _ _, by simp [countsF, hv2], by simp [countsE, hb2]⟩
end Go.Proofs.Ytjghlfagdleglaa

/-
  Contracts: both Readings, both Steps.
-/
namespace Go.Proofs.Ytjghlfagdleglaa
open Go.RowKit

def readingsF (b : Int) (zs : List Int) : List Int := if bitsB b && vcB zs then zs.map (· % 2 ^ b.toNat) else []
def readingsE (b : Int) (zs : List Int) : Int := if bitsB b then (if vcB zs then 0 else 10) else 2

theorem upFrom_at : ∀ {zs : List Int} {l : Int}, upFrom l zs = true → ∀ z ∈ zs, l ≤ z ∧ z ≤ 1099511627776
  | [], _, _, z, hz => by cases hz
  | y :: t, l, h, z, hz => by
    simp [upFrom] at h
    rcases List.mem_cons.1 hz with rfl | hz
    · exact h.1
    · have := upFrom_at h.2 z hz; omega
theorem vc_at {zs : List Int} {k : Nat} {z : Int} (hv : vcB zs = true) (h : zs[k]? = some z) : 0 ≤ z ∧ z ≤ 1099511627776 := by
  simp [vcB] at hv
  exact upFrom_at hv.1 z (List.mem_of_getElem? h)
theorem vc_parts {zs : List Int} (hv : vcB zs = true) : 1 ≤ zs.length ∧ zs.length ≤ 60 := by
  simp [vcB] at hv; exact hv.2
theorem map_take_succ {zs : List Int} {k : Nat} {z : Int} (f : Int → Int) (h : zs[k]? = some z) : (zs.take (k + 1)).map f = (zs.take k).map f ++ [f z] := by
  rw [take_snoc h]; simp

set_option maxRecDepth 100000 in
set_option maxHeartbeats 400000 in
theorem readings_any (b : Int) (zs : List Int) (A : Option Addr) (c : Nat) (w : World) (h : Ints w A zs) (hl : zs.length ≤ maxLen) :
    Calls Try.prog 23 #[.int .i64 b, .slice A zs.length c] w fun e w' => ∃ (A' : Option Addr) (c' : Nat) (ys : List Int) (E : Int),
      e = .returned (.tuple #[.slice A' ys.length c', .int .i64 E]) ∧ Out w' A' c' ys ∧ Below w.heap.size w w' ∧ Hid (ys = readingsF b zs ∧ E = readingsE b zs) := by
  have H := Lib.hid h
  clear h
  have HL := Lib.hid hl
  clear hl
  by_cases hb : bitsB b = true
  · by_cases hv : vcB zs = true
    · obtain ⟨hb4, hb32⟩ : 4 ≤ b ∧ b ≤ 32 := by simpa [bitsB] using hb
      obtain ⟨hn1, hn60⟩ := vc_parts hv
      have HV := Lib.hid hv
      have hpw := pow_bounds hb4 hb32
      have hall : Hid (∀ (j : Nat) (u : Int), zs[j]? = some u → 0 ≤ u ∧ u ≤ 1099511627776) := fun j u hj => vc_at HV.out hj
      obtain ⟨i0, hi0, hz0, hz1, hz2⟩ := info_parts int_info
      have HZ2 := Lib.hid hz2
      clear hz2
      go_enter Try.func23, Try.ntmps23
      go_wp2_with (first
        | (go_at_call 57; refine (validBits_any _ _).mono ?_; rintro e w' ⟨rfl, rfl⟩)
        | (go_at_call 20; refine (validCounts_any _ _ _ _ H.out HL.out).mono ?_; rintro e w' ⟨rfl, rfl⟩)
        | (at_make; refine wpList_make_own _ rfl _ _ 22 rfl w.heap.size 3 i0 (.int .i64 0) 1 Try.underlying22 hi0 hz0 hz1 _ _ _ zs.length rfl rfl rfl (by rw [HZ2.out]; omega) (by unfold maxLen; omega) (Nat.le_refl _) ?_; intro w1 hown1 hg1))
      have hB1 : Below w.heap.size w w1 := (Below.refl _ _).grown hg1 (Nat.le_refl _) (by simp)
      clear hg1 HZ2 hz0 hz1 hi0
      obtain ⟨R, hR⟩ : ∃ R : Int, R = 2 ^ b.toNat := ⟨_, rfl⟩
      rw [← hR] at hpw
      simp only [← hR]
      have HR := Lib.hid hR
      clear hR
      go_loopw [7, 23] (fun v i wr => ∃ k : Nat, k ≤ zs.length ∧ i = .int .i64 k ∧ wr.ownsRow w.heap.size 3 1 v k (((zs.take k).map (· % R)).map (Value.int .i64)) ∧ Below w.heap.size w wr) (fun _ i _ => zs.length - (intOf i).toNat)
      case atStart => exact ⟨0, Nat.zero_le _, rfl, hown1, hB1⟩
      case round =>
        clear hown1 hB1
        obtain ⟨k, hk, rfl, hown, hB⟩ := hrel
        by_cases hlt : k < zs.length
        · obtain ⟨ad, z, rfl, hbk, hz, hc⟩ := H.out.get hlt
          have hcr := (hB.cell (p := ad.add k) (by rw [block_of_add]; exact hbk)).trans hc
          clear hc
          have hza := hall.out k z hz.out
          go_wp2_with (at_builtin; refine wp_app_int _ rfl (.tmp 27) (.tmp 31) rfl w.heap.size _ k _ _ rfl hown rfl (by omega) hB.size ?_; intro v2 w2 hown2 hB2)
          go_roundw
          case rel => exact ⟨k + 1, by omega, by go_num, by rw [map_take_succ (· % R) hz.out]; exact hown2, hB.trans hB2⟩
          case measure => simp [intOf]; omega
        · obtain rfl : k = zs.length := by omega
          go_wp2
          go_ret2
          obtain ⟨A', c', rfl, hI⟩ := own_ints hown
          exact ⟨A', c', _, _, rfl, hI, hB, by simp [readingsF, HV.out, hb, HR.out], by simp [readingsE, HV.out, hb]⟩
    · have hv2 : vcB zs = false := by simpa using hv
      go_enter Try.func23, Try.ntmps23
      go_wp2_with (first
        | (go_at_call 57; refine (validBits_any _ _).mono ?_; rintro e w' ⟨rfl, rfl⟩)
        | (go_at_call 20; refine (validCounts_any _ _ _ _ H.out HL.out).mono ?_; rintro e w' ⟨rfl, rfl⟩))
      go_ret2
      exact ⟨none, 0, [], _, rfl, Out.nil_, Below.refl _ _, by simp [readingsF, hv2], by simp [readingsE, hv2, hb]⟩
  · have hb2 : bitsB b = false := by simpa using hb
    go_enter Try.func23, Try.ntmps23
    go_wp2_with (go_at_call 57; refine (validBits_any _ _).mono ?_; rintro e w' ⟨rfl, rfl⟩)
    go_ret2
    exact ⟨none, 0, [], _, rfl, Out.nil_, Below.refl _ _, by simp [readingsF, hb2], by simp [readingsE, hb2]⟩

set_option maxRecDepth 100000 in
set_option maxHeartbeats 400000 in
theorem refReadings_any (b : Int) (zs : List Int) (A : Option Addr) (c : Nat) (w : World) (h : Ints w A zs) (hl : zs.length ≤ maxLen) :
    Calls Try.prog 24 #[.int .i64 b, .slice A zs.length c] w fun e w' => ∃ (A' : Option Addr) (c' : Nat) (ys : List Int) (E : Int),
      e = .returned (.tuple #[.slice A' ys.length c', .int .i64 E]) ∧ Out w' A' c' ys ∧ Below w.heap.size w w' ∧ Hid (ys = readingsF b zs ∧ E = readingsE b zs) := by
  have H := Lib.hid h
  clear h
  have HL := Lib.hid hl
  clear hl
  by_cases hb : bitsB b = true
  · by_cases hv : vcB zs = true
    · obtain ⟨hb4, hb32⟩ : 4 ≤ b ∧ b ≤ 32 := by simpa [bitsB] using hb
      obtain ⟨hn1, hn60⟩ := vc_parts hv
      have HV := Lib.hid hv
      have hpw := pow_bounds hb4 hb32
      have hall : Hid (∀ (j : Nat) (u : Int), zs[j]? = some u → 0 ≤ u ∧ u ≤ 1099511627776) := fun j u hj => vc_at HV.out hj
      obtain ⟨R, hR⟩ : ∃ R : Int, R = 2 ^ b.toNat := ⟨_, rfl⟩
      rw [← hR] at hpw
      have HR := Lib.hid hR
      clear hR
      go_enter Try.func24, Try.ntmps24
      go_wp2_with (first
        | (go_at_call 51; refine (isBits_any _ _).mono ?_; rintro e w' ⟨rfl, rfl⟩)
        | (go_at_call 21; refine (refValidCounts_any _ _ _ _ H.out HL.out).mono ?_; rintro e w' ⟨rfl, rfl⟩))
      go_loopw [6, 17] (fun v i wr => ∃ k : Nat, k ≤ zs.length ∧ i = .int .i64 k ∧ wr.ownsRow w.heap.size 3 1 v k (((zs.take k).map (· % R)).map (Value.int .i64)) ∧ Below w.heap.size w wr) (fun _ i _ => zs.length - (intOf i).toNat)
      case atStart => exact ⟨0, Nat.zero_le _, rfl, World.ownsRow_nil _ _ _ _, Below.refl _ _⟩
      case round =>
        obtain ⟨k, hk, rfl, hown, hB⟩ := hrel
        by_cases hlt : k < zs.length
        · obtain ⟨ad, z, rfl, hbk, hz, hc⟩ := H.out.get hlt
          have hcr := (hB.cell (p := ad.add k) (by rw [block_of_add]; exact hbk)).trans hc
          clear hc
          have hza := hall.out k z hz.out
          go_wp2_with (first
            | (go_at_call 58; refine (size_is _ R _ (by omega) (by omega) HR.out).mono ?_; rintro e w' ⟨rfl, rfl⟩)
            | (at_builtin; refine wp_app_int _ rfl (.tmp 21) (.tmp 26) rfl w.heap.size _ k _ _ rfl hown rfl (by omega) hB.size ?_; intro v2 w2 hown2 hB2))
          go_roundw
          case rel => exact ⟨k + 1, by omega, by go_num, by rw [map_take_succ (· % R) hz.out]; exact hown2, hB.trans hB2⟩
          case measure => simp [intOf]; omega
        · obtain rfl : k = zs.length := by omega
          go_wp2
          go_ret2
          obtain ⟨A', c', rfl, hI⟩ := own_ints hown
          exact ⟨A', c', _, _, rfl, hI, hB, by simp [readingsF, HV.out, hb, HR.out], by simp [readingsE, HV.out, hb]⟩
    · have hv2 : vcB zs = false := by simpa using hv
      go_enter Try.func24, Try.ntmps24
      go_wp2_with (first
        | (go_at_call 51; refine (isBits_any _ _).mono ?_; rintro e w' ⟨rfl, rfl⟩)
        | (go_at_call 21; refine (refValidCounts_any _ _ _ _ H.out HL.out).mono ?_; rintro e w' ⟨rfl, rfl⟩))
      go_ret2
      exact ⟨none, 0, [], _, rfl, Out.nil_, Below.refl _ _, by simp [readingsF, hv2], by simp [readingsE, hv2, hb]⟩
  · have hb2 : bitsB b = false := by simpa using hb
    go_enter Try.func24, Try.ntmps24
    go_wp2_with (go_at_call 51; refine (isBits_any _ _).mono ?_; rintro e w' ⟨rfl, rfl⟩)
    go_ret2
    exact ⟨none, 0, [], _, rfl, Out.nil_, Below.refl _ _, by simp [readingsF, hb2], by simp [readingsE, hb2]⟩
end Go.Proofs.Ytjghlfagdleglaa

/-
  Contracts: both Steps.
-/
namespace Go.Proofs.Ytjghlfagdleglaa
open Go.RowKit

def stepsK (zs : List Int) (n : Nat) : List Int := (List.range n).map fun i => zs.getD (i + 1) 0 - zs.getD i 0
def stepsF (zs : List Int) : List Int := if vcB zs then stepsK zs (zs.length - 1) else []
def stepsE (zs : List Int) : Int := if vcB zs then 0 else 10
theorem stepsK_succ {zs : List Int} {k : Nat} {x y : Int} (hx : zs[k]? = some x) (hy : zs[k + 1]? = some y) : stepsK zs (k + 1) = stepsK zs k ++ [y - x] := by
  simp [stepsK, List.range_succ, hx, hy]
theorem stepsK_pred {zs : List Int} {k : Nat} {x y : Int} (h : 1 ≤ k) (hx : zs[k - 1]? = some x) (hy : zs[k]? = some y) : stepsK zs k = stepsK zs (k - 1) ++ [y - x] := by
  obtain ⟨j, rfl⟩ : ∃ j, k = j + 1 := ⟨k - 1, by omega⟩
  exact stepsK_succ hx hy
theorem getElem?_of_lt {zs : List Int} {k : Nat} (h : k < zs.length) : ∃ z, zs[k]? = some z := ⟨_, List.getElem?_eq_getElem h⟩

set_option maxRecDepth 100000 in
set_option maxHeartbeats 400000 in
theorem steps_any (zs : List Int) (A : Option Addr) (c : Nat) (w : World) (h : Ints w A zs) (hcap : zs.length ≤ c) (hl : c ≤ maxLen) :
    Calls Try.prog 25 #[.slice A zs.length c] w fun e w' => ∃ (A' : Option Addr) (c' : Nat) (ys : List Int) (E : Int),
      e = .returned (.tuple #[.slice A' ys.length c', .int .i64 E]) ∧ Out w' A' c' ys ∧ Below w.heap.size w w' ∧ Hid (ys = stepsF zs ∧ E = stepsE zs) := by
  have H := Lib.hid h
  clear h
  have hl1 : zs.length ≤ maxLen := by omega
  have HL := Lib.hid hl1
  clear hl hl1
  by_cases hv : vcB zs = true
  · obtain ⟨hn1, hn60⟩ := vc_parts hv
    have HV := Lib.hid hv
    have hall : Hid (∀ (j : Nat) (u : Int), zs[j]? = some u → 0 ≤ u ∧ u ≤ 1099511627776) := fun j u hj => vc_at HV.out hj
    obtain ⟨i0, hi0, hz0, hz1, hz2⟩ := info_parts int_info
    have HZ2 := Lib.hid hz2
    clear hz2
    obtain ⟨bl, off, rfl, hbk, hcells⟩ := H.out.open_ (show 0 < zs.length by omega)
    have HC := Lib.hid hcells
    clear hcells
    by_cases hc1 : c = 1
    · have hlen : zs.length = 1 := by omega
      obtain ⟨z, hzs⟩ : ∃ z, zs = [z] := by
        match zs, hlen with
        | [z], _ => exact ⟨z, rfl⟩
      subst hzs
      subst hc1
      simp only [List.length_cons, List.length_nil, Nat.zero_add]
      go_enter Try.func25, Try.ntmps25
      go_wp2_with (first
        | (go_at_call 20; refine (validCounts_any [z] _ 1 _ H.out HL.out).mono ?_; rintro e w' ⟨rfl, rfl⟩)
        | (at_make; refine wpList_make_own _ rfl _ _ 22 rfl w.heap.size 3 i0 (.int .i64 0) 1 Try.underlying22 hi0 hz0 hz1 _ _ _ 0 rfl rfl (by omega) (by rw [HZ2.out]; omega) (by unfold maxLen; omega) (Nat.le_refl _) ?_; intro w1 hown1 hg1))
      have hB1 : Below w.heap.size w w1 := (Below.refl _ _).grown hg1 (Nat.le_refl _) (by simp)
      refine wp_loop_rounds 1 ?_; rw [rounds_succ]
      go_wp2
      go_ret2
      exact ⟨_, _, [], _, rfl, Out.nil_, hB1, by simp [stepsF, HV.out, stepsK], by simp [stepsE, HV.out]⟩
    · have hc2 : zs.length - 1 ≤ c - 1 := by omega
      go_enter Try.func25, Try.ntmps25
      go_wp2_with (first
        | (go_at_call 20; refine (validCounts_any _ _ _ _ H.out HL.out).mono ?_; rintro e w' ⟨rfl, rfl⟩)
        | (at_make; refine wpList_make_own _ rfl _ _ 22 rfl w.heap.size 3 i0 (.int .i64 0) 1 Try.underlying22 hi0 hz0 hz1 _ _ _ (zs.length - 1) rfl rfl (by omega) (by rw [HZ2.out]; omega) (by unfold maxLen; omega) (Nat.le_refl _) ?_; intro w1 hown1 hg1))
      have hB1 : Below w.heap.size w w1 := (Below.refl _ _).grown hg1 (Nat.le_refl _) (by simp)
      clear hg1 HZ2 hz0 hz1 hi0
      go_loopw [4, 17] (fun v i wr => ∃ k : Nat, k ≤ zs.length - 1 ∧ i = .int .i64 k ∧ wr.ownsRow w.heap.size 3 1 v k ((stepsK zs k).map (Value.int .i64)) ∧ Below w.heap.size w wr) (fun _ i _ => zs.length - 1 - (intOf i).toNat)
      case atStart => exact ⟨0, Nat.zero_le _, rfl, hown1, hB1⟩
      case round =>
        clear hown1 hB1
        obtain ⟨k, hk, rfl, hown, hB⟩ := hrel
        by_cases hlt : k < zs.length - 1
        · obtain ⟨x, hx⟩ := getElem?_of_lt (show k < zs.length by omega)
          obtain ⟨y, hy⟩ := getElem?_of_lt (show k + 1 < zs.length by omega)
          have hcx := (hB.cell (p := ⟨bl, off + k, none⟩) hbk).trans (HC.out k x hx)
          have hcy : wr.cell? ⟨bl, off + 1 + k, none⟩ = some (.int .i64 y) := by
            rw [show off + 1 + k = off + (k + 1) by omega]
            exact (hB.cell (p := ⟨bl, off + (k + 1), none⟩) hbk).trans (HC.out (k + 1) y hy)
          have hxa := hall.out k x hx
          have hya := hall.out (k + 1) y hy
          have HX := Lib.hid hx
          have HY := Lib.hid hy
          clear hx hy
          go_wp2_with (at_builtin; refine wp_app_int _ rfl (.tmp 22) (.tmp 29) rfl w.heap.size _ k _ _ rfl hown rfl (by omega) hB.size ?_; intro v2 w2 hown2 hB2)
          go_roundw
          case rel => exact ⟨k + 1, by omega, by go_num, by rw [stepsK_succ HX.out HY.out]; exact hown2, hB.trans hB2⟩
          case measure => simp [intOf]; omega
        · obtain rfl : k = zs.length - 1 := by omega
          go_wp2
          go_ret2
          obtain ⟨A', c', rfl, hI⟩ := own_ints hown
          exact ⟨A', c', _, _, rfl, hI, hB, by simp [stepsF, HV.out], by simp [stepsE, HV.out]⟩
  · have hv2 : vcB zs = false := by simpa using hv
    go_enter Try.func25, Try.ntmps25
    go_wp2_with (go_at_call 20; refine (validCounts_any _ _ _ _ H.out HL.out).mono ?_; rintro e w' ⟨rfl, rfl⟩)
    go_ret2
    exact ⟨none, 0, [], _, rfl, Out.nil_, Below.refl _ _, by simp [stepsF, hv2], by simp [stepsE, hv2]⟩

set_option maxRecDepth 100000 in
set_option maxHeartbeats 400000 in
theorem refSteps_any (zs : List Int) (A : Option Addr) (c : Nat) (w : World) (h : Ints w A zs) (hl : zs.length ≤ maxLen) :
    Calls Try.prog 26 #[.slice A zs.length c] w fun e w' => ∃ (A' : Option Addr) (c' : Nat) (ys : List Int) (E : Int),
      e = .returned (.tuple #[.slice A' ys.length c', .int .i64 E]) ∧ Out w' A' c' ys ∧ Below w.heap.size w w' ∧ Hid (ys = stepsF zs ∧ E = stepsE zs) := by
  have H := Lib.hid h
  clear h
  have HL := Lib.hid hl
  clear hl
  by_cases hv : vcB zs = true
  · obtain ⟨hn1, hn60⟩ := vc_parts hv
    have HV := Lib.hid hv
    have hall : Hid (∀ (j : Nat) (u : Int), zs[j]? = some u → 0 ≤ u ∧ u ≤ 1099511627776) := fun j u hj => vc_at HV.out hj
    obtain ⟨bl, off, rfl, hbk, hcells⟩ := H.out.open_ (show 0 < zs.length by omega)
    have HC := Lib.hid hcells
    clear hcells
    go_enter Try.func26, Try.ntmps26
    go_wp2_with (go_at_call 21; refine (refValidCounts_any _ _ _ _ H.out HL.out).mono ?_; rintro e w' ⟨rfl, rfl⟩)
    go_loopw [4, 5] (fun v i wr => ∃ k : Nat, 1 ≤ k ∧ k ≤ zs.length ∧ i = .int .i64 k ∧ wr.ownsRow w.heap.size 3 1 v (k - 1) ((stepsK zs (k - 1)).map (Value.int .i64)) ∧ Below w.heap.size w wr) (fun _ i _ => zs.length - (intOf i).toNat)
    case atStart => exact ⟨1, by omega, by omega, rfl, World.ownsRow_nil _ _ _ _, Below.refl _ _⟩
    case round =>
      obtain ⟨k, hk0, hk, rfl, hown, hB⟩ := hrel
      by_cases hlt : k < zs.length
      · obtain ⟨x, hx⟩ := getElem?_of_lt (show k - 1 < zs.length by omega)
        obtain ⟨y, hy⟩ := getElem?_of_lt (show k < zs.length by omega)
        have hcx := (hB.cell (p := ⟨bl, off + (k - 1), none⟩) hbk).trans (HC.out (k - 1) x hx)
        have hcy := (hB.cell (p := ⟨bl, off + k, none⟩) hbk).trans (HC.out k y hy)
        have hxa := hall.out (k - 1) x hx
        have hya := hall.out k y hy
        have hsucc := Lib.hid (stepsK_pred hk0 hx hy)
        clear hx hy
        have i0 : (0 : Int) ≤ (k : Int) := by omega
        have i1 : (k : Int) < (zs.length : Int) := by omega
        have i3 : (0 : Int) ≤ (k : Int) - 1 := by omega
        have i4 : (k : Int) - 1 < (zs.length : Int) := by omega
        have i7 : (1 : Int) ≤ (k : Int) := by omega
        have i8 : (k : Int) ≤ (zs.length : Int) := by omega
        have i2 : IntKind.i64.wrap ((k : Int) - 1) = (k : Int) - 1 := IntWalk.i64_in _ (by omega)
        have i5 : ((k : Int) - 1).toNat = k - 1 := by omega
        have i6 : IntKind.i64.wrap (y - x) = y - x := IntWalk.i64_in _ (by omega)
        go_wp2
        go_region_held3 (fun w' => w'.cell? ⟨bl, off + (k - 1), none⟩ = some (.int .i64 x) ∧ w'.cell? ⟨bl, off + k, none⟩ = some (.int .i64 y))
          (first | go_keep | exact ⟨(hB2.cell (p := ⟨bl, off + (k - 1), none⟩) hbk).trans hcx, (hB2.cell (p := ⟨bl, off + k, none⟩) hbk).trans hcy⟩)
          ((refine step_app_int _ rfl (.tmp 15) (.tmp 26) rfl w.heap.size _ (k - 1) _ _ rfl hown rfl (by omega) hB.size ?_; intro v2 w2 hown2 hB2))
        clear i2 i5 i6
        go_wp2
        go_roundw
        case rel => exact ⟨k + 1, by omega, by omega, by go_num, by rw [Nat.add_sub_cancel, hsucc.out]; rw [show k - 1 + 1 = k by omega] at hown2; exact hown2, hB.trans hB2⟩
        case measure => simp [intOf]; omega
      · obtain rfl : k = zs.length := by omega
        go_wp2
        go_ret2
        obtain ⟨A', c', rfl, hI⟩ := own_ints hown
        exact ⟨A', c', _, _, rfl, hI, hB, by simp [stepsF, HV.out], by simp [stepsE, HV.out]⟩
  · have hv2 : vcB zs = false := by simpa using hv
    go_enter Try.func26, Try.ntmps26
    go_wp2_with (go_at_call 21; refine (refValidCounts_any _ _ _ _ H.out HL.out).mono ?_; rintro e w' ⟨rfl, rfl⟩)
    go_ret2
    exact ⟨none, 0, [], _, rfl, Out.nil_, Below.refl _ _, by simp [stepsF, hv2], by simp [stepsE, hv2]⟩
end Go.Proofs.Ytjghlfagdleglaa

/-
  Contracts: both Rounds, many, Awake.
-/
namespace Go.Proofs.Ytjghlfagdleglaa
open Go.RowKit

def roundsF (b : Int) (zs : List Int) : Int := if vrB b zs then rnd zs zs.length else 0
theorem countsE_ok {b : Int} {zs : List Int} (hv : vrB b zs = true) : countsE b zs = 0 := by simp [countsE, hv, (vr_parts hv).1]
theorem countsE_no {b : Int} {zs : List Int} (hv : ¬ vrB b zs = true) : countsE b zs = 2 ∨ countsE b zs = 10 := by
  unfold countsE; rw [if_neg hv]; split
  · exact .inr rfl
  · exact .inl rfl
theorem rounds_div {R x : Int} {zs : List Int} (hR : 16 ≤ R) (hn : 1 ≤ zs.length) (hall : ∀ (j : Nat) (u : Int), zs[j]? = some u → 0 ≤ u ∧ u < R) (hx : x = cnt R zs (zs.length - 1)) : x / R = rnd zs zs.length := by
  obtain ⟨z, hz⟩ := getElem?_of_lt (show zs.length - 1 < zs.length by omega)
  obtain ⟨h0, h1⟩ := hall _ _ hz
  rw [hx, cnt, getD_of hz, show zs.length - 1 + 1 = zs.length by omega, Int.add_comm, Int.add_mul_ediv_right _ _ (by omega), Int.ediv_eq_zero_of_lt h0 h1]
  omega

/-- What Rounds wants of the counts: the last one. -/
theorem last_of {b : Int} {zs ys : List Int} {A : Option Addr} {w : World} (hv : vrB b zs = true) (h : Ints w A ys) (hy : ys = countsF b zs) :
    ∃ bl off x, A = some ⟨bl, off, none⟩ ∧ 1 ≤ ys.length ∧ ys.length ≤ 60 ∧ w.cell? ⟨bl, off + (ys.length - 1), none⟩ = some (.int .i64 x) ∧ 0 ≤ x ∧ x ≤ 300000000000 ∧ Hid (x = cnt (2 ^ b.toNat) zs (zs.length - 1)) := by
  obtain ⟨_, ⟨h4, h32⟩, hn1, hn60⟩ := vr_parts hv
  have hlen : ys.length = zs.length := by rw [hy, countsF, if_pos hv, cnts_length]
  obtain ⟨bl, off, e, _, hc⟩ := h.open_ (by omega)
  obtain ⟨z, hz⟩ := getElem?_of_lt (show zs.length - 1 < zs.length by omega)
  obtain ⟨h0, h1⟩ := vr_at hv hz
  have hp := pow_bounds h4 h32
  have hb := cnt_bd (k := zs.length - 1) (by omega) (by omega) hp.2 hz h0 h1
  refine ⟨bl, off, _, e, by omega, by omega, hc _ _ ?_, hb.1, hb.2, rfl⟩
  rw [hlen, hy, countsF, if_pos hv, cnts, List.getElem?_map, List.getElem?_range (by omega)]
  rfl

theorem ints_lit (w : World) : Ints (w.alloc (.cells #[.int .i64 14, .int .i64 1, .int .i64 1, .int .i64 0] 3)) (some ⟨w.heap.size, 0, none⟩) [14, 1, 1, 0] :=
  ⟨rfl, fun _ => ⟨_, rfl, by simp, cells_new w [.int .i64 14, .int .i64 1, .int .i64 1, .int .i64 0] 3⟩⟩

set_option maxRecDepth 100000 in
set_option maxHeartbeats 400000 in
theorem rounds_any (b : Int) (zs : List Int) (A : Option Addr) (c : Nat) (w : World) (h : Ints w A zs) (hl : zs.length ≤ maxLen) :
    Calls Try.prog 27 #[.int .i64 b, .slice A zs.length c] w fun e w' => ∃ (n E : Int),
      e = .returned (.tuple #[.int .i64 n, .int .i64 E]) ∧ Below w.heap.size w w' ∧ Hid (n = roundsF b zs ∧ E = countsE b zs) := by
  by_cases hv : vrB b zs = true
  · obtain ⟨_, ⟨hb4, hb32⟩, hn1, hn60⟩ := vr_parts hv
    have HV := Lib.hid hv
    have H := Lib.hid h
    have HL := Lib.hid hl
    clear hv h hl
    have hpw := pow_bounds hb4 hb32
    go_enter Try.func27, Try.ntmps27
    go_wp2_with (go_at_call 16; refine (counts_any _ _ _ _ _ H.out HL.out).mono ?_; rintro e w' ⟨A', c', ys, E, rfl, hI, hB, hF⟩; obtain rfl : E = 0 := hF.out.2.trans (countsE_ok HV.out); obtain ⟨bl, off, x, rfl, hy1, hy60, hc, hx0, hx1, hx⟩ := last_of HV.out hI.ints hF.out.1)
    go_ret2
    refine ⟨_, _, rfl, hB, ?_, (countsE_ok HV.out).symm⟩
    rw [roundsF, if_pos HV.out]
    exact rounds_div hpw.1 hn1 (fun j u hj => vr_at HV.out hj) hx.out
  · have H := Lib.hid h
    have HL := Lib.hid hl
    clear h hl
    go_enter Try.func27, Try.ntmps27
    go_wp2_with (go_at_call 16; refine (counts_any _ _ _ _ _ H.out HL.out).mono ?_; rintro e w' ⟨A', c', ys, E, rfl, hI, hB, hF⟩; have hE : E = 2 ∨ E = 10 := by (rw [hF.out.2]; exact countsE_no hv))
    go_ret2
    exact ⟨_, _, rfl, hB, by rw [roundsF, if_neg hv], hF.out.2⟩

set_option maxRecDepth 100000 in
set_option maxHeartbeats 400000 in
theorem refRounds_any (b : Int) (zs : List Int) (A : Option Addr) (c : Nat) (w : World) (h : Ints w A zs) (hl : zs.length ≤ maxLen) :
    Calls Try.prog 28 #[.int .i64 b, .slice A zs.length c] w fun e w' => ∃ (n E : Int),
      e = .returned (.tuple #[.int .i64 n, .int .i64 E]) ∧ Below w.heap.size w w' ∧ Hid (n = roundsF b zs ∧ E = countsE b zs) := by
  by_cases hv : vrB b zs = true
  · obtain ⟨_, ⟨hb4, hb32⟩, hn1, hn60⟩ := vr_parts hv
    have HV := Lib.hid hv
    have H := Lib.hid h
    have HL := Lib.hid hl
    clear hv h hl
    have hpw := pow_bounds hb4 hb32
    obtain ⟨R, hR⟩ : ∃ R : Int, R = 2 ^ b.toNat := ⟨_, rfl⟩
    rw [← hR] at hpw
    have HR := Lib.hid hR
    clear hR
    go_enter Try.func28, Try.ntmps28
    go_wp2_with (go_at_call 17; refine (refCounts_any _ _ _ _ _ H.out HL.out).mono ?_; rintro e w' ⟨A', c', ys, E, rfl, hI, hB, hF⟩; obtain rfl : E = 0 := hF.out.2.trans (countsE_ok HV.out); obtain ⟨bl, off, x, rfl, hy1, hy60, hc, hx0, hx1, hx⟩ := last_of HV.out hI.ints hF.out.1)
    generalize ys.length = n at hy1 hy60 hc ⊢
    have i0 : (0 : Int) ≤ (n : Int) - 1 := by omega
    have i1 : (n : Int) - 1 < (n : Int) := by omega
    have i2 : IntKind.i64.wrap ((n : Int) - 1) = (n : Int) - 1 := IntWalk.i64_in _ (by omega)
    have i3 : ((n : Int) - 1).toNat = n - 1 := by omega
    have i4 : (1 : Int) ≤ (n : Int) := by omega
    go_quiet ((go_at_call 58; exact Calls.quiet_of_same ((size_is _ R _ (by omega) (by omega) HR.out).mono fun _ _ h => ⟨h.1, h.2.symm⟩)))
    go_wp2
    go_ret2
    refine ⟨_, _, rfl, below_drewN hB _, ?_, (countsE_ok HV.out).symm⟩
    rw [roundsF, if_pos HV.out]
    exact rounds_div hpw.1 hn1 (fun j u hj => by rw [HR.out]; exact vr_at HV.out hj) (by rw [HR.out]; exact hx.out)
  · have H := Lib.hid h
    have HL := Lib.hid hl
    clear h hl
    go_enter Try.func28, Try.ntmps28
    go_wp2_with (go_at_call 17; refine (refCounts_any _ _ _ _ _ H.out HL.out).mono ?_; rintro e w' ⟨A', c', ys, E, rfl, hI, hB, hF⟩; have hE : E = 2 ∨ E = 10 := by (rw [hF.out.2]; exact countsE_no hv))
    go_ret2
    exact ⟨_, _, rfl, hB, by rw [roundsF, if_neg hv], hF.out.2⟩

theorem many_any (zs : List Int) (A : Option Addr) (c : Nat) (w : World) :
    Calls Try.prog 14 #[.slice A zs.length c] w fun e w' => e = .returned (.bool (decide (200 < zs.length))) ∧ w = w' := by
  go_enter Try.func14, Try.ntmps14
  go_wp2
  go_ret
  exact ⟨ret_bool (by simp; omega), rfl⟩

theorem awake_any (w : World) :
    Calls Try.prog 15 #[] w fun e w' => e = .returned (.bool true) ∧ Below w.heap.size w w' := by
  go_enter Try.func15, Try.ntmps15
  go_wp2_with (go_at_call 27; refine (rounds_any 4 [14, 1, 1, 0] _ 4 _ (ints_lit w) (by simp [maxLen])).mono ?_; rintro e w' ⟨n, E, rfl, hB, hF⟩; obtain rfl : n = 2 := hF.out.1; obtain rfl : E = 0 := hF.out.2)
  go_ret
  exact ⟨rfl, (((Below.refl _ _).alloc (Nat.le_refl _) _).trans (hB.mono (by simp)))⟩
end Go.Proofs.Ytjghlfagdleglaa

/-
  From an argument's reading to what the walks are told of it.
-/
namespace Go.Proofs.Ytjghlfagdleglaa
open Go.ChangeShapes Go.WideShapes Go.ChangeAt Go.RowKit

section
variable {H : Type} {enc : TypeId × Value → H} {W : World}
theorem arg_ints {a : Option Addr} {len cap : Nat} {d : DataW H} {p : List MemPlace}
    (h : DataW.Trod enc Try.prog W 0 (fun _ => true) true 22 (.slice a len cap) d p) :
    ∃ zs : List Int, zs.length = len ∧ Ints W a zs ∧ len ≤ cap ∧ cap ≤ maxLen := by
  obtain ⟨fuel, hf⟩ := h
  rcases open_ints Try.underlying22 Try.underlying3 (by kernel_rfl) hf with ⟨hcs, _⟩ | ⟨x, l, c, zs, hcs, _, hl, hm, hz, _, hcell, _⟩
  · simp [Value.cells] at hcs
    obtain ⟨rfl, rfl, rfl⟩ := hcs
    exact ⟨[], rfl, Ints.nil_, by omega, by simp [maxLen]⟩
  · simp [Value.cells] at hcs
    obtain ⟨rfl, rfl, rfl⟩ := hcs
    have hzl : zs.length = cap := by simpa using hz
    have htl : (zs.take len).length = len := by simp; omega
    refine ⟨zs.take len, htl, ⟨by simp, fun hn => ?_⟩, hl, hm⟩
    have h0 := hcell 0 (by rw [htl] at hn; omega)
    refine ⟨x, rfl, ?_, fun j u hj => ?_⟩
    · have := World.block_lt_of_cell? W _ h0
      rwa [block_of_add] at this
    · rw [List.getElem?_map] at hj
      have hjl : j < len := by
        rcases Nat.lt_or_ge j len with h | h
        · exact h
        · rw [List.getElem?_eq_none (by rw [htl]; omega)] at hj; cases hj
      rw [List.getElem?_take_of_lt hjl, List.getElem?_eq_getElem (by omega)] at hj
      simp only [Option.map_some, Option.some.injEq] at hj
      rw [hcell j (by omega), ← hj, List.getD_eq_getElem?_getD, List.getElem?_eq_getElem (by omega)]; rfl
end
end Go.Proofs.Ytjghlfagdleglaa

