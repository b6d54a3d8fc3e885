/-
  Plain words for what wave answers; nothing of the program.
-/
import Derived.Test.YtcmnjmhedmneiaaDoorPlain
namespace Go.Proofs.YtcmnjmhedmneiaaDoor
open Go Go.RowKit

/-- The widths, by their steps. -/
def wdN : Nat → Nat
  | 0 => 1
  | 1 => 2
  | 2 => 3
  | 3 => 6
  | _ => 11
theorem wd_bd (k : Nat) : 1 ≤ wdN k ∧ wdN k ≤ 11 := by
  rcases k with _ | _ | _ | _ | k <;> simp [wdN]
def signL (w : Nat) : List UInt8 := 49 :: List.replicate (w - 1) 48
/-- The signs of change from a step on, i of them, upwards; downwards. -/
def upsL (a i : Nat) : List UInt8 := (List.range i).flatMap fun j => signL (wdN (a + j)) ++ [49]
def dnsL (a i : Nat) : List UInt8 := (List.range i).flatMap fun j => signL (wdN (a - j)) ++ [48]
def changeL (a b : Nat) : List UInt8 := upsL a (b - a) ++ dnsL a (a - b)
theorem ups_succ (a i : Nat) : upsL a (i + 1) = upsL a i ++ (signL (wdN (a + i)) ++ [49]) := by simp [upsL, List.range_succ]
theorem dns_succ (a i : Nat) : dnsL a (i + 1) = dnsL a i ++ (signL (wdN (a - i)) ++ [48]) := by simp [dnsL, List.range_succ]
def halfN (w : Nat) : Int := 2 ^ (w - 1)
def inwB (w : Nat) (n : Int) : Bool := decide (-halfN w ≤ n ∧ n < halfN w)
def canB (w : Nat) (d : Int) : Bool := decide (-halfN w < d ∧ d < halfN w)
/-- A bit of a number, as its sign. -/
def bitU (n : Int) (j : Nat) : UInt8 := if n / 2 ^ j % 2 = 1 then 49 else 48
def wordL (w : Nat) (n : Int) : List UInt8 := (List.range w).map fun i => bitU n (w - 1 - i)
def betterB (a b : List UInt8) : Bool := decide (a.length < b.length) || (decide (a.length = b.length) && Op.bytesLess a b)
/-- The text from a step on by way of another step. -/
def viaL (d : Int) (bh : Nat → List UInt8) (a b : Nat) : List UInt8 := changeL a b ++ wordL (wdN b) d ++ bh b
def bestS (d : Int) (bh : Nat → List UInt8) (a : Nat) (acc : List UInt8) (b : Nat) : List UInt8 :=
  if canB (wdN b) d then (if acc = [] ∨ betterB (viaL d bh a b) acc = true then viaL d bh a b else acc) else acc
def bestK (d : Int) (bh : Nat → List UInt8) (a k : Nat) : List UInt8 := (List.range k).foldl (bestS d bh a) []
def frontL (d : Int) (bh : Nat → List UInt8) (a : Nat) : List UInt8 := bestK d bh a 5
def encL (ds : List Int) : Nat → List UInt8 := ds.foldr frontL fun _ => []
theorem best_succ (d : Int) (bh : Nat → List UInt8) (a k : Nat) : bestK d bh a (k + 1) = bestS d bh a (bestK d bh a k) k := by
  rw [bestK, List.range_succ, List.foldl_append]; rfl
theorem enc_cons (d : Int) (ds : List Int) : encL (d :: ds) = frontL d (encL ds) := rfl
theorem enc_awake : (encL [2, 0, 0, 0] 2).length = 12 := by decide +kernel

/-! ### lengths -/
theorem sign_len (w : Nat) (h : 1 ≤ w) : (signL w).length = w := by simp [signL]; omega
theorem word_len (w : Nat) (n : Int) : (wordL w n).length = w := by simp [wordL]
theorem ups_len (a i : Nat) : (upsL a i).length ≤ 12 * i := by
  induction i with
  | zero => simp [upsL]
  | succ i ih =>
    have h := wd_bd (a + i)
    rw [ups_succ, List.length_append, List.length_append, sign_len _ h.1]
    simp only [List.length_singleton]
    omega
theorem dns_len (a i : Nat) : (dnsL a i).length ≤ 12 * i := by
  induction i with
  | zero => simp [dnsL]
  | succ i ih =>
    have h := wd_bd (a - i)
    rw [dns_succ, List.length_append, List.length_append, sign_len _ h.1]
    simp only [List.length_singleton]
    omega
theorem change_len {a b : Nat} (ha : a < 5) (hb : b < 5) : (changeL a b).length ≤ 48 := by
  have h1 := ups_len a (b - a)
  have h2 := dns_len a (a - b)
  rw [changeL, List.length_append]
  omega
theorem via_len {d : Int} {bh : Nat → List UInt8} {a b n : Nat} (ha : a < 5) (hb : b < 5) (h : ∀ k, k < 5 → (bh k).length ≤ n) : (viaL d bh a b).length ≤ 59 + n := by
  have h1 := change_len ha hb
  have h2 := wd_bd b
  have h3 := h b hb
  rw [viaL, List.length_append, List.length_append, word_len]
  omega
theorem best_len {d : Int} {bh : Nat → List UInt8} {a n : Nat} (ha : a < 5) (h : ∀ k, k < 5 → (bh k).length ≤ n) : ∀ k, k ≤ 5 → (bestK d bh a k).length ≤ 59 + n := by
  intro k
  induction k with
  | zero => intro _; simp [bestK]
  | succ k ih =>
    intro hk
    have h1 := ih (by omega)
    have h2 := via_len (d := d) (b := k) ha (by omega) h
    rw [best_succ, bestS]
    split
    · split
      · exact h2
      · exact h1
    · exact h1
theorem enc_len : ∀ (ds : List Int) (k : Nat), k < 5 → (encL ds k).length ≤ 59 * ds.length
  | [], k, _ => by simp [encL]
  | d :: t, k, hk => by
    have := best_len (d := d) hk (enc_len t) 5 (Nat.le_refl _)
    rw [enc_cons, frontL, List.length_cons]
    omega
end Go.Proofs.YtcmnjmhedmneiaaDoor
