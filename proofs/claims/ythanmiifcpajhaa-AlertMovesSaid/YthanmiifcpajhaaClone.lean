/-
  Contract: slices.Clone of tasks.
-/
import Derived.Test.YthanmiifcpajhaaUrgents
import Derived.Lib.SliceRun
set_option linter.unusedVariables false
set_option linter.unusedSimpArgs false
namespace Go.Proofs.Ythanmiifcpajhaa
open Go Go.RowKit

theorem nil_tasks (w : World) (a : Option Addr) (n c : Nat) : (binOp .eql 22 (.slice a n c) (.slice none 0 0)).run Try.prog w = .ok (.bool a.isNone) w :=
  Lib.run_eql_slice_nil w 22 53 a n c 0 0 Try.underlying22
theorem own_empty (w : World) : (w.alloc (.cells #[] 53)).ownsRow w.heap.size 53 3 (.slice (some ⟨w.heap.size, 0, none⟩) 0 0) 0 (([] : List (Int × Int × Int)).flatMap mk3) :=
  ⟨rfl, .inr ⟨w.heap.size, 0, _, rfl, Nat.le_refl _, heap_alloc_new w _, Nat.le_refl _, Nat.zero_le _, rfl, rfl⟩⟩
theorem mk3_one (ms : List (Int × Int × Int)) : ∀ u ∈ ms.flatMap mk3, u.oneCell' = true := by
  intro u hu
  rw [List.mem_flatMap] at hu
  obtain ⟨m, _, hm⟩ := hu
  simp [mk3] at hm
  rcases hm with rfl | rfl | rfl <;> rfl
theorem flat_at {ms : List (Int × Int × Int)} {j : Nat} {u : Value} (h : (ms.flatMap mk3)[j]? = some u) : ∃ m, ms[j / 3]? = some m ∧ (mk3 m)[j % 3]? = some u := by
  have hl : j < ms.length * 3 := by rw [← flat_len]; exact (List.getElem?_eq_some_iff.1 h).1
  obtain ⟨a, b, c, hm⟩ := getT_of_lt (ms := ms) (k := j / 3) (by omega)
  refine ⟨_, hm, ?_⟩
  obtain ⟨f0, f1, f2⟩ := flat_get ms _ _ hm
  have hj : j = 3 * (j / 3) + j % 3 := by omega
  have h3 : j % 3 = 0 ∨ j % 3 = 1 ∨ j % 3 = 2 := by omega
  rcases h3 with e | e | e <;> rw [e] at hj ⊢
  · rw [hj, Nat.add_zero] at h; rw [f0] at h; exact h
  · rw [hj] at h; rw [f1] at h; exact h
  · rw [hj] at h; rw [f2] at h; exact h
theorem marks_cells {w : World} {b o : Nat} {ms : List (Int × Int × Int)} (h : ∀ (k : Nat) (m : Int × Int × Int), ms[k]? = some m → w.cell? ⟨b, o + k * 3, none⟩ = some (.int .i64 m.1) ∧ w.cell? ⟨b, o + k * 3 + 1, none⟩ = some (.int .i64 m.2.1) ∧ w.cell? ⟨b, o + k * 3 + 2, none⟩ = some (.int .i64 m.2.2)) {j : Nat} {u : Value} (hj : (ms.flatMap mk3)[j]? = some u) : w.cell? ((⟨b, o, none⟩ : Addr).add j) = some u := by
  obtain ⟨m, hm, hu⟩ := flat_at hj
  obtain ⟨f0, f1, f2⟩ := h _ _ hm
  rw [add_mk]
  have h3 : j % 3 = 0 ∨ j % 3 = 1 ∨ j % 3 = 2 := by omega
  rcases h3 with e | e | e <;> rw [e] at hu
  · rw [show o + j = o + j / 3 * 3 by omega, f0]; exact hu
  · rw [show o + j = o + j / 3 * 3 + 1 by omega, f1]; exact hu
  · rw [show o + j = o + j / 3 * 3 + 2 by omega, f2]; exact hu

set_option maxRecDepth 100000 in
set_option maxHeartbeats 1000000 in
theorem clone_pos (zs : List (Int × Int × Int)) (A : Option Addr) (c : Nat) (w : World) (h : Marks w A zs) (hn : 0 < zs.length) (hl : zs.length ≤ 1000) :
    Calls Try.prog 80 #[.slice A zs.length c] w fun e w' => ∃ v, e = .returned v ∧ w'.ownsRow w.heap.size 53 3 v zs.length (zs.flatMap mk3) ∧ Below w.heap.size w w' := by
  obtain ⟨i0, hi0, hz0, hz1, hz2⟩ := info_parts lay_info
  obtain ⟨b, o, rfl, hb, hc⟩ := h.open_ hn
  have HC : Hid (∀ j u, (zs.flatMap mk3)[j]? = some u → (w.alloc (.cells #[] 53)).cell? ((⟨b, o, none⟩ : Addr).add j) = some u) := Lib.hid (by
    intro j u hj
    have := marks_cells hc hj
    rw [add_mk] at this ⊢
    exact (Below.cell (Below.alloc (Below.refl _ w) (Nat.le_refl _) _) (p := ⟨b, o + j, none⟩) hb).trans this)
  clear hc
  have HI := Lib.hid (And.intro hi0 (And.intro hz0 (And.intro hz1 hz2)))
  clear hi0 hz0 hz1 hz2
  have HNIL := nil_tasks w (some ⟨b, o, none⟩) zs.length c
  rw [show (some (⟨b, o, none⟩ : Addr)).isNone = false from rfl] at HNIL
  go_enter Try.func80, Try.ntmps80
  go_wp2_with (at_builtin; refine wpList_append_own _ rfl (.tmp 5) (.tmp 6) 22 rfl w.heap.size 53 i0 (.agg #[.int .i64 0, .int .i64 0, .int .i64 0]) 3 24 Try.underlying22 HI.out.1 HI.out.2.1 HI.out.2.2.1 HI.out.2.2.2 rfl (by decide) _ 0 _ rfl (own_empty w) ⟨b, o, none⟩ zs.length c (zs.flatMap mk3) rfl (flat_len zs) HC.out (mk3_one zs) (by unfold maxLen; omega) (by omega) (by simp) ?_; intro v2 w2 hown2 hg2 hat2)
  go_ret
  have hB2 : Below w.heap.size w w2 := ((Below.refl _ w).alloc (Nat.le_refl _) _).grown hg2 (by simp) (by intro k hk; cases hk; exact Nat.le_refl _)
  have hown3 : w2.ownsRow w.heap.size 53 3 v2 zs.length (zs.flatMap mk3) := by simpa using hown2
  exact ⟨v2, rfl, hown3, hB2⟩

set_option maxRecDepth 100000 in
theorem clone_nil (w : World) :
    Calls Try.prog 80 #[.slice none 0 0] w fun e w' => e = .returned (.slice none 0 0) ∧ w = w' := by
  have HNIL := nil_tasks w none 0 0
  rw [show (none : Option Addr).isNone = true from rfl] at HNIL
  go_enter Try.func80, Try.ntmps80
  go_wp2
  go_ret
  exact ⟨rfl, rfl⟩

theorem clone_own (zs : List (Int × Int × Int)) (b0 : Nat) (s : Value) (w : World) (h : w.ownsRow b0 53 3 s zs.length (zs.flatMap mk3)) (hz : zs = [] → s = .slice none 0 0) (hl : zs.length ≤ 1000) :
    Calls Try.prog 80 #[s] w fun e w' => ∃ v, e = .returned v ∧ w'.ownsRow w.heap.size 53 3 v zs.length (zs.flatMap mk3) ∧ Below w.heap.size w w' := by
  by_cases hn : 0 < zs.length
  · obtain ⟨A, c, rfl, hk⟩ := own_tasks h
    exact clone_pos zs A c w hk.marks hn hl
  · obtain rfl : zs = [] := List.eq_nil_of_length_eq_zero (by omega)
    obtain rfl := hz rfl
    exact (clone_nil w).mono fun e w' ⟨h1, h2⟩ => ⟨_, h1, ⟨rfl, .inl ⟨rfl, rfl⟩⟩, h2 ▸ Below.refl _ _⟩
end Go.Proofs.Ythanmiifcpajhaa
