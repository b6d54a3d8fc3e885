/-
  Plain facts: hits whose order is turned round have as long chains and layers, and as many chains. Nothing of the program.
-/
import Derived.Test.YtmlkdjcjfkfdiaaChainM
import Derived.Test.YtmlkdjcjfkfdiaaChains
import Derived.Test.YtmlkdjcjfkfdiaaMoves
namespace Go.Proofs.Ytmlkdjcjfkfdiaa
open Go Go.RowKit

theorem sm_add {α : Type} (f g : α → Int) (l : List α) : (l.map fun a => f a + g a).sum = (l.map f).sum + (l.map g).sum := by
  induction l with
  | nil => rfl
  | cons a t ih => simp only [List.map_cons, List.sum_cons, ih]; omega
theorem sm_mul {α : Type} (c : Int) (f : α → Int) (l : List α) : (l.map fun a => c * f a).sum = c * (l.map f).sum := by
  induction l with
  | nil => simp
  | cons a t ih => simp only [List.map_cons, List.sum_cons, ih, Int.mul_add]
theorem sm_zero {α : Type} (l : List α) : (l.map fun _ => (0 : Int)).sum = 0 := by
  induction l with
  | nil => rfl
  | cons a t ih => simp only [List.map_cons, List.sum_cons, ih]; rfl
theorem sm_swap {α β : Type} (f : α → β → Int) (l : List α) (m : List β) : (l.map fun a => (m.map fun b => f a b).sum).sum = (m.map fun b => (l.map fun a => f a b).sum).sum := by
  induction l with
  | nil => simp only [List.map_nil, List.sum_nil]; exact (sm_zero m).symm
  | cons a t ih => simp only [List.map_cons, List.sum_cons, ih, sm_add]
theorem sm_congr {α : Type} {f g : α → Int} {l : List α} (h : ∀ a ∈ l, f a = g a) : (l.map f).sum = (l.map g).sum := by
  rw [List.map_congr_left h]
theorem sm_filter {α : Type} (p : α → Bool) (f : α → Int) (l : List α) : ((l.filter p).map f).sum = (l.map fun x => if p x then f x else 0).sum := by
  induction l with
  | nil => rfl
  | cons a t ih =>
    rw [List.filter_cons]
    cases h : p a <;> simp [h, ih]
theorem sm_fold (l : List Int) : ∀ x : Int, l.foldl (fun a b => a + b) x = x + l.sum := by
  induction l with
  | nil => intro x; simp
  | cons a t ih => intro x; rw [List.foldl_cons, ih, List.sum_cons]; omega
theorem sm_nn {α : Type} {f : α → Int} {l : List α} (h : ∀ a ∈ l, 0 ≤ f a) : 0 ≤ (l.map f).sum ∧ (0 < (l.map f).sum ↔ ∃ a ∈ l, 0 < f a) := by
  induction l with
  | nil => simp
  | cons a t ih =>
    have h1 := h a (by simp)
    obtain ⟨i1, i2⟩ := ih fun b hb => h b (by simp [hb])
    rw [List.map_cons, List.sum_cons]
    refine ⟨by omega, ?_, ?_⟩
    · intro hp
      by_cases ha : 0 < f a
      · exact ⟨a, by simp, ha⟩
      · obtain ⟨b, hb, hb2⟩ := i2.1 (by omega)
        exact ⟨b, by simp [hb], hb2⟩
    · rintro ⟨b, hb, hb2⟩
      rcases List.mem_cons.1 hb with rfl | hb
      · omega
      · have := i2.2 ⟨b, hb, hb2⟩
        omega
theorem fold_ge {l : List Int} {c : Int} (hc : 0 < c) : c ≤ l.foldl max 0 ↔ ∃ x ∈ l, c ≤ x := by
  constructor
  · intro h
    rcases fold_max_mem l 0 with q | q
    · omega
    · exact ⟨_, q, h⟩
  · rintro ⟨x, hx, h⟩
    exact Int.le_trans h ((fold_max_ge l 0).2 x hx)

/-- How many chains of k + 1 hits begin with a hit. -/
def pwI (ms : List (Int × Int)) : Nat → Int → Int
  | 0, _ => 1
  | k + 1, a => ((afterL ms a).map (pwI ms k)).sum
theorem pw_nn (ms : List (Int × Int)) : ∀ (k : Nat) (a : Int), 0 ≤ pwI ms k a
  | 0, _ => by rw [pwI]; decide
  | k + 1, a => (sm_nn fun b _ => pw_nn ms k b).1
theorem pw_succ (ms : List (Int × Int)) (k : Nat) (a : Int) : pwI ms (k + 1) a = ((allL ms.length).map fun b => if befI ms a b then pwI ms k b else 0).sum := by
  rw [pwI, afterL, sm_filter]
theorem num_pw (ms : List (Int × Int)) : ∀ (f : Nat) (a : Int), numF ms (fun a b => a + b) f a = ((List.range f).map fun k => pwI ms k a).sum
  | 0, _ => rfl
  | f + 1, a => by
    rw [numF, sm_fold, List.range_succ_eq_map, List.map_cons, List.sum_cons, List.map_map]
    have e : ((afterL ms a).map (numF ms (fun a b => a + b) f)).sum = ((List.range f).map fun k => pwI ms (k + 1) a).sum := by
      rw [sm_congr (fun b _ => num_pw ms f b), sm_swap]
      rfl
    rw [e]
    show 1 + (0 + _) = pwI ms 0 a + _
    rw [pwI, Int.zero_add]
    rfl
theorem max_pw (ms : List (Int × Int)) : ∀ (f m : Nat) (a : Int), m < f → ((m : Int) + 1 ≤ numF ms max f a ↔ 0 < pwI ms m a)
  | 0, _, _, h => absurd h (by omega)
  | f + 1, 0, a, _ => by
    have h := (fold_max_ge ((afterL ms a).map (numF ms max f)) 0).1
    rw [numF, pwI]
    constructor
    · intro _; decide
    · intro _; omega
  | f + 1, m + 1, a, h => by
    rw [numF, pwI, (sm_nn fun b _ => pw_nn ms m b).2]
    have e : ((m + 1 : Nat) : Int) + 1 ≤ 1 + ((afterL ms a).map (numF ms max f)).foldl max 0 ↔ (m : Int) + 1 ≤ ((afterL ms a).map (numF ms max f)).foldl max 0 := by omega
    rw [e, fold_ge (by omega)]
    constructor
    · rintro ⟨x, hx, hx2⟩
      obtain ⟨b, hb, rfl⟩ := List.mem_map.1 hx
      exact ⟨b, hb, (max_pw ms f m b (by omega)).1 hx2⟩
    · rintro ⟨b, hb, hb2⟩
      exact ⟨_, List.mem_map.2 ⟨b, hb, rfl⟩, (max_pw ms f m b (by omega)).2 hb2⟩
theorem max_le (ms : List (Int × Int)) : ∀ (f : Nat) (a : Int), numF ms max f a ≤ f
  | 0, _ => Int.le_refl _
  | f + 1, a => by
    rw [numF]
    have := fold_max_le ((afterL ms a).map (numF ms max f)) 0 f (by omega) fun x hx => by
      obtain ⟨b, _, rfl⟩ := List.mem_map.1 hx
      exact max_le ms f b
    omega
theorem top_iff (ms : List (Int × Int)) {m : Nat} (hm : m < ms.length) : m + 1 ≤ topN ms ↔ 0 < ((allL ms.length).map (pwI ms m)).sum := by
  rw [(sm_nn fun b _ => pw_nn ms m b).2]
  have h0 := (fold_max_ge ((allL ms.length).map (numI ms max)) 0).1
  have e : m + 1 ≤ topN ms ↔ (m : Int) + 1 ≤ ((allL ms.length).map (numI ms max)).foldl max 0 := by rw [topN]; omega
  rw [e, fold_ge (by omega)]
  constructor
  · rintro ⟨x, hx, hx2⟩
    obtain ⟨b, hb, rfl⟩ := List.mem_map.1 hx
    exact ⟨b, hb, (max_pw ms _ m b hm).1 hx2⟩
  · rintro ⟨b, hb, hb2⟩
    exact ⟨_, List.mem_map.2 ⟨b, hb, rfl⟩, (max_pw ms _ m b hm).2 hb2⟩
theorem top_le (ms : List (Int × Int)) : topN ms ≤ ms.length := by
  have := fold_max_le ((allL ms.length).map (numI ms max)) 0 ms.length (by omega) fun x hx => by
    obtain ⟨b, _, rfl⟩ := List.mem_map.1 hx
    exact max_le ms _ b
  rw [topN]
  omega
theorem chainR_len (ms : List (Int × Int)) : ∀ (m : Nat) (left : List Int), (∀ a ∈ left, a ∈ allL ms.length) → Top ms left m → (chainR ms m left).length = m
  | 0, _, _, _ => rfl
  | m + 1, left, hl, ht => by
    obtain ⟨b, hb, hb2⟩ := ht.some (by omega)
    cases hf : left.find? (fun a => decide (lenI ms a = (m + 1 : Nat))) with
    | none =>
      have := List.find?_eq_none.1 hf b hb
      simp [hb2] at this
    | some a =>
      have ha := List.mem_of_find?_eq_some hf
      have ha2 : lenI ms a = (m + 1 : Nat) := by simpa using List.find?_some hf
      rw [chainR_cons hf, List.length_cons, chainR_len ms m (afterL ms a) (fun c hc => (mem_after.1 hc).1) (top_after (hl a ha) ha2)]
theorem chain_len {ms : List (Int × Int)} (hn : 1 ≤ ms.length) : (chainL ms).length = topN ms := chainR_len ms _ _ (fun _ h => h) (top_all hn)

/-- Each is before another one in the one list just where that is before it in the other. -/
structure Rev (ms ns : List (Int × Int)) : Prop where
  len : ms.length = ns.length
  bef : ∀ a ∈ allL ms.length, ∀ b ∈ allL ms.length, befI ns a b = befI ms b a
theorem Rev.adj {ms ns : List (Int × Int)} (h : Rev ms ns) (j i : Nat) :
    ((allL ms.length).map fun a => pwI ns j a * pwI ms (i + 1) a).sum = ((allL ms.length).map fun a => pwI ns (j + 1) a * pwI ms i a).sum := by
  have e1 : ((allL ms.length).map fun a => pwI ns j a * pwI ms (i + 1) a).sum = ((allL ms.length).map fun a => ((allL ms.length).map fun b => pwI ns j a * (if befI ms a b then pwI ms i b else 0)).sum).sum :=
    sm_congr fun a _ => by rw [pw_succ, sm_mul]
  rw [e1, sm_swap]
  refine sm_congr fun b hb => ?_
  rw [pw_succ, Int.mul_comm, ← sm_mul, ← h.len]
  refine sm_congr fun a ha => ?_
  rw [h.bef b hb a ha]
  cases befI ms a b <;> simp [Int.mul_comm]
theorem Rev.pw {ms ns : List (Int × Int)} (h : Rev ms ns) : ∀ (k j : Nat), ((allL ms.length).map fun a => pwI ns j a * pwI ms k a).sum = ((allL ms.length).map (pwI ns (j + k))).sum
  | 0, j => sm_congr fun a _ => by rw [show pwI ms 0 a = 1 from rfl, Int.mul_one, Nat.add_zero]
  | k + 1, j => by rw [h.adj, h.pw k (j + 1), show j + 1 + k = j + (k + 1) by omega]
theorem Rev.sum {ms ns : List (Int × Int)} (h : Rev ms ns) (k : Nat) : ((allL ms.length).map (pwI ms k)).sum = ((allL ns.length).map (pwI ns k)).sum := by
  have := h.pw k 0
  rw [Nat.zero_add] at this
  rw [← h.len, ← this]
  exact sm_congr fun a _ => by rw [show pwI ns 0 a = 1 from rfl, Int.one_mul]
theorem Rev.top {ms ns : List (Int × Int)} (h : Rev ms ns) : topN ms = topN ns := by
  have key : ∀ m, m + 1 ≤ topN ms ↔ m + 1 ≤ topN ns := fun m => by
    by_cases hm : m < ms.length
    · rw [top_iff ms hm, top_iff ns (by rw [← h.len]; exact hm), h.sum]
    · have := top_le ms
      have := top_le ns
      have := h.len
      constructor <;> intro _ <;> omega
  rcases Nat.lt_trichotomy (topN ms) (topN ns) with q | q | q
  · have := (key (topN ns - 1)).2 (by omega); omega
  · exact q
  · have := (key (topN ms - 1)).1 (by omega); omega
theorem chains_pw (ms : List (Int × Int)) : chainsI ms = ((List.range ms.length).map fun k => ((allL ms.length).map (pwI ms k)).sum).sum := by
  have e : chainsI ms = ((allL ms.length).map (numI ms fun a b => a + b)).sum := by
    unfold chainsI
    rw [show (addJ : Int → Int → Int) = fun a b => a + b from rfl, sm_fold, Int.zero_add]
  rw [e, sm_congr (f := numI ms fun a b => a + b) (fun a _ => num_pw ms ms.length a), sm_swap]
theorem Rev.chains {ms ns : List (Int × Int)} (h : Rev ms ns) : chainsI ms = chainsI ns := by
  rw [chains_pw, chains_pw, ← h.len]
  refine sm_congr fun k _ => ?_
  rw [h.sum k, h.len]
theorem Rev.know {ms ns : List (Int × Int)} (h : Rev ms ns) {a b : Int} (ha : a ∈ allL ms.length) (hb : b ∈ allL ms.length) : knowI ns a b = knowI ms a b := by
  rw [knowI, knowI, h.bef a ha b hb, h.bef b hb a ha, Bool.or_comm]
theorem Rev.long {ms ns : List (Int × Int)} (h : Rev ms ns) : ∀ (m : Nat) (l : List Int), (∀ a ∈ l, a ∈ allL ms.length) → longL ns m l = longL ms m l
  | 0, _, _ => rfl
  | _ + 1, [], _ => rfl
  | m + 1, f :: others, hl => by
    have hs : strangersL ns f others = strangersL ms f others := List.filter_congr fun a ha => by rw [h.know (hl f (by simp)) (hl a (by simp [ha]))]
    have e1 := h.long m others fun a ha => hl a (by simp [ha])
    have e2 := h.long m (strangersL ms f others) fun a ha => hl a (by simp [(List.mem_filter.1 ha).1])
    rw [longL, longL, hs, e1, e2]
theorem Rev.layer {ms ns : List (Int × Int)} (h : Rev ms ns) : layerL ns = layerL ms := by
  unfold layerL
  rw [← h.len]
  exact h.long _ _ fun _ h => h
theorem Rev.chain {ms ns : List (Int × Int)} (h : Rev ms ns) (hn : 1 ≤ ms.length) : (chainL ms).length = (chainL ns).length := by
  rw [chain_len hn, chain_len (by rw [← h.len]; exact hn), h.top]
theorem hAt_map {ms : List (Int × Int)} (f : Int × Int → Int × Int) {a : Int} (ha : a ∈ allL ms.length) : hAt (ms.map f) a = f (hAt ms a) := by
  have h := allL_mem ha
  have hl : a.toNat < ms.length := by omega
  unfold hAt
  rw [List.getD_eq_getElem?_getD, List.getD_eq_getElem?_getD, List.getElem?_map, List.getElem?_eq_getElem hl]
  rfl
theorem bef_turn (x y : Int × Int) : bef (turnH x) (turnH y) = bef y x := by
  unfold bef turnH
  exact decide_eq_decide.2 (by constructor <;> (intro h; dsimp only at h ⊢; omega))
theorem bef_move (p t : Int) (x y : Int × Int) : bef (moveH p t x) (moveH p t y) = bef x y := by
  unfold bef moveH
  exact decide_eq_decide.2 (by constructor <;> (intro h; dsimp only at h ⊢; omega))
theorem rev_turn (ms : List (Int × Int)) : Rev ms (ms.map turnH) := ⟨by rw [List.length_map], fun a ha b hb => by rw [befI, befI, hAt_map _ ha, hAt_map _ hb, bef_turn]⟩
theorem rev_move (ms : List (Int × Int)) (p t : Int) : Rev (ms.map turnH) (ms.map (moveH p t)) := ⟨by rw [List.length_map, List.length_map], fun a ha b hb => by
  rw [List.length_map] at ha hb
  rw [befI, befI, hAt_map _ ha, hAt_map _ hb, hAt_map _ ha, hAt_map _ hb, bef_move, bef_turn]⟩
theorem turn_alike {ms : List (Int × Int)} (hn : 1 ≤ ms.length) : (chainL ms).length = (chainL (ms.map turnH)).length ∧ (layerL ms).length = (layerL (ms.map turnH)).length ∧ chainsI ms = chainsI (ms.map turnH) :=
  ⟨(rev_turn ms).chain hn, by rw [(rev_turn ms).layer], (rev_turn ms).chains⟩
theorem move_alike {ms : List (Int × Int)} (hn : 1 ≤ ms.length) (p t : Int) : (chainL ms).length = (chainL (ms.map (moveH p t))).length ∧ (layerL ms).length = (layerL (ms.map (moveH p t))).length ∧ chainsI ms = chainsI (ms.map (moveH p t)) := by
  obtain ⟨a, b, c⟩ := turn_alike hn
  have h := rev_move ms p t
  exact ⟨a.trans (h.chain (by rw [List.length_map]; exact hn)), b.trans (by rw [h.layer]), c.trans h.chains⟩
theorem vh_map {ms : List (Int × Int)} {f : Int × Int → Int × Int} (hv : vhB ms = true) (hf : ∀ m ∈ ms, hitB (f m) = true) (hi : ∀ x y, f x = f y → x = y) : vhB (ms.map f) = true := by
  have h1 := vh_parts hv
  have h2 := vh_nodup hv
  unfold vhB
  rw [List.length_map, decide_eq_true h1, decide_eq_true (show (ms.map f).Nodup from List.Pairwise.map _ (R := (· ≠ ·)) (fun a b hab e => hab (hi a b e)) h2)]
  rw [show (ms.map f).all hitB = true from List.all_eq_true.2 fun x hx => by obtain ⟨m, hm, rfl⟩ := List.mem_map.1 hx; exact hf m hm]
  rfl
theorem hit_iff {m : Int × Int} : hitB m = true ↔ (-1000 ≤ m.1 ∧ m.1 ≤ 1000) ∧ (-1000 ≤ m.2 ∧ m.2 ≤ 1000) := by
  unfold hitB plB
  rw [Bool.and_eq_true, decide_eq_true_eq, decide_eq_true_eq]
theorem vh_mem {ms : List (Int × Int)} (hv : vhB ms = true) {m : Int × Int} (hm : m ∈ ms) : hitB m = true := by
  obtain ⟨k, hk, rfl⟩ := List.mem_iff_getElem.1 hm
  exact hit_iff.2 (vh_at hv (List.getElem?_eq_getElem hk))
theorem vh_turn {ms : List (Int × Int)} (hv : vhB ms = true) : vhB (ms.map turnH) = true :=
  vh_map hv (fun m hm => by have := hit_iff.1 (vh_mem hv hm); exact hit_iff.2 (by unfold turnH; dsimp only; omega)) (fun x y h => by
    unfold turnH at h
    have h1 := congrArg Prod.fst h
    have h2 := congrArg Prod.snd h
    dsimp only at h1 h2
    exact Prod.ext h1 (by omega))
theorem vh_move {ms : List (Int × Int)} (hv : vhB ms = true) {p t : Int} (ho : okMv ms p t = true) : vhB (ms.map (moveH p t)) = true :=
  vh_map hv (fun m hm => by
    have h := List.all_eq_true.1 ho m hm
    unfold okM at h
    rw [Bool.and_eq_true] at h
    have h1 := can_bd h.1
    have h2 := can_bd h.2
    exact hit_iff.2 (by unfold moveH; dsimp only; omega)) (fun x y h => by
    unfold moveH at h
    have h1 := congrArg Prod.fst h
    have h2 := congrArg Prod.snd h
    dsimp only at h1 h2
    exact Prod.ext (by omega) (by omega))
theorem turn_turn (ms : List (Int × Int)) : (ms.map turnH).map turnH = ms := by
  rw [List.map_map]
  conv => rhs; rw [← List.map_id ms]
  exact List.map_congr_left fun m _ => by simp [turnH]
theorem move_back (ms : List (Int × Int)) (p t : Int) : (ms.map (moveH p t)).map (moveH (-p) (-t)) = ms := by
  rw [List.map_map]
  conv => rhs; rw [← List.map_id ms]
  refine List.map_congr_left fun m _ => ?_
  simp only [Function.comp, moveH, id]
  exact Prod.ext (by dsimp only; omega) (by dsimp only; omega)
theorem ok_back {ms : List (Int × Int)} (hv : vhB ms = true) (p t : Int) : okMv (ms.map (moveH p t)) (-p) (-t) = true := by
  refine List.all_eq_true.2 fun x hx => ?_
  obtain ⟨m, hm, rfl⟩ := List.mem_map.1 hx
  have := hit_iff.1 (vh_mem hv hm)
  unfold okM canB moveH
  rw [Bool.and_eq_true, decide_eq_true_eq, decide_eq_true_eq]
  dsimp only
  omega
theorem ok_small {ms : List (Int × Int)} (hv : vhB ms = true) {p t : Int} (ho : okMv ms p t = true) : (-2000 ≤ p ∧ p ≤ 2000) ∧ (-2000 ≤ t ∧ t ≤ 2000) := by
  have h1 := vh_parts hv
  obtain ⟨m, hm⟩ : ∃ m, m ∈ ms := ⟨ms[0], List.getElem_mem (by omega)⟩
  have hb := hit_iff.1 (vh_mem hv hm)
  have h := List.all_eq_true.1 ho m hm
  unfold okM at h
  rw [Bool.and_eq_true] at h
  have h1 := can_bd h.1
  have h2 := can_bd h.2
  omega
end Go.Proofs.Ytmlkdjcjfkfdiaa
