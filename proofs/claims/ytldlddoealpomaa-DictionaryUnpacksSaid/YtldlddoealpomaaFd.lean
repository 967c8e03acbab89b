/- On lists: the best match is found among the places alone. -/
import Derived.Test.YtldlddoealpomaaFc
namespace Go.Proofs.Ytldlddoealpomaa

/-- A place is tried. -/
def stp (x : List Nat) (a : Nat) (r : Nat × Nat) (p : Nat) : Nat × Nat := if r.2 < cm x p a 131 0 then (a - p, cm x p a 131 0) else r
def mt (x : List Nat) (a p : Nat) : Bool := decide ((x.drop p).take 4 = (x.drop a).take 4)
/-- The places at most d away at which the bytes at a stand, the nearest one first. -/
def Md (x : List Nat) (a : Nat) : Nat → List Nat
  | 0 => []
  | d + 1 => Md x a d ++ if mt x a (a - (d + 1)) = true then [a - (d + 1)] else []
theorem getD_drop (x : List Nat) (p i : Nat) : (x.drop p).getD i 0 = x.getD (p + i) 0 := by simp [List.getD_eq_getElem?_getD, List.getElem?_drop]
theorem take4 {l : List Nat} (h : 4 ≤ l.length) : l.take 4 = [l.getD 0 0, l.getD 1 0, l.getD 2 0, l.getD 3 0] := by
  match l, h with
  | a :: b :: c :: d :: r, _ => rfl
theorem cm_ge (x : List Nat) (p a : Nat) : ∀ f n, n ≤ cm x p a f n
  | 0, n => by rw [cm]; omega
  | f + 1, n => by
    rw [cm]
    split
    · have := cm_ge x p a f (n + 1); omega
    · omega
theorem cm_four {x : List Nat} {p a : Nat} (hp : p < a) (ha : a + 4 ≤ x.length) : 4 ≤ cm x p a 131 0 ↔ mt x a p = true := by
  have e : mt x a p = true ↔ (x.getD p 0 = x.getD a 0 ∧ x.getD (p + 1) 0 = x.getD (a + 1) 0 ∧ x.getD (p + 2) 0 = x.getD (a + 2) 0 ∧ x.getD (p + 3) 0 = x.getD (a + 3) 0) := by
    unfold mt
    rw [decide_eq_true_iff, take4 (by rw [List.length_drop]; omega), take4 (by rw [List.length_drop]; omega)]
    simp only [getD_drop, Nat.add_zero, List.cons.injEq, and_true]
  rw [e]
  have h0 := cm_ge x p a 127 4
  rw [show (131 : Nat) = 127 + 1 + 1 + 1 + 1 from rfl, cm, cm, cm, cm]
  simp only [Nat.add_zero]
  constructor
  · intro h
    split at h
    · rename_i h1
      split at h
      · rename_i h2
        split at h
        · rename_i h3
          split at h
          · rename_i h4
            exact ⟨h1.2, h2.2, h3.2, h4.2⟩
          · omega
        · omega
      · omega
    · omega
  · rintro ⟨h1, h2, h3, h4⟩
    rw [if_pos ⟨by omega, h1⟩, if_pos ⟨by omega, h2⟩, if_pos ⟨by omega, h3⟩, if_pos ⟨by omega, h4⟩]
    exact h0
theorem md_fold {x : List Nat} {a : Nat} (ha : a + 4 ≤ x.length) : ∀ d, d ≤ a → (Md x a d).foldl (stp x a) (0, 0) = bst x a d
  | 0, _ => rfl
  | d + 1, hd => by
    rw [Md, List.foldl_append, md_fold ha d (by omega), bst]
    have h := cm_four (x := x) (p := a - (d + 1)) (a := a) (by omega) ha
    by_cases hm : mt x a (a - (d + 1)) = true
    · rw [if_pos hm, List.foldl_cons, List.foldl_nil]
      unfold stp
      have h4 := h.2 hm
      by_cases hn : (bst x a d).2 < cm x (a - (d + 1)) a 131 0
      · rw [if_pos hn, if_pos ⟨h4, hn⟩, show a - (a - (d + 1)) = d + 1 by omega]
      · rw [if_neg hn, if_neg (fun e => hn e.2)]
    · rw [if_neg hm, List.foldl_nil, if_neg (fun e => hm (h.1 e.1))]
theorem md_near {x : List Nat} {a : Nat} : ∀ d, d ≤ a → ∀ p ∈ Md x a d, p < a ∧ a - p ≤ d
  | 0, _, p, h => by simp [Md] at h
  | d + 1, hd, p, h => by
    rw [Md, List.mem_append] at h
    rcases h with h | h
    · have := md_near d (by omega) p h; omega
    · split at h
      · rw [List.mem_singleton] at h; omega
      · cases h
theorem md_far {x : List Nat} {a m : Nat} : ∀ j, m + j ≤ a → ∃ T, Md x a (m + j) = Md x a m ++ T ∧ ∀ p ∈ T, m < a - p
  | 0, _ => ⟨[], by simp, fun p h => by cases h⟩
  | j + 1, h => by
    obtain ⟨T, h1, h2⟩ := md_far (x := x) (a := a) (m := m) j (by omega)
    refine ⟨T ++ if mt x a (a - (m + j + 1)) = true then [a - (m + j + 1)] else [], ?_, fun p hp => ?_⟩
    · rw [← Nat.add_assoc, Md, h1, List.append_assoc]
    · rw [List.mem_append] at hp
      rcases hp with hp | hp
      · exact h2 p hp
      · split at hp
        · rw [List.mem_singleton] at hp; omega
        · cases hp
theorem pf_md {x : List Nat} {a : Nat} (ha : a + 4 ≤ x.length) : ∀ d, d ≤ a → ((List.range' (a - d) d).filter fun p => decide (p + 4 ≤ x.length) && decide ((x.drop p).take 4 = (x.drop a).take 4)).reverse = Md x a d
  | 0, _ => rfl
  | d + 1, hd => by
    rw [Md, ← pf_md ha d (by omega), List.range'_succ, show a - (d + 1) + 1 = a - d by omega, List.filter_cons]
    have e : decide (a - (d + 1) + 4 ≤ x.length) = true := decide_eq_true (by omega)
    rw [e, Bool.true_and]
    by_cases hm : mt x a (a - (d + 1)) = true
    · rw [if_pos hm, if_pos (by unfold mt at hm; exact hm), List.reverse_cons]
    · rw [if_neg hm, if_neg (by unfold mt at hm; exact hm), List.append_nil]
theorem places_md {x : List Nat} {a : Nat} (ha : a + 4 ≤ x.length) : (PF x a ((x.drop a).take 4)).reverse = Md x a a := by
  rw [← pf_md ha a (Nat.le_refl _), Nat.sub_self, ← List.range_eq_range']
  rfl
theorem stp_top {x : List Nat} {a : Nat} : ∀ (l : List Nat) (r : Nat × Nat), r.2 = 131 → l.foldl (stp x a) r = r
  | [], r, _ => rfl
  | p :: l, r, h => by
    have : cm x p a 131 0 ≤ 131 := by have := cm_le x p a 131 0; omega
    rw [List.foldl_cons, show stp x a r p = r by unfold stp; rw [if_neg (by omega)]]
    exact stp_top l r h
/-- All places that are near are the best ones. -/
theorem best_all {x : List Nat} {a : Nat} (ha : a + 4 ≤ x.length) {l : List Nat} (h : l = Md x a a) (hn : ∀ p ∈ l, a - p ≤ 4096) : l.foldl (stp x a) (0, 0) = bst x a (min 4096 a) := by
  obtain ⟨T, h1, h2⟩ := md_far (x := x) (a := a) (m := min 4096 a) (a - min 4096 a) (by omega)
  rw [show min 4096 a + (a - min 4096 a) = a by omega] at h1
  have hT : T = [] := by
    rcases T with _ | ⟨p, T⟩
    · rfl
    · have h3 := h2 p (by simp)
      have h4 := hn p (by rw [h, h1]; simp)
      omega
  rw [← md_fold ha _ (by omega), h, h1, hT, List.append_nil]
/-- If a place is too far away, or the match is as long as can be, what was found before is the best. -/
theorem best_break {x : List Nat} {a : Nat} (ha : a + 4 ≤ x.length) {l : List Nat} {p : Nat} (h : l ++ [p] <+: Md x a a) (hn : ∀ p ∈ l, a - p ≤ 4096) (hp : 4096 < a - p ∨ (l.foldl (stp x a) (0, 0)).2 = 131) : l.foldl (stp x a) (0, 0) = bst x a (min 4096 a) := by
  obtain ⟨T, h1, h2⟩ := md_far (x := x) (a := a) (m := min 4096 a) (a - min 4096 a) (by omega)
  rw [show min 4096 a + (a - min 4096 a) = a by omega] at h1
  obtain ⟨R, hR⟩ := h
  obtain ⟨L, hL⟩ : ∃ L, Md x a (min 4096 a) = L := ⟨_, rfl⟩
  have hnear := md_near (x := x) (a := a) (min 4096 a) (by omega)
  rw [← md_fold ha _ (by omega)]
  rw [h1, hL] at hR
  rw [hL] at hnear ⊢
  have hlen : l.length ≤ L.length := by
    rcases Nat.lt_or_ge L.length l.length with hlt | hge
    · obtain ⟨q, hq⟩ : ∃ q, l[L.length]? = some q := ⟨l[L.length]'hlt, List.getElem?_eq_getElem _⟩
      have e : (L ++ T)[L.length]? = some q := by rw [← hR, List.append_assoc, List.getElem?_append_left hlt]; exact hq
      rw [List.getElem?_append_right (Nat.le_refl _)] at e
      have h3 := h2 q (List.mem_of_getElem? e)
      have h4 := hn q (List.mem_of_getElem? hq)
      omega
    · exact hge
  have hpre : ∃ S, L = l ++ S := by
    refine ⟨L.drop l.length, ?_⟩
    have : L.take l.length = l := by
      have e := congrArg (fun z => z.take l.length) hR
      rw [List.append_assoc, List.take_append_of_le_length (Nat.le_refl _), List.take_append_of_le_length hlen, List.take_length] at e
      exact e.symm
    have h5 := (List.take_append_drop l.length L).symm
    rw [this] at h5
    exact h5
  obtain ⟨S, hS⟩ := hpre
  rcases hp with hp | hp
  · have : S = [] := by
      rcases S with _ | ⟨s, S⟩
      · rfl
      · have e := hR
        rw [hS, List.append_assoc, List.append_assoc] at e
        have e2 := List.append_cancel_left e
        simp at e2
        have h3 := hnear p (by rw [hS, e2.1]; simp)
        omega
    rw [hS, this, List.append_nil]
  · rw [hS, List.foldl_append, stp_top S _ hp]
end Go.Proofs.Ytldlddoealpomaa
