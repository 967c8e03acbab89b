/- Superblock on lists: what a store that is interrupted leaves. -/
import Derived.Test.YtnocgfhcamnjdaaBb
namespace Go.Proofs.Ytnocgfhcamnjdaa
open Go.RowKit Go.Lib

/-- Whether the sectors of a half belong together and are those of a payload (the same words stand in text Av: no text imports both). -/
def okH (l : List Sect) : Prop := (∀ s ∈ l, num4 s = num4 (l.getD 0 [])) ∧ valB (dat l) = true
instance (l : List Sect) : Decidable (okH l) := inferInstanceAs (Decidable (_ ∧ _))
/-- The halves of a superblock. -/
def halfL (L : List Sect) (i : Nat) : List Sect := (L.drop (8 * i)).take 8
/-- Half i is the copy of p with the generation g, and the other half, if it is one, is older. -/
structure Good (L : List Sect) (i : Nat) (p : List Nat) (g : Nat) : Prop where
  len : L.length = 16
  secs : Secs L
  idx : i ≤ 1
  plen : p.length ≤ 31
  p8 : B8 p
  pos : 0 < g
  lt : g < 4294967296
  half : halfL L i = secsN g 8 (conL p)
  other : okH (halfL L (1 - i)) → num4 ((halfL L (1 - i)).getD 0 []) < g
theorem secsN_get0 (g : Nat) (C : List Nat) : (secsN g 8 C).getD 0 [] = le4 g ++ C.take 4 := rfl
theorem secsN_ok {g : Nat} {p : List Nat} (h : p.length ≤ 31) (hg : g < 4294967296) : okH (secsN g 8 (conL p)) ∧ num4 ((secsN g 8 (conL p)).getD 0 []) = g ∧ dat (secsN g 8 (conL p)) = conL p := by
  have e : num4 ((secsN g 8 (conL p)).getD 0 []) = g := secsN_num hg 8 (conL p) _ (by rw [secsN, List.getD_cons_zero]; exact List.mem_cons_self ..)
  have ed : dat (secsN g 8 (conL p)) = conL p := secsN_dat g 8 _ (conL_len h)
  exact ⟨⟨by rw [e]; exact secsN_num hg 8 _, by rw [ed]; exact valB_conL h⟩, e, ed⟩
theorem nstep_ok (i : Nat) (b : Nat × Blk) (H : List Sect) : nstep i b H = if okH H ∧ b.2.2 < num4 (H.getD 0 []) then (i, (dat H, num4 (H.getD 0 []))) else b := by
  unfold nstep okH
  by_cases h1 : (∀ s ∈ H, num4 s = num4 (H.getD 0 [])) ∧ valB (dat H) = true ∧ b.2.2 < num4 (H.getD 0 [])
  · rw [if_pos h1, if_pos ⟨⟨h1.1, h1.2.1⟩, h1.2.2⟩]
  · rw [if_neg h1, if_neg (fun h2 => h1 ⟨h2.1.1, h2.1.2, h2.2⟩)]
theorem good_new {L : List Sect} {i : Nat} {p : List Nat} {g : Nat} (h : Good L i p g) : newS L = (i, (conL p, g)) := by
  obtain ⟨hok, hnum, hdat⟩ := secsN_ok h.plen h.lt
  have hi : i = 0 ∨ i = 1 := by have := h.idx; omega
  have hh := h.half
  have ho := h.other
  have hp := h.pos
  show nstep 1 (nstep 0 (0, (List.replicate 32 0, 0)) (halfL L 0)) (halfL L 1) = _
  rcases hi with rfl | rfl
  · rw [hh, nstep_ok 0, hnum, hdat, if_pos ⟨hok, hp⟩, nstep_ok, if_neg]
    rintro ⟨h1, h2⟩
    have := ho h1
    exact Nat.lt_asymm this h2
  · rw [hh, nstep_ok 1, hnum, hdat, if_pos]
    refine ⟨hok, ?_⟩
    rw [nstep_ok]
    split
    · rename_i h1
      exact ho h1.1
    · exact hp
theorem half_len {L : List Sect} (h : L.length = 16) {i : Nat} (hi : i ≤ 1) : (halfL L i).length = 8 := by
  unfold halfL
  rw [List.length_take, List.length_drop]
  omega
theorem half_get {L : List Sect} {i j : Nat} (hj : j < 8) : (halfL L i)[j]? = L[8 * i + j]? := by
  unfold halfL
  rw [List.getElem?_take, if_pos hj, List.getElem?_drop]
theorem half_secs {L : List Sect} (h : Secs L) (i : Nat) : Secs (halfL L i) := secs_mid h _ _
theorem mem_half {L : List Sect} {i : Nat} {s : Sect} (h : s ∈ halfL L i) : s ∈ L := List.mem_of_mem_drop (List.mem_of_mem_take h)
theorem grt_ge {L : List Sect} {s : Sect} (h : s ∈ L) : num4 s ≤ grt L := by
  have : ∀ (L : List Sect) (a : Nat), (a ≤ L.foldl (fun g s => max g (num4 s)) a) ∧ ∀ s ∈ L, num4 s ≤ L.foldl (fun g s => max g (num4 s)) a := by
    intro L
    induction L with
    | nil => exact fun a => ⟨Nat.le_refl _, fun s h => by cases h⟩
    | cons x r ih =>
      intro a
      obtain ⟨h1, h2⟩ := ih (max a (num4 x))
      rw [List.foldl_cons]
      refine ⟨by omega, fun s hs => ?_⟩
      rcases List.mem_cons.1 hs with rfl | hs
      · omega
      · exact h2 s hs
  exact (this L 0).2 s h
theorem grt_le {L : List Sect} {b : Nat} (h : ∀ s ∈ L, num4 s ≤ b) : grt L ≤ b := by
  have : ∀ (L : List Sect) (a : Nat), a ≤ b → (∀ s ∈ L, num4 s ≤ b) → L.foldl (fun g s => max g (num4 s)) a ≤ b := by
    intro L
    induction L with
    | nil => exact fun a ha _ => ha
    | cons x r ih =>
      intro a ha hs
      rw [List.foldl_cons]
      refine ih _ ?_ (fun s h => hs s (List.mem_cons_of_mem _ h))
      have := hs x (List.mem_cons_self ..)
      omega
  exact this L 0 (Nat.zero_le _) h
theorem good_grt {L : List Sect} {i : Nat} {p : List Nat} {g : Nat} (h : Good L i p g) : g ≤ grt L := by
  obtain ⟨_, hnum, _⟩ := secsN_ok h.plen h.lt
  have hm : (halfL L i).getD 0 [] ∈ halfL L i := by
    rw [List.getD_eq_getElem?_getD, List.getElem?_eq_getElem (by rw [half_len h.len h.idx]; decide)]
    exact List.getElem_mem _
  have := grt_ge (mem_half hm)
  rw [h.half, hnum] at this
  exact this
/-- What a store lays into the other half: each sector is the old or the new one. -/
theorem good_torn {L L' : List Sect} {i : Nat} {p q : List Nat} {g u : Nat} (h : Good L i p g) (hq : q.length ≤ 31) (hq8 : B8 q) (hu : u = grt L + 1) (hul : u < 4294967296) (hl : L'.length = 16) (hs : Secs L')
    (hsame : halfL L' i = halfL L i) (hoth : ∀ j, j < 8 → (halfL L' (1 - i))[j]? = (halfL L (1 - i))[j]? ∨ (halfL L' (1 - i))[j]? = (secsN u 8 (conL q))[j]?) :
    Good L' i p g ∨ Good L' (1 - i) q u := by
  have hgu := good_grt h
  have hi := h.idx
  have hl1 : (halfL L' (1 - i)).length = 8 := half_len hl (by omega)
  have hl0 : (halfL L (1 - i)).length = 8 := half_len h.len (by omega)
  by_cases hall : ∀ j, j < 8 → (halfL L' (1 - i))[j]? = (secsN u 8 (conL q))[j]?
  · right
    have he : halfL L' (1 - i) = secsN u 8 (conL q) := List.ext_getElem? fun j => by
      rcases Nat.lt_or_ge j 8 with hj | hj
      · exact hall j hj
      · rw [List.getElem?_eq_none (by omega), List.getElem?_eq_none (by rw [secsN_len]; exact hj)]
    refine ⟨hl, hs, by omega, hq, hq8, by omega, hul, he, fun _ => ?_⟩
    have e : 1 - (1 - i) = i := by omega
    rw [e, hsame, h.half, (secsN_ok h.plen h.lt).2.1]
    omega
  · left
    refine ⟨hl, hs, hi, h.plen, h.p8, h.pos, h.lt, hsame.trans h.half, fun hok => ?_⟩
    obtain ⟨j0, hj0⟩ := Classical.not_forall.1 hall
    obtain ⟨hj0l, hj0n⟩ := Classical.not_imp.1 hj0
    have hold0 := (hoth j0 hj0l).resolve_right hj0n
    have hx0 : ∃ x, (halfL L (1 - i))[j0]? = some x := ⟨(halfL L (1 - i))[j0]'(by omega), List.getElem?_eq_getElem _⟩
    obtain ⟨x0, hx0⟩ := hx0
    rw [hx0] at hold0
    have hn0 := hok.1 x0 (List.mem_of_getElem? hold0)
    have hle0 := grt_ge (mem_half (List.mem_of_getElem? hx0))
    have he : halfL L' (1 - i) = halfL L (1 - i) := List.ext_getElem? fun j => by
      rcases Nat.lt_or_ge j 8 with hj | hj
      · rcases hoth j hj with h1 | h1
        · exact h1
        · exfalso
          obtain ⟨y, hy⟩ : ∃ y, (secsN u 8 (conL q))[j]? = some y := ⟨(secsN u 8 (conL q))[j]'(by rw [secsN_len]; exact hj), List.getElem?_eq_getElem _⟩
          rw [hy] at h1
          have h2 := hok.1 y (List.mem_of_getElem? h1)
          have h3 := secsN_num hul 8 _ y (List.mem_of_getElem? hy)
          omega
      · rw [List.getElem?_eq_none (by omega), List.getElem?_eq_none (by omega)]
    rw [he] at hok ⊢
    exact h.other hok
end Go.Proofs.Ytnocgfhcamnjdaa
