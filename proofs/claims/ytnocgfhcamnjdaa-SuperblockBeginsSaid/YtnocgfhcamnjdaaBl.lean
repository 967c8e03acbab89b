/- Superblock on lists: a Format that is interrupted. -/
import Derived.Test.YtnocgfhcamnjdaaBh
namespace Go.Proofs.Ytnocgfhcamnjdaa
open Go.RowKit Go.Lib

/-- Each half that is a copy has one of these payloads. -/
def Known (K : List (List Nat)) (L : List Sect) : Prop := L.length = 16 ∧ Secs L ∧ ∀ i, i ≤ 1 → okH (halfL L i) → 0 < num4 ((halfL L i).getD 0 []) → payL (dat (halfL L i)) ∈ K
theorem known_mono {K K' : List (List Nat)} {L : List Sect} (h : Known K L) (hk : ∀ p ∈ K, p ∈ K') : Known K' L := ⟨h.1, h.2.1, fun i hi h1 h2 => hk _ (h.2.2 i hi h1 h2)⟩
/-- What Load finds is known. -/
theorem known_new {K : List (List Nat)} {L : List Sect} (h : Known K L) (h0 : 0 < (newS L).2.2) : payL (newS L).2.1 ∈ K := by
  have e : newS L = nstep 1 (nstep 0 (0, (List.replicate 32 0, 0)) (halfL L 0)) (halfL L 1) := rfl
  rw [e, nstep_ok 1] at h0 ⊢
  split
  · rename_i h1
    rw [if_pos h1] at h0
    exact h.2.2 1 (by omega) h1.1 h0
  · rename_i h1
    rw [if_neg h1, nstep_ok 0] at h0
    rw [nstep_ok 0]
    split
    · rename_i h2
      rw [if_pos h2] at h0
      exact h.2.2 0 (by omega) h2.1 h0
    · rename_i h2
      rw [if_neg h2] at h0
      exact absurd h0 (by show ¬ (0 < 0); omega)
theorem load_known {K : List (List Nat)} {st : List Sect} (hl : 21 ≤ st.length) (hl2 : st.length ≤ 4096) (h : Known K (supL st)) : (∃ p g, loadR st [] 5 = (0, p, g) ∧ p ∈ K) ∨ loadR st [] 5 = (9, [], 0) := by
  unfold loadR
  rw [if_pos (readE_5 hl hl2), readL_5 hl hl2]
  by_cases h0 : 0 < (newS (supL st)).2.2
  · rw [if_pos h0]
    exact .inl ⟨_, _, rfl, known_new h h0⟩
  · rw [if_neg h0]
    exact .inr rfl
theorem half_mem {L : List Sect} {i : Nat} (hl : L.length = 16) (hi : i ≤ 1) : (halfL L i).getD 0 [] ∈ halfL L i := by
  rw [List.getD_eq_getElem?_getD, List.getElem?_eq_getElem (by rw [half_len hl hi]; decide)]
  exact List.getElem_mem _
/-- Sectors that are zero or as before. -/
theorem known_zero {K : List (List Nat)} {L L' : List Sect} (h : Known K L) (hl : L'.length = 16) (hs : Secs L') (he : ∀ j, j < 16 → L'[j]? = L[j]? ∨ L'[j]? = some zs) : Known K L' := by
  refine ⟨hl, hs, fun i hi hok hpos => ?_⟩
  have hh : halfL L' i = halfL L i := List.ext_getElem? fun j => by
    rcases Nat.lt_or_ge j 8 with hj | hj
    · rcases he (8 * i + j) (by omega) with h1 | h1
      · rw [half_get hj, half_get hj, h1]
      · exfalso
        have hm : zs ∈ halfL L' i := List.mem_of_getElem? (i := j) (by rw [half_get hj]; exact h1)
        have := hok.1 zs hm
        rw [zs_num] at this
        omega
    · rw [List.getElem?_eq_none (by rw [half_len hl hi]; exact hj), List.getElem?_eq_none (by rw [half_len h.1 hi]; exact hj)]
  rw [hh] at hok hpos ⊢
  exact h.2.2 i hi hok hpos
/-- Sectors that are zero, or those of one copy. -/
theorem known_copy {L' : List Sect} {p : List Nat} {b : Nat} (_hb : b ≤ 1) (hp : p.length ≤ 31) (hl : L'.length = 16) (hs : Secs L') (he : ∀ i j, i ≤ 1 → j < 8 → (halfL L' i)[j]? = some zs ∨ (i = b ∧ (halfL L' i)[j]? = (secsN 1 8 (conL p))[j]?)) : Known [p] L' := by
  refine ⟨hl, hs, fun i hi hok hpos => ?_⟩
  have hnz : ∀ j, j < 8 → ¬ ((halfL L' i)[j]? = some zs) := fun j hj h1 => by
    have := hok.1 zs (List.mem_of_getElem? h1)
    rw [zs_num] at this
    omega
  have hh : halfL L' i = secsN 1 8 (conL p) := List.ext_getElem? fun j => by
    rcases Nat.lt_or_ge j 8 with hj | hj
    · rcases he i j hi hj with h1 | h1
      · exact absurd h1 (hnz j hj)
      · exact h1.2
    · rw [List.getElem?_eq_none (by rw [half_len hl hi]; exact hj), List.getElem?_eq_none (by rw [secsN_len]; exact hj)]
  rw [hh, secsN_dat 1 8 _ (conL_len hp), payL_conL]
  exact List.mem_singleton.2 rfl
/-- Behind a step on a new superblock. -/
theorem known_step {st st' : List Sect} {p q : List Nat} {P : Prop} (hl : 21 ≤ st.length) (hB : Begun [] p st) (hq : q.length ≤ 31) (hL : Left st 13 (secsN 2 8 (conL q)) st' P) : Known [p, q] (supL st') := by
  have hl' : 21 ≤ st'.length := by rw [hL.len]; exact hl
  have hln := supL_len hl'
  have hS := secsN_len 2 8 (conL q)
  have hout := hL.out
  have heach := hL.each
  rw [hS] at hout heach
  refine ⟨hln, secs_mid hL.secs _ _, fun i hi hok hpos => ?_⟩
  obtain rfl | rfl : i = 0 ∨ i = 1 := by omega
  · have hh : halfL (supL st') 0 = secsN 1 8 (conL p) := by
      rw [← hB.good.half]
      refine List.ext_getElem? fun j => ?_
      rcases Nat.lt_or_ge j 8 with hj | hj
      · rw [half_sup (by omega) hj, half_sup (by omega) hj]
        exact hout _ (by omega)
      · rw [List.getElem?_eq_none (by rw [half_len hln (by omega)]; exact hj), List.getElem?_eq_none (by rw [half_len (supL_len hl) (by omega)]; exact hj)]
    rw [hh, secsN_dat 1 8 _ (conL_len hB.good.plen), payL_conL]
    exact List.mem_cons_self ..
  · have hnz : ∀ j, j < 8 → ¬ ((halfL (supL st') 1)[j]? = some zs) := fun j hj h1 => by
      have := hok.1 zs (List.mem_of_getElem? h1)
      rw [zs_num] at this
      omega
    have hh : halfL (supL st') 1 = secsN 2 8 (conL q) := List.ext_getElem? fun j => by
      rcases Nat.lt_or_ge j 8 with hj | hj
      · have h1 := heach j hj
        have h2 := hnz j hj
        rw [half_sup (by omega) hj, show 5 + 8 * 1 + j = 13 + j by omega] at h2 ⊢
        rcases h1 with h1 | h1
        · exact absurd (h1.trans (hB.zero j hj)) h2
        · exact h1
      · rw [List.getElem?_eq_none (by rw [half_len hln (by omega)]; exact hj), List.getElem?_eq_none (by rw [secsN_len]; exact hj)]
    rw [hh, secsN_dat 2 8 _ (conL_len hq), payL_conL]
    exact List.mem_cons_of_mem _ (List.mem_cons_self ..)
/-- What an interrupted Format leaves. -/
theorem fmt_inter {st : List Sect} {p : List Nat} {K : List (List Nat)} {ops : List OpT} (hs : Secs st) (hl : 21 ≤ st.length) (hl2 : st.length ≤ 4096) (hp : p.length ≤ 31) (hp8 : B8 p) (hK : Known K (supL st)) (ho : ops.map opC = repC 5 (List.replicate 16 zs) ++ repC 5 (secsN 1 8 (conL p))) (k : Nat) (hk : k ≤ 4) (ch : List Int) :
    ∃ st' ch', interS st [] ops (k : Int) ch = (0, st', [], ch') ∧ st'.length = st.length ∧ (k < 2 → Known K (supL st')) ∧ (2 ≤ k → Known [p] (supL st')) ∧ (k = 4 → Good (supL st') 0 p 1) := by
  obtain ⟨Z, hZ⟩ : ∃ z, List.replicate 16 zs = z := ⟨_, rfl⟩
  obtain ⟨S, hS⟩ : ∃ z, secsN 1 8 (conL p) = z := ⟨_, rfl⟩
  have hZl : Z.length = 16 := by rw [← hZ]; rfl
  have hSl : S.length = 8 := by rw [← hS]; exact secsN_len _ 8 _
  have hZS : Secs Z := hZ ▸ rep_secs 16
  have hSS : Secs S := hS ▸ secsN_secs _ 8 _ (conL_b8 hp hp8) (by rw [conL_len hp])
  rw [hZ, hS] at ho
  have hlen : ops.length = 4 := by have := congrArg List.length ho; rw [List.length_map] at this; exact this
  have hrun : runS st [] (ops.take (k : Int).toNat) = runC st [] ((repC 5 Z ++ repC 5 S).take k) := by rw [runS_C, List.map_take, ho, Int.toNat_natCast]
  have hbz : 5 + Z.length ≤ st.length := by omega
  obtain ⟨s1, hs1⟩ : ∃ z, newL st (putL ((5 : Nat) : Int) Z) = z := ⟨_, rfl⟩
  have h1 := left_new (st := st) (b := 5) hs hZS hbz True
  rw [hs1] at h1
  have hbs : 5 + S.length ≤ s1.length := by rw [h1.len]; omega
  have hl1 : 21 ≤ s1.length := by rw [h1.len]; exact hl
  have hl12 : s1.length ≤ 4096 := by rw [h1.len]; exact hl2
  obtain ⟨s2, hs2⟩ : ∃ z, newL s1 (putL ((5 : Nat) : Int) S) = z := ⟨_, rfl⟩
  have h2 := left_new (st := s1) (b := 5) h1.secs hSS hbs True
  rw [hs2] at h2
  have hZg : ∀ j, j < 16 → Z[j]? = some zs := fun j hj => by rw [← hZ, List.getElem?_replicate, if_pos hj]
  have hz1 : ∀ j, j < 16 → s1[5 + j]? = some zs := fun j hj => by
    rw [h1.all trivial j (by omega)]
    exact hZg j hj
  have hcopy : ∀ {P : Prop} {s' : List Sect}, Left s1 5 S s' P → Known [p] (supL s') := fun {P s'} hL => by
    have hl' : 21 ≤ s'.length := by rw [hL.len]; exact hl1
    refine known_copy (b := 0) (by omega) hp (supL_len hl') (secs_mid hL.secs _ _) (fun i j hi hj => ?_)
    rw [half_sup hi hj]
    obtain rfl | rfl : i = 0 ∨ i = 1 := by omega
    · rcases hL.each j (by omega) with h3 | h3
      · left
        rw [show 5 + 8 * 0 + j = 5 + j by omega, h3]
        exact hz1 j (by omega)
      · right
        rw [show 5 + 8 * 0 + j = 5 + j by omega, h3, hS]
        exact ⟨rfl, rfl⟩
    · left
      rw [hL.out _ (by omega), show 5 + 8 * 1 + j = 5 + (8 + j) by omega]
      exact hz1 _ (by omega)
  unfold interS
  rw [if_neg (by omega), hrun]
  obtain rfl | rfl | rfl | rfl | rfl : k = 0 ∨ k = 1 ∨ k = 2 ∨ k = 3 ∨ k = 4 := by omega
  · have e : runC st [] ((repC 5 Z ++ repC 5 S).take 0) = (0, 0, st, []) := by unfold runC runS; rw [if_pos (chk_nil hl2)]; rfl
    rw [e, if_neg (by simp)]
    refine ⟨st, ch, ?_, rfl, fun _ => hK, fun h => absurd h (by decide), fun h => absurd h (by decide)⟩
    show (0, crashS st [] ch) = _
    rw [crash_synced st ch hl2]
  · have e : runC st [] ((repC 5 Z ++ repC 5 S).take 1) = (1, 0, st, putL ((5 : Nat) : Int) Z) := run_rep1 hl2 hbz
    rw [e, if_neg (by simp)]
    obtain ⟨ch', hc⟩ := crashS_put hl2 hbz ch
    have hL := left_crash (b := 5) hs hZS ch
    refine ⟨_, ch', ?_, hL.len, fun _ => ?_, fun h => absurd h (by decide), fun h => absurd h (by decide)⟩
    · show (0, crashS st (putL ((5 : Nat) : Int) Z) ch) = _
      rw [hc]
    · refine known_zero hK (supL_len (by rw [hL.len]; exact hl)) (secs_mid hL.secs _ _) (fun j hj => ?_)
      rw [supL_get hj, supL_get hj]
      rcases hL.each j (by omega) with h3 | h3
      · exact .inl h3
      · right; rw [h3]; exact hZg j hj
  · have e : runC st [] ((repC 5 Z ++ repC 5 S).take 2) = (2, 0, s1, []) := hs1 ▸ run_rep hl2 hbz
    rw [e, if_neg (by simp)]
    refine ⟨s1, ch, ?_, h1.len, fun h => absurd h (by decide), fun _ => hcopy (left_old h1.secs), fun h => absurd h (by decide)⟩
    show (0, crashS s1 [] ch) = _
    rw [crash_synced s1 ch hl12]
  · have e : runC st [] ((repC 5 Z ++ repC 5 S).take 3) = (3, 0, s1, putL ((5 : Nat) : Int) S) := by
      unfold runC runS
      rw [if_pos (chk_nil hl2)]
      show exec st [] [mkO (0, ((5 : Nat) : Int), Z), mkO (1, 0, []), mkO (0, ((5 : Nat) : Int), S)] 0 = _
      rw [exec_put rfl (insB_ok hbz), List.nil_append, exec_sync rfl]
      show exec (newL st (putL ((5 : Nat) : Int) Z)) [] [mkO (0, ((5 : Nat) : Int), S)] 2 = _
      rw [hs1, exec_put rfl (insB_ok hbs), List.nil_append]
      rfl
    rw [e, if_neg (by simp)]
    obtain ⟨ch', hc⟩ := crashS_put hl12 hbs ch
    have hL := left_crash (b := 5) h1.secs hSS ch
    refine ⟨_, ch', ?_, hL.len.trans h1.len, fun h => absurd h (by decide), fun _ => hcopy hL, fun h => absurd h (by decide)⟩
    show (0, crashS s1 (putL ((5 : Nat) : Int) S) ch) = _
    rw [hc]
  · have e : runC st [] ((repC 5 Z ++ repC 5 S).take 4) = (4, 0, s2, []) := by
      have h := run_fmt (S := S) (Z := Z) hl2 hbz (by omega)
      rw [hs1, hs2] at h
      exact h
    rw [e, if_neg (by simp)]
    have hl22 : s2.length ≤ 4096 := by rw [h2.len]; exact hl12
    have hl2' : 21 ≤ s2.length := by rw [h2.len]; exact hl1
    refine ⟨s2, ch, ?_, h2.len.trans h1.len, fun h => absurd h (by decide), fun _ => hcopy h2, fun _ => ?_⟩
    · show (0, crashS s2 [] ch) = _
      rw [crash_synced s2 ch hl22]
    · have hln := supL_len hl2'
      refine ⟨hln, secs_mid h2.secs _ _, by omega, hp, hp8, by omega, by omega, ?_, fun hok => ?_⟩
      · rw [hS]
        refine List.ext_getElem? fun j => ?_
        rcases Nat.lt_or_ge j 8 with hj | hj
        · rw [half_sup (by omega) hj]
          exact h2.all trivial j (by omega)
        · rw [List.getElem?_eq_none (by rw [half_len hln (by omega)]; exact hj), List.getElem?_eq_none (by omega)]
      · have hm := half_mem hln (i := 1) (by omega)
        obtain ⟨j, hj⟩ := List.mem_iff_getElem?.1 hm
        have hj8 : j < 8 := by
          have := (List.getElem?_eq_some_iff.1 hj).1
          rw [half_len hln (by omega)] at this
          exact this
        rw [half_sup (by omega) hj8, h2.out _ (by omega), show 5 + 8 * 1 + j = 5 + (8 + j) by omega, hz1 _ (by omega)] at hj
        injection hj with hj
        show num4 ((halfL (supL s2) 1).getD 0 []) < 1
        rw [← hj, zs_num]
        decide
end Go.Proofs.Ytnocgfhcamnjdaa
