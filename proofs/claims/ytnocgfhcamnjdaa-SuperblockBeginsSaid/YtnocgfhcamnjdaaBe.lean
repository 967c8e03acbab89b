/- Superblock on lists: a store that is run or interrupted. -/
import Derived.Test.YtnocgfhcamnjdaaBd
namespace Go.Proofs.Ytnocgfhcamnjdaa
open Go.RowKit Go.Lib

theorem fold_put (L : List Sect) (a : Nat) (data : List Sect) (i : Nat) (h : a + data.length ≤ L.length) : ((putL (a : Int) data).foldl (fun l x => l.set x.1.toNat x.2) L)[i]? = if a ≤ i ∧ i < a + data.length then data[i - a]? else L[i]? := by
  induction data generalizing L a with
  | nil =>
    rw [if_neg (by simp)]
    rfl
  | cons s r ih =>
    rw [List.length_cons] at h
    rw [putL, List.foldl_cons, show (a : Int) + 1 = ((a + 1 : Nat) : Int) by omega, ih _ _ (by rw [List.length_set]; omega)]
    dsimp only
    rw [Int.toNat_natCast, List.length_cons, List.getElem?_set]
    by_cases h1 : a + 1 ≤ i ∧ i < a + 1 + r.length
    · rw [if_pos h1, if_pos (by omega)]
      rw [show i - a = (i - (a + 1)) + 1 by omega, List.getElem?_cons_succ]
    · rw [if_neg h1]
      by_cases h2 : a = i
      · subst h2
        rw [if_pos rfl, if_pos (by omega), if_pos (by omega), Nat.sub_self]
        rfl
      · rw [if_neg h2, if_neg (by omega)]
theorem newL_put (st : List Sect) (ca : List Ca) (a : Nat) (data : List Sect) (i : Nat) (h : a + data.length ≤ st.length) : (newL st (ca ++ putL (a : Int) data))[i]? = if a ≤ i ∧ i < a + data.length then data[i - a]? else (newL st ca)[i]? := by
  have e : newL st (ca ++ putL (a : Int) data) = (putL (a : Int) data).foldl (fun l x => l.set x.1.toNat x.2) (newL st ca) := by unfold newL; rw [List.foldl_append]
  rw [e, fold_put _ _ _ _ (by rw [newL_len]; exact h)]
theorem crs_len (ca : List Ca) (ks : List Int) (st : List Sect) (ch : List Int) : (crs ca ks st ch).1.length = st.length := by
  induction ks generalizing st ch with
  | nil => rfl
  | cons κ r ih =>
    rw [crs, ih]
    split
    · rw [List.length_set]
    · rfl
theorem gk_mem {ca : List Ca} {κ : Int} {s : Sect} (h : s ∈ G ca κ) : (κ, s) ∈ ca := by
  unfold G at h
  obtain ⟨x, hx, rfl⟩ := List.mem_map.1 h
  obtain ⟨h1, h2⟩ := List.mem_filter.1 hx
  rw [← of_decide_eq_true h2]
  exact h1
theorem crs_get (ca : List Ca) (ks : List Int) (st : List Sect) (ch : List Int) (i : Nat) (s : Sect) (hk : ∀ κ ∈ ks, 0 ≤ κ) (h : (crs ca ks st ch).1[i]? = some s) : st[i]? = some s ∨ ((i : Int), s) ∈ ca := by
  induction ks generalizing st ch with
  | nil => exact .inl h
  | cons κ r ih =>
    rw [crs] at h
    have h1 := ih _ _ (fun x hx => hk x (List.mem_cons_of_mem _ hx)) h
    rcases h1 with h1 | h1
    · split at h1
      · rename_i hd
        rw [List.getElem?_set] at h1
        split at h1
        · rename_i he
          split at h1
          · have hr := dec_range ch (n := ((G ca κ).length : Int) + 1) (by omega)
            obtain ⟨t, ht⟩ : ∃ t, (dec ch (((G ca κ).length : Int) + 1) - 1).toNat = t := ⟨_, rfl⟩
            have htl : t < (G ca κ).length := by omega
            rw [ht, List.getD_eq_getElem?_getD, List.getElem?_eq_getElem htl, Option.getD_some] at h1
            injection h1 with h1
            have hm : s ∈ G ca κ := by rw [← h1]; exact List.getElem_mem _
            have h0 := hk κ (List.mem_cons_self ..)
            have hm := gk_mem hm
            rw [show κ = (i : Int) by omega] at hm
            exact .inr hm
          · exact absurd h1 (by simp)
        · exact .inl h1
      · exact .inl h1
    · exact .inr h1
theorem keysL_nil (n : Nat) : keysL n [] = [] := by
  unfold keysL G
  simp
theorem crash_synced (st : List Sect) (ch : List Int) (h : st.length ≤ 4096) : crashS st [] ch = (st, [], ch) := by
  unfold crashS
  rw [keysL_nil]
  have : chkD st.length [] = 0 := by
    unfold chkD
    rw [if_neg (by omega)]
    rfl
  rw [if_pos this]
  rfl

theorem good_full {L L' : List Sect} {i : Nat} {p q : List Nat} {g u : Nat} (h : Good L i p g) (hq : q.length ≤ 31) (hq8 : B8 q) (hu : u = grt L + 1) (hul : u < 4294967296) (hl : L'.length = 16) (hs : Secs L')
    (hsame : halfL L' i = halfL L i) (hall : ∀ j, j < 8 → (halfL L' (1 - i))[j]? = (secsN u 8 (conL q))[j]?) : Good L' (1 - i) q u := by
  have hgu := good_grt h
  have hi := h.idx
  have hl1 : (halfL L' (1 - i)).length = 8 := half_len hl (by omega)
  have he : halfL L' (1 - i) = secsN u 8 (conL q) := List.ext_getElem? fun j => by
    rcases Nat.lt_or_ge j 8 with hj | hj
    · exact hall j hj
    · rw [List.getElem?_eq_none (by omega), List.getElem?_eq_none (by rw [secsN_len]; exact hj)]
  refine ⟨hl, hs, by omega, hq, hq8, by omega, hul, he, fun _ => ?_⟩
  have e : 1 - (1 - i) = i := by omega
  rw [e, hsame, h.half, (secsN_ok h.plen h.lt).2.1]
  omega
/-- The sectors of the superblock at 5. -/
def supL (st : List Sect) : List Sect := (st.drop 5).take 16
theorem supL_get {st : List Sect} {j : Nat} (h : j < 16) : (supL st)[j]? = st[5 + j]? := by
  unfold supL
  rw [List.getElem?_take, if_pos h, List.getElem?_drop]
theorem supL_len {st : List Sect} (h : 21 ≤ st.length) : (supL st).length = 16 := by
  unfold supL
  rw [List.length_take, List.length_drop]
  omega
theorem half_sup {st : List Sect} {i j : Nat} (hi : i ≤ 1) (hj : j < 8) : (halfL (supL st) i)[j]? = st[5 + 8 * i + j]? := by
  rw [half_get hj, supL_get (by omega)]
  congr 1
  omega
theorem chk_nil {n : Nat} (h : n ≤ 4096) : chkD n [] = 0 := by unfold chkD; rw [if_neg (by omega)]; rfl
theorem readE_5 {n : Nat} (h : 21 ≤ n) (h2 : n ≤ 4096) : readE n [] 5 16 = 0 := by
  unfold readE
  rw [chk_nil h2, if_neg (by decide)]
  have : insB n 5 16 = true := by unfold insB; simp; omega
  rw [this]
  rfl
theorem readL_5 {st : List Sect} (h : 21 ≤ st.length) (h2 : st.length ≤ 4096) : readL st [] 5 16 = supL st := by
  unfold readL
  rw [if_pos (readE_5 h h2)]
  rfl
theorem load_good {st : List Sect} {i : Nat} {p : List Nat} {g : Nat} (hl : 21 ≤ st.length) (hl2 : st.length ≤ 4096) (h : Good (supL st) i p g) : loadR st [] 5 = (0, p, g) := by
  unfold loadR
  rw [if_pos (readE_5 hl hl2), readL_5 hl hl2, good_new h, if_pos h.pos, payL_conL]
theorem store_good {st : List Sect} {i : Nat} {p q : List Nat} {g : Nat} (hl : 21 ≤ st.length) (hl2 : st.length ≤ 4096) (h : Good (supL st) i p g) (hq : q.length ≤ 31) (hg : grt (supL st) < 4294967295) : storE st [] 5 q = 0 ∧ storC st [] 5 q = repC ((5 + 8 * (1 - i) : Nat) : Int) (secsN (grt (supL st) + 1) 8 (conL q)) := by
  have e : storE st [] 5 q = 0 := by
    unfold storE
    rw [if_pos (readE_5 hl hl2), readL_5 hl hl2, good_new h, if_pos h.pos, if_neg (by omega), if_neg (by omega)]
  refine ⟨e, ?_⟩
  unfold storC
  rw [if_pos e, readL_5 hl hl2, good_new h]
  have hi := h.idx
  obtain hi | hi : i = 0 ∨ i = 1 := by omega
  · subst hi; rfl
  · subst hi; rfl
theorem put_at {a : Nat} {data : List Sect} {i : Nat} {s : Sect} (h : ((i : Int), s) ∈ putL (a : Int) data) : a ≤ i ∧ i < a + data.length ∧ data[i - a]? = some s := by
  induction data generalizing a with
  | nil => cases h
  | cons x r ih =>
    rw [putL] at h
    rcases List.mem_cons.1 h with h | h
    · injection h with h1 h2
      obtain rfl : i = a := by omega
      subst h2
      refine ⟨Nat.le_refl _, by rw [List.length_cons]; omega, ?_⟩
      rw [Nat.sub_self]
      rfl
    · rw [show (a : Int) + 1 = ((a + 1 : Nat) : Int) by omega] at h
      obtain ⟨h1, h2, h3⟩ := ih h
      refine ⟨by omega, by rw [List.length_cons]; omega, ?_⟩
      rw [show i - a = (i - (a + 1)) + 1 by omega, List.getElem?_cons_succ]
      exact h3
theorem put_keys {a : Nat} {n : Nat} {data : List Sect} : ∀ κ ∈ keysL n (putL (a : Int) data), 0 ≤ κ := fun κ hk => by
  unfold keysL at hk
  simp at hk
  omega
theorem insB_ok {n b m : Nat} (h : b + m ≤ n) : insB n (b : Int) (m : Int) = true := by unfold insB; simp; omega
theorem run_rep {st : List Sect} {b : Nat} {S : List Sect} (hl2 : st.length ≤ 4096) (hb : b + S.length ≤ st.length) : runC st [] (repC (b : Int) S) = (2, 0, newL st (putL (b : Int) S), []) := by
  unfold runC runS
  rw [if_pos (chk_nil hl2)]
  show exec st [] [mkO (0, (b : Int), S), mkO (1, 0, [])] 0 = _
  rw [exec_put rfl (insB_ok hb), List.nil_append, exec_sync rfl]
  rfl
theorem run_rep1 {st : List Sect} {b : Nat} {S : List Sect} (hl2 : st.length ≤ 4096) (hb : b + S.length ≤ st.length) : runC st [] [((0 : Int), (b : Int), S)] = (1, 0, st, putL (b : Int) S) := by
  unfold runC runS
  rw [if_pos (chk_nil hl2)]
  show exec st [] [mkO (0, (b : Int), S)] 0 = _
  rw [exec_put rfl (insB_ok hb), List.nil_append]
  rfl
theorem newL_get {st : List Sect} {b : Nat} {S : List Sect} (hb : b + S.length ≤ st.length) (i : Nat) : (newL st (putL (b : Int) S))[i]? = if b ≤ i ∧ i < b + S.length then S[i - b]? else st[i]? := by
  have h := newL_put st [] b S i hb
  rw [List.nil_append] at h
  exact h
theorem secs_get {l : List Sect} (h : ∀ (j : Nat) (s : Sect), l[j]? = some s → s.length = 8 ∧ B8 s) : Secs l := fun s hs => by
  obtain ⟨j, hj⟩ := List.mem_iff_getElem?.1 hs
  exact h j s hj
/-- What a store of S at b leaves, whatever happens. -/
structure Left (st : List Sect) (b : Nat) (S : List Sect) (st' : List Sect) (full : Prop) : Prop where
  len : st'.length = st.length
  secs : Secs st'
  out : ∀ j, ¬ (b ≤ j ∧ j < b + S.length) → st'[j]? = st[j]?
  each : ∀ j, j < S.length → st'[b + j]? = st[b + j]? ∨ st'[b + j]? = S[j]?
  all : full → ∀ j, j < S.length → st'[b + j]? = S[j]?
theorem left_new {st : List Sect} {b : Nat} {S : List Sect} (hs : Secs st) (hS : Secs S) (hb : b + S.length ≤ st.length) (P : Prop) : Left st b S (newL st (putL (b : Int) S)) P := by
  refine ⟨newL_len _ _, secs_get (fun j s h => ?_), fun j hj => ?_, fun j hj => .inr ?_, fun _ j hj => ?_⟩
  · rw [newL_get hb] at h
    split at h
    · exact hS s (List.mem_of_getElem? h)
    · exact hs s (List.mem_of_getElem? h)
  · rw [newL_get hb, if_neg hj]
  · rw [newL_get hb, if_pos ⟨by omega, by omega⟩, show b + j - b = j by omega]
  · rw [newL_get hb, if_pos ⟨by omega, by omega⟩, show b + j - b = j by omega]
theorem left_old {st : List Sect} {b : Nat} {S : List Sect} (hs : Secs st) : Left st b S st False := ⟨rfl, hs, fun _ _ => rfl, fun _ _ => .inl rfl, fun h => h.elim⟩
theorem left_crash {st : List Sect} {b : Nat} {S : List Sect} (hs : Secs st) (hS : Secs S) (ch : List Int) : Left st b S (crs (putL (b : Int) S) (keysL st.length (putL (b : Int) S)) st ch).1 False := by
  have hl := crs_len (putL (b : Int) S) (keysL st.length (putL (b : Int) S)) st ch
  have hg := fun i s => crs_get (putL (b : Int) S) (keysL st.length (putL (b : Int) S)) st ch i s put_keys
  obtain ⟨st', hst⟩ : ∃ x, (crs (putL (b : Int) S) (keysL st.length (putL (b : Int) S)) st ch).1 = x := ⟨_, rfl⟩
  rw [hst] at hl hg ⊢
  refine ⟨hl, secs_get (fun j s h => ?_), fun j hj => ?_, fun j hj => ?_, fun h => h.elim⟩
  · rcases hg j s h with h1 | h1
    · exact hs s (List.mem_of_getElem? h1)
    · exact hS s (List.mem_of_getElem? (put_at h1).2.2)
  · rcases Nat.lt_or_ge j st.length with hjl | hjl
    · obtain ⟨s, hs'⟩ : ∃ s, st'[j]? = some s := ⟨st'[j]'(by omega), List.getElem?_eq_getElem _⟩
      rcases hg j s hs' with h1 | h1
      · rw [hs', h1]
      · exact absurd ⟨(put_at h1).1, (put_at h1).2.1⟩ hj
    · rw [List.getElem?_eq_none (by omega), List.getElem?_eq_none hjl]
  · rcases Nat.lt_or_ge (b + j) st.length with hjl | hjl
    · obtain ⟨s, hs'⟩ : ∃ s, st'[b + j]? = some s := ⟨st'[b + j]'(by omega), List.getElem?_eq_getElem _⟩
      rcases hg (b + j) s hs' with h1 | h1
      · left; rw [hs', h1]
      · right
        have := (put_at h1).2.2
        rw [show b + j - b = j by omega] at this
        rw [hs', this]
    · left
      rw [List.getElem?_eq_none (by omega), List.getElem?_eq_none hjl]
theorem crashS_put {st : List Sect} {b : Nat} {S : List Sect} (hl2 : st.length ≤ 4096) (hb : b + S.length ≤ st.length) (ch : List Int) : ∃ ch', crashS st (putL (b : Int) S) ch = ((crs (putL (b : Int) S) (keysL st.length (putL (b : Int) S)) st ch).1, [], ch') := by
  refine ⟨(crs (putL (b : Int) S) (keysL st.length (putL (b : Int) S)) st ch).2, ?_⟩
  unfold crashS
  have h : chkD st.length (putL (b : Int) S) = 0 := by
    unfold chkD
    rw [if_neg (by omega)]
    exact chkC_put (insB_ok hb)
  rw [if_pos h]
/-- A store that is interrupted behind k operations. -/
theorem inter_rep {st : List Sect} {b : Nat} {S : List Sect} {ops : List OpT} (hs : Secs st) (hS : Secs S) (hl2 : st.length ≤ 4096) (hb : b + S.length ≤ st.length) (ho : ops.map opC = repC (b : Int) S) (k : Nat) (hk : k ≤ 2) (ch : List Int) : ∃ st' ch', interS st [] ops (k : Int) ch = (0, st', [], ch') ∧ Left st b S st' (k = 2) ∧ ch'.length ≤ ch.length := by
  have hlen : ops.length = 2 := by have := congrArg List.length ho; rw [List.length_map] at this; exact this
  have hrun : runS st [] (ops.take (k : Int).toNat) = runC st [] ((repC (b : Int) S).take k) := by rw [runS_C, List.map_take, ho, Int.toNat_natCast]
  unfold interS
  rw [if_neg (by omega), hrun]
  obtain rfl | rfl | rfl : k = 0 ∨ k = 1 ∨ k = 2 := by omega
  · have e : runC st [] ((repC (b : Int) S).take 0) = (0, 0, st, []) := by unfold runC runS; rw [if_pos (chk_nil hl2)]; rfl
    rw [e, if_neg (by simp)]
    refine ⟨st, ch, ?_, ?_, Nat.le_refl _⟩
    · rw [crash_synced st ch hl2]
    · have h := left_old (b := b) (S := S) hs
      exact ⟨h.len, h.secs, h.out, h.each, fun h0 => absurd h0 (by decide)⟩
  · have e : runC st [] ((repC (b : Int) S).take 1) = (1, 0, st, putL (b : Int) S) := run_rep1 hl2 hb
    rw [e, if_neg (by simp)]
    obtain ⟨ch', hc⟩ := crashS_put hl2 hb ch
    refine ⟨(crs (putL (b : Int) S) (keysL st.length (putL (b : Int) S)) st ch).1, ch', ?_, ?_, ?_⟩
    · show (0, crashS st (putL (b : Int) S) ch) = _
      rw [hc]
    · have h := left_crash hs hS (b := b) ch
      exact ⟨h.len, h.secs, h.out, h.each, fun h0 => absurd h0 (by decide)⟩
    · have : ch' = (crashS st (putL (b : Int) S) ch).2.2 := by rw [hc]
      rw [this]
      unfold crashS
      split
      · rw [crs_ch, List.length_drop]; omega
      · exact Nat.le_refl _
  · have e : runC st [] ((repC (b : Int) S).take 2) = (2, 0, newL st (putL (b : Int) S), []) := run_rep hl2 hb
    rw [e, if_neg (by simp)]
    refine ⟨newL st (putL (b : Int) S), ch, ?_, left_new hs hS hb _, Nat.le_refl _⟩
    show (0, crashS (newL st (putL (b : Int) S)) [] ch) = _
    rw [crash_synced _ ch (by rw [newL_len]; exact hl2)]
/-- What a step leaves. -/
theorem step_good {st st' : List Sect} {i : Nat} {p q : List Nat} {g : Nat} {full : Prop} (hl : 21 ≤ st.length) (h : Good (supL st) i p g) (hq : q.length ≤ 31) (hq8 : B8 q) (hg : grt (supL st) < 4294967295)
    (hL : Left st (5 + 8 * (1 - i)) (secsN (grt (supL st) + 1) 8 (conL q)) st' full) : grt (supL st') ≤ grt (supL st) + 1 ∧ ∃ i' p' g', Good (supL st') i' p' g' ∧ ((p' = p ∧ g' = g ∧ ¬ full) ∨ (p' = q ∧ g < g')) := by
  have hi := h.idx
  have hS := secsN_len (grt (supL st) + 1) 8 (conL q)
  have hln := supL_len hl
  have hl' : 21 ≤ st'.length := by rw [hL.len]; exact hl
  have hout := hL.out
  have heach := hL.each
  have hall := hL.all
  rw [hS] at hout heach hall
  have hsame : halfL (supL st') i = halfL (supL st) i := List.ext_getElem? fun j => by
    rcases Nat.lt_or_ge j 8 with hj | hj
    · rw [half_sup hi hj, half_sup hi hj]
      exact hout _ (by omega)
    · rw [List.getElem?_eq_none (by rw [half_len (supL_len hl') hi]; exact hj), List.getElem?_eq_none (by rw [half_len hln hi]; exact hj)]
  have hss : Secs (supL st') := secs_mid hL.secs _ _
  have hgu := good_grt h
  refine ⟨grt_le (fun s hs => ?_), ?_⟩
  · obtain ⟨j, hj⟩ := List.mem_iff_getElem?.1 hs
    have hj16 : j < 16 := by
      have := (List.getElem?_eq_some_iff.1 hj).1
      rw [supL_len hl'] at this
      exact this
    rw [supL_get hj16] at hj
    have hold : ∀ s, st[5 + j]? = some s → num4 s ≤ grt (supL st) + 1 := fun s h => by
      have := grt_ge (L := supL st) (List.mem_of_getElem? (by rw [supL_get hj16]; exact h))
      omega
    by_cases hin : 5 + 8 * (1 - i) ≤ 5 + j ∧ 5 + j < 5 + 8 * (1 - i) + 8
    · have h2 := heach (j - 8 * (1 - i)) (by omega)
      rw [show 5 + 8 * (1 - i) + (j - 8 * (1 - i)) = 5 + j by omega] at h2
      rcases h2 with h2 | h2
      · exact hold s (h2.symm.trans hj)
      · have h3 := h2.symm.trans hj
        rw [secsN_num (by omega) 8 _ s (List.mem_of_getElem? h3)]
        exact Nat.le_refl _
    · exact hold s ((hout _ hin).symm.trans hj)
  · by_cases hf : full
    · have hG := good_full h hq hq8 rfl (by omega) (supL_len hl') hss hsame (fun j hj => by
        rw [half_sup (by omega) hj]
        exact hall hf j hj)
      exact ⟨_, _, _, hG, .inr ⟨rfl, by omega⟩⟩
    · rcases good_torn h hq hq8 rfl (by omega) (supL_len hl') hss hsame (fun j hj => by
        rw [half_sup (by omega) hj, half_sup (by omega) hj]
        exact heach j hj) with hG | hG
      · exact ⟨_, _, _, hG, .inl ⟨rfl, rfl, hf⟩⟩
      · exact ⟨_, _, _, hG, .inr ⟨rfl, by omega⟩⟩
end Go.Proofs.Ytnocgfhcamnjdaa
