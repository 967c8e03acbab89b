/- Links in order, on lists: sending keeps the order; runs. -/
import Derived.Test.YtacpejoablcffaaP
namespace Go.Proofs.Ytacpejoablcffaa
open Go.RowKit Go.Lib

def nums (l : List Fc) : List Int := l.map fun x => x.2.1
/-- A link in order. -/
structure OkL (s : Lk) (l : List Fc) : Prop where
  cfg : 0 ≤ s.mn ∧ s.mn ≤ s.mx ∧ s.mx ≤ 1073741824 ∧ 0 ≤ s.rt ∧ s.rt ≤ 65536
  idle : 0 ≤ s.idle ∧ s.idle ≤ 1073741824
  next : 0 ≤ s.next ∧ s.next ≤ 1073741824
  len : l.length ≤ 4096
  down : s.dn = true → l = []
  fld : ∀ e ∈ l, 0 ≤ e.1 ∧ e.1 ≤ 1073741824 ∧ 0 ≤ e.2.1 ∧ e.2.1 < s.next ∧ e.2.2.length ≤ 65536
  ord : l.Pairwise ltE
  nod : (nums l).Nodup
theorem fldC_iff {e : Fc} {next : Int} : fldC e next = 0 ↔ 0 ≤ e.1 ∧ e.1 ≤ 1073741824 ∧ 0 ≤ e.2.1 ∧ e.2.1 < next ∧ e.2.2.length ≤ 65536 := by
  refine ⟨fldC_ok, fun h => ?_⟩
  unfold fldC fldI timeB
  rw [if_neg (by simp; omega), if_neg (by omega), if_neg (by omega)]
theorem seenE_false {pre : List Fc} {n : Int} : seenE pre n = false ↔ n ∉ nums pre := by
  unfold seenE nums
  rw [List.any_eq_false]
  simp only [decide_eq_true_eq, List.mem_map, not_exists, not_and]
theorem cmpE_of {a b : Fc} (h : ltE b a) : badE a b = false := by
  unfold badE
  apply decide_eq_false
  unfold ltE at h
  unfold cmpE orI cmpI
  by_cases h1 : a.1 < b.1
  · omega
  · by_cases h2 : b.1 < a.1
    · simp [h1, h2]
    · have e : b.1 = a.1 := by omega
      have h3 : ¬ a.2.1 < b.2.1 := by omega
      have h4 : b.2.1 < a.2.1 := by omega
      simp [h1, h2, h3, h4]
theorem chkR_zero (next : Int) : ∀ (r pre : List Fc), (∀ e ∈ r, fldC e next = 0) → (pre ++ r).Pairwise ltE → (nums (pre ++ r)).Nodup → chkR next pre r = 0 := by
  intro r
  induction r with
  | nil => intro pre _ _ _; rfl
  | cons e r ih =>
    intro pre h1 h2 h3
    have hp : prevE pre e = false := by
      rcases hl : pre.getLast? with _ | q
      · unfold prevE; rw [hl]
      · rw [prevE_some hl]
        refine cmpE_of ?_
        have hq : q ∈ pre := List.mem_of_getLast? hl
        exact (List.pairwise_append.1 h2).2.2 q hq e (List.mem_cons_self ..)
    have hs : seenE pre e.2.1 = false := by
      rw [seenE_false]
      intro hm
      unfold nums at h3 hm
      rw [List.map_append, List.map_cons] at h3
      exact (List.nodup_append.1 h3).2.2 _ hm _ (List.mem_cons_self ..) rfl
    rw [chk_step (h1 e (List.mem_cons_self ..)) hp hs]
    exact ih _ (fun x hx => h1 x (List.mem_cons_of_mem _ hx)) (by simpa using h2) (by simpa using h3)
theorem chkR_nod (next : Int) : ∀ (r pre : List Fc), (nums pre).Nodup → chkR next pre r = 0 → (nums (pre ++ r)).Nodup := by
  intro r
  induction r with
  | nil => intro pre h _; simpa using h
  | cons e r ih =>
    intro pre hp h
    rw [chkR_cons] at h
    split at h
    · rename_i h0; exact absurd h h0
    · split at h
      · omega
      · split at h
        · omega
        · rename_i _ _ h2
          have h2' : seenE pre e.2.1 = false := by revert h2; cases seenE pre e.2.1 <;> simp
          rw [seenE_false] at h2'
          have := ih (pre ++ [e]) (by
            unfold nums at hp h2' ⊢
            rw [List.map_append, List.nodup_append]
            refine ⟨hp, by simp, fun a ha b hb => ?_⟩
            simp at hb
            subst hb
            intro e'
            subst e'
            exact h2' ha) h
          simpa using this
theorem chk_iff (s : Lk) (l : List Fc) : chk s l = 0 ↔ OkL s l := by
  constructor
  · intro h
    obtain ⟨h1, h2, h3, h4, h5, h6, h7, h8, h9⟩ := chk_ok h
    refine ⟨h1, ⟨h2, h3⟩, ⟨h4, h5⟩, h6, h7, fun e he => fldC_iff.1 (h8 e he), h9, ?_⟩
    have hr : chkR s.next [] l = 0 := by
      unfold chk at h
      split at h
      · omega
      · split at h
        · omega
        · split at h
          · omega
          · split at h
            · omega
            · split at h
              · omega
              · exact h
    have := chkR_nod s.next l [] (by unfold nums; simp) hr
    simpa using this
  · intro h
    unfold chk
    rw [if_neg (by unfold cfgB; rw [decide_eq_true h.cfg]; simp), if_neg (by unfold timeB; rw [decide_eq_true h.idle]; simp), if_neg (by have := h.next; omega), if_neg (by have := h.len; omega), if_neg]
    · exact chkR_zero _ _ _ (fun e he => fldC_iff.2 (h.fld e he)) (by simpa using h.ord) (by simpa using h.nod)
    · rintro ⟨h1, h2⟩
      rw [h.down h1] at h2
      exact absurd h2 (by simp)
/-- Where a flight stands among flights in order. -/
theorem unt_lt {l : List Fc} {t : Int} : ∀ {i : Nat} {x : Fc}, i < unt l t → l[i]? = some x → x.1 ≤ t := by
  induction l with
  | nil => intro i x h _; exact absurd h (by simp [unt])
  | cons e r ih =>
    intro i x h hx
    unfold unt at h
    split at h
    · omega
    · rename_i ht
      rcases i with _ | i
      · simp at hx; subst hx; omega
      · exact ih (i := i) (by omega) (by simpa using hx)
theorem unt_ge {l : List Fc} {t : Int} (ho : l.Pairwise ltE) : ∀ {i : Nat} {x : Fc}, unt l t ≤ i → l[i]? = some x → t < x.1 := by
  induction l with
  | nil => intro i x _ h; simp at h
  | cons e r ih =>
    intro i x h hx
    have hr := List.pairwise_cons.1 ho
    unfold unt at h
    split at h
    · rename_i ht
      rcases i with _ | i
      · simp at hx; subst hx; exact ht
      · have := hr.1 x (List.mem_of_getElem? (by simpa using hx : r[i]? = some x))
        unfold ltE at this
        omega
    · rcases i with _ | i
      · omega
      · exact ih hr.2 (i := i) (by omega) (by simpa using hx)
theorem insF_perm (l : List Fc) (f : Fc) : (insF l f).Perm (f :: l) := by
  unfold insF
  rw [List.append_assoc, List.singleton_append]
  refine List.perm_middle.trans ?_
  rw [List.take_append_drop]
theorem take_mem {l : List Fc} {t : Int} {x : Fc} (h : x ∈ l.take (unt l t)) : x.1 ≤ t := by
  obtain ⟨i, hi⟩ := List.getElem?_of_mem h
  rw [List.getElem?_take] at hi
  split at hi
  · exact unt_lt ‹_› hi
  · cases hi
theorem drop_mem {l : List Fc} {t : Int} {x : Fc} (ho : l.Pairwise ltE) (h : x ∈ l.drop (unt l t)) : t < x.1 := by
  obtain ⟨i, hi⟩ := List.getElem?_of_mem h
  rw [List.getElem?_drop] at hi
  exact unt_ge ho (Nat.le_add_right _ _) hi
theorem insF_ord {l : List Fc} {f : Fc} (ho : l.Pairwise ltE) (hn : ∀ x ∈ l, x.2.1 < f.2.1) : (insF l f).Pairwise ltE := by
  unfold insF
  have h1 : (l.take (unt l f.1)).Pairwise ltE := ho.sublist (List.take_sublist _ _)
  have h2 : (l.drop (unt l f.1)).Pairwise ltE := ho.sublist (List.drop_sublist _ _)
  rw [List.append_assoc, List.singleton_append, List.pairwise_append]
  refine ⟨h1, List.pairwise_cons.2 ⟨fun x hx => .inl (drop_mem ho hx), h2⟩, fun a ha b hb => ?_⟩
  have ha1 := take_mem ha
  rcases List.mem_cons.1 hb with rfl | hb
  · have := hn a (List.mem_of_mem_take ha)
    unfold ltE
    omega
  · have := drop_mem ho hb
    unfold ltE
    omega
/-- Sending keeps a link in order. -/
theorem lau_ok {s : Lk} {l : List Fc} (h : OkL s l) (hd : s.dn = false) (idle : Int) (p : List Nat) (hp : p.length ≤ 65536) (ds : List Int) (hi : 0 ≤ idle ∧ idle ≤ 1073741824) (hr : ∀ d ∈ ds, 0 ≤ d ∧ idle + d ≤ 1073741824)
    (hn : s.next + ds.length ≤ 1073741824) (hl : l.length + ds.length ≤ 4096) : OkL ⟨s.mn, s.mx, s.rt, s.dn, idle, s.next + ds.length⟩ (lau idle p ds s.next l) := by
  induction ds generalizing s l with
  | nil =>
    refine ⟨h.cfg, hi, by have := h.next; simpa using this, h.len, fun hh => by (dsimp only at hh; rw [hd] at hh; cases hh), fun e he => by have := h.fld e he; simpa using this, h.ord, h.nod⟩
  | cons d ds ih =>
    have hlen : ((d :: ds).length : Int) = ds.length + 1 := by simp
    have hln : (d :: ds).length = ds.length + 1 := rfl
    obtain ⟨hd0, hd1⟩ := hr d (List.mem_cons_self ..)
    have h2 : OkL ⟨s.mn, s.mx, s.rt, s.dn, s.idle, s.next + 1⟩ (insF l (idle + d, s.next, p)) := by
      refine ⟨h.cfg, h.idle, by have := h.next; dsimp only; omega, by rw [insF_len]; omega, fun hh => by (dsimp only at hh; rw [hd] at hh; cases hh), fun e he => ?_, insF_ord h.ord (fun x hx => (h.fld x hx).2.2.2.1), ?_⟩
      · have he' := (insF_perm l (idle + d, s.next, p)).mem_iff.1 he
        rcases List.mem_cons.1 he' with rfl | he'
        · have := h.next
          dsimp only
          omega
        · have := h.fld e he'
          dsimp only
          omega
      · have hpm : (nums (insF l (idle + d, s.next, p))).Perm (nums ((idle + d, s.next, p) :: l)) := (insF_perm l _).map _
        rw [hpm.nodup_iff]
        unfold nums
        rw [List.map_cons, List.nodup_cons]
        refine ⟨fun hm => ?_, h.nod⟩
        obtain ⟨x, hx, he⟩ := List.mem_map.1 hm
        have := (h.fld x hx).2.2.2.1
        dsimp only at he
        omega
    have h3 := ih (s := ⟨s.mn, s.mx, s.rt, s.dn, s.idle, s.next + 1⟩) h2 hd (fun x hx => hr x (List.mem_cons_of_mem _ hx)) (by dsimp only; omega) (by rw [insF_len]; omega)
    dsimp only at h3
    rw [show s.next + 1 + (ds.length : Int) = s.next + ((d :: ds).length : Int) by omega] at h3
    exact h3
end Go.Proofs.Ytacpejoablcffaa
