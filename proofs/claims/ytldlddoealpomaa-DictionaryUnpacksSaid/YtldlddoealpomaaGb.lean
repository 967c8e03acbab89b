/- Run-length encoding as functions on lists: groups, the encoding, ranges, decoding. -/
import Derived.Test.YtldlddoealpomaaB
namespace Go.Proofs.Ytldlddoealpomaa.Rl

abbrev Sect := List Nat
def zs : Sect := [0, 0, 0, 0, 0, 0, 0, 0]
/-- How many sectors at the head are equal to a. -/
def eqs (a : Sect) : List Sect → Nat
  | [] => 0
  | b :: t => if b = a then eqs a t + 1 else 0
/-- The first sector is neither zero nor equal to the next. -/
def sgl : List Sect → Bool
  | [] => false
  | [a] => decide (a ≠ zs)
  | a :: b :: _ => decide (a ≠ zs) && decide (a ≠ b)
/-- How many sectors at the head are single. -/
def lits : List Sect → Nat
  | [] => 0
  | a :: t => if sgl (a :: t) = true then lits t + 1 else 0
def hdz : List Sect → Bool
  | [] => false
  | a :: _ => decide (a = zs)
def eqh : List Sect → Nat
  | [] => 0
  | a :: t => eqs a t + 1
theorem eqh_cons (a : Sect) (t : List Sect) : eqh (a :: t) = eqs a t + 1 := rfl
/-- The kind and the length of the first group. -/
def knd (l : List Sect) : Nat := if sgl l = true then 0 else if hdz l = true then 2 else 1
def cnt (l : List Sect) : Nat := if sgl l = true then lits l else eqh l

theorem eqs_le (a : Sect) (t : List Sect) : eqs a t ≤ t.length := by
  induction t with
  | nil => exact Nat.le_refl _
  | cons b t ih => unfold eqs; split <;> simp <;> omega
theorem lits_le (l : List Sect) : lits l ≤ l.length := by
  induction l with
  | nil => exact Nat.le_refl _
  | cons b t ih => unfold lits; split <;> simp <;> omega
theorem eqh_le (l : List Sect) : eqh l ≤ l.length := by
  rcases l with _ | ⟨a, t⟩
  · exact Nat.le_refl _
  · rw [eqh_cons]; have := eqs_le a t; simp; omega
theorem cnt_le (l : List Sect) : cnt l ≤ l.length := by
  unfold cnt; split
  · exact lits_le l
  · exact eqh_le l
theorem lits_pos {l : List Sect} (h : sgl l = true) : 0 < lits l := by
  rcases l with _ | ⟨a, t⟩
  · cases h
  · unfold lits; rw [if_pos h]; omega
theorem cnt_pos {l : List Sect} (h : l ≠ []) : 0 < cnt l := by
  unfold cnt; split
  · exact lits_pos ‹_›
  · rcases l with _ | ⟨a, t⟩
    · exact absurd rfl h
    · rw [eqh_cons]; omega
theorem knd_le (l : List Sect) : knd l ≤ 2 := by unfold knd; split <;> (try split) <;> omega
theorem eqs_take (a : Sect) (t : List Sect) : t.take (eqs a t) = List.replicate (eqs a t) a := by
  induction t with
  | nil => rfl
  | cons b t ih =>
    unfold eqs
    split
    · rename_i h
      subst h
      rw [List.take_succ_cons, ih, List.replicate_succ]
    · rfl
theorem eqh_take {a : Sect} {t : List Sect} : (a :: t).take (eqh (a :: t)) = List.replicate (eqh (a :: t)) a := by
  rw [eqh_cons, List.take_succ_cons, eqs_take, List.replicate_succ]
/-- A group that is not literal has equal sectors. -/
theorem take_rep {a : Sect} {t : List Sect} (h : sgl (a :: t) = false) : (a :: t).take (cnt (a :: t)) = List.replicate (cnt (a :: t)) a := by
  unfold cnt
  rw [if_neg (by rw [h]; decide)]
  exact eqh_take
theorem sgl_eqs {a : Sect} {t : List Sect} (h : sgl (a :: t) = true) : eqs a t = 0 ∧ a ≠ zs := by
  rcases t with _ | ⟨b, t⟩
  · simp [sgl] at h; exact ⟨rfl, h⟩
  · simp [sgl] at h
    refine ⟨?_, h.1⟩
    unfold eqs
    rw [if_neg (fun e => h.2 e.symm)]
theorem sgl_of {a : Sect} {t : List Sect} (h : eqs a t = 0) (hz : a ≠ zs) : sgl (a :: t) = true := by
  rcases t with _ | ⟨b, t⟩
  · simp [sgl, hz]
  · unfold eqs at h
    by_cases e : b = a
    · rw [if_pos e] at h; cases h
    · simp [sgl, hz]
      exact fun e' => e e'.symm
theorem sgl_iff {a : Sect} {t : List Sect} : sgl (a :: t) = (decide (a ≠ zs) && decide (eqs a t = 0)) := by
  rcases h : sgl (a :: t) with _ | _
  · symm
    by_cases hz : a = zs
    · simp [hz]
    · by_cases he : eqs a t = 0
      · rw [sgl_of he hz] at h; cases h
      · simp [he]
  · have := sgl_eqs h
    simp [this.1, this.2]

def body (k : Nat) (g : List Sect) : List Nat := if k = 0 then g.flatten else if k = 1 then (g.take 1).flatten else []
def encG (l : List Sect) : List Nat := enc (4 * cnt l + knd l) ++ body (knd l) (l.take (cnt l))
/-- The encoding of a list. -/
def rl (l : List Sect) : List Nat := if _h : l = [] then [] else encG l ++ rl (l.drop (cnt l))
termination_by l.length
decreasing_by
  rw [List.length_drop]
  have := cnt_pos _h
  have : 0 < l.length := List.length_pos_iff.2 _h
  omega
theorem rl_nil : rl [] = [] := by rw [rl]; rfl
theorem rl_cons {l : List Sect} (h : l ≠ []) : rl l = encG l ++ rl (l.drop (cnt l)) := by rw [rl, dif_neg h]

/-- The ranges of at least two equal sectors, the first of which is at. -/
def rns (p : Nat) : List Sect → List (Nat × Nat)
  | [] => []
  | a :: t => (if 1 ≤ eqs a t then [(p, eqs a t + 1)] else []) ++ rns (p + (eqs a t + 1)) (t.drop (eqs a t))
termination_by l => l.length
decreasing_by simp; omega
theorem rns_nil (p : Nat) : rns p [] = [] := by rw [rns]
theorem rns_cons {l : List Sect} (p : Nat) (h : l ≠ []) : rns p l = (if 2 ≤ eqh l then [(p, eqh l)] else []) ++ rns (p + eqh l) (l.drop (eqh l)) := by
  rcases l with _ | ⟨a, t⟩
  · exact absurd rfl h
  · rw [rns, eqh_cons, List.drop_succ_cons]
    by_cases h1 : 1 ≤ eqs a t
    · rw [if_pos h1, if_pos (by omega)]
    · rw [if_neg h1, if_neg (by omega)]
theorem rns_lits : ∀ (l : List Sect) (p : Nat), rns p l = rns (p + lits l) (l.drop (lits l)) := by
  intro l
  induction l with
  | nil => intro p; rfl
  | cons a t ih =>
    intro p
    unfold lits
    split
    · rename_i h
      have h0 := (sgl_eqs h).1
      rw [rns_cons p (List.cons_ne_nil _ _)]
      rw [eqh_cons, h0, if_neg (by omega), List.nil_append, List.drop_succ_cons, List.drop_zero, ih, List.drop_succ_cons]
      congr 1
      omega
    · rfl
/-- The ranges by groups. -/
theorem rns_grp {l : List Sect} (p : Nat) (h : l ≠ []) : rns p l = (if knd l ≠ 0 ∧ 1 < cnt l then [(p, cnt l)] else []) ++ rns (p + cnt l) (l.drop (cnt l)) := by
  unfold knd cnt
  by_cases hs : sgl l = true
  · rw [if_pos hs, if_pos hs, if_neg (by simp), List.nil_append]
    exact rns_lits l p
  · rw [if_neg hs, if_neg hs, rns_cons p h]
    by_cases h2 : 2 ≤ eqh l
    · rw [if_pos h2, if_pos ⟨by split <;> omega, by omega⟩]
    · rw [if_neg h2, if_neg (by omega)]

/-- n sectors out of bytes. -/
def chk : Nat → List Nat → List Sect
  | 0, _ => []
  | n + 1, t => t.take 8 :: chk n (t.drop 8)
theorem chk_len (n : Nat) : ∀ t, (chk n t).length = n := by
  induction n with
  | zero => intro t; rfl
  | succ n ih => intro t; simp [chk, ih]
/-- One group. -/
def dGrp (room : Nat) (s : List Nat) : Except Int (List Sect × List Nat) :=
  match dNum s with
  | .error e => .error e
  | .ok (x, t) =>
    if 2 < x % 4 ∨ x / 4 = 0 then .error 3
    else if room < x / 4 then .error 5
    else if x % 4 = 2 then .ok (List.replicate (x / 4) zs, t)
    else if x % 4 = 1 then (if t.length < 8 then .error 10 else .ok (List.replicate (x / 4) (t.take 8), t.drop 8))
    else if t.length < 8 * (x / 4) then .error 10 else .ok (chk (x / 4) t, t.drop (8 * (x / 4)))
theorem dNum_shr {s t : List Nat} {x : Nat} (h : dNum s = .ok (x, t)) : t.length ≤ s.length := by
  unfold dNum at h
  split at h
  · cases h; simp
  · cases h
theorem rd_pos (f : Nat) : ∀ (i n : Nat) (s : List Nat), (rd f i n s).2.2 = 0 → i < (rd f i n s).2.1 ∧ 0 < s.length := by
  induction f with
  | zero => intro i n s h; simp [rd] at h
  | succ f ih =>
    intro i n s h
    rcases s with _ | ⟨b, t⟩
    · simp [rd] at h
    · rw [rd] at h ⊢
      by_cases hb : b < 128
      · rw [if_pos hb] at h ⊢
        split at h
        · simp at h
        · rename_i hc
          rw [if_neg hc]
          exact ⟨by simp, by simp⟩
      · rw [if_neg hb] at h ⊢
        have := ih _ _ t h
        exact ⟨by omega, by simp⟩
theorem dNum_lt {s t : List Nat} {x : Nat} (h : dNum s = .ok (x, t)) : t.length < s.length := by
  unfold dNum at h
  split at h
  · rename_i h0
    have := rd_pos 8 0 0 s h0
    cases h
    rw [List.length_drop]
    omega
  · cases h
theorem dGrp_inv {room : Nat} {s t : List Nat} {l : List Sect} (h : dGrp room s = .ok (l, t)) : t.length < s.length ∧ l.length ≤ room ∧ 0 < l.length := by
  unfold dGrp at h
  rcases hd : dNum s with e | ⟨x, u⟩
  · rw [hd] at h; cases h
  · have hu := dNum_lt hd
    rw [hd] at h
    simp only at h
    split at h
    · cases h
    split at h
    · cases h
    split at h
    · cases h; exact ⟨hu, by simp; omega, by simp; omega⟩
    split at h
    · split at h
      · cases h
      · cases h; exact ⟨by simp; omega, by simp; omega, by simp; omega⟩
    split at h
    · cases h
    · cases h; exact ⟨by simp; omega, by rw [chk_len]; omega, by rw [chk_len]; omega⟩
/-- All groups, f of them at most, behind the sectors acc. -/
def dAll : Nat → Nat → List Sect → List Nat → Except Int (List Sect)
  | 0, _, acc, _ => .ok acc
  | f + 1, most, acc, s => if s = [] then .ok acc else match dGrp (most - acc.length) s with
    | .error e => .error e
    | .ok (l, t) => dAll f most (acc ++ l) t
theorem dAll_fuel (f : Nat) : ∀ (g most : Nat) (acc : List Sect) (s : List Nat), s.length ≤ f → f ≤ g → dAll g most acc s = dAll f most acc s := by
  induction f with
  | zero =>
    intro g most acc s hs _
    have : s = [] := List.eq_nil_of_length_eq_zero (by omega)
    subst this
    rcases g with _ | g
    · rfl
    · simp [dAll]
  | succ f ih =>
    intro g most acc s hs hg
    rcases g with _ | g
    · omega
    · rw [dAll, dAll]
      by_cases h0 : s = []
      · rw [if_pos h0, if_pos h0]
      · rw [if_neg h0, if_neg h0]
        rcases hd : dGrp (most - acc.length) s with e | ⟨l, t⟩
        · rfl
        · simp only
          have := dGrp_inv hd
          exact ih g most _ t (by omega) (by omega)
def dA (most : Nat) (acc : List Sect) (s : List Nat) : Except Int (List Sect) := dAll s.length most acc s
theorem dA_nil (most : Nat) (acc : List Sect) : dA most acc [] = .ok acc := rfl
theorem dA_err {most : Nat} {acc : List Sect} {s : List Nat} {e : Int} (h0 : s ≠ []) (h : dGrp (most - acc.length) s = .error e) : dA most acc s = .error e := by
  have hl : 0 < s.length := List.length_pos_iff.2 h0
  unfold dA
  obtain ⟨f, hf⟩ : ∃ f, s.length = f + 1 := ⟨s.length - 1, by omega⟩
  rw [hf, dAll, if_neg h0, h]
theorem dA_ok {most : Nat} {acc l : List Sect} {s t : List Nat} (h0 : s ≠ []) (h : dGrp (most - acc.length) s = .ok (l, t)) : dA most acc s = dA most (acc ++ l) t := by
  have hl : 0 < s.length := List.length_pos_iff.2 h0
  unfold dA
  obtain ⟨f, hf⟩ : ∃ f, s.length = f + 1 := ⟨s.length - 1, by omega⟩
  rw [hf, dAll, if_neg h0, h]
  have := dGrp_inv h
  exact dAll_fuel t.length f most _ t (Nat.le_refl _) (by omega)
/-- The list of at most most sectors whose encoding is b. -/
def dec (most : Nat) (b : List Nat) : Except Int (List Sect) := match dA most [] b with
  | .error e => .error e
  | .ok l => if rl l = b then .ok l else .error 3
theorem dA_len (f : Nat) : ∀ (most : Nat) (acc : List Sect) (s : List Nat) (l : List Sect), acc.length ≤ most → dAll f most acc s = .ok l → l.length ≤ most := by
  induction f with
  | zero => intro most acc s l ha h; rw [dAll] at h; cases h; exact ha
  | succ f ih =>
    intro most acc s l ha h
    rw [dAll] at h
    by_cases h0 : s = []
    · rw [if_pos h0] at h; cases h; exact ha
    · rw [if_neg h0] at h
      rcases hd : dGrp (most - acc.length) s with e | ⟨g, t⟩
      · rw [hd] at h; cases h
      · rw [hd] at h
        have := dGrp_inv hd
        exact ih most _ t l (by rw [List.length_append]; omega) h
theorem dec_ok {most : Nat} {b : List Nat} {l : List Sect} (h : dec most b = .ok l) : rl l = b ∧ l.length ≤ most := by
  unfold dec at h
  rcases hd : dA most [] b with e | l'
  · rw [hd] at h; cases h
  · rw [hd] at h
    simp only at h
    split at h
    · cases h; exact ⟨‹_›, dA_len _ _ _ _ _ (by simp) hd⟩
    · cases h

/- Back. -/
def Secs8 (l : List Sect) : Prop := ∀ s ∈ l, s.length = 8 ∧ B8 s
theorem chk_flat (n : Nat) : ∀ (g : List Sect) (r : List Nat), g.length = n → Secs8 g → chk n (g.flatten ++ r) = g := by
  induction n with
  | zero => intro g r hg _; rw [List.eq_nil_of_length_eq_zero hg]; rfl
  | succ n ih =>
    intro g r hg h8
    rcases g with _ | ⟨a, g⟩
    · cases hg
    · have ha := (h8 a (List.mem_cons_self ..)).1
      rw [chk, List.flatten_cons, List.append_assoc]
      rw [List.take_append_of_le_length (by omega), List.take_of_length_le (by omega)]
      rw [List.drop_append_of_le_length (by omega), List.drop_of_length_le (by omega), List.nil_append]
      rw [ih g r (by simpa using hg) (fun s hs => h8 s (List.mem_cons_of_mem _ hs))]
theorem flat_len {g : List Sect} (h : Secs8 g) : g.flatten.length = 8 * g.length := by
  induction g with
  | nil => rfl
  | cons a g ih =>
    rw [List.flatten_cons, List.length_append, ih (fun s hs => h s (List.mem_cons_of_mem _ hs)), (h a (List.mem_cons_self ..)).1, List.length_cons]
    omega
theorem knd_cases (l : List Sect) (h : l ≠ []) : (knd l = 0 ∧ sgl l = true) ∨ (knd l = 2 ∧ sgl l = false ∧ l.take (cnt l) = List.replicate (cnt l) zs) ∨ (∃ a t, l = a :: t ∧ knd l = 1 ∧ sgl l = false ∧ a ≠ zs ∧ l.take (cnt l) = List.replicate (cnt l) a) := by
  rcases l with _ | ⟨a, t⟩
  · exact absurd rfl h
  · rcases hs : sgl (a :: t) with _ | _
    · have hr := take_rep hs
      by_cases hz : a = zs
      · subst hz
        exact .inr (.inl ⟨by unfold knd; rw [if_neg (by rw [hs]; decide), if_pos (by simp [hdz])], rfl, hr⟩)
      · exact .inr (.inr ⟨a, t, rfl, by unfold knd; rw [if_neg (by rw [hs]; decide), if_neg (by simp [hdz, hz])], rfl, hz, hr⟩)
    · exact .inl ⟨by unfold knd; rw [if_pos hs], rfl⟩
theorem dGrp_enc {room : Nat} {l : List Sect} (r : List Nat) (h0 : l ≠ []) (h8 : Secs8 l) (hb : l.length ≤ 100000) :
    dGrp room (encG l ++ r) = if room < cnt l then .error 5 else .ok (l.take (cnt l), r) := by
  have hc := cnt_pos h0
  have hcl := cnt_le l
  have hk := knd_le l
  unfold dGrp encG
  rw [List.append_assoc, num_code.back _ _ (by unfold top; omega)]
  simp only
  have e1 : (4 * cnt l + knd l) % 4 = knd l := by omega
  have e2 : (4 * cnt l + knd l) / 4 = cnt l := by omega
  rw [e1, e2, if_neg (by omega)]
  by_cases hr : room < cnt l
  · rw [if_pos hr, if_pos hr]
  · rw [if_neg hr, if_neg hr]
    have h8' : Secs8 (l.take (cnt l)) := fun s hs => h8 s (List.mem_of_mem_take hs)
    have hlt : (l.take (cnt l)).length = cnt l := by rw [List.length_take]; omega
    rcases knd_cases l h0 with ⟨e, hs⟩ | ⟨e, hs, ht⟩ | ⟨a, t, hl, e, hs, hz, ht⟩
    · rw [e, if_neg (by omega), if_neg (by omega)]
      have eb : body 0 (l.take (cnt l)) = (l.take (cnt l)).flatten := rfl
      have hfl := flat_len h8'
      rw [hlt] at hfl
      rw [eb, if_neg (by rw [List.length_append, hfl]; omega)]
      rw [chk_flat _ _ _ hlt h8', ← hfl, List.drop_left]
    · rw [e, if_pos rfl, ht]
      rfl
    · have ha := (h8 a (by rw [hl]; exact List.mem_cons_self ..)).1
      have eb : body 1 (l.take (cnt l)) = a := by
        unfold body
        rw [if_neg (by omega), if_pos rfl, ht]
        obtain ⟨c, hc'⟩ : ∃ c, cnt l = c + 1 := ⟨cnt l - 1, by omega⟩
        rw [hc', List.replicate_succ]
        simp
      rw [e, eb, if_neg (by omega), if_pos rfl, if_neg (by rw [List.length_append]; omega)]
      rw [List.take_append_of_le_length (by omega), List.take_of_length_le (by omega), List.drop_append_of_le_length (by omega), List.drop_of_length_le (by omega), List.nil_append, ht]
theorem encG_ne (l : List Sect) (r : List Nat) : encG l ++ r ≠ [] := by
  unfold encG
  intro h
  have := congrArg List.length h
  have hp := enc_pos (4 * cnt l + knd l)
  simp only [List.length_append, List.length_nil] at this
  omega
theorem dA_rl (n : Nat) : ∀ (l acc : List Sect) (most : Nat), l.length ≤ n → Secs8 l → l.length ≤ 100000 → acc.length ≤ most →
    dA most acc (rl l) = if most < acc.length + l.length then .error 5 else .ok (acc ++ l) := by
  induction n with
  | zero =>
    intro l acc most hl _ _ ha
    rw [List.eq_nil_of_length_eq_zero (Nat.le_zero.1 hl), rl_nil, dA_nil, if_neg (by simp; omega), List.append_nil]
  | succ n ih =>
    intro l acc most hl h8 hb ha
    by_cases h0 : l = []
    · subst h0
      rw [rl_nil, dA_nil, if_neg (by simp; omega), List.append_nil]
    · have hc := cnt_pos h0
      have hcl := cnt_le l
      rw [rl_cons h0]
      have hg := dGrp_enc (room := most - acc.length) (rl (l.drop (cnt l))) h0 h8 hb
      by_cases hr : most - acc.length < cnt l
      · rw [if_pos hr] at hg
        rw [dA_err (encG_ne _ _) hg, if_pos (by omega)]
      · rw [if_neg hr] at hg
        have hlt : (l.take (cnt l)).length = cnt l := by rw [List.length_take]; omega
        have hld : (l.drop (cnt l)).length = l.length - cnt l := List.length_drop
        rw [dA_ok (encG_ne _ _) hg, ih _ _ most (by omega) (fun s hs => h8 s (List.mem_of_mem_drop hs)) (by omega) (by rw [List.length_append, hlt]; omega)]
        rw [List.length_append, hlt, hld, List.append_assoc, List.take_append_drop]
        by_cases hm : most < acc.length + l.length
        · rw [if_pos hm, if_pos (by omega)]
        · rw [if_neg hm, if_neg (by omega)]
theorem dec_back {l : List Sect} (h8 : Secs8 l) (hb : l.length ≤ 100000) : dec l.length (rl l) = .ok l := by
  unfold dec
  rw [dA_rl l.length l [] l.length (Nat.le_refl _) h8 hb (by simp), if_neg (by simp), List.nil_append]
  simp
theorem dec_less {l : List Sect} (h8 : Secs8 l) (hb : l.length ≤ 100000) {m : Nat} (hm : m < l.length) : dec m (rl l) = .error 5 := by
  unfold dec
  rw [dA_rl l.length l [] m (Nat.le_refl _) h8 hb (by simp), if_pos (by simpa using hm)]

/- Bounds. -/
theorem pow_ge (n : Nat) (h : 1 ≤ n) : 4 * n + 3 < 128 ^ n := by
  induction n with
  | zero => omega
  | succ n ih =>
    rcases Nat.eq_zero_or_pos n with h0 | h0
    · subst h0; decide
    · have := ih h0
      rw [Nat.pow_succ]
      omega
theorem head_le {n k : Nat} (h : 1 ≤ n) (hk : k ≤ 3) : (enc (4 * n + k)).length ≤ n := by
  obtain ⟨f, rfl⟩ : ∃ f, n = f + 1 := ⟨n - 1, by omega⟩
  exact enc_le (by have := pow_ge (f + 1) h; omega)
theorem encG_len {l : List Sect} (h0 : l ≠ []) (h8 : Secs8 l) : 1 ≤ (encG l).length ∧ (encG l).length ≤ 9 * cnt l := by
  have hc := cnt_pos h0
  have hcl := cnt_le l
  have hk := knd_le l
  have hh := head_le (n := cnt l) (k := knd l) hc (by omega)
  have hp := enc_pos (4 * cnt l + knd l)
  unfold encG
  rw [List.length_append]
  have h8' : Secs8 (l.take (cnt l)) := fun s hs => h8 s (List.mem_of_mem_take hs)
  have hlt : (l.take (cnt l)).length = cnt l := by rw [List.length_take]; omega
  have hb : (body (knd l) (l.take (cnt l))).length ≤ 8 * cnt l := by
    unfold body
    split
    · rw [flat_len h8', hlt]; omega
    split
    · rw [flat_len (fun s hs => h8' s (List.mem_of_mem_take hs)), List.length_take, hlt]; omega
    · simp
  omega
theorem rl_len (n : Nat) : ∀ (l : List Sect), l.length ≤ n → Secs8 l → (rl l).length ≤ 9 * l.length ∧ (l ≠ [] → 1 ≤ (rl l).length) := by
  induction n with
  | zero => intro l hl _; rw [List.eq_nil_of_length_eq_zero (Nat.le_zero.1 hl), rl_nil]; exact ⟨by simp, fun h => absurd rfl h⟩
  | succ n ih =>
    intro l hl h8
    by_cases h0 : l = []
    · subst h0; rw [rl_nil]; exact ⟨by simp, fun h => absurd rfl h⟩
    · have hc := cnt_pos h0
      have hcl := cnt_le l
      have hg := encG_len h0 h8
      have hld : (l.drop (cnt l)).length = l.length - cnt l := List.length_drop
      have := (ih (l.drop (cnt l)) (by omega) (fun s hs => h8 s (List.mem_of_mem_drop hs))).1
      rw [rl_cons h0, List.length_append]
      exact ⟨by omega, fun _ => by omega⟩
theorem eqs_rep (a : Sect) (n : Nat) : eqs a (List.replicate n a) = n := by
  induction n with
  | zero => rfl
  | succ n ih => rw [List.replicate_succ, eqs, if_pos rfl, ih]
theorem rl_rep (s : Sect) (n : Nat) (hs : s.length = 8) (hn : n ≤ 65536) : (rl (List.replicate n s)).length ≤ 11 := by
  rcases n with _ | n
  · rw [List.replicate_zero, rl_nil]; simp
  · have h0 : List.replicate (n + 1) s ≠ [] := by simp
    have hq : eqh (List.replicate (n + 1) s) = n + 1 := by rw [List.replicate_succ, eqh_cons, eqs_rep]
    have h3 : ∀ k, k ≤ 3 → (enc (4 * (n + 1) + k)).length ≤ 3 := fun k hk => enc_le (f := 2) (by omega)
    rw [rl_cons h0]
    rcases knd_cases _ h0 with ⟨e, hg⟩ | ⟨e, hg, ht⟩ | ⟨a, t, hl, e, hg, hz, ht⟩
    · have hn0 : n = 0 := by
        rw [List.replicate_succ] at hg
        have := (sgl_eqs hg).1
        rw [eqs_rep] at this
        exact this
      subst hn0
      have hc : cnt (List.replicate (0 + 1) s) = 1 := by
        unfold cnt
        rw [if_pos hg]
        show lits [s] = 1
        have hg' : sgl [s] = true := hg
        unfold lits
        rw [if_pos hg']
        rfl
      unfold encG
      rw [e, hc]
      show (enc 4 ++ body 0 [s] ++ rl []).length ≤ 11
      rw [rl_nil, enc_small (by omega)]
      simp [body, hs]
    · have hc : cnt (List.replicate (n + 1) s) = n + 1 := by unfold cnt; rw [if_neg (by rw [hg]; decide), hq]
      unfold encG
      rw [e, hc]
      have := h3 2 (by omega)
      have ed : List.drop (n + 1) (List.replicate (n + 1) s) = [] := List.drop_of_length_le (by simp)
      rw [ed, rl_nil]
      simp [body]
      omega
    · have hc : cnt (List.replicate (n + 1) s) = n + 1 := by unfold cnt; rw [if_neg (by rw [hg]; decide), hq]
      unfold encG
      rw [e, hc]
      have := h3 1 (by omega)
      have ed : List.drop (n + 1) (List.replicate (n + 1) s) = [] := List.drop_of_length_le (by simp)
      rw [ed, rl_nil]
      have et : (List.take (n + 1) (List.replicate (n + 1) s)).take 1 = [s] := by
        rw [List.take_take, List.replicate_succ]
        simp
      have eb : body 1 (List.take (n + 1) (List.replicate (n + 1) s)) = s := by
        unfold body
        rw [if_neg (by omega), if_pos rfl, et]
        simp
      rw [eb]
      simp
      omega
end Go.Proofs.Ytldlddoealpomaa.Rl
