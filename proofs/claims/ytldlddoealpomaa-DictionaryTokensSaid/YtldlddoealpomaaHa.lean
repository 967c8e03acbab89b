/- What Encode gives is decoded again: on lists. -/
import Derived.Test.YtldlddoealpomaaGk
namespace Go.Proofs.Ytldlddoealpomaa
open Go.RowKit Go.Lib

theorem tok_short {t r t' r' : List Nat} {room room' x : Nat} (h : tok t room (x :: r) = .ok (t', room', r')) : r'.length ≤ r.length := by
  rw [tok] at h
  by_cases h1 : x = 0
  · rw [if_pos h1] at h; cases h
  rw [if_neg h1] at h
  by_cases h2 : x < 128
  · rw [if_pos h2, lit] at h
    by_cases h3 : r.length < x
    · rw [if_pos h3] at h; cases h
    rw [if_neg h3] at h
    by_cases h4 : room < x
    · rw [if_pos h4] at h; cases h
    rw [if_neg h4] at h
    injection h with h
    injection h with _ h
    injection h with _ h
    rw [← h, List.length_drop]; omega
  · rw [if_neg h2, mat] at h
    rcases hd : dNum (r.take 8) with e | ⟨d, b⟩
    · rw [hd] at h; cases h
    · rw [hd] at h
      dsimp only at h
      by_cases h3 : d = 0 ∨ 4096 < d ∨ t.length < d
      · rw [if_pos h3] at h; cases h
      rw [if_neg h3] at h
      by_cases h4 : room < x - 124
      · rw [if_pos h4] at h; cases h
      rw [if_neg h4] at h
      injection h with h
      injection h with _ h
      injection h with _ h
      rw [← h, List.length_drop]; omega
theorem toks_nil' (f : Nat) (t : List Nat) (room : Nat) : toks f t room [] = .ok t := by cases f <;> rw [toks]
theorem toks_fuel (n : Nat) : ∀ (f f' : Nat) (t : List Nat) (room : Nat) (s : List Nat), s.length ≤ n → s.length ≤ f → s.length ≤ f' → toks f t room s = toks f' t room s := by
  induction n with
  | zero =>
    intro f f' t room s h _ _
    obtain rfl := List.eq_nil_of_length_eq_zero (Nat.le_zero.1 h)
    rw [toks_nil', toks_nil']
  | succ n ih =>
    intro f f' t room s hn hf hf'
    rcases s with _ | ⟨x, r⟩
    · rw [toks_nil', toks_nil']
    rcases f with _ | f
    · simp at hf
    rcases f' with _ | f'
    · simp at hf'
    rw [toks, toks]
    rcases hk : tok t room (x :: r) with e | ⟨t', room', r'⟩
    · rfl
    · have hs := tok_short hk
      simp only [List.length_cons] at hn hf hf'
      exact ih f f' t' room' r' (by omega) (by omega) (by omega)
/-- The tokens. -/
def tkn (t : List Nat) (room : Nat) (s : List Nat) : Except Int (List Nat) := toks s.length t room s
theorem tk_nil (t : List Nat) (room : Nat) : tkn t room [] = .ok t := rfl
theorem tk_cons (t : List Nat) (room x : Nat) (r : List Nat) : tkn t room (x :: r) = match tok t room (x :: r) with | .error e => .error e | .ok (t', room', r') => tkn t' room' r' := by
  unfold tkn
  rw [List.length_cons, toks]
  rcases hk : tok t room (x :: r) with e | ⟨t', room', r'⟩
  · rfl
  · exact toks_fuel r.length _ _ _ _ _ (tok_short hk) (tok_short hk) (Nat.le_refl _)
theorem tk_lt : ∀ (n : Nat) (l t s : List Nat) (room : Nat), l.length ≤ n → tkn t room (lt n l ++ s) = if l.length ≤ room then tkn (t ++ l) (room - l.length) s else .error 5
  | 0, l, t, s, room, h => by
    obtain rfl := List.eq_nil_of_length_eq_zero (Nat.le_zero.1 h)
    rw [lt]; simp
  | n + 1, l, t, s, room, h => by
    rw [lt]
    by_cases h0 : l = []
    · rw [if_pos h0, h0]; simp
    · have hp := List.length_pos_iff.2 h0
      rw [if_neg h0]
      have e1 : [min l.length 127] ++ (l.take 127 ++ lt n (l.drop 127)) ++ s = min l.length 127 :: (l.take 127 ++ (lt n (l.drop 127) ++ s)) := by simp
      rw [e1, tk_cons]
      have hk : tok t room (min l.length 127 :: (l.take 127 ++ (lt n (l.drop 127) ++ s))) = if room < min l.length 127 then .error 5 else .ok (t ++ l.take 127, room - min l.length 127, lt n (l.drop 127) ++ s) := by
        have hl : (l.take 127).length = min l.length 127 := by rw [List.length_take]; omega
        rw [tok, if_neg (by omega), if_pos (by omega), lit, if_neg (by rw [List.length_append, hl]; omega)]
        rw [← hl, List.take_left, List.drop_left]
      rw [hk]
      by_cases hr : room < min l.length 127
      · rw [if_pos hr, if_neg (by omega)]
      · rw [if_neg hr]
        show tkn (t ++ l.take 127) (room - min l.length 127) (lt n (l.drop 127) ++ s) = _
        rw [tk_lt n (l.drop 127) _ s _ (by rw [List.length_drop]; omega), List.length_drop, List.append_assoc, List.take_append_drop]
        by_cases h2 : l.length ≤ room
        · rw [if_pos (by omega), if_pos h2, show room - min l.length 127 - (l.length - 127) = room - l.length by omega]
        · rw [if_neg (by omega), if_neg h2]
theorem mat_enc (n d : Nat) (t s : List Nat) (room : Nat) (h0 : 1 ≤ d) (h1 : d ≤ 4096) (h2 : d ≤ t.length) : mat n t room (enc d ++ s) = if room < n then .error 5 else .ok (cp d t n, room - n, s) := by
  have hr : rd 8 0 0 ((enc d ++ s).take 8) = (d, (enc d).length, 0) := by
    rw [rd_take]
    have h := rd_enc s 7 0 0 d (by omega) (.inr rfl) (by unfold top; omega)
    rw [h]; simp
  have hl : (enc d).length ≤ 8 := enc_le8 (by unfold top; omega)
  unfold mat
  rw [dNum_ok hr]
  show (if d = 0 ∨ 4096 < d ∨ t.length < d then _ else _) = _
  rw [if_neg (by omega)]
  have e : ((enc d ++ s).take 8).length - (((enc d ++ s).take 8).drop (enc d).length).length = (enc d).length := by
    rw [List.length_drop, List.length_take, List.length_append]; omega
  rw [e, List.drop_left]
theorem tk_match (n d : Nat) (t s : List Nat) (room : Nat) (h0 : 1 ≤ d) (h1 : d ≤ 4096) (h2 : d ≤ t.length) (h3 : 4 ≤ n) : tkn t room ([124 + n] ++ (enc d ++ s)) = if n ≤ room then tkn (cp d t n) (room - n) s else .error 5 := by
  have e1 : [124 + n] ++ (enc d ++ s) = (124 + n) :: (enc d ++ s) := rfl
  rw [e1, tk_cons, tok, if_neg (by omega), if_neg (by omega), show 124 + n - 124 = n by omega, mat_enc n d t s room h0 h1 h2]
  by_cases hr : room < n
  · rw [if_pos hr, if_neg (by omega)]
  · rw [if_neg hr, if_pos (by omega)]
theorem cm_same (x : List Nat) (p a : Nat) : ∀ f n i, n ≤ i → i < cm x p a f n → a + i < x.length ∧ x.getD (p + i) 0 = x.getD (a + i) 0
  | 0, n, i, h, h' => by rw [cm] at h'; omega
  | f + 1, n, i, h, h' => by
    rw [cm] at h'
    split at h'
    · rename_i hc
      by_cases hi : i = n
      · subst hi; exact hc
      · exact cm_same x p a f (n + 1) i (by omega) h'
    · omega
theorem bst_cm (x : List Nat) (a : Nat) : ∀ d, (bst x a d).2 = 0 ∨ (1 ≤ (bst x a d).1 ∧ cm x (a - (bst x a d).1) a 131 0 = (bst x a d).2)
  | 0 => .inl rfl
  | d + 1 => by
    rw [bst]
    split
    · exact .inr ⟨by simp, rfl⟩
    · exact bst_cm x a d
theorem cp_take (x : List Nat) (a d n : Nat) (h0 : 1 ≤ d) (h1 : d ≤ a) (hs : ∀ i, i < n → a + i < x.length ∧ x.getD (a - d + i) 0 = x.getD (a + i) 0) : ∀ i, i ≤ n → cp d (x.take a) i = x.take (a + i)
  | 0, _ => rfl
  | i + 1, h => by
    have ih := cp_take x a d n h0 h1 hs i (by omega)
    obtain ⟨h2, h3⟩ := hs i (by omega)
    have hl : (x.take (a + i)).length = a + i := by rw [List.length_take]; omega
    rw [cp, ih, hl, ← Nat.add_assoc, List.take_succ_eq_append_getElem h2]
    congr 2
    rw [show a + i - d = a - d + i by omega, List.getD_eq_getElem?_getD, List.getElem?_take, if_pos (by omega), ← List.getD_eq_getElem?_getD, h3, List.getD_eq_getElem?_getD, List.getElem?_eq_getElem h2]
    rfl
theorem tk_en (x s : List Nat) : ∀ (f a : Nat) (l t : List Nat) (room : Nat), x.length - a ≤ f → a ≤ x.length → t ++ l = x.take a →
    tkn t room (en x f a l ++ s) = if x.length - t.length ≤ room then tkn x (room - (x.length - t.length)) s else .error 5
  | 0, a, l, t, room, hf, ha, ht => by
    obtain rfl : a = x.length := by omega
    rw [List.take_length] at ht
    have hl : l.length = x.length - t.length := by rw [← ht, List.length_append]; omega
    rw [en, tk_lt _ _ _ _ _ (Nat.le_refl _), ht, hl]
  | f + 1, a, l, t, room, hf, ha, ht => by
    have hta : t.length + l.length = a := by rw [← List.length_append, ht, List.length_take]; omega
    rw [en]
    by_cases hax : a < x.length
    · rw [if_pos hax]
      by_cases hb : (bst x a (min 4096 a)).2 = 0
      · rw [if_pos hb]
        refine tk_en x s f (a + 1) _ t room (by omega) (by omega) ?_
        rw [← List.append_assoc, ht, List.take_succ_eq_append_getElem hax]
        congr 2
        rw [List.getD_eq_getElem?_getD, List.getElem?_eq_getElem hax]; rfl
      · rw [if_neg hb]
        obtain ⟨h1, h2, h3⟩ := bst_ok x a (min 4096 a)
        obtain ⟨h4, h5⟩ := (bst_cm x a (min 4096 a)).resolve_left hb
        obtain ⟨D, hD⟩ : ∃ D, (bst x a (min 4096 a)).1 = D := ⟨_, rfl⟩
        obtain ⟨n, hn⟩ : ∃ n, (bst x a (min 4096 a)).2 = n := ⟨_, rfl⟩
        rw [hD, hn] at h5
        rw [hD] at h1 h4
        rw [hn] at hb h2 h3
        rw [hD, hn]
        have hs := fun i (hi : i < n) => cm_same x (a - D) a 131 0 i (Nat.zero_le _) (by rw [h5]; exact hi)
        have hcp := cp_take x a D n h4 (by omega) hs n (Nat.le_refl _)
        have han : a + n ≤ x.length := by have := (hs (n - 1) (by omega)).1; omega
        have hlta : (x.take a).length = a := by rw [List.length_take]; omega
        have hltn : (x.take (a + n)).length = a + n := by rw [List.length_take]; omega
        have e : lt l.length l ++ ([124 + n] ++ (enc D ++ en x f (a + n) [])) ++ s = lt l.length l ++ ([124 + n] ++ (enc D ++ (en x f (a + n) [] ++ s))) := by simp
        rw [e, tk_lt _ _ _ _ _ (Nat.le_refl _), ht, tk_match n D _ _ _ h4 (by omega) (by rw [hlta]; omega) (by omega), hcp, tk_en x s f (a + n) [] _ _ (by omega) han (List.append_nil _), hltn]
        by_cases q1 : l.length ≤ room
        · rw [if_pos q1]
          by_cases q2 : n ≤ room - l.length
          · rw [if_pos q2]
            by_cases q3 : x.length - (a + n) ≤ room - l.length - n
            · rw [if_pos q3, if_pos (by omega), show room - l.length - n - (x.length - (a + n)) = room - (x.length - t.length) by omega]
            · rw [if_neg q3, if_neg (by omega)]
          · rw [if_neg q2, if_neg (by omega)]
        · rw [if_neg q1, if_neg (by omega)]
    · obtain rfl : a = x.length := by omega
      rw [if_neg hax]
      rw [List.take_length] at ht
      have hl : l.length = x.length - t.length := by rw [← ht, List.length_append]; omega
      rw [tk_lt _ _ _ _ _ (Nat.le_refl _), ht, hl]
theorem tk_enc (d b s : List Nat) (room : Nat) : tkn d room (encL d b ++ s) = if b.length ≤ room then tkn (d ++ b) (room - b.length) s else .error 5 := by
  unfold encL
  have h := tk_en (d ++ b) s b.length d.length [] d room (by rw [List.length_append]; omega) (by rw [List.length_append]; omega) (by simp)
  have e : (d ++ b).length - d.length = b.length := by rw [List.length_append]; omega
  rw [e] at h
  exact h
theorem dec_tk {d b : List Nat} {M : Nat} (hd : B8 d) (hb : B8 b) : decL d b M = match tkn d M b with | .error e => .error e | .ok t => .ok (t.drop d.length) := dec_whole hd hb
theorem dec_enc {d b : List Nat} (M : Nat) (hd : B8 d) (hb : B8 b) : decL d (encL d b) M = if b.length ≤ M then .ok b else .error 5 := by
  have h := tk_enc d b [] M
  rw [List.append_nil] at h
  rw [dec_tk hd (encL_b8 hd hb), h]
  by_cases hm : b.length ≤ M
  · rw [if_pos hm, if_pos hm, tk_nil]
    show Except.ok ((d ++ b).drop d.length) = _
    rw [List.drop_left]
  · rw [if_neg hm, if_neg hm]
theorem dec_two {d a b : List Nat} (hd : B8 d) (ha : B8 a) (hb : B8 b) : decL d (encL d a ++ encL (d ++ a) b) ((a.length + b.length : Nat) : Int) = .ok (a ++ b) := by
  have h2 := tk_enc (d ++ a) b [] b.length
  rw [List.append_nil, if_pos (Nat.le_refl _), tk_nil] at h2
  rw [dec_tk hd ((encL_b8 hd ha).append (encL_b8 (hd.append ha) hb)), tk_enc d a _ _, if_pos (by omega), show a.length + b.length - a.length = b.length by omega, h2]
  show Except.ok ((d ++ a ++ b).drop d.length) = _
  rw [List.append_assoc, List.drop_left]
end Go.Proofs.Ytldlddoealpomaa
