/- What Encode gives is decoded again; the walk of Knows. -/
import Derived.Test.YtldlddoealpomaaGj
namespace Go.Proofs.Ytldlddoealpomaa
open Go.RowKit Go.Lib

theorem tok_short {t r t' r' : List Nat} {room room' x : Nat} (h : tok t room (x :: r) = .ok (t', room', r')) : r'.length ≤ r.length := by
  rw [tok] at h
  by_cases h1 : x = 0
  · rw [if_pos h1] at h; cases h
  rw [if_neg h1] at h
  by_cases h2 : x < 128
  · rw [if_pos h2, lit] at h
    by_cases h3 : r.length < x
    · rw [if_pos h3] at h; cases h
    rw [if_neg h3] at h
    by_cases h4 : room < x
    · rw [if_pos h4] at h; cases h
    rw [if_neg h4] at h
    injection h with h
    injection h with _ h
    injection h with _ h
    rw [← h, List.length_drop]; omega
  · rw [if_neg h2, mat] at h
    rcases hd : dNum (r.take 8) with e | ⟨d, b⟩
    · rw [hd] at h; cases h
    · rw [hd] at h
      dsimp only at h
      by_cases h3 : d = 0 ∨ 4096 < d ∨ t.length < d
      · rw [if_pos h3] at h; cases h
      rw [if_neg h3] at h
      by_cases h4 : room < x - 124
      · rw [if_pos h4] at h; cases h
      rw [if_neg h4] at h
      injection h with h
      injection h with _ h
      injection h with _ h
      rw [← h, List.length_drop]; omega
theorem toks_nil' (f : Nat) (t : List Nat) (room : Nat) : toks f t room [] = .ok t := by cases f <;> rw [toks]
theorem toks_fuel (n : Nat) : ∀ (f f' : Nat) (t : List Nat) (room : Nat) (s : List Nat), s.length ≤ n → s.length ≤ f → s.length ≤ f' → toks f t room s = toks f' t room s := by
  induction n with
  | zero =>
    intro f f' t room s h _ _
    obtain rfl := List.eq_nil_of_length_eq_zero (Nat.le_zero.1 h)
    rw [toks_nil', toks_nil']
  | succ n ih =>
    intro f f' t room s hn hf hf'
    rcases s with _ | ⟨x, r⟩
    · rw [toks_nil', toks_nil']
    rcases f with _ | f
    · simp at hf
    rcases f' with _ | f'
    · simp at hf'
    rw [toks, toks]
    rcases hk : tok t room (x :: r) with e | ⟨t', room', r'⟩
    · rfl
    · have hs := tok_short hk
      simp only [List.length_cons] at hn hf hf'
      exact ih f f' t' room' r' (by omega) (by omega) (by omega)
/-- The tokens. -/
def tkn (t : List Nat) (room : Nat) (s : List Nat) : Except Int (List Nat) := toks s.length t room s
theorem tk_nil (t : List Nat) (room : Nat) : tkn t room [] = .ok t := rfl
theorem tk_cons (t : List Nat) (room x : Nat) (r : List Nat) : tkn t room (x :: r) = match tok t room (x :: r) with | .error e => .error e | .ok (t', room', r') => tkn t' room' r' := by
  unfold tkn
  rw [List.length_cons, toks]
  rcases hk : tok t room (x :: r) with e | ⟨t', room', r'⟩
  · rfl
  · exact toks_fuel r.length _ _ _ _ _ (tok_short hk) (tok_short hk) (Nat.le_refl _)
theorem tk_lt : ∀ (n : Nat) (l t s : List Nat) (room : Nat), l.length ≤ n → tkn t room (lt n l ++ s) = if l.length ≤ room then tkn (t ++ l) (room - l.length) s else .error 5
  | 0, l, t, s, room, h => by
    obtain rfl := List.eq_nil_of_length_eq_zero (Nat.le_zero.1 h)
    rw [lt]; simp
  | n + 1, l, t, s, room, h => by
    rw [lt]
    by_cases h0 : l = []
    · rw [if_pos h0, h0]; simp
    · have hp := List.length_pos_iff.2 h0
      rw [if_neg h0]
      have e1 : [min l.length 127] ++ (l.take 127 ++ lt n (l.drop 127)) ++ s = min l.length 127 :: (l.take 127 ++ (lt n (l.drop 127) ++ s)) := by simp
      rw [e1, tk_cons]
      have hk : tok t room (min l.length 127 :: (l.take 127 ++ (lt n (l.drop 127) ++ s))) = if room < min l.length 127 then .error 5 else .ok (t ++ l.take 127, room - min l.length 127, lt n (l.drop 127) ++ s) := by
        have hl : (l.take 127).length = min l.length 127 := by rw [List.length_take]; omega
        rw [tok, if_neg (by omega), if_pos (by omega), lit, if_neg (by rw [List.length_append, hl]; omega)]
        rw [← hl, List.take_left, List.drop_left]
      rw [hk]
      by_cases hr : room < min l.length 127
      · rw [if_pos hr, if_neg (by omega)]
      · rw [if_neg hr]
        show tkn (t ++ l.take 127) (room - min l.length 127) (lt n (l.drop 127) ++ s) = _
        rw [tk_lt n (l.drop 127) _ s _ (by rw [List.length_drop]; omega), List.length_drop, List.append_assoc, List.take_append_drop]
        by_cases h2 : l.length ≤ room
        · rw [if_pos (by omega), if_pos h2, show room - min l.length 127 - (l.length - 127) = room - l.length by omega]
        · rw [if_neg (by omega), if_neg h2]
theorem mat_enc (n d : Nat) (t s : List Nat) (room : Nat) (h0 : 1 ≤ d) (h1 : d ≤ 4096) (h2 : d ≤ t.length) : mat n t room (enc d ++ s) = if room < n then .error 5 else .ok (cp d t n, room - n, s) := by
  have hr : rd 8 0 0 ((enc d ++ s).take 8) = (d, (enc d).length, 0) := by
    rw [rd_take]
    have h := rd_enc s 7 0 0 d (by omega) (.inr rfl) (by unfold top; omega)
    rw [h]; simp
  have hl : (enc d).length ≤ 8 := enc_le8 (by unfold top; omega)
  unfold mat
  rw [dNum_ok hr]
  show (if d = 0 ∨ 4096 < d ∨ t.length < d then _ else _) = _
  rw [if_neg (by omega)]
  have e : ((enc d ++ s).take 8).length - (((enc d ++ s).take 8).drop (enc d).length).length = (enc d).length := by
    rw [List.length_drop, List.length_take, List.length_append]; omega
  rw [e, List.drop_left]
theorem tk_match (n d : Nat) (t s : List Nat) (room : Nat) (h0 : 1 ≤ d) (h1 : d ≤ 4096) (h2 : d ≤ t.length) (h3 : 4 ≤ n) : tkn t room ([124 + n] ++ (enc d ++ s)) = if n ≤ room then tkn (cp d t n) (room - n) s else .error 5 := by
  have e1 : [124 + n] ++ (enc d ++ s) = (124 + n) :: (enc d ++ s) := rfl
  rw [e1, tk_cons, tok, if_neg (by omega), if_neg (by omega), show 124 + n - 124 = n by omega, mat_enc n d t s room h0 h1 h2]
  by_cases hr : room < n
  · rw [if_pos hr, if_neg (by omega)]
  · rw [if_neg hr, if_pos (by omega)]
theorem cm_same (x : List Nat) (p a : Nat) : ∀ f n i, n ≤ i → i < cm x p a f n → a + i < x.length ∧ x.getD (p + i) 0 = x.getD (a + i) 0
  | 0, n, i, h, h' => by rw [cm] at h'; omega
  | f + 1, n, i, h, h' => by
    rw [cm] at h'
    split at h'
    · rename_i hc
      by_cases hi : i = n
      · subst hi; exact hc
      · exact cm_same x p a f (n + 1) i (by omega) h'
    · omega
theorem bst_cm (x : List Nat) (a : Nat) : ∀ d, (bst x a d).2 = 0 ∨ (1 ≤ (bst x a d).1 ∧ cm x (a - (bst x a d).1) a 131 0 = (bst x a d).2)
  | 0 => .inl rfl
  | d + 1 => by
    rw [bst]
    split
    · exact .inr ⟨by simp, rfl⟩
    · exact bst_cm x a d
theorem cp_take (x : List Nat) (a d n : Nat) (h0 : 1 ≤ d) (h1 : d ≤ a) (hs : ∀ i, i < n → a + i < x.length ∧ x.getD (a - d + i) 0 = x.getD (a + i) 0) : ∀ i, i ≤ n → cp d (x.take a) i = x.take (a + i)
  | 0, _ => rfl
  | i + 1, h => by
    have ih := cp_take x a d n h0 h1 hs i (by omega)
    obtain ⟨h2, h3⟩ := hs i (by omega)
    have hl : (x.take (a + i)).length = a + i := by rw [List.length_take]; omega
    rw [cp, ih, hl, ← Nat.add_assoc, List.take_succ_eq_append_getElem h2]
    congr 2
    rw [show a + i - d = a - d + i by omega, List.getD_eq_getElem?_getD, List.getElem?_take, if_pos (by omega), ← List.getD_eq_getElem?_getD, h3, List.getD_eq_getElem?_getD, List.getElem?_eq_getElem h2]
    rfl
theorem tk_en (x s : List Nat) : ∀ (f a : Nat) (l t : List Nat) (room : Nat), x.length - a ≤ f → a ≤ x.length → t ++ l = x.take a →
    tkn t room (en x f a l ++ s) = if x.length - t.length ≤ room then tkn x (room - (x.length - t.length)) s else .error 5
  | 0, a, l, t, room, hf, ha, ht => by
    obtain rfl : a = x.length := by omega
    rw [List.take_length] at ht
    have hl : l.length = x.length - t.length := by rw [← ht, List.length_append]; omega
    rw [en, tk_lt _ _ _ _ _ (Nat.le_refl _), ht, hl]
  | f + 1, a, l, t, room, hf, ha, ht => by
    have hta : t.length + l.length = a := by rw [← List.length_append, ht, List.length_take]; omega
    rw [en]
    by_cases hax : a < x.length
    · rw [if_pos hax]
      by_cases hb : (bst x a (min 4096 a)).2 = 0
      · rw [if_pos hb]
        refine tk_en x s f (a + 1) _ t room (by omega) (by omega) ?_
        rw [← List.append_assoc, ht, List.take_succ_eq_append_getElem hax]
        congr 2
        rw [List.getD_eq_getElem?_getD, List.getElem?_eq_getElem hax]; rfl
      · rw [if_neg hb]
        obtain ⟨h1, h2, h3⟩ := bst_ok x a (min 4096 a)
        obtain ⟨h4, h5⟩ := (bst_cm x a (min 4096 a)).resolve_left hb
        obtain ⟨D, hD⟩ : ∃ D, (bst x a (min 4096 a)).1 = D := ⟨_, rfl⟩
        obtain ⟨n, hn⟩ : ∃ n, (bst x a (min 4096 a)).2 = n := ⟨_, rfl⟩
        rw [hD, hn] at h5
        rw [hD] at h1 h4
        rw [hn] at hb h2 h3
        rw [hD, hn]
        have hs := fun i (hi : i < n) => cm_same x (a - D) a 131 0 i (Nat.zero_le _) (by rw [h5]; exact hi)
        have hcp := cp_take x a D n h4 (by omega) hs n (Nat.le_refl _)
        have han : a + n ≤ x.length := by have := (hs (n - 1) (by omega)).1; omega
        have hlta : (x.take a).length = a := by rw [List.length_take]; omega
        have hltn : (x.take (a + n)).length = a + n := by rw [List.length_take]; omega
        have e : lt l.length l ++ ([124 + n] ++ (enc D ++ en x f (a + n) [])) ++ s = lt l.length l ++ ([124 + n] ++ (enc D ++ (en x f (a + n) [] ++ s))) := by simp
        rw [e, tk_lt _ _ _ _ _ (Nat.le_refl _), ht, tk_match n D _ _ _ h4 (by omega) (by rw [hlta]; omega) (by omega), hcp, tk_en x s f (a + n) [] _ _ (by omega) han (List.append_nil _), hltn]
        by_cases q1 : l.length ≤ room
        · rw [if_pos q1]
          by_cases q2 : n ≤ room - l.length
          · rw [if_pos q2]
            by_cases q3 : x.length - (a + n) ≤ room - l.length - n
            · rw [if_pos q3, if_pos (by omega), show room - l.length - n - (x.length - (a + n)) = room - (x.length - t.length) by omega]
            · rw [if_neg q3, if_neg (by omega)]
          · rw [if_neg q2, if_neg (by omega)]
        · rw [if_neg q1, if_neg (by omega)]
    · obtain rfl : a = x.length := by omega
      rw [if_neg hax]
      rw [List.take_length] at ht
      have hl : l.length = x.length - t.length := by rw [← ht, List.length_append]; omega
      rw [tk_lt _ _ _ _ _ (Nat.le_refl _), ht, hl]
theorem tk_enc (d b s : List Nat) (room : Nat) : tkn d room (encL d b ++ s) = if b.length ≤ room then tkn (d ++ b) (room - b.length) s else .error 5 := by
  unfold encL
  have h := tk_en (d ++ b) s b.length d.length [] d room (by rw [List.length_append]; omega) (by rw [List.length_append]; omega) (by simp)
  have e : (d ++ b).length - d.length = b.length := by rw [List.length_append]; omega
  rw [e] at h
  exact h
theorem dec_tk {d b : List Nat} {M : Nat} (hd : B8 d) (hb : B8 b) : decL d b M = match tkn d M b with | .error e => .error e | .ok t => .ok (t.drop d.length) := dec_whole hd hb
theorem dec_enc {d b : List Nat} (M : Nat) (hd : B8 d) (hb : B8 b) : decL d (encL d b) M = if b.length ≤ M then .ok b else .error 5 := by
  have h := tk_enc d b [] M
  rw [List.append_nil] at h
  rw [dec_tk hd (encL_b8 hd hb), h]
  by_cases hm : b.length ≤ M
  · rw [if_pos hm, if_pos hm, tk_nil]
    show Except.ok ((d ++ b).drop d.length) = _
    rw [List.drop_left]
  · rw [if_neg hm, if_neg hm]
theorem dec_two {d a b : List Nat} (hd : B8 d) (ha : B8 a) (hb : B8 b) : decL d (encL d a ++ encL (d ++ a) b) ((a.length + b.length : Nat) : Int) = .ok (a ++ b) := by
  have h2 := tk_enc (d ++ a) b [] b.length
  rw [List.append_nil, if_pos (Nat.le_refl _), tk_nil] at h2
  rw [dec_tk hd ((encL_b8 hd ha).append (encL_b8 (hd.append ha) hb)), tk_enc d a _ _, if_pos (by omega), show a.length + b.length - a.length = b.length by omega, h2]
  show Except.ok ((d ++ a ++ b).drop d.length) = _
  rw [List.append_assoc, List.drop_left]
end Go.Proofs.Ytldlddoealpomaa

namespace Go.Proofs.Ytldlddoealpomaa
open Go.RowKit Go.Lib

theorem cm_reach (x : List Nat) (p a m : Nat) : ∀ f n, (∀ i, n ≤ i → i < m → a + i < x.length ∧ x.getD (p + i) 0 = x.getD (a + i) 0) → m ≤ n + f → m ≤ cm x p a f n
  | 0, n, _, h => by rw [cm]; omega
  | f + 1, n, hs, h => by
    by_cases hn : n < m
    · rw [cm, if_pos (hs n (Nat.le_refl _) hn)]
      exact cm_reach x p a m f (n + 1) (fun i h1 h2 => hs i (by omega) h2) (by omega)
    · exact Nat.le_trans (by omega) (cm_ge x p a (f + 1) n)
theorem bst_max (x : List Nat) (a e : Nat) (h1 : 1 ≤ e) (h4 : 4 ≤ cm x (a - e) a 131 0) : ∀ d, e ≤ d → cm x (a - e) a 131 0 ≤ (bst x a d).2
  | 0, h => by omega
  | d + 1, h => by
    rw [bst]
    by_cases he : e = d + 1
    · subst he
      split
      · exact Nat.le_refl _
      · rename_i hc
        omega
    · have ih := bst_max x a e h1 h4 d (by omega)
      split
      · rename_i hc; exact Nat.le_trans ih (Nat.le_of_lt hc.2)
      · exact ih
theorem en_end (x : List Nat) (f : Nat) : en x f x.length [] = [] := by
  cases f
  · rw [en, lt_nil]
  · rw [en, if_neg (Nat.lt_irrefl _), lt_nil]
theorem enc_knows (d b : List Nat) (h4 : 4 ≤ b.length) (h5 : b.length ≤ 131) : ∃ y : List Nat, encL (d ++ b) b = (124 + b.length) :: y ∧ 1 ≤ y.length ∧ y.length ≤ 3 := by
  obtain ⟨x, hx⟩ : ∃ x, d ++ b ++ b = x := ⟨_, rfl⟩
  obtain ⟨a, ha⟩ : ∃ a, (d ++ b).length = a := ⟨_, rfl⟩
  have hda : d.length + b.length = a := by rw [← ha, List.length_append]
  have hxl : x.length = a + b.length := by rw [← hx, List.length_append, ha]
  have hg : ∀ i, i < b.length → x.getD (a - b.length + i) 0 = x.getD (a + i) 0 := fun i hi => by
    have e1 : x.getD (a + i) 0 = b.getD i 0 := by rw [← hx, ← ha, getD_right]
    have e2 : x.getD (a - b.length + i) 0 = b.getD i 0 := by
      rw [← hx, List.append_assoc, show a - b.length + i = d.length + i by omega, getD_right]
      rw [List.getD_eq_getElem?_getD, List.getElem?_append_left hi, ← List.getD_eq_getElem?_getD]
    rw [e1, e2]
  have hc := cm_reach x (a - b.length) a b.length 131 0 (fun i _ hi => ⟨by omega, hg i hi⟩) (by omega)
  have hm := bst_max x a b.length (by omega) (by omega) (min 4096 a) (by omega)
  have hin := bst_in (x := x) (a := a) (min 4096 a)
  have hb : (bst x a (min 4096 a)).2 = b.length := by omega
  obtain ⟨f, hf⟩ : ∃ f, b.length = f + 1 := ⟨b.length - 1, by omega⟩
  have hok := bst_ok x a (min 4096 a)
  refine ⟨enc (bst x a (min 4096 a)).1, ?_, enc_pos _, Nat.le_trans (enc_le (f := 1) (by omega)) (by omega)⟩
  unfold encL
  rw [hx, ha]
  have e : en x b.length a [] = en x (f + 1) a [] := by rw [hf]
  rw [e, en, if_pos (by omega), hb, if_neg (by omega), lt_nil, ← hxl, en_end]
  simp
theorem small_one (A : Option Addr) (n c : Nat) (w : World) (hn : n ≤ 9223372036854775807) :
    Calls Try.prog 11 #[.slice (some ⟨w.heap.size, 0, none⟩) 1 1] (w.alloc (.cells #[.slice A n c] 22)) (fun e w' => e = .returned (.bool (decide (n ≤ 400))) ∧ w.alloc (.cells #[.slice A n c] 22) = w') := by
  have h := small_any [(A, n, c)] w.heap.size 1 (w.alloc (.cells #[.slice A n c] 22)) (heap_alloc_new _ _) (by simp) (fun x hx => by rw [List.mem_singleton.1 hx]; exact hn)
  have e : decide (∀ x ∈ [(A, n, c)], x.2.1 ≤ 400) = decide (n ≤ 400) := by simp
  rw [e] at h
  exact h
set_option maxHeartbeats 4000000 in
set_option maxRecDepth 100000 in
theorem knows_walk (d b : List Nat) (v u : Value) (w : World) (hv : Byt w v d) (hn : NilOk v) (hu : Byt w u b) (hun : NilOk u) : Calls Try.prog 9 #[v, u] w (GoodB w) := by
  have hld := byt_len hv
  have hlb := byt_len hu
  have HV := hid hv
  have HU := hid hu
  have HVN := hid hn
  have HUN := hid hun
  obtain ⟨A, c, rfl⟩ := byt_form hv
  obtain ⟨B, c', rfl⟩ := byt_form hu
  have hal := al1 w (.cells #[.slice A d.length c] 22)
  have HAL := hid hal
  have HS := hid (small_one A d.length c w hld)
  have HK := hid (enc_knows d b)
  obtain ⟨n, hnn⟩ : ∃ n, d.length = n := ⟨_, rfl⟩
  obtain ⟨m, hmm⟩ : ∃ m, b.length = m := ⟨_, rfl⟩
  have HNN := hid hnn
  have HMM := hid hmm
  rw [hnn] at HV HVN HAL HS hld ⊢
  rw [hmm] at HU HUN HK hlb ⊢
  obtain ⟨W1, hW1⟩ : ∃ W, w.alloc (.cells #[.slice A n c] 22) = W := ⟨_, rfl⟩
  rw [hW1] at HAL HS
  have HW1 := hid hW1
  clear hv hn hu hun hal hnn hmm hW1
  by_cases hsm : n ≤ 400
  · rw [decide_eq_true hsm] at HS
    by_cases h4 : m < 4
    · have d4 : (m : Int) < 4 := by omega
      go_enter Try.func9, Try.ntmps9
      go_wp2_with fail
      rw [HW1.out]
      refine HS.out.mono ?_
      rintro e w2 ⟨rfl, hw2⟩
      rw [hw2] at HAL
      clear hw2 HS HW1
      go_wp2_with fail
      refine (awake_any _).mono ?_
      rintro e w3 ⟨rfl, hb3⟩
      have HB3 := hid (HAL.out.trans (hb3.mono HAL.out.size))
      clear hb3
      go_wp2_with fail
      go_ret
      exact ⟨rfl, HB3.out⟩
    · have d4 : ¬ (m : Int) < 4 := by omega
      by_cases h5 : 131 < m
      · have d5 : (131 : Int) < (m : Int) := by omega
        go_enter Try.func9, Try.ntmps9
        go_wp2_with fail
        rw [HW1.out]
        refine HS.out.mono ?_
        rintro e w2 ⟨rfl, hw2⟩
        rw [hw2] at HAL
        clear hw2 HS HW1
        go_wp2_with fail
        refine (awake_any _).mono ?_
        rintro e w3 ⟨rfl, hb3⟩
        have HB3 := hid (HAL.out.trans (hb3.mono HAL.out.size))
        clear hb3
        go_wp2_with fail
        go_ret
        exact ⟨rfl, HB3.out⟩
      · have d5 : ¬ (131 : Int) < (m : Int) := by omega
        obtain ⟨y, hy, hy1, hy2⟩ := HK.out (by omega) (by omega)
        have HY := hid hy
        clear hy HK
        go_enter Try.func9, Try.ntmps9
        go_wp2_with fail
        rw [HW1.out]
        refine HS.out.mono ?_
        rintro e w2 ⟨rfl, hw2⟩
        rw [hw2] at HAL
        clear hw2 HS HW1
        have hale := al1 w2 (.cells #[] 5)
        have HBE := hid (HAL.out.trans (hale.mono HAL.out.size))
        have HOE := hid (own_empty w2)
        have hbs := hale.size
        obtain ⟨WE, hWE⟩ : ∃ W, w2.alloc (.cells #[] 5) = W := ⟨_, rfl⟩
        rw [hWE] at HBE HOE hbs
        have HWE := hid hWE
        have hws := HAL.out.size
        clear hWE hale
        go_wp2_with (first | (at_builtin; rw [HWE.out]; refine append_byt rfl (.tmp 22) (.tmp 23) rfl w2.heap.size (.slice (some ⟨w2.heap.size, 0, none⟩) 0 0) 0 [] rfl HOE.out d _ rfl (HV.out.below HBE.out) HVN.out (by rw [HNN.out]; omega) hbs ?_; intro v3 w3 ho3 hg3; have HB3 := hid (below_own HBE.out HOE.out hg3 (by omega) (by omega)); have HO3 := hid ho3; have hs3 := hg3.size; clear ho3 hg3) | (at_builtin; refine append_byt rfl (.tmp 24) (.tmp 25) rfl w2.heap.size v3 (0 + d.length) _ rfl HO3.out b _ rfl (HU.out.below HB3.out) HUN.out (by rw [HNN.out, HMM.out]; omega) (by omega) ?_; intro v4 w4 ho4 hg4; have HB4 := hid (below_own HB3.out HO3.out hg4 (by omega) (by omega)); have HO4 := hid ho4; clear ho4 hg4))
        have hv4 : w4.ownsRow w2.heap.size 5 1 v4 (d ++ b).length ((d ++ b).map byteV) := by
          have h := HO4.out
          rw [List.nil_append, Nat.zero_add, ← List.length_append, ← List.map_append] at h
          exact h
        have HV4 := hid (byt_of_own hv4 (HV.out.1.append HU.out.1))
        have HC := hid (encode_said (d ++ b) b v4 _ w4 HV4.out (own_nilOk hv4) (HU.out.below HB4.out) HUN.out (by rw [List.length_append, HNN.out, HMM.out]; omega) (by rw [HMM.out]; omega))
        have H8 := hid (encL_b8 (HV.out.1.append HU.out.1) HU.out.1)
        rw [HY.out] at HC H8
        clear hv4 HO4 HO3 HB3 HOE HBE HWE
        refine HC.out.mono ?_
        rintro e w5 ⟨v5, rfl, ho5, hb5⟩
        have HB5 := hid (HB4.out.trans (hb5.mono HB4.out.size))
        have HV5 := hid (byt_of_own ho5 H8.out)
        clear ho5 hb5 HC HB4
        go_wp2_with fail
        refine (awake_any _).mono ?_
        rintro e w6 ⟨rfl, hb6⟩
        have HB6 := hid (HB5.out.trans (hb6.mono HB5.out.size))
        have hv6 := HV5.out.below hb6
        obtain ⟨k, hk⟩ : ∃ k, ((124 + m) :: y).length = k := ⟨_, rfl⟩
        have hk2 : k = y.length + 1 := by rw [← hk]; rfl
        obtain ⟨A5, c5, rfl⟩ := byt_form hv6
        obtain ⟨b5, o5, rfl, hlt5, hc5⟩ := byt_at hv6 (by simp)
        have p0 : w6.cell? ⟨b5, o5, none⟩ = some (.int .u8 ((124 + m : Nat) : Int)) := hc5 0 _ rfl
        rw [hk]
        clear hb6 hv6 hc5 hk HV5 HB5
        have e1 : (2 : Int) ≤ (k : Int) := by omega
        have e2 : (k : Int) ≤ 4 := by omega
        have e3 : IntKind.i64.wrap (128 + (m : Int)) = 128 + (m : Int) := by rw [IntKind.wrap_i64]; omega
        have e4 : IntKind.i64.wrap (128 + (m : Int) - 4) = ((124 + m : Nat) : Int) := by rw [IntKind.wrap_i64]; omega
        have e5 : IntKind.i64.wrap ((124 + m : Nat) : Int) = ((124 + m : Nat) : Int) := by rw [IntKind.wrap_i64]; omega
        obtain ⟨z, hz⟩ : ∃ z, 124 + m = z := ⟨_, rfl⟩
        rw [hz] at p0 e4 e5
        go_wp2_with fail
        go_ret
        exact ⟨rfl, HB6.out⟩
  · rw [decide_eq_false hsm] at HS
    go_enter Try.func9, Try.ntmps9
    go_wp2_with fail
    rw [HW1.out]
    refine HS.out.mono ?_
    rintro e w2 ⟨rfl, hw2⟩
    rw [hw2] at HAL
    clear hw2 HS HW1
    go_wp2_with fail
    refine (awake_any _).mono ?_
    rintro e w3 ⟨rfl, hb3⟩
    have HB3 := hid (HAL.out.trans (hb3.mono HAL.out.size))
    clear hb3
    go_wp2_with fail
    go_ret
    exact ⟨rfl, HB3.out⟩
end Go.Proofs.Ytldlddoealpomaa
