/- On lists: the reference's decoding is the program's. -/
import Derived.Test.YtldlddoealpomaaN
namespace Go.Proofs.Ytldlddoealpomaa
open Go.RowKit Go.Lib

theorem rd_take : ∀ (f i n : Nat) (s : List Nat), rd f i n (s.take f) = rd f i n s
  | 0, i, n, s => by rw [rd_zero, rd_zero]
  | f + 1, i, n, [] => by rw [List.take_nil]
  | f + 1, i, n, b :: t => by
    rw [List.take_succ_cons, rd_cons, rd_cons, rd_take f]
theorem dNum_take {s : List Nat} : (∀ e, dNum s = .error e → dNum (s.take 8) = .error e) ∧ (∀ v t, B8 s → dNum s = .ok (v, t) → ∃ k, k ≤ s.length ∧ k ≤ 8 ∧ t = s.drop k ∧ dNum (s.take 8) = .ok (v, (s.take 8).drop k)) := by
  have h := rd_take 8 0 0 s
  refine ⟨fun e he => ?_, fun v t h8 he => ?_⟩
  · unfold dNum at he ⊢
    rw [h]
    split at he
    · cases he
    · rename_i hc
      rw [if_neg hc]
      cases he
      rfl
  · unfold dNum at he ⊢
    rw [h]
    split at he
    · rename_i hc
      rw [if_pos hc]
      cases he
      have h1 := rd_len (s := s.take 8) (b8_take h8 8) (v := (rd 8 0 0 s).1) (k := (rd 8 0 0 s).2.1) (by rw [h, ← hc])
      rw [List.length_take] at h1
      exact ⟨_, by omega, by omega, rfl, rfl⟩
    · cases he
/-- A match, the distance read from the whole rest. -/
def matR (n : Nat) (t : List Nat) (room : Nat) (r : List Nat) : Except Int (List Nat × Nat × List Nat) :=
  match dNum r with
  | .error e => .error e
  | .ok (d, b) => if d = 0 ∨ 4096 < d ∨ t.length < d then .error 3 else if room < n then .error 5 else .ok (cp d t n, room - n, b)
theorem matR_eq (n : Nat) (t : List Nat) (room : Nat) (r : List Nat) (h8 : B8 r) : matR n t room r = mat n t room r := by
  unfold matR mat
  rcases h : dNum r with e | ⟨d, b⟩
  · rw [dNum_take.1 e h]
  · obtain ⟨k, hk, hk8, hb, hd⟩ := dNum_take.2 d b h8 h
    rw [hd]
    have e : (r.take 8).length - ((r.take 8).drop k).length = k := by rw [List.length_drop, List.length_take]; omega
    dsimp only
    rw [e, hb]
theorem cp_pre_eq (p : List Nat) {d : Nat} {t : List Nat} (h0 : 0 < d) (hd : d ≤ t.length) : ∀ n, cp d (p ++ t) n = p ++ cp d t n
  | 0 => rfl
  | n + 1 => by
    have hl := cp_len d t n
    rw [cp, cp, cp_pre_eq p h0 hd n, List.append_assoc]
    congr 2
    rw [List.getD_eq_getElem?_getD, List.getD_eq_getElem?_getD, List.length_append, List.getElem?_append_right (by omega)]
    congr 2
    congr 1
    omega
def pre (p : List Nat) : Except Int (List Nat × Nat × List Nat) → Except Int (List Nat × Nat × List Nat)
  | .error e => .error e
  | .ok (t, room, s) => .ok (p ++ t, room, s)
theorem tok_pre (p t : List Nat) (room x : Nat) (r : List Nat) (h : p = [] ∨ 4096 ≤ t.length) : tok (p ++ t) room (x :: r) = pre p (tok t room (x :: r)) := by
  rcases h with rfl | h
  · rw [List.nil_append]
    rcases tok t room (x :: r) with e | ⟨a, b, c⟩ <;> rfl
  · rw [tok_cons, tok_cons]
    by_cases h0 : x = 0
    · rw [if_pos h0, if_pos h0]; rfl
    · rw [if_neg h0, if_neg h0]
      by_cases h1 : x < 128
      · rw [if_pos h1, if_pos h1]
        unfold lit
        by_cases h2 : r.length < x
        · rw [if_pos h2, if_pos h2]; rfl
        · rw [if_neg h2, if_neg h2]
          by_cases h3 : room < x
          · rw [if_pos h3, if_pos h3]; rfl
          · rw [if_neg h3, if_neg h3, pre, List.append_assoc]
      · rw [if_neg h1, if_neg h1]
        unfold mat
        rcases dNum (r.take 8) with e | ⟨d, b⟩
        · rfl
        · dsimp only
          by_cases h2 : d = 0 ∨ 4096 < d
          · rw [if_pos (by omega), if_pos (by omega)]; rfl
          · rw [if_neg (show ¬ (d = 0 ∨ 4096 < d ∨ (p ++ t).length < d) by rw [List.length_append]; omega), if_neg (show ¬ (d = 0 ∨ 4096 < d ∨ t.length < d) by omega)]
            by_cases h3 : room < x - 124
            · rw [if_pos h3, if_pos h3]; rfl
            · rw [if_neg h3, if_neg h3, pre, cp_pre_eq p (by omega) (by omega)]
theorem toks_pre (p : List Nat) : ∀ (f : Nat) (t : List Nat) (room : Nat) (s : List Nat), B8 t → B8 s → (p = [] ∨ 4096 ≤ t.length) → toks f (p ++ t) room s = match toks f t room s with | .error e => .error e | .ok a => .ok (p ++ a)
  | f, t, room, [], _, _, _ => by rw [toks_nil, toks_nil]
  | 0, t, room, x :: r, _, _, _ => rfl
  | f + 1, t, room, x :: r, h8, hs8, h => by
    rcases hx : tok t room (x :: r) with e | ⟨t', room', s'⟩
    · rw [toks_err hx, toks_err (by rw [tok_pre p t room x r h, hx]; rfl)]
    · obtain ⟨k1, _, _, _, k5, k6, _⟩ := tok_ok hx h8 hs8
      rw [toks_ok hx, toks_ok (t' := p ++ t') (room' := room') (s' := s') (by rw [tok_pre p t room x r h, hx]; rfl)]
      exact toks_pre p f t' room' s' k5 k6 (h.imp id (fun h => by omega))
/-- The whole dictionary serves as its near part. -/
theorem dec_whole {d b : List Nat} {M : Nat} (hd : B8 d) (hb : B8 b) : decL d b M = match toks b.length d M b with | .error e => .error e | .ok t => .ok (t.drop d.length) := by
  unfold decL
  rw [if_neg (by omega), Int.toNat_natCast]
  have hp : d = d.take (d.length - 4096) ++ near d := (List.take_append_drop _ d).symm
  have h := toks_pre (d.take (d.length - 4096)) b.length (near d) M b (near_b8 hd) hb (by
    rcases Nat.lt_or_ge d.length 4096 with h | h
    · left; rw [show d.length - 4096 = 0 by omega, List.take_zero]
    · right; unfold near; rw [List.length_drop]; omega)
  rw [← hp] at h
  rw [h]
  obtain ⟨p, hpp⟩ : ∃ p, d.take (d.length - 4096) = p := ⟨_, rfl⟩
  rw [hpp] at hp ⊢
  have hl : d.length = p.length + (near d).length := by rw [← List.length_append, ← hp]
  rcases ht : toks b.length (near d) M b with e | t
  · rfl
  · dsimp only
    rw [hl, ← List.drop_drop, List.drop_left]
end Go.Proofs.Ytldlddoealpomaa
