/- Encode and the reference's: the same tokens. -/
import Derived.Test.YtldlddoealpomaaFk
namespace Go.Proofs.Ytldlddoealpomaa
open Go.RowKit Go.Lib

theorem getD_right (p x : List Nat) (i : Nat) : (p ++ x).getD (p.length + i) 0 = x.getD i 0 := by
  simp [List.getD_eq_getElem?_getD, List.getElem?_append_right]
theorem cm_shift (p x : List Nat) (q a : Nat) : ∀ f n, cm (p ++ x) (p.length + q) (p.length + a) f n = cm x q a f n
  | 0, n => rfl
  | f + 1, n => by
    unfold cm
    rw [Nat.add_assoc, Nat.add_assoc, getD_right, getD_right, cm_shift p x q a f (n + 1)]
    have e : (p.length + (a + n) < (p ++ x).length) = (a + n < x.length) := by
      rw [List.length_append]; exact propext ⟨fun h => by omega, fun h => by omega⟩
    simp only [e]
theorem bst_shift (p x : List Nat) (a : Nat) : ∀ d, d ≤ a → bst (p ++ x) (p.length + a) d = bst x a d
  | 0, _ => rfl
  | d + 1, h => by
    unfold bst
    rw [show p.length + a - (d + 1) = p.length + (a - (d + 1)) from by omega, cm_shift, bst_shift p x a d (by omega)]
theorem en_shift (p x : List Nat) : ∀ f a l, (p = [] ∨ 4096 ≤ a) → en (p ++ x) f (p.length + a) l = en x f a l
  | 0, _, _, _ => rfl
  | f + 1, a, l, h => by
    have hm : min 4096 (p.length + a) = min 4096 a := by
      rcases h with rfl | h
      · simp
      · omega
    have e : (p.length + a < (p ++ x).length) = (a < x.length) := by
      rw [List.length_append]; exact propext ⟨fun h => by omega, fun h => by omega⟩
    unfold en
    rw [hm, bst_shift p x a _ (by omega), getD_right, Nat.add_assoc, Nat.add_assoc, en_shift p x f (a + 1) _ (h.imp id (by omega)), en_shift p x f (a + (bst x a (min 4096 a)).2) [] (h.imp id (by omega))]
    simp only [e]
theorem en_fuel (x : List Nat) : ∀ f f' a l, x.length - a ≤ f → x.length - a ≤ f' → en x f a l = en x f' a l
  | 0, f', a, l, h, _ => by
    rcases f' with _ | f'
    · rfl
    · rw [en, en, if_neg (by omega)]
  | f + 1, f', a, l, h, h' => by
    rcases f' with _ | f'
    · rw [en, en, if_neg (by omega)]
    · rw [en, en]
      by_cases ha : a < x.length
      · rw [if_pos ha, if_pos ha]
        by_cases hb : (bst x a (min 4096 a)).2 = 0
        · rw [if_pos hb, if_pos hb, en_fuel x f f' (a + 1) _ (by omega) (by omega)]
        · rw [if_neg hb, if_neg hb, en_fuel x f f' (a + (bst x a (min 4096 a)).2) [] (by omega) (by omega)]
      · rw [if_neg ha, if_neg ha]
/-- What Encode gives. -/
def encL (d b : List Nat) : List Nat := en (d ++ b) b.length d.length []
theorem near_enc (d b : List Nat) : en (near d ++ b) (near d ++ b).length (near d).length [] = encL d b := by
  have hn : near d = d.drop (d.length - 4096) := rfl
  have hd : d.take (d.length - 4096) ++ near d = d := by rw [hn, List.take_append_drop]
  obtain ⟨p, hp⟩ : ∃ p, d.take (d.length - 4096) = p := ⟨_, rfl⟩
  have hpl : p.length = d.length - 4096 := by rw [← hp, List.length_take]; omega
  have hnl : (near d).length = min 4096 d.length := by rw [hn, List.length_drop]; omega
  rw [hp] at hd
  have h : en (p ++ (near d ++ b)) b.length (p.length + (near d).length) [] = en (near d ++ b) b.length (near d).length [] := en_shift p _ _ _ _ (by
    by_cases h0 : d.length ≤ 4096
    · left; exact List.eq_nil_of_length_eq_zero (by omega)
    · right; omega)
  have e1 : en (near d ++ b) (near d ++ b).length (near d).length [] = en (near d ++ b) b.length (near d).length [] := en_fuel _ _ _ _ _ (by rw [List.length_append]; omega) (by rw [List.length_append]; omega)
  have e2 : p.length + (near d).length = d.length := by rw [← List.length_append, hd]
  rw [e2, ← List.append_assoc, hd] at h
  exact e1.trans h.symm
theorem encode_said (d b : List Nat) (v u : Value) (w : World) (hv : Byt w v d) (hn : NilOk v) (hu : Byt w u b) (hun : NilOk u) (hd : d.length ≤ 800000000) (hl : b.length ≤ 800000000) :
    Calls Try.prog 14 #[v, u] w (MadeO w (encL d b)) := by
  rw [← near_enc]; exact encode_any d b v u w hv hn hu hun hd hl
theorem refEncode_said (d b : List Nat) (v u : Value) (w : World) (hv : Byt w v d) (hn : NilOk v) (hu : Byt w u b) (hun : NilOk u) (hd : d.length ≤ 1000000000) (hl : b.length ≤ 1000000000) :
    Calls Try.prog 15 #[v, u] w (MadeO w (encL d b)) := refEncode_any d b v u w hv hn hu hun hd hl
theorem getD_b8x {x : List Nat} (h : B8 x) (i : Nat) : x.getD i 0 < 256 := by
  rw [List.getD_eq_getElem?_getD]
  rcases e : x[i]? with _ | y
  · simp
  · exact h y (List.mem_of_getElem? e)
theorem en_b8 {x : List Nat} (hx : B8 x) : ∀ f a l, B8 l → B8 (en x f a l)
  | 0, _, l, hl => lt_b8 _ _ hl
  | f + 1, a, l, hl => by
    rw [en]
    split
    · split
      · exact en_b8 hx f _ _ (hl.append (fun y hy => by rw [List.mem_singleton] at hy; rw [hy]; exact getD_b8x hx a))
      · have h1 := bst_ok x a (min 4096 a)
        exact (lt_b8 _ _ hl).append (B8.append (fun y hy => by rw [List.mem_singleton] at hy; omega) ((enc_b8 _).append (en_b8 hx f _ _ (fun y hy => by cases hy))))
    · exact lt_b8 _ _ hl
theorem encL_b8 {d b : List Nat} (hd : B8 d) (hb : B8 b) : B8 (encL d b) := en_b8 (hd.append hb) _ _ _ (fun y hy => by cases hy)
theorem encL_len (d b : List Nat) : (encL d b).length ≤ 12 * b.length := by
  have h := en_len (d ++ b) b.length d.length [] (by rw [List.length_append]; omega)
  rw [List.length_append, List.length_nil] at h
  exact Nat.le_trans h (by omega)
theorem ex_abc : encL [] [97, 98, 99, 97, 98, 99, 97, 98, 99, 100] = [3, 97, 98, 99, 130, 3, 1, 100] := by decide +kernel
theorem ex_abcd : encL [97, 98, 99, 100] [97, 98, 99, 100] = [128, 4] := by decide +kernel
end Go.Proofs.Ytldlddoealpomaa
