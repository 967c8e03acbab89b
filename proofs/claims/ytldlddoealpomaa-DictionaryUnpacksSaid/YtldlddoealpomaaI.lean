/- Decoding on lists; reachable. -/
import Derived.Test.YtldlddoealpomaaH
import Derived.StillTailTactics
namespace Go.Proofs.Ytldlddoealpomaa
open Go.RowKit Go.Lib

/-- The part of a dictionary that is near enough. -/
def near (l : List Nat) : List Nat := l.drop (l.length - 4096)
/-- n times, the number that stands d before the end, behind the end. -/
def cp (d : Nat) (t : List Nat) : Nat → List Nat
  | 0 => t
  | n + 1 => cp d t n ++ [(cp d t n).getD ((cp d t n).length - d) 0]
theorem cp_len (d : Nat) (t : List Nat) : ∀ n, (cp d t n).length = t.length + n
  | 0 => rfl
  | n + 1 => by rw [cp, List.length_append, cp_len d t n]; simp; omega
theorem getD_b8 {l : List Nat} (h : B8 l) (i : Nat) : l.getD i 0 < 256 := by
  rw [List.getD_eq_getElem?_getD]
  rcases Nat.lt_or_ge i l.length with hi | hi
  · rw [List.getElem?_eq_getElem hi]; exact h _ (List.getElem_mem hi)
  · rw [List.getElem?_eq_none hi]; decide
theorem cp_b8 (d : Nat) {t : List Nat} (h : B8 t) : ∀ n, B8 (cp d t n)
  | 0 => h
  | n + 1 => (cp_b8 d h n).append (fun x hx => by
      rw [List.mem_singleton] at hx
      rw [hx]
      exact getD_b8 (cp_b8 d h n) _)
/-- n literals. -/
def lit (n : Nat) (t : List Nat) (room : Nat) (r : List Nat) : Except Int (List Nat × Nat × List Nat) :=
  if r.length < n then .error 10 else if room < n then .error 5 else .ok (t ++ r.take n, room - n, r.drop n)
/-- A match of n. -/
def mat (n : Nat) (t : List Nat) (room : Nat) (r : List Nat) : Except Int (List Nat × Nat × List Nat) :=
  match dNum (r.take 8) with
  | .error e => .error e
  | .ok (d, b) => if d = 0 ∨ 4096 < d ∨ t.length < d then .error 3 else if room < n then .error 5 else .ok (cp d t n, room - n, r.drop ((r.take 8).length - b.length))
/-- A token. -/
def tok (t : List Nat) (room : Nat) : List Nat → Except Int (List Nat × Nat × List Nat)
  | [] => .error 10
  | x :: r => if x = 0 then .error 3 else if x < 128 then lit x t room r else mat (x - 124) t room r
/-- The tokens, by fuel. -/
def toks : Nat → List Nat → Nat → List Nat → Except Int (List Nat)
  | _, t, _, [] => .ok t
  | 0, _, _, _ :: _ => .error 10
  | f + 1, t, room, x :: r => match tok t room (x :: r) with
    | .error e => .error e
    | .ok (t', room', r') => toks f t' room' r'
/-- What Decode answers. -/
def decL (d b : List Nat) (most : Int) : Except Int (List Nat) :=
  if most < 0 then .error 2 else match toks b.length (near d) most.toNat b with
    | .error e => .error e
    | .ok t => .ok (t.drop (near d).length)

theorem byt_cut {w : World} {A : Option Addr} {cap k : Nat} {x : List Nat} (h : Byt w (.slice A x.length cap) x) (hk : k ≤ x.length) : Byt w (.slice A k cap) (x.take k) := by
  obtain ⟨h8, A', c', e, h1, h2, b, off, hA, hc⟩ := h
  injection e with e1 _ e3
  subst e1 e3
  have hl : (x.take k).length = k := by rw [List.length_take]; omega
  refine ⟨fun y hy => h8 y (List.mem_of_mem_take hy), A, cap, by rw [hl], by omega, h2, b, off, fun hp => hA (by omega), fun i y hi => hc i y ?_⟩
  rw [List.getElem?_take] at hi
  split at hi
  · exact hi
  · cases hi
theorem nilOk_from {A : Option Addr} {n c k : Nat} (h : NilOk (.slice A n c)) : NilOk (.slice (fromA A c k) (n - k) (c - k)) := fun n' c' e => by
  injection e with e1 e2 e3
  unfold fromA at e1
  rcases A with _ | ad
  · have := h n c rfl; omega
  · split at e1
    · cases e1
    · cases e1
def NearQ (w : World) (l : List Nat) (e : Ending) (w' : World) : Prop := ∃ r, e = .returned r ∧ w' = w ∧ Byt w r (near l) ∧ NilOk r
set_option maxHeartbeats 2000000 in
set_option maxRecDepth 100000 in
theorem reach_any (l : List Nat) (v : Value) (w : World) (hv : Byt w v l) (hn : NilOk v) (hl : l.length ≤ 900000000000) :
    Calls Try.prog 23 #[v] w (NearQ w l) := by
  obtain ⟨A, c, rfl⟩ := byt_form hv
  have hcc := byt_cap hv
  have HV := hid (byt_from hv (k := l.length - 4096) (by omega))
  have HN := hid (nilOk_from (k := l.length - 4096) hn)
  have hR := fun (k : Nat) (hk : k ≤ l.length) (W : World) => run_slice_from A l.length c k hk W
  have hm : max 0 ((l.length : Int) - 4096) = ((l.length - 4096 : Nat) : Int) := by omega
  have hr1 := hR (l.length - 4096) (by omega) w
  clear hv hn hR
  go_enter Try.func23, Try.ntmps23
  go_wp2
  go_ret
  exact ⟨_, rfl, rfl, HV.out, HN.out⟩
end Go.Proofs.Ytldlddoealpomaa
