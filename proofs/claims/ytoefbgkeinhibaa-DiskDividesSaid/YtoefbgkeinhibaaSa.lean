/- Rows that are written out; what the examples of the chapter come to. -/
import Derived.Test.YtoefbgkeinhibaaRc
namespace Go.Proofs.Ytoefbgkeinhibaa
open Go.RowKit Go.Lib

/-- A row that lies in a block of its own. -/
theorem arr_lit {w : World} {h E st : Nat} {rows : List (List Value)} (hg : w.heap[h]? = some (.cells rows.flatten.toArray E)) (hr : ∀ r ∈ rows, r.length = st) (hm : rows.length ≤ maxLen) : Arr w (.slice (some ⟨h, 0, none⟩) rows.length rows.length) st rows := by
  refine ⟨some ⟨h, 0, none⟩, rows.length, rfl, Nat.le_refl _, hm, h, 0, fun _ => ⟨rfl, box_lt hg⟩, fun i r hi j u hj => ?_⟩
  have hjs : j < st := by rw [← hr r (List.mem_of_getElem? hi)]; exact (List.getElem?_eq_some_iff.1 hj).1
  rw [cell_of_row _ _ _ _ _ _ hg, List.getElem?_toArray, Nat.zero_add, flat_getG hr hi hjs]
  exact hj
theorem sec_lit {w : World} {h : Nat} {l : List Sect} (hs : Secs l) (hm : l.length ≤ 1000000) (hg : w.heap[h]? = some (.cells ((l.map cSec).flatten).toArray 73)) : Sec w (.slice (some ⟨h, 0, none⟩) l.length l.length) l := by
  refine ⟨hs, ?_⟩
  have := arr_lit (st := 8) hg (fun r hr => by obtain ⟨s, hs', rfl⟩ := List.mem_map.1 hr; unfold cSec; rw [List.length_map]; exact (hs s hs').1) (by rw [List.length_map]; unfold maxLen; omega)
  rwa [List.length_map] at this
theorem ints_lit {w : World} {h : Nat} {l : List Int} (hr : ∀ x ∈ l, R64 x) (hm : l.length ≤ 1000000) (hg : w.heap[h]? = some (.cells (l.map intV).toArray 3)) : Ints w (.slice (some ⟨h, 0, none⟩) l.length l.length) l := by
  refine ⟨hr, nilOk_some _ _ _, ?_⟩
  rw [← ints_flat] at hg
  have := arr_lit (st := 1) hg (fun r hr => by obtain ⟨s, _, rfl⟩ := List.mem_map.1 hr; rfl) (by rw [List.length_map]; unfold maxLen; omega)
  rwa [List.length_map] at this
theorem ops_lit {w : World} {h : Nat} {l : List OpT} (hr : ∀ x ∈ l, Sec w x.d x.l ∧ NilOk x.d ∧ R64 x.k ∧ R64 x.a) (hm : l.length ≤ 1000000) (hg : w.heap[h]? = some (.cells ((l.map cOp).flatten).toArray 27)) : OpsA w (.slice (some ⟨h, 0, none⟩) l.length l.length) l := by
  refine ⟨hr, ?_⟩
  have := arr_lit (st := 3) hg (fun r hr => by obtain ⟨s, _, rfl⟩ := List.mem_map.1 hr; rfl) (by rw [List.length_map]; unfold maxLen; omega)
  rwa [List.length_map] at this
def sA : Sect := [1, 0, 0, 0, 0, 0, 0, 0]
def sB : Sect := [2, 0, 0, 0, 0, 0, 0, 0]
def sC : Sect := [3, 0, 0, 0, 0, 0, 0, 0]
theorem secABC {l : List Sect} (h : ∀ s ∈ l, s = sA ∨ s = sB ∨ s = sC ∨ s = zs) : Secs l := fun s hs => by
  rcases h s hs with rfl | rfl | rfl | rfl <;> exact ⟨rfl, by unfold B8; decide⟩
def st3 : List Sect := [zs, zs, zs]
def ca3 : List Ca := [(0, sA), (1, sB), (1, sC)]
theorem aw_run (d e : Value) : runS st3 [] [⟨0, 0, d, [sA, sB]⟩, ⟨0, 1, e, [sC]⟩] = (2, 0, st3, ca3) := rfl
theorem aw_c1 : (crashS st3 ca3 [1, 1]).1 = [sA, sB, zs] := by decide
theorem aw_c2 : (crashS st3 ca3 [4, 5]).1 = [zs, sC, zs] := by decide
theorem aw_c3 : (crashS st3 ca3 []).1 = [zs, zs, zs] := by decide
theorem aw_i1 (d e f : Value) : interS st3 [] [⟨0, 0, d, [sA]⟩, ⟨1, 0, e, []⟩, ⟨0, 0, f, [sB]⟩] 3 [1] = (0, [sB, zs, zs], [], []) := rfl
theorem aw_i2 (d e f : Value) : interS st3 [] [⟨0, 0, d, [sA]⟩, ⟨1, 0, e, []⟩, ⟨0, 0, f, [sB]⟩] 2 [1] = (0, [sA, zs, zs], [], [1]) := rfl
theorem aw_w : wrS st3 [] 3 [sA] = (0, 2, [], []) := rfl
theorem aw_read : readE 3 ca3 0 3 = 0 := by decide
theorem aw_new : newL st3 ca3 = [sA, sC, zs] := rfl
theorem runQ_open {w w' : World} {rn re : Int} {rs : List Sect} {rc : List Ca} {e : Ending} (h : RunQ w (rn, re, rs, rc) e w') : ∃ A c B d, e = .returned (.tuple #[.agg #[.slice A rs.length c, .slice B rc.length d], .int .i64 rn, .int .i64 re]) ∧ OwnG w' w.heap.size rs rc (.agg #[.slice A rs.length c, .slice B rc.length d]) ∧ Below w.heap.size w w' := by
  obtain ⟨v, rfl, ⟨⟨sv, cv, rfl, h1, h2⟩, h3⟩, hb⟩ := h
  dsimp only at h1 h2 h3
  obtain ⟨A, c, rfl⟩ := ownAny_form h1
  obtain ⟨B, d, rfl⟩ := ownAny_form h2
  exact ⟨A, c, B, d, rfl, ⟨⟨_, _, rfl, h1, h2⟩, h3⟩, hb⟩
theorem dk_parts {w : World} {A B : Option Addr} {n c m d : Nat} {st : List Sect} {ca : List Ca} (h : Dk w (.agg #[.slice A n c, .slice B m d]) st ca) : Sec w (.slice A n c) st ∧ NilOk (.slice A n c) ∧ Cas w (.slice B m d) ca := by
  obtain ⟨sv, cv, e9, q1, q2, q3⟩ := h
  injection e9 with e9
  injection e9 with e9
  injection e9 with e91 e9
  injection e9 with e92 _
  subst e91 e92
  exact ⟨q1, q2, q3⟩
theorem new3 (W : World) : Calls Try.prog 20 #[.int .i64 3] W fun e w' => ∃ A c B d, e = .returned (.tuple #[.agg #[.slice A 3 c, .slice B 0 d], .int .i64 0]) ∧ OwnG w' W.heap.size st3 [] (.agg #[.slice A 3 c, .slice B 0 d]) ∧ Below W.heap.size W w' := by
  refine (new_any 3 W).mono ?_
  rintro e w' ⟨⟨k, hk, _, v, rfl, sv, cv, rfl, h1, h2⟩ | ⟨hq, _⟩, hb⟩
  · obtain rfl : k = 3 := by omega
    obtain ⟨A, c, rfl⟩ := ownAny_form h1
    obtain ⟨B, d, rfl⟩ := ownAny_form h2
    exact ⟨A, c, B, d, rfl, ⟨⟨_, _, rfl, h1, h2⟩, secABC (by decide), (fun x (hx : x ∈ []) => by cases hx)⟩, hb⟩
  · exact absurd hq (by decide)
theorem aw_call3 {X : World} {A B : Option Addr} {c d h3 h6 h8 : Nat} (hd : Dk X (.agg #[.slice A 3 c, .slice B 0 d]) st3 []) (z3 : X.heap[h3]? = some (.cells #[.int .u8 1, .int .u8 0, .int .u8 0, .int .u8 0, .int .u8 0, .int .u8 0, .int .u8 0, .int .u8 0, .int .u8 2, .int .u8 0, .int .u8 0, .int .u8 0, .int .u8 0, .int .u8 0, .int .u8 0, .int .u8 0] 73)) (z6 : X.heap[h6]? = some (.cells #[.int .u8 3, .int .u8 0, .int .u8 0, .int .u8 0, .int .u8 0, .int .u8 0, .int .u8 0, .int .u8 0] 73)) (z8 : X.heap[h8]? = some (.cells #[.int .i64 0, .int .i64 0, .slice (some ⟨h3, 0, none⟩) 2 2, .int .i64 0, .int .i64 1, .slice (some ⟨h6, 0, none⟩) 1 1] 27)) :
    Calls Try.prog 29 #[.agg #[.slice A 3 c, .slice B 0 d], .slice (some ⟨h8, 0, none⟩) 2 2] X fun e w' => ∃ A c B d, e = .returned (.tuple #[.agg #[.slice A 3 c, .slice B 3 d], .int .i64 2, .int .i64 0]) ∧ OwnG w' X.heap.size st3 ca3 (.agg #[.slice A 3 c, .slice B 3 d]) ∧ Below X.heap.size X w' := by
  obtain ⟨q1, q2, q3⟩ := dk_parts hd
  have s3 : Sec X (.slice (some ⟨h3, 0, none⟩) 2 2) [sA, sB] := sec_lit (l := [sA, sB]) (secABC (by decide)) (by decide) z3
  have s6 : Sec X (.slice (some ⟨h6, 0, none⟩) 1 1) [sC] := sec_lit (l := [sC]) (secABC (by decide)) (by decide) z6
  have ho : OpsA X (.slice (some ⟨h8, 0, none⟩) 2 2) [⟨0, 0, .slice (some ⟨h3, 0, none⟩) 2 2, [sA, sB]⟩, ⟨0, 1, .slice (some ⟨h6, 0, none⟩) 1 1, [sC]⟩] := ops_lit (l := [⟨0, 0, .slice (some ⟨h3, 0, none⟩) 2 2, [sA, sB]⟩, ⟨0, 1, .slice (some ⟨h6, 0, none⟩) 1 1, [sC]⟩]) (fun x hx => by
    rcases List.mem_cons.1 hx with rfl | hx
    · exact ⟨s3, nilOk_some _ _ _, (⟨by decide, by decide⟩ : R64 0), (⟨by decide, by decide⟩ : R64 0)⟩
    · rw [List.mem_singleton] at hx
      subst hx
      exact ⟨s6, nilOk_some _ _ _, (⟨by decide, by decide⟩ : R64 0), (⟨by decide, by decide⟩ : R64 1)⟩) (by simp) z8
  refine (run_any st3 [] _ _ _ _ X q1 q2 q3 ho (by simp [tot])).mono ?_
  rw [aw_run]
  exact fun e w' h => runQ_open h
theorem aw_crash {X : World} {A B : Option Addr} {c d : Nat} {lv : Value} {ch : List Int} {l : List Sect} (hd : Dk X (.agg #[.slice A 3 c, .slice B 3 d]) st3 ca3) (hl : Ints X lv ch) (hll : ch.length ≤ 1000) (hc : (crashS st3 ca3 ch).1 = l) :
    Calls Try.prog 41 #[.agg #[.slice A 3 c, .slice B 3 d], lv] X fun e w' => ∃ A c, e = .returned (.slice A l.length c) ∧ Sec w' (.slice A l.length c) l ∧ Below X.heap.size X w' := by
  obtain ⟨q1, q2, q3⟩ := dk_parts hd
  refine (crashed_any st3 ca3 _ _ lv ch X q1 q2 q3 hl (by decide) (by decide) (by omega)).mono ?_
  rw [hc]
  rintro e w' ⟨v, rfl, ho, hs, hb⟩
  obtain ⟨A, c, rfl⟩ := ownAny_form ho
  exact ⟨A, c, rfl, sec_of_own ho hs, hb⟩
theorem aw_same {X : World} {v u : Value} {l : List Sect} (h1 : Sec X v l) (h2 : Sec X u l) : Calls Try.prog 19 #[v, u] X fun e w' => e = .returned (.bool true) ∧ Below X.heap.size X w' := by
  refine (eqSame_any l l v u X h1.2 h2.2 h1.1 h1.1).mono ?_
  rintro e w' ⟨rfl, m, rfl⟩
  exact ⟨by rw [decide_eq_true rfl], below_drewN (Below.refl _ _) m⟩
theorem r11 : ∀ x ∈ [(1 : Int), 1], R64 x := fun x hx => by
  rcases List.mem_cons.1 hx with rfl | hx
  · exact ⟨by decide, by decide⟩
  · rw [List.mem_singleton] at hx; subst hx; exact ⟨by decide, by decide⟩
theorem r45 : ∀ x ∈ [(4 : Int), 5], R64 x := fun x hx => by
  rcases List.mem_cons.1 hx with rfl | hx
  · exact ⟨by decide, by decide⟩
  · rw [List.mem_singleton] at hx; subst hx; exact ⟨by decide, by decide⟩
theorem ints_none0 (w : World) : Ints w (.slice none 0 0) [] := ⟨(fun x (hx : x ∈ []) => by cases hx), nilOk_nil, arr_nil _ _⟩
theorem aw_call16 {X : World} {A B : Option Addr} {c d : Nat} (hd : Dk X (.agg #[.slice A 3 c, .slice B 3 d]) st3 ca3) :
    Calls Try.prog 16 #[.agg #[.slice A 3 c, .slice B 3 d], .agg #[.int .i64 0, .int .i64 3]] X fun e w' => ∃ A c, e = .returned (.tuple #[.slice A 3 c, .int .i64 0]) ∧ Sec w' (.slice A 3 c) [sA, sC, zs] ∧ Below X.heap.size X w' := by
  obtain ⟨q1, q2, q3⟩ := dk_parts hd
  refine (read_any st3 ca3 _ _ 0 3 X q1 q2 q3 (⟨by decide, by decide⟩ : R64 0) (⟨by decide, by decide⟩ : R64 3)).mono ?_
  rintro e w' ⟨hb, ⟨er, h1, h2, _⟩ | ⟨_, v, rfl, hs⟩⟩
  · exact absurd (h1.symm.trans aw_read) h2
  · have hs : Sec w' v [sA, sC, zs] := hs
    obtain ⟨A, c, rfl⟩ := sec_form hs
    exact ⟨A, c, rfl, hs, hb⟩
theorem aw_ops {X : World} {h1 h2 h3 : Nat} (z1 : X.heap[h1]? = some (.cells #[.int .u8 1, .int .u8 0, .int .u8 0, .int .u8 0, .int .u8 0, .int .u8 0, .int .u8 0, .int .u8 0] 73)) (z2 : X.heap[h2]? = some (.cells #[.int .u8 2, .int .u8 0, .int .u8 0, .int .u8 0, .int .u8 0, .int .u8 0, .int .u8 0, .int .u8 0] 73)) (z3 : X.heap[h3]? = some (.cells #[.int .i64 0, .int .i64 0, .slice (some ⟨h1, 0, none⟩) 1 1, .int .i64 1, .int .i64 0, .slice none 0 0, .int .i64 0, .int .i64 0, .slice (some ⟨h2, 0, none⟩) 1 1] 27)) :
    OpsA X (.slice (some ⟨h3, 0, none⟩) 3 3) [⟨0, 0, .slice (some ⟨h1, 0, none⟩) 1 1, [sA]⟩, ⟨1, 0, .slice none 0 0, []⟩, ⟨0, 0, .slice (some ⟨h2, 0, none⟩) 1 1, [sB]⟩] := by
  have s1 : Sec X (.slice (some ⟨h1, 0, none⟩) 1 1) [sA] := sec_lit (l := [sA]) (secABC (by decide)) (by decide) z1
  have s2 : Sec X (.slice (some ⟨h2, 0, none⟩) 1 1) [sB] := sec_lit (l := [sB]) (secABC (by decide)) (by decide) z2
  refine ops_lit (l := [⟨0, 0, .slice (some ⟨h1, 0, none⟩) 1 1, [sA]⟩, ⟨1, 0, .slice none 0 0, []⟩, ⟨0, 0, .slice (some ⟨h2, 0, none⟩) 1 1, [sB]⟩]) (fun x hx => ?_) (by simp) z3
  rcases List.mem_cons.1 hx with rfl | hx
  · exact ⟨s1, nilOk_some _ _ _, (⟨by decide, by decide⟩ : R64 0), (⟨by decide, by decide⟩ : R64 0)⟩
  rcases List.mem_cons.1 hx with rfl | hx
  · exact ⟨⟨(fun s (hs : s ∈ []) => by cases hs), arr_nil _ _⟩, nilOk_nil, (⟨by decide, by decide⟩ : R64 1), (⟨by decide, by decide⟩ : R64 0)⟩
  rw [List.mem_singleton] at hx
  subst hx
  exact ⟨s2, nilOk_some _ _ _, (⟨by decide, by decide⟩ : R64 0), (⟨by decide, by decide⟩ : R64 0)⟩
theorem aw_call34 {X : World} {A B : Option Addr} {c d h1 h2 h3 hl : Nat} {k : Int} {l : List Sect} {u : List Int} (hd : Dk X (.agg #[.slice A 3 c, .slice B 0 d]) st3 []) (ho : OpsA X (.slice (some ⟨h3, 0, none⟩) 3 3) [⟨0, 0, .slice (some ⟨h1, 0, none⟩) 1 1, [sA]⟩, ⟨1, 0, .slice none 0 0, []⟩, ⟨0, 0, .slice (some ⟨h2, 0, none⟩) 1 1, [sB]⟩]) (zl : X.heap[hl]? = some (.cells #[.int .i64 1] 3)) (hk : R64 k)
    (he : ∀ d e f, interS st3 [] [⟨0, 0, d, [sA]⟩, ⟨1, 0, e, []⟩, ⟨0, 0, f, [sB]⟩] k [1] = (0, l, [], u)) :
    Calls Try.prog 34 #[.agg #[.slice A 3 c, .slice B 0 d], .slice (some ⟨h3, 0, none⟩) 3 3, .int .i64 k, .slice (some ⟨hl, 0, none⟩) 1 1] X fun e w' => ∃ A c B d U uc, e = .returned (.tuple #[.agg #[.slice A l.length c, .slice B 0 d], .slice U u.length uc, .int .i64 0]) ∧ Dk w' (.agg #[.slice A l.length c, .slice B 0 d]) l [] ∧ Below X.heap.size X w' := by
  obtain ⟨q1, q2, q3⟩ := dk_parts hd
  have hi : Ints X (.slice (some ⟨hl, 0, none⟩) 1 1) [1] := ints_lit (l := [1]) (fun x hx => by rw [List.mem_singleton] at hx; subst hx; exact ⟨by decide, by decide⟩) (by decide) zl
  refine (interrupt_any st3 [] _ _ _ _ _ k [1] X q1 q2 q3 ho hi (by decide) (by simp [tot]) (by decide) hk).mono ?_
  rw [he]
  rintro e w' ⟨v, u', rfl, ⟨⟨sv, cv, rfl, g1, g2⟩, g3⟩, hu, hb⟩
  dsimp only at g1 g2 g3 hu
  obtain ⟨A, c, rfl⟩ := ownAny_form g1
  obtain ⟨B, d, rfl⟩ := ownAny_form g2
  obtain ⟨U, uc, rfl⟩ := own_formE hu
  exact ⟨A, c, B, d, U, uc, rfl, dk_own ⟨_, _, rfl, g1, g2⟩ g3.1 g3.2, hb⟩
theorem aw_call14 {X : World} {A B : Option Addr} {c d h : Nat} (hd : Dk X (.agg #[.slice A 3 c, .slice B 0 d]) st3 []) (zl : X.heap[h]? = some (.cells #[.int .u8 1, .int .u8 0, .int .u8 0, .int .u8 0, .int .u8 0, .int .u8 0, .int .u8 0, .int .u8 0] 73)) :
    Calls Try.prog 14 #[.agg #[.slice A 3 c, .slice B 0 d], .int .i64 3, .slice (some ⟨h, 0, none⟩) 1 1] X fun e w' => ∃ A c B d, e = .returned (.tuple #[.agg #[.slice A 0 c, .slice B 0 d], .int .i64 2]) ∧ Below X.heap.size X w' := by
  obtain ⟨q1, q2, q3⟩ := dk_parts hd
  have s1 : Sec X (.slice (some ⟨h, 0, none⟩) 1 1) [sA] := sec_lit (l := [sA]) (secABC (by decide)) (by decide) zl
  refine (write_any st3 [] _ _ 3 _ [sA] X q1 q2 q3 s1 (nilOk_some _ _ _) (⟨by decide, by decide⟩ : R64 3) (by decide)).mono ?_
  rw [aw_w]
  rintro e w' ⟨v, rfl, ⟨⟨sv, cv, rfl, g1, g2⟩, g3⟩, hb⟩
  dsimp only at g1 g2 g3
  obtain ⟨A, c, rfl⟩ := ownAny_form g1
  obtain ⟨B, d, rfl⟩ := ownAny_form g2
  exact ⟨A, c, B, d, rfl, hb⟩
end Go.Proofs.Ytoefbgkeinhibaa
