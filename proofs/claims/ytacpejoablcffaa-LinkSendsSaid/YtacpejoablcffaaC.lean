/- Lists of flights; copying them. -/
import Derived.Test.YtacpejoablcffaaB
import Derived.Laws.Rows
namespace Go.Proofs.Ytacpejoablcffaa
open Go.RowKit Go.Lib

/-- A flight in memory: its numbers, the value of its payload, what this reads as. -/
structure Fl where
  t : Int
  n : Int
  d : Value
  p : List Nat
theorem take_succ'' {α : Type} {l : List α} {k : Nat} {x : α} (h : l[k]? = some x) : l.take (k + 1) = l.take k ++ [x] := by
  rw [List.take_add_one, h]; rfl
abbrev Fc := Int × Int × List Nat
def core (x : Fl) : Fc := (x.t, x.n, x.p)
def cFl (x : Fl) : List Value := [.int .i64 x.t, .int .i64 x.n, x.d]
/-- A payload of one's own. -/
def Pay (w : World) (x : Fl) : Prop := (∃ B, w.ownsRow B 5 1 x.d x.p.length (x.p.map byteV)) ∧ B8 x.p
theorem Pay.keep {w w' : World} {x : Fl} (h : Pay w x) (hk : Keep 5 w w') : Pay w' x := by
  obtain ⟨⟨B, h1⟩, h2⟩ := h
  exact ⟨⟨B, own_keep h1 hk⟩, h2⟩
theorem Pay.byt {w : World} {x : Fl} (h : Pay w x) : Byt w x.d x.p ∧ NilOk x.d := by
  obtain ⟨⟨B, h1⟩, h2⟩ := h
  exact ⟨byt_of_own h1 h2, own_nilOk h1⟩
/-- A list of flights that can be read. -/
def FL (w : World) (v : Value) (l : List Fl) : Prop := (∀ x ∈ l, Byt w x.d x.p ∧ NilOk x.d) ∧ NilOk v ∧ Arr w v 3 (l.map cFl)
theorem FL.below {w w' : World} {v : Value} {l : List Fl} (h : FL w v l) (hb : Below w.heap.size w w') : FL w' v l := ⟨fun x hx => ⟨(h.1 x hx).1.below hb, (h.1 x hx).2⟩, h.2.1, h.2.2.below hb⟩
theorem fl_form {w : World} {v : Value} {l : List Fl} (h : FL w v l) : ∃ A c, v = .slice A l.length c := by
  obtain ⟨A, c, e⟩ := arr_form h.2.2
  rw [List.length_map] at e
  exact ⟨A, c, e⟩
theorem fl_of_own {w : World} {base m : Nat} {v : Value} {vs : List Fl} (h : w.ownsRow base 69 3 v m (vs.map cFl).flatten) (hm : vs.length = m) (hp : ∀ x ∈ vs, Pay w x) : FL w v vs := by
  refine ⟨fun x hx => (hp x hx).byt, own_nilOkE h, arr_of_own h (by rw [List.length_map, hm]) fun r hr => ?_⟩
  obtain ⟨s, hs, rfl⟩ := List.mem_map.1 hr
  rfl
theorem fl_cells {w : World} {A : Option Addr} {n c : Nat} {l : List Fl} (h : FL w (.slice A n c) l) (hp : 0 < l.length) : ∃ b off, A = some ⟨b, off, none⟩ ∧ b < w.heap.size ∧ ∀ (i : Nat) (x : Fl), l[i]? = some x →
    w.cell? ⟨b, off + i * 3, none⟩ = some (.int .i64 x.t) ∧ w.cell? ⟨b, off + i * 3 + 1, none⟩ = some (.int .i64 x.n) ∧ w.cell? ⟨b, off + i * 3 + 2, none⟩ = some x.d := by
  obtain ⟨b, off, h1, h2, h3⟩ := arr_at1 h.2.2 (by rw [List.length_map]; exact hp)
  refine ⟨b, off, h1, h2, fun i x hx => ?_⟩
  have hr : (l.map cFl)[i]? = some (cFl x) := by rw [List.getElem?_map, hx]; rfl
  exact ⟨h3 i _ hr 0 _ rfl, h3 i _ hr 1 _ rfl, h3 i _ hr 2 _ rfl⟩
def fromN (st : Nat) (A : Option Addr) (c k : Nat) : Option Addr := if c = k then A else A.map (fun x => x.add (k * st))
theorem arr_mid {w : World} {A : Option Addr} {n c st : Nat} {rows : List (List Value)} (h : Arr w (.slice A n c) st rows) (lo hi : Nat) (h1 : lo ≤ hi) (h2 : hi ≤ rows.length) : Arr w (.slice (fromN st A c lo) (hi - lo) (c - lo)) st ((rows.drop lo).take (hi - lo)) := by
  have hll : ((rows.drop lo).take (hi - lo)).length = hi - lo := by rw [List.length_take, List.length_drop]; omega
  obtain ⟨A', c', e, hc1, hc2, b, off, hA, hc⟩ := h
  injection e with e1 e2 e3
  subst e1 e3
  refine ⟨fromN st A c lo, c - lo, by rw [hll], by rw [hll]; omega, by omega, b, off + lo * st, fun hp => ?_, fun i r hi' j u hj => ?_⟩
  · rw [hll] at hp
    obtain ⟨hA1, hA2⟩ := hA (by omega)
    refine ⟨?_, hA2⟩
    unfold fromN
    rw [if_neg (by omega), hA1]
    simp [Addr.add]
  · rw [List.getElem?_take] at hi'
    split at hi'
    · rw [List.getElem?_drop] at hi'
      have := hc (lo + i) r hi' j u hj
      rw [show off + lo * st + i * st + j = off + (lo + i) * st + j by rw [Nat.add_mul]; omega]
      exact this
    · cases hi'
theorem fl_cap {w : World} {A : Option Addr} {n c : Nat} {l : List Fl} (h : FL w (.slice A n c) l) : n = l.length ∧ l.length ≤ c ∧ c ≤ maxLen := by
  obtain ⟨_, _, A', c', e, hc1, hc2, _⟩ := h
  injection e with e1 e2 e3
  rw [List.length_map] at hc1 e2
  subst e3
  exact ⟨e2, hc1, hc2⟩
theorem fl_mid {w : World} {A : Option Addr} {n c : Nat} {l : List Fl} (h : FL w (.slice A n c) l) (lo hi : Nat) (h1 : lo ≤ hi) (h2 : hi ≤ l.length) : FL w (.slice (fromN 3 A c lo) (hi - lo) (c - lo)) ((l.drop lo).take (hi - lo)) := by
  obtain ⟨e1, e2, _⟩ := fl_cap h
  refine ⟨fun x hx => h.1 x (List.mem_of_mem_drop (List.mem_of_mem_take hx)), fun m k e => ?_, ?_⟩
  · injection e with ea _ ec
    unfold fromN at ea
    split at ea
    · omega
    · rcases A with _ | a
      · have := h.2.1 _ _ rfl
        omega
      · cases ea
  · rw [List.map_take, List.map_drop]
    exact arr_mid h.2.2 lo hi h1 (by rw [List.length_map]; exact h2)
theorem run_from24 (A : Option Addr) (n c lo : Nat) (h1 : lo ≤ n) (W : World) : (Instr.slice 24 (.slice A n c) (some (.int .i64 (lo : Int))) none none).run Try.prog W = .ok (.slice (fromN 3 A c lo) (n - lo) (c - lo)) W := by
  simp [Instr.slice, run_underlying Try.underlying24, Instr.sliceBounds, Sem.run_bind, run_sliceBound_if, fromN, h1]
theorem run_to24 (A : Option Addr) (n c hi : Nat) (h1 : hi ≤ c) (W : World) : (Instr.slice 24 (.slice A n c) none (some (.int .i64 (hi : Int))) none).run Try.prog W = .ok (.slice A hi c) W := by
  simp [Instr.slice, run_underlying Try.underlying24, Instr.sliceBounds, Sem.run_bind, run_sliceBound_if]
  first | rw [if_pos h1] | skip
  have e : (if c = 0 then A else Option.map (fun (x : Addr) => x.add 0) A) = A := by
    rcases A with _ | a
    · simp
    · simp [Addr.add]
  try rw [e]
  try simp [h1]
theorem info69 : (Try.prog.info? 69).map (fun i => (i.zero, i.size, i.bytes)) = some (some (.agg #[.int .i64 0, .int .i64 0, .slice none 0 0]), 3, 40) := by kernel_rfl
theorem own_form69 {w : World} {base n : Nat} {v : Value} {xs : List Value} (h : w.ownsRow base 69 3 v n xs) : ∃ A cap, v = .slice A n cap := own_formE h
set_option maxRecDepth 100000 in
theorem append_one {ops : Array Oper} {rest : List Oper} {o : Oper} {a : Act} {w : World} {Q : Exit → Act → World → Prop} (hgd : o.guard = none) (s x : Operand) (ho : o.op = .call { callee := .builtin .append, args := #[s, x], argTypes := #[24, 24] })
    (base : Nat) (v : Value) (n : Nat) (olds : List Value) (hs : a.eval s = v) (hown : w.ownsRow base 69 3 v n olds) (cs : List Value) (hcs : cs.length = 3) (hc1 : ∀ u ∈ cs, u.oneCell' = true) (ad : Addr) (c : Nat) (hx : a.eval x = .slice (some ad) 1 c)
    (hc : ∀ j u, cs[j]? = some u → w.cell? (ad.add j) = some u) (b1 : n + 1 ≤ 1000000) (hbase : base ≤ w.heap.size)
    (h : ∀ v' w', w'.ownsRow base 69 3 v' (n + 1) (olds ++ cs) → w.grownBy w' v.ownBlock → wpList Try.prog ops Q rest (a.put o.dst v') w') : wpList Try.prog ops Q (o :: rest) a w := by
  obtain ⟨i0, hi, hz0, hz1, hz2⟩ := info_parts info69
  exact wpList_append_own w hgd s x 24 ho base 69 i0 _ 3 40 Try.underlying24 hi hz0 hz1 hz2 rfl (by decide) v n olds hs hown ad 1 c _ hx (by rw [hcs]) hc hc1 (by unfold maxLen; omega) (by omega) hbase (fun v' w' h1 h2 _ => h v' w' h1 h2)
theorem fl_one (t n : Int) (A : Option Addr) (m c : Nat) : ∀ u ∈ ([.int .i64 t, .int .i64 n, .slice A m c] : List Value), u.oneCell' = true := by
  intro u hu
  simp at hu
  rcases hu with rfl | rfl | rfl <;> rfl
theorem flat_len (vs : List Fl) : ((vs.map cFl).flatten).length = vs.length * 3 := by
  induction vs with
  | nil => rfl
  | cons x t ih => rw [List.map_cons, List.flatten_cons, List.length_append, ih, List.length_cons]; show 3 + _ = _; omega
theorem fl_ones {w : World} {v : Value} {l : List Fl} (h : FL w v l) : ∀ u ∈ (l.map cFl).flatten, u.oneCell' = true := by
  intro u hu
  obtain ⟨r, hr, hu⟩ := List.mem_flatten.1 hu
  obtain ⟨x, hx, rfl⟩ := List.mem_map.1 hr
  obtain ⟨A, c, e⟩ := byt_form (h.1 x hx).1
  unfold cFl at hu
  rw [e] at hu
  exact fl_one _ _ _ _ _ u hu
theorem fl_flat {w : World} {A : Option Addr} {n c : Nat} {l : List Fl} (h : FL w (.slice A n c) l) (hp : 0 < l.length) : ∃ b off, A = some ⟨b, off, none⟩ ∧ b < w.heap.size ∧ ∀ (k : Nat) (u : Value), (l.map cFl).flatten[k]? = some u → w.cell? ⟨b, off + k, none⟩ = some u := by
  obtain ⟨b, off, hA, hb, hc⟩ := arr_at1 h.2.2 (by rw [List.length_map]; exact hp)
  refine ⟨b, off, hA, hb, fun k u hk => ?_⟩
  obtain ⟨i, j, r, h1, h2, rfl⟩ := flat_split (st := 3) (fun r hr => by obtain ⟨s, hs, rfl⟩ := List.mem_map.1 hr; rfl) hk
  rw [← Nat.add_assoc]
  exact hc i r h1 j u h2
theorem fl_none {w : World} {n c : Nat} {l : List Fl} (h : FL w (.slice none n c) l) : l = [] ∧ c = 0 := by
  refine ⟨?_, h.2.1 _ _ rfl⟩
  rcases Nat.eq_zero_or_pos l.length with h0 | h0
  · exact List.eq_nil_of_length_eq_zero h0
  · obtain ⟨b, off, hA, _⟩ := fl_flat h h0
    cases hA
set_option maxRecDepth 100000 in
theorem append_fls {ops : Array Oper} {rest : List Oper} {o : Oper} {a : Act} {w : World} {Q : Exit → Act → World → Prop} (hgd : o.guard = none) (s x : Operand) (ho : o.op = .call { callee := .builtin .append, args := #[s, x], argTypes := #[24, 24] })
    (base : Nat) (v : Value) (n : Nat) (olds : List Value) (hs : a.eval s = v) (hown : w.ownsRow base 69 3 v n olds) (l : List Fl) (u : Value) (hx : a.eval x = u) (hsrc : FL w u l) (hk : n + l.length ≤ 1000000) (hbase : base ≤ w.heap.size)
    (h : ∀ v' w', w'.ownsRow base 69 3 v' (n + l.length) (olds ++ (l.map cFl).flatten) → w.grownBy w' v.ownBlock → wpList Try.prog ops Q rest (a.put o.dst v') w') : wpList Try.prog ops Q (o :: rest) a w := by
  obtain ⟨i0, hi, hz0, hz1, hz2⟩ := info_parts info69
  obtain ⟨A, cap, rfl⟩ := fl_form hsrc
  rcases A with _ | ad
  · obtain ⟨hl, hc0⟩ := fl_none hsrc
    subst hl hc0
    refine wpList_append_own_none hgd s x 24 ho base 69 i0 3 Try.underlying24 hi v n olds hs hown hx ?_
    exact h v w (by simpa using hown) (World.grownBy.refl w _)
  · refine wpList_append_own w hgd s x 24 ho base 69 i0 _ 3 40 Try.underlying24 hi hz0 hz1 hz2 rfl (by decide) v n olds hs hown ad l.length cap (l.map cFl).flatten hx (by rw [flat_len]) ?_ (fl_ones hsrc) (by unfold maxLen; omega) (by omega) hbase ?_
    · intro j u hu
      have hp : 0 < l.length := by
        rcases Nat.eq_zero_or_pos l.length with h0 | h0
        · rw [List.eq_nil_of_length_eq_zero h0] at hu; simp at hu
        · exact h0
      obtain ⟨b, off, hA, _, hc⟩ := fl_flat hsrc hp
      injection hA with hA
      subst hA
      rw [add_at]
      exact hc j u hu
    · exact fun v' w' h1 h2 _ => h v' w' h1 h2
theorem own_empty69 (w : World) : (w.alloc (.cells #[] 69)).ownsRow w.heap.size 69 3 (.slice (some ⟨w.heap.size, 0, none⟩) 0 0) 0 [] :=
  ⟨rfl, .inr ⟨w.heap.size, 0, #[], rfl, Nat.le_refl _, heap_alloc_new w _, Nat.le_refl _, by unfold maxLen; omega, rfl, rfl⟩⟩
/-- What a clone of flights is: the same cells in a row of one's own. -/
def MadeF (w : World) (l : List Fl) (e : Ending) (w' : World) : Prop := ∃ v, e = .returned v ∧ w'.ownsRow w.heap.size 69 3 v l.length (l.map cFl).flatten ∧ Below w.heap.size w w'
set_option maxHeartbeats 2000000 in
set_option maxRecDepth 100000 in
theorem cloneF_any (l : List Fl) (v : Value) (w : World) (hv : FL w v l) (hl : l.length ≤ 1000000) : Calls Try.prog 52 #[v] w (MadeF w l) := by
  obtain ⟨A, ca, rfl⟩ := fl_form hv
  have HV := hid hv
  rcases A with _ | ad
  · obtain ⟨hl0, hc⟩ := fl_none hv
    subst hl0 hc
    clear hv
    have hq := fun (w : World) (a : Option Addr) (n c : Nat) => Lib.run_eql_slice_nil (P := Try.prog) w 24 69 a n c 0 0 Try.underlying24
    go_enter Try.func52, Try.ntmps52
    go_wp2
    go_ret
    exact ⟨_, rfl, World.ownsRow_nil _ _ _ _, Below.refl _ _⟩
  · clear hv
    have hq := fun (w : World) (a : Option Addr) (n c : Nat) => Lib.run_eql_slice_nil (P := Try.prog) w 24 69 a n c 0 0 Try.underlying24
    go_enter Try.func52, Try.ntmps52
    go_wp2_with (at_builtin; refine append_fls rfl (.tmp 5) (.tmp 6) rfl w.heap.size _ 0 [] rfl (own_empty69 w) l _ rfl (HV.out.below (al1 _ _)) (by omega) (by simp) ?_; intro v1 w1 hown1 hg1; have HB1 := hid (below_ownE (al1 w _) (own_empty69 w) hg1 (by simp) (Nat.le_refl _)); have HO1 := hid hown1; clear hown1 hg1)
    obtain ⟨av, cv, rfl⟩ := own_form69 HO1.out
    go_wp2
    go_ret
    exact ⟨_, rfl, by have h := HO1.out; simpa using h, HB1.out⟩
theorem own_base {w : World} {B B' E st n : Nat} {v : Value} {xs : List Value} (h : w.ownsRow B E st v n xs) (hb : B' ≤ B) : w.ownsRow B' E st v n xs := by
  refine ⟨h.1, ?_⟩
  rcases h.2 with h0 | ⟨k, cap, cur, e, hk, hgb, h2⟩
  · exact .inl h0
  · exact .inr ⟨k, cap, cur, e, Nat.le_trans hb hk, hgb, h2⟩
/-- A cell of a row of one's own is written. -/
theorem own_put {w : World} {B E st n g c : Nat} {xs : List Value} (h : w.ownsRow B E st (.slice (some ⟨g, 0, none⟩) n c) n xs) (i : Nat) (u : Value) : (w.setCell ⟨g, i, none⟩ u).ownsRow B E st (.slice (some ⟨g, 0, none⟩) n c) n (xs.set i u) := by
  refine ⟨by rw [List.length_set]; exact h.1, ?_⟩
  rcases h.2 with ⟨e, _⟩ | ⟨k, cap, cur, e, hk, hgb, h1, h2, h3, h4⟩
  · cases e
  · injection e with e1 _ e3
    injection e1 with e1
    injection e1 with e1
    subst e1 e3
    refine .inr ⟨g, c, cur.set! i u, rfl, hk, ?_, h1, h2, by simpa using h3, ?_⟩
    · have := box_set (cs := cur.toList) (by simpa using hgb) i u
      rw [this]
      apply congrArg (fun z => some (Obj.cells z E))
      apply Array.ext'
      simp
    · rw [← h4]
      simp [List.take_set]
end Go.Proofs.Ytacpejoablcffaa
