/- An append of messages in a drawn region; messages as a list of none or one. -/
import Derived.Test.YtkdladacmjkdoaaS
namespace Go.Proofs.Ytkdladacmjkdoaa
open Go.RowKit Go.Lib
theorem info47 : (Try.prog.info? 47).map (fun i => (i.zero, i.size, i.bytes)) = some (some (.agg #[.int .i64 0, .int .i64 0, .int .i64 0, .int .i64 0, .int .i64 0, .int .i64 0, .slice none 0 0, .slice none 0 0]), 8, 96) := by kernel_rfl
theorem mes_ones (l : List Mes) : ∀ u ∈ (l.map cM).flatten, u.oneCell' = true := fun u hu => by
  obtain ⟨r, hr, hu⟩ := List.mem_flatten.1 hu
  obtain ⟨x, hx, rfl⟩ := List.mem_map.1 hr
  unfold cM at hu
  simp only [List.mem_cons, List.not_mem_nil, or_false] at hu
  rcases hu with rfl | rfl | rfl | rfl | rfl | rfl | rfl | rfl <;> rfl
theorem mes_flatlen (l : List Mes) : (l.map cM).flatten.length = l.length * 8 := by
  induction l with
  | nil => rfl
  | cons x r ih => rw [List.map_cons, List.flatten_cons, List.length_append, ih, List.length_cons]; unfold cM; simp; omega
theorem mes_cells {w : World} {ad : Addr} {n c : Nat} {l : List Mes} (h : Msgs w (.slice (some ad) n c) l) : ∀ j u, (l.map cM).flatten[j]? = some u → w.cell? (ad.add j) = some u := fun j u hu => by
  obtain ⟨A', c', e, _, _, b, off, hA, hc⟩ := h.2
  injection e with e1 e2 e3
  rw [List.length_map] at hA
  have hlt := (List.getElem?_eq_some_iff.1 hu).1
  rw [mes_flatlen] at hlt
  have hp : 0 < l.length := by omega
  have hA1 := (hA hp).1
  rw [← e1] at hA1
  injection hA1 with hA1
  subst hA1
  have hi : j / 8 < l.length := by omega
  have hg := flat_getG (rows := l.map cM) (st := 8) (i := j / 8) (j := j % 8) (fun r hr => by obtain ⟨s, _, rfl⟩ := List.mem_map.1 hr; rfl) (List.getElem?_eq_getElem (by rw [List.length_map]; exact hi)) (Nat.mod_lt _ (by omega))
  rw [show j / 8 * 8 + j % 8 = j by omega, hu] at hg
  have := hc (j / 8) _ (List.getElem?_eq_getElem (by rw [List.length_map]; exact hi)) (j % 8) u hg.symm
  rw [add_at]
  rwa [show off + j / 8 * 8 + j % 8 = off + j by omega] at this
theorem mes_none {w : World} {n c : Nat} {l : List Mes} (h : Msgs w (.slice none n c) l) : l = [] := by
  obtain ⟨A', c', e, _, _, b, off, hA, _⟩ := h.2
  injection e with e1 e2 e3
  rw [List.length_map] at hA
  rcases l with _ | ⟨x, r⟩
  · rfl
  · have := (hA (by simp)).1
    rw [← e1] at this
    cases this
theorem step_append_own {P : Program} {ops : Array Oper} {o : Oper} {a : Act} {w : World} {K : Act → World → Prop} {Q : Exit → Act → World → Prop} {E : Prop}
    (hg : o.guard = none) (s x : Operand) (t : TypeId) (hop : o.op = Op.call { callee := Callee.builtin Builtin.append, args := #[s, x], argTypes := #[t, t] })
    (base : Nat) (e : TypeId) (i : TypeInfo) (z : Value) (size bytes : Nat) (h1 : P.underlying t = some (.slice e)) (h2 : P.info? e = some i) (h3 : i.zero = some z) (h4 : i.size = size) (h5 : i.bytes = bytes) (h6 : z.cells.size = size) (h7 : 0 < size)
    (v : Value) (n : Nat) (olds : List Value) (hs : a.eval s = v) (hown : w.ownsRow base e size v n olds)
    (ad : Addr) (m c : Nat) (news : List Value) (hx : a.eval x = .slice (some ad) m c) (hn : news.length = m * size) (hc : ∀ j u, news[j]? = some u → w.cell? (ad.add j) = some u) (h1c : ∀ u ∈ news, u.oneCell' = true)
    (b1 : n + m ≤ maxLen) (b2 : (n + m) * bytes ≤ 140737488355328) (hbase : base ≤ w.heap.size)
    (hK : ∀ v' w', w'.ownsRow base e size v' (n + m) (olds ++ news) → w.grownBy w' v.ownBlock → K (a.put o.dst v') w') :
    if Region.wanted o (yielded ops a.tmps) = true then Oper.wp P o a w K Q else E := by
  have hw : Region.wanted o (yielded ops a.tmps) = true := by simp [Region.wanted, hg]
  rw [if_pos hw]
  obtain ⟨v', w', hrun, r1, r2, _⟩ := run_append_own (P := P) w base t o.type e i z size bytes h1 h2 h3 h4 h5 h6 h7 v n olds hown ad m c news hn hc h1c b1 b2 hbase
  unfold Oper.wp
  simp [execOp, hop, resolve, invoke, builtin, hs, hx, hrun, Result.andThen]
  exact hK v' w' r1 r2
/-- An append of messages to a row of one's own. -/
theorem step_append_mes {ops : Array Oper} {o : Oper} {a : Act} {w : World} {K : Act → World → Prop} {Q : Exit → Act → World → Prop} {E : Prop}
    (hg : o.guard = none) (s x : Operand) (hop : o.op = Op.call { callee := Callee.builtin Builtin.append, args := #[s, x], argTypes := #[35, 35] })
    (base : Nat) (v : Value) (n : Nat) (olds : List Value) (hs : a.eval s = v) (hown : w.ownsRow base 47 8 v n olds) (l : List Mes) (u : Value) (hx : a.eval x = u) (hsrc : Msgs w u l) (hk : n + l.length ≤ 1000000) (hbase : base ≤ w.heap.size)
    (hK : ∀ v' w', w'.ownsRow base 47 8 v' (n + l.length) (olds ++ (l.map cM).flatten) → w.grownBy w' v.ownBlock → K (a.put o.dst v') w') :
    if Region.wanted o (yielded ops a.tmps) = true then Oper.wp Try.prog o a w K Q else E := by
  obtain ⟨i0, hi, hz0, hz1, hz2⟩ := info_parts info47
  obtain ⟨A, cap, rfl⟩ := msgs_form hsrc
  rcases A with _ | ad
  · have hl := mes_none hsrc
    subst hl
    have hc0 := hsrc.1 _ _ rfl
    subst hc0
    have hw : Region.wanted o (yielded ops a.tmps) = true := by simp [Region.wanted, hg]
    rw [if_pos hw]
    have hrun := run_append_owned_none (P := Try.prog) (w := w) base 35 o.type 47 i0 8 Try.underlying35 hi v n olds hown
    unfold Oper.wp
    simp [execOp, hop, resolve, invoke, builtin, hs, hx, hrun, Result.andThen]
    exact hK v w (by simpa using hown) (World.grownBy.refl w _)
  · exact step_append_own hg s x 35 hop base 47 i0 _ 8 96 Try.underlying35 hi hz0 hz1 hz2 rfl (by decide) v n olds hs hown ad l.length cap _ hx (mes_flatlen l) (mes_cells hsrc) (mes_ones l) (by unfold maxLen; omega) (by omega) hbase hK
/-- No message, or one at the head of a row. -/
def MsgT (w : World) (v : Value) (l : List Mes) : Prop := (∃ A c, v = .slice A 0 c ∧ l = []) ∨ ∃ (b : Nat) (m : Mes) (c : Nat) (cs : Array Value), v = .slice (some ⟨b, 0, none⟩) 1 c ∧ l = [m] ∧ w.heap[b]? = some (.cells cs 47) ∧ ∀ (i : Nat) (u : Value), (cM m)[i]? = some u → cs[i]? = some u
theorem msg_cells {w : World} {b : Nat} {m : Mes} {cs : Array Value} (hb : w.heap[b]? = some (.cells cs 47)) (h : ∀ (i : Nat) (u : Value), (cM m)[i]? = some u → cs[i]? = some u) :
    (w.cell? ⟨b, 0, none⟩ = some (.int .i64 m.k) ∧ w.cell? ⟨b, 1, none⟩ = some (.int .i64 m.f) ∧ w.cell? ⟨b, 2, none⟩ = some (.int .i64 m.t) ∧ w.cell? ⟨b, 3, none⟩ = some (.int .i64 m.n) ∧ w.cell? ⟨b, 4, none⟩ = some (.int .i64 0) ∧ w.cell? ⟨b, 5, none⟩ = some (.int .i64 m.e) ∧ w.cell? ⟨b, 6, none⟩ = some (.slice none 0 0) ∧ w.cell? ⟨b, 7, none⟩ = some (.slice none 0 0)) := by
  have hc : ∀ (i : Nat) (u : Value), (cM m)[i]? = some u → w.cell? ⟨b, i, none⟩ = some u := fun i u hu => by
    rw [cell_of_row _ _ _ _ _ _ hb]
    exact h i u hu
  exact ⟨hc 0 _ rfl, hc 1 _ rfl, hc 2 _ rfl, hc 3 _ rfl, hc 4 _ rfl, hc 5 _ rfl, hc 6 _ rfl, hc 7 _ rfl⟩
theorem MsgQ.toT {B : Nat} {w : World} {v : Value} {l : List Mes} (h : MsgQ B w v l) : MsgT w v l := by
  rcases h with ⟨rfl, rfl⟩ | ⟨b, m, rfl, rfl, _, h⟩
  · exact .inl ⟨none, 0, rfl, rfl⟩
  · exact .inr ⟨b, m, 1, _, rfl, rfl, h, fun i u hu => by simpa using hu⟩
theorem MsgT.keep {w w' : World} {v : Value} {l : List Mes} (h : MsgT w v l) (hk : Keep 47 w w') : MsgT w' v l := by
  rcases h with h | ⟨b, m, c, cs, rfl, rfl, hb, h⟩
  · exact .inl h
  · exact .inr ⟨b, m, c, cs, rfl, rfl, hk _ _ hb, h⟩
theorem MsgT.below {w w' : World} {v : Value} {l : List Mes} (h : MsgT w v l) (hb : Below w.heap.size w w') : MsgT w' v l := h.keep (keep_below hb)
theorem own_msgT {w : World} {base : Nat} {v : Value} {l : List Mes} (h : w.ownsRow base 47 8 v l.length (l.map cM).flatten) (hl : l.length ≤ 1) : MsgT w v l := by
  rcases l with _ | ⟨m, _ | ⟨x, r⟩⟩
  · obtain ⟨A, c, e⟩ := ownAny_form h
    exact .inl ⟨A, c, e, rfl⟩
  · rcases h.2 with ⟨_, h0⟩ | ⟨g, cap, cur, rfl, _, hg, hc, hm, hs, ht⟩
    · cases h0
    · refine .inr ⟨g, m, cap, cur, rfl, rfl, hg, fun k u hu => ?_⟩
      have hu' : ([m].map cM).flatten[k]? = some u := by simpa using hu
      rw [← ht, List.getElem?_take] at hu'
      split at hu'
      · simpa using hu'
      · cases hu'
  · simp at hl
theorem recR_len (s : Ses) (m : Mes) : (recR s m).2.length ≤ 1 := by
  unfold recR actR helloR welcomeR resetR
  (repeat' split) <;> simp
theorem keepT_set6 {w : World} {g : Nat} {z : Ses} (s : Ses) (h : w.heap[g]? = some (.cells (cS z) 23)) : Keep 47 w (set6 w g s) := fun b cs hb => by
  have hne : b ≠ g := fun e => by
    subst e
    rw [h] at hb
    injection hb with hb
    injection hb with _ h2
    exact absurd h2 (by decide)
  have k1 : ∀ {W : World} (i : Nat) (x : Value), W.heap[b]? = some (.cells cs 47) → (W.setCell ⟨g, i, none⟩ x).heap[b]? = some (.cells cs 47) := fun i x hW => (Below.heap_setCell _ _ _ _ hne).trans hW
  exact k1 5 _ (k1 4 _ (k1 3 _ (k1 2 _ (k1 1 _ (k1 0 _ hb)))))
theorem MsgQ.keepT {B C : Nat} {w w' : World} {v : Value} {l : List Mes} (h : MsgQ B w v l) (hc : C ≤ B) (hk : Keep 47 w w') : MsgQ C w' v l := by
  rcases h with h | ⟨b, m, h1, h2, h3, h4⟩
  · exact .inl h
  · exact .inr ⟨b, m, h1, h2, Nat.le_trans hc h3, hk _ _ h4⟩
end Go.Proofs.Ytkdladacmjkdoaa
