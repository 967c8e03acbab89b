/- Lists of events; copying them; a part of a queue. -/
import Derived.Test.YtjpfogdfgcfkcaaB
import Derived.Laws.Rows
namespace Go.Proofs.Ytjpfogdfgcfkcaa
open Go.RowKit Go.Lib

/-- An event in memory: its numbers, the value of its body, what this reads as. -/
structure Ev where
  t : Int
  n : Int
  k : Int
  o : Int
  d : Value
  p : List Nat
theorem take_succ'' {α : Type} {l : List α} {k : Nat} {x : α} (h : l[k]? = some x) : l.take (k + 1) = l.take k ++ [x] := by
  rw [List.take_add_one, h]; rfl
abbrev Ec := Int × Int × Int × Int × List Nat
def core (x : Ev) : Ec := (x.t, x.n, x.k, x.o, x.p)
def cEv (x : Ev) : List Value := [.int .i64 x.t, .int .i64 x.n, .int .i64 x.k, .int .i64 x.o, x.d]
/-- A body of one's own. -/
def Pay (w : World) (x : Ev) : Prop := (∃ B, w.ownsRow B 5 1 x.d x.p.length (x.p.map byteV)) ∧ B8 x.p
theorem Pay.keep {w w' : World} {x : Ev} (h : Pay w x) (hk : Keep 5 w w') : Pay w' x := by
  obtain ⟨⟨B, h1⟩, h2⟩ := h
  exact ⟨⟨B, own_keep h1 hk⟩, h2⟩
theorem Pay.byt {w : World} {x : Ev} (h : Pay w x) : Byt w x.d x.p ∧ NilOk x.d := by
  obtain ⟨⟨B, h1⟩, h2⟩ := h
  exact ⟨byt_of_own h1 h2, own_nilOk h1⟩
/-- A list of events that can be read. -/
def EL (w : World) (v : Value) (l : List Ev) : Prop := (∀ x ∈ l, Byt w x.d x.p ∧ NilOk x.d) ∧ Arr w v 5 (l.map cEv)
theorem EL.below {w w' : World} {v : Value} {l : List Ev} (h : EL w v l) (hb : Below w.heap.size w w') : EL w' v l := ⟨fun x hx => ⟨(h.1 x hx).1.below hb, (h.1 x hx).2⟩, h.2.below hb⟩
theorem el_form {w : World} {v : Value} {l : List Ev} (h : EL w v l) : ∃ A c, v = .slice A l.length c := by
  obtain ⟨A, c, e⟩ := arr_form h.2
  rw [List.length_map] at e
  exact ⟨A, c, e⟩
theorem el_of_own {w : World} {base m : Nat} {v : Value} {vs : List Ev} (h : w.ownsRow base 32 5 v m (vs.map cEv).flatten) (hm : vs.length = m) (hp : ∀ x ∈ vs, Pay w x) : EL w v vs := by
  refine ⟨fun x hx => (hp x hx).byt, arr_of_own h (by rw [List.length_map, hm]) fun r hr => ?_⟩
  obtain ⟨s, hs, rfl⟩ := List.mem_map.1 hr
  rfl
theorem el_cells {w : World} {A : Option Addr} {n c : Nat} {l : List Ev} (h : EL w (.slice A n c) l) (hp : 0 < l.length) : ∃ b off, A = some ⟨b, off, none⟩ ∧ b < w.heap.size ∧ ∀ (i : Nat) (x : Ev), l[i]? = some x →
    w.cell? ⟨b, off + i * 5, none⟩ = some (.int .i64 x.t) ∧ w.cell? ⟨b, off + i * 5 + 1, none⟩ = some (.int .i64 x.n) ∧ w.cell? ⟨b, off + i * 5 + 2, none⟩ = some (.int .i64 x.k) ∧ w.cell? ⟨b, off + i * 5 + 3, none⟩ = some (.int .i64 x.o) ∧ w.cell? ⟨b, off + i * 5 + 4, none⟩ = some x.d := by
  obtain ⟨b, off, h1, h2, h3⟩ := arr_at1 h.2 (by rw [List.length_map]; exact hp)
  refine ⟨b, off, h1, h2, fun i x hx => ?_⟩
  have hr : (l.map cEv)[i]? = some (cEv x) := by rw [List.getElem?_map, hx]; rfl
  exact ⟨h3 i _ hr 0 _ rfl, h3 i _ hr 1 _ rfl, h3 i _ hr 2 _ rfl, h3 i _ hr 3 _ rfl, h3 i _ hr 4 _ rfl⟩
def fromN (st : Nat) (A : Option Addr) (c k : Nat) : Option Addr := if c = k then A else A.map (fun x => x.add (k * st))
theorem arr_mid {w : World} {A : Option Addr} {n c st : Nat} {rows : List (List Value)} (h : Arr w (.slice A n c) st rows) (lo hi : Nat) (h1 : lo ≤ hi) (h2 : hi ≤ rows.length) : Arr w (.slice (fromN st A c lo) (hi - lo) (c - lo)) st ((rows.drop lo).take (hi - lo)) := by
  have hll : ((rows.drop lo).take (hi - lo)).length = hi - lo := by rw [List.length_take, List.length_drop]; omega
  obtain ⟨A', c', e, hc1, hc2, b, off, hA, hc⟩ := h
  injection e with e1 e2 e3
  subst e1 e3
  refine ⟨fromN st A c lo, c - lo, by rw [hll], by rw [hll]; omega, by omega, b, off + lo * st, fun hp => ?_, fun i r hi' j u hj => ?_⟩
  · rw [hll] at hp
    obtain ⟨hA1, hA2⟩ := hA (by omega)
    refine ⟨?_, hA2⟩
    unfold fromN
    rw [if_neg (by omega), hA1]
    simp [Addr.add]
  · rw [List.getElem?_take] at hi'
    split at hi'
    · rw [List.getElem?_drop] at hi'
      have := hc (lo + i) r hi' j u hj
      rw [show off + lo * st + i * st + j = off + (lo + i) * st + j by rw [Nat.add_mul]; omega]
      exact this
    · cases hi'
theorem el_mid {w : World} {A : Option Addr} {n c : Nat} {l : List Ev} (h : EL w (.slice A n c) l) (lo hi : Nat) (h1 : lo ≤ hi) (h2 : hi ≤ l.length) : EL w (.slice (fromN 5 A c lo) (hi - lo) (c - lo)) ((l.drop lo).take (hi - lo)) := by
  refine ⟨fun x hx => h.1 x (List.mem_of_mem_drop (List.mem_of_mem_take hx)), ?_⟩
  rw [List.map_take, List.map_drop]
  exact arr_mid h.2 lo hi h1 (by rw [List.length_map]; exact h2)
theorem el_cap {w : World} {A : Option Addr} {n c : Nat} {l : List Ev} (h : EL w (.slice A n c) l) : n = l.length ∧ l.length ≤ c ∧ c ≤ maxLen := by
  obtain ⟨_, A', c', e, hc1, hc2, _⟩ := h
  injection e with e1 e2 e3
  rw [List.length_map] at hc1 e2
  subst e3
  exact ⟨e2, hc1, hc2⟩
theorem run_slice22 (A : Option Addr) (n c lo hi : Nat) (x y : Int) (hx : x = (lo : Int)) (hy : y = (hi : Int)) (h1 : lo ≤ hi) (h2 : hi ≤ c) (W : World) : (Instr.slice 22 (.slice A n c) (some (.int .i64 x)) (some (.int .i64 y)) none).run Try.prog W = .ok (.slice (fromN 5 A c lo) (hi - lo) (c - lo)) W := by
  subst hx hy
  simp [Instr.slice, run_underlying Try.underlying22, Instr.sliceBounds, Sem.run_bind, run_sliceBound_if, fromN, h1, h2]
theorem info32 : (Try.prog.info? 32).map (fun i => (i.zero, i.size, i.bytes)) = some (some (.agg #[.int .i64 0, .int .i64 0, .int .i64 0, .int .i64 0, .slice none 0 0]), 5, 56) := by kernel_rfl
theorem own_form32 {w : World} {base n : Nat} {v : Value} {xs : List Value} (h : w.ownsRow base 32 5 v n xs) : ∃ A cap, v = .slice A n cap := own_formE h
set_option maxRecDepth 100000 in
theorem append_ev {ops : Array Oper} {rest : List Oper} {o : Oper} {a : Act} {w : World} {Q : Exit → Act → World → Prop} (hgd : o.guard = none) (s x : Operand) (ho : o.op = .call { callee := .builtin .append, args := #[s, x], argTypes := #[22, 22] })
    (base : Nat) (v : Value) (n : Nat) (olds : List Value) (hs : a.eval s = v) (hown : w.ownsRow base 32 5 v n olds) (cs : List Value) (hcs : cs.length = 5) (hc1 : ∀ u ∈ cs, u.oneCell' = true) (ad : Addr) (c : Nat) (hx : a.eval x = .slice (some ad) 1 c)
    (hc : ∀ j u, cs[j]? = some u → w.cell? (ad.add j) = some u) (b1 : n + 1 ≤ 1000000) (hbase : base ≤ w.heap.size)
    (h : ∀ v' w', w'.ownsRow base 32 5 v' (n + 1) (olds ++ cs) → w.grownBy w' v.ownBlock → wpList Try.prog ops Q rest (a.put o.dst v') w') : wpList Try.prog ops Q (o :: rest) a w := by
  obtain ⟨i0, hi, hz0, hz1, hz2⟩ := info_parts info32
  exact wpList_append_own w hgd s x 22 ho base 32 i0 _ 5 56 Try.underlying22 hi hz0 hz1 hz2 rfl (by decide) v n olds hs hown ad 1 c _ hx (by rw [hcs]) hc hc1 (by unfold maxLen; omega) (by omega) hbase (fun v' w' h1 h2 _ => h v' w' h1 h2)
theorem ev_one (t n k o : Int) (A : Option Addr) (m c : Nat) : ∀ u ∈ ([.int .i64 t, .int .i64 n, .int .i64 k, .int .i64 o, .slice A m c] : List Value), u.oneCell' = true := by
  intro u hu
  simp at hu
  rcases hu with rfl | rfl | rfl | rfl | rfl <;> rfl

theorem own_base {w : World} {B B' E st n : Nat} {v : Value} {xs : List Value} (h : w.ownsRow B E st v n xs) (hb : B' ≤ B) : w.ownsRow B' E st v n xs := by
  refine ⟨h.1, ?_⟩
  rcases h.2 with h0 | ⟨k, cap, cur, e, hk, hgb, h2⟩
  · exact .inl h0
  · exact .inr ⟨k, cap, cur, e, Nat.le_trans hb hk, hgb, h2⟩
abbrev set5 (w : World) (g : Nat) (v0 v1 v2 v3 v4 : Value) : World := ((((w.setCell ⟨g, 0, none⟩ v0).setCell ⟨g, 1, none⟩ v1).setCell ⟨g, 2, none⟩ v2).setCell ⟨g, 3, none⟩ v3).setCell ⟨g, 4, none⟩ v4
theorem set5h {w : World} {g : Nat} {T : TypeId} {a0 a1 a2 a3 a4 : Value} (v0 v1 v2 v3 v4 : Value) (h : w.heap[g]? = some (.cells #[a0, a1, a2, a3, a4] T)) : (set5 w g v0 v1 v2 v3 v4).heap[g]? = some (.cells #[v0, v1, v2, v3, v4] T) :=
  box_set (box_set (box_set (box_set (box_set (cs := [a0, a1, a2, a3, a4]) h 0 v0) 1 v1) 2 v2) 3 v3) 4 v4
theorem set5o {w : World} {g k : Nat} (v0 v1 v2 v3 v4 : Value) (h : k ≠ g) : (set5 w g v0 v1 v2 v3 v4).heap[k]? = w.heap[k]? := by
  unfold set5
  rw [Below.heap_setCell _ _ _ _ h, Below.heap_setCell _ _ _ _ h, Below.heap_setCell _ _ _ _ h, Below.heap_setCell _ _ _ _ h, Below.heap_setCell _ _ _ _ h]
theorem set5b {B : Nat} {w0 w : World} {g : Nat} (v0 v1 v2 v3 v4 : Value) (h : Below B w0 w) (hg : B ≤ g) : Below B w0 (set5 w g v0 v1 v2 v3 v4) :=
  ((((h.setCell (p := ⟨g, 0, none⟩) hg _).setCell (p := ⟨g, 1, none⟩) hg _).setCell (p := ⟨g, 2, none⟩) hg _).setCell (p := ⟨g, 3, none⟩) hg _).setCell (p := ⟨g, 4, none⟩) hg _
theorem set5r {w : World} {B E st n g : Nat} {v : Value} {xs : List Value} (v0 v1 v2 v3 v4 : Value) (h : w.ownsRow B E st v n xs) (hg : g < B) : (set5 w g v0 v1 v2 v3 v4).ownsRow B E st v n xs := by
  have hk : ∀ k, v.ownBlock = some k → k ≠ g := fun k e => by have := (h.lt k e).1; omega
  exact own_off (own_off (own_off (own_off (own_off h hk 0 v0) hk 1 v1) hk 2 v2) hk 3 v3) hk 4 v4
abbrev set2 (w : World) (g : Nat) (v0 v1 : Value) : World := (w.setCell ⟨g, 0, none⟩ v0).setCell ⟨g, 1, none⟩ v1
theorem set2h {w : World} {g : Nat} {T : TypeId} {a0 a1 : Value} (v0 v1 : Value) (h : w.heap[g]? = some (.cells #[a0, a1] T)) : (set2 w g v0 v1).heap[g]? = some (.cells #[v0, v1] T) :=
  box_set (box_set (cs := [a0, a1]) h 0 v0) 1 v1
theorem set2o {w : World} {g k : Nat} (v0 v1 : Value) (h : k ≠ g) : (set2 w g v0 v1).heap[k]? = w.heap[k]? := by
  unfold set2
  rw [Below.heap_setCell _ _ _ _ h, Below.heap_setCell _ _ _ _ h]
theorem set2b {B : Nat} {w0 w : World} {g : Nat} (v0 v1 : Value) (h : Below B w0 w) (hg : B ≤ g) : Below B w0 (set2 w g v0 v1) :=
  (h.setCell (p := ⟨g, 0, none⟩) hg _).setCell (p := ⟨g, 1, none⟩) hg _
theorem set2r {w : World} {B E st n g : Nat} {v : Value} {xs : List Value} (v0 v1 : Value) (h : w.ownsRow B E st v n xs) (hk : ∀ k, v.ownBlock = some k → k ≠ g) : (set2 w g v0 v1).ownsRow B E st v n xs :=
  own_off (own_off h hk 0 v0) hk 1 v1
theorem lv24 {w : World} {g : Nat} {a b : Value} (hg : w.heap[g]? = some (.cells #[a, b] 24)) : (loadVar 24 ⟨g, 0, none⟩).run Try.prog w = .ok (.agg #[a, b]) w := run_loadVar_row w g 24 24 #[a, b] (0, 0) _ hg Try.underlying24 rfl rfl
theorem lv32 {w : World} {g : Nat} {a b c d e : Value} (hg : w.heap[g]? = some (.cells #[a, b, c, d, e] 32)) : (loadVar 32 ⟨g, 0, none⟩).run Try.prog w = .ok (.agg #[a, b, c, d, e]) w := run_loadVar_row w g 32 32 #[a, b, c, d, e] (0, 0) _ hg Try.underlying32 rfl rfl
theorem results_v_tmp {fn : Func} {p u : Tmp} {ty : TypeId} (h : fn.results = #[.cell p ty, .tmp u]) (tmps : Array Value) (w : World) (g : Nat) (v : Value)
    (hp : tmps.getD p undef = .pointer (some ⟨g, 0, none⟩)) (hlv : (loadVar ty ⟨g, 0, none⟩).run Try.prog w = .ok v w) (z : Value) (hz : tmps.getD u undef = z) :
    (results fn tmps).run Try.prog w = .ok (.tuple #[v, z]) w := by
  have hp' : tmps[p]?.getD undef = .pointer (some ⟨g, 0, none⟩) := by simpa using hp
  have hz' : tmps[u]?.getD undef = z := by simpa using hz
  simp [results, h, hp', hz', asAddr, hlv]
theorem results_v_tmp2 {fn : Func} {p u u2 : Tmp} {ty : TypeId} (h : fn.results = #[.cell p ty, .tmp u, .tmp u2]) (tmps : Array Value) (w : World) (g : Nat) (v : Value)
    (hp : tmps.getD p undef = .pointer (some ⟨g, 0, none⟩)) (hlv : (loadVar ty ⟨g, 0, none⟩).run Try.prog w = .ok v w) (z : Value) (hz : tmps.getD u undef = z) (z2 : Value) (hz2 : tmps.getD u2 undef = z2) :
    (results fn tmps).run Try.prog w = .ok (.tuple #[v, z, z2]) w := by
  have hp' : tmps[p]?.getD undef = .pointer (some ⟨g, 0, none⟩) := by simpa using hp
  have hz' : tmps[u]?.getD undef = z := by simpa using hz
  have hz2' : tmps[u2]?.getD undef = z2 := by simpa using hz2
  simp [results, h, hp', hz', hz2', asAddr, hlv]

set_option maxHeartbeats 4000000 in
set_option maxRecDepth 100000 in
theorem copiedEvent_any (t n k o : Int) (A : Option Addr) (m c : Nat) (p : List Nat) (w : World) (hp : Byt w (.slice A m c) p) (hn : NilOk (.slice A m c)) (hl : m ≤ 1000000000) :
    Calls Try.prog 35 #[.agg #[.int .i64 t, .int .i64 n, .int .i64 k, .int .i64 o, .slice A m c]] w fun e w' => ∃ A' c', e = .returned (.agg #[.int .i64 t, .int .i64 n, .int .i64 k, .int .i64 o, .slice A' m c']) ∧ w'.ownsRow w.heap.size 5 1 (.slice A' m c') p.length (p.map byteV) ∧ Below w.heap.size w w' := by
  have em : m = p.length := by
    obtain ⟨_, _, e⟩ := byt_form hp
    injection e
  obtain ⟨W1, hW1⟩ : ∃ W1, (w.alloc (.cells #[.int .i64 t, .int .i64 n, .int .i64 k, .int .i64 o, .slice A m c] 32)).alloc (.cells #[.int .i64 0, .int .i64 0, .int .i64 0, .int .i64 0, .slice none 0 0] 32) = W1 := ⟨_, rfl⟩
  have hb1 : Below w.heap.size w W1 := by rw [← hW1]; exact ((Below.refl _ w).alloc (Nat.le_refl _) _).alloc (by simp) _
  have hx1 : W1.heap[w.heap.size]? = some (.cells #[.int .i64 t, .int .i64 n, .int .i64 k, .int .i64 o, .slice A m c] 32) := by rw [← hW1]; exact (Below.heap_alloc _ _ _ (by simp)).trans (heap_alloc_new w _)
  have hy1 : W1.heap[w.heap.size + 1]? = some (.cells #[.int .i64 0, .int .i64 0, .int .i64 0, .int .i64 0, .slice none 0 0] 32) := by rw [← hW1]; simpa using heap_alloc_new (w.alloc (.cells #[.int .i64 t, .int .i64 n, .int .i64 k, .int .i64 o, .slice A m c] 32)) (.cells #[.int .i64 0, .int .i64 0, .int .i64 0, .int .i64 0, .slice none 0 0] 32)
  have hcl := clone_any p (.slice A m c) W1 (hp.below hb1) hn (by omega)
  have HCL := hid hcl
  have HB1 := hid hb1
  have HX1 := hid hx1
  have HY1 := hid hy1
  have HW1 := hid hW1
  have HM := hid em
  have x4 : W1.cell? ⟨w.heap.size, 4, none⟩ = some (.slice A m c) := cell_of_row _ _ 4 _ _ _ hx1
  clear hcl hb1 hx1 hy1 hW1 hp hn em
  go_enter Try.func35, Try.ntmps35
  go_wp2_with fail
  rw [HW1.out]
  refine HCL.out.mono ?_
  rintro e w2 ⟨v2, rfl, ho2, hb2⟩
  obtain ⟨A2, c2, rfl⟩ := own_form ho2
  rw [← HM.out] at ho2 ⊢
  have hx2 := (hb2.block _ (box_lt HX1.out)).trans HX1.out
  have hy2 := (hb2.block _ (box_lt HY1.out)).trans HY1.out
  have hx3 := box_set (cs := [.int .i64 t, .int .i64 n, .int .i64 k, .int .i64 o, .slice A m c]) hx2 4 (.slice A2 m c2)
  have x0 := cell_of_row _ _ 0 _ _ _ hx2
  have x1 := cell_of_row _ _ 1 _ _ _ hx2
  have x2 := cell_of_row _ _ 2 _ _ _ hx2
  have x3 := cell_of_row _ _ 3 _ _ _ hx2
  have x4 := cell_of_row _ _ 4 _ _ _ hx2
  have y0 := cell_of_row _ _ 0 _ _ _ hy2
  have y1 := cell_of_row _ _ 1 _ _ _ hy2
  have y2 := cell_of_row _ _ 2 _ _ _ hy2
  have y3 := cell_of_row _ _ 3 _ _ _ hy2
  have y4 := cell_of_row _ _ 4 _ _ _ hy2
  have fx4 := box_fr hx2 4
  have fy0 := box_fr hy2 0
  have fy1 := box_fr hy2 1
  have fy2 := box_fr hy2 2
  have fy3 := box_fr hy2 3
  have fy4 := box_fr hy2 4
  go_wp2_with fail
  have hy3 : (w2.setCell ⟨w.heap.size, 4, none⟩ (.slice A2 m c2)).heap[w.heap.size + 1]? = some (.cells #[.int .i64 0, .int .i64 0, .int .i64 0, .int .i64 0, .slice none 0 0] 32) := (Below.heap_setCell _ _ _ _ (show w.heap.size + 1 ≠ w.heap.size by omega)).trans hy2
  refine bodyPost_ret (results_cell_row rfl _ _ (w.heap.size + 1) 32 #[.int .i64 t, .int .i64 n, .int .i64 k, .int .i64 o, .slice A2 m c2] (0, 0) _ rfl (set5h _ _ _ _ _ hy3) Try.underlying32 rfl rfl) rfl ?_
  have hlow : w.heap.size + 2 = W1.heap.size := by rw [← HW1.out]; simp
  refine ⟨A2, c2, rfl, ?_, ?_⟩
  · rw [HM.out] at ho2 ⊢
    exact own_base (set5r _ _ _ _ _ (own_off ho2 (fun k e => by have := (ho2.lt k e).1; omega) 4 _) (show w.heap.size + 1 < W1.heap.size by omega)) (by omega)
  · exact set5b _ _ _ _ _ ((HB1.out.trans (hb2.mono HB1.out.size)).setCell (p := ⟨w.heap.size, 4, none⟩) (Nat.le_refl _) _) (Nat.le_succ _)

/-- What copying events gives. -/
def CpQ (w : World) (l : List Ec) (e : Ending) (w' : World) : Prop :=
  ∃ (v : Value) (vs : List Ev), e = .returned v ∧ w'.ownsRow w.heap.size 32 5 v vs.length (vs.map cEv).flatten ∧ vs.map core = l ∧ (∀ x ∈ vs, Pay w' x) ∧ Below w.heap.size w w'
set_option maxHeartbeats 4000000 in
set_option maxRecDepth 100000 in
theorem copied_any (l : List Ev) (v : Value) (w : World) (hv : EL w v l) (hl : l.length ≤ 100000) (hb : ∀ x ∈ l, x.p.length ≤ 100000) :
    Calls Try.prog 33 #[v] w (CpQ w (l.map core)) := by
  obtain ⟨A, c, rfl⟩ := el_form hv
  obtain ⟨N, hN⟩ : ∃ N, l.length = N := ⟨_, rfl⟩
  have HV := hid hv
  have HN := hid hN
  have HPB := hid hb
  rw [hN] at HV hl ⊢
  clear hv hN hb
  go_enter Try.func33, Try.ntmps33
  go_wp2_with fail
  go_loopw [3, 8] (fun ev i wr => ∃ (k : Nat) (vs : List Ev), k ≤ N ∧ i = .int .i64 (k : Int) ∧ Hid (vs.length = k) ∧ Hid (vs.map core = (l.take k).map core) ∧ Hid (wr.ownsRow w.heap.size 32 5 ev k (vs.map cEv).flatten) ∧ Hid (∀ x ∈ vs, Pay wr x) ∧ Hid (Below w.heap.size w wr)) (fun _ i _ => N - (Lib.intOf i).toNat)
  case atStart => exact ⟨0, [], Nat.zero_le _, rfl, hid rfl, hid (by simp), hid (World.ownsRow_nil _ _ _ _), hid (fun x hx => by cases hx), hid (Below.refl _ _)⟩
  case round =>
    obtain ⟨k, vs, hk, rfl, HM, HVS, HO, HP, HB⟩ := hrel
    obtain ⟨eA, ec, rfl⟩ := own_form32 HO.out
    by_cases hkn : k < N
    · have hkn' : (k : Int) < (N : Int) := by omega
      obtain ⟨b, off, rfl, hbl, hc⟩ := el_cells (HV.out.below HB.out) (by rw [HN.out]; omega)
      obtain ⟨x, hx⟩ : ∃ x, l[k]? = some x := ⟨l[k]'(by rw [HN.out]; exact hkn), List.getElem?_eq_getElem _⟩
      obtain ⟨q0, q1, q2, q3, q4⟩ := hc k x hx
      have hxb := (HV.out.below HB.out).1 x (List.mem_of_getElem? hx)
      have hxl := HPB.out x (List.mem_of_getElem? hx)
      have HTK := hid (show (l.take (k + 1)).map core = (l.take k).map core ++ [core x] by rw [take_succ'' hx, List.map_append]; rfl)
      clear hc hx
      obtain ⟨xt, xn, xk, xo, xd, xp⟩ := x
      dsimp only at q0 q1 q2 q3 q4 hxb hxl
      obtain ⟨xA, xc, rfl⟩ := byt_form hxb.1
      obtain ⟨xm, hxm⟩ : ∃ xm, xp.length = xm := ⟨_, rfl⟩
      rw [hxm] at q4 hxb hxl
      have HXM := hid hxm
      obtain ⟨W2, hW2⟩ : ∃ W2, wr.alloc (.cells #[.int .i64 xt, .int .i64 xn, .int .i64 xk, .int .i64 xo, .slice xA xm xc] 32) = W2 := ⟨_, rfl⟩
      have hb2 : Below wr.heap.size wr W2 := by rw [← hW2]; exact al1 _ _
      have hce := copiedEvent_any xt xn xk xo xA xm xc xp W2 (hxb.1.below hb2) hxb.2 (by omega)
      have HCE := hid hce
      have HB2 := hid (HB.out.trans (hb2.mono HB.out.size))
      have HO2 := hid (own_keep HO.out (keep_below hb2))
      have HP2 := hid (fun x hx => (HP.out x hx).keep (keep_below hb2))
      have HW2 := hid hW2
      have H8 := hid hxb.1.1
      clear hce hb2 hxb hxm hW2
      go_wp2_with fail
      rw [HW2.out]
      refine HCE.out.mono ?_
      rintro e w3 ⟨dA, dc, rfl, ho3, hb3⟩
      have HB3 := hid (HB2.out.trans (hb3.mono HB2.out.size))
      have HO3 := hid (own_keep HO2.out (keep_below hb3))
      have HP3 := hid (fun x hx => (HP2.out x hx).keep (keep_below hb3))
      have HQ3 := hid ho3
      have hz3 := HB3.out.size
      clear hb3 ho3 HCE
      go_wp2_with (at_builtin; refine append_ev rfl (.tmp 12) (.tmp 15) rfl w.heap.size (.slice eA k ec) k _ rfl (own_keep HO3.out (keep_below (al1 _ _))) [.int .i64 xt, .int .i64 xn, .int .i64 xk, .int .i64 xo, .slice dA xm dc] rfl (ev_one _ _ _ _ _ _ _) ⟨w3.heap.size, 0, none⟩ 1 rfl (fun j u hu => by rw [add_at, cell_of_row _ _ _ _ _ _ (heap_alloc_new _ _)]; simpa using hu) (by omega) (by simp at *; omega) ?_; intro v4 w4 ho4 hg4; have how := own_keep HO3.out (keep_below (al1 w3 (.cells #[.int .i64 xt, .int .i64 xn, .int .i64 xk, .int .i64 xo, .slice dA xm dc] 32))); have hkp := keep_grown (T := 5) how (by decide) hg4; have HB4 := hid ((HB3.out.alloc hz3 _).grown hg4 (by simp at *; omega) (fun k e => (how.lt k e).1)); have HP4 := hid (fun x hx => ((HP3.out x hx).keep (keep_below (al1 _ _))).keep hkp); have HQ4 := hid (own_keep (own_keep HQ3.out (keep_below (al1 _ _))) hkp); obtain ⟨a4, c4, rfl⟩ := own_form32 ho4; have HO4 := hid ho4; clear ho4 hg4 hkp how)
      go_roundw
      case rel => exact ⟨k + 1, vs ++ [⟨xt, xn, xk, xo, .slice dA xm dc, xp⟩], by omega, by go_num, hid (by rw [List.length_append, HM.out]; rfl), hid (by rw [List.map_append, HVS.out, HTK.out]; rfl), hid (by rw [List.map_append, List.flatten_append]; simpa [cEv] using HO4.out), hid (fun x hx => (List.mem_append.1 hx).elim (HP4.out x) (fun hx => by rw [List.mem_singleton] at hx; subst hx; exact ⟨⟨_, by dsimp only; rw [HXM.out]; have h := HQ4.out; rw [HXM.out] at h; exact h⟩, H8.out⟩)), HB4⟩
      case measure => simp [Lib.intOf]; omega
    · obtain rfl : k = N := by omega
      go_wp2_with fail
      go_ret
      exact ⟨_, vs, rfl, by rw [HM.out]; exact HO.out, by rw [HVS.out, List.take_of_length_le (by rw [HN.out]; omega)], HP.out, HB.out⟩
end Go.Proofs.Ytjpfogdfgcfkcaa
