/- The reader's repeat and group. -/
import Derived.Test.YtielamoaghibgaaRi
import Derived.Maps.AppendAt
namespace Go.Proofs.Ytielamoaghibgaa
open Go.RowKit Go.Lib

/-- The reader in box g: its rest, its bound, the list that it owns from base on. -/
def Rdl (w0 w : World) (g base : Nat) (s : List Nat) (m : Value) (l : List Sect) : Prop := ∃ lv, Rdr w0 w g s m lv ∧ w.ownsRow base 41 8 lv l.length (l.map cSec).flatten
theorem cells_one (l : List Sect) : ∀ u ∈ (l.map cSec).flatten, u.oneCell' = true := fun u hu => by
  obtain ⟨x, hx, hu⟩ := List.mem_flatten.1 hu
  obtain ⟨s, _, rfl⟩ := List.mem_map.1 hx
  exact byteV_one s u hu
theorem add_at' (b k : Nat) : (⟨b, 0, none⟩ : Addr).add k = ⟨b, k, none⟩ := by unfold Addr.add; split <;> simp_all
theorem keep_setc {W : World} {g i : Nat} {T E : TypeId} {cs : Array Value} {v : Value} (h : W.heap[g]? = some (.cells cs E)) (hT : T ≠ E) : Keep T W (W.setCell ⟨g, i, none⟩ v) := fun k cs' hk => by
  refine (Below.heap_setCell W ⟨g, i, none⟩ v k (fun e => ?_)).trans hk
  have e' : k = g := e
  subst e'
  rw [h] at hk
  cases hk
  exact hT rfl
theorem rep_snoc (l : List Sect) (k : Nat) (x : Sect) : ((l ++ List.replicate (k + 1) x).map cSec).flatten = ((l ++ List.replicate k x).map cSec).flatten ++ ([x].map cSec).flatten := by
  rw [List.replicate_succ', ← List.append_assoc, List.map_append, List.flatten_append]
theorem own_form41 {w : World} {base n : Nat} {v : Value} {xs : List Value} (h : w.ownsRow base 41 8 v n xs) : ∃ A cap, v = .slice A n cap := by
  rcases h.2 with ⟨rfl, rfl⟩ | ⟨g, cap, cur, rfl, _⟩
  · exact ⟨none, 0, rfl⟩
  · exact ⟨_, _, rfl⟩

theorem step_append_at {P : Program} {ops : Array Oper} {o : Oper} {a : Act} {w : World} {K : Act → World → Prop} {Q : Exit → Act → World → Prop} {E : Prop}
    (hg : o.guard = none) (s x : Operand) (t : TypeId) (hop : o.op = Op.call { callee := Callee.builtin Builtin.append, args := #[s, x], argTypes := #[t, t] })
    (base : Nat) (e : TypeId) (i : TypeInfo) (z : Value) (size bytes : Nat) (h1 : P.underlying t = some (.slice e)) (h2 : P.info? e = some i) (h3 : i.zero = some z) (h4 : i.size = size) (h5 : i.bytes = bytes) (h6 : z.cells.size = size) (h7 : 0 < size)
    (v : Value) (n : Nat) (olds : List Value) (hs : a.eval s = v) (hown : w.ownsRow base e size v n olds)
    (ad : Addr) (m c : Nat) (news : List Value) (hx : a.eval x = .slice (some ad) m c) (hn : news.length = m * size) (hc : ∀ j u, news[j]? = some u → w.cell? (ad.add j) = some u) (h1c : ∀ u ∈ news, u.oneCell' = true)
    (b1 : n + m ≤ maxLen) (b2 : (n + m) * bytes ≤ 140737488355328) (hbase : base ≤ w.heap.size)
    (hK : ∀ v' w', w'.ownsRow base e size v' (n + m) (olds ++ news) → w.grownBy w' v.ownBlock → (v'.ownBlock = v.ownBlock ∨ v'.ownBlock = some w.heap.size) → K (a.put o.dst v') w') :
    if Region.wanted o (yielded ops a.tmps) = true then Oper.wp P o a w K Q else E := by
  have hw : Region.wanted o (yielded ops a.tmps) = true := by simp [Region.wanted, hg]
  rw [if_pos hw]
  obtain ⟨v', w', hrun, r1, r2, _, r4⟩ := run_append_own_at (P := P) w base t o.type e i z size bytes h1 h2 h3 h4 h5 h6 h7 v n olds hown ad m c news hn hc h1c b1 b2 hbase
  unfold Oper.wp
  simp [execOp, hop, resolve, invoke, builtin, hs, hx, hrun, Result.andThen]
  exact hK v' w' r1 r2 r4
set_option maxRecDepth 100000 in
/-- An append of sectors to a row of sectors. -/
theorem step_append_secs {ops : Array Oper} {o : Oper} {a : Act} {w : World} {K : Act → World → Prop} {Q : Exit → Act → World → Prop} {E : Prop}
    (hg : o.guard = none) (s x : Operand) (hop : o.op = Op.call { callee := Callee.builtin Builtin.append, args := #[s, x], argTypes := #[22, 22] })
    (base : Nat) (v : Value) (n : Nat) (olds : List Value) (hs : a.eval s = v) (hown : w.ownsRow base 41 8 v n olds)
    (ad : Addr) (l : List Sect) (m c : Nat) (hm : l.length = m) (hl : Secs l) (hx : a.eval x = .slice (some ad) m c) (hc : ∀ j u, (l.map cSec).flatten[j]? = some u → w.cell? (ad.add j) = some u)
    (b1 : n + m ≤ 100000000) (hbase : base ≤ w.heap.size)
    (hK : ∀ v' w', w'.ownsRow base 41 8 v' (n + m) (olds ++ (l.map cSec).flatten) → w.grownBy w' v.ownBlock → (v'.ownBlock = v.ownBlock ∨ v'.ownBlock = some w.heap.size) → K (a.put o.dst v') w') :
    if Region.wanted o (yielded ops a.tmps) = true then Oper.wp Try.prog o a w K Q else E := by
  obtain ⟨i0, hi, hz0, hz1, hz2⟩ := info_parts info41
  exact step_append_at hg s x 22 hop base 41 i0 _ 8 8 Try.underlying22 hi hz0 hz1 hz2 rfl (by decide) v n olds hs hown ad m c _ hx (by rw [flat_cells hl]; omega) hc (cells_one l) (by unfold maxLen; omega) (by omega) hbase hK

set_option maxHeartbeats 2000000 in
set_option maxRecDepth 100000 in
theorem repeat_any (s : List Nat) (x : Sect) (n g base : Nat) (m : Value) (l : List Sect) (w0 w : World) (hb0 : Below w0.heap.size w0 w) (hr : Rdl w0 w g base s m l) (hx : x.length = 8) (hx8 : B8 x) (hn : n ≤ 4096) (hl : l.length ≤ 4096) (hbg : base ≤ g) :
    Calls Try.prog 39 #[.pointer (some ⟨g, 0, none⟩), .agg (cSec x).toArray, .int .i64 (n : Int)] w fun e w' => (∃ v, e = .returned v) ∧ Below base w w' ∧ Rdl w0 w' g base s m (l ++ List.replicate n x) := by
  have hs8 := hx8
  obtain ⟨x0, x1, x2, x3, x4, x5, x6, x7, rfl⟩ := list8 hx
  show Calls Try.prog 39 #[.pointer (some ⟨g, 0, none⟩), .agg #[.int .u8 (x0 : Int), .int .u8 (x1 : Int), .int .u8 (x2 : Int), .int .u8 (x3 : Int), .int .u8 (x4 : Int), .int .u8 (x5 : Int), .int .u8 (x6 : Int), .int .u8 (x7 : Int)], .int .i64 (n : Int)] w _
  obtain ⟨lv, hrd, hown⟩ := hr
  have HB0 := hid hb0
  have hgl := hrd.lt
  have HONE : Hid (Secs [[x0, x1, x2, x3, x4, x5, x6, x7]]) := hid (fun s hs => by rw [List.mem_singleton] at hs; subst hs; exact ⟨rfl, hs8⟩)
  have hHo : Hid (lv.ownBlock ≠ some w.heap.size) := hid (fun e => by have := (hown.lt _ e).2; omega)
  have HX0 := hid (heap_alloc_new w (.cells #[.int .u8 (x0 : Int), .int .u8 (x1 : Int), .int .u8 (x2 : Int), .int .u8 (x3 : Int), .int .u8 (x4 : Int), .int .u8 (x5 : Int), .int .u8 (x6 : Int), .int .u8 (x7 : Int)] 41))
  have hB1 : Below base w (w.alloc (.cells #[.int .u8 (x0 : Int), .int .u8 (x1 : Int), .int .u8 (x2 : Int), .int .u8 (x3 : Int), .int .u8 (x4 : Int), .int .u8 (x5 : Int), .int .u8 (x6 : Int), .int .u8 (x7 : Int)] 41)) := (Below.refl _ w).alloc (by omega) _
  have hb1 : Below w.heap.size w (w.alloc (.cells #[.int .u8 (x0 : Int), .int .u8 (x1 : Int), .int .u8 (x2 : Int), .int .u8 (x3 : Int), .int .u8 (x4 : Int), .int .u8 (x5 : Int), .int .u8 (x6 : Int), .int .u8 (x7 : Int)] 41)) := al1 _ _
  have HO0 := hid (own_keep hown (keep_below hb1))
  obtain ⟨v, hgb, hvb, hnb⟩ := hrd
  have HG0 := hid ((hb1.block g hgl).trans hgb)
  obtain ⟨W1, hW1⟩ : ∃ W1, w.alloc (.cells #[.int .u8 (x0 : Int), .int .u8 (x1 : Int), .int .u8 (x2 : Int), .int .u8 (x3 : Int), .int .u8 (x4 : Int), .int .u8 (x5 : Int), .int .u8 (x6 : Int), .int .u8 (x7 : Int)] 41) = W1 := ⟨_, rfl⟩
  have hz1 : W1.heap.size = w.heap.size + 1 := by rw [← hW1]; simp
  rw [hW1] at HX0 hB1 HO0 HG0
  have HB1 := hid hB1
  have HVB := hid hvb
  have HNB := hid hnb
  obtain ⟨L, hL⟩ : ∃ L, l.length = L := ⟨_, rfl⟩
  have HLL := hid hL
  rw [hL] at HO0 hl
  have HO1 : Hid (W1.ownsRow base 41 8 lv (L + 0) ((l ++ List.replicate 0 [x0, x1, x2, x3, x4, x5, x6, x7]).map cSec).flatten) := hid (by rw [List.replicate_zero, List.append_nil, Nat.add_zero]; exact HO0.out)
  have hzw : w.heap.size < W1.heap.size := by omega
  clear hgb hvb hnb hown hB1 hb1 hb0 hL HO0 hz1
  go_enter Try.func39, Try.ntmps39
  go_wp2_with fail
  go_loopw [7] (fun i wr => ∃ (k : Nat) (lv : Value), k ≤ n ∧ i = .int .i64 (k : Int) ∧ Hid (wr.heap[g]? = some (.cells #[v, m, lv] 64)) ∧ Hid (wr.ownsRow base 41 8 lv (L + k) ((l ++ List.replicate k [x0, x1, x2, x3, x4, x5, x6, x7]).map cSec).flatten) ∧ Hid (lv.ownBlock ≠ some w.heap.size) ∧ Hid (wr.heap[w.heap.size]? = some (.cells #[.int .u8 (x0 : Int), .int .u8 (x1 : Int), .int .u8 (x2 : Int), .int .u8 (x3 : Int), .int .u8 (x4 : Int), .int .u8 (x5 : Int), .int .u8 (x6 : Int), .int .u8 (x7 : Int)] 41)) ∧ Hid (Below base w wr) ∧ w.heap.size < wr.heap.size) (fun i _ => n - (Lib.intOf i).toNat)
  case atStart => exact ⟨0, lv, Nat.zero_le _, rfl, HG0, HO1, hHo, HX0, HB1, hzw⟩
  case round =>
    clear HG0 HO1 hHo HX0 HB1 hzw
    obtain ⟨k, lv, hk, rfl, HG, HO, HNE, HX, HB, hzw⟩ := hrel
    by_cases hkn : k < n
    · obtain ⟨lA, lc, rfl⟩ := own_form41 HO.out
      have hkc : (k : Int) < (n : Int) := by omega
      have hHeld : wr.drew.cell? ⟨g, 2, none⟩ = some (.slice lA (L + k) lc) ∧ wr.drew.cell? ⟨w.heap.size, 0, none⟩ = some (.int .u8 (x0 : Int)) ∧ wr.drew.cell? ⟨w.heap.size, 1, none⟩ = some (.int .u8 (x1 : Int)) ∧ wr.drew.cell? ⟨w.heap.size, 2, none⟩ = some (.int .u8 (x2 : Int)) ∧ wr.drew.cell? ⟨w.heap.size, 3, none⟩ = some (.int .u8 (x3 : Int)) ∧ wr.drew.cell? ⟨w.heap.size, 4, none⟩ = some (.int .u8 (x4 : Int)) ∧ wr.drew.cell? ⟨w.heap.size, 5, none⟩ = some (.int .u8 (x5 : Int)) ∧ wr.drew.cell? ⟨w.heap.size, 6, none⟩ = some (.int .u8 (x6 : Int)) ∧ wr.drew.cell? ⟨w.heap.size, 7, none⟩ = some (.int .u8 (x7 : Int)) := ⟨cell_of_row _ _ 2 _ _ _ HG.out, cell_of_row _ _ 0 _ _ _ HX.out, cell_of_row _ _ 1 _ _ _ HX.out, cell_of_row _ _ 2 _ _ _ HX.out, cell_of_row _ _ 3 _ _ _ HX.out, cell_of_row _ _ 4 _ _ _ HX.out, cell_of_row _ _ 5 _ _ _ HX.out, cell_of_row _ _ 6 _ _ _ HX.out, cell_of_row _ _ 7 _ _ _ HX.out⟩
      go_wp2_with fail
      refine region_tail 10 (fun X : World => X.cell? ⟨g, 2, none⟩ = some (.slice lA (L + k) lc) ∧ X.cell? ⟨w.heap.size, 0, none⟩ = some (.int .u8 (x0 : Int)) ∧ X.cell? ⟨w.heap.size, 1, none⟩ = some (.int .u8 (x1 : Int)) ∧ X.cell? ⟨w.heap.size, 2, none⟩ = some (.int .u8 (x2 : Int)) ∧ X.cell? ⟨w.heap.size, 3, none⟩ = some (.int .u8 (x3 : Int)) ∧ X.cell? ⟨w.heap.size, 4, none⟩ = some (.int .u8 (x4 : Int)) ∧ X.cell? ⟨w.heap.size, 5, none⟩ = some (.int .u8 (x5 : Int)) ∧ X.cell? ⟨w.heap.size, 6, none⟩ = some (.int .u8 (x6 : Int)) ∧ X.cell? ⟨w.heap.size, 7, none⟩ = some (.int .u8 (x7 : Int))) (by kernel_rfl) ?_
      refine' wpAnyT_take (i := 0) (oi := ?oi1) (v := ?v1) ?hi1 (by kernel_rfl) (by kernel_rfl) ?hq1 ?hy1 hHeld ?rest1
      case hi1 => (simp only [List.getElem?_toArray, List.getElem?_cons_zero]; rfl)
      case hq1 => exact fun _ _ _ h => h
      case hy1 => (refine Or.inl ⟨by rfl, ?_⟩; intro w' hSw; (try dsimp only at hSw); go_simp; try with_reducible rfl)
      (try simp only [Act.put, List.setIfInBounds_toArray, List.set_cons_zero, List.set_cons_succ])
      refine' wpAnyT_take (i := 1) (oi := ?oi2) (v := ?v2) ?hi2 (by kernel_rfl) (by kernel_rfl) ?hq2 ?hy2 hHeld ?rest2
      case hi2 => (simp only [List.getElem?_toArray, List.getElem?_cons_zero, List.getElem?_cons_succ]; rfl)
      case hq2 => exact fun _ _ _ h => h
      case hy2 => (refine Or.inl ⟨by rfl, ?_⟩; intro w' hSw; (try dsimp only at hSw); go_simp; try with_reducible rfl)
      (try simp only [Act.put, List.setIfInBounds_toArray, List.set_cons_zero, List.set_cons_succ])
      refine' wpAnyT_take (i := 2) (oi := ?oi3) (v := ?v3) ?hi3 (by kernel_rfl) (by kernel_rfl) ?hq3 ?hy3 hHeld ?rest3
      case hi3 => (simp only [List.getElem?_toArray, List.getElem?_cons_zero, List.getElem?_cons_succ]; rfl)
      case hq3 => exact fun _ _ _ h => h
      case hy3 => (refine Or.inl ⟨by rfl, ?_⟩; intro w' hSw; (try dsimp only at hSw); go_simp; try with_reducible rfl)
      (try simp only [Act.put, List.setIfInBounds_toArray, List.set_cons_zero, List.set_cons_succ])
      refine' wpAnyT_take (i := 3) (oi := ?oi4) (v := ?v4) ?hi4 (by kernel_rfl) (by kernel_rfl) ?hq4 ?hy4 hHeld ?rest4
      case hi4 => (simp only [List.getElem?_toArray, List.getElem?_cons_zero, List.getElem?_cons_succ]; rfl)
      case hq4 => exact fun _ _ _ h => h
      case hy4 => (refine Or.inl ⟨by rfl, ?_⟩; intro w' hSw; (try dsimp only at hSw); go_simp; try with_reducible rfl)
      (try simp only [Act.put, List.setIfInBounds_toArray, List.set_cons_zero, List.set_cons_succ])
      refine' wpAnyT_take (i := 4) (oi := ?oi5) (v := ?v5) ?hi5 (by kernel_rfl) (by kernel_rfl) ?hq5 ?hy5 hHeld ?rest5
      case hi5 => (simp only [List.getElem?_toArray, List.getElem?_cons_zero, List.getElem?_cons_succ]; rfl)
      case hq5 => exact fun _ _ _ h => h
      case hy5 => (refine Or.inl ⟨by rfl, ?_⟩; intro w' hSw; (try dsimp only at hSw); go_simp; try with_reducible rfl)
      (try simp only [Act.put, List.setIfInBounds_toArray, List.set_cons_zero, List.set_cons_succ])
      refine' wpAnyT_take (i := 5) (oi := ?oi6) (v := ?v6) ?hi6 (by kernel_rfl) (by kernel_rfl) ?hq6 ?hy6 hHeld ?rest6
      case hi6 => (simp only [List.getElem?_toArray, List.getElem?_cons_zero, List.getElem?_cons_succ]; rfl)
      case hq6 => exact fun _ _ _ h => h
      case hy6 => (refine Or.inl ⟨by rfl, ?_⟩; intro w' hSw; (try dsimp only at hSw); go_simp; try with_reducible rfl)
      (try simp only [Act.put, List.setIfInBounds_toArray, List.set_cons_zero, List.set_cons_succ])
      refine' wpAnyT_one (i := 6) (o := ?oi7) (by kernel_rfl) ?hi7 (fun K hK => ?st7)
      case hi7 => (simp only [List.getElem?_toArray, List.getElem?_cons_zero, List.getElem?_cons_succ]; rfl)
      go_simp
      obtain ⟨W6, hW6⟩ : ∃ W6, (wr.alloc (.cells #[.int .u8 (x0 : Int), .int .u8 (x1 : Int), .int .u8 (x2 : Int), .int .u8 (x3 : Int), .int .u8 (x4 : Int), .int .u8 (x5 : Int), .int .u8 (x6 : Int), .int .u8 (x7 : Int)] 41)).drew = W6 := ⟨_, rfl⟩
      have hb6 : Below wr.heap.size wr W6 := by rw [← hW6]; exact below_drew (al1 _ _)
      have hn6 : W6.heap[wr.heap.size]? = some (.cells #[.int .u8 (x0 : Int), .int .u8 (x1 : Int), .int .u8 (x2 : Int), .int .u8 (x3 : Int), .int .u8 (x4 : Int), .int .u8 (x5 : Int), .int .u8 (x6 : Int), .int .u8 (x7 : Int)] 41) := by rw [← hW6]; exact heap_alloc_new wr _
      have hz6 : W6.heap.size = wr.heap.size + 1 := by rw [← hW6]; exact (by simp : (wr.alloc (.cells #[.int .u8 (x0 : Int), .int .u8 (x1 : Int), .int .u8 (x2 : Int), .int .u8 (x3 : Int), .int .u8 (x4 : Int), .int .u8 (x5 : Int), .int .u8 (x6 : Int), .int .u8 (x7 : Int)] 41)).heap.size = wr.heap.size + 1)
      have hx6 := (hb6.block w.heap.size (by omega)).trans HX.out
      have hg6 := (hb6.block g (box_lt HG.out)).trans HG.out
      have HO6 := hid (own_keep HO.out (keep_below hb6))
      have HN6 := hid hn6
      have HX6 := hid hx6
      have HG6 := hid hg6
      have HB6 := hid hb6
      clear hb6 hn6 hx6 hg6
      rw [hW6]
      clear hW6
      clear hHeld
      have hHeld : W6.cell? ⟨g, 2, none⟩ = some (.slice lA (L + k) lc) ∧ W6.cell? ⟨w.heap.size, 0, none⟩ = some (.int .u8 (x0 : Int)) ∧ W6.cell? ⟨w.heap.size, 1, none⟩ = some (.int .u8 (x1 : Int)) ∧ W6.cell? ⟨w.heap.size, 2, none⟩ = some (.int .u8 (x2 : Int)) ∧ W6.cell? ⟨w.heap.size, 3, none⟩ = some (.int .u8 (x3 : Int)) ∧ W6.cell? ⟨w.heap.size, 4, none⟩ = some (.int .u8 (x4 : Int)) ∧ W6.cell? ⟨w.heap.size, 5, none⟩ = some (.int .u8 (x5 : Int)) ∧ W6.cell? ⟨w.heap.size, 6, none⟩ = some (.int .u8 (x6 : Int)) ∧ W6.cell? ⟨w.heap.size, 7, none⟩ = some (.int .u8 (x7 : Int)) := ⟨cell_of_row _ _ 2 _ _ _ HG6.out, cell_of_row _ _ 0 _ _ _ HX6.out, cell_of_row _ _ 1 _ _ _ HX6.out, cell_of_row _ _ 2 _ _ _ HX6.out, cell_of_row _ _ 3 _ _ _ HX6.out, cell_of_row _ _ 4 _ _ _ HX6.out, cell_of_row _ _ 5 _ _ _ HX6.out, cell_of_row _ _ 6 _ _ _ HX6.out, cell_of_row _ _ 7 _ _ _ HX6.out⟩
      refine hK.out _ _ (fun _ => hHeld) ?_
      clear hK K
      (try simp only [Act.put, List.setIfInBounds_toArray, List.set_cons_zero, List.set_cons_succ])
      refine' wpAnyT_one (i := 7) (o := ?oi971) (by kernel_rfl) ?hi971 (fun K hK => ?st971)
      case hi971 => (simp only [List.getElem?_toArray, List.getElem?_cons_zero, List.getElem?_cons_succ]; rfl)
      refine step_append_secs rfl (.tmp 13) (.tmp 15) rfl base (.slice lA (L + k) lc) (L + k) _ (by simp [Act.eval]) HO6.out ⟨wr.heap.size, 0, none⟩ [[x0, x1, x2, x3, x4, x5, x6, x7]] 1 1 rfl HONE.out (by simp [Act.eval]) (fun j u hu => by rw [add_at', cell_of_row _ _ _ _ _ _ HN6.out]; simpa [cSec, byteV] using hu) (by omega) (by omega) ?_
      intro v7 W7 ho7 hg7 hat7
      have hz7 := hg7.size
      have HX7 := hid ((hg7.block w.heap.size (by omega) (fun e => HNE.out e.symm)).trans HX6.out)
      have HG7 := hid (keep_grown HO6.out (T := 64) (by decide) hg7 _ _ HG6.out)
      have HB7 := hid (show Below base w W7 from (HB.out.trans (HB6.out.mono (by omega))).grown hg7 (by omega) (fun k e => (HO6.out.lt k e).1))
      have HNE7 := hid (show v7.ownBlock ≠ some w.heap.size from by rcases hat7 with e | e <;> rw [e]; exact HNE.out; intro h; injection h with h; omega)
      obtain ⟨lA7, lc7, rfl⟩ := own_form41 ho7
      have HO7 := hid ho7
      clear hg7 ho7 hat7 hHeld
      have hHeld : W7.cell? ⟨g, 2, none⟩ = some (.slice lA (L + k) lc) ∧ W7.cell? ⟨w.heap.size, 0, none⟩ = some (.int .u8 (x0 : Int)) ∧ W7.cell? ⟨w.heap.size, 1, none⟩ = some (.int .u8 (x1 : Int)) ∧ W7.cell? ⟨w.heap.size, 2, none⟩ = some (.int .u8 (x2 : Int)) ∧ W7.cell? ⟨w.heap.size, 3, none⟩ = some (.int .u8 (x3 : Int)) ∧ W7.cell? ⟨w.heap.size, 4, none⟩ = some (.int .u8 (x4 : Int)) ∧ W7.cell? ⟨w.heap.size, 5, none⟩ = some (.int .u8 (x5 : Int)) ∧ W7.cell? ⟨w.heap.size, 6, none⟩ = some (.int .u8 (x6 : Int)) ∧ W7.cell? ⟨w.heap.size, 7, none⟩ = some (.int .u8 (x7 : Int)) := ⟨cell_of_row _ _ 2 _ _ _ HG7.out, cell_of_row _ _ 0 _ _ _ HX7.out, cell_of_row _ _ 1 _ _ _ HX7.out, cell_of_row _ _ 2 _ _ _ HX7.out, cell_of_row _ _ 3 _ _ _ HX7.out, cell_of_row _ _ 4 _ _ _ HX7.out, cell_of_row _ _ 5 _ _ _ HX7.out, cell_of_row _ _ 6 _ _ _ HX7.out, cell_of_row _ _ 7 _ _ _ HX7.out⟩
      have f7 := box_fr HG7.out 2
      refine hK.out _ _ (fun _ => hHeld) ?_
      clear hK K
      (try simp only [Act.put, List.setIfInBounds_toArray, List.set_cons_zero, List.set_cons_succ])
      refine' wpAnyT_take (i := 8) (oi := ?oi8) (v := ?v8) ?hi8 (by kernel_rfl) (by kernel_rfl) ?hq8 ?hy8 hHeld ?rest8
      case hi8 => (simp only [List.getElem?_toArray, List.getElem?_cons_zero, List.getElem?_cons_succ]; rfl)
      case hq8 => exact fun _ _ _ h => h
      case hy8 => (refine Or.inl ⟨by rfl, ?_⟩; intro w' hSw; (try dsimp only at hSw); go_simp; try with_reducible rfl)
      (try simp only [Act.put, List.setIfInBounds_toArray, List.set_cons_zero, List.set_cons_succ])
      refine' wpAnyT_take (i := 9) (oi := ?oi9) (v := ?v9) ?hi9 (by kernel_rfl) (by kernel_rfl) ?hq9 ?hy9 hHeld ?rest9
      case hi9 => (simp only [List.getElem?_toArray, List.getElem?_cons_zero, List.getElem?_cons_succ]; rfl)
      case hq9 => exact fun _ _ _ h => h
      case hy9 => (refine Or.inl ⟨by rfl, ?_⟩; intro w' hSw; (try dsimp only at hSw); go_simp; try with_reducible rfl)
      (try simp only [Act.put, List.setIfInBounds_toArray, List.set_cons_zero, List.set_cons_succ])
      refine' wpAnyT_one (i := 10) (o := ?oi10) (by kernel_rfl) ?hi10 (fun K hK => ?st10)
      case hi10 => (simp only [List.getElem?_toArray, List.getElem?_cons_zero, List.getElem?_cons_succ]; rfl)
      go_simp
      refine hK.out _ _ (fun h => absurd h (by decide)) ?_
      clear hK K
      (try simp only [Act.put, List.setIfInBounds_toArray, List.set_cons_zero, List.set_cons_succ])
      refine wpAnyT_done (by kernel_rfl) ?_ _
      have HR1 := hid (box3_s2 HG7.out (.slice lA7 (L + k + 1) lc7))
      have HR2 := hid (own_keep HO7.out (keep_setc (i := 2) (v := .slice lA7 (L + k + 1) lc7) HG7.out (by decide)))
      have HR3 := hid ((Below.heap_setCell W7 ⟨g, 2, none⟩ (.slice lA7 (L + k + 1) lc7) w.heap.size (show w.heap.size ≠ g by omega)).trans HX7.out)
      have HR4 := hid (HB7.out.setCell (p := ⟨g, 2, none⟩) hbg (.slice lA7 (L + k + 1) lc7))
      clear hHeld f7 HG7 HO7 HX7 HB7
      obtain ⟨W8, hW8⟩ : ∃ W8, W7.setCell ⟨g, 2, none⟩ (.slice lA7 (L + k + 1) lc7) = W8 := ⟨_, rfl⟩
      have hz8 : w.heap.size < W8.heap.size := by rw [← hW8]; simp; omega
      rw [hW8] at HR1 HR2 HR3 HR4 ⊢
      clear hW8
      go_wp2
      go_roundw
      case rel => exact ⟨k + 1, _, by omega, by go_num, HR1, hid (by rw [rep_snoc]; exact HR2.out), HNE7, HR3, HR4, hz8⟩
      case measure => simp [Lib.intOf]; omega
    · obtain rfl : k = n := by omega
      go_wp2
      go_end0
      have hlen : (l ++ List.replicate k [x0, x1, x2, x3, x4, x5, x6, x7]).length = L + k := by rw [List.length_append, HLL.out, List.length_replicate]
      exact ⟨⟨_, rfl⟩, HB.out, lv, ⟨v, HG.out, HVB.out, HNB.out⟩, by rw [hlen]; exact HO.out⟩
end Go.Proofs.Ytielamoaghibgaa
