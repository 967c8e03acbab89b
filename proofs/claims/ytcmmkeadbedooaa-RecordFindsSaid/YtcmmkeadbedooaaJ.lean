/- Pack. -/
import Derived.Test.YtcmmkeadbedooaaI
import Derived.Test.YtcmmkeadbedooaaF
import Derived.Laws.CopyOwn
namespace Go.Proofs.Ytcmmkeadbedooaa
open Go.RowKit Go.Lib

theorem step_copy_run {P : Program} {ops : Array Oper} {o : Oper} {a : Act} {w : World} {K : Act → World → Prop} {Q : Exit → Act → World → Prop} {E : Prop}
    (hg : o.guard = none) (d x : Operand) (dT sT : TypeId) (hop : o.op = Op.call { callee := Callee.builtin Builtin.copy, args := #[d, x], argTypes := #[dT, sT] })
    (v u : Value) (hd : a.eval d = v) (hx : a.eval x = u) {v' : Value} {w' : World} (hr : (Builtin.copy_ #[dT, sT] o.type #[v, u]).run P w = .ok v' w') (hK : K (a.put o.dst v') w') :
    if Region.wanted o (yielded ops a.tmps) = true then Oper.wp P o a w K Q else E := by
  have hw : Region.wanted o (yielded ops a.tmps) = true := by simp [Region.wanted, hg]
  rw [if_pos hw]
  unfold Oper.wp
  simp [execOp, hop, resolve, invoke, builtin, hd, hx, hr, Result.andThen]
  exact hK
theorem run_copy_rowN {P : Program} (w : World) (dT sT ty elem : TypeId) (g o dLen dCap : Nat) (a : Addr) (sLen sCap st : Nat) (cur : Array Value) (t : TypeId) (cs : List Value)
    (hu : P.underlying dT = some (.slice elem)) (hs : (P.info? elem).map (·.size) = some st)
    (hg : w.heap[g]? = some (.cells cur t (0, 0))) (hn : cs.length = Nat.min sLen dLen * st)
    (hsrc : ∀ j v, cs[j]? = some v → w.cell? (a.add j) = some v) (hfit : o + cs.length ≤ cur.size) (h1 : ∀ v ∈ cs, v.oneCell' = true) :
    (Builtin.copy_ #[dT, sT] ty #[.slice (some ⟨g, o, none⟩) dLen dCap, .slice (some a) sLen sCap]).run P w =
      .ok (goInt (Nat.min sLen dLen)) (w.setRow g (cur.toList.take o ++ cs ++ cur.toList.drop (o + cs.length)).toArray) := by
  have hl := run_loadCells_list (P := P) w a cs hsrc
  have hst := run_storeCells_at P g o t cs 0 cur w hg (by simpa using hfit) h1
  cases hq : P.info? elem with
  | none => simp [hq] at hs
  | some i =>
    have hi : i.size = st := by simpa [hq] using hs
    simp [Builtin.copy_, run_underlying hu, Builtin.lenOf, Builtin.firstCells, sizeOf, typeInfo, hq, hi, ← hn, hl, hst]
theorem below_drew {B : Nat} {a w : World} (h : Below B a w) : Below B a w.drew := ⟨h.os, h.tape, h.output, h.size, h.block⟩
theorem size5' : (Try.prog.info? 5).map (·.size) = some 1 := by kernel_rfl
theorem pk_snoc (q k : Nat) : ∀ l, pk q (k + 1) l = pk q k l ++ [le 4 q ++ (l.drop (4 * k)).take 4] := by
  induction k with
  | zero => intro l; rfl
  | succ k ih =>
    intro l
    rw [pk_head, ih, pk_head, List.cons_append, List.drop_drop, show 4 + 4 * k = 4 * (k + 1) by omega]
theorem pk_flat_len (q k : Nat) : ∀ l : List Nat, 4 * k ≤ l.length → (pk q k l).flatten.length = 8 * k := by
  induction k with
  | zero => intro l _; rfl
  | succ k ih =>
    intro l h
    rw [pk_head, List.flatten_cons, List.length_append, ih _ (by rw [List.length_drop]; omega), List.length_append, le_length, List.length_take]
    omega
/-- The bytes of n sectors of which k are packed, and j bytes of the next one's number. -/
def rowB (q n k j : Nat) (b : List Nat) : List Nat := (pk q k b).flatten ++ (le 4 q).take j ++ List.replicate (8 * (n - k) - j) 0
theorem rowB_len {q n k j : Nat} {b : List Nat} (h : 4 * k ≤ b.length) (hj : j ≤ 4) (hjn : j ≤ 8 * (n - k)) (hk : k ≤ n) : (rowB q n k j b).length = 8 * n := by
  unfold rowB
  rw [List.length_append, List.length_append, pk_flat_len q k b h, List.length_take, le_length, List.length_replicate]
  omega
theorem rowB_set {q n k j x : Nat} {b : List Nat} (h : 4 * k ≤ b.length) (hj : j < 4) (hk : k < n) (hx : (le 4 q)[j]? = some x) : (rowB q n k j b).set (k * 8 + j) x = rowB q n k (j + 1) b := by
  unfold rowB
  have hl : ((pk q k b).flatten ++ (le 4 q).take j).length = k * 8 + j := by rw [List.length_append, pk_flat_len q k b h, List.length_take, le_length]; omega
  rw [List.set_append_right _ _ (by omega), hl, Nat.sub_self, show 8 * (n - k) - j = (8 * (n - k) - (j + 1)) + 1 by omega, List.replicate_succ, List.set_cons_zero, take_succ' hx]
  simp
theorem rowB_next {q n k : Nat} {b : List Nat} (h : 4 * (k + 1) ≤ b.length) (hk : k < n) : (rowB q n k 4 b).take (k * 8 + 4) ++ (b.drop (4 * k)).take 4 ++ (rowB q n k 4 b).drop (k * 8 + 4 + 4) = rowB q n (k + 1) 0 b := by
  unfold rowB
  have e4 : (le 4 q).take 4 = le 4 q := List.take_of_length_le (by rw [le_length]; omega)
  obtain ⟨Y, hY⟩ : ∃ Y, (pk q k b).flatten ++ (le 4 q).take 4 = Y := ⟨_, rfl⟩
  have hl : Y.length = k * 8 + 4 := by rw [← hY, List.length_append, pk_flat_len q k b (by omega), List.length_take, le_length]; omega
  rw [hY, List.take_append_of_le_length (by omega), List.take_of_length_le (show Y.length ≤ k * 8 + 4 by omega), List.drop_append, List.drop_of_length_le (show Y.length ≤ k * 8 + 4 + 4 by omega), hl, ← hY, List.nil_append, List.drop_replicate, e4, pk_snoc, List.flatten_append, List.take_zero, List.append_nil, List.flatten_singleton,
    show 8 * (n - k) - 4 - (k * 8 + 4 + 4 - (k * 8 + 4)) = 8 * (n - (k + 1)) - 0 by omega]
  simp [List.append_assoc]
theorem flat_sec (l : List Sect) : (l.map cSec).flatten = l.flatten.map byteV := by
  rw [List.map_flatten]; rfl
theorem laid_zero (n : Nat) : laid [] n = (List.replicate (8 * n) 0).map byteV := by
  unfold laid
  rw [List.map_nil, List.flatten_nil, List.nil_append, List.map_replicate]
  induction n with
  | zero => rfl
  | succ n ih => rw [List.replicate_succ, List.flatten_cons, ih, show 8 * (n + 1) = 8 + 8 * n by omega, ← List.replicate_append_replicate]; rfl
def MadeS (w : World) (l : List Sect) (e : Ending) (w' : World) : Prop := ∃ v, e = .returned v ∧ w'.ownsRow w.heap.size 52 8 v l.length (l.map cSec).flatten ∧ Below w.heap.size w w'

set_option maxHeartbeats 2000000 in
set_option maxRecDepth 100000 in
theorem pack_any (q n : Nat) (b : List Nat) (v : Value) (w : World) (hv : Byt w v b) (hb : b.length = 4 * n) (hn : n ≤ 100000) (_hq : q < 4294967296) :
    Calls Try.prog 29 #[.int .u32 (q : Int), v] w (MadeS w (pk q n b)) := by
  obtain ⟨A, c, rfl⟩ := byt_form hv
  have hc := byt_cap' hv
  have HV := hid hv
  have H8 := hid hv.1
  rw [hb] at HV hc ⊢
  have HBL := hid hb
  clear hv hb
  have hmk : ∀ W : World, (Instr.makeSlice 28 (.int .i64 (n : Int)) (.int .i64 (n : Int))).run Try.prog W = .ok (.slice (some ⟨W.heap.size, 0, none⟩) n n) (W.alloc (.cells (laid [] n).toArray 52)) := fun W => by
    obtain ⟨i0, hi, hz0, hz1, hz2⟩ := info_parts info41
    have h := run_make (P := Try.prog) W 28 52 i0 _ Try.underlying28 hi hz0 .i64 .i64 (n : Int) (n : Int) (by omega) (by omega) (by rw [hz2]; omega) (by omega)
    rw [hz1, Int.toNat_natCast, made_secs] at h
    exact h
  have hmk0 := hmk w
  obtain ⟨W1, hW1⟩ : ∃ W1, w.alloc (.cells (laid [] n).toArray 52) = W1 := ⟨_, rfl⟩
  rw [hW1] at hmk0
  have hx1 : W1.heap[w.heap.size]? = some (.cells ((rowB q n 0 0 b).map byteV).toArray 52) := by
    rw [← hW1, heap_alloc_new]
    unfold rowB
    rw [laid_zero]
    rfl
  have hb1 : Below w.heap.size w W1 := by rw [← hW1]; exact al1 _ _
  have HX1 := hid hx1
  have HB1 := hid hb1
  have hqi : ((4 * n + 4 - 1 : Int)) / 4 = (n : Int) := by omega
  have hdiv : Int.tdiv ((4 * (n : Int)) + 4 - 1) 4 = (n : Int) := by rw [Int.tdiv_eq_ediv_of_nonneg (by omega)]; omega
  clear hmk hW1 hx1 hb1
  go_enter Try.func29, Try.ntmps29
  go_wp2_with fail
  go_loopw [16] (fun i wr => ∃ (k : Nat), k ≤ n ∧ i = .int .i64 (k : Int) ∧ Hid (wr.heap[w.heap.size]? = some (.cells ((rowB q n k 0 b).map byteV).toArray 52)) ∧ Hid (Below w.heap.size w wr)) (fun i _ => n - (RowKit.intOf i).toNat)
  case atStart => exact ⟨0, by omega, rfl, HX1, HB1⟩
  case round =>
    clear HX1 HB1 hmk0
    obtain ⟨k, hk, rfl, HX, HB⟩ := hrel
    by_cases hkn : k < n
    · obtain ⟨W2, rfl⟩ : ∃ W2, W2 = wr := ⟨_, rfl⟩
      go_wp2_with fail
      go_loopw [19] (fun i wr => ∃ (j : Nat), j ≤ 4 ∧ i = .int .i64 (j : Int) ∧ Hid (wr.heap[w.heap.size]? = some (.cells ((rowB q n k j b).map byteV).toArray 52)) ∧ Hid (Below w.heap.size w wr)) (fun i _ => 4 - (RowKit.intOf i).toNat)
      case atStart => exact ⟨0, by omega, rfl, HX, HB⟩
      case round =>
        clear HX HB
        obtain ⟨j, hj, rfl, HX, HB⟩ := hrel
        have hrl : (rowB q n k j b).length = 8 * n := rowB_len (by rw [HBL.out]; omega) (by omega) (by omega) (by omega)
        by_cases hj4 : j < 4
        · obtain ⟨y, hy⟩ : ∃ y, (rowB q n k j b)[k * 8 + j]? = some y := ⟨(rowB q n k j b)[k * 8 + j]'(by omega), List.getElem?_eq_getElem _⟩
          have hc : wr.cell? ⟨w.heap.size, k * 8 + j, none⟩ = some (byteV y) := by rw [cell_of_row _ _ _ _ _ _ HX.out]; simp [hy]
          have hf := box_fr HX.out (k * 8 + j)
          obtain ⟨x, hx⟩ : ∃ x, q / 256 ^ j % 256 = x := ⟨_, rfl⟩
          have hg := le_get 4 q j hj4
          rw [hx] at hg
          have HV1 : Hid ((q : Int) / 2 ^ (8 * j) % 256 = (x : Int)) := hid (by
            have e1 : ((2 : Int) ^ (8 * j)) = ((256 ^ j : Nat) : Int) := by rw [← pow256]; simp
            rw [e1, ← Int.natCast_ediv]
            omega)
          have HS := hid (rowB_set (q := q) (n := n) (b := b) (by rw [HBL.out]; omega) hj4 hkn hg)
          have hkc : (k : Int) < (n : Int) := by omega
          have hj8 : (j : Int) < 8 := by omega
          clear hy hg hrl hx
          go_wp2_with fail
          go_region
          have HX' : Hid (((wr.setCell ⟨w.heap.size, k * 8 + j, none⟩ (.int .u8 ((q : Int) / 2 ^ (8 * j) % 256))).drew).heap[w.heap.size]? = some (.cells ((rowB q n k (j + 1) b).map byteV).toArray 52)) := hid (by
            show (wr.setCell _ _).heap[w.heap.size]? = _
            rw [HV1.out, ← HS.out, heap_setCell_same wr _ _ _ _ _ HX.out]
            congr 2
            apply Array.ext'
            simp [List.map_set, byteV])
          have HB' := hid (below_drew (HB.out.setCell (p := ⟨w.heap.size, k * 8 + j, none⟩) (Nat.le_refl _) (.int .u8 ((q : Int) / 2 ^ (8 * j) % 256))))
          clear hc hf HX HB HS HV1
          go_wp2
          go_roundw
          case rel => exact ⟨j + 1, by omega, by go_num, HX', HB'⟩
          case measure => simp [RowKit.intOf]; omega
        · obtain rfl : j = 4 := by omega
          have hd4 : ((b.drop (4 * k)).take 4).length = 4 := by rw [List.length_take, List.length_drop, HBL.out]; omega
          obtain ⟨bb, off, rfl, hbl, hcell⟩ := byt_at HV.out (by rw [HBL.out]; omega)
          have hsrc : ∀ (i : Nat) (v : Value), (((b.drop (4 * k)).take 4).map byteV)[i]? = some v → wr.drew.cell? ((⟨bb, off + 4 * k, none⟩ : Addr).add i) = some v := fun i v hi => by
            rw [List.getElem?_map] at hi
            obtain ⟨x, hx, rfl⟩ := Option.map_eq_some_iff.1 hi
            rw [List.getElem?_take] at hx
            split at hx
            · rw [List.getElem?_drop] at hx
              have h1 := hcell _ x hx
              rw [show (⟨bb, off + 4 * k, none⟩ : Addr).add i = ⟨bb, off + (4 * k + i), none⟩ by unfold Addr.add; split <;> simp_all [Nat.add_assoc]]
              exact (HB.out.cell (p := ⟨bb, _, none⟩) hbl).trans h1
            · cases hx
          have hr := fun (ty : TypeId) => run_copy_rowN (P := Try.prog) wr.drew 25 25 ty 5 w.heap.size (k * 8 + 4) 4 4 ⟨bb, off + 4 * k, none⟩ (4 * n - 4 * k) (c - 4 * k) 1 _ 52 (((b.drop (4 * k)).take 4).map byteV) Try.underlying25 size5' (show wr.drew.heap[w.heap.size]? = _ from HX.out)
            (by rw [List.length_map, hd4, Nat.mul_one]; exact (Nat.min_eq_right (by omega)).symm) hsrc (by rw [List.length_map, hd4]; simp only [List.size_toArray, List.length_map]; rw [hrl]; omega) (byteV_one _)
          rw [List.length_map, hd4, show Nat.min (4 * n - 4 * k) 4 = 4 from Nat.min_eq_right (by omega)] at hr
          obtain ⟨z, hz⟩ : ∃ z, 4 * k = z := ⟨_, rfl⟩
          have hwz : IntKind.i64.wrap ((k : Int) * 4) = (z : Int) := by rw [← hz, show (k : Int) * 4 = ((4 * k : Nat) : Int) by omega]; exact wrap64_nat (by omega)
          have hs3 : ∀ W : World, (Instr.slice 25 (.slice (some ⟨bb, off, none⟩) (4 * n) c) (some (.int .i64 (z : Int))) none none).run Try.prog W = .ok (.slice (some ⟨bb, off + 4 * k, none⟩) (4 * n - 4 * k) (c - 4 * k)) W := fun W => by
            have h := run_slice_from (some ⟨bb, off, none⟩) (4 * n) c (4 * k) (by omega) W
            rw [← hz, h]
            unfold fromA
            rw [if_neg (by omega)]
            show Result.ok (Value.slice (some ((⟨bb, off, none⟩ : Addr).add (4 * k))) _ _) W = _
            rw [show (⟨bb, off, none⟩ : Addr).add (4 * k) = ⟨bb, off + 4 * k, none⟩ by unfold Addr.add; split <;> simp_all]
          have hzn : (z : Int) ≤ 4 * (n : Int) := by omega
          rw [hz] at hr hs3
          have hnx := rowB_next (q := q) (n := n) (b := b) (by rw [HBL.out]; omega) hkn
          rw [hz] at hnx
          have HNX := hid hnx
          obtain ⟨W3, hW3⟩ : ∃ W3, wr.drew.setRow w.heap.size ((((rowB q n k 4 b).map byteV).toArray).toList.take (k * 8 + 4) ++ ((b.drop z).take 4).map byteV ++ (((rowB q n k 4 b).map byteV).toArray).toList.drop (k * 8 + 4 + 4)).toArray = W3 := ⟨_, rfl⟩
          rw [hW3] at hr
          have HR := hid hr
          have HX' : Hid (W3.heap[w.heap.size]? = some (.cells ((rowB q n (k + 1) 0 b).map byteV).toArray 52)) := hid (by
            rw [← hW3, setRow_heap wr.drew _ _ _ 52 (0, 0) (show wr.drew.heap[w.heap.size]? = _ from HX.out), ← HNX.out]
            simp only [List.map_append, List.map_take, List.map_drop])
          have HB' : Hid (Below w.heap.size w W3) := hid (by rw [← hW3]; exact below_setRow (below_drew HB.out) (Nat.le_refl _) _)
          have hkc : (k : Int) < (n : Int) := by omega
          clear hz hnx hr hsrc hW3 hd4 hcell hrl HX HB HNX hbl
          go_wp2_with fail
          go_region_law (refine step_copy_run rfl (.tmp 36) (.tmp 40) 25 25 rfl _ _ (by simp [Act.eval, Act.put]) (by simp [Act.eval, Act.put]) (HR.out _) ?_)
          all_goals
            clear HR hs3
            go_wp2
            go_roundw
            case rel => exact ⟨k + 1, by omega, by go_num, HX', HB'⟩
            case measure => simp [RowKit.intOf]; omega
    · obtain rfl : k = n := by omega
      have hown : wr.ownsRow w.heap.size 52 8 (.slice (some ⟨w.heap.size, 0, none⟩) k k) k ((pk q k b).map cSec).flatten := by
        have hx := HX.out
        have e : rowB q k k 0 b = (pk q k b).flatten := by unfold rowB; simp
        rw [e, ← flat_sec] at hx
        have hfl : ((pk q k b).map cSec).flatten.length = k * 8 := by rw [flat_sec, List.length_map, pk_flat_len q k b (by rw [HBL.out]; omega)]; omega
        exact ⟨hfl, .inr ⟨w.heap.size, k, _, rfl, Nat.le_refl _, hx, Nat.le_refl _, by unfold maxLen; omega, by simpa using hfl, (show List.take (k * 8) ((pk q k b).map cSec).flatten = _ from List.take_of_length_le (Nat.le_of_eq hfl))⟩⟩
      have HOW := hid hown
      clear hown
      go_wp2
      go_ret
      exact ⟨_, rfl, by rw [pk_len]; exact HOW.out, HB.out⟩
end Go.Proofs.Ytcmmkeadbedooaa
