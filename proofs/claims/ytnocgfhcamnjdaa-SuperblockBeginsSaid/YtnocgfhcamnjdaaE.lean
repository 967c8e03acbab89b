/- New, the reference's New. -/
import Derived.Test.YtnocgfhcamnjdaaD
namespace Go.Proofs.Ytnocgfhcamnjdaa
open Go.RowKit Go.Lib

/-- A row whose first places have been filled. -/
def fld (cs : List Value) (n : Nat) (z : Value) : List Value := cs ++ List.replicate n z
def zs : Sect := [0, 0, 0, 0, 0, 0, 0, 0]
def zv8 : List Value := [.int .u8 0, .int .u8 0, .int .u8 0, .int .u8 0, .int .u8 0, .int .u8 0, .int .u8 0, .int .u8 0]
/-- n sectors, of which the first have been laid. -/
def laid (l : List Sect) (m : Nat) : List Value := (l.map cSec).flatten ++ (List.replicate m zv8).flatten
set_option maxRecDepth 100000 in
theorem made_secs (n : Nat) : madeCells (Value.agg #[.int .u8 0, .int .u8 0, .int .u8 0, .int .u8 0, .int .u8 0, .int .u8 0, .int .u8 0, .int .u8 0]).cells (n * 8) = (laid [] n).toArray := by
  have hz : ∀ i : Nat, (#[.int .u8 0, .int .u8 0, .int .u8 0, .int .u8 0, .int .u8 0, .int .u8 0, .int .u8 0, .int .u8 0] : Array Value)[i % 8]! = .int .u8 0 := fun i => by
    have h : i % 8 = 0 ∨ i % 8 = 1 ∨ i % 8 = 2 ∨ i % 8 = 3 ∨ i % 8 = 4 ∨ i % 8 = 5 ∨ i % 8 = 6 ∨ i % 8 = 7 := by omega
    rcases h with h | h | h | h | h | h | h | h <;> rw [h] <;> rfl
  have hf : ∀ n : Nat, (List.replicate n zv8).flatten = List.replicate (n * 8) (.int .u8 0) := fun n => by
    induction n with
    | zero => rfl
    | succ n ih =>
      rw [List.replicate_succ, List.flatten_cons, ih, show (n + 1) * 8 = 8 + n * 8 by omega, ← List.replicate_append_replicate]
      rfl
  apply Array.ext'
  unfold madeCells
  rw [Array.toList_map, Array.toList_range]
  unfold laid
  rw [hf]
  apply List.ext_getElem?
  intro i
  rw [List.getElem?_map]
  simp only [List.map_nil, List.flatten_nil, List.nil_append]
  rcases Nat.lt_or_ge i (n * 8) with h | h
  · rw [List.getElem?_range h, List.getElem?_replicate, if_pos h]
    exact congrArg some (hz i)
  · rw [List.getElem?_eq_none (by rw [List.length_range]; exact h), List.getElem?_eq_none (by rw [List.length_replicate]; exact h)]
    rfl
theorem rep_secs (n : Nat) : Secs (List.replicate n zs) := fun s hs => by
  obtain ⟨_, rfl⟩ := List.mem_replicate.1 hs
  exact ⟨rfl, fun x hx => by simp [zs] at hx; omega⟩
theorem laid_rep (n : Nat) : laid [] n = ((List.replicate n zs).map cSec).flatten := by
  unfold laid
  rw [List.map_replicate]
  rfl
theorem make22 (W : World) (n : Nat) (hn : n ≤ 1000000) : (Instr.makeSlice 32 (.int .i64 n) (.int .i64 n)).run Try.prog W = .ok (.slice (some ⟨W.heap.size, 0, none⟩) n n) (W.alloc (.cells (laid [] n).toArray 57)) := by
  obtain ⟨i0, hi, hz0, hz1, hz2⟩ := info_parts info73
  have h := run_make (P := Try.prog) W 32 57 i0 _ Try.underlying32 hi hz0 .i64 .i64 (n : Int) (n : Int) (by omega) (by omega) (by rw [hz2]; omega) (by omega)
  rw [hz1, Int.toNat_natCast, made_secs] at h
  exact h
def spl (l : List Sect) (s : Nat) (d : List Sect) : List Sect := l.take s ++ d ++ l.drop (s + d.length)
theorem spl_len {l d : List Sect} {s : Nat} (h : s + d.length ≤ l.length) : (spl l s d).length = l.length := by
  unfold spl
  rw [List.length_append, List.length_append, List.length_take, List.length_drop]
  omega
theorem spl_secs {l d : List Sect} {s : Nat} (h1 : Secs l) (h2 : Secs d) : Secs (spl l s d) := fun x hx => by
  unfold spl at hx
  rcases List.mem_append.1 hx with hx | hx
  · rcases List.mem_append.1 hx with hx | hx
    · exact h1 x (List.mem_of_mem_take hx)
    · exact h2 x hx
  · exact h1 x (List.mem_of_mem_drop hx)
/-- A row of one's own, some of whose cells have been laid anew. -/
theorem own_splice {w : World} {base n c b E st : Nat} {F D : List Value} {cur : Array Value} {o : Nat} (h : w.ownsRow base E st (.slice (some ⟨b, 0, none⟩) n c) n F) (hg : w.heap[b]? = some (.cells cur E (0, 0))) (ho : o + D.length ≤ F.length) :
    o + D.length ≤ cur.size ∧ (w.setRow b (cur.toList.take o ++ D ++ cur.toList.drop (o + D.length)).toArray).ownsRow base E st (.slice (some ⟨b, 0, none⟩) n c) n (F.take o ++ D ++ F.drop (o + D.length)) := by
  have hF := h.1
  rcases h.2 with ⟨e, _⟩ | ⟨g, cap, cur', e, hb, hg', hc, hcm, hs, ht⟩
  · cases e
  · injection e with e1 _ e3
    injection e1 with e1
    injection e1 with e1
    subst e1 e3
    rw [hg] at hg'
    cases hg'
    have hle : n * st ≤ c * st := Nat.mul_le_mul_right _ hc
    have hcl : cur.toList.length = c * st := by rw [Array.length_toList, hs]
    have hcur : cur.toList = F ++ cur.toList.drop (n * st) := by rw [← ht, List.take_append_drop]
    refine ⟨by omega, by rw [List.length_append, List.length_append, List.length_take, List.length_drop]; omega, .inr ⟨b, c, _, rfl, hb, setRow_heap _ _ _ _ _ _ hg, hc, hcm, ?_, ?_⟩⟩
    · rw [List.size_toArray, List.length_append, List.length_append, List.length_take, List.length_drop, hcl]
      omega
    · rw [List.toList_toArray]
      have e1 : cur.toList.take o = F.take o := by
        conv => lhs; rw [hcur]
        rw [List.take_append_of_le_length (by omega)]
      have e2 : cur.toList.drop (o + D.length) = F.drop (o + D.length) ++ cur.toList.drop (n * st) := by
        conv => lhs; rw [hcur]
        rw [List.drop_append_of_le_length (by omega)]
      rw [e1, e2, ← List.append_assoc, List.take_append_of_le_length (by rw [List.length_append, List.length_append, List.length_take, List.length_drop]; omega), List.take_of_length_le (by rw [List.length_append, List.length_append, List.length_take, List.length_drop]; omega)]
theorem flat_spl {l d : List Sect} {s : Nat} (h1 : Secs l) (h2 : Secs d) (h : s + d.length ≤ l.length) : ((spl l s d).map cSec).flatten = (l.map cSec).flatten.take (s * 8) ++ (d.map cSec).flatten ++ (l.map cSec).flatten.drop (s * 8 + (d.map cSec).flatten.length) := by
  have e : ∀ k, k ≤ l.length → (l.map cSec).flatten = ((l.take k).map cSec).flatten ++ ((l.drop k).map cSec).flatten := fun k _ => by rw [← List.flatten_append, ← List.map_append, List.take_append_drop]
  have ht : Secs (l.take s) := fun x hx => h1 x (List.mem_of_mem_take hx)
  have ht2 : Secs (l.take (s + d.length)) := fun x hx => h1 x (List.mem_of_mem_take hx)
  have hl1 := flat_cells ht
  have hl2 := flat_cells h2
  have hl3 := flat_cells ht2
  rw [List.length_take, Nat.min_eq_left (by omega)] at hl1 hl3
  have e1 : (l.map cSec).flatten.take (s * 8) = ((l.take s).map cSec).flatten := by
    rw [e s (by omega), List.take_append_of_le_length (by omega), List.take_of_length_le (by omega)]
  have e2 : (l.map cSec).flatten.drop (s * 8 + (d.map cSec).flatten.length) = ((l.drop (s + d.length)).map cSec).flatten := by
    rw [e (s + d.length) h, List.drop_append_of_le_length (by omega), List.drop_of_length_le (by omega), List.nil_append]
  rw [e1, e2]
  unfold spl
  rw [List.map_append, List.map_append, List.flatten_append, List.flatten_append]
theorem spl_next {l a : List Sect} {s : Nat} {x : Sect} (h : s + a.length + 1 ≤ l.length) : spl (spl l s a) (s + a.length) [x] = spl l s (a ++ [x]) := by
  have hP : (l.take s ++ a).length = s + a.length := by rw [List.length_append, List.length_take]; omega
  unfold spl
  rw [List.take_left' hP, List.length_singleton, List.drop_append, hP, List.drop_of_length_le (by omega), List.nil_append, show s + a.length + 1 - (s + a.length) = 1 by omega, List.drop_drop, List.length_append, List.length_singleton, List.append_assoc (l.take s), Nat.add_assoc]
/-- A sector is stored into a row of one's own. -/
theorem run_storeAt_row {P : Program} (w : World) (g o : Nat) (ty t : TypeId) (cs : List Value) (cur : Array Value) (hg : w.heap[g]? = some (.cells cur t (0, 0))) (hi : (P.info? ty).map (·.size) = some cs.length) (hfit : o + cs.length ≤ cur.size) (h1 : ∀ v ∈ cs, v.oneCell' = true) :
    (Instr.storeAt ty (.pointer (some ⟨g, o, none⟩)) (.agg cs.toArray)).run P w = .ok () (w.setRow g (cur.toList.take o ++ cs ++ cur.toList.drop (o + cs.length)).toArray) := by
  have h := run_storeCells_at P g o t cs 0 cur w hg (by simpa using hfit) h1
  cases hq : P.info? ty with
  | none => simp [hq] at hi
  | some i =>
    have hs : cs.length = i.size := by simp [hq] at hi; omega
    simp only [Nat.add_zero] at h
    simp [Instr.storeAt, Instr.sureAddr, Sem.run_bind, storeVar, sizeOf, typeInfo, hq, Value.cells, hs, h]
theorem wpList_store_run {P : Program} {ops : Array Oper} {rest : List Oper} {op : Oper} {a : Act} {w : World} {Q : Exit → Act → World → Prop} (hgd : op.guard = none) (ty : TypeId) (x y : Operand) (ho : op.op = .store ty x y) (u v : Value) (hx : a.eval x = u) (hy : a.eval y = v) {w' : World} (hr : (Instr.storeAt ty u v).run P w = .ok () w')
    (h : wpList P ops Q rest (a.put op.dst undef) w') : wpList P ops Q (op :: rest) a w :=
  wpList_plain hgd fun _ hK => by
    unfold Oper.wp execOp
    simp only [ho, hx, hy, hr, Result.andThen_ok, Sem.run_bind, Sem.run_pure]
    exact hK _ _ h
theorem results_v1 {fn : Func} {p u : Tmp} {ty : TypeId} (h : fn.results = #[.cell p ty, .tmp u]) (tmps : Array Value) (w : World) (g : Nat) (v : Value)
    (hp : tmps.getD p undef = .pointer (some ⟨g, 0, none⟩)) (hlv : (loadVar ty ⟨g, 0, none⟩).run Try.prog w = .ok v w) (z : Value) (hz : tmps.getD u undef = z) :
    (results fn tmps).run Try.prog w = .ok (.tuple #[v, z]) w := by
  have hp' : tmps[p]?.getD undef = .pointer (some ⟨g, 0, none⟩) := by simpa using hp
  have hz' : tmps[u]?.getD undef = z := by simpa using hz
  simp [results, h, hp', hz', asAddr, hlv]
def newB (n : Int) : Bool := decide (0 ≤ n ∧ n ≤ 4096)
/-- What New gives. -/
def NewQ (w : World) (n : Int) (e : Ending) (w' : World) : Prop :=
  ((∃ k : Nat, n = (k : Int) ∧ newB n = true ∧ ∃ v, e = .returned (.tuple #[v, .int .i64 0]) ∧ OwnD w' w.heap.size (List.replicate k zs) [] v) ∨ (newB n = false ∧ e = .returned (.tuple #[.agg #[.slice none 0 0, .slice none 0 0], .int .i64 2]))) ∧ Below w.heap.size w w'
set_option maxHeartbeats 4000000 in
set_option maxRecDepth 100000 in
theorem new_any (n : Int) (w : World) : Calls Try.prog 24 #[.int .i64 n] w (NewQ w n) := by
  have hmk := fun W => make22 W n.toNat
  obtain ⟨g, hg⟩ : ∃ g, w.heap.size = g := ⟨_, rfl⟩
  obtain ⟨W1, hW1⟩ : ∃ X, w.alloc (.cells #[.slice none 0 0, .slice none 0 0] 35) = X := ⟨_, rfl⟩
  have hb1 : Below w.heap.size w W1 := by rw [← hW1]; exact al1 _ _
  have hy1 : W1.heap[g]? = some (.cells #[.slice none 0 0, .slice none 0 0] 35) := by rw [← hW1, ← hg]; exact heap_alloc_new w _
  have HB1 := hid hb1
  have HY1 := hid hy1
  have HW1 := hid hW1
  have HG := hid hg
  have hge : w.heap.size ≤ g := Nat.le_of_eq hg
  have y0 := cell_of_row _ _ 0 _ _ _ hy1
  have y1 := cell_of_row _ _ 1 _ _ _ hy1
  have f0 := box_fr hy1 0
  have f1 := box_fr hy1 1
  clear hb1 hy1 hW1 hg
  by_cases h0 : n < 0
  · have d0 : decide (n < 0) = true := decide_eq_true h0
    have HQ := hid (show newB n = false from decide_eq_false (by omega))
    clear h0 hmk
    go_enter Try.func24, Try.ntmps24
    go_upto_region 1 with fail
    rw [HW1.out, HG.out]
    go_wp2_with fail
    refine bodyPost_ret (results_v1 rfl _ _ g _ rfl (run_loadVar_row _ g 35 35 #[.slice none 0 0, .slice none 0 0] (0, 0) _ (box_set (cs := [.slice none 0 0, .slice none 0 0]) (box_set (cs := [.slice none 0 0, .slice none 0 0]) HY1.out 0 _) 1 _) Try.underlying35 rfl rfl) _ rfl) rfl ?_
    exact ⟨.inr ⟨HQ.out, rfl⟩, (HB1.out.setCell hge _).setCell hge _⟩
  have d0 : decide (n < 0) = false := decide_eq_false h0
  by_cases h1 : 4096 < n
  · have d1 : decide ((4096 : Int) < n) = true := decide_eq_true h1
    have HQ := hid (show newB n = false from decide_eq_false (by omega))
    clear h0 h1 hmk
    go_enter Try.func24, Try.ntmps24
    go_upto_region 1 with fail
    rw [HW1.out, HG.out]
    go_wp2_with fail
    refine bodyPost_ret (results_v1 rfl _ _ g _ rfl (run_loadVar_row _ g 35 35 #[.slice none 0 0, .slice none 0 0] (0, 0) _ (box_set (cs := [.slice none 0 0, .slice none 0 0]) (box_set (cs := [.slice none 0 0, .slice none 0 0]) HY1.out 0 _) 1 _) Try.underlying35 rfl rfl) _ rfl) rfl ?_
    exact ⟨.inr ⟨HQ.out, rfl⟩, (HB1.out.setCell hge _).setCell hge _⟩
  have d1 : decide ((4096 : Int) < n) = false := decide_eq_false h1
  obtain ⟨k, rfl⟩ : ∃ k : Nat, n = (k : Int) := ⟨n.toNat, by omega⟩
  have HQ := hid (show newB (k : Int) = true from decide_eq_true (by omega))
  have hmk2 := fun W => make22 W k (by omega)
  have HK := hid (show k ≤ 4096 by omega)
  clear h0 h1 hmk
  obtain ⟨W2, hW2⟩ : ∃ X, W1.alloc (.cells (laid [] k).toArray 57) = X := ⟨_, rfl⟩
  obtain ⟨b, hb⟩ : ∃ b, W1.heap.size = b := ⟨_, rfl⟩
  have hb2 : Below W1.heap.size W1 W2 := by rw [← hW2]; exact al1 _ _
  have HO : Hid (W2.ownsRow b 57 8 (.slice (some ⟨b, 0, none⟩) k k) (List.replicate k zs).length ((List.replicate k zs).map cSec).flatten) := hid (by
    have hfl := flat_cells (rep_secs k)
    rw [List.length_replicate] at hfl ⊢
    rw [← hW2, ← hb]
    refine ⟨by rw [hfl]; omega, .inr ⟨W1.heap.size, k, _, rfl, Nat.le_refl _, heap_alloc_new W1 _, Nat.le_refl _, by have := HK.out; unfold maxLen; omega, by rw [laid_rep, List.size_toArray, hfl]; omega, ?_⟩⟩
    rw [laid_rep]
    exact List.take_of_length_le (by rw [hfl]; omega))
  have HY2 := hid ((hb2.block _ (box_lt HY1.out)).trans HY1.out)
  have HB2 := hid (HB1.out.trans (hb2.mono HB1.out.size))
  have hgb : w.heap.size ≤ b := by rw [← hb]; exact HB1.out.size
  have HW2 := hid hW2
  have HBB := hid hb
  have z0 : (W1.alloc (.cells (laid [] k).toArray 57)).cell? ⟨g, 0, none⟩ = some (.slice none 0 0) := by rw [hW2]; exact cell_of_row _ _ 0 _ _ _ HY2.out
  have z1 : (W1.alloc (.cells (laid [] k).toArray 57)).cell? ⟨g, 1, none⟩ = some (.slice none 0 0) := by rw [hW2]; exact cell_of_row _ _ 1 _ _ _ HY2.out
  have g0 : (W1.alloc (.cells (laid [] k).toArray 57)).frozen? ⟨g, 0, none⟩ = false := by rw [hW2]; exact box_fr HY2.out 0
  have g1 : (W1.alloc (.cells (laid [] k).toArray 57)).frozen? ⟨g, 1, none⟩ = false := by rw [hW2]; exact box_fr HY2.out 1
  clear hW2 hb hb2 y0 y1 f0 f1
  go_enter Try.func24, Try.ntmps24
  go_upto_region 1 with fail
  rw [HW1.out, HG.out]
  go_wp2_with fail
  rw [HW2.out, HBB.out]
  refine bodyPost_ret (results_v1 rfl _ _ g _ rfl (run_loadVar_row _ g 35 35 #[.slice (some ⟨b, 0, none⟩) k k, .slice none 0 0] (0, 0) _ (box_set (cs := [.slice (some ⟨b, 0, none⟩) k k, .slice none 0 0]) (box_set (cs := [.slice none 0 0, .slice none 0 0]) HY2.out 0 _) 1 _) Try.underlying35 rfl rfl) _ rfl) rfl ?_
  refine ⟨.inl ⟨k, rfl, HQ.out, _, rfl, _, _, rfl, ?_, World.ownsRow_nil _ _ _ _⟩, (HB2.out.setCell hge _).setCell hge _⟩
  exact own_base (own_keep HO.out ((keep_box HY2.out (by decide) _ _).trans (keep_box (box_set (cs := [.slice none 0 0, .slice none 0 0]) HY2.out 0 _) (by decide) _ _))) hgb

end Go.Proofs.Ytnocgfhcamnjdaa
