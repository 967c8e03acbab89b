/- SameSectors; sectors copied and appended (carried over from image). -/
import Derived.Test.YtnocgfhcamnjdaaA
import Derived.WalkSpells
import Derived.Laws.CopyOwn
namespace Go.Proofs.Ytnocgfhcamnjdaa
open Go.RowKit Go.Lib
theorem ret_eq {a b : Int} (h : a = b) : Ending.returned (.int .i64 a) = .returned (.int .i64 b) := by rw [h]
theorem ret_b {a b : Bool} (h : a = b) : Ending.returned (.bool a) = .returned (.bool b) := by rw [h]
theorem arr_cap {w : World} {A : Option Addr} {n c st : Nat} {rows : List (List Value)} (h : Arr w (.slice A n c) st rows) : n = rows.length ∧ n ≤ c ∧ c ≤ 9223372036854775807 := by
  obtain ⟨A', c', e, h1, h2, _⟩ := h
  injection e with e1 e2 e3
  subst e3
  unfold maxLen at h2
  omega
theorem made_one (z : Value) (n : Nat) : madeCells #[z] n = (List.replicate n z).toArray := by
  apply Array.toList_inj.1
  rw [toList_madeCells_one]
set_option maxHeartbeats 2000000 in
set_option maxRecDepth 100000 in
theorem eqSame_any (xs ys : List (List Nat)) (v u : Value) (w : World) (hv : Arr w v 8 (xs.map cSec)) (hu : Arr w u 8 (ys.map cSec)) (hok1 : Secs xs) (hok2 : Secs ys) :
    Calls Try.prog 32 #[v, u] w (SaysQ (decide (xs = ys)) w) := by
  obtain ⟨C1, k1, rfl, hcap1, hcm1, b1, o1, hA1, hc1⟩ := hv
  obtain ⟨C2, k2, rfl, hcap2, hcm2, b2, o2, hA2, hc2⟩ := hu
  unfold maxLen at hcm1 hcm2
  rw [List.length_map] at hcap1 hA1 hcap2 hA2 ⊢
  rw [List.length_map]
  have HC1 := hid hc1
  have HC2 := hid hc2
  have HOK1 := hid hok1
  have HOK2 := hid hok2
  clear hok1 hok2
  clear hc1 hc2
  by_cases hlen : xs.length = ys.length
  · have d1 : ((xs.length : Int) != (ys.length : Int)) = false := by rw [hlen]; simp
    have HLEN := hid hlen
    clear hlen
    go_enter Try.func32, Try.ntmps32
    go_wp2
    go_loopw [5] (fun i wr => ∃ k : Nat, k ≤ xs.length ∧ i = .int .i64 (k : Int) ∧ Hid (xs.take k = ys.take k) ∧ ∃ q, wr = w.drewN q) (fun i _ => xs.length - (Go.RowKit.intOf i).toNat)
    case atStart => exact ⟨0, by omega, rfl, hid (by simp), 0, rfl⟩
    case round =>
      obtain ⟨k, hk, rfl, HT, q, rfl⟩ := hrel
      by_cases hkl : k < xs.length
      · have hl2 : k < ys.length := by have := HLEN.out; omega
        obtain ⟨e1, hb1⟩ := hA1 (by omega)
        obtain ⟨e2, hb2⟩ := hA2 (by omega)
        subst e1 e2
        obtain ⟨x, hx⟩ : ∃ x, xs[k]? = some x := ⟨xs[k], List.getElem?_eq_getElem hkl⟩
        obtain ⟨y, hy⟩ : ∃ y, ys[k]? = some y := ⟨ys[k], List.getElem?_eq_getElem hl2⟩
        have hr1 : ∀ (j : Nat) (z : Value), (cSec x)[j]? = some z → w.cell? ⟨b1, o1 + k * 8 + j, none⟩ = some z := fun j z hz => HC1.out k _ (by rw [List.getElem?_map, hx]; rfl) j z hz
        have hr2 : ∀ (j : Nat) (z : Value), (cSec y)[j]? = some z → w.cell? ⟨b2, o2 + k * 8 + j, none⟩ = some z := fun j z hz => HC2.out k _ (by rw [List.getElem?_map, hy]; rfl) j z hz
        have hnext : x = y → xs.take (k + 1) = ys.take (k + 1) := fun h => by
          obtain ⟨h1, h3⟩ := List.getElem?_eq_some_iff.1 hx
          obtain ⟨h2, h4⟩ := List.getElem?_eq_some_iff.1 hy
          rw [List.take_succ_eq_append_getElem h1, List.take_succ_eq_append_getElem h2, HT.out, h3, h4, h]
        have hdiff : x ≠ y → decide (xs = ys) = false := fun h => decide_eq_false (fun e => by rw [e, hy] at hx; injection hx with hx; exact h hx.symm)
        have hxo := HOK1.out _ (List.mem_of_getElem? hx)
        have hyo := HOK2.out _ (List.mem_of_getElem? hy)
        obtain ⟨x0, x1, x2, x3, x4, x5, x6, x7, rfl⟩ := list8 hxo.1
        obtain ⟨y0, y1, y2, y3, y4, y5, y6, y7, rfl⟩ := list8 hyo.1
        have heq := fun (W : World) => eql_sec [x0, x1, x2, x3, x4, x5, x6, x7] [y0, y1, y2, y3, y4, y5, y6, y7] rfl rfl hxo.2 hyo.2 W
        have q0 : w.cell? ⟨b1, o1 + k * 8 + 0, none⟩ = some (.int .u8 (x0 : Int)) := hr1 0 _ rfl
        have p0 : w.cell? ⟨b2, o2 + k * 8 + 0, none⟩ = some (.int .u8 (y0 : Int)) := hr2 0 _ rfl
        have q1 : w.cell? ⟨b1, o1 + k * 8 + 1, none⟩ = some (.int .u8 (x1 : Int)) := hr1 1 _ rfl
        have p1 : w.cell? ⟨b2, o2 + k * 8 + 1, none⟩ = some (.int .u8 (y1 : Int)) := hr2 1 _ rfl
        have q2 : w.cell? ⟨b1, o1 + k * 8 + 2, none⟩ = some (.int .u8 (x2 : Int)) := hr1 2 _ rfl
        have p2 : w.cell? ⟨b2, o2 + k * 8 + 2, none⟩ = some (.int .u8 (y2 : Int)) := hr2 2 _ rfl
        have q3 : w.cell? ⟨b1, o1 + k * 8 + 3, none⟩ = some (.int .u8 (x3 : Int)) := hr1 3 _ rfl
        have p3 : w.cell? ⟨b2, o2 + k * 8 + 3, none⟩ = some (.int .u8 (y3 : Int)) := hr2 3 _ rfl
        have q4 : w.cell? ⟨b1, o1 + k * 8 + 4, none⟩ = some (.int .u8 (x4 : Int)) := hr1 4 _ rfl
        have p4 : w.cell? ⟨b2, o2 + k * 8 + 4, none⟩ = some (.int .u8 (y4 : Int)) := hr2 4 _ rfl
        have q5 : w.cell? ⟨b1, o1 + k * 8 + 5, none⟩ = some (.int .u8 (x5 : Int)) := hr1 5 _ rfl
        have p5 : w.cell? ⟨b2, o2 + k * 8 + 5, none⟩ = some (.int .u8 (y5 : Int)) := hr2 5 _ rfl
        have q6 : w.cell? ⟨b1, o1 + k * 8 + 6, none⟩ = some (.int .u8 (x6 : Int)) := hr1 6 _ rfl
        have p6 : w.cell? ⟨b2, o2 + k * 8 + 6, none⟩ = some (.int .u8 (y6 : Int)) := hr2 6 _ rfl
        have q7 : w.cell? ⟨b1, o1 + k * 8 + 7, none⟩ = some (.int .u8 (x7 : Int)) := hr1 7 _ rfl
        have p7 : w.cell? ⟨b2, o2 + k * 8 + 7, none⟩ = some (.int .u8 (y7 : Int)) := hr2 7 _ rfl
        rw [Nat.add_zero] at q0 p0
        obtain ⟨bb, hbb⟩ : ∃ bb, decide ([x0, x1, x2, x3, x4, x5, x6, x7] = [y0, y1, y2, y3, y4, y5, y6, y7]) = bb := ⟨_, rfl⟩
        rw [hbb] at heq
        have heq2 : ∀ W : World, (Op.equalIn 10000 57 (.agg #[.int .u8 (x0 : Int), .int .u8 (x1 : Int), .int .u8 (x2 : Int), .int .u8 (x3 : Int), .int .u8 (x4 : Int), .int .u8 (x5 : Int), .int .u8 (x6 : Int), .int .u8 (x7 : Int)]) (.agg #[.int .u8 (y0 : Int), .int .u8 (y1 : Int), .int .u8 (y2 : Int), .int .u8 (y3 : Int), .int .u8 (y4 : Int), .int .u8 (y5 : Int), .int .u8 (y6 : Int), .int .u8 (y7 : Int)])).run Try.prog W = .ok bb W := heq
        clear heq hxo hyo
        clear hr1 hr2 hx hy
        by_cases hxy : bb = true
        · have HN := hid (hnext (of_decide_eq_true (hbb.trans hxy)))
          subst hxy
          clear hbb
          clear hnext hdiff
          go_wp2_with fail
          go_quiet (fail)
          go_wp2
          go_roundw
          case rel => exact ⟨k + 1, by omega, by go_num, HN, _, rfl⟩
          case measure => simp [Go.RowKit.intOf]; omega
        · have HD := hid (hdiff (of_decide_eq_false (hbb.trans (by simpa using hxy))))
          have hxf : bb = false := by simpa using hxy
          subst hxf
          clear hbb hxy
          clear hnext hdiff
          go_wp2_with fail
          go_quiet (fail)
          go_wp2
          go_ret
          exact ⟨(congrArg (fun b => Ending.returned (Value.bool b)) HD.out).symm, q + nq, by simp⟩
      · obtain rfl : k = xs.length := by omega
        have hall : xs = ys := by have h := HT.out; rwa [List.take_length, HLEN.out, List.take_length] at h
        have HD := hid (decide_eq_true hall)
        clear hall
        go_wp2
        go_ret
        exact ⟨(congrArg (fun b => Ending.returned (Value.bool b)) HD.out).symm, _, rfl⟩
  · have d1 : ((xs.length : Int) != (ys.length : Int)) = true := by rw [bne_iff_ne]; omega
    have HD : Hid (decide (xs = ys) = false) := hid (decide_eq_false (fun e => hlen (by rw [e])))
    clear hlen
    go_enter Try.func32, Try.ntmps32
    go_wp2
    go_ret
    exact ⟨(congrArg (fun b => Ending.returned (Value.bool b)) HD.out).symm, 0, rfl⟩
theorem secs_rows {l : List Sect} (h : Secs l) : ∀ r ∈ l.map cSec, r.length = 8 := fun r hr => by
  obtain ⟨s, hs, rfl⟩ := List.mem_map.1 hr
  unfold cSec
  rw [List.length_map]
  exact (h s hs).1
/-- The cells of sectors, one behind the other. -/
theorem sec_cells {w : World} {A : Option Addr} {n c : Nat} {l : List Sect} (h : Sec w (.slice A n c) l) (hp : 0 < l.length) : ∃ b off, A = some ⟨b, off, none⟩ ∧ b < w.heap.size ∧ ∀ (k : Nat) (u : Value), (l.map cSec).flatten[k]? = some u → w.cell? ⟨b, off + k, none⟩ = some u := by
  obtain ⟨b, off, hA, hb, hc⟩ := arr_at1 h.2 (by rw [List.length_map]; exact hp)
  refine ⟨b, off, hA, hb, fun k u hk => ?_⟩
  obtain ⟨i, j, r, h1, h2, rfl⟩ := flat_split (secs_rows h.1) hk
  rw [← Nat.add_assoc]
  exact hc i r h1 j u h2
theorem sec_len {w : World} {A : Option Addr} {n c : Nat} {l : List Sect} (h : Sec w (.slice A n c) l) : n = l.length ∧ n ≤ c ∧ c ≤ 9223372036854775807 := by
  have := arr_cap h.2
  rwa [List.length_map] at this
theorem sec_none {w : World} {n c : Nat} {l : List Sect} (h : Sec w (.slice none n c) l) : l = [] := by
  rcases Nat.eq_zero_or_pos l.length with h0 | h0
  · exact List.eq_nil_of_length_eq_zero h0
  · obtain ⟨b, off, hA, _⟩ := sec_cells h h0
    cases hA
set_option maxRecDepth 100000 in
theorem append_sec {ops : Array Oper} {rest : List Oper} {o : Oper} {a : Act} {w : World} {Q : Exit → Act → World → Prop} (hgd : o.guard = none) (s x : Operand) (ho : o.op = .call { callee := .builtin .append, args := #[s, x], argTypes := #[32, 32] })
    (base : Nat) (v : Value) (n : Nat) (olds : List Value) (hs : a.eval s = v) (hown : w.ownsRow base 57 8 v n olds) (l : List Sect) (u : Value) (hx : a.eval x = u) (hsrc : Sec w u l) (hnil : NilOk u) (hk : n + l.length ≤ 1000000000) (hbase : base ≤ w.heap.size)
    (h : ∀ v' w', w'.ownsRow base 57 8 v' (n + l.length) (olds ++ (l.map cSec).flatten) → w.grownBy w' v.ownBlock → wpList Try.prog ops Q rest (a.put o.dst v') w') : wpList Try.prog ops Q (o :: rest) a w := by
  obtain ⟨i0, hi, hz0, hz1, hz2⟩ := info_parts info73
  obtain ⟨A, cap, rfl⟩ := sec_form hsrc
  rcases A with _ | ad
  · have hl := sec_none hsrc
    subst hl
    have hc0 : cap = 0 := hnil _ _ rfl
    subst hc0
    refine wpList_append_own_none hgd s x 32 ho base 57 i0 8 Try.underlying32 hi v n olds hs hown hx ?_
    exact h v w (by simpa using hown) (World.grownBy.refl w _)
  · refine wpList_append_own w hgd s x 32 ho base 57 i0 _ 8 8 Try.underlying32 hi hz0 hz1 hz2 rfl (by decide) v n olds hs hown ad l.length cap (l.map cSec).flatten hx (by rw [flat_cells hsrc.1]; omega) ?_ (cells_one l) (by unfold maxLen; omega) (by omega) hbase ?_
    · intro j u hu
      have hp : 0 < l.length := by
        rcases Nat.eq_zero_or_pos l.length with h0 | h0
        · rw [List.eq_nil_of_length_eq_zero h0] at hu; simp at hu
        · exact h0
      obtain ⟨b, off, hA, _, hc⟩ := sec_cells hsrc hp
      injection hA with hA
      subst hA
      rw [add_at]
      exact hc j u hu
    · exact fun v' w' h1 h2 _ => h v' w' h1 h2
/-- What a call that makes sectors of its own answers. -/
def MadeS (w : World) (l : List Sect) (e : Ending) (w' : World) : Prop := ∃ v, e = .returned v ∧ w'.ownsRow w.heap.size 57 8 v l.length (l.map cSec).flatten ∧ Below w.heap.size w w'
theorem own_empty73 (w : World) : (w.alloc (.cells #[] 57)).ownsRow w.heap.size 57 8 (.slice (some ⟨w.heap.size, 0, none⟩) 0 0) 0 [] :=
  ⟨rfl, .inr ⟨w.heap.size, 0, #[], rfl, Nat.le_refl _, heap_alloc_new w _, Nat.le_refl _, by unfold maxLen; omega, rfl, rfl⟩⟩
theorem below_own {B : Nat} {W w w' : World} {n E st : Nat} {v : Value} {xs : List Value} {base : Nat} (h : Below B W w) (hw : w.ownsRow base E st v n xs) (hg : w.grownBy w' v.ownBlock) (hB : B ≤ w.heap.size) (hb : B ≤ base) : Below B W w' :=
  h.grown hg hB (fun k e => by have := (hw.lt k e).1; omega)
set_option maxHeartbeats 2000000 in
set_option maxRecDepth 100000 in
theorem clone_any (l : List Sect) (v : Value) (w : World) (hv : Sec w v l) (hn : NilOk v) (hl : l.length ≤ 1000000) : Calls Try.prog 57 #[v] w (MadeS w l) := by
  obtain ⟨A, ca, rfl⟩ := sec_form hv
  have HV := hid hv
  have HN := hid hn
  have hq := fun (w : World) (a : Option Addr) (n c : Nat) => Lib.run_eql_slice_nil (P := Try.prog) w 32 57 a n c 0 0 Try.underlying32
  rcases A with _ | ad
  · have hl0 := sec_none hv
    subst hl0
    have hc := hn _ _ rfl
    subst hc
    clear hv hn
    go_enter Try.func57, Try.ntmps57
    go_wp2
    go_ret
    exact ⟨_, rfl, World.ownsRow_nil _ _ _ _, Below.refl _ _⟩
  · clear hv hn
    go_enter Try.func57, Try.ntmps57
    go_wp2_with (at_builtin; refine append_sec rfl (.tmp 5) (.tmp 6) rfl w.heap.size _ 0 [] rfl (own_empty73 w) l _ rfl (HV.out.below (al1 _ _)) HN.out (by omega) (by simp) ?_; intro v1 w1 hown1 hg1; have HB1 := hid (below_own (al1 w _) (own_empty73 w) hg1 (by simp) (Nat.le_refl _)); have HO1 := hid hown1; clear hown1 hg1)
    obtain ⟨av, cv, rfl⟩ := ownAny_form HO1.out
    go_wp2
    go_ret
    exact ⟨_, rfl, by have h := HO1.out; simpa using h, HB1.out⟩
def fromS (A : Option Addr) (c k : Nat) : Option Addr := if c = k then A else A.map (fun x => x.add (k * 8))
theorem size73s (w : World) : (sizeOf 57).run Try.prog w = .ok 8 w := by kernel_rfl
theorem run_slice22 (A : Option Addr) (n c lo hi : Nat) (x y : Int) (hx : x = (lo : Int)) (hy : y = (hi : Int)) (h1 : lo ≤ hi) (h2 : hi ≤ c) (W : World) : (Instr.slice 32 (.slice A n c) (some (.int .i64 x)) (some (.int .i64 y)) none).run Try.prog W = .ok (.slice (fromS A c lo) (hi - lo) (c - lo)) W := by
  subst hx hy
  simp [Instr.slice, run_underlying Try.underlying32, Instr.sliceBounds, Sem.run_bind, run_sliceBound_if, fromS, h1, h2]
theorem sec_mid {w : World} {A : Option Addr} {n c : Nat} {l : List Sect} (h : Sec w (.slice A n c) l) (lo hi : Nat) (h1 : lo ≤ hi) (h2 : hi ≤ l.length) : Sec w (.slice (fromS A c lo) (hi - lo) (c - lo)) ((l.drop lo).take (hi - lo)) := by
  have hll : ((l.drop lo).take (hi - lo)).length = hi - lo := by rw [List.length_take, List.length_drop]; omega
  refine ⟨fun s hs => h.1 s (List.mem_of_mem_drop (List.mem_of_mem_take hs)), ?_⟩
  obtain ⟨_, A', c', e, hc1, hc2, b, off, hA, hc⟩ := h
  injection e with e1 e2 e3
  subst e1 e3
  rw [List.length_map] at hc1 hA
  refine ⟨fromS A c lo, c - lo, by rw [List.length_map, hll], by rw [List.length_map, hll]; omega, by omega, b, off + lo * 8, fun hp => ?_, fun i r hi' j u hj => ?_⟩
  · rw [List.length_map, hll] at hp
    obtain ⟨hA1, hA2⟩ := hA (by omega)
    refine ⟨?_, hA2⟩
    unfold fromS
    rw [if_neg (by omega), hA1]
    simp [Addr.add]
  · rw [List.getElem?_map] at hi'
    obtain ⟨s, hs, rfl⟩ := Option.map_eq_some_iff.1 hi'
    rw [List.getElem?_take] at hs
    split at hs
    · rw [List.getElem?_drop] at hs
      have := hc (lo + i) (cSec s) (by rw [List.getElem?_map, hs]; rfl) j u hj
      rw [show off + lo * 8 + i * 8 + j = off + (lo + i) * 8 + j by rw [Nat.add_mul]; omega]
      exact this
    · cases hs
theorem mid_nilOk {A : Option Addr} {n c : Nat} (h : NilOk (.slice A n c)) (lo m : Nat) : NilOk (.slice (fromS A c lo) m (c - lo)) := by
  rcases A with _ | a
  · have hc := h _ _ rfl
    subst hc
    intro n' c' h
    injection h with _ _ h3
    omega
  · intro n' c' h
    injection h with h1
    unfold fromS at h1
    split at h1 <;> cases h1
theorem own_at {w : World} {base n c b E st : Nat} {xs : List Value} (h : w.ownsRow base E st (.slice (some ⟨b, 0, none⟩) n c) n xs) : base ≤ b ∧ n ≤ c ∧ ∃ cur, w.heap[b]? = some (.cells cur E (0, 0)) ∧ cur.size = c * st ∧ cur.toList.take (n * st) = xs := by
  rcases h.2 with ⟨e, _⟩ | ⟨g, cap, cur, e, hb, hg, hc, _, hs, ht⟩
  · cases e
  · injection e with e1 _ e3
    injection e1 with e1
    injection e1 with e1
    subst e1 e3
    exact ⟨hb, hc, cur, hg, hs, ht⟩
theorem own_same {w w' : World} {base E st n : Nat} {v : Value} {xs : List Value} (h : w.ownsRow base E st v n xs) (hk : ∀ k, v.ownBlock = some k → w'.heap[k]? = w.heap[k]?) : w'.ownsRow base E st v n xs :=
  ⟨h.1, h.2.imp id fun ⟨g, cap, cur, e, hb, hg, r⟩ => ⟨g, cap, cur, e, hb, (hk g (by rw [e]; rfl)).trans hg, r⟩⟩
end Go.Proofs.Ytnocgfhcamnjdaa
