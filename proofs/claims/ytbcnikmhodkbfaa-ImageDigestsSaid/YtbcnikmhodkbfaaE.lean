/- Cells of nested rows; append of sectors; slices.Clone; contents; Fits. -/
import Derived.Test.YtbcnikmhodkbfaaD
import Derived.WalkSpells
namespace Go.Proofs.Ytbcnikmhodkbfaa
open Go.RowKit Go.Lib

theorem flat_split {α : Type} {st : Nat} {rows : List (List α)} (h : ∀ r ∈ rows, r.length = st) : ∀ {k : Nat} {u : α}, rows.flatten[k]? = some u → ∃ i j r, rows[i]? = some r ∧ r[j]? = some u ∧ k = i * st + j := by
  induction rows with
  | nil => intro k u hk; simp at hk
  | cons t rows ih =>
    intro k u hk
    have ht := h t (List.mem_cons_self ..)
    rw [List.flatten_cons] at hk
    rcases Nat.lt_or_ge k t.length with hl | hl
    · rw [List.getElem?_append_left hl] at hk
      exact ⟨0, k, t, rfl, hk, by omega⟩
    · rw [List.getElem?_append_right hl] at hk
      obtain ⟨i, j, r, h1, h2, h3⟩ := ih (fun u hu => h u (List.mem_cons_of_mem _ hu)) hk
      exact ⟨i + 1, j, r, by simpa using h1, h2, by rw [Nat.succ_mul]; omega⟩
theorem secs_rows {l : List Sect} (h : Secs l) : ∀ r ∈ l.map cSec, r.length = 8 := fun r hr => by
  obtain ⟨s, hs, rfl⟩ := List.mem_map.1 hr
  unfold cSec
  rw [List.length_map]
  exact (h s hs).1
/-- The cells of sectors, one behind the other. -/
theorem sec_cells {w : World} {A : Option Addr} {n c : Nat} {l : List Sect} (h : Sec w (.slice A n c) l) (hp : 0 < l.length) : ∃ b off, A = some ⟨b, off, none⟩ ∧ b < w.heap.size ∧ ∀ (k : Nat) (u : Value), (l.map cSec).flatten[k]? = some u → w.cell? ⟨b, off + k, none⟩ = some u := by
  obtain ⟨b, off, hA, hb, hc⟩ := arr_at1 h.2 (by rw [List.length_map]; exact hp)
  refine ⟨b, off, hA, hb, fun k u hk => ?_⟩
  obtain ⟨i, j, r, h1, h2, rfl⟩ := flat_split (secs_rows h.1) hk
  rw [← Nat.add_assoc]
  exact hc i r h1 j u h2
theorem add_at (b off k : Nat) : (⟨b, off, none⟩ : Addr).add k = ⟨b, off + k, none⟩ := by unfold Addr.add; split <;> simp_all
theorem sec_len {w : World} {A : Option Addr} {n c : Nat} {l : List Sect} (h : Sec w (.slice A n c) l) : n = l.length ∧ n ≤ c ∧ c ≤ 9223372036854775807 := by
  have := arr_cap h.2
  rwa [List.length_map] at this
theorem sec_none {w : World} {n c : Nat} {l : List Sect} (h : Sec w (.slice none n c) l) : l = [] := by
  rcases Nat.eq_zero_or_pos l.length with h0 | h0
  · exact List.eq_nil_of_length_eq_zero h0
  · obtain ⟨b, off, hA, _⟩ := sec_cells h h0
    cases hA
set_option maxRecDepth 100000 in
theorem append_sec {ops : Array Oper} {rest : List Oper} {o : Oper} {a : Act} {w : World} {Q : Exit → Act → World → Prop} (hgd : o.guard = none) (s x : Operand) (ho : o.op = .call { callee := .builtin .append, args := #[s, x], argTypes := #[40, 40] })
    (base : Nat) (v : Value) (n : Nat) (olds : List Value) (hs : a.eval s = v) (hown : w.ownsRow base 58 8 v n olds) (l : List Sect) (u : Value) (hx : a.eval x = u) (hsrc : Sec w u l) (hnil : NilOk u) (hk : n + l.length ≤ 1000000000) (hbase : base ≤ w.heap.size)
    (h : ∀ v' w', w'.ownsRow base 58 8 v' (n + l.length) (olds ++ (l.map cSec).flatten) → w.grownBy w' v.ownBlock → wpList Try.prog ops Q rest (a.put o.dst v') w') : wpList Try.prog ops Q (o :: rest) a w := by
  obtain ⟨i0, hi, hz0, hz1, hz2⟩ := info_parts info58
  obtain ⟨A, cap, rfl⟩ := sec_form hsrc
  rcases A with _ | ad
  · have hl := sec_none hsrc
    subst hl
    have hc0 : cap = 0 := hnil _ _ rfl
    subst hc0
    refine wpList_append_own_none hgd s x 40 ho base 58 i0 8 Try.underlying40 hi v n olds hs hown hx ?_
    exact h v w (by simpa using hown) (World.grownBy.refl w _)
  · refine wpList_append_own w hgd s x 40 ho base 58 i0 _ 8 8 Try.underlying40 hi hz0 hz1 hz2 rfl (by decide) v n olds hs hown ad l.length cap (l.map cSec).flatten hx (by rw [flat_cells hsrc.1]; omega) ?_ (cells_one l) (by unfold maxLen; omega) (by omega) hbase ?_
    · intro j u hu
      have hp : 0 < l.length := by
        rcases Nat.eq_zero_or_pos l.length with h0 | h0
        · rw [List.eq_nil_of_length_eq_zero h0] at hu; simp at hu
        · exact h0
      obtain ⟨b, off, hA, _, hc⟩ := sec_cells hsrc hp
      injection hA with hA
      subst hA
      rw [add_at]
      exact hc j u hu
    · exact fun v' w' h1 h2 _ => h v' w' h1 h2
/-- What a call that makes sectors of its own answers. -/
def MadeS (w : World) (l : List Sect) (e : Ending) (w' : World) : Prop := ∃ v, e = .returned v ∧ w'.ownsRow w.heap.size 58 8 v l.length (l.map cSec).flatten ∧ Below w.heap.size w w'
theorem own_empty58 (w : World) : (w.alloc (.cells #[] 58)).ownsRow w.heap.size 58 8 (.slice (some ⟨w.heap.size, 0, none⟩) 0 0) 0 [] :=
  ⟨rfl, .inr ⟨w.heap.size, 0, #[], rfl, Nat.le_refl _, heap_alloc_new w _, Nat.le_refl _, by unfold maxLen; omega, rfl, rfl⟩⟩
theorem below_own {B : Nat} {W w w' : World} {n E st : Nat} {v : Value} {xs : List Value} {base : Nat} (h : Below B W w) (hw : w.ownsRow base E st v n xs) (hg : w.grownBy w' v.ownBlock) (hB : B ≤ w.heap.size) (hb : B ≤ base) : Below B W w' :=
  h.grown hg hB (fun k e => by have := (hw.lt k e).1; omega)
set_option maxHeartbeats 2000000 in
set_option maxRecDepth 100000 in
theorem clone_any (l : List Sect) (v : Value) (w : World) (hv : Sec w v l) (hn : NilOk v) (hl : l.length ≤ 1000000) : Calls Try.prog 55 #[v] w (MadeS w l) := by
  obtain ⟨A, ca, rfl⟩ := sec_form hv
  have HV := hid hv
  have HN := hid hn
  have hq := fun (w : World) (a : Option Addr) (n c : Nat) => Lib.run_eql_slice_nil (P := Try.prog) w 40 58 a n c 0 0 Try.underlying40
  rcases A with _ | ad
  · have hl0 := sec_none hv
    subst hl0
    have hc := hn _ _ rfl
    subst hc
    clear hv hn
    go_enter Try.func55, Try.ntmps55
    go_wp2
    go_ret
    exact ⟨_, rfl, World.ownsRow_nil _ _ _ _, Below.refl _ _⟩
  · clear hv hn
    go_enter Try.func55, Try.ntmps55
    go_wp2_with (at_builtin; refine append_sec rfl (.tmp 5) (.tmp 6) rfl w.heap.size _ 0 [] rfl (own_empty58 w) l _ rfl (HV.out.below (al1 _ _)) HN.out (by omega) (by simp) ?_; intro v1 w1 hown1 hg1; have HB1 := hid (below_own (al1 w _) (own_empty58 w) hg1 (by simp) (Nat.le_refl _)); have HO1 := hid hown1; clear hown1 hg1)
    obtain ⟨av, cv, rfl⟩ := ownAny_form HO1.out
    go_wp2
    go_ret
    exact ⟨_, rfl, by have h := HO1.out; simpa using h, HB1.out⟩

/- A part of a slice of sectors. -/
def fromS (A : Option Addr) (c k : Nat) : Option Addr := if c = k then A else A.map (fun x => x.add (k * 8))
theorem size58s (w : World) : (sizeOf 58).run Try.prog w = .ok 8 w := by kernel_rfl
theorem run_slice40 (A : Option Addr) (n c lo hi : Nat) (x y : Int) (hx : x = (lo : Int)) (hy : y = (hi : Int)) (h1 : lo ≤ hi) (h2 : hi ≤ c) (W : World) : (Instr.slice 40 (.slice A n c) (some (.int .i64 x)) (some (.int .i64 y)) none).run Try.prog W = .ok (.slice (fromS A c lo) (hi - lo) (c - lo)) W := by
  subst hx hy
  simp [Instr.slice, run_underlying Try.underlying40, Instr.sliceBounds, Sem.run_bind, run_sliceBound_if, fromS, h1, h2]
theorem sec_mid {w : World} {A : Option Addr} {n c : Nat} {l : List Sect} (h : Sec w (.slice A n c) l) (lo hi : Nat) (h1 : lo ≤ hi) (h2 : hi ≤ l.length) : Sec w (.slice (fromS A c lo) (hi - lo) (c - lo)) ((l.drop lo).take (hi - lo)) := by
  have hll : ((l.drop lo).take (hi - lo)).length = hi - lo := by rw [List.length_take, List.length_drop]; omega
  refine ⟨fun s hs => h.1 s (List.mem_of_mem_drop (List.mem_of_mem_take hs)), ?_⟩
  obtain ⟨_, A', c', e, hc1, hc2, b, off, hA, hc⟩ := h
  injection e with e1 e2 e3
  subst e1 e3
  rw [List.length_map] at hc1 hA
  refine ⟨fromS A c lo, c - lo, by rw [List.length_map, hll], by rw [List.length_map, hll]; omega, by omega, b, off + lo * 8, fun hp => ?_, fun i r hi' j u hj => ?_⟩
  · rw [List.length_map, hll] at hp
    obtain ⟨hA1, hA2⟩ := hA (by omega)
    refine ⟨?_, hA2⟩
    unfold fromS
    rw [if_neg (by omega), hA1]
    simp [Addr.add]
  · rw [List.getElem?_map] at hi'
    obtain ⟨s, hs, rfl⟩ := Option.map_eq_some_iff.1 hi'
    rw [List.getElem?_take] at hs
    split at hs
    · rw [List.getElem?_drop] at hs
      have := hc (lo + i) (cSec s) (by rw [List.getElem?_map, hs]; rfl) j u hj
      rw [show off + lo * 8 + i * 8 + j = off + (lo + i) * 8 + j by rw [Nat.add_mul]; omega]
      exact this
    · cases hs
theorem mid_nilOk {A : Option Addr} {n c : Nat} (h : NilOk (.slice A n c)) (lo m : Nat) : NilOk (.slice (fromS A c lo) m (c - lo)) := by
  rcases A with _ | a
  · have hc := h _ _ rfl
    subst hc
    intro n' c' h
    injection h with _ _ h3
    omega
  · intro n' c' h
    injection h with h1
    unfold fromS at h1
    split at h1 <;> cases h1
set_option maxHeartbeats 2000000 in
set_option maxRecDepth 100000 in
theorem contents_any (l : List Sect) (v : Value) (s m : Nat) (w : World) (hv : Sec w v l) (hn : NilOk v) (hl : l.length ≤ 1000000) (hsm : s + m ≤ l.length) :
    Calls Try.prog 56 #[v, .agg #[.int .i64 (s : Int), .int .i64 (m : Int)]] w (MadeS w ((l.drop s).take m)) := by
  obtain ⟨A, ca, rfl⟩ := sec_form hv
  obtain ⟨_, hc1, hc2⟩ := sec_len hv
  have hs := fun (W : World) => run_slice40 A l.length ca s (s + m) (s : Int) ((s : Int) + (m : Int)) rfl (by omega) (by omega) (by omega) W
  have hmid := sec_mid hv s (s + m) (by omega) hsm
  have hnk := mid_nilOk hn s m
  rw [show s + m - s = m by omega] at hs hmid
  obtain ⟨fA, hfA⟩ : ∃ fA, fromS A ca s = fA := ⟨_, rfl⟩
  rw [hfA] at hs hmid hnk
  have hll : ((l.drop s).take m).length ≤ 1000000 := by rw [List.length_take, List.length_drop]; omega
  obtain ⟨B, hB⟩ : ∃ B, w.alloc (.cells #[.int .i64 (s : Int), .int .i64 (m : Int)] 51) = B := ⟨_, rfl⟩
  have hb : Below w.heap.size w B := by rw [← hB]; exact al1 _ _
  have hx := heap_alloc_new w (.cells #[.int .i64 (s : Int), .int .i64 (m : Int)] 51)
  rw [hB] at hx
  have c0 : B.cell? ⟨w.heap.size, 0, none⟩ = some (.int .i64 (s : Int)) := cell_of_row _ _ 0 _ _ _ hx
  have c1 : B.cell? ⟨w.heap.size, 1, none⟩ = some (.int .i64 (m : Int)) := cell_of_row _ _ 1 _ _ _ hx
  have HC := hid (clone_any _ _ B (hmid.below hb) hnk hll)
  have HB := hid hb
  obtain ⟨l2, hl2⟩ : ∃ l2, (l.drop s).take m = l2 := ⟨_, rfl⟩
  rw [hl2] at HC ⊢
  clear hmid hnk hfA hb hv hn hx hll hl2
  go_enter Try.func56, Try.ntmps56
  go_wp2_with fail
  refine HC.out.mono ?_
  rintro e w2 ⟨v2, rfl, ho, hb2⟩
  obtain ⟨a2, c2, rfl⟩ := ownAny_form ho
  have HO := hid (own_base ho HB.out.size)
  have HB2 := hid (below_both HB.out hb2)
  clear ho hb2
  go_wp2
  go_ret
  exact ⟨_, rfl, HO.out, HB2.out⟩
end Go.Proofs.Ytbcnikmhodkbfaa
