/- Delete; IndexFunc of a number. -/
import Derived.Test.YtjpfogdfgcfkcaaH
namespace Go.Proofs.Ytjpfogdfgcfkcaa
open Go.RowKit Go.Lib

def zc5 : List Value := [.int .i64 0, .int .i64 0, .int .i64 0, .int .i64 0, .slice none 0 0]
theorem zeroCells1 : (Builtin.zeroCells (Value.agg #[.int .i64 0, .int .i64 0, .int .i64 0, .int .i64 0, .slice none 0 0]).cells 1).toList = zc5 := by kernel_rfl
theorem zero32 (w : World) : (zeroValue 32).run Try.prog w = .ok (Value.agg #[.int .i64 0, .int .i64 0, .int .i64 0, .int .i64 0, .slice none 0 0]) w := by kernel_rfl
theorem run_clear5 {W : World} {g : Nat} {A M C : List Value} (hg : W.heap[g]? = some (.cells (A ++ M ++ C).toArray 32)) (off cc : Nat) (hoff : off = A.length) (hM : M.length = 5) (ty : TypeId) :
    (Builtin.clear_ #[22] ty #[.slice (some ⟨g, off, none⟩) 1 cc]).run Try.prog W = .ok (.tuple #[]) (W.setRow g (A ++ zc5 ++ C).toArray) := by
  have hst := run_storeCells_at (P := Try.prog) g off 32 zc5 0 (A ++ M ++ C).toArray W hg (by simp [zc5]; omega) (by decide)
  have e1 : (A ++ M ++ C).take off = A := by rw [hoff, List.append_assoc, List.take_left]
  have e2 : (A ++ M ++ C).drop (off + zc5.length) = C := by rw [hoff, show zc5.length = M.length by rw [hM]; rfl, ← List.length_append, List.drop_left]
  simp only [Nat.add_zero] at hst
  rw [e1, e2] at hst
  simp [Builtin.clear_, run_underlying Try.underlying22, zeroCells1, hst]
theorem wp_clear_run (w : World) {o : Oper} {a : Act} {K : Act → World → Prop} {Q : Exit → Act → World → Prop} (s : Operand) (t : TypeId)
    (ho : o.op = .call { callee := .builtin .clear, args := #[s], argTypes := #[t] }) (v : Value) (hs : a.eval s = v) {v' : Value} {w' : World}
    (hr : (Builtin.clear_ #[t] o.type #[v]).run Try.prog w = .ok v' w') (h : K (a.put o.dst v') w') : o.wp Try.prog a w K Q := by
  unfold Oper.wp execOp
  simp only [ho, resolve, invoke, builtin, Sem.run_bind, Sem.run_pure, Result.andThen_ok, List.map_toArray, List.map_cons, List.map_nil, hs, hr]
  exact h
theorem wpList_clear_run (w : World) {ops : Array Oper} {rest : List Oper} {o : Oper} {a : Act} {Q : Exit → Act → World → Prop} (hgd : o.guard = none) (s : Operand) (t : TypeId)
    (ho : o.op = .call { callee := .builtin .clear, args := #[s], argTypes := #[t] }) (v : Value) (hs : a.eval s = v) {v' : Value} {w' : World}
    (hr : (Builtin.clear_ #[t] o.type #[v]).run Try.prog w = .ok v' w') (h : wpList Try.prog ops Q rest (a.put o.dst v') w') : wpList Try.prog ops Q (o :: rest) a w :=
  wpList_plain hgd fun _ hK => wp_clear_run w s t ho v hs hr (hK _ _ h)
theorem step_append_run {ops : Array Oper} {o : Oper} {a : Act} {w : World} {K : Act → World → Prop} {Q : Exit → Act → World → Prop} {E : Prop}
    (hg : o.guard = none) (d x : Operand) (dT sT : TypeId) (hop : o.op = Op.call { callee := Callee.builtin Builtin.append, args := #[d, x], argTypes := #[dT, sT] })
    (v u : Value) (hd : a.eval d = v) (hx : a.eval x = u) {v' : Value} {w' : World} (hr : (Builtin.append_ #[dT, sT] o.type #[v, u]).run Try.prog w = .ok v' w') (hK : K (a.put o.dst v') w') :
    if Region.wanted o (yielded ops a.tmps) = true then Oper.wp Try.prog o a w K Q else E := by
  have hw : Region.wanted o (yielded ops a.tmps) = true := by simp [Region.wanted, hg]
  rw [if_pos hw]
  unfold Oper.wp
  simp [execOp, hop, resolve, invoke, builtin, hd, hx, hr, Result.andThen]
  exact hK
theorem run_both22 (A : Option Addr) (n c lo hi : Nat) (h1 : lo ≤ hi) (h2 : hi ≤ c) (W : World) : (Instr.slice 22 (.slice A n c) (some (.int .i64 (lo : Int))) (some (.int .i64 (hi : Int))) none).run Try.prog W = .ok (.slice (fromN 5 A c lo) (hi - lo) (c - lo)) W := run_slice22 A n c lo hi _ _ rfl rfl h1 h2 W
theorem run_three22 (A : Option Addr) (n c lo hi mx : Nat) (h1 : lo ≤ hi) (h2 : hi ≤ mx) (h3 : mx ≤ c) (W : World) : ∃ v, (Instr.slice 22 (.slice A n c) (some (.int .i64 (lo : Int))) (some (.int .i64 (hi : Int))) (some (.int .i64 (mx : Int)))).run Try.prog W = .ok v W := by
  simp [Instr.slice, run_underlying Try.underlying22, Instr.sliceBounds, Sem.run_bind, run_sliceBound_if, h1, h2, h3]

set_option maxHeartbeats 4000000 in
set_option maxRecDepth 100000 in
theorem delete_any (base g c n i : Nat) (p x s ys : List Value) (w : World) (hg : w.heap[g]? = some (.cells (p ++ x ++ s ++ ys).toArray 32)) (hb : base ≤ g) (hi : i < n) (hl : n ≤ 100000) (hp : p.length = i * 5) (hx : x.length = 5) (hs : s.length = (n - 1 - i) * 5) (hy : ys.length = (c - n) * 5) (hnc : n ≤ c) (hcm : c ≤ maxLen)
    (hps : ∀ u ∈ s, u.oneCell' = true) :
    Calls Try.prog 41 #[.slice (some ⟨g, 0, none⟩) n c, .int .i64 (i : Int), .int .i64 ((i + 1 : Nat) : Int)] w fun e w' => e = .returned (.slice (some ⟨g, 0, none⟩) (n - 1) c) ∧ w'.ownsRow base 32 5 (.slice (some ⟨g, 0, none⟩) (n - 1) c) (n - 1) (p ++ s) ∧ w.grownBy w' (some g) := by
  obtain ⟨i1, hi1⟩ : ∃ i1, i + 1 = i1 := ⟨_, rfl⟩
  obtain ⟨n0, hn0⟩ : ∃ n0, n - 1 = n0 := ⟨_, rfl⟩
  obtain ⟨r, hr⟩ : ∃ r, n - i1 = r := ⟨_, rfl⟩
  have hnn : n = n0 + 1 := by omega
  have hirn : i + r = n0 := by omega
  rw [hi1, hn0]
  rw [hn0, show n0 - i = r by omega] at hs
  obtain ⟨q1, q2, hq, hq1⟩ : ∃ q1 q2, x ++ s ++ ys = q1 ++ q2 ∧ q1.length = s.length := ⟨(x ++ s ++ ys).take s.length, (x ++ s ++ ys).drop s.length, (List.take_append_drop _ _).symm, by rw [List.length_take, List.length_append, List.length_append]; omega⟩
  obtain ⟨z, y', hq2, hz⟩ : ∃ z y', q2 = z ++ y' ∧ z.length = 5 := ⟨q2.take 5, q2.drop 5, (List.take_append_drop _ _).symm, by
    have h := congrArg List.length hq
    simp only [List.length_append] at h
    rw [List.length_take]; omega⟩
  have hy' : y'.length = ys.length := by
    have h := congrArg List.length hq
    rw [hq2] at h
    simp only [List.length_append] at h
    omega
  have hg1 : w.heap[g]? = some (.cells (p ++ q1 ++ (z ++ y')).toArray 32) := by
    rw [hg, List.append_assoc p q1, ← hq2, ← hq]; simp [List.append_assoc]
  obtain ⟨W1, hW1⟩ : ∃ W1, w.drew.setRow g (p ++ s ++ (z ++ y')).toArray = W1 := ⟨_, rfl⟩
  have hgW1 : W1.heap[g]? = some (.cells ((p ++ s) ++ z ++ y').toArray 32) := by rw [← hW1, setRow_heap w.drew g _ _ 32 (0, 0) hg1, List.append_assoc (p ++ s)]
  obtain ⟨W2, hW2⟩ : ∃ W2, W1.setRow g ((p ++ s) ++ zc5 ++ y').toArray = W2 := ⟨_, rfl⟩
  have hgW2 : W2.heap[g]? = some (.cells ((p ++ s) ++ zc5 ++ y').toArray 32) := by rw [← hW2, setRow_heap W1 g _ _ 32 (0, 0) hgW1]
  have hgr : w.grownBy W2 (some g) := by
    have h1 : w.grownBy W1 (some g) := by rw [← hW1]; exact grown_setRowD hg1
    have h2 : W1.grownBy W2 (some g) := by rw [← hW2]; exact grown_setRow hgW1
    exact grown_trans h1 h2
  obtain ⟨i0, hi0, hz0, hzs, hzb⟩ := info_parts info32
  obtain ⟨sa, hsa, hsa2⟩ : ∃ sa, fromN 5 (some ⟨g, 0, none⟩) c i1 = some sa ∧ (0 < r → sa = ⟨g, i1 * 5, none⟩) := by
    by_cases hc : c = i1
    · exact ⟨⟨g, 0, none⟩, by unfold fromN; rw [if_pos hc], by omega⟩
    · exact ⟨⟨g, i1 * 5, none⟩, from_some (by omega), fun _ => rfl⟩
  have hap := fun ty : TypeId => run_append_room (P := Try.prog) (w := w.drew) 22 ty 32 i0 Try.underlying22 hi0 g i c (p ++ q1 ++ (z ++ y')).toArray hg1 sa r (c - i1) s (by rw [hzs]; exact hs) (fun j u hj => by
    have hjl := (List.getElem?_eq_some_iff.1 hj).1
    rw [hsa2 (by omega), add_at]
    show w.cell? _ = _
    rw [cell_of_row _ _ _ _ _ _ hg, List.getElem?_toArray, List.append_assoc, List.append_assoc, List.getElem?_append_right (show p.length ≤ i1 * 5 + j by omega), List.getElem?_append_right (show x.length ≤ i1 * 5 + j - p.length by omega)]
    rw [show i1 * 5 + j - p.length - x.length = j by omega, List.getElem?_append_left hjl]
    exact hj) hps (by omega) (by rw [hzs]; simp only [List.size_toArray, List.length_append]; omega)
  have e1 : (p ++ q1 ++ (z ++ y')).take (i * i0.size) = p := by rw [hzs, ← hp, List.append_assoc, List.take_left]
  have e2 : (p ++ q1 ++ (z ++ y')).drop (i * i0.size + s.length) = z ++ y' := by rw [hzs, ← hp, ← hq1, ← List.length_append, List.drop_left]
  rw [e1, e2, hW1, hirn] at hap
  obtain ⟨sv, hsv⟩ := run_three22 (some ⟨g, 0, none⟩) n c i i1 n (by omega) (by omega) hnc w
  have hsl2 := fun W : World => run_to22 (some ⟨g, 0, none⟩) n c i (by omega) W
  have hsl3 := fun W : World => run_from22 (some ⟨g, 0, none⟩) n c i1 (by omega) W
  rw [hsa, hr] at hsl3
  have hsl4 := fun W : World => run_both22 (some ⟨g, 0, none⟩) n0 c n0 n (by omega) hnc W
  rw [from_some (show n0 < c by omega), show n - n0 = 1 by omega] at hsl4
  obtain ⟨ci1, hci1⟩ : ∃ y, c - i1 = y := ⟨_, rfl⟩
  obtain ⟨cn0, hcn0⟩ : ∃ y, c - n0 = y := ⟨_, rfl⟩
  rw [hci1] at hsl3 hap
  rw [hcn0] at hsl4
  have HCL := hid (fun ty : TypeId => run_clear5 (W := W1) (g := g) (A := p ++ s) (M := z) (C := y') hgW1 (n0 * 5) cn0 (by rw [List.length_append]; omega) hz ty)
  rw [hW2] at HCL
  have HAP := hid hap
  have dz : ((i : Int) == (i1 : Int)) = false := by rw [beq_eq_false_iff_ne]; omega
  have HG := hid hgW2
  have HGR := hid hgr
  have HLEN : Hid (((p ++ s) ++ zc5 ++ y').length = c * 5) := hid (by simp only [List.length_append, show zc5.length = 5 from rfl]; omega)
  have HTK : Hid (((p ++ s) ++ zc5 ++ y').take (n0 * 5) = p ++ s) := hid (by
    rw [List.append_assoc, show n0 * 5 = (p ++ s).length by simp only [List.length_append]; omega, List.take_left])
  have HL2 : Hid ((p ++ s).length = n0 * 5) := hid (by simp only [List.length_append]; omega)
  have hn0c : n0 ≤ c := by omega
  have mixed : Try.prog.follows .mixedOrders = true := by kernel_rfl
  clear hg1 hgW1 hW1 hW2 hq hq1 hq2 hz hy' hp hx hs hy hps hgW2 hgr hg hr hi1 hn0 hnn hirn hi0 hz0 hzs hzb hsa hsa2 hap e1 e2 hci1 hcn0
  go_enter Try.func41, Try.ntmps41
  go_wp2_with fail
  go_region_law_o (refine step_append_run rfl _ _ 22 22 rfl (.slice (some ⟨g, 0, none⟩) i c) (.slice (some sa) r ci1) (by simp [Act.eval, Act.put]) (by simp [Act.eval, Act.put]) (HAP.out _) ?_)
  go_wp2_with (refine wpList_clear_run _ rfl (.tmp 31) 22 rfl _ rfl (HCL.out _) ?_)
  go_ret
  exact ⟨rfl, ⟨HL2.out, .inr ⟨g, c, _, rfl, hb, HG.out, hn0c, hcm, by simpa using HLEN.out, by simpa using HTK.out⟩⟩, HGR.out⟩
end Go.Proofs.Ytjpfogdfgcfkcaa
