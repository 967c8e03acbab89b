/- Interrupt. -/
import Derived.Test.YtnocgfhcamnjdaaR
namespace Go.Proofs.Ytnocgfhcamnjdaa
open Go.RowKit Go.Lib

theorem exec_len (st : List Sect) (ca : List Ca) (ops : List OpT) (i : Nat) : (exec st ca ops i).2.2.1.length ≤ st.length ∧ (exec st ca ops i).2.2.2.length ≤ ca.length + tot ops := by
  induction ops generalizing st ca i with
  | nil => exact ⟨Nat.le_refl _, Nat.le_refl _⟩
  | cons x r ih =>
    unfold exec tot
    split
    · split
      · have h := ih st (ca ++ putL x.a x.l) (i + 1)
        rw [List.length_append, putL_len] at h
        exact ⟨h.1, by omega⟩
      · exact ⟨Nat.zero_le _, Nat.zero_le _⟩
    · split
      · have h := ih (newL st ca) [] (i + 1)
        rw [newL_len, List.length_nil] at h
        exact ⟨h.1, by omega⟩
      · exact ⟨Nat.zero_le _, Nat.zero_le _⟩
theorem runS_len (st : List Sect) (ca : List Ca) (ops : List OpT) : (runS st ca ops).2.2.1.length ≤ st.length ∧ (runS st ca ops).2.2.2.length ≤ ca.length + tot ops := by
  unfold runS
  split
  · exact exec_len _ _ _ _
  · exact ⟨Nat.zero_le _, Nat.zero_le _⟩
theorem tot_take (ops : List OpT) (k : Nat) : tot (ops.take k) ≤ tot ops := by
  induction ops generalizing k with
  | nil => simp [tot]
  | cons x r ih =>
    cases k with
    | zero => exact Nat.zero_le _
    | succ k => rw [List.take_succ_cons, tot, tot]; have := ih k; omega
theorem arr_take {w : World} {A : Option Addr} {n c st : Nat} {rows : List (List Value)} (h : Arr w (.slice A n c) st rows) {k : Nat} (hk : k ≤ n) : Arr w (.slice A k c) st (rows.take k) := by
  obtain ⟨A', cap, e, h1, h2, b, off, hA, hc⟩ := h
  injection e with e1 e2 e3
  subst e1 e2 e3
  have hl : (rows.take k).length = k := by rw [List.length_take]; omega
  refine ⟨A, c, by rw [hl], by omega, h2, b, off, fun hp => hA (by omega), fun i r hi j u hj => ?_⟩
  rw [List.getElem?_take] at hi
  split at hi
  · exact hc i r hi j u hj
  · cases hi
theorem ops_take {w : World} {A : Option Addr} {n c : Nat} {l : List OpT} (h : OpsA w (.slice A n c) l) {k : Nat} (hk : k ≤ n) : OpsA w (.slice A k c) (l.take k) :=
  ⟨fun x hx => h.1 x (List.mem_of_mem_take hx), by rw [List.map_take]; exact arr_take h.2 hk⟩
theorem run_slice32 (A : Option Addr) (n c hi : Nat) (h : hi ≤ c) (W : World) : (Instr.slice 24 (.slice A n c) none (some (.int .i64 (hi : Int))) none).run Try.prog W = .ok (.slice A hi c) W := by
  cases A <;> simp [Instr.slice, run_underlying Try.underlying24, Instr.sliceBounds, Sem.run_bind, run_sliceBound_if, h]
  exact fun _ => rfl
/-- What an interruption leaves. -/
def interS (st : List Sect) (ca : List Ca) (ops : List OpT) (k : Int) (ch : List Int) : Int × List Sect × List Ca × List Int :=
  if k < 0 ∨ (ops.length : Int) < k then (2, [], [], []) else if (runS st ca (ops.take k.toNat)).2.1 ≠ 0 then ((runS st ca (ops.take k.toNat)).2.1, [], [], []) else (0, crashS (runS st ca (ops.take k.toNat)).2.2.1 (runS st ca (ops.take k.toNat)).2.2.2 ch)
def IntQ (w : World) (r : Int × List Sect × List Ca × List Int) (e : Ending) (w' : World) : Prop := ∃ v u, e = .returned (.tuple #[v, u, .int .i64 r.1]) ∧ OwnG w' w.heap.size r.2.1 r.2.2.1 v ∧ w'.ownsRow w.heap.size 3 1 u r.2.2.2.length (r.2.2.2.map intV) ∧ Below w.heap.size w w'
set_option maxHeartbeats 8000000 in
set_option maxRecDepth 100000 in
theorem interrupt_any (st : List Sect) (ca : List Ca) (sv cv ov lv : Value) (ops : List OpT) (k : Int) (l : List Int) (w : World) (hs : Sec w sv st) (hsn : NilOk sv) (hc : Cas w cv ca) (hops : OpsA w ov ops) (hl : Ints w lv l) (hst : st.length ≤ 1000000) (hca : ca.length + tot ops ≤ 500000) (hll : l.length ≤ 900000000000) (hrk : R64 k) :
    Calls Try.prog 23 #[.agg #[sv, cv], ov, .int .i64 k, lv] w (IntQ w (interS st ca ops k l)) := by
  obtain ⟨A, c, rfl⟩ := sec_form hs
  obtain ⟨B, d, rfl⟩ := cas_form hc
  obtain ⟨O, oc, rfl⟩ := ops_form hops
  obtain ⟨LA, lc, rfl⟩ := ints_form hl
  obtain ⟨n, hn⟩ : ∃ n, st.length = n := ⟨_, rfl⟩
  obtain ⟨m, hm⟩ : ∃ n, ca.length = n := ⟨_, rfl⟩
  obtain ⟨N, hN⟩ : ∃ n, ops.length = n := ⟨_, rfl⟩
  obtain ⟨M, hM⟩ : ∃ n, l.length = n := ⟨_, rfl⟩
  obtain ⟨_, hNc, hcc⟩ := arr_cap hops.2
  rw [hN] at hops hNc ⊢
  rw [hn] at hs hsn ⊢
  rw [hm] at hc ⊢
  rw [hM] at hl ⊢
  obtain ⟨g, hg⟩ : ∃ g, w.heap.size = g := ⟨_, rfl⟩
  obtain ⟨W1, hW1⟩ : ∃ X, (w.alloc (.cells #[.slice A n c, .slice B m d] 35)).alloc (.cells #[.slice none 0 0, .slice none 0 0] 35) = X := ⟨_, rfl⟩
  have hb1 : Below w.heap.size w W1 := by rw [← hW1]; exact ((Below.refl _ w).alloc (Nat.le_refl _) _).alloc (by simp) _
  have hx1 : W1.heap[g]? = some (.cells #[.slice A n c, .slice B m d] 35) := by rw [← hW1, ← hg]; exact (Below.heap_alloc _ _ _ (by simp)).trans (heap_alloc_new w _)
  have hy1 : W1.heap[g + 1]? = some (.cells #[.slice none 0 0, .slice none 0 0] 35) := by rw [← hW1, ← hg]; simpa using heap_alloc_new (w.alloc (.cells #[.slice A n c, .slice B m d] 35)) (.cells #[.slice none 0 0, .slice none 0 0] 35)
  have hge : w.heap.size ≤ g := Nat.le_of_eq hg
  have hge1 : w.heap.size ≤ g + 1 := by omega
  have HX1 := hid hx1
  have HY1 := hid hy1
  have HB1 := hid hb1
  have HW1 := hid hW1
  have HG := hid hg
  have HNN := hid hN
  have HS := hid hs
  have HSN := hid hsn
  have HC := hid hc
  have HOP := hid hops
  have HL := hid hl
  have HLL := hid hll
  have HN := hid hn
  have HM := hid hm
  have HST := hid hst
  have HCA := hid hca
  clear hs hsn hc hl hn hm hM hb1 hx1 hy1 hW1 hg hN hops hll hst hca
  by_cases hbad : k < 0 ∨ (N : Int) < k
  · have HR : Hid (interS st ca ops k l = (2, [], [], [])) := hid (by unfold interS; rw [HNN.out, if_pos hbad])
    have y0 := cell_of_row _ _ 0 _ _ _ HY1.out
    have y1 := cell_of_row _ _ 1 _ _ _ HY1.out
    have f0 := box_fr HY1.out 0
    have f1 := box_fr HY1.out 1
    by_cases h0 : k < 0
    · have d0 : decide (k < 0) = true := decide_eq_true h0
      clear hbad h0
      go_enter Try.func23, Try.ntmps23
      go_upto_region 1 with fail
      rw [HW1.out, HG.out]
      go_wp2_with fail
      refine bodyPost_ret (results_v2 rfl _ _ (g + 1) _ rfl (disk_load (disk_set HY1.out _ _)) _ rfl _ rfl) rfl ?_
      rw [HR.out]
      exact ⟨_, _, rfl, own_nil _ _, World.ownsRow_nil _ _ _ _, (HB1.out.setCell hge1 _).setCell hge1 _⟩
    · have d0 : decide (k < 0) = false := decide_eq_false h0
      have d1 : decide ((N : Int) < k) = true := decide_eq_true (by omega)
      clear hbad h0
      go_enter Try.func23, Try.ntmps23
      go_upto_region 1 with fail
      rw [HW1.out, HG.out]
      go_wp2_with fail
      refine bodyPost_ret (results_v2 rfl _ _ (g + 1) _ rfl (disk_load (disk_set HY1.out _ _)) _ rfl _ rfl) rfl ?_
      rw [HR.out]
      exact ⟨_, _, rfl, own_nil _ _, World.ownsRow_nil _ _ _ _, (HB1.out.setCell hge1 _).setCell hge1 _⟩
  obtain ⟨q, rfl⟩ : ∃ q : Nat, k = (q : Int) := ⟨k.toNat, by omega⟩
  have hqN : q ≤ N := by omega
  have d0 : decide ((q : Int) < 0) = false := decide_eq_false (by omega)
  have d1 : decide ((N : Int) < (q : Int)) = false := decide_eq_false (by omega)
  have d1' : decide (N < q) = false := decide_eq_false (by omega)
  obtain ⟨r, hr⟩ : ∃ r, runS st ca (ops.take q) = r := ⟨_, rfl⟩
  have hrl := runS_len st ca (ops.take q)
  rw [hr] at hrl
  have HR : Hid (interS st ca ops (q : Int) l = if r.2.1 ≠ 0 then (r.2.1, [], [], []) else (0, crashS r.2.2.1 r.2.2.2 l)) := hid (by unfold interS; rw [HNN.out, if_neg hbad, show ((q : Int)).toNat = q from rfl, hr])
  have HRE : Hid (r.2.1 ≠ 0 → r.2.2 = ([], [])) := hid (fun h => by
    rw [← hr] at h ⊢
    unfold runS at h ⊢
    split at h
    · rename_i h0
      rw [if_pos h0]
      exact exec_err h
    · rename_i h0
      rw [if_neg h0])
  have hsl := fun W => run_slice32 O N oc q (by omega) W
  have HRUN := hid (fun X (hX : Below W1.heap.size W1 X) => (by
    have hw := HB1.out.trans (hX.mono HB1.out.size)
    have h := run_any st ca (.slice A n c) (.slice B m d) (.slice O q oc) (ops.take q) X (HS.out.below hw) HSN.out (HC.out.below hw) ((ops_take HOP.out hqN).below hw) (by have := tot_take ops q; have := HCA.out; omega)
    rw [hr] at h
    exact h : Calls Try.prog 25 #[.agg #[.slice A n c, .slice B m d], .slice O q oc] X (RunQ X r)))
  have HLEN : Hid (r.2.2.1.length ≤ 1000000 ∧ r.2.2.2.length ≤ 500000) := hid ⟨Nat.le_trans hrl.1 HST.out, Nat.le_trans hrl.2 (by have := tot_take ops q; have := HCA.out; omega)⟩
  clear hbad hr hrl
  obtain ⟨rn, re, rs, rc⟩ := r
  dsimp only at HLEN
  have HK := hid (fun X (hX : Below W1.heap.size W1 X) => (show X.cell? ⟨g, 0, none⟩ = some (.slice A n c) ∧ X.cell? ⟨g, 1, none⟩ = some (.slice B m d) from ⟨cell_of_row _ _ 0 _ _ _ ((hX.block _ (box_lt HX1.out)).trans HX1.out), cell_of_row _ _ 1 _ _ _ ((hX.block _ (box_lt HX1.out)).trans HX1.out)⟩))
  go_enter Try.func23, Try.ntmps23
  go_upto_region 1 with fail
  rw [HW1.out, HG.out]
  go_upto_region 3 with fail
  refine region_tail 12 (fun X => X.cell? ⟨g, 0, none⟩ = some (.slice A n c) ∧ X.cell? ⟨g, 1, none⟩ = some (.slice B m d)) (by kernel_rfl) ?_
  obtain ⟨X0, hX0⟩ : ∃ X, W1.drew = X := ⟨_, rfl⟩
  have hB0 : Below W1.heap.size W1 X0 := by rw [← hX0]; exact (Below.refl W1.heap.size W1).drew
  have hHeld := HK.out X0 hB0
  rw [hX0]
  clear hX0
  refine' wpAnyT_take (i := 0) (oi := ?oia0) (v := ?va0) ?hia0 (by kernel_rfl) (by kernel_rfl) ?hqa0 ?hya0 hHeld ?resta0
  case hia0 => (simp only [List.getElem?_toArray, List.getElem?_cons_zero]; rfl)
  case hqa0 => exact fun _ _ _ h => h
  case hya0 => (refine Or.inl ⟨by rfl, ?_⟩; intro w' hSw; (try dsimp only at hSw); go_simp; try with_reducible rfl)
  (try simp only [Act.put, List.setIfInBounds_toArray, List.set_cons_zero, List.set_cons_succ])
  refine' wpAnyT_take (i := 1) (oi := ?oia1) (v := ?va1) ?hia1 (by kernel_rfl) (by kernel_rfl) ?hqa1 ?hya1 hHeld ?resta1
  case hia1 => (simp only [List.getElem?_toArray, List.getElem?_cons_zero, List.getElem?_cons_succ]; rfl)
  case hqa1 => exact fun _ _ _ h => h
  case hya1 => (refine Or.inl ⟨by rfl, ?_⟩; intro w' hSw; (try dsimp only at hSw); go_simp; try with_reducible rfl)
  (try simp only [Act.put, List.setIfInBounds_toArray, List.set_cons_zero, List.set_cons_succ])
  refine' wpAnyT_take (i := 2) (oi := ?oia2) (v := ?va2) ?hia2 (by kernel_rfl) (by kernel_rfl) ?hqa2 ?hya2 hHeld ?resta2
  case hia2 => (simp only [List.getElem?_toArray, List.getElem?_cons_zero, List.getElem?_cons_succ]; rfl)
  case hqa2 => exact fun _ _ _ h => h
  case hya2 => (refine Or.inl ⟨by rfl, ?_⟩; intro w' hSw; (try dsimp only at hSw); go_simp; try with_reducible rfl)
  (try simp only [Act.put, List.setIfInBounds_toArray, List.set_cons_zero, List.set_cons_succ])
  refine' wpAnyT_take (i := 3) (oi := ?oia3) (v := ?va3) ?hia3 (by kernel_rfl) (by kernel_rfl) ?hqa3 ?hya3 hHeld ?resta3
  case hia3 => (simp only [List.getElem?_toArray, List.getElem?_cons_zero, List.getElem?_cons_succ]; rfl)
  case hqa3 => exact fun _ _ _ h => h
  case hya3 => (refine Or.inl ⟨by rfl, ?_⟩; intro w' hSw; (try dsimp only at hSw); go_simp; try with_reducible rfl)
  (try simp only [Act.put, List.setIfInBounds_toArray, List.set_cons_zero, List.set_cons_succ])
  refine wpAnyT_all (l := [4, 9]) (by kernel_rfl) (by decide) ?_
  intro i hi
  simp only [List.mem_cons, List.not_mem_nil, or_false] at hi
  rcases hi with rfl | rfl
  · refine ⟨_, by (simp only [List.getElem?_toArray, List.getElem?_cons_zero, List.getElem?_cons_succ]; rfl), fun K hK => ?_⟩
    go_simp
    go_at_call 25
    refine (HRUN.out X0 hB0).mono ?_
    rintro e X2 ⟨v2, rfl, ⟨⟨sv2, cv2, rfl, h1, h2⟩, h3⟩, hb3⟩
    dsimp only at h1 h2 h3
    obtain ⟨A2, c2, rfl⟩ := ownAny_form h1
    obtain ⟨B2, d2, rfl⟩ := ownAny_form h2
    have HO : Hid (OwnG X2 X0.heap.size rs rc (.agg #[.slice A2 rs.length c2, .slice B2 rc.length d2])) := hid ⟨⟨_, _, rfl, h1, h2⟩, h3⟩
    have hB3 : Below W1.heap.size W1 X2 := hB0.trans (hb3.mono hB0.size)
    have HB3 := hid hB3
    have HX0 : Hid (W1.heap.size ≤ X0.heap.size) := hid hB0.size
    clear hHeld h1 h2 h3 hb3
    have hHeld := HK.out X2 hB3
    refine hK.out _ _ (fun _ => hHeld) ?_
    clear hK K
    refine' wpAnyT_take (i := 5) (oi := ?oib5) (v := ?vb5) ?hib5 (by kernel_rfl) (by kernel_rfl) ?hqb5 ?hyb5 hHeld ?restb5
    case hib5 => (simp only [List.getElem?_toArray, List.getElem?_cons_zero, List.getElem?_cons_succ]; rfl)
    case hqb5 => exact fun _ _ _ h => h
    case hyb5 => (refine Or.inl ⟨by rfl, ?_⟩; intro w' hSw; (try dsimp only at hSw); go_simp; try with_reducible rfl)
    (try simp only [Act.put, List.setIfInBounds_toArray, List.set_cons_zero, List.set_cons_succ])
    refine' wpAnyT_take (i := 6) (oi := ?oib6) (v := ?vb6) ?hib6 (by kernel_rfl) (by kernel_rfl) ?hqb6 ?hyb6 hHeld ?restb6
    case hib6 => (simp only [List.getElem?_toArray, List.getElem?_cons_zero, List.getElem?_cons_succ]; rfl)
    case hqb6 => exact fun _ _ _ h => h
    case hyb6 => (refine Or.inl ⟨by rfl, ?_⟩; intro w' hSw; (try dsimp only at hSw); go_simp; try with_reducible rfl)
    (try simp only [Act.put, List.setIfInBounds_toArray, List.set_cons_zero, List.set_cons_succ])
    refine' wpAnyT_take (i := 7) (oi := ?oib7) (v := ?vb7) ?hib7 (by kernel_rfl) (by kernel_rfl) ?hqb7 ?hyb7 hHeld ?restb7
    case hib7 => (simp only [List.getElem?_toArray, List.getElem?_cons_zero, List.getElem?_cons_succ]; rfl)
    case hqb7 => exact fun _ _ _ h => h
    case hyb7 => (refine Or.inl ⟨by rfl, ?_⟩; intro w' hSw; (try dsimp only at hSw); go_simp; try with_reducible rfl)
    (try simp only [Act.put, List.setIfInBounds_toArray, List.set_cons_zero, List.set_cons_succ])
    refine' wpAnyT_take (i := 8) (oi := ?oib8) (v := ?vb8) ?hib8 (by kernel_rfl) (by kernel_rfl) ?hqb8 ?hyb8 hHeld ?restb8
    case hib8 => (simp only [List.getElem?_toArray, List.getElem?_cons_zero, List.getElem?_cons_succ]; rfl)
    case hqb8 => exact fun _ _ _ h => h
    case hyb8 => (refine Or.inl ⟨by rfl, ?_⟩; intro w' hSw; (try dsimp only at hSw); go_simp; try with_reducible rfl)
    (try simp only [Act.put, List.setIfInBounds_toArray, List.set_cons_zero, List.set_cons_succ])
    refine' wpAnyT_one (i := 9) (o := ?oib9) (by kernel_rfl) ?hib9 (fun K hK => ?stb9)
    case hib9 => (simp only [List.getElem?_toArray, List.getElem?_cons_zero, List.getElem?_cons_succ]; rfl)
    go_simp
    obtain ⟨X3, hX3⟩ : ∃ X, X2.alloc (.cells #[.slice none 0 0, .slice none 0 0] 35) = X := ⟨_, rfl⟩
    obtain ⟨p, hp⟩ : ∃ p, X2.heap.size = p := ⟨_, rfl⟩
    have hb33 : Below X2.heap.size X2 X3 := by rw [← hX3]; exact al1 _ _
    have hp3 : X3.heap[p]? = some (.cells #[.slice none 0 0, .slice none 0 0] 35) := by rw [← hX3, ← hp]; exact heap_alloc_new _ _
    rw [hX3, hp]
    have hB33 : Below W1.heap.size W1 X3 := HB3.out.trans (hb33.mono HB3.out.size)
    have HP3 := hid hp3
    have HO3 := hid (HO.out.keep (B' := W1.heap.size) (keep_below hb33) (keep_below hb33) HX0.out)
    have HB33 := hid hB33
    have h1p : W1.heap.size ≤ p := by rw [← hp]; exact HB3.out.size
    have p0 := cell_of_row _ _ 0 _ _ _ hp3
    have p1 := cell_of_row _ _ 1 _ _ _ hp3
    have fp0 := box_fr hp3 0
    have fp1 := box_fr hp3 1
    clear hHeld hX3 hp hb33 hp3
    have hHeld := HK.out X3 hB33
    refine hK.out _ _ (fun _ => hHeld) ?_
    clear hK K
    (try simp only [Act.put, List.setIfInBounds_toArray, List.set_cons_zero, List.set_cons_succ])
    refine' wpAnyT_one (i := 10) (o := ?oib10) (by kernel_rfl) ?hib10 (fun K hK => ?stb10)
    case hib10 => (simp only [List.getElem?_toArray, List.getElem?_cons_zero, List.getElem?_cons_succ]; rfl)
    go_simp
    obtain ⟨X4, hX4⟩ : ∃ X, (X3.setCell ⟨p, 0, none⟩ (.slice A2 rs.length c2)).setCell ⟨p, 1, none⟩ (.slice B2 rc.length d2) = X := ⟨_, rfl⟩
    rw [hX4]
    have HP4 : Hid (X4.heap[p]? = some (.cells #[.slice A2 rs.length c2, .slice B2 rc.length d2] 35)) := hid (by rw [← hX4]; exact disk_set HP3.out _ _)
    have HO4 := hid (show OwnG X4 W1.heap.size rs rc (.agg #[.slice A2 rs.length c2, .slice B2 rc.length d2]) from by rw [← hX4]; exact HO3.out.keep (keep_two HP3.out (by decide)) (keep_two HP3.out (by decide)) (Nat.le_refl _))
    have HB4 : Hid (Below W1.heap.size W1 X4) := hid (by rw [← hX4]; exact (HB33.out.setCell h1p _).setCell h1p _)
    clear hHeld hX4 p0 p1 fp0 fp1
    have hHeld := HK.out X4 HB4.out
    refine hK.out _ _ (fun _ => hHeld) ?_
    clear hK K
    (try simp only [Act.put, List.setIfInBounds_toArray, List.set_cons_zero, List.set_cons_succ])
    refine' wpAnyT_one (i := 11) (o := ?oib11) (by kernel_rfl) ?hib11 (fun K hK => ?stb11)
    case hib11 => (simp only [List.getElem?_toArray, List.getElem?_cons_zero, List.getElem?_cons_succ]; rfl)
    go_simp
    refine hK.out _ _ (fun _ => hHeld) ?_
    clear hK K
    (try simp only [Act.put, List.setIfInBounds_toArray, List.set_cons_zero, List.set_cons_succ])
    refine' wpAnyT_one (i := 12) (o := ?oib12) (by kernel_rfl) ?hib12 (fun K hK => ?stb12)
    case hib12 => (simp only [List.getElem?_toArray, List.getElem?_cons_zero, List.getElem?_cons_succ]; rfl)
    go_simp
    refine hK.out _ _ (fun h => absurd h (by decide)) ?_
    clear hK K
    (try simp only [Act.put, List.setIfInBounds_toArray, List.set_cons_zero, List.set_cons_succ])
    refine wpAnyT_done (by kernel_rfl) ?_ _
    have HX4 := hid ((HB4.out.block _ (box_lt HX1.out)).trans HX1.out)
    have HY4 := hid ((HB4.out.block _ (box_lt HY1.out)).trans HY1.out)
    by_cases he : re = 0
    rotate_left
    · have de : (re != 0) = true := by simpa using he
      have y0 := cell_of_row _ _ 0 _ _ _ HY4.out
      have y1 := cell_of_row _ _ 1 _ _ _ HY4.out
      have f0 := box_fr HY4.out 0
      have f1 := box_fr HY4.out 1
      go_wp2_with fail
      refine bodyPost_ret (results_v2 rfl _ _ (g + 1) _ rfl (disk_load (disk_set HY4.out _ _)) _ rfl _ rfl) rfl ?_
      rw [HR.out, if_pos he]
      exact ⟨_, _, rfl, own_nil _ _, World.ownsRow_nil _ _ _ _, ((HB1.out.trans (HB4.out.mono HB1.out.size)).setCell hge1 _).setCell hge1 _⟩
    · subst he
      obtain ⟨sv9, cv9, e9, q1, q2, q3⟩ := HO4.out.dk
      injection e9 with e9
      injection e9 with e9
      injection e9 with e91 e9
      injection e9 with e92 _
      subst e91 e92
      have HCR := hid (crash_any rs rc _ _ (.slice LA M lc) l X4 q1 q2 q3 (HL.out.below (HB1.out.trans (HB4.out.mono HB1.out.size))) HLEN.out.1 HLEN.out.2 HLL.out)
      clear q1 q2 q3
      have p0 := cell_of_row _ _ 0 _ _ _ HP4.out
      have p1 := cell_of_row _ _ 1 _ _ _ HP4.out
      obtain ⟨r2, hr2⟩ : ∃ r, crashS rs rc l = r := ⟨_, rfl⟩
      rw [hr2] at HCR
      have HR2 := hid hr2
      obtain ⟨ts, tc, tl⟩ := r2
      clear hr2
      go_upto_region 7 with (go_at_call 39; refine HCR.out.mono ?_; rintro e X5 ⟨v5, u5, rfl, ⟨⟨sv5, cv5, rfl, h1, h2⟩, h3⟩, hu5, hb5⟩; dsimp only at h1 h2 h3 hu5; obtain ⟨A5, c5, rfl⟩ := ownAny_form h1; obtain ⟨B5, d5, rfl⟩ := ownAny_form h2; obtain ⟨U5, uc5, rfl⟩ := own_formE hu5; have HO5 : Hid (OwnG X5 _ ts tc (.agg #[.slice A5 ts.length c5, .slice B5 tc.length d5])) := hid ⟨⟨_, _, rfl, h1, h2⟩, h3⟩; have HU5 := hid hu5; have HB5 := hid hb5; clear h1 h2 h3 hu5 hb5)
      obtain ⟨X6, hX6⟩ : ∃ X, X5.alloc (.cells #[.slice A5 ts.length c5, .slice B5 tc.length d5] 35) = X := ⟨_, rfl⟩
      obtain ⟨h6, hh6⟩ : ∃ h, X5.heap.size = h := ⟨_, rfl⟩
      have hb6 : Below X5.heap.size X5 X6 := by rw [← hX6]; exact al1 _ _
      have hx6 : X6.heap[h6]? = some (.cells #[.slice A5 ts.length c5, .slice B5 tc.length d5] 35) := by rw [← hX6, ← hh6]; exact heap_alloc_new _ _
      have HB6 : Hid (Below W1.heap.size W1 X6) := hid (HB4.out.trans ((HB5.out.trans (hb6.mono HB5.out.size)).mono HB4.out.size))
      have HY6 := hid ((HB6.out.block _ (box_lt HY1.out)).trans HY1.out)
      have HO6 := hid (HO5.out.keep (B' := w.heap.size) (keep_below hb6) (keep_below hb6) (Nat.le_trans HB1.out.size HB4.out.size))
      have HU6 := hid (own_keep HU5.out (keep_below hb6))
      have t0 := cell_of_row _ _ 0 _ _ _ hx6
      have t1 := cell_of_row _ _ 1 _ _ _ hx6
      have y0 := cell_of_row _ _ 0 _ _ _ HY6.out
      have y1 := cell_of_row _ _ 1 _ _ _ HY6.out
      have f0 := box_fr HY6.out 0
      have f1 := box_fr HY6.out 1
      rw [hX6, hh6]
      clear hX6 hh6 hb6 hx6 p0 p1
      go_wp2_with fail
      refine bodyPost_ret (results_v2 rfl _ _ (g + 1) _ rfl (disk_load (disk_set HY6.out _ _)) _ rfl _ rfl) rfl ?_
      rw [HR.out, if_neg (by simp)]
      dsimp only
      rw [HR2.out]
      exact ⟨_, _, rfl, HO6.out.keep (keep_two HY6.out (by decide)) (keep_two HY6.out (by decide)) (Nat.le_refl _), own_base (own_keep HU6.out (keep_two HY6.out (by decide))) (Nat.le_trans HB1.out.size HB4.out.size), ((HB1.out.trans (HB6.out.mono HB1.out.size)).setCell hge1 _).setCell hge1 _⟩
  · refine ⟨_, by (simp only [List.getElem?_toArray, List.getElem?_cons_zero, List.getElem?_cons_succ]; rfl), fun K hK => ?_⟩
    go_simp
    obtain ⟨X3, hX3⟩ : ∃ X, X0.alloc (.cells #[.slice none 0 0, .slice none 0 0] 35) = X := ⟨_, rfl⟩
    obtain ⟨p, hp⟩ : ∃ p, X0.heap.size = p := ⟨_, rfl⟩
    have hb33 : Below X0.heap.size X0 X3 := by rw [← hX3]; exact al1 _ _
    have hp3 : X3.heap[p]? = some (.cells #[.slice none 0 0, .slice none 0 0] 35) := by rw [← hX3, ← hp]; exact heap_alloc_new _ _
    rw [hX3, hp]
    have hB33 : Below W1.heap.size W1 X3 := hB0.trans (hb33.mono hB0.size)
    have HP3 := hid hp3
    have HB33 := hid hB33
    have h1p : W1.heap.size ≤ p := by rw [← hp]; exact hB0.size
    clear hHeld hX3 hp hb33 hp3
    have hHeld := HK.out X3 hB33
    refine hK.out _ _ (fun _ => hHeld) ?_
    clear hK K
    (try simp only [Act.put, List.setIfInBounds_toArray, List.set_cons_zero, List.set_cons_succ])
    refine' wpAnyT_one (i := 4) (o := ?oic4) (by kernel_rfl) ?hic4 (fun K hK => ?stc4)
    case hic4 => (simp only [List.getElem?_toArray, List.getElem?_cons_zero, List.getElem?_cons_succ]; rfl)
    go_simp
    go_at_call 25
    refine (HRUN.out X3 HB33.out).mono ?_
    rintro e X5 ⟨v2, rfl, ⟨⟨sv2, cv2, rfl, h1, h2⟩, h3⟩, hb3⟩
    dsimp only at h1 h2 h3
    obtain ⟨A2, c2, rfl⟩ := ownAny_form h1
    obtain ⟨B2, d2, rfl⟩ := ownAny_form h2
    have HO : Hid (OwnG X5 X3.heap.size rs rc (.agg #[.slice A2 rs.length c2, .slice B2 rc.length d2])) := hid ⟨⟨_, _, rfl, h1, h2⟩, h3⟩
    have hB3 : Below W1.heap.size W1 X5 := HB33.out.trans (hb3.mono HB33.out.size)
    have HB3 := hid hB3
    have HX0 : Hid (W1.heap.size ≤ X3.heap.size) := hid HB33.out.size
    have HP5 := hid ((hb3.block _ (box_lt HP3.out)).trans HP3.out)
    have HO5 := hid (HO.out.keep (B' := W1.heap.size) (fun _ _ h => h) (fun _ _ h => h) HX0.out)
    have HB35 := hid hB3
    have p0 := cell_of_row _ _ 0 _ _ _ HP5.out
    have p1 := cell_of_row _ _ 1 _ _ _ HP5.out
    have fp0 := box_fr HP5.out 0
    have fp1 := box_fr HP5.out 1
    clear hHeld h1 h2 h3 hb3
    have hHeld := HK.out X5 hB3
    refine hK.out _ _ (fun _ => hHeld) ?_
    clear hK K
    refine' wpAnyT_take (i := 5) (oi := ?oic5) (v := ?vc5) ?hic5 (by kernel_rfl) (by kernel_rfl) ?hqc5 ?hyc5 hHeld ?restc5
    case hic5 => (simp only [List.getElem?_toArray, List.getElem?_cons_zero, List.getElem?_cons_succ]; rfl)
    case hqc5 => exact fun _ _ _ h => h
    case hyc5 => (refine Or.inl ⟨by rfl, ?_⟩; intro w' hSw; (try dsimp only at hSw); go_simp; try with_reducible rfl)
    (try simp only [Act.put, List.setIfInBounds_toArray, List.set_cons_zero, List.set_cons_succ])
    refine' wpAnyT_take (i := 6) (oi := ?oic6) (v := ?vc6) ?hic6 (by kernel_rfl) (by kernel_rfl) ?hqc6 ?hyc6 hHeld ?restc6
    case hic6 => (simp only [List.getElem?_toArray, List.getElem?_cons_zero, List.getElem?_cons_succ]; rfl)
    case hqc6 => exact fun _ _ _ h => h
    case hyc6 => (refine Or.inl ⟨by rfl, ?_⟩; intro w' hSw; (try dsimp only at hSw); go_simp; try with_reducible rfl)
    (try simp only [Act.put, List.setIfInBounds_toArray, List.set_cons_zero, List.set_cons_succ])
    refine' wpAnyT_take (i := 7) (oi := ?oic7) (v := ?vc7) ?hic7 (by kernel_rfl) (by kernel_rfl) ?hqc7 ?hyc7 hHeld ?restc7
    case hic7 => (simp only [List.getElem?_toArray, List.getElem?_cons_zero, List.getElem?_cons_succ]; rfl)
    case hqc7 => exact fun _ _ _ h => h
    case hyc7 => (refine Or.inl ⟨by rfl, ?_⟩; intro w' hSw; (try dsimp only at hSw); go_simp; try with_reducible rfl)
    (try simp only [Act.put, List.setIfInBounds_toArray, List.set_cons_zero, List.set_cons_succ])
    refine' wpAnyT_take (i := 8) (oi := ?oic8) (v := ?vc8) ?hic8 (by kernel_rfl) (by kernel_rfl) ?hqc8 ?hyc8 hHeld ?restc8
    case hic8 => (simp only [List.getElem?_toArray, List.getElem?_cons_zero, List.getElem?_cons_succ]; rfl)
    case hqc8 => exact fun _ _ _ h => h
    case hyc8 => (refine Or.inl ⟨by rfl, ?_⟩; intro w' hSw; (try dsimp only at hSw); go_simp; try with_reducible rfl)
    (try simp only [Act.put, List.setIfInBounds_toArray, List.set_cons_zero, List.set_cons_succ])
    refine' wpAnyT_one (i := 10) (o := ?oic10) (by kernel_rfl) ?hic10 (fun K hK => ?stc10)
    case hic10 => (simp only [List.getElem?_toArray, List.getElem?_cons_zero, List.getElem?_cons_succ]; rfl)
    go_simp
    obtain ⟨X4, hX4⟩ : ∃ X, (X5.setCell ⟨p, 0, none⟩ (.slice A2 rs.length c2)).setCell ⟨p, 1, none⟩ (.slice B2 rc.length d2) = X := ⟨_, rfl⟩
    rw [hX4]
    have HP4 : Hid (X4.heap[p]? = some (.cells #[.slice A2 rs.length c2, .slice B2 rc.length d2] 35)) := hid (by rw [← hX4]; exact disk_set HP5.out _ _)
    have HO4 := hid (show OwnG X4 W1.heap.size rs rc (.agg #[.slice A2 rs.length c2, .slice B2 rc.length d2]) from by rw [← hX4]; exact HO5.out.keep (keep_two HP5.out (by decide)) (keep_two HP5.out (by decide)) (Nat.le_refl _))
    have HB4 : Hid (Below W1.heap.size W1 X4) := hid (by rw [← hX4]; exact (HB35.out.setCell h1p _).setCell h1p _)
    clear hHeld hX4 p0 p1 fp0 fp1
    have hHeld := HK.out X4 HB4.out
    refine hK.out _ _ (fun _ => hHeld) ?_
    clear hK K
    (try simp only [Act.put, List.setIfInBounds_toArray, List.set_cons_zero, List.set_cons_succ])
    refine' wpAnyT_one (i := 11) (o := ?oic11) (by kernel_rfl) ?hic11 (fun K hK => ?stc11)
    case hic11 => (simp only [List.getElem?_toArray, List.getElem?_cons_zero, List.getElem?_cons_succ]; rfl)
    go_simp
    refine hK.out _ _ (fun _ => hHeld) ?_
    clear hK K
    (try simp only [Act.put, List.setIfInBounds_toArray, List.set_cons_zero, List.set_cons_succ])
    refine' wpAnyT_one (i := 12) (o := ?oic12) (by kernel_rfl) ?hic12 (fun K hK => ?stc12)
    case hic12 => (simp only [List.getElem?_toArray, List.getElem?_cons_zero, List.getElem?_cons_succ]; rfl)
    go_simp
    refine hK.out _ _ (fun h => absurd h (by decide)) ?_
    clear hK K
    (try simp only [Act.put, List.setIfInBounds_toArray, List.set_cons_zero, List.set_cons_succ])
    refine wpAnyT_done (by kernel_rfl) ?_ _
    have HX4 := hid ((HB4.out.block _ (box_lt HX1.out)).trans HX1.out)
    have HY4 := hid ((HB4.out.block _ (box_lt HY1.out)).trans HY1.out)
    by_cases he : re = 0
    rotate_left
    · have de : (re != 0) = true := by simpa using he
      have y0 := cell_of_row _ _ 0 _ _ _ HY4.out
      have y1 := cell_of_row _ _ 1 _ _ _ HY4.out
      have f0 := box_fr HY4.out 0
      have f1 := box_fr HY4.out 1
      go_wp2_with fail
      refine bodyPost_ret (results_v2 rfl _ _ (g + 1) _ rfl (disk_load (disk_set HY4.out _ _)) _ rfl _ rfl) rfl ?_
      rw [HR.out, if_pos he]
      exact ⟨_, _, rfl, own_nil _ _, World.ownsRow_nil _ _ _ _, ((HB1.out.trans (HB4.out.mono HB1.out.size)).setCell hge1 _).setCell hge1 _⟩
    · subst he
      obtain ⟨sv9, cv9, e9, q1, q2, q3⟩ := HO4.out.dk
      injection e9 with e9
      injection e9 with e9
      injection e9 with e91 e9
      injection e9 with e92 _
      subst e91 e92
      have HCR := hid (crash_any rs rc _ _ (.slice LA M lc) l X4 q1 q2 q3 (HL.out.below (HB1.out.trans (HB4.out.mono HB1.out.size))) HLEN.out.1 HLEN.out.2 HLL.out)
      clear q1 q2 q3
      have p0 := cell_of_row _ _ 0 _ _ _ HP4.out
      have p1 := cell_of_row _ _ 1 _ _ _ HP4.out
      obtain ⟨r2, hr2⟩ : ∃ r, crashS rs rc l = r := ⟨_, rfl⟩
      rw [hr2] at HCR
      have HR2 := hid hr2
      obtain ⟨ts, tc, tl⟩ := r2
      clear hr2
      go_upto_region 7 with (go_at_call 39; refine HCR.out.mono ?_; rintro e X5 ⟨v5, u5, rfl, ⟨⟨sv5, cv5, rfl, h1, h2⟩, h3⟩, hu5, hb5⟩; dsimp only at h1 h2 h3 hu5; obtain ⟨A5, c5, rfl⟩ := ownAny_form h1; obtain ⟨B5, d5, rfl⟩ := ownAny_form h2; obtain ⟨U5, uc5, rfl⟩ := own_formE hu5; have HO5 : Hid (OwnG X5 _ ts tc (.agg #[.slice A5 ts.length c5, .slice B5 tc.length d5])) := hid ⟨⟨_, _, rfl, h1, h2⟩, h3⟩; have HU5 := hid hu5; have HB5 := hid hb5; clear h1 h2 h3 hu5 hb5)
      obtain ⟨X6, hX6⟩ : ∃ X, X5.alloc (.cells #[.slice A5 ts.length c5, .slice B5 tc.length d5] 35) = X := ⟨_, rfl⟩
      obtain ⟨h6, hh6⟩ : ∃ h, X5.heap.size = h := ⟨_, rfl⟩
      have hb6 : Below X5.heap.size X5 X6 := by rw [← hX6]; exact al1 _ _
      have hx6 : X6.heap[h6]? = some (.cells #[.slice A5 ts.length c5, .slice B5 tc.length d5] 35) := by rw [← hX6, ← hh6]; exact heap_alloc_new _ _
      have HB6 : Hid (Below W1.heap.size W1 X6) := hid (HB4.out.trans ((HB5.out.trans (hb6.mono HB5.out.size)).mono HB4.out.size))
      have HY6 := hid ((HB6.out.block _ (box_lt HY1.out)).trans HY1.out)
      have HO6 := hid (HO5.out.keep (B' := w.heap.size) (keep_below hb6) (keep_below hb6) (Nat.le_trans HB1.out.size HB4.out.size))
      have HU6 := hid (own_keep HU5.out (keep_below hb6))
      have t0 := cell_of_row _ _ 0 _ _ _ hx6
      have t1 := cell_of_row _ _ 1 _ _ _ hx6
      have y0 := cell_of_row _ _ 0 _ _ _ HY6.out
      have y1 := cell_of_row _ _ 1 _ _ _ HY6.out
      have f0 := box_fr HY6.out 0
      have f1 := box_fr HY6.out 1
      rw [hX6, hh6]
      clear hX6 hh6 hb6 hx6 p0 p1
      go_wp2_with fail
      refine bodyPost_ret (results_v2 rfl _ _ (g + 1) _ rfl (disk_load (disk_set HY6.out _ _)) _ rfl _ rfl) rfl ?_
      rw [HR.out, if_neg (by simp)]
      dsimp only
      rw [HR2.out]
      exact ⟨_, _, rfl, HO6.out.keep (keep_two HY6.out (by decide)) (keep_two HY6.out (by decide)) (Nat.le_refl _), own_base (own_keep HU6.out (keep_two HY6.out (by decide))) (Nat.le_trans HB1.out.size HB4.out.size), ((HB1.out.trans (HB6.out.mono HB1.out.size)).setCell hge1 _).setCell hge1 _⟩
end Go.Proofs.Ytnocgfhcamnjdaa
