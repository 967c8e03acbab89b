/- The reference's Copy and Newest. -/
import Derived.Test.YtoefbgkeinhibaaE
namespace Go.Proofs.Ytoefbgkeinhibaa
open Go.RowKit Go.Lib

set_option maxHeartbeats 4000000 in
set_option maxRecDepth 100000 in
theorem refCopy_any (st : List Sect) (ca : List Ca) (sv cv : Value) (w : World) (hs : Sec w sv st) (hsn : NilOk sv) (hc : Cas w cv ca) (hl : st.length ≤ 1000000) (hl2 : ca.length ≤ 1000000) :
    Calls Try.prog 42 #[.agg #[sv, cv]] w (DiskQ w st ca) := by
  obtain ⟨A, c, rfl⟩ := sec_form hs
  obtain ⟨B, d, rfl⟩ := cas_form hc
  obtain ⟨n, hn⟩ : ∃ n, st.length = n := ⟨_, rfl⟩
  obtain ⟨m, hm⟩ : ∃ n, ca.length = n := ⟨_, rfl⟩
  rw [hn] at hs hsn hl ⊢
  rw [hm] at hc hl2 ⊢
  obtain ⟨g, hg⟩ : ∃ g, w.heap.size = g := ⟨_, rfl⟩
  obtain ⟨W0, hW0⟩ : ∃ X, (w.alloc (.cells #[.slice A n c, .slice B m d] 25)).alloc (.cells #[.slice none 0 0, .slice none 0 0] 25) = X := ⟨_, rfl⟩
  have hb0 : Below w.heap.size w W0 := by rw [← hW0]; exact ((Below.refl _ w).alloc (Nat.le_refl _) _).alloc (by simp) _
  have hz0 : W0.heap.size = g + 2 := by rw [← hW0, ← hg]; simp
  have hx0 : W0.heap[g]? = some (.cells #[.slice A n c, .slice B m d] 25) := by rw [← hW0, ← hg]; exact (Below.heap_alloc _ _ _ (by simp)).trans (heap_alloc_new w _)
  have hy0 : W0.heap[g + 1]? = some (.cells #[.slice none 0 0, .slice none 0 0] 25) := by rw [← hW0, ← hg]; simpa using heap_alloc_new (w.alloc (.cells #[.slice A n c, .slice B m d] 25)) (.cells #[.slice none 0 0, .slice none 0 0] 25)
  obtain ⟨W1, hW1⟩ : ∃ X, W0.alloc (.cells #[.slice none 0 0, .slice none 0 0] 25) = X := ⟨_, rfl⟩
  have hb01 : Below W0.heap.size W0 W1 := by rw [← hW1]; exact al1 _ _
  have hb1 : Below w.heap.size w W1 := hb0.trans (hb01.mono hb0.size)
  have hx1 := (hb01.block _ (box_lt hx0)).trans hx0
  have hy1 := (hb01.block _ (box_lt hy0)).trans hy0
  have hz1 : W1.heap[g + 2]? = some (.cells #[.slice none 0 0, .slice none 0 0] 25) := by rw [← hW1, ← hz0]; exact heap_alloc_new _ _
  have hs1 : W1.heap.size = g + 3 := by rw [← hW1]; simp [hz0]
  have hge : w.heap.size ≤ g := Nat.le_of_eq hg
  have HS := hid hs
  have HSN := hid hsn
  have HC := hid (hc.below hb1)
  have HS1 := hid (hs.below hb1)
  have HC0 := hid hc
  have HN := hid hn
  have HM := hid hm
  have HB1 := hid hb1
  have HX1 := hid hx1
  have HY1 := hid hy1
  have HZ1 := hid hz1
  have HW0 := hid hW0
  have HZ0 := hid hz0
  have HW1 := hid hW1
  have HG := hid hg
  have HL1 := hid hs1
  have x0 := cell_of_row _ _ 0 _ _ _ hx1
  have z0 := cell_of_row _ _ 0 _ _ _ hz1
  clear hs hsn hc hn hm hb0 hx0 hy0 hb01 hb1 hx1 hy1 hz1 hW0 hW1 hg hz0 hs1
  go_enter Try.func42, Try.ntmps42
  go_upto_region 1 with fail
  rw [HW0.out, HG.out]
  go_upto_region 2 with fail
  rw [HW1.out, HZ0.out]
  obtain ⟨D, hD⟩ : ∃ D, W1.heap.size = D := ⟨_, rfl⟩
  have hgD : g + 3 = D := by rw [← hD]; exact HL1.out.symm
  have ha1 : 0 + st.length ≤ 1000000000 := by rw [HN.out]; omega
  have hDD := Nat.le_of_eq hD.symm
  go_upto_region 3 with (at_builtin; refine append_sec rfl (.tmp 5) (.tmp 7) rfl D (.slice none 0 0) 0 [] rfl (World.ownsRow_nil _ _ _ _) st _ rfl HS1.out HSN.out ha1 hDD ?_; intro v2 w2 ho2 hg2; rw [Nat.zero_add, HN.out] at ho2; obtain ⟨A1, c1, rfl⟩ := ownAny_form ho2; have HO2 := hid ho2; have HB2 := hid (below_own (Below.refl W1.heap.size W1) (World.ownsRow_nil W1 D 73 8) hg2 (Nat.le_refl _) (Nat.le_of_eq hD)); have hz2 := (HB2.out.block _ (box_lt HZ1.out)).trans HZ1.out; have z0' := cell_of_row _ _ 0 _ _ _ hz2; have fz0 := box_fr hz2 0; have HZ2 := hid hz2; clear ho2 hg2 hz2)
  obtain ⟨W3, hW3⟩ : ∃ X, w2.setCell ⟨g + 2, 0, none⟩ (.slice A1 n c1) = X := ⟨_, rfl⟩
  rw [hW3]
  have HZ3 : Hid (W3.heap[g + 2]? = some (.cells #[.slice A1 n c1, .slice none 0 0] 25)) := hid (by
    rw [← hW3]
    exact box_set (cs := [.slice none 0 0, .slice none 0 0]) HZ2.out 0 _)
  have HX3 : Hid (W3.heap[g]? = some (.cells #[.slice A n c, .slice B m d] 25)) := hid (by
    rw [← hW3]
    exact (Below.heap_setCell _ _ _ _ (show g ≠ g + 2 by omega)).trans ((HB2.out.block _ (box_lt HX1.out)).trans HX1.out))
  have HY3 : Hid (W3.heap[g + 1]? = some (.cells #[.slice none 0 0, .slice none 0 0] 25)) := hid (by
    rw [← hW3]
    exact (Below.heap_setCell _ _ _ _ (show g + 1 ≠ g + 2 by omega)).trans ((HB2.out.block _ (box_lt HY1.out)).trans HY1.out))
  have HB3 : Hid (Below w.heap.size w W3) := hid (by rw [← hW3]; exact (HB1.out.trans (HB2.out.mono HB1.out.size)).setCell (show w.heap.size ≤ g + 2 by omega) _)
  have HO3 := hid (show W3.ownsRow D 73 8 (.slice A1 n c1) n _ by rw [← hW3]; exact own_keep HO2.out (keep_box HZ2.out (by decide) _ _))
  have HC3 := hid (HC0.out.below HB3.out)
  have HSZ3 : Hid (D ≤ W3.heap.size) := hid (by rw [← hW3]; have h5 := HB2.out.size; simp [World.setCell]; omega)
  have z1 := cell_of_row _ _ 1 _ _ _ HZ3.out
  have x1 := cell_of_row _ _ 1 _ _ _ HX3.out
  obtain ⟨D2, hD2⟩ : ∃ D, W3.heap.size = D := ⟨_, rfl⟩
  have ha2 : 0 + ca.length ≤ 1000000000 := by rw [HM.out]; omega
  have hDD2 := Nat.le_of_eq hD2.symm
  clear hW3 z0' fz0 x0 z0 ha1 hDD
  go_upto_region 4 with (at_builtin; refine append_cas rfl (.tmp 11) (.tmp 13) rfl D2 (.slice none 0 0) 0 [] rfl (World.ownsRow_nil _ _ _ _) ca _ rfl HC3.out ha2 hDD2 ?_; intro v4 w4 ho4 hg4; rw [Nat.zero_add, HM.out] at ho4; obtain ⟨A2, c2, rfl⟩ := ownAny_form ho4; have HO4 := hid ho4; have HB4 := hid (below_own (Below.refl W3.heap.size W3) (World.ownsRow_nil W3 D2 77 9) hg4 (Nat.le_refl _) (Nat.le_of_eq hD2)); have hz4 := (HB4.out.block _ (box_lt HZ3.out)).trans HZ3.out; have z1' := cell_of_row _ _ 1 _ _ _ hz4; have fz1 := box_fr hz4 1; have HZ4 := hid hz4; clear ho4 hg4 hz4)
  obtain ⟨W5, hW5⟩ : ∃ X, w4.setCell ⟨g + 2, 1, none⟩ (.slice A2 m c2) = X := ⟨_, rfl⟩
  rw [hW5]
  have HZ5 : Hid (W5.heap[g + 2]? = some (.cells #[.slice A1 n c1, .slice A2 m c2] 25)) := hid (by
    rw [← hW5]
    exact box_set (cs := [.slice A1 n c1, .slice none 0 0]) HZ4.out 1 _)
  have HY5 : Hid (W5.heap[g + 1]? = some (.cells #[.slice none 0 0, .slice none 0 0] 25)) := hid (by
    rw [← hW5]
    exact (Below.heap_setCell _ _ _ _ (show g + 1 ≠ g + 2 by omega)).trans ((HB4.out.block _ (box_lt HY3.out)).trans HY3.out))
  have HB5 : Hid (Below w.heap.size w W5) := hid (by rw [← hW5]; exact (HB3.out.trans (HB4.out.mono HB3.out.size)).setCell (show w.heap.size ≤ g + 2 by omega) _)
  have HO5 := hid (show W5.ownsRow D 73 8 (.slice A1 n c1) n _ by rw [← hW5]; exact own_keep (own_keep HO3.out (keep_below HB4.out)) (keep_box HZ4.out (by decide) _ _))
  have HP5 := hid (show W5.ownsRow D2 77 9 (.slice A2 m c2) m _ by rw [← hW5]; exact own_keep HO4.out (keep_box HZ4.out (by decide) _ _))
  have y0 := cell_of_row _ _ 0 _ _ _ HY5.out
  have y1 := cell_of_row _ _ 1 _ _ _ HY5.out
  have fy0 := box_fr HY5.out 0
  have fy1 := box_fr HY5.out 1
  have u0 := cell_of_row _ _ 0 _ _ _ HZ5.out
  have u1 := cell_of_row _ _ 1 _ _ _ HZ5.out
  have hDw : w.heap.size ≤ D ∧ w.heap.size ≤ D2 := by have := HSZ3.out; omega
  clear hW5 z1' fz1 x1 z1 ha2 hDD2
  go_wp2_with fail
  have hy5' := box_set (cs := [.slice none 0 0, .slice none 0 0]) HY5.out 0 (.slice A1 n c1)
  refine bodyPost_ret (results_cell_row rfl _ _ (g + 1) 25 #[.slice A1 n c1, .slice A2 m c2] (0, 0) _ rfl (box_set (cs := [.slice A1 n c1, .slice none 0 0]) hy5' 1 _) Try.underlying25 rfl rfl) rfl ?_
  have hkp : ∀ T, T ≠ 25 → Keep T W5 ((W5.setCell ⟨g + 1, 0, none⟩ (.slice A1 n c1)).setCell ⟨g + 1, 1, none⟩ (.slice A2 m c2)) := fun T hT => (keep_box HY5.out hT _ _).trans (keep_box hy5' hT _ _)
  refine ⟨_, rfl, ⟨_, _, rfl, ?_, ?_⟩, (HB5.out.setCell (show w.heap.size ≤ g + 1 by omega) _).setCell (show w.heap.size ≤ g + 1 by omega) _⟩
  · rw [HN.out]
    have h := own_base (own_keep HO5.out (hkp 73 (by decide))) hDw.1
    simpa using h
  · rw [HM.out]
    have h := own_base (own_keep HP5.out (hkp 77 (by decide))) hDw.2
    simpa using h
/-- What is newest on a disk. -/
def newL (st : List Sect) (ca : List Ca) : List Sect := ca.foldl (fun l x => l.set x.1.toNat x.2) st
theorem newL_len (st : List Sect) (ca : List Ca) : (newL st ca).length = st.length := by
  induction ca generalizing st with
  | nil => rfl
  | cons x r ih => unfold newL at ih ⊢; rw [List.foldl_cons, ih, List.length_set]
theorem newL_snoc (st : List Sect) (ca : List Ca) (x : Ca) : newL st (ca ++ [x]) = (newL st ca).set x.1.toNat x.2 := by unfold newL; rw [List.foldl_append]; rfl
theorem newL_secs {st : List Sect} {ca : List Ca} (h : Secs st) (hc : ∀ x ∈ ca, x.2.length = 8 ∧ B8 x.2) : Secs (newL st ca) := by
  induction ca generalizing st with
  | nil => exact h
  | cons x r ih =>
    unfold newL at ih ⊢
    rw [List.foldl_cons]
    refine ih (fun s hs => ?_) (fun y hy => hc y (List.mem_cons_of_mem _ hy))
    rcases List.mem_or_eq_of_mem_set hs with h1 | rfl
    · exact h s h1
    · exact hc x (List.mem_cons_self ..)
theorem spl_one (l : List Sect) (i : Nat) (s : Sect) (h : i < l.length) : spl l i [s] = l.set i s := by
  unfold spl
  rw [List.set_eq_take_append_cons_drop, if_pos h]
  simp
theorem step_store_run {P : Program} {ops : Array Oper} {o : Oper} {a : Act} {w : World} {K : Act → World → Prop} {Q : Exit → Act → World → Prop} {E : Prop} (hgd : o.guard = none) (ty : TypeId) (x y : Operand) (ho : o.op = .store ty x y) (u v : Value) (hx : a.eval x = u) (hy : a.eval y = v) {w' : World} (hr : (Instr.storeAt ty u v).run P w = .ok () w')
    (h : K (a.put o.dst undef) w') : if Region.wanted o (yielded ops a.tmps) = true then Oper.wp P o a w K Q else E := by
  have hw : Region.wanted o (yielded ops a.tmps) = true := by simp [Region.wanted, hgd]
  rw [if_pos hw]
  unfold Oper.wp execOp
  simp only [ho, hx, hy, hr, Result.andThen_ok, Sem.run_bind, Sem.run_pure]
  exact h
end Go.Proofs.Ytoefbgkeinhibaa
