/- Write and Sync. -/
import Derived.Test.YtoefbgkeinhibaaO
namespace Go.Proofs.Ytoefbgkeinhibaa
open Go.RowKit Go.Lib

/-- What a write leaves. -/
def wrS (st : List Sect) (ca : List Ca) (at_ : Int) (l : List Sect) : Int × Int × List Sect × List Ca := if chkD st.length ca = 0 then (if insB st.length at_ l.length = true then (1, 0, st, ca ++ putL at_ l) else (0, 2, [], [])) else (0, 2, [], [])
theorem wr_run (st : List Sect) (ca : List Ca) (at_ : Int) (d : Value) (l : List Sect) : runS st ca [⟨0, at_, d, l⟩] = wrS st ca at_ l := by
  unfold runS wrS
  split
  · split
    · rename_i h
      rw [exec_put rfl h]
      rfl
    · rename_i h
      rw [exec_out rfl (by simpa using h)]
      rfl
  · rfl
def WrQ (w : World) (r : Int × Int × List Sect × List Ca) (e : Ending) (w' : World) : Prop := ∃ v, e = .returned (.tuple #[v, .int .i64 r.2.1]) ∧ OwnG w' w.heap.size r.2.2.1 r.2.2.2 v ∧ Below w.heap.size w w'
/-- What a sync makes of a disk. -/
def syncS (st : List Sect) (ca : List Ca) : List Sect × List Ca := if chkD st.length ca = 0 then (newL st ca, []) else (st, ca)
def SyQ (w : World) (r : List Sect × List Ca) (e : Ending) (w' : World) : Prop := ∃ v, e = .returned v ∧ OwnG w' w.heap.size r.1 r.2 v ∧ Below w.heap.size w w'
theorem sync_run (st : List Sect) (ca : List Ca) (d : Value) : runS st ca [⟨1, 0, d, []⟩] = if chkD st.length ca = 0 then (1, 0, newL st ca, []) else (0, 2, [], []) := by
  unfold runS
  split
  · rw [exec_sync rfl]
    rfl
  · rfl
theorem sync_ok {st : List Sect} {ca : List Ca} {d : Value} {n : Int} {r : List Sect × List Ca} (h : runS st ca [⟨1, 0, d, []⟩] = (n, 0, r)) : r = syncS st ca := by
  rw [sync_run] at h
  unfold syncS
  split
  · rename_i h0
    rw [if_pos h0] at h
    injection h with _ h
    injection h with _ h
    exact h.symm
  · rename_i h0
    rw [if_neg h0] at h
    injection h with _ h
    injection h with h _
    cases h
theorem sync_no {st : List Sect} {ca : List Ca} {d : Value} {n e : Int} {r : List Sect × List Ca} (h : runS st ca [⟨1, 0, d, []⟩] = (n, e, r)) (he : e ≠ 0) : syncS st ca = (st, ca) := by
  rw [sync_run] at h
  unfold syncS
  split
  · rename_i h0
    rw [if_pos h0] at h
    injection h with _ h
    injection h with h _
    exact absurd h.symm he
  · rfl
set_option maxHeartbeats 8000000 in
set_option maxRecDepth 100000 in
theorem write_any (st : List Sect) (ca : List Ca) (sv cv : Value) (at_ : Int) (dv : Value) (l : List Sect) (w : World) (hs : Sec w sv st) (hsn : NilOk sv) (hc : Cas w cv ca) (hd : Sec w dv l) (hdn : NilOk dv) (hr : R64 at_) (hca : ca.length + l.length ≤ 500000) :
    Calls Try.prog 14 #[.agg #[sv, cv], .int .i64 at_, dv] w (WrQ w (wrS st ca at_ l)) := by
  obtain ⟨A, c, rfl⟩ := sec_form hs
  obtain ⟨B, d, rfl⟩ := cas_form hc
  obtain ⟨D, dc, rfl⟩ := sec_form hd
  obtain ⟨g, hg⟩ : ∃ g, w.heap.size = g := ⟨_, rfl⟩
  obtain ⟨W1, hW1⟩ : ∃ X, (w.alloc (.cells #[.slice A st.length c, .slice B ca.length d] 25)).alloc (.cells #[.slice none 0 0, .slice none 0 0] 25) = X := ⟨_, rfl⟩
  have hb1 : Below w.heap.size w W1 := by rw [← hW1]; exact ((Below.refl _ w).alloc (Nat.le_refl _) _).alloc (by simp) _
  have hx1 : W1.heap[g]? = some (.cells #[.slice A st.length c, .slice B ca.length d] 25) := by rw [← hW1, ← hg]; exact (Below.heap_alloc _ _ _ (by simp)).trans (heap_alloc_new w _)
  have hy1 : W1.heap[g + 1]? = some (.cells #[.slice none 0 0, .slice none 0 0] 25) := by rw [← hW1, ← hg]; simpa using heap_alloc_new (w.alloc (.cells #[.slice A st.length c, .slice B ca.length d] 25)) (.cells #[.slice none 0 0, .slice none 0 0] 25)
  have hge : w.heap.size ≤ g := Nat.le_of_eq hg
  have hge1 : w.heap.size ≤ g + 1 := by omega
  have hbA : Below W1.heap.size W1 (W1.alloc (.cells #[.int .i64 0, .int .i64 at_, .slice D l.length dc] 27)) := al1 _ _
  have hOPS : OpsA (W1.alloc (.cells #[.int .i64 0, .int .i64 at_, .slice D l.length dc] 27)) (.slice (some ⟨W1.heap.size, 0, none⟩) 1 1) [⟨0, at_, .slice D l.length dc, l⟩] := by
    refine ⟨?_, ?_⟩
    · intro x hx
      rw [List.mem_singleton] at hx
      subst hx
      exact ⟨hd.below (hb1.trans (hbA.mono hb1.size)), hdn, (⟨by decide, by decide⟩ : R64 0), hr⟩
    · refine ⟨some ⟨W1.heap.size, 0, none⟩, 1, rfl, Nat.le_refl _, by unfold maxLen; omega, W1.heap.size, 0, fun _ => ⟨rfl, by simp⟩, fun i r hi j u hj => ?_⟩
      obtain rfl : i = 0 := by have := (List.getElem?_eq_some_iff.1 hi).1; simpa using this
      simp only [List.map_cons, List.map_nil, List.getElem?_cons_zero, Option.some.injEq] at hi
      subst hi
      rw [cell_of_row _ _ _ _ _ _ (heap_alloc_new _ _), Nat.zero_mul, Nat.zero_add]
      simpa [cOp] using hj
  have HRUN : Hid (Calls Try.prog 29 #[.agg #[.slice A st.length c, .slice B ca.length d], .slice (some ⟨W1.heap.size, 0, none⟩) 1 1] (W1.alloc (.cells #[.int .i64 0, .int .i64 at_, .slice D l.length dc] 27)) (RunQ _ (runS st ca [⟨0, at_, .slice D l.length dc, l⟩]))) := hid (run_any st ca _ _ _ _ _ (hs.below (hb1.trans (hbA.mono hb1.size))) hsn (hc.below (hb1.trans (hbA.mono hb1.size))) hOPS (by unfold tot tot; dsimp only; omega))
  have HX1 := hid hx1
  have HY1 := hid hy1
  have HB1 := hid (hb1.trans (hbA.mono hb1.size))
  have HBA := hid hbA
  have HW1 := hid hW1
  have HG := hid hg
  have HS := hid hs
  have HSN := hid hsn
  have HC := hid hc
  have HSC : Hid (Secs st ∧ CasL ca) := hid ⟨hs.1, hc.1⟩
  obtain ⟨n, hn⟩ : ∃ n, st.length = n := ⟨_, rfl⟩
  obtain ⟨m, hm⟩ : ∃ n, ca.length = n := ⟨_, rfl⟩
  have HN := hid hn
  have HM := hid hm
  rw [hn, hm] at HX1 HW1 HRUN
  rw [hn] at HS HSN
  rw [hm] at HC
  rw [hn, hm]
  obtain ⟨r, hr⟩ : ∃ r, runS st ca [⟨0, at_, .slice D l.length dc, l⟩] = r := ⟨_, rfl⟩
  rw [hr] at HRUN
  have HR := hid hr
  have x0 := cell_of_row _ _ 0 _ _ _ HX1.out
  have x1 := cell_of_row _ _ 1 _ _ _ HX1.out
  clear hs hc hsn hb1 hx1 hy1 hW1 hg hbA hOPS hn hm hr
  obtain ⟨rn, re, rs, rc⟩ := r
  go_enter Try.func14, Try.ntmps14
  go_upto_region 1 with fail
  rw [HW1.out, HG.out]
  go_upto_region 2 with (go_at_call 29; refine HRUN.out.mono ?_; rintro e X2 ⟨v2, rfl, ⟨⟨sv2, cv2, rfl, h1, h2⟩, h3⟩, hb3⟩; dsimp only at h1 h2 h3; obtain ⟨A2, c2, rfl⟩ := ownAny_form h1; obtain ⟨B2, d2, rfl⟩ := ownAny_form h2; have HO : Hid (OwnG X2 _ rs rc _) := hid ⟨⟨_, _, rfl, h1, h2⟩, h3⟩; have HB3 := hid hb3; clear h1 h2 h3 hb3)
  obtain ⟨W4, hW4⟩ : ∃ X, X2.alloc (.cells #[.slice A2 rs.length c2, .slice B2 rc.length d2] 25) = X := ⟨_, rfl⟩
  obtain ⟨p, hp⟩ : ∃ p, X2.heap.size = p := ⟨_, rfl⟩
  have hb4 : Below X2.heap.size X2 W4 := by rw [← hW4]; exact al1 _ _
  have hx4 : W4.heap[p]? = some (.cells #[.slice A2 rs.length c2, .slice B2 rc.length d2] 25) := by rw [← hW4, ← hp]; exact heap_alloc_new _ _
  have HO4 := hid (HO.out.keep (keep_below hb4) (keep_below hb4) (Nat.le_trans HB1.out.size (Nat.le_refl _)))
  have HBX := hid (HBA.out.trans (HB3.out.mono HBA.out.size))
  have HBY := hid (HBX.out.trans (hb4.mono HBX.out.size))
  have HB4 : Hid (Below w.heap.size w W4) := hid (HB1.out.trans ((HB3.out.trans (hb4.mono HB3.out.size)).mono HB1.out.size))
  have HXW : Hid (W4.heap[g]? = some (.cells #[.slice A n c, .slice B m d] 25)) := hid ((HBY.out.block _ (box_lt HX1.out)).trans HX1.out)
  have HYW := hid ((HBY.out.block _ (box_lt HY1.out)).trans HY1.out)
  have y0 := cell_of_row _ _ 0 _ _ _ HYW.out
  have y1 := cell_of_row _ _ 1 _ _ _ HYW.out
  have f0 := box_fr HYW.out 0
  have f1 := box_fr HYW.out 1
  have q0 := cell_of_row _ _ 0 _ _ _ hx4
  have q1 := cell_of_row _ _ 1 _ _ _ hx4
  have HX4 := hid hx4
  rw [hW4, hp]
  clear hW4 hp hb4 hx4 x0 x1
  go_wp2_with fail
  refine bodyPost_ret (results_v1 rfl _ _ (g + 1) _ rfl (disk_load (disk_set HYW.out _ _)) _ rfl) rfl ?_
  rw [show wrS st ca at_ l = (rn, re, rs, rc) from (wr_run _ _ _ _ _).symm.trans HR.out]
  exact ⟨_, rfl, HO4.out.keep (keep_two HYW.out (by decide)) (keep_two HYW.out (by decide)) (Nat.le_refl _), (HB4.out.setCell hge1 _).setCell hge1 _⟩
set_option maxHeartbeats 8000000 in
set_option maxRecDepth 100000 in
theorem sync_any (st : List Sect) (ca : List Ca) (sv cv : Value) (w : World) (hs : Sec w sv st) (hsn : NilOk sv) (hc : Cas w cv ca) (hst : st.length ≤ 1000000) (hca : ca.length ≤ 500000) :
    Calls Try.prog 24 #[.agg #[sv, cv]] w (SyQ w (syncS st ca)) := by
  obtain ⟨A, c, rfl⟩ := sec_form hs
  obtain ⟨B, d, rfl⟩ := cas_form hc
  obtain ⟨g, hg⟩ : ∃ g, w.heap.size = g := ⟨_, rfl⟩
  obtain ⟨W1, hW1⟩ : ∃ X, (w.alloc (.cells #[.slice A st.length c, .slice B ca.length d] 25)).alloc (.cells #[.slice none 0 0, .slice none 0 0] 25) = X := ⟨_, rfl⟩
  have hb1 : Below w.heap.size w W1 := by rw [← hW1]; exact ((Below.refl _ w).alloc (Nat.le_refl _) _).alloc (by simp) _
  have hx1 : W1.heap[g]? = some (.cells #[.slice A st.length c, .slice B ca.length d] 25) := by rw [← hW1, ← hg]; exact (Below.heap_alloc _ _ _ (by simp)).trans (heap_alloc_new w _)
  have hy1 : W1.heap[g + 1]? = some (.cells #[.slice none 0 0, .slice none 0 0] 25) := by rw [← hW1, ← hg]; simpa using heap_alloc_new (w.alloc (.cells #[.slice A st.length c, .slice B ca.length d] 25)) (.cells #[.slice none 0 0, .slice none 0 0] 25)
  have hge : w.heap.size ≤ g := Nat.le_of_eq hg
  have hge1 : w.heap.size ≤ g + 1 := by omega
  have hbA : Below W1.heap.size W1 (W1.alloc (.cells #[.int .i64 1, .int .i64 0, .slice none 0 0] 27)) := al1 _ _
  have hOPS : OpsA (W1.alloc (.cells #[.int .i64 1, .int .i64 0, .slice none 0 0] 27)) (.slice (some ⟨W1.heap.size, 0, none⟩) 1 1) [⟨1, 0, .slice none 0 0, []⟩] := by
    refine ⟨?_, ?_⟩
    · intro x hx
      rw [List.mem_singleton] at hx
      subst hx
      exact ⟨⟨(fun s (hs : s ∈ []) => by cases hs), arr_nil _ _⟩, nilOk_nil, (⟨by decide, by decide⟩ : R64 1), (⟨by decide, by decide⟩ : R64 0)⟩
    · refine ⟨some ⟨W1.heap.size, 0, none⟩, 1, rfl, Nat.le_refl _, by unfold maxLen; omega, W1.heap.size, 0, fun _ => ⟨rfl, by simp⟩, fun i r hi j u hj => ?_⟩
      obtain rfl : i = 0 := by have := (List.getElem?_eq_some_iff.1 hi).1; simpa using this
      simp only [List.map_cons, List.map_nil, List.getElem?_cons_zero, Option.some.injEq] at hi
      subst hi
      rw [cell_of_row _ _ _ _ _ _ (heap_alloc_new _ _), Nat.zero_mul, Nat.zero_add]
      simpa [cOp] using hj
  have HRUN : Hid (Calls Try.prog 29 #[.agg #[.slice A st.length c, .slice B ca.length d], .slice (some ⟨W1.heap.size, 0, none⟩) 1 1] (W1.alloc (.cells #[.int .i64 1, .int .i64 0, .slice none 0 0] 27)) (RunQ _ (runS st ca [⟨1, 0, .slice none 0 0, []⟩]))) := hid (run_any st ca _ _ _ _ _ (hs.below (hb1.trans (hbA.mono hb1.size))) hsn (hc.below (hb1.trans (hbA.mono hb1.size))) hOPS (by unfold tot tot; simp only [List.length_nil]; omega))
  have HX1 := hid hx1
  have HY1 := hid hy1
  have HB1 := hid (hb1.trans (hbA.mono hb1.size))
  have HBA := hid hbA
  have HW1 := hid hW1
  have HG := hid hg
  have HS := hid hs
  have HSN := hid hsn
  have HC := hid hc
  have HBND : Hid (st.length ≤ 1000000 ∧ ca.length ≤ 500000) := hid ⟨hst, hca⟩
  have HSC : Hid (Secs st ∧ CasL ca) := hid ⟨hs.1, hc.1⟩
  obtain ⟨n, hn⟩ : ∃ n, st.length = n := ⟨_, rfl⟩
  obtain ⟨m, hm⟩ : ∃ n, ca.length = n := ⟨_, rfl⟩
  have HN := hid hn
  have HM := hid hm
  rw [hn, hm] at HX1 HW1 HRUN
  rw [hn] at HS HSN
  rw [hm] at HC
  rw [hn, hm]
  obtain ⟨r, hr⟩ : ∃ r, runS st ca [⟨1, 0, .slice none 0 0, []⟩] = r := ⟨_, rfl⟩
  rw [hr] at HRUN
  have HR := hid hr
  have x0 := cell_of_row _ _ 0 _ _ _ HX1.out
  have x1 := cell_of_row _ _ 1 _ _ _ HX1.out
  clear hs hc hsn hb1 hx1 hy1 hW1 hg hbA hOPS hn hm hr
  obtain ⟨rn, re, rs, rc⟩ := r
  go_enter Try.func24, Try.ntmps24
  go_upto_region 1 with fail
  rw [HW1.out, HG.out]
  go_upto_region 2 with (go_at_call 29; refine HRUN.out.mono ?_; rintro e X2 ⟨v2, rfl, ⟨⟨sv2, cv2, rfl, h1, h2⟩, h3⟩, hb3⟩; dsimp only at h1 h2 h3; obtain ⟨A2, c2, rfl⟩ := ownAny_form h1; obtain ⟨B2, d2, rfl⟩ := ownAny_form h2; have HO : Hid (OwnG X2 _ rs rc _) := hid ⟨⟨_, _, rfl, h1, h2⟩, h3⟩; have HB3 := hid hb3; clear h1 h2 h3 hb3)
  obtain ⟨W4, hW4⟩ : ∃ X, X2.alloc (.cells #[.slice A2 rs.length c2, .slice B2 rc.length d2] 25) = X := ⟨_, rfl⟩
  obtain ⟨p, hp⟩ : ∃ p, X2.heap.size = p := ⟨_, rfl⟩
  have hb4 : Below X2.heap.size X2 W4 := by rw [← hW4]; exact al1 _ _
  have hx4 : W4.heap[p]? = some (.cells #[.slice A2 rs.length c2, .slice B2 rc.length d2] 25) := by rw [← hW4, ← hp]; exact heap_alloc_new _ _
  have HO4 := hid (HO.out.keep (keep_below hb4) (keep_below hb4) (Nat.le_trans HB1.out.size (Nat.le_refl _)))
  have HBX := hid (HBA.out.trans (HB3.out.mono HBA.out.size))
  have HBY := hid (HBX.out.trans (hb4.mono HBX.out.size))
  have HB4 : Hid (Below w.heap.size w W4) := hid (HB1.out.trans ((HB3.out.trans (hb4.mono HB3.out.size)).mono HB1.out.size))
  have HXW : Hid (W4.heap[g]? = some (.cells #[.slice A n c, .slice B m d] 25)) := hid ((HBY.out.block _ (box_lt HX1.out)).trans HX1.out)
  have HYW := hid ((HBY.out.block _ (box_lt HY1.out)).trans HY1.out)
  have y0 := cell_of_row _ _ 0 _ _ _ HYW.out
  have y1 := cell_of_row _ _ 1 _ _ _ HYW.out
  have f0 := box_fr HYW.out 0
  have f1 := box_fr HYW.out 1
  have q0 := cell_of_row _ _ 0 _ _ _ hx4
  have q1 := cell_of_row _ _ 1 _ _ _ hx4
  have HX4 := hid hx4
  rw [hW4, hp]
  clear hW4 hp hb4 hx4 x0 x1
  by_cases he : re = 0
  · subst he
    go_wp2_with fail
    refine bodyPost_ret (results_c rfl _ _ (g + 1) _ rfl (disk_load (disk_set HYW.out _ _))) rfl ?_
    exact ⟨_, rfl, by rw [← sync_ok HR.out]; exact HO4.out.keep (keep_two HYW.out (by decide)) (keep_two HYW.out (by decide)) (Nat.le_refl _), (HB4.out.setCell hge1 _).setCell hge1 _⟩
  · have de : (re != 0) = true := by simpa using he
    have x0 := cell_of_row _ _ 0 _ _ _ HXW.out
    have x1 := cell_of_row _ _ 1 _ _ _ HXW.out
    have HCPY := hid (copied_any st ca _ _ W4 (by rw [← HN.out] at HS; exact HS.out.below HB4.out) (by rw [← HN.out] at HSN; exact HSN.out) (by rw [← HM.out] at HC; exact HC.out.below HB4.out) (by have := HBND.out; omega) (by have := HBND.out; omega))
    rw [HN.out, HM.out] at HCPY
    clear y0 y1 f0 f1
    go_upto_region 3 with fail
    go_wp2_with (go_at_call 46; refine HCPY.out.mono ?_; rintro e X6 ⟨v6, rfl, ⟨sv6, cv6, rfl, o1, o2⟩, hb6⟩; obtain ⟨A6, c6, rfl⟩ := ownAny_form o1; obtain ⟨B6, d6, rfl⟩ := ownAny_form o2; have HO6 : Hid (OwnG X6 _ st ca _) := hid ⟨⟨_, _, rfl, o1, o2⟩, HSC.out⟩; have HB6 := hid hb6; have HY6 := hid ((hb6.block _ (box_lt HYW.out)).trans HYW.out); have y0 := cell_of_row _ _ 0 _ _ _ HY6.out; have y1 := cell_of_row _ _ 1 _ _ _ HY6.out; have f0 := box_fr HY6.out 0; have f1 := box_fr HY6.out 1; clear o1 o2 hb6)
    refine bodyPost_ret (results_c rfl _ _ (g + 1) _ rfl (disk_load (disk_set HY6.out _ _))) rfl ?_
    exact ⟨_, rfl, by rw [sync_no HR.out he]; exact HO6.out.keep (keep_two HY6.out (by decide)) (keep_two HY6.out (by decide)) HB4.out.size, ((HB4.out.trans (HB6.out.mono HB4.out.size)).setCell hge1 _).setCell hge1 _⟩
end Go.Proofs.Ytoefbgkeinhibaa
