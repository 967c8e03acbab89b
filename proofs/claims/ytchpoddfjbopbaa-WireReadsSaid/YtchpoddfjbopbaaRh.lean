/- awake. -/
import Derived.Test.YtchpoddfjbopbaaRg
import Derived.Laws.MakeOwn
namespace Go.Proofs.Ytchpoddfjbopbaa
open Go.RowKit Go.Lib

theorem red_ok {α : Type} {D : Reads α} {V : World → Value → α → Prop} {n : Value} {w w' : World} {s t : List Nat} {x : α} {e : Ending} (h : Red D V n w s e w') (hd : D s = .ok (x, t)) :
    ∃ v r, e = .returned (.tuple #[v, r, .int .i64 0]) ∧ Below w.heap.size w w' ∧ V w' v x ∧ VByt w' r t := by
  obtain ⟨v, r, er, rfl, hb, h⟩ := h
  rcases h with ⟨x', t', hd', rfl, hv, hr⟩ | ⟨hd', _⟩
  · rw [hd] at hd'
    cases hd'
    exact ⟨v, r, rfl, hb, hv, hr⟩
  · rw [hd] at hd'; cases hd'
theorem red_err {α : Type} {D : Reads α} {V : World → Value → α → Prop} {n : Value} {w w' : World} {s : List Nat} {er : Int} {e : Ending} (h : Red D V n w s e w') (hd : D s = .error er) :
    e = .returned (.tuple #[n, .slice none 0 0, .int .i64 er]) ∧ Below w.heap.size w w' ∧ er ≠ 0 := by
  obtain ⟨v, r, er', rfl, hb, h⟩ := h
  rcases h with ⟨x', t', hd', _⟩ | ⟨hd', hne, rfl, rfl⟩
  · rw [hd] at hd'; cases hd'
  · rw [hd] at hd'
    cases hd'
    exact ⟨rfl, hb, hne⟩
theorem byt_lit (w : World) (l : List Nat) (h8 : B8 l) (hl : l.length ≤ maxLen) : Byt (w.alloc (.cells (l.map fun (x : Nat) => Value.int .u8 (x : Int)).toArray 5)) (.slice (some ⟨w.heap.size, 0, none⟩) l.length l.length) l := byt_new w l (0, 0) h8 hl
theorem al1B {B : Nat} {w0 w : World} (h : Below B w0 w) (hB : B ≤ w.heap.size) (o : Obj) : Below B w0 (w.alloc o) := h.alloc hB o

theorem ex_a : dNum [172, 2, 9] = .ok (300, [9]) := dNum_ok (show rd 8 0 0 [172, 2, 9] = (300, 2, 0) by decide +kernel)
theorem ex_b : dNum [128, 0] = .error 3 := dNum_err (show rd 8 0 0 [128, 0] = (0, 0, 3) by decide +kernel) (by decide)
theorem ex_c : dNum [128] = .error 10 := dNum_err (show rd 8 0 0 [128] = (0, 0, 10) by decide +kernel) (by decide)
theorem ex_d : dNum [255, 255, 255, 255, 255, 255, 255, 16] = .error 3 := dNum_err (show rd 8 0 0 [255, 255, 255, 255, 255, 255, 255, 16] = (0, 0, 3) by decide +kernel) (by decide)
theorem e200 : enc 200 = [200, 1] := by rw [enc_big (by omega), show 200 / 128 = 1 by rfl, enc_small (by omega)]
theorem n0 : eNum 0 = [0] := by unfold eNum; rw [cl_in (by omega) (by omega)]; exact enc_small (by decide)
theorem n1 : eNum 1 = [1] := by unfold eNum; rw [cl_in (by omega) (by omega)]; exact enc_small (by decide)
theorem n2 : eNum 2 = [2] := by unfold eNum; rw [cl_in (by omega) (by omega)]; exact enc_small (by decide)
theorem n4 : eNum 4 = [4] := by unfold eNum; rw [cl_in (by omega) (by omega)]; exact enc_small (by decide)
theorem n200 : eNum 200 = [200, 1] := by unfold eNum; rw [cl_in (by omega) (by omega)]; exact e200
theorem ex_e (d : Value) : eList eWri [⟨1, 2, d, [[0, 0, 0, 0, 0, 0, 0, 0]]⟩] = [1, 1, 2, 1, 0, 0, 0, 0, 0, 0, 0, 0] := by
  simp [eList, eMany, eWri, n1, n2, eSec, enc_small]
theorem ex_f : eList eExtI [(0, 4), (200, 1)] = [2, 0, 4, 200, 1, 1] := by
  simp [eList, eMany, eExtI, n0, n4, n200, n1, enc_small]

theorem flat_getG {α : Type} {st : Nat} {rows : List (List α)} (h : ∀ r ∈ rows, r.length = st) : ∀ {i j : Nat} {r : List α}, rows[i]? = some r → j < st → rows.flatten[i * st + j]? = r[j]? := by
  induction rows with
  | nil => intro i j r hr _; simp at hr
  | cons t rows ih =>
    intro i j r hr hj
    have ht := h t (List.mem_cons_self ..)
    rw [List.flatten_cons]
    rcases i with _ | i
    · simp at hr
      subst hr
      rw [List.getElem?_append_left (by omega)]
      simp
    · rw [List.getElem?_append_right (by rw [ht, Nat.succ_mul]; omega), ht]
      have e : (i + 1) * st + j - st = i * st + j := by rw [Nat.succ_mul]; omega
      rw [e]
      exact ih (fun u hu => h u (List.mem_cons_of_mem _ hu)) (by simpa using hr) hj
theorem arr_at {w : World} {g : Nat} {T : TypeId} {st n c : Nat} {rows : List (List Value)} {fr : Nat × Nat} {cs : Array Value} (h : ∀ r ∈ rows, r.length = st) (hn : n = rows.length) (hc : n ≤ c) (hm : c ≤ maxLen) (hg : w.heap[g]? = some (.cells cs T fr)) (hcs : ∀ (k : Nat) (u : Value), rows.flatten[k]? = some u → cs[k]? = some u) : Arr w (.slice (some ⟨g, 0, none⟩) n c) st rows := by
  subst hn
  refine ⟨_, _, rfl, hc, hm, g, 0, fun _ => ⟨rfl, box_lt hg⟩, fun i r hr j u hu => ?_⟩
  have hj : j < st := by rw [← h r (List.mem_of_getElem? hr)]; exact (List.getElem?_eq_some_iff.1 hu).1
  rw [Nat.zero_add, cell_of_row _ _ _ _ _ _ hg]
  exact hcs _ _ ((flat_getG h hr hj).trans hu)
theorem arr_new (w : World) (T : TypeId) (st n : Nat) (rows : List (List Value)) (cs : Array Value) (h : ∀ r ∈ rows, r.length = st) (hn : n = rows.length) (hm : n ≤ maxLen) (hcs : rows.flatten.toArray = cs) : Arr (w.alloc (.cells cs T)) (.slice (some ⟨w.heap.size, 0, none⟩) n n) st rows :=
  arr_at h hn (Nat.le_refl _) hm (heap_alloc_new w _) (fun k u hu => by rw [← hcs]; simpa using hu)

set_option maxRecDepth 100000 in
theorem make1 (w : World) : (Instr.makeSlice 30 (.int .i64 1) (.int .i64 1)).run Try.prog w = .ok (.slice (some ⟨w.heap.size, 0, none⟩) 1 1) (w.alloc (.cells #[.int .u8 0, .int .u8 0, .int .u8 0, .int .u8 0, .int .u8 0, .int .u8 0, .int .u8 0, .int .u8 0] 59)) := by
  obtain ⟨i0, hi, hz0, hz1, hz2⟩ := info_parts info59
  have h := run_make (P := Try.prog) w 30 59 i0 _ Try.underlying30 hi hz0 .i64 .i64 1 1 (by decide) (by decide) (by rw [hz2]; decide) (by decide)
  rw [hz1] at h
  have e : madeCells (Value.agg #[.int .u8 0, .int .u8 0, .int .u8 0, .int .u8 0, .int .u8 0, .int .u8 0, .int .u8 0, .int .u8 0]).cells (Int.toNat 1 * 8) = #[.int .u8 0, .int .u8 0, .int .u8 0, .int .u8 0, .int .u8 0, .int .u8 0, .int .u8 0, .int .u8 0] := by
    apply Array.ext'
    unfold madeCells
    rw [Array.toList_map, Array.toList_range]
    rfl
  rw [e] at h
  exact h

set_option maxHeartbeats 4000000 in
set_option maxRecDepth 100000 in
theorem awake_any (w : World) : Calls Try.prog 11 #[] w fun e w' => e = .returned (.bool true) ∧ Below w.heap.size w w' := by
  have H1 := hid (fun w0 : World => int_any [172, 2, 9] _ _ (byt_lit w0 [172, 2, 9] (by unfold B8; decide) (by decide)) (nilOk_some _ _ _) (by decide))
  have H2 := hid (fun w0 : World => int_any [128, 0] _ _ (byt_lit w0 [128, 0] (by unfold B8; decide) (by decide)) (nilOk_some _ _ _) (by decide))
  have H3 := hid (fun w0 : World => int_any [128] _ _ (byt_lit w0 [128] (by unfold B8; decide) (by decide)) (nilOk_some _ _ _) (by decide))
  have H4 := hid (fun w0 : World => int_any [255, 255, 255, 255, 255, 255, 255, 16] _ _ (byt_lit w0 [255, 255, 255, 255, 255, 255, 255, 16] (by unfold B8; decide) (by decide)) (nilOk_some _ _ _) (by decide))
  have mk := make1
  go_enter Try.func11, Try.ntmps11
  go_wp2_with fail
  refine (H1.out w).mono ?_
  rintro e w1 h
  obtain ⟨v1, r1, rfl, hb, hv, hr⟩ := red_ok h ex_a
  unfold VNat at hv
  subst hv
  have HB1 := hid (al_back hb)
  have HR1 := hid hr
  clear h hb hr
  go_wp2_with fail
  refine (H2.out w1).mono ?_
  rintro e w2 h
  obtain ⟨rfl, hb, _⟩ := red_err h ex_b
  have HB2 := hid (al_back hb)
  clear h hb
  go_wp2_with fail
  refine (H3.out w2).mono ?_
  rintro e w3 h
  obtain ⟨rfl, hb, _⟩ := red_err h ex_c
  have HB3 := hid (al_back hb)
  clear h hb
  go_wp2_with fail
  refine (H4.out w3).mono ?_
  rintro e w4 h
  obtain ⟨rfl, hb, _⟩ := red_err h ex_d
  have HB4 := hid (al_back hb)
  clear h hb
  go_wp2_with fail
  have hs4 : Sec (w4.alloc (.cells #[.int .u8 0, .int .u8 0, .int .u8 0, .int .u8 0, .int .u8 0, .int .u8 0, .int .u8 0, .int .u8 0] 59)) (.slice (some ⟨w4.heap.size, 0, none⟩) 1 1) [[0, 0, 0, 0, 0, 0, 0, 0]] :=
    ⟨fun s hs => by simp at hs; subst hs; exact ⟨rfl, by unfold B8; decide⟩, arr_new w4 59 8 1 _ _ (fun r hr => by simp at hr; subst hr; rfl) rfl (by decide) rfl⟩
  obtain ⟨w5, hw5⟩ : ∃ w5, w4.alloc (.cells #[.int .u8 0, .int .u8 0, .int .u8 0, .int .u8 0, .int .u8 0, .int .u8 0, .int .u8 0, .int .u8 0] 59) = w5 := ⟨_, rfl⟩
  have hz5 : w5.heap.size = w4.heap.size + 1 := by rw [← hw5]; simp
  have HB5 : Hid (Below w4.heap.size w4 w5) := hid (by rw [← hw5]; exact al1 _ _)
  rw [hw5] at hs4 ⊢
  have hwr : Wrs (w5.alloc (.cells #[.int .i64 1, .int .i64 2, .slice (some ⟨w4.heap.size, 0, none⟩) 1 1] 79)) (.slice (some ⟨w4.heap.size + 1, 0, none⟩) 1 1) [⟨1, 2, .slice (some ⟨w4.heap.size, 0, none⟩) 1 1, [[0, 0, 0, 0, 0, 0, 0, 0]]⟩] := by
    rw [← hz5]
    exact ⟨fun x hx => by simp at hx; subst hx; exact ⟨hs4.below (al1 _ _), by simp⟩, arr_new w5 79 3 1 _ _ (fun r hr => by simp at hr; subst hr; rfl) rfl (by decide) rfl⟩
  have H5 := hid (putWris_any _ [] (.slice none 0 0) _ _ (byt_nil _) nilOk_nil hwr (by simp) (by rw [ex_e]; simp))
  rw [ex_e, List.nil_append] at H5
  clear hs4 hwr hw5 hz5
  refine H5.out.mono ?_
  rintro e w6 ⟨v6, rfl, ho6, hb6⟩
  have HB6 := hid (al_back hb6)
  have HV6 := hid (byt_of_own ho6 (by unfold B8; decide))
  obtain ⟨a6, c6, rfl⟩ := own_form ho6
  clear ho6 hb6 H5
  go_wp2_with fail
  have hex : Ext (w6.alloc (.cells #[.int .i64 0, .int .i64 4, .int .i64 200, .int .i64 1] 66)) (.slice (some ⟨w6.heap.size, 0, none⟩) 2 2) [(0, 4), (200, 1)] :=
    arr_new w6 66 2 2 _ _ (fun r hr => by simp at hr; rcases hr with rfl | rfl <;> rfl) rfl (by decide) rfl
  have H6 := hid (putExts_any _ [] (.slice none 0 0) _ _ (byt_nil _) nilOk_nil hex (by simp) (by rw [ex_f]; simp))
  rw [ex_f, List.nil_append] at H6
  clear hex
  refine H6.out.mono ?_
  rintro e w7 ⟨v7, rfl, ho7, hb7⟩
  have HB7 := hid (al_back hb7)
  have HV7 := hid (byt_of_own ho7 (by unfold B8; decide))
  obtain ⟨a7, c7, rfl⟩ := own_form ho7
  clear ho7 hb7 H6
  have HBC := hid (below_both HB2.out (below_both HB3.out (below_both HB4.out (below_both HB5.out (below_both HB6.out HB7.out)))))
  have HBa := hid (below_both HB1.out (below_both HB2.out (below_both HB3.out (below_both HB4.out (below_both HB5.out (below_both HB6.out HB7.out))))))
  go_wp2_with fail
  refine (equal_any [9] [9] r1 _ _ (((vbyt_byt HR1.out).below (HBC.out)).below (al1 _ _)) (byt_lit w7 [9] (by unfold B8; decide) (by decide))).mono ?_
  rintro e w8 ⟨rfl, rfl⟩
  go_wp2_with fail
  refine (equal_any [1, 1, 2, 1, 0, 0, 0, 0, 0, 0, 0, 0] [1, 1, 2, 1, 0, 0, 0, 0, 0, 0, 0, 0] _ _ _ (((HV6.out.below HB7.out).below (al1 _ _)).below (al1 _ _)) (by have h := byt_lit (w7.alloc (.cells #[.int .u8 9] 5)) [1, 1, 2, 1, 0, 0, 0, 0, 0, 0, 0, 0] (by unfold B8; decide) (by decide); rw [show (w7.alloc (.cells #[.int .u8 9] 5)).heap.size = w7.heap.size + 1 by simp] at h; exact h)).mono ?_
  rintro e w8 ⟨rfl, rfl⟩
  have HBb := hid (((HBa.out.alloc HBa.out.size (.cells #[.int .u8 9] 5)).alloc (by have := HBa.out.size; simp; omega) (.cells #[.int .u8 1, .int .u8 1, .int .u8 2, .int .u8 1, .int .u8 0, .int .u8 0, .int .u8 0, .int .u8 0, .int .u8 0, .int .u8 0, .int .u8 0, .int .u8 0] 5)))
  have HV7b := hid ((HV7.out.below (al1 _ (.cells #[.int .u8 9] 5))).below (al1 _ (.cells #[.int .u8 1, .int .u8 1, .int .u8 2, .int .u8 1, .int .u8 0, .int .u8 0, .int .u8 0, .int .u8 0, .int .u8 0, .int .u8 0, .int .u8 0, .int .u8 0] 5)))
  have hzz : ((w7.alloc (.cells #[.int .u8 9] 5)).alloc (.cells #[.int .u8 1, .int .u8 1, .int .u8 2, .int .u8 1, .int .u8 0, .int .u8 0, .int .u8 0, .int .u8 0, .int .u8 0, .int .u8 0, .int .u8 0, .int .u8 0] 5)).heap.size = w7.heap.size + 2 := by simp
  obtain ⟨w9, hw9⟩ : ∃ w9, (w7.alloc (.cells #[.int .u8 9] 5)).alloc (.cells #[.int .u8 1, .int .u8 1, .int .u8 2, .int .u8 1, .int .u8 0, .int .u8 0, .int .u8 0, .int .u8 0, .int .u8 0, .int .u8 0, .int .u8 0, .int .u8 0] 5) = w9 := ⟨_, rfl⟩
  rw [hw9] at HBb HV7b hzz ⊢
  have HZ := hid hzz
  clear hw9 hzz
  go_wp2_with fail
  refine (equal_any [2, 0, 4, 200, 1, 1] [2, 0, 4, 200, 1, 1] _ _ _ (HV7b.out.below (al1 _ _)) (byt_lit w9 [2, 0, 4, 200, 1, 1] (by unfold B8; decide) (by decide))).mono ?_
  rintro e w10 ⟨rfl, rfl⟩
  have HBc := hid (HBb.out.alloc HBb.out.size (.cells #[.int .u8 2, .int .u8 0, .int .u8 4, .int .u8 200, .int .u8 1, .int .u8 1] 5))
  go_wp2
  go_ret
  exact ⟨rfl, HBc.out⟩
end Go.Proofs.Ytchpoddfjbopbaa
