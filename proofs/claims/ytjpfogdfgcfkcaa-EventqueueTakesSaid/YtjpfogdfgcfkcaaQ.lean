/- awake. -/
import Derived.Test.YtjpfogdfgcfkcaaP
namespace Go.Proofs.Ytjpfogdfgcfkcaa
open Go.RowKit Go.Lib

/-- A list of events of one's own. -/
def Own (w : World) (base : Nat) (v : Value) (n : Nat) (l : List Ec) (vs : List Ev) : Prop := w.ownsRow base 32 5 v n (vs.map cEv).flatten ∧ vs.length = n ∧ vs.map core = l ∧ ∀ x ∈ vs, Pay w x
theorem Own.below {w w' : World} {base n : Nat} {v : Value} {l : List Ec} {vs : List Ev} (h : Own w base v n l vs) (hb : Below w.heap.size w w') : Own w' base v n l vs :=
  ⟨own_keep h.1 (keep_below hb), h.2.1, h.2.2.1, fun x hx => (h.2.2.2 x hx).keep (keep_below hb)⟩
theorem Own.set2 {w : World} {base n g : Nat} {v : Value} {l : List Ec} {vs : List Ev} {a b : Value} (h : Own w base v n l vs) (hg : w.heap[g]? = some (.cells #[a, b] 24)) (v0 v1 : Value) : Own (set2 w g v0 v1) base v n l vs :=
  ⟨set2r _ _ h.1 (own_ne h.1 hg (by decide)), h.2.1, h.2.2.1, fun x hx => (h.2.2.2 x hx).keep (fun k cs hk => (set2o _ _ (fun e => by rw [e, hg] at hk; cases hk)).trans hk)⟩
theorem Own.el {w : World} {base n : Nat} {v : Value} {l : List Ec} {vs : List Ev} (h : Own w base v n l vs) : EL w v vs := el_of_own h.1 h.2.1 h.2.2.2
theorem Own.all {w : World} {base n : Nat} {v : Value} {l : List Ec} {vs : List Ev} (h : Own w base v n l vs) {P : Ec → Prop} (hP : ∀ e ∈ l, P e) : ∀ x ∈ vs, P (core x) := fun x hx => hP _ (by rw [← h.2.2.1]; exact List.mem_map_of_mem hx)
theorem Own.nums {w : World} {base n : Nat} {v : Value} {l : List Ec} {vs : List Ev} (h : Own w base v n l vs) : vs.map (fun x => x.n) = l.map (fun e => e.2.1) := by
  rw [← h.2.2.1, List.map_map]; rfl
theorem Own.len {w : World} {base n : Nat} {v : Value} {l : List Ec} {vs : List Ev} (h : Own w base v n l vs) : n = l.length := by rw [← h.2.1, ← h.2.2.1, List.length_map]
theorem own_of_qu {w w' : World} {l : List Ec} {next : Int} {q : Value} (h : QuQ w l next q w') : ∃ (A : Option Addr) (c : Nat) (vs : List Ev), q = .agg #[.slice A l.length c, .int .i64 next] ∧ Own w' w.heap.size (.slice A l.length c) l.length l vs ∧ Below w.heap.size w w' := by
  obtain ⟨u, vs, rfl, ho, hc, hp, hb⟩ := h
  have hl : vs.length = l.length := by rw [← hc, List.length_map]
  rw [hl] at ho
  obtain ⟨A, c, rfl⟩ := own_form32 ho
  exact ⟨A, c, vs, rfl, ⟨ho, hl, hc, hp⟩, hb⟩

set_option maxHeartbeats 4000000 in
set_option maxRecDepth 100000 in
theorem awake_any (w : World) : Calls Try.prog 10 #[] w fun e w' => e = .returned (.bool true) ∧ Below w.heap.size w w' := by
  obtain ⟨W1, hW1⟩ : ∃ W1, w.alloc (.cells #[.int .i64 5, .int .i64 3, .int .i64 5, .int .i64 0] 3) = W1 := ⟨_, rfl⟩
  obtain ⟨g, hg⟩ : ∃ g, w.heap.size = g := ⟨_, rfl⟩
  have hb1 : Below w.heap.size w W1 := by rw [← hW1]; exact al1 _ _
  have hil : IL W1 (.slice (some ⟨g, 0, none⟩) 4 4) [5, 3, 5, 0] := by rw [← hW1, ← hg]; exact il_lit w [5, 3, 5, 0] (by decide)
  have HAD := hid (added_any [5, 3, 5, 0] _ W1 hil (by decide))
  have HB1 := hid hb1
  have HW1 := hid hW1
  have HG := hid hg
  clear hb1 hil hW1 hg
  go_enter Try.func10, Try.ntmps10
  go_wp2_with fail
  rw [HW1.out, HG.out]
  refine HAD.out.mono ?_
  rintro e w2 ⟨q, rfl, hq⟩
  rw [exA] at hq ⊢
  dsimp only at hq ⊢
  obtain ⟨A2, c2, vs2, rfl, ho2, hb2⟩ := own_of_qu hq
  rw [show L4.length = 4 from rfl] at ho2 ⊢
  have hob2 : w.heap.size ≤ W1.heap.size := HB1.out.size
  obtain ⟨W3, hW3⟩ : ∃ W3, (w2.alloc (.cells #[.slice A2 4 c2, .int .i64 4] 24)).alloc (.cells #[.int .i64 3, .int .i64 1, .int .i64 0, .int .i64 2] 3) = W3 := ⟨_, rfl⟩
  obtain ⟨h, hh⟩ : ∃ h, w2.heap.size = h := ⟨_, rfl⟩
  have hb3 : Below w2.heap.size w2 W3 := by rw [← hW3]; exact ((Below.refl _ w2).alloc (Nat.le_refl _) _).alloc (by simp) _
  have hx3 : W3.heap[h]? = some (.cells #[.slice A2 4 c2, .int .i64 4] 24) := by rw [← hW3, ← hh]; exact (Below.heap_alloc _ _ _ (by simp)).trans (heap_alloc_new w2 _)
  have hil3 : IL W3 (.slice (some ⟨h + 1, 0, none⟩) 4 4) [3, 1, 0, 2] := by
    have h1 := il_lit (w2.alloc (.cells #[.slice A2 4 c2, .int .i64 4] 24)) [3, 1, 0, 2] (by decide)
    rw [← hW3, ← hh]
    simpa using h1
  have ho3 := ho2.below hb3
  have HNU := hid (numbers_any vs2 [3, 1, 0, 2] _ _ W3 ho3.el hil3 (by rw [ho3.2.1]; decide))
  rw [ho3.nums, show L4.map (fun e => e.2.1) = [3, 1, 0, 2] from rfl, decide_eq_true rfl] at HNU
  have HB3 := hid (HB1.out.trans ((hb2.trans (hb3.mono hb2.size)).mono HB1.out.size))
  have HX3 := hid hx3
  have HO3 := hid ho3
  have HH := hid hh
  have HW3 := hid hW3
  have hgh : w.heap.size ≤ h := by rw [← hh]; exact Nat.le_trans hob2 hb2.size
  have x0 : (w2.alloc (.cells #[.slice A2 4 c2, .int .i64 4] 24)).cell? ⟨w2.heap.size, 0, none⟩ = some (.slice A2 4 c2) := cell_of_row _ _ 0 _ _ _ (heap_alloc_new w2 _)
  clear hq ho2 hb2 hb3 hx3 hil3 ho3 hh hW3 HAD
  go_wp2_with fail
  rw [HW3.out, HH.out]
  refine HNU.out.mono ?_
  rintro e w4 ⟨rfl, hb4⟩
  have HX4 := hid ((hb4.block _ (box_lt HX3.out)).trans HX3.out)
  have HO4 := hid (HO3.out.below hb4)
  have HB4 := hid (HB3.out.trans (hb4.mono HB3.out.size))
  have x0 := cell_of_row _ _ 0 _ _ _ HX4.out
  have x1 := cell_of_row _ _ 1 _ _ _ HX4.out
  have hz4 : h < w4.heap.size := box_lt HX4.out
  have hca := cancel_any vs2 (.slice A2 4 c2) 4 0 w4 HO4.out.el (HO4.out.all (P := fun e => R64 e.2.1) (by unfold L4 R64; simp)) (by rw [HO4.out.2.1]; decide) (HO4.out.all (P := fun e => e.2.2.2.2.length ≤ 100000) (by unfold L4; simp))
  rw [HO4.out.2.2.1, exC] at hca
  have HCA := hid hca
  clear hb4 hca HNU
  go_wp2_with fail
  refine HCA.out.mono ?_
  rintro e w5 ⟨q, rfl, hq⟩
  dsimp only at hq ⊢
  obtain ⟨A5, c5, vs5, rfl, ho5, hb5⟩ := own_of_qu hq
  rw [show L3.length = 3 from rfl] at ho5 ⊢
  have HX5 := hid ((hb5.block _ (box_lt HX4.out)).trans HX4.out)
  have HB5 := hid (HB4.out.trans (hb5.mono HB4.out.size))
  have x0 := cell_of_row _ _ 0 _ _ _ HX5.out
  have x1 := cell_of_row _ _ 1 _ _ _ HX5.out
  have fx0 := box_fr HX5.out 0
  have fx1 := box_fr HX5.out 1
  obtain ⟨W6, hW6⟩ : ∃ W6, set2 w5 h (.slice A5 3 c5) (.int .i64 4) = W6 := ⟨_, rfl⟩
  have HX6 : Hid (W6.heap[h]? = some (.cells #[.slice A5 3 c5, .int .i64 4] 24)) := hid (by rw [← hW6]; exact set2h _ _ HX5.out)
  have ho6 : Own W6 w4.heap.size (.slice A5 3 c5) 3 L3 vs5 := by rw [← hW6]; exact ho5.set2 HX5.out _ _
  have HB6 : Hid (Below w.heap.size w W6) := hid (by rw [← hW6]; exact set2b _ _ HB5.out hgh)
  have HO6 := hid ho6
  have HW6 := hid (show (w5.setCell ⟨h, 0, none⟩ (.slice A5 3 c5)).setCell ⟨h, 1, none⟩ (.int .i64 4) = W6 from hW6)
  have y0 : (set2 w5 h (.slice A5 3 c5) (.int .i64 4)).cell? ⟨h, 0, none⟩ = some (.slice A5 3 c5) := cell_of_row _ _ 0 _ _ _ (set2h _ _ HX5.out)
  have y1 : (set2 w5 h (.slice A5 3 c5) (.int .i64 4)).cell? ⟨h, 1, none⟩ = some (.int .i64 4) := cell_of_row _ _ 1 _ _ _ (set2h _ _ HX5.out)
  have hdu := due_any vs5 (.slice A5 3 c5) 4 4 W6 ho6.el (ho6.all (P := fun e => R64 e.2.1) (by unfold L3 R64; simp)) (by rw [ho6.2.1]; decide) (ho6.all (P := fun e => e.2.2.2.2.length ≤ 100000) (by unfold L3; simp))
  rw [ho6.2.2.1, exD1] at hdu
  have HDU := hid hdu
  clear hq ho5 hb5 hW6 ho6 hdu HCA
  go_wp2_with fail
  rw [HW6.out]
  refine HDU.out.mono ?_
  rintro e w7 ⟨q, va, vsa, rfl, hq, hoa, hca, hpa⟩
  obtain ⟨A7, c7, vs7, rfl, ho7, hb7⟩ := own_of_qu hq
  rw [show (L3.drop 2) = L1 from rfl] at ho7 ⊢
  rw [show L1.length = 1 from rfl] at ho7 ⊢
  have hla : vsa.length = 2 := by have := congrArg List.length hca; rw [List.length_map] at this; rw [this]; rfl
  rw [hla] at hoa
  obtain ⟨aA, ac, rfl⟩ := own_form32 hoa
  have HA7 : Hid (Own w7 W6.heap.size (.slice aA 2 ac) 2 (L3.take 2) vsa) := hid ⟨hoa, hla, hca, hpa⟩
  have HX7 := hid ((hb7.block _ (box_lt HX6.out)).trans HX6.out)
  have HB7 := hid (HB6.out.trans (hb7.mono HB6.out.size))
  have x0 := cell_of_row _ _ 0 _ _ _ HX7.out
  have x1 := cell_of_row _ _ 1 _ _ _ HX7.out
  have fx0 := box_fr HX7.out 0
  have fx1 := box_fr HX7.out 1
  obtain ⟨W8, hW8⟩ : ∃ W8, set2 w7 h (.slice A7 1 c7) (.int .i64 4) = W8 := ⟨_, rfl⟩
  have HX8 : Hid (W8.heap[h]? = some (.cells #[.slice A7 1 c7, .int .i64 4] 24)) := hid (by rw [← hW8]; exact set2h _ _ HX7.out)
  have ho8 : Own W8 W6.heap.size (.slice A7 1 c7) 1 L1 vs7 := by rw [← hW8]; exact ho7.set2 HX7.out _ _
  have HA8 : Hid (Own W8 W6.heap.size (.slice aA 2 ac) 2 (L3.take 2) vsa) := hid (by rw [← hW8]; exact HA7.out.set2 HX7.out _ _)
  have HB8 : Hid (Below w.heap.size w W8) := hid (by rw [← hW8]; exact set2b _ _ HB7.out hgh)
  have HW8 := hid (show (w7.setCell ⟨h, 0, none⟩ (.slice A7 1 c7)).setCell ⟨h, 1, none⟩ (.int .i64 4) = W8 from hW8)
  have y0 : (set2 w7 h (.slice A7 1 c7) (.int .i64 4)).cell? ⟨h, 0, none⟩ = some (.slice A7 1 c7) := cell_of_row _ _ 0 _ _ _ (set2h _ _ HX7.out)
  have y1 : (set2 w7 h (.slice A7 1 c7) (.int .i64 4)).cell? ⟨h, 1, none⟩ = some (.int .i64 4) := cell_of_row _ _ 1 _ _ _ (set2h _ _ HX7.out)
  have hdu := due_any vs7 (.slice A7 1 c7) 4 5 W8 ho8.el (ho8.all (P := fun e => R64 e.2.1) (by unfold L1 R64; simp)) (by rw [ho8.2.1]; decide) (ho8.all (P := fun e => e.2.2.2.2.length ≤ 100000) (by unfold L1; simp))
  rw [ho8.2.2.1, exD2] at hdu
  have HDV := hid hdu
  clear hq ho7 hb7 hW8 ho8 hdu HDU hoa hca hpa hla
  go_wp2_with fail
  rw [HW8.out]
  refine HDV.out.mono ?_
  rintro e w9 ⟨q, vb, vsb, rfl, hq, hob, hcb, hpb⟩
  obtain ⟨A9, c9, vs9, rfl, ho9, hb9⟩ := own_of_qu hq
  rw [show (L1.drop 1) = [] from rfl] at ho9 ⊢
  rw [show ([] : List Ec).length = 0 from rfl] at ho9 ⊢
  have hlb : vsb.length = 1 := by have := congrArg List.length hcb; rw [List.length_map] at this; rw [this]; rfl
  rw [hlb] at hob
  obtain ⟨bA, bc, rfl⟩ := own_form32 hob
  have HV9 : Hid (Own w9 W8.heap.size (.slice bA 1 bc) 1 (L1.take 1) vsb) := hid ⟨hob, hlb, hcb, hpb⟩
  have HA9 := hid (HA8.out.below hb9)
  have HX9 := hid ((hb9.block _ (box_lt HX8.out)).trans HX8.out)
  have HB9 := hid (HB8.out.trans (hb9.mono HB8.out.size))
  have x0 := cell_of_row _ _ 0 _ _ _ HX9.out
  have x1 := cell_of_row _ _ 1 _ _ _ HX9.out
  have fx0 := box_fr HX9.out 0
  have fx1 := box_fr HX9.out 1
  obtain ⟨W10, hW10⟩ : ∃ W10, set2 w9 h (.slice A9 0 c9) (.int .i64 4) = W10 := ⟨_, rfl⟩
  have HX10 : Hid (W10.heap[h]? = some (.cells #[.slice A9 0 c9, .int .i64 4] 24)) := hid (by rw [← hW10]; exact set2h _ _ HX9.out)
  have HA10 : Hid (Own W10 W6.heap.size (.slice aA 2 ac) 2 (L3.take 2) vsa) := hid (by rw [← hW10]; exact HA9.out.set2 HX9.out _ _)
  have HV10 : Hid (Own W10 W8.heap.size (.slice bA 1 bc) 1 (L1.take 1) vsb) := hid (by rw [← hW10]; exact HV9.out.set2 HX9.out _ _)
  have HB10 : Hid (Below w.heap.size w W10) := hid (by rw [← hW10]; exact set2b _ _ HB9.out hgh)
  obtain ⟨W11, hW11⟩ : ∃ W11, W10.alloc (.cells #[.int .i64 3, .int .i64 1] 3) = W11 := ⟨_, rfl⟩
  have hb11 : Below W10.heap.size W10 W11 := by rw [← hW11]; exact al1 _ _
  have hil11 : IL W11 (.slice (some ⟨W10.heap.size, 0, none⟩) 2 2) [3, 1] := by rw [← hW11]; exact il_lit W10 [3, 1] (by decide)
  obtain ⟨hA, hhA⟩ : ∃ y, W10.heap.size = y := ⟨_, rfl⟩
  have hha : w9.heap.size = hA := by rw [← hhA, ← hW10]; simp [set2]
  rw [hhA] at hil11
  have ha11 := HA10.out.below hb11
  have HNA := hid (numbers_any vsa [3, 1] _ _ W11 ha11.el hil11 (by rw [ha11.2.1]; decide))
  rw [ha11.nums, show (L3.take 2).map (fun e => e.2.1) = [3, 1] from rfl, decide_eq_true rfl] at HNA
  have HX11 := hid ((hb11.block _ (box_lt HX10.out)).trans HX10.out)
  have HV11 := hid (HV10.out.below hb11)
  have HB11 := hid (HB10.out.trans (hb11.mono HB10.out.size))
  have HW11 := hid (show ((w9.setCell ⟨h, 0, none⟩ (.slice A9 0 c9)).setCell ⟨h, 1, none⟩ (.int .i64 4)).alloc (.cells #[.int .i64 3, .int .i64 1] 3) = W11 by rw [← hW11, ← hW10])
  have HHA := hid hha
  clear hq hob hcb hpb hlb HDV hW10 hb11 hil11 hW11 ha11 hha hhA
  go_wp2_with fail
  rw [HW11.out, HHA.out]
  refine HNA.out.mono ?_
  rintro e w12 ⟨rfl, hb12⟩
  have HX12 := hid ((hb12.block _ (box_lt HX11.out)).trans HX11.out)
  have HV12 := hid (HV11.out.below hb12)
  have HB12 := hid (HB11.out.trans (hb12.mono HB11.out.size))
  obtain ⟨W13, hW13⟩ : ∃ W13, w12.alloc (.cells #[.int .i64 2] 3) = W13 := ⟨_, rfl⟩
  have hb13 : Below w12.heap.size w12 W13 := by rw [← hW13]; exact al1 _ _
  have hil13 : IL W13 (.slice (some ⟨w12.heap.size, 0, none⟩) 1 1) [2] := by rw [← hW13]; exact il_lit w12 [2] (by decide)
  have hv13 := HV12.out.below hb13
  have HNV := hid (numbers_any vsb [2] _ _ W13 hv13.el hil13 (by rw [hv13.2.1]; decide))
  rw [hv13.nums, show (L1.take 1).map (fun e => e.2.1) = [2] from rfl, decide_eq_true rfl] at HNV
  have HX13 := hid ((hb13.block _ (box_lt HX12.out)).trans HX12.out)
  have HB13 := hid (HB12.out.trans (hb13.mono HB12.out.size))
  have HW13 := hid hW13
  clear hb12 hb13 hil13 hv13 hW13 HNA x0 x1 fx0 fx1
  go_wp2_with fail
  rw [HW13.out]
  refine HNV.out.mono ?_
  rintro e w14 ⟨rfl, hb14⟩
  have HX14 := hid ((hb14.block _ (box_lt HX13.out)).trans HX13.out)
  have HB14 := hid (HB13.out.trans (hb14.mono HB13.out.size))
  have x0 := cell_of_row _ _ 0 _ _ _ HX14.out
  have x1 := cell_of_row _ _ 1 _ _ _ HX14.out
  clear hb14
  go_wp2
  go_ret
  exact ⟨rfl, HB14.out⟩
end Go.Proofs.Ytjpfogdfgcfkcaa
