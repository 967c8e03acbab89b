/- Read of the reference. -/
import Derived.Test.YtnocgfhcamnjdaaG
namespace Go.Proofs.Ytnocgfhcamnjdaa
open Go.RowKit Go.Lib

/-- The error of Read. -/
def readE (n : Nat) (ca : List Ca) (s m : Int) : Int := if chkD n ca ≠ 0 then chkD n ca else if insB n s m = false then 2 else 0
/-- What Read gives. -/
def ReadQ (w : World) (st : List Sect) (ca : List Ca) (s m : Int) (e : Ending) (w' : World) : Prop :=
  Below w.heap.size w w' ∧ ((∃ er, readE st.length ca s m = er ∧ er ≠ 0 ∧ e = .returned (.tuple #[.slice none 0 0, .int .i64 er])) ∨ (readE st.length ca s m = 0 ∧ ∃ v, e = .returned (.tuple #[v, .int .i64 0]) ∧ Sec w' v (((newL st ca).drop s.toNat).take m.toNat)))
theorem chkD_C {n : Nat} {ca : List Ca} (h : chkD n ca = 0) : n ≤ 4096 ∧ chkC n ca = 0 := by
  unfold chkD at h
  split at h
  · cases h
  · exact ⟨by omega, h⟩
set_option maxHeartbeats 8000000 in
set_option maxRecDepth 100000 in
theorem refRead_any (st : List Sect) (ca : List Ca) (sv cv : Value) (s m : Int) (w : World) (hs : Sec w sv st) (hsn : NilOk sv) (hc : Cas w cv ca) (hr : R64 s) (hr2 : R64 m) :
    Calls Try.prog 49 #[.agg #[sv, cv], .agg #[.int .i64 s, .int .i64 m]] w (ReadQ w st ca s m) := by
  obtain ⟨A, c, rfl⟩ := sec_form hs
  obtain ⟨B, d, rfl⟩ := cas_form hc
  obtain ⟨n, hn⟩ : ∃ n, st.length = n := ⟨_, rfl⟩
  obtain ⟨N, hN⟩ : ∃ n, ca.length = n := ⟨_, rfl⟩
  obtain ⟨hr0, hr1⟩ := hr
  obtain ⟨hr2, hr3⟩ := hr2
  rw [hn] at hs hsn ⊢
  rw [hN] at hc ⊢
  unfold ReadQ
  rw [hn]
  obtain ⟨ck, hck⟩ : ∃ k, chkD n ca = k := ⟨_, rfl⟩
  obtain ⟨g, hg⟩ : ∃ g, w.heap.size = g := ⟨_, rfl⟩
  obtain ⟨W1, hW1⟩ : ∃ X, (w.alloc (.cells #[.slice A n c, .slice B N d] 35)).alloc (.cells #[.int .i64 s, .int .i64 m] 97) = X := ⟨_, rfl⟩
  have hb1 : Below w.heap.size w W1 := by rw [← hW1]; exact ((Below.refl _ w).alloc (Nat.le_refl _) _).alloc (by simp) _
  have hx1 : W1.heap[g]? = some (.cells #[.slice A n c, .slice B N d] 35) := by rw [← hW1, ← hg]; exact (Below.heap_alloc _ _ _ (by simp)).trans (heap_alloc_new w _)
  have hy1 : W1.heap[g + 1]? = some (.cells #[.int .i64 s, .int .i64 m] 97) := by rw [← hW1, ← hg]; simpa using heap_alloc_new (w.alloc (.cells #[.slice A n c, .slice B N d] 35)) (.cells #[.int .i64 s, .int .i64 m] 97)
  have HCK := hid (refCheck_any st ca _ _ W1 (hs.below hb1) (hc.below hb1))
  rw [hn, hck] at HCK
  have HNW := hid (fun (X : World) (hX : Below w.heap.size w X) (hl : st.length ≤ 1000000) (h0 : chkC st.length ca = 0) => newest_any st ca _ _ X (hs.below hX) hsn (hc.below hX) hl h0)
  have HSL := hid hs.1
  have HCL : Hid (∀ x ∈ ca, x.2.length = 8 ∧ B8 x.2) := hid (fun x hx => ⟨(hc.1 x hx).1, (hc.1 x hx).2.1⟩)
  have HN := hid hn
  have HCE := hid hck
  have HB1 := hid hb1
  have HX1 := hid hx1
  have HY1 := hid hy1
  have HW1 := hid hW1
  have HG := hid hg
  have x0 := cell_of_row _ _ 0 _ _ _ hx1
  have x1 := cell_of_row _ _ 1 _ _ _ hx1
  clear hs hsn hc hn hN hck hb1 hx1 hy1 hW1 hg
  go_enter Try.func49, Try.ntmps49
  go_upto_region 1 with fail
  rw [HW1.out, HG.out]
  go_wp2_with fail
  refine HCK.out.mono ?_
  rintro e w2 ⟨rfl, hb2⟩
  have hx2 := (hb2.block _ (box_lt HX1.out)).trans HX1.out
  have hy2 := (hb2.block _ (box_lt HY1.out)).trans HY1.out
  have HX2 := hid hx2
  have HY2 := hid hy2
  have HB2 := hid (HB1.out.trans (hb2.mono HB1.out.size))
  clear hb2 HCK x0 x1
  by_cases hc0 : ck = 0
  rotate_left
  · have d1 : (ck != 0) = true := by rw [bne_iff_ne]; exact hc0
    have HQ : Hid (readE n ca s m = ck) := hid (by unfold readE; rw [HCE.out, if_pos hc0])
    have HC0 := hid hc0
    clear hc0 hx2 hy2
    go_wp2_with fail
    go_ret2
    exact ⟨HB2.out, .inl ⟨ck, HQ.out, HC0.out, rfl⟩⟩
  subst hc0
  obtain ⟨hn4, hcc0⟩ := chkD_C HCE.out
  have HNW := hid (fun X hX => HNW.out X hX (by rw [HN.out]; omega) (by rw [HN.out]; exact hcc0))
  have HRE : Hid (readE n ca s m = if insB n s m = false then 2 else 0) := hid (by unfold readE; rw [HCE.out]; rfl)
  have x0 := cell_of_row _ _ 0 _ _ _ hx2
  have y0 := cell_of_row _ _ 0 _ _ _ hy2
  have y1 := cell_of_row _ _ 1 _ _ _ hy2
  by_cases hs0 : s < 0
  · have e0 : decide (s < 0) = true := decide_eq_true hs0
    have HQ : Hid (readE n ca s m = 2) := hid (HRE.out.trans (if_pos (by unfold insB; exact decide_eq_false (by omega))))
    clear hs0 hx2 hy2
    go_wp2_with fail
    go_ret2
    exact ⟨HB2.out, .inl ⟨2, HQ.out, by decide, rfl⟩⟩
  have e0 : decide (s < 0) = false := decide_eq_false hs0
  by_cases hm0 : m < 0
  · have e1 : decide (m < 0) = true := decide_eq_true hm0
    have HQ : Hid (readE n ca s m = 2) := hid (HRE.out.trans (if_pos (by unfold insB; exact decide_eq_false (by omega))))
    clear hs0 hm0 hx2 hy2
    go_wp2_with fail
    go_ret2
    exact ⟨HB2.out, .inl ⟨2, HQ.out, by decide, rfl⟩⟩
  have e1 : decide (m < 0) = false := decide_eq_false hm0
  by_cases hm1 : (n : Int) < m
  · have e2 : decide ((n : Int) < m) = true := decide_eq_true hm1
    have HQ : Hid (readE n ca s m = 2) := hid (HRE.out.trans (if_pos (by unfold insB; exact decide_eq_false (by omega))))
    clear hs0 hm0 hm1 hx2 hy2
    go_wp2_with fail
    go_ret2
    exact ⟨HB2.out, .inl ⟨2, HQ.out, by decide, rfl⟩⟩
  have e2 : decide ((n : Int) < m) = false := decide_eq_false hm1
  obtain ⟨q, hq⟩ : ∃ q, (n : Int) - m = q := ⟨_, rfl⟩
  have e3 : IntKind.i64.wrap ((n : Int) - m) = q := by rw [IntKind.wrap_i64]; omega
  by_cases hs1 : q < s
  · have e4 : decide (q < s) = true := decide_eq_true hs1
    have HQ : Hid (readE n ca s m = 2) := hid (HRE.out.trans (if_pos (by unfold insB; exact decide_eq_false (by omega))))
    clear hs0 hm0 hm1 hs1 hx2 hy2 hq
    go_wp2_with fail
    go_ret2
    exact ⟨HB2.out, .inl ⟨2, HQ.out, by decide, rfl⟩⟩
  have e4 : decide (q < s) = false := decide_eq_false hs1
  have HQ : Hid (readE n ca s m = 0) := hid (HRE.out.trans (if_neg (by unfold insB; rw [decide_eq_true (by omega)]; simp)))
  obtain ⟨i, rfl⟩ : ∃ i : Nat, s = (i : Int) := ⟨s.toNat, by omega⟩
  obtain ⟨k, rfl⟩ : ∃ k : Nat, m = (k : Int) := ⟨m.toNat, by omega⟩
  have hik : i + k ≤ n := by omega
  have e5 : IntKind.i64.wrap ((i : Int) + (k : Int)) = (i : Int) + (k : Int) := by rw [IntKind.wrap_i64]; omega
  have HK := hid (fun (X : World) (hX : Below w2.heap.size w2 X) => (show X.cell? ⟨g, 0, none⟩ = some (.slice A n c) ∧ X.cell? ⟨g, 1, none⟩ = some (.slice B N d) ∧ X.cell? ⟨g + 1, 0, none⟩ = some (.int .i64 (i : Int)) ∧ X.cell? ⟨g + 1, 1, none⟩ = some (.int .i64 (k : Int)) from (by
    have h1 := (hX.block _ (box_lt hx2)).trans hx2
    have h2 := (hX.block _ (box_lt hy2)).trans hy2
    exact ⟨cell_of_row _ _ 0 _ _ _ h1, cell_of_row _ _ 1 _ _ _ h1, cell_of_row _ _ 0 _ _ _ h2, cell_of_row _ _ 1 _ _ _ h2⟩)))
  clear hx2 hy2 hs0 hm0 hm1 hs1 hq
  go_upto_region 6 with fail
  clear x0 y0 y1 e0 e1 e2 e3 e4
  refine region_tail 10 (fun X => X.cell? ⟨g, 0, none⟩ = some (.slice A n c) ∧ X.cell? ⟨g, 1, none⟩ = some (.slice B N d) ∧ X.cell? ⟨g + 1, 0, none⟩ = some (.int .i64 (i : Int)) ∧ X.cell? ⟨g + 1, 1, none⟩ = some (.int .i64 (k : Int))) (by kernel_rfl) ?_
  obtain ⟨X0, hX0⟩ : ∃ X, w2.drew = X := ⟨_, rfl⟩
  have hB0 : Below w2.heap.size w2 X0 := by rw [← hX0]; exact (Below.refl w2.heap.size w2).drew
  have hHeld := HK.out X0 hB0
  rw [hX0]
  clear hX0
  refine' wpAnyT_take (i := 0) (oi := ?oia0) (v := ?va0) ?hia0 (by kernel_rfl) (by kernel_rfl) ?hqa0 ?hya0 hHeld ?resta0
  case hia0 => (simp only [List.getElem?_toArray, List.getElem?_cons_zero]; rfl)
  case hqa0 => exact fun _ _ _ h => h
  case hya0 => (refine Or.inl ⟨by rfl, ?_⟩; intro w' hSw; (try dsimp only at hSw); go_simp; try with_reducible rfl)
  (try simp only [Act.put, List.setIfInBounds_toArray, List.set_cons_zero, List.set_cons_succ])
  refine' wpAnyT_take (i := 2) (oi := ?oia2) (v := ?va2) ?hia2 (by kernel_rfl) (by kernel_rfl) ?hqa2 ?hya2 hHeld ?resta2
  case hia2 => (simp only [List.getElem?_toArray, List.getElem?_cons_zero, List.getElem?_cons_succ]; rfl)
  case hqa2 => exact fun _ _ _ h => h
  case hya2 => (refine Or.inl ⟨by rfl, ?_⟩; intro w' hSw; (try dsimp only at hSw); go_simp; try with_reducible rfl)
  (try simp only [Act.put, List.setIfInBounds_toArray, List.set_cons_zero, List.set_cons_succ])
  refine' wpAnyT_take (i := 3) (oi := ?oia3) (v := ?va3) ?hia3 (by kernel_rfl) (by kernel_rfl) ?hqa3 ?hya3 hHeld ?resta3
  case hia3 => (simp only [List.getElem?_toArray, List.getElem?_cons_zero, List.getElem?_cons_succ]; rfl)
  case hqa3 => exact fun _ _ _ h => h
  case hya3 => (refine Or.inl ⟨by rfl, ?_⟩; intro w' hSw; (try dsimp only at hSw); go_simp; try with_reducible rfl)
  (try simp only [Act.put, List.setIfInBounds_toArray, List.set_cons_zero, List.set_cons_succ])
  refine' wpAnyT_take (i := 4) (oi := ?oia4) (v := ?va4) ?hia4 (by kernel_rfl) (by kernel_rfl) ?hqa4 ?hya4 hHeld ?resta4
  case hia4 => (simp only [List.getElem?_toArray, List.getElem?_cons_zero, List.getElem?_cons_succ]; rfl)
  case hqa4 => exact fun _ _ _ h => h
  case hya4 => (refine Or.inl ⟨by rfl, ?_⟩; intro w' hSw; (try dsimp only at hSw); go_simp; try with_reducible rfl)
  (try simp only [Act.put, List.setIfInBounds_toArray, List.set_cons_zero, List.set_cons_succ])
  refine' wpAnyT_take (i := 5) (oi := ?oia5) (v := ?va5) ?hia5 (by kernel_rfl) (by kernel_rfl) ?hqa5 ?hya5 hHeld ?resta5
  case hia5 => (simp only [List.getElem?_toArray, List.getElem?_cons_zero, List.getElem?_cons_succ]; rfl)
  case hqa5 => exact fun _ _ _ h => h
  case hya5 => (refine Or.inl ⟨by rfl, ?_⟩; intro w' hSw; (try dsimp only at hSw); go_simp; try with_reducible rfl)
  (try simp only [Act.put, List.setIfInBounds_toArray, List.set_cons_zero, List.set_cons_succ])
  refine' wpAnyT_take (i := 6) (oi := ?oia6) (v := ?va6) ?hia6 (by kernel_rfl) (by kernel_rfl) ?hqa6 ?hya6 hHeld ?resta6
  case hia6 => (simp only [List.getElem?_toArray, List.getElem?_cons_zero, List.getElem?_cons_succ]; rfl)
  case hqa6 => exact fun _ _ _ h => h
  case hya6 => (refine Or.inl ⟨by rfl, ?_⟩; intro w' hSw; (try dsimp only at hSw); go_simp; try with_reducible rfl)
  (try simp only [Act.put, List.setIfInBounds_toArray, List.set_cons_zero, List.set_cons_succ])
  refine' wpAnyT_take (i := 7) (oi := ?oia7) (v := ?va7) ?hia7 (by kernel_rfl) (by kernel_rfl) ?hqa7 ?hya7 hHeld ?resta7
  case hia7 => (simp only [List.getElem?_toArray, List.getElem?_cons_zero, List.getElem?_cons_succ]; rfl)
  case hqa7 => exact fun _ _ _ h => h
  case hya7 => (refine Or.inl ⟨by rfl, ?_⟩; intro w' hSw; (try dsimp only at hSw); go_simp; try with_reducible rfl)
  (try simp only [Act.put, List.setIfInBounds_toArray, List.set_cons_zero, List.set_cons_succ])
  refine' wpAnyT_take (i := 8) (oi := ?oia8) (v := ?va8) ?hia8 (by kernel_rfl) (by kernel_rfl) ?hqa8 ?hya8 hHeld ?resta8
  case hia8 => (simp only [List.getElem?_toArray, List.getElem?_cons_zero, List.getElem?_cons_succ]; rfl)
  case hqa8 => exact fun _ _ _ h => h
  case hya8 => (refine Or.inl ⟨by rfl, ?_⟩; intro w' hSw; (try dsimp only at hSw); go_simp; try with_reducible rfl)
  (try simp only [Act.put, List.setIfInBounds_toArray, List.set_cons_zero, List.set_cons_succ])
  refine' wpAnyT_one (i := 1) (o := ?oia1) (by kernel_rfl) ?hia1 (fun K hK => ?sta1)
  case hia1 => (simp only [List.getElem?_toArray, List.getElem?_cons_zero, List.getElem?_cons_succ]; rfl)
  go_simp
  go_at_call 61
  refine (HNW.out X0 (HB2.out.trans (hB0.mono HB2.out.size))).mono ?_
  rintro e X1 ⟨v1, rfl, ho1, hbc⟩
  rw [newL_len, HN.out] at ho1
  obtain ⟨A1, c1, rfl⟩ := ownAny_form ho1
  have hB1 : Below w2.heap.size w2 X1 := hB0.trans (hbc.mono hB0.size)
  have HO1 := hid ho1
  clear hbc hHeld
  have hHeld := HK.out X1 hB1
  have hcc : n ≤ c1 := by
    rcases ho1.2 with ⟨e, e2⟩ | ⟨k, cap, cur, e, _, _, h1, _⟩
    · cases e; omega
    · injection e with _ _ e
      subst e
      exact h1
  have hsl := fun X => run_slice22 A1 n c1 i (i + k) (i : Int) ((i : Int) + (k : Int)) rfl (by omega) (by omega) (by omega) X
  clear ho1
  refine hK.out _ _ (fun _ => hHeld) ?_
  clear hK K
  (try simp only [Act.put, List.setIfInBounds_toArray, List.set_cons_zero, List.set_cons_succ])
  refine' wpAnyT_one (i := 9) (o := ?oia9) (by kernel_rfl) ?hia9 (fun K hK => ?sta9)
  case hia9 => (simp only [List.getElem?_toArray, List.getElem?_cons_zero, List.getElem?_cons_succ]; rfl)
  go_simp
  refine hK.out _ _ (fun _ => hHeld) ?_
  clear hK K
  (try simp only [Act.put, List.setIfInBounds_toArray, List.set_cons_zero, List.set_cons_succ])
  refine' wpAnyT_one (i := 10) (o := ?oia10) (by kernel_rfl) ?hia10 (fun K hK => ?sta10)
  case hia10 => (simp only [List.getElem?_toArray, List.getElem?_cons_zero, List.getElem?_cons_succ]; rfl)
  go_simp
  refine hK.out _ _ (fun h => absurd h (by decide)) ?_
  clear hK K
  (try simp only [Act.put, List.setIfInBounds_toArray, List.set_cons_zero, List.set_cons_succ])
  refine' wpAnyT_one (i := 11) (o := ?oia11) (by kernel_rfl) ?hia11 (fun K hK => ?sta11)
  case hia11 => (simp only [List.getElem?_toArray, List.getElem?_cons_zero, List.getElem?_cons_succ]; rfl)
  go_simp
  refine hK.out _ _ (fun h => absurd h (by decide)) ?_
  clear hK K
  (try simp only [Act.put, List.setIfInBounds_toArray, List.set_cons_zero, List.set_cons_succ])
  refine wpAnyT_done (by kernel_rfl) ?_ _
  go_wp2_with fail
  go_ret2
  refine ⟨HB2.out.trans (hB1.mono HB2.out.size), .inr ⟨HQ.out, _, rfl, ?_⟩⟩
  have hso : Sec X1 (.slice A1 n c1) (newL st ca) := by
    have hh := HO1.out
    have hln : (newL st ca).length = n := by rw [newL_len]; exact HN.out
    rw [← hln] at hh ⊢
    exact sec_of_own hh (newL_secs HSL.out HCL.out)
  have hm := sec_mid hso i (i + k) (Nat.le_add_right _ _) (by rw [newL_len, HN.out]; exact hik)
  have e9 : i + k - i = k := by omega
  rw [e9] at hm
  simpa using hm
end Go.Proofs.Ytnocgfhcamnjdaa
