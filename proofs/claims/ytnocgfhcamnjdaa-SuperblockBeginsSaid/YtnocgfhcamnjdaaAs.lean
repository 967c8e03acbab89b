/- Superblock: Load 15, Store 18. -/
import Derived.Test.YtnocgfhcamnjdaaAr
import Derived.Test.YtnocgfhcamnjdaaAe
namespace Go.Proofs.Ytnocgfhcamnjdaa
open Go.RowKit Go.Lib

theorem nst_val (l : List Sect) : ∀ k, 0 < (nst l k).2.2 → valB (nst l k).2.1 = true
  | 0, h => absurd h (by show ¬ (0 < 0); omega)
  | k + 1, h => by
    unfold nst nstep at h ⊢
    split at h
    · rename_i hc
      rw [if_pos hc]
      exact hc.2.1
    · rename_i hc
      rw [if_neg hc]
      exact nst_val l k h
theorem nst_idx (l : List Sect) : ∀ k, k ≤ 2 → (nst l k).1 ≤ 1
  | 0, _ => by show 0 ≤ 1; omega
  | k + 1, hk => by
    unfold nst nstep
    split
    · show k ≤ 1; omega
    · exact nst_idx l k (by omega)
theorem valB_le {c : List Nat} (h : valB c = true) : c.getD 0 0 ≤ 31 := by
  unfold valB at h
  rw [Bool.and_eq_true, decide_eq_true_iff] at h
  exact h.1
theorem readL_len {st : List Sect} {ca : List Ca} {a : Int} (h : readE st.length ca a 16 = 0) : (readL st ca a 16).length = 16 ∧ 0 ≤ a ∧ a ≤ 4080 := by
  unfold readL
  rw [if_pos h]
  unfold readE at h
  split at h
  · rename_i h1; exact absurd h h1
  · rename_i h1
    split at h
    · cases h
    · rename_i h2
      have h3 := (chkD_C (Decidable.of_not_not h1)).1
      have h4 : 0 ≤ a ∧ a + 16 ≤ st.length := by
        unfold insB at h2
        simp at h2
        omega
      rw [List.length_take, List.length_drop, newL_len]
      refine ⟨?_, h4.1, by omega⟩
      show min 16 _ = 16
      omega
/-- What Load gives: an error, the payload, the generation. -/
def loadR (st : List Sect) (ca : List Ca) (a : Int) : Int × List Nat × Nat :=
  if readE st.length ca a 16 = 0 then (if 0 < (newS (readL st ca a 16)).2.2 then (0, payL (newS (readL st ca a 16)).2.1, (newS (readL st ca a 16)).2.2) else (9, [], 0)) else (readE st.length ca a 16, [], 0)
def LoadQ (w : World) (r : Int × List Nat × Nat) (e : Ending) (w' : World) : Prop := ∃ u, e = .returned (.tuple #[u, .int .i64 (r.2.2 : Int), .int .i64 r.1]) ∧ Byt w' u r.2.1 ∧ Below w.heap.size w w'
theorem byt_nil (w : World) : Byt w (.slice none 0 0) [] := ⟨(fun x (hx : x ∈ []) => by cases hx), nilOk_nil, arr_nil w 1⟩
set_option maxHeartbeats 1000000 in
set_option maxRecDepth 100000 in
theorem load_any (st : List Sect) (ca : List Ca) (sv cv : Value) (a : Int) (w : World) (hs : Sec w sv st) (hsn : NilOk sv) (hc : Cas w cv ca) (hr : R64 a) (hca : ca.length ≤ 500000) :
    Calls Try.prog 15 #[.agg #[sv, cv], .int .i64 a] w (LoadQ w (loadR st ca a)) := by
  obtain ⟨A, c, rfl⟩ := sec_form hs
  obtain ⟨B, d, rfl⟩ := cas_form hc
  obtain ⟨n, hn⟩ : ∃ n, st.length = n := ⟨_, rfl⟩
  obtain ⟨m, hm⟩ : ∃ n, ca.length = n := ⟨_, rfl⟩
  obtain ⟨g, hg⟩ : ∃ g, w.heap.size = g := ⟨_, rfl⟩
  obtain ⟨W1, hW1⟩ : ∃ X, w.alloc (.cells #[.slice A n c, .slice B m d] 35) = X := ⟨_, rfl⟩
  have hb1 : Below w.heap.size w W1 := by rw [← hW1]; exact al1 _ _
  have hx1 : W1.heap[g]? = some (.cells #[.slice A n c, .slice B m d] 35) := by rw [← hW1, ← hg]; exact heap_alloc_new _ _
  obtain ⟨er, her⟩ : ∃ z, readE st.length ca a 16 = z := ⟨_, rfl⟩
  obtain ⟨L, hL⟩ : ∃ z, readL st ca a 16 = z := ⟨_, rfl⟩
  have HLL : Hid (er = 0 → L.length = 16 ∧ 0 ≤ a ∧ a ≤ 4080) := hid (fun h => by
    rw [← hL]
    exact readL_len (her.trans h))
  have HRD := hid (sbRead_any st ca _ _ a W1 (hs.below hb1) hsn (hc.below hb1) hr hca)
  have HRO : Hid (∀ e w', ReadQ W1 st ca a 16 e w' → ∃ A c, e = .returned (.tuple #[.slice A L.length c, .int .i64 er]) ∧ Sec w' (.slice A L.length c) L ∧ Below W1.heap.size W1 w') := hid (fun e w' h => by
    have h := readQ_open h
    rw [hL, her] at h
    exact h)
  rw [hn, hm] at HRD
  rw [hn, hm]
  have x0 := cell_of_row _ _ 0 _ _ _ hx1
  have x1 := cell_of_row _ _ 1 _ _ _ hx1
  have HB1 := hid hb1
  have HW1 := hid hW1
  have HG := hid hg
  have HQ : Hid (loadR st ca a = if er = 0 then (if 0 < (newS L).2.2 then (0, payL (newS L).2.1, (newS L).2.2) else (9, [], 0)) else (er, [], 0)) := hid (by
    unfold loadR
    rw [her, hL])
  obtain ⟨r, hr9⟩ : ∃ r, loadR st ca a = r := ⟨_, rfl⟩
  rw [hr9] at HQ ⊢
  clear hs hsn hc hb1 hx1 hW1 hg hn hm her hL hr9
  go_enter Try.func15, Try.ntmps15
  go_upto_region 1 with fail
  rw [HW1.out, HG.out]
  by_cases h0 : er = 0
  · subst h0
    have hL16 := (HLL.out rfl).1
    go_upto_region 4 with (go_at_call 33; refine HRD.out.mono ?_; intro e X hQ; obtain ⟨A8, c8, rfl, hs8, hb8⟩ := HRO.out _ _ hQ; have HS8 := hid hs8; have HB8 := hid (below_both HB1.out hb8); clear hQ hs8 hb8)
    obtain ⟨i, hi⟩ : ∃ i, (newS L).1 = i := ⟨_, rfl⟩
    obtain ⟨C, hC⟩ : ∃ C, (newS L).2.1 = C := ⟨_, rfl⟩
    obtain ⟨k, hk⟩ : ∃ k, (newS L).2.2 = k := ⟨_, rfl⟩
    have hgd := nst_good HS8.out.1 hL16 2 (Nat.le_refl _)
    have hCL : C.length = 32 := hC ▸ hgd.1
    have hC8 : B8 C := hC ▸ hgd.2.1
    have hkl : k < 4294967296 := hk ▸ hgd.2.2
    have hwk : IntKind.i64.wrap (k : Int) = (k : Int) := by rw [IntKind.wrap_i64]; omega
    have hwk : IntKind.i64.wrap (k : Int) = (k : Int) := by rw [IntKind.wrap_i64]; omega
    have hval : 0 < k → C.getD 0 0 ≤ 31 := fun h => valB_le (hC ▸ nst_val L 2 (hk ▸ h))
    have HNW := hid (sbNewest_any L _ X HS8.out hL16)
    rw [hi, hC, hk] at HNW
    rw [hL16] at HNW
    rw [hC, hk] at HQ
    obtain ⟨CB, hCB⟩ : ∃ X, C.map byteV = X := ⟨_, rfl⟩
    obtain ⟨BB, hBB⟩ : ∃ X, cBlk C k = X := ⟨_, rfl⟩
    have HCL : Hid (CB.length = 32) := hid (by rw [← hCB, List.length_map]; exact hCL)
    have HBL : Hid (BB.length = 33) := hid (by rw [← hBB]; exact cBlk_len hCL)
    have HB1c : Hid (∀ v ∈ BB, v.oneCell' = true) := hid (by rw [← hBB]; exact cBlk_one _ _)
    have HBX : Hid (∀ W : World, ∀ p, W.heap[p]? = some (.cells BB.toArray 71) → ∀ (j : Nat) (u : Value), CB[j]? = some u → W.cell? ⟨p, j, none⟩ = some u) := hid (fun W p h => by
      rw [← hBB] at h
      exact hCB ▸ cBlk_con h)
    have HBG : Hid (∀ W : World, ∀ p, W.heap[p]? = some (.cells BB.toArray 71) → W.cell? ⟨p, 32, none⟩ = some (.int .u32 (k : Int))) := hid (fun W p h => by
      rw [← hBB] at h
      exact cBlk_gen h hCL)
    have HC35 : Hid (0 < k → ∀ X, Calls Try.prog 35 #[.agg CB.toArray] X fun e w' => ∃ u, e = .returned u ∧ Hid (Byt w' u (payL C)) ∧ Below X.heap.size X w') := hid (fun h0 X => by
      rw [← hCB]
      refine (payload_any C X hCL hC8 (hval h0)).mono ?_
      rintro e w' ⟨u, he, ho, hb⟩
      exact ⟨u, he, hid (byt_of_own ho (payL_b8 hC8)), hb⟩)
    rw [hBB] at HNW
    clear hi hC hk hgd hCL hC8 hval hCB hBB hL16
    by_cases hk0 : 0 < k
    · obtain rfl : r = (0, payL C, k) := by rw [HQ.out]; simp [hk0]
      have HC35 := hid (HC35.out hk0)
      rw [decide_eq_true hk0] at HNW
      go_upto_region 7 with (first
        | (go_at_call 34; refine HNW.out.mono ?_; rintro e X1 ⟨rfl, hb1⟩; obtain ⟨p10, hp6⟩ : ∃ g, X1.heap.size = g := ⟨_, rfl⟩; obtain ⟨W2, hW2⟩ : ∃ X, X1.alloc (.cells z33.toArray 71) = X := ⟨_, rfl⟩; have hy2 : W2.heap[p10]? = some (.cells z33.toArray 71) := (by rw [← hW2, ← hp6]; exact heap_alloc_new _ _); have hb1' : Below w.heap.size w X1 := HB8.out.trans (hb1.mono HB8.out.size); have hg6 : w.heap.size ≤ p10 := (by rw [← hp6]; exact hb1'.size); obtain ⟨W3, hr3, hy3, _, hbw3⟩ := set_row71 (cs := BB) hy2 HBL.out z33_len HB1c.out; have HB3 : Hid (Below w.heap.size w W3) := hid (hbw3 _ _ (hb1'.trans (Below.mono (by rw [← hW2]; exact al1 _ _) hb1'.size)) hg6); have HY3 := hid hy3; have HR3 := hid hr3; have HA2 := hid (show (Instr.alloc 71 true (.tuple #[])).run Try.prog X1 = .ok (.pointer (some ⟨p10, 0, none⟩)) W2 from (by rw [← hW2, ← hp6]; exact run_alloc71 X1)); clear hb1 hb1' hp6 hW2 hy2 hg6 hr3 hy3 hbw3)
        | (refine wpl_alloc rfl 71 rfl _ HA2.out ?_)
        | (refine wpl_store rfl 71 (.tmp 10) (.tmp 25) rfl _ _ rfl rfl HR3.out ?_)
        | fail)
      have HBX := hid (fun W => HBX.out W p10)
      refine region_tail 7 (fun X => X.heap[p10]? = some (.cells BB.toArray 71) ∧ X.cell? ⟨p10, 32, none⟩ = some (.int .u32 (k : Int))) (by kernel_rfl) ?_
      obtain ⟨Y0, hY0⟩ : ∃ X, W3.drew = X := ⟨_, rfl⟩
      have hB0 : Below W3.heap.size W3 Y0 := by rw [← hY0]; exact (Below.refl W3.heap.size W3).drew
      have HBY0 : Hid (Below w.heap.size w Y0) := hid (HB3.out.trans (hB0.mono HB3.out.size))
      have hh : Y0.heap[p10]? = some (.cells BB.toArray 71) := (hB0.block _ (box_lt HY3.out)).trans HY3.out
      have hHeld : Y0.heap[p10]? = some (.cells BB.toArray 71) ∧ Y0.cell? ⟨p10, 32, none⟩ = some (.int .u32 (k : Int)) := ⟨hh, HBG.out _ _ hh⟩
      rw [hY0]
      clear hY0 hB0 hh
      refine' wpAnyT_take (i := 0) (oi := ?oix0) (v := ?vx0) ?hix0 (by kernel_rfl) (by kernel_rfl) ?hqx0 ?hyx0 hHeld ?restx0
      case hix0 => (simp only [List.getElem?_toArray, List.getElem?_cons_zero]; rfl)
      case hqx0 => exact fun _ _ _ h => h
      case hyx0 => (refine Or.inl ⟨by rfl, ?_⟩; intro w' hSw; (try dsimp only at hSw); go_simp; try with_reducible rfl)
      (try simp only [Act.put, List.setIfInBounds_toArray, List.set_cons_zero, List.set_cons_succ])
      refine' wpAnyT_take (i := 1) (oi := ?oix1) (v := ?vx1) ?hix1 (by kernel_rfl) (by kernel_rfl) ?hqx1 ?hyx1 hHeld ?restx1
      case hix1 => (simp only [List.getElem?_toArray, List.getElem?_cons_zero, List.getElem?_cons_succ]; rfl)
      case hqx1 => exact fun _ _ _ h => h
      case hyx1 => (refine Or.inl ⟨by rfl, ?_⟩; intro w' hSw; refine exec_load 67 (.tmp 29) ?_ (.pointer (some ⟨p10, 0, none⟩)) (.agg CB.toArray) ?_ (run_loadAt67p w' p10 CB HCL.out (HBX.out w' hSw.1)) <;> rfl)
      (try simp only [Act.put, List.setIfInBounds_toArray, List.set_cons_zero, List.set_cons_succ])
      refine' wpAnyT_take (i := 3) (oi := ?oix3) (v := ?vx3) ?hix3 (by kernel_rfl) (by kernel_rfl) ?hqx3 ?hyx3 hHeld ?restx3
      case hix3 => (simp only [List.getElem?_toArray, List.getElem?_cons_zero, List.getElem?_cons_succ]; rfl)
      case hqx3 => exact fun _ _ _ h => h
      case hyx3 => (refine Or.inl ⟨by rfl, ?_⟩; intro w' hSw; (try dsimp only at hSw); go_simp; try with_reducible rfl)
      (try simp only [Act.put, List.setIfInBounds_toArray, List.set_cons_zero, List.set_cons_succ])
      refine' wpAnyT_take (i := 4) (oi := ?oix4) (v := ?vx4) ?hix4 (by kernel_rfl) (by kernel_rfl) ?hqx4 ?hyx4 hHeld ?restx4
      case hix4 => (simp only [List.getElem?_toArray, List.getElem?_cons_zero, List.getElem?_cons_succ]; rfl)
      case hqx4 => exact fun _ _ _ h => h
      case hyx4 => (refine Or.inl ⟨by rfl, ?_⟩; intro w' hSw; (try dsimp only at hSw); go_simp; try with_reducible rfl)
      (try simp only [Act.put, List.setIfInBounds_toArray, List.set_cons_zero, List.set_cons_succ])
      refine' wpAnyT_take (i := 5) (oi := ?oix5) (v := ?vx5) ?hix5 (by kernel_rfl) (by kernel_rfl) ?hqx5 ?hyx5 hHeld ?restx5
      case hix5 => (simp only [List.getElem?_toArray, List.getElem?_cons_zero, List.getElem?_cons_succ]; rfl)
      case hqx5 => exact fun _ _ _ h => h
      case hyx5 => (refine Or.inl ⟨by rfl, ?_⟩; intro w' hSw; (try dsimp only at hSw); go_simp; try with_reducible rfl)
      (try simp only [Act.put, List.setIfInBounds_toArray, List.set_cons_zero, List.set_cons_succ])
      refine' wpAnyT_one (i := 2) (o := ?oix2) (by kernel_rfl) ?hix2 (fun K hK => ?stx2)
      case hix2 => (simp only [List.getElem?_toArray, List.getElem?_cons_zero, List.getElem?_cons_succ]; rfl)
      go_simp
      go_at_call 35
      refine (HC35.out Y0).mono ?_
      rintro e Y1 ⟨u, rfl, HBY, hb01⟩
      have HBY1 : Hid (Below w.heap.size w Y1) := hid (HBY0.out.trans (hb01.mono HBY0.out.size))
      have hHeld : Y1.heap[p10]? = some (.cells BB.toArray 71) ∧ Y1.cell? ⟨p10, 32, none⟩ = some (.int .u32 (k : Int)) := ⟨(hb01.block _ (box_lt hHeld.1)).trans hHeld.1, (hb01.cell (p := ⟨p10, 32, none⟩) (box_lt hHeld.1)).trans hHeld.2⟩
      clear hb01
      refine hK.out _ _ (fun _ => hHeld) ?_
      clear hK K
      (try simp only [Act.put, List.setIfInBounds_toArray, List.set_cons_zero, List.set_cons_succ])
      refine' wpAnyT_one (i := 6) (o := ?oix6) (by kernel_rfl) ?hix6 (fun K hK => ?stx6)
      case hix6 => (simp only [List.getElem?_toArray, List.getElem?_cons_zero, List.getElem?_cons_succ]; rfl)
      go_simp
      refine hK.out _ _ (fun _ => hHeld) ?_
      clear hK K
      (try simp only [Act.put, List.setIfInBounds_toArray, List.set_cons_zero, List.set_cons_succ])
      refine' wpAnyT_one (i := 7) (o := ?oix7) (by kernel_rfl) ?hix7 (fun K hK => ?stx7)
      case hix7 => (simp only [List.getElem?_toArray, List.getElem?_cons_zero, List.getElem?_cons_succ]; rfl)
      go_simp
      refine hK.out _ _ (fun h => absurd h (by decide)) ?_
      clear hK K
      (try simp only [Act.put, List.setIfInBounds_toArray, List.set_cons_zero, List.set_cons_succ])
      refine' wpAnyT_one (i := 8) (o := ?oix8) (by kernel_rfl) ?hix8 (fun K hK => ?stx8)
      case hix8 => (simp only [List.getElem?_toArray, List.getElem?_cons_zero, List.getElem?_cons_succ]; rfl)
      go_simp
      refine hK.out _ _ (fun h => absurd h (by decide)) ?_
      clear hK K
      (try simp only [Act.put, List.setIfInBounds_toArray, List.set_cons_zero, List.set_cons_succ])
      refine wpAnyT_done (by kernel_rfl) ?_ _
      go_wp2_with fail
      go_ret3
      exact ⟨u, rfl, HBY.out, HBY1.out⟩
    · obtain rfl : k = 0 := by omega
      obtain rfl : r = (9, [], 0) := by rw [HQ.out]; simp
      go_wp2_with (first
        | (go_at_call 34; refine HNW.out.mono ?_; rintro e X1 ⟨rfl, hb1⟩; obtain ⟨p10, hp6⟩ : ∃ g, X1.heap.size = g := ⟨_, rfl⟩; obtain ⟨W2, hW2⟩ : ∃ X, X1.alloc (.cells z33.toArray 71) = X := ⟨_, rfl⟩; have hy2 : W2.heap[p10]? = some (.cells z33.toArray 71) := (by rw [← hW2, ← hp6]; exact heap_alloc_new _ _); have hb1' : Below w.heap.size w X1 := HB8.out.trans (hb1.mono HB8.out.size); have hg6 : w.heap.size ≤ p10 := (by rw [← hp6]; exact hb1'.size); obtain ⟨W3, hr3, hy3, _, hbw3⟩ := set_row71 (cs := BB) hy2 HBL.out z33_len HB1c.out; have HB3 : Hid (Below w.heap.size w W3) := hid (hbw3 _ _ (hb1'.trans (Below.mono (by rw [← hW2]; exact al1 _ _) hb1'.size)) hg6); have HR3 := hid hr3; have HA2 := hid (show (Instr.alloc 71 true (.tuple #[])).run Try.prog X1 = .ok (.pointer (some ⟨p10, 0, none⟩)) W2 from (by rw [← hW2, ← hp6]; exact run_alloc71 X1)); clear hb1 hb1' hp6 hW2 hy2 hg6 hr3 hy3 hbw3)
        | (refine wpl_alloc rfl 71 rfl _ HA2.out ?_)
        | (refine wpl_store rfl 71 (.tmp 10) (.tmp 25) rfl _ _ rfl rfl HR3.out ?_)
        | fail)
      go_ret3
      exact ⟨_, rfl, byt_nil _, HB3.out⟩
  · obtain rfl : r = (er, [], 0) := by rw [HQ.out, if_neg h0]
    have hne : (er != 0) = true := by rw [bne_iff_ne]; exact h0
    go_wp2_with (go_at_call 33; refine HRD.out.mono ?_; intro e X hQ; obtain ⟨A8, c8, rfl, hs8, hb8⟩ := HRO.out _ _ hQ; have HB8 := hid (below_both HB1.out hb8); clear hQ hs8 hb8)
    go_ret3
    exact ⟨_, rfl, byt_nil _, HB8.out⟩
end Go.Proofs.Ytnocgfhcamnjdaa
