/- The walk of DiskSyncs. -/
import Derived.Test.YtoefbgkeinhibaaXK
import Derived.Test.YtoefbgkeinhibaaVc
namespace Go.Proofs.Ytoefbgkeinhibaa
open Go.RowKit Go.Lib

theorem dk_form {w : World} {v : Value} {st : List Sect} {ca : List Ca} (h : Dk w v st ca) : ∃ A c B d, v = .agg #[.slice A st.length c, .slice B ca.length d] := by
  obtain ⟨sv, cv, rfl, h1, h2, h3⟩ := h
  obtain ⟨A, c, rfl⟩ := sec_form h1
  obtain ⟨B, d, rfl⟩ := cas_form h3
  exact ⟨A, c, B, d, rfl⟩
def RSyQ (w : World) (r : List Sect × List Ca) (e : Ending) (w' : World) : Prop := ∃ v, e = .returned v ∧ Dk w' v r.1 r.2 ∧ Below w.heap.size w w'
set_option maxHeartbeats 4000000 in
set_option maxRecDepth 100000 in
theorem refSyncs_any (st : List Sect) (ca : List Ca) (sv cv : Value) (w : World) (hs : Sec w sv st) (hsn : NilOk sv) (hc : Cas w cv ca) :
    Calls Try.prog 25 #[.agg #[sv, cv]] w (RSyQ w (syncS st ca)) := by
  by_cases hk : chkD st.length ca = 0
  · have hr : syncS st ca = (newL st ca, []) := by unfold syncS; rw [if_pos hk]
    rw [hr]
    refine (refSync_any st ca sv cv w hs hsn hc hk).mono ?_
    rintro e w' ⟨v, rfl, ho, hb⟩
    exact ⟨v, rfl, ho.dk, hb⟩
  have HR : Hid (syncS st ca = (st, ca)) := hid (by unfold syncS; rw [if_neg hk])
  have HDK : Hid (Dk w (.agg #[sv, cv]) st ca) := hid ⟨_, _, rfl, hs, hsn, hc⟩
  obtain ⟨A, c, rfl⟩ := sec_form hs
  obtain ⟨B, d, rfl⟩ := cas_form hc
  obtain ⟨n, hn⟩ : ∃ n, st.length = n := ⟨_, rfl⟩
  obtain ⟨m, hm⟩ : ∃ n, ca.length = n := ⟨_, rfl⟩
  rw [hn] at hs HDK hk ⊢
  rw [hm] at hc HDK ⊢
  obtain ⟨g, hg⟩ : ∃ g, w.heap.size = g := ⟨_, rfl⟩
  obtain ⟨W1, hW1⟩ : ∃ X, (w.alloc (.cells #[.slice A n c, .slice B m d] 25)).alloc (.cells #[.slice none 0 0, .slice none 0 0] 25) = X := ⟨_, rfl⟩
  have hb1 : Below w.heap.size w W1 := by rw [← hW1]; exact ((Below.refl _ w).alloc (Nat.le_refl _) _).alloc (by simp) _
  have hx1 : W1.heap[g]? = some (.cells #[.slice A n c, .slice B m d] 25) := by rw [← hW1, ← hg]; exact (Below.heap_alloc _ _ _ (by simp)).trans (heap_alloc_new w _)
  have hy1 : W1.heap[g + 1]? = some (.cells #[.slice none 0 0, .slice none 0 0] 25) := by rw [← hW1, ← hg]; simpa using heap_alloc_new (w.alloc (.cells #[.slice A n c, .slice B m d] 25)) (.cells #[.slice none 0 0, .slice none 0 0] 25)
  have hge1 : w.heap.size ≤ g + 1 := by omega
  obtain ⟨k0, hk0⟩ : ∃ k, chkD n ca = k := ⟨_, rfl⟩
  have HCK := hid (show Calls Try.prog 23 #[.agg #[.slice A n c, .slice B m d]] W1 fun e w' => e = .returned (.int .i64 k0) ∧ Below W1.heap.size W1 w' from by
    have h := refCheck_any st ca (.slice A n c) (.slice B m d) W1 (hs.below hb1) (hc.below hb1)
    rwa [hn, hk0] at h)
  have dk : (k0 != 0) = true := by rw [bne_iff_ne, ← hk0]; exact hk
  have HX1 := hid hx1
  have HY1 := hid hy1
  have HB1 := hid hb1
  have HW1 := hid hW1
  have HG := hid hg
  have x0 := cell_of_row _ _ 0 _ _ _ hx1
  have x1 := cell_of_row _ _ 1 _ _ _ hx1
  clear hs hc hsn hn hm hb1 hx1 hy1 hW1 hg hk0 hk
  go_enter Try.func25, Try.ntmps25
  go_upto_region 1 with fail
  rw [HW1.out, HG.out]
  go_upto_region 2 with (go_at_call 23; refine HCK.out.mono ?_; rintro e X1 ⟨rfl, hb2⟩)
  have HY2 := hid ((hb2.block _ (box_lt HY1.out)).trans HY1.out)
  have HX2 := hid ((hb2.block _ (box_lt HX1.out)).trans HX1.out)
  have HB2 := hid (HB1.out.trans (hb2.mono HB1.out.size))
  have z0 := cell_of_row _ _ 0 _ _ _ HX2.out
  have z1 := cell_of_row _ _ 1 _ _ _ HX2.out
  have y0 := cell_of_row _ _ 0 _ _ _ HY2.out
  have y1 := cell_of_row _ _ 1 _ _ _ HY2.out
  have f0 := box_fr HY2.out 0
  have f1 := box_fr HY2.out 1
  clear hb2 x0 x1
  go_wp2_with fail
  refine bodyPost_ret (results_c rfl _ _ (g + 1) _ rfl (disk_load (disk_set HY2.out _ _))) rfl ?_
  rw [HR.out]
  have hbb := (HB2.out.setCell (p := ⟨g + 1, 0, none⟩) hge1 (.slice A n c)).setCell (p := ⟨g + 1, 1, none⟩) hge1 (.slice B m d)
  exact ⟨_, rfl, HDK.out.below hbb, hbb⟩
theorem newQ_open {w : World} {n : Int} {e : Ending} {w' : World} (h : NewQ w n e w') : ∃ A c B d, e = .returned (.tuple #[.agg #[.slice A (if newB n = true then n.toNat else 0) c, .slice B 0 d], .int .i64 (if newB n = true then 0 else 2)]) ∧ Dk w' (.agg #[.slice A (if newB n = true then n.toNat else 0) c, .slice B 0 d]) (List.replicate (if newB n = true then n.toNat else 0) zs) [] ∧ Below w.heap.size w w' := by
  obtain ⟨⟨k, rfl, hB, v, rfl, ho⟩ | ⟨hB, rfl⟩, hb⟩ := h
  · have hd := dk_own ho (rep_secs k) (fun x (hx : x ∈ []) => by cases hx)
    obtain ⟨A, c, B, d, rfl⟩ := dk_form hd
    rw [if_pos hB, if_pos hB, Int.toNat_natCast]
    rw [List.length_replicate] at hd ⊢
    exact ⟨A, c, B, d, rfl, hd, hb⟩
  · rw [if_neg (by rw [hB]; decide), if_neg (by rw [hB]; decide)]
    exact ⟨none, 0, none, 0, rfl, dk_nil _, hb⟩
set_option maxHeartbeats 8000000 in
set_option maxRecDepth 100000 in
theorem syncs_any (v : Value) (st : List Sect) (ca : List Ca) (nn : Int) (w : World) (hd : Dk w v st ca) (_ : (Lit.int .i64 nn).wf = true) :
    Calls Try.prog 4 #[v, .int .i64 nn] w (TrueQ w) := by
  obtain ⟨sv, cv, rfl, hs1, hs2, hs3⟩ := hd
  obtain ⟨A, c, rfl⟩ := sec_form hs1
  obtain ⟨B, d, rfl⟩ := cas_form hs3
  obtain ⟨g, hg⟩ : ∃ g, w.heap.size = g := ⟨_, rfl⟩
  obtain ⟨W3, hW3⟩ : ∃ X, w.alloc (.cells #[.slice A st.length c, .slice B ca.length d] 25) = X := ⟨_, rfl⟩
  have hb3 : Below w.heap.size w W3 := by rw [← hW3]; exact al1 _ _
  have hx : W3.heap[g]? = some (.cells #[.slice A st.length c, .slice B ca.length d] 25) := by rw [← hW3, ← hg]; exact heap_alloc_new _ _
  have HB3 := hid hb3
  have HDK := hid (fun X (hX : Below W3.heap.size W3 X) => (show Sec X (.slice A st.length c) st ∧ Cas X (.slice B ca.length d) ca from ⟨hs1.below (hb3.trans (hX.mono hb3.size)), hs3.below (hb3.trans (hX.mono hb3.size))⟩))
  have HBX := hid (fun X (hX : Below W3.heap.size W3 X) => (hX.block _ (box_lt hx)).trans hx)
  have HSN := hid hs2
  have HAW := hid (fun W => awake_any W)
  have HW3 := hid hW3
  have HG := hid hg
  have HF := hid (few_any (.agg #[.slice A st.length c, .slice B ca.length d]) st ca W3 ⟨_, _, rfl, (HDK.out W3 (Below.refl _ _)).1, hs2, (HDK.out W3 (Below.refl _ _)).2⟩)
  have x0 := cell_of_row _ _ 0 _ _ _ hx
  have x1 := cell_of_row _ _ 1 _ _ _ hx
  clear hs1 hs2 hs3 hb3 hx hW3 hg
  obtain ⟨f1, hf1⟩ : ∃ b, fewD st ca = b := ⟨_, rfl⟩
  rw [hf1] at HF
  rcases f1 with _ | _
  · clear hf1
    go_enter Try.func4, Try.ntmps4
    go_upto_region 1 with fail
    rw [HW3.out, HG.out]
    go_upto_region 2 with (go_at_call 11; refine HF.out.mono ?_; rintro e X4 ⟨rfl, hb4⟩; have HB4 := hid hb4; clear hb4)
    clear x0 x1
    go_wp2_with (go_at_call 13; refine (HAW.out _).mono ?_; rintro e X5 ⟨rfl, hb5⟩; have HB5 := hid hb5; clear hb5)
    go_ret
    exact ⟨rfl, below_both HB3.out (below_both HB4.out HB5.out)⟩
  obtain ⟨hst, hca⟩ : st.length ≤ 400 ∧ ca.length ≤ 400 := by
    unfold fewD at hf1
    rw [Bool.and_eq_true] at hf1
    exact ⟨of_decide_eq_true hf1.1, of_decide_eq_true hf1.2⟩
  clear hf1
  obtain ⟨r, hr⟩ : ∃ r, syncS st ca = r := ⟨_, rfl⟩
  have HTC0 : Hid (r.2.length ≤ 1000000) := hid (by
    rw [← hr]
    unfold syncS
    split
    · exact Nat.zero_le _
    · dsimp only; omega)
  have HSY0 := hid (fun X (hX : Below W3.heap.size W3 X) => (by
    obtain ⟨q1, q2⟩ := HDK.out X hX
    have h := sync_any st ca _ _ X q1 HSN.out q2 (by omega) (by omega)
    rw [hr] at h
    exact h : Calls Try.prog 24 #[.agg #[.slice A st.length c, .slice B ca.length d]] X (SyQ X r)))
  have HSR0 := hid (fun X (hX : Below W3.heap.size W3 X) => (by
    obtain ⟨q1, q2⟩ := HDK.out X hX
    have h := refSyncs_any st ca _ _ X q1 HSN.out q2
    rw [hr] at h
    exact h : Calls Try.prog 25 #[.agg #[.slice A st.length c, .slice B ca.length d]] X (RSyQ X r)))
  have HUN0 := hid (fun X (hX : Below W3.heap.size W3 X) => unsynced_any st ca _ _ X (HDK.out X hX).1 (HDK.out X hX).2 (by omega))
  have HUR0 := hid (fun X (hX : Below W3.heap.size W3 X) => refUnsynced_any st ca _ _ X (HDK.out X hX).1 (HDK.out X hX).2 (by omega))
  have HCK0 := hid (fun X (hX : Below W3.heap.size W3 X) => check_any st ca _ _ X (HDK.out X hX).1 (HDK.out X hX).2)
  have HCF0 := hid (fun X (hX : Below W3.heap.size W3 X) => refCheck_any st ca _ _ X (HDK.out X hX).1 (HDK.out X hX).2)
  obtain ⟨k0, hk0⟩ : ∃ k, chkD st.length ca = k := ⟨_, rfl⟩
  rw [hk0] at HCK0 HCF0
  clear hr hk0 hst hca
  obtain ⟨n, hn⟩ : ∃ n, st.length = n := ⟨_, rfl⟩
  obtain ⟨m, hm⟩ : ∃ n, ca.length = n := ⟨_, rfl⟩
  rw [hn, hm] at x0 x1 HF HBX HW3 HSY0 HSR0 HUN0 HUR0 HCK0 HCF0
  rw [hn, hm]
  clear hn hm
  obtain ⟨ts, tc⟩ := r
  dsimp only at HTC0
  have HTC := HTC0
  obtain ⟨nl, hnl⟩ : ∃ k, (if newB nn = true then nn.toNat else 0) = k := ⟨_, rfl⟩
  obtain ⟨ne, hne⟩ : ∃ k : Int, (if newB nn = true then (0 : Int) else 2) = k := ⟨_, rfl⟩
  have HNO := hid (fun (w w' : World) (e : Ending) (h : NewQ w nn e w') => (by
    have h := newQ_open h
    rw [hnl, hne] at h
    exact h : ∃ A c B d, e = .returned (.tuple #[.agg #[.slice A nl c, .slice B 0 d], .int .i64 ne]) ∧ Dk w' (.agg #[.slice A nl c, .slice B 0 d]) (List.replicate nl zs) [] ∧ Below w.heap.size w w'))
  clear hnl hne
  go_enter Try.func4, Try.ntmps4
  go_upto_region 1 with fail
  rw [HW3.out, HG.out]
  go_upto_region 3 with (go_at_call 11; refine HF.out.mono ?_; rintro e X4 ⟨rfl, hb4⟩; have HB4 := hid hb4; clear hb4)
  clear x0 x1
  go_upto_region 4 with (go_at_call 20; refine (new_any nn X4).mono ?_; intro e Y5 hQ; obtain ⟨A5, c5, B5, d5, rfl, hk5, hb5⟩ := HNO.out _ _ _ hQ; have HK5 := hid hk5; have HY5 := hid hb5; clear hQ hk5 hb5)
  obtain ⟨W5, hW5⟩ : ∃ X, Y5.alloc (.cells #[.slice A5 nl c5, .slice B5 0 d5] 25) = X := ⟨_, rfl⟩
  obtain ⟨p5, hp5⟩ : ∃ p, Y5.heap.size = p := ⟨_, rfl⟩
  have hb5 : Below Y5.heap.size Y5 W5 := by rw [← hW5]; exact al1 _ _
  have hx5 : W5.heap[p5]? = some (.cells #[.slice A5 nl c5, .slice B5 0 d5] 25) := by rw [← hW5, ← hp5]; exact heap_alloc_new _ _
  rw [hW5, hp5]
  have HS5 : Hid (Below X4.heap.size X4 W5) := hid (below_both HY5.out hb5)
  have HBW5 : Hid (Below W3.heap.size W3 W5) := hid (below_both HB4.out HS5.out)
  have HP5 := hid (fun X (hX : Below W5.heap.size W5 X) => (show X.heap[p5]? = some (.cells #[.slice A5 nl c5, .slice B5 0 d5] 25) ∧ Dk X (.agg #[.slice A5 nl c5, .slice B5 0 d5]) (List.replicate nl zs) [] from ⟨(hX.block _ (box_lt hx5)).trans hx5, (HK5.out.below hb5).below hX⟩))
  clear hW5 hp5 hb5 hx5
  go_upto_region 5 with (go_at_call 21; refine (refNew_any nn W5).mono ?_; intro e Y7 hQ; obtain ⟨A7, c7, B7, d7, rfl, hk7, hb7⟩ := HNO.out _ _ _ hQ; have HK7 := hid hk7; have HY7 := hid hb7; clear hQ hk7 hb7)
  obtain ⟨W7, hW7⟩ : ∃ X, Y7.alloc (.cells #[.slice A7 nl c7, .slice B7 0 d7] 25) = X := ⟨_, rfl⟩
  obtain ⟨p7, hp7⟩ : ∃ p, Y7.heap.size = p := ⟨_, rfl⟩
  have hb7 : Below Y7.heap.size Y7 W7 := by rw [← hW7]; exact al1 _ _
  have hx7 : W7.heap[p7]? = some (.cells #[.slice A7 nl c7, .slice B7 0 d7] 25) := by rw [← hW7, ← hp7]; exact heap_alloc_new _ _
  rw [hW7, hp7]
  have HS7 : Hid (Below W5.heap.size W5 W7) := hid (below_both HY7.out hb7)
  have HBW7 : Hid (Below W3.heap.size W3 W7) := hid (below_both HBW5.out HS7.out)
  have HP7 := hid (fun X (hX : Below W7.heap.size W7 X) => (show X.heap[p7]? = some (.cells #[.slice A7 nl c7, .slice B7 0 d7] 25) ∧ Dk X (.agg #[.slice A7 nl c7, .slice B7 0 d7]) (List.replicate nl zs) [] from ⟨(hX.block _ (box_lt hx7)).trans hx7, (HK7.out.below hb7).below hX⟩))
  clear hW7 hp7 hb7 hx7
  obtain ⟨Wa, hWa⟩ : ∃ X, W7 = X := ⟨_, rfl⟩
  have HBA : Hid (Below W3.heap.size W3 Wa) := hid (by rw [← hWa]; exact HBW7.out)
  have HP5a := hid (fun X (hX : Below Wa.heap.size Wa X) => HP5.out X (below_both HS7.out (by rw [hWa]; exact hX)))
  have HP7a := hid (fun X (hX : Below Wa.heap.size Wa X) => HP7.out X (by rw [hWa]; exact hX))
  have HK := hid (fun X (hX : Below Wa.heap.size Wa X) => (show X.cell? ⟨g, 0, none⟩ = some (.slice A n c) ∧ X.cell? ⟨g, 1, none⟩ = some (.slice B m d) ∧ X.cell? ⟨p5, 0, none⟩ = some (.slice A5 nl c5) ∧ X.cell? ⟨p5, 1, none⟩ = some (.slice B5 0 d5) ∧ X.cell? ⟨p7, 0, none⟩ = some (.slice A7 nl c7) ∧ X.cell? ⟨p7, 1, none⟩ = some (.slice B7 0 d7) from (by
    have g1 := HBX.out X (below_both HBA.out hX)
    have g2 := (HP5a.out X hX).1
    have g3 := (HP7a.out X hX).1
    exact ⟨cell_of_row _ _ 0 _ _ _ g1, cell_of_row _ _ 1 _ _ _ g1, cell_of_row _ _ 0 _ _ _ g2, cell_of_row _ _ 1 _ _ _ g2, cell_of_row _ _ 0 _ _ _ g3, cell_of_row _ _ 1 _ _ _ g3⟩)))
  have HSM := hid (fun X (hX : Below Wa.heap.size Wa X) => same_eq (List.replicate nl zs) [] _ _ X (HP5a.out X hX).2 (HP7a.out X hX).2 (Nat.zero_le _))
  have HCK := hid (fun X (hX : Below Wa.heap.size Wa X) => HCK0.out X (below_both HBA.out hX))
  have HCF := hid (fun X (hX : Below Wa.heap.size Wa X) => HCF0.out X (below_both HBA.out hX))
  have dne : (ne != ne) = false := by simp
  have dk0 : (k0 != k0) = false := by simp
  rw [hWa]
  clear hWa
  refine region_tail 15 (fun X => X.cell? ⟨g, 0, none⟩ = some (.slice A n c) ∧ X.cell? ⟨g, 1, none⟩ = some (.slice B m d) ∧ X.cell? ⟨p5, 0, none⟩ = some (.slice A5 nl c5) ∧ X.cell? ⟨p5, 1, none⟩ = some (.slice B5 0 d5) ∧ X.cell? ⟨p7, 0, none⟩ = some (.slice A7 nl c7) ∧ X.cell? ⟨p7, 1, none⟩ = some (.slice B7 0 d7)) (by kernel_rfl) ?_
  obtain ⟨X0, hX0⟩ : ∃ X, Wa.drew = X := ⟨_, rfl⟩
  have hBX0 : Below Wa.heap.size Wa X0 := by rw [← hX0]; exact (Below.refl Wa.heap.size Wa).drew
  have hHeld := HK.out X0 hBX0
  rw [hX0]
  clear hX0
  refine' wpAnyT_take (i := 0) (oi := ?oip0) (v := ?vp0) ?hip0 (by kernel_rfl) (by kernel_rfl) ?hqp0 ?hyp0 hHeld ?restp0
  case hip0 => (simp only [List.getElem?_toArray, List.getElem?_cons_zero]; rfl)
  case hqp0 => exact fun _ _ _ h => h
  case hyp0 => (refine Or.inl ⟨by rfl, ?_⟩; intro w' hSw; (try dsimp only at hSw); go_simp; try with_reducible rfl)
  (try simp only [Act.put, List.setIfInBounds_toArray, List.set_cons_zero, List.set_cons_succ])
  refine' wpAnyT_take (i := 1) (oi := ?oip1) (v := ?vp1) ?hip1 (by kernel_rfl) (by kernel_rfl) ?hqp1 ?hyp1 hHeld ?restp1
  case hip1 => (simp only [List.getElem?_toArray, List.getElem?_cons_zero, List.getElem?_cons_succ]; rfl)
  case hqp1 => exact fun _ _ _ h => h
  case hyp1 => (refine Or.inl ⟨by rfl, ?_⟩; intro w' hSw; (try dsimp only at hSw); go_simp; try with_reducible rfl)
  (try simp only [Act.put, List.setIfInBounds_toArray, List.set_cons_zero, List.set_cons_succ])
  refine' wpAnyT_one (i := 2) (o := ?oip2) (by kernel_rfl) ?hip2 (fun K hK => ?stp2)
  case hip2 => (simp only [List.getElem?_toArray, List.getElem?_cons_zero, List.getElem?_cons_succ]; rfl)
  go_simp
  go_at_call 18
  refine (HSM.out X0 hBX0).mono ?_
  rintro e X1 ⟨rfl, hb⟩
  have hBX1 : Below Wa.heap.size Wa X1 := hBX0.trans (hb.mono hBX0.size)
  clear hHeld hb
  have hHeld := HK.out X1 hBX1
  refine hK.out _ _ (fun _ => hHeld) ?_
  clear hK K
  (try simp only [Act.put, List.setIfInBounds_toArray, List.set_cons_zero, List.set_cons_succ])
  refine' wpAnyT_take (i := 3) (oi := ?oip3) (v := ?vp3) ?hip3 (by kernel_rfl) (by kernel_rfl) ?hqp3 ?hyp3 hHeld ?restp3
  case hip3 => (simp only [List.getElem?_toArray, List.getElem?_cons_zero, List.getElem?_cons_succ]; rfl)
  case hqp3 => exact fun _ _ _ h => h
  case hyp3 => (refine Or.inl ⟨by rfl, ?_⟩; intro w' hSw; (try dsimp only at hSw); go_simp; try with_reducible rfl)
  (try simp only [Act.put, List.setIfInBounds_toArray, List.set_cons_zero, List.set_cons_succ])
  refine' wpAnyT_take (i := 4) (oi := ?oip4) (v := ?vp4) ?hip4 (by kernel_rfl) (by kernel_rfl) ?hqp4 ?hyp4 hHeld ?restp4
  case hip4 => (simp only [List.getElem?_toArray, List.getElem?_cons_zero, List.getElem?_cons_succ]; rfl)
  case hqp4 => exact fun _ _ _ h => h
  case hyp4 => (refine Or.inl ⟨by rfl, ?_⟩; intro w' hSw; (try dsimp only at hSw); go_simp; try with_reducible rfl)
  (try simp only [Act.put, List.setIfInBounds_toArray, List.set_cons_zero, List.set_cons_succ])
  refine' wpAnyT_take (i := 5) (oi := ?oip5) (v := ?vp5) ?hip5 (by kernel_rfl) (by kernel_rfl) ?hqp5 ?hyp5 hHeld ?restp5
  case hip5 => (simp only [List.getElem?_toArray, List.getElem?_cons_zero, List.getElem?_cons_succ]; rfl)
  case hqp5 => exact fun _ _ _ h => h
  case hyp5 => (refine Or.inl ⟨by rfl, ?_⟩; intro w' hSw; (try dsimp only at hSw); go_simp; try with_reducible rfl)
  (try simp only [Act.put, List.setIfInBounds_toArray, List.set_cons_zero, List.set_cons_succ])
  refine' wpAnyT_take (i := 6) (oi := ?oip6) (v := ?vp6) ?hip6 (by kernel_rfl) (by kernel_rfl) ?hqp6 ?hyp6 hHeld ?restp6
  case hip6 => (simp only [List.getElem?_toArray, List.getElem?_cons_zero, List.getElem?_cons_succ]; rfl)
  case hqp6 => exact fun _ _ _ h => h
  case hyp6 => (refine Or.inl ⟨by rfl, ?_⟩; intro w' hSw; (try dsimp only at hSw); go_simp; try with_reducible rfl)
  (try simp only [Act.put, List.setIfInBounds_toArray, List.set_cons_zero, List.set_cons_succ])
  refine' wpAnyT_take (i := 7) (oi := ?oip7) (v := ?vp7) ?hip7 (by kernel_rfl) (by kernel_rfl) ?hqp7 ?hyp7 hHeld ?restp7
  case hip7 => (simp only [List.getElem?_toArray, List.getElem?_cons_zero, List.getElem?_cons_succ]; rfl)
  case hqp7 => exact fun _ _ _ h => h
  case hyp7 => (refine Or.inl ⟨by rfl, ?_⟩; intro w' hSw; (try dsimp only at hSw); go_simp; try with_reducible rfl)
  (try simp only [Act.put, List.setIfInBounds_toArray, List.set_cons_zero, List.set_cons_succ])
  refine' wpAnyT_take (i := 8) (oi := ?oip8) (v := ?vp8) ?hip8 (by kernel_rfl) (by kernel_rfl) ?hqp8 ?hyp8 hHeld ?restp8
  case hip8 => (simp only [List.getElem?_toArray, List.getElem?_cons_zero, List.getElem?_cons_succ]; rfl)
  case hqp8 => exact fun _ _ _ h => h
  case hyp8 => (refine Or.inl ⟨by rfl, ?_⟩; intro w' hSw; (try dsimp only at hSw); go_simp; try with_reducible rfl)
  (try simp only [Act.put, List.setIfInBounds_toArray, List.set_cons_zero, List.set_cons_succ])
  refine' wpAnyT_take (i := 9) (oi := ?oip9) (v := ?vp9) ?hip9 (by kernel_rfl) (by kernel_rfl) ?hqp9 ?hyp9 hHeld ?restp9
  case hip9 => (simp only [List.getElem?_toArray, List.getElem?_cons_zero, List.getElem?_cons_succ]; rfl)
  case hqp9 => exact fun _ _ _ h => h
  case hyp9 => (refine Or.inl ⟨by rfl, ?_⟩; intro w' hSw; (try dsimp only at hSw); go_simp; try with_reducible rfl)
  (try simp only [Act.put, List.setIfInBounds_toArray, List.set_cons_zero, List.set_cons_succ])
  refine' wpAnyT_take (i := 10) (oi := ?oip10) (v := ?vp10) ?hip10 (by kernel_rfl) (by kernel_rfl) ?hqp10 ?hyp10 hHeld ?restp10
  case hip10 => (simp only [List.getElem?_toArray, List.getElem?_cons_zero, List.getElem?_cons_succ]; rfl)
  case hqp10 => exact fun _ _ _ h => h
  case hyp10 => (refine Or.inl ⟨by rfl, ?_⟩; intro w' hSw; (try dsimp only at hSw); go_simp; try with_reducible rfl)
  (try simp only [Act.put, List.setIfInBounds_toArray, List.set_cons_zero, List.set_cons_succ])
  refine' wpAnyT_take (i := 12) (oi := ?oip12) (v := ?vp12) ?hip12 (by kernel_rfl) (by kernel_rfl) ?hqp12 ?hyp12 hHeld ?restp12
  case hip12 => (simp only [List.getElem?_toArray, List.getElem?_cons_zero, List.getElem?_cons_succ]; rfl)
  case hqp12 => exact fun _ _ _ h => h
  case hyp12 => (refine Or.inl ⟨by rfl, ?_⟩; intro w' hSw; (try dsimp only at hSw); go_simp; try with_reducible rfl)
  (try simp only [Act.put, List.setIfInBounds_toArray, List.set_cons_zero, List.set_cons_succ])
  refine' wpAnyT_one (i := 11) (o := ?oip11) (by kernel_rfl) ?hip11 (fun K hK => ?stp11)
  case hip11 => (simp only [List.getElem?_toArray, List.getElem?_cons_zero, List.getElem?_cons_succ]; rfl)
  go_simp
  go_at_call 22
  refine (HCK.out X1 hBX1).mono ?_
  rintro e X2 ⟨rfl, hb⟩
  have hBX2 : Below Wa.heap.size Wa X2 := hBX1.trans (hb.mono hBX1.size)
  clear hHeld hb
  have hHeld := HK.out X2 hBX2
  refine hK.out _ _ (fun _ => hHeld) ?_
  clear hK K
  (try simp only [Act.put, List.setIfInBounds_toArray, List.set_cons_zero, List.set_cons_succ])
  refine' wpAnyT_one (i := 13) (o := ?oip13) (by kernel_rfl) ?hip13 (fun K hK => ?stp13)
  case hip13 => (simp only [List.getElem?_toArray, List.getElem?_cons_zero, List.getElem?_cons_succ]; rfl)
  go_simp
  go_at_call 23
  refine (HCF.out X2 hBX2).mono ?_
  rintro e X3 ⟨rfl, hb⟩
  have hBX3 : Below Wa.heap.size Wa X3 := hBX2.trans (hb.mono hBX2.size)
  clear hHeld hb
  have hHeld := HK.out X3 hBX3
  refine hK.out _ _ (fun _ => hHeld) ?_
  clear hK K
  (try simp only [Act.put, List.setIfInBounds_toArray, List.set_cons_zero, List.set_cons_succ])
  refine' wpAnyT_take (i := 14) (oi := ?oip14) (v := ?vp14) ?hip14 (by kernel_rfl) (by kernel_rfl) ?hqp14 ?hyp14 hHeld ?restp14
  case hip14 => (simp only [List.getElem?_toArray, List.getElem?_cons_zero, List.getElem?_cons_succ]; rfl)
  case hqp14 => exact fun _ _ _ h => h
  case hyp14 => (refine Or.inl ⟨by rfl, ?_⟩; intro w' hSw; (try dsimp only at hSw); go_simp; try with_reducible rfl)
  (try simp only [Act.put, List.setIfInBounds_toArray, List.set_cons_zero, List.set_cons_succ])
  refine' wpAnyT_one (i := 15) (o := ?oip15) (by kernel_rfl) ?hip15 (fun K hK => ?stp15)
  case hip15 => (simp only [List.getElem?_toArray, List.getElem?_cons_zero, List.getElem?_cons_succ]; rfl)
  go_simp
  refine hK.out _ _ (fun h => absurd h (by decide)) ?_
  clear hK K
  (try simp only [Act.put, List.setIfInBounds_toArray, List.set_cons_zero, List.set_cons_succ])
  refine wpAnyT_done (by kernel_rfl) ?_ _
  have HB3a : Hid (Below W3.heap.size W3 X3) := hid (below_both HBA.out hBX3)
  clear hBX0 hBX1 hBX2
  go_upto_region 7 with fail
  obtain ⟨Wb, hWb⟩ : ∃ X, X3 = X := ⟨_, rfl⟩
  have HBB : Hid (Below W3.heap.size W3 Wb) := hid (by rw [← hWb]; exact HB3a.out)
  rw [hWb]
  clear hWb hBX3 hHeld HK
  obtain ⟨Wa, hWa⟩ : ∃ X, Wb = X := ⟨_, rfl⟩
  rw [hWa] at HBB
  rw [hWa]
  clear hWa
  have HK := hid (fun X (hX : Below Wa.heap.size Wa X) => (show X.cell? ⟨g, 0, none⟩ = some (.slice A n c) ∧ X.cell? ⟨g, 1, none⟩ = some (.slice B m d) from (by
    have g1 := HBX.out X (below_both HBB.out hX)
    exact ⟨cell_of_row _ _ 0 _ _ _ g1, cell_of_row _ _ 1 _ _ _ g1⟩)))
  have HSY := hid (fun X (hX : Below Wa.heap.size Wa X) => HSY0.out X (below_both HBB.out hX))
  have HSR := hid (fun X (hX : Below Wa.heap.size Wa X) => HSR0.out X (below_both HBB.out hX))
  have HUN := hid (fun X (hX : Below Wa.heap.size Wa X) => HUN0.out X (below_both HBB.out hX))
  have HUR := hid (fun X (hX : Below Wa.heap.size Wa X) => HUR0.out X (below_both HBB.out hX))
  refine region_tail 15 (fun X => X.cell? ⟨g, 0, none⟩ = some (.slice A n c) ∧ X.cell? ⟨g, 1, none⟩ = some (.slice B m d)) (by kernel_rfl) ?_
  obtain ⟨Y0, hY0⟩ : ∃ X, Wa.drew = X := ⟨_, rfl⟩
  have hBY0 : Below Wa.heap.size Wa Y0 := by rw [← hY0]; exact (Below.refl Wa.heap.size Wa).drew
  have hHeld := HK.out Y0 hBY0
  rw [hY0]
  clear hY0
  refine' wpAnyT_take (i := 0) (oi := ?oir0) (v := ?vr0) ?hir0 (by kernel_rfl) (by kernel_rfl) ?hqr0 ?hyr0 hHeld ?restr0
  case hir0 => (simp only [List.getElem?_toArray, List.getElem?_cons_zero]; rfl)
  case hqr0 => exact fun _ _ _ h => h
  case hyr0 => (refine Or.inl ⟨by rfl, ?_⟩; intro w' hSw; (try dsimp only at hSw); go_simp; try with_reducible rfl)
  (try simp only [Act.put, List.setIfInBounds_toArray, List.set_cons_zero, List.set_cons_succ])
  refine' wpAnyT_take (i := 2) (oi := ?oir2) (v := ?vr2) ?hir2 (by kernel_rfl) (by kernel_rfl) ?hqr2 ?hyr2 hHeld ?restr2
  case hir2 => (simp only [List.getElem?_toArray, List.getElem?_cons_zero, List.getElem?_cons_succ]; rfl)
  case hqr2 => exact fun _ _ _ h => h
  case hyr2 => (refine Or.inl ⟨by rfl, ?_⟩; intro w' hSw; (try dsimp only at hSw); go_simp; try with_reducible rfl)
  (try simp only [Act.put, List.setIfInBounds_toArray, List.set_cons_zero, List.set_cons_succ])
  refine' wpAnyT_one (i := 1) (o := ?oir1) (by kernel_rfl) ?hir1 (fun K hK => ?str1)
  case hir1 => (simp only [List.getElem?_toArray, List.getElem?_cons_zero, List.getElem?_cons_succ]; rfl)
  go_simp
  go_at_call 24
  refine (HSY.out Y0 hBY0).mono ?_
  rintro e Y1 ⟨v1, rfl, ho, hb⟩
  obtain ⟨A1, c1, B1, d1, rfl⟩ := dk_form ho.dk
  have HD1 := hid ho.dk
  have hBY1 : Below Wa.heap.size Wa Y1 := hBY0.trans (hb.mono hBY0.size)
  clear hHeld hb ho
  have hHeld := HK.out Y1 hBY1
  refine hK.out _ _ (fun _ => hHeld) ?_
  clear hK K
  refine' wpAnyT_one (i := 3) (o := ?oir3) (by kernel_rfl) ?hir3 (fun K hK => ?str3)
  case hir3 => (simp only [List.getElem?_toArray, List.getElem?_cons_zero, List.getElem?_cons_succ]; rfl)
  go_simp
  go_at_call 25
  refine (HSR.out Y1 hBY1).mono ?_
  rintro e Y2 ⟨v2, rfl, ho, hb⟩
  obtain ⟨A2, c2, B2, d2, rfl⟩ := dk_form ho
  have HD2 := hid ho
  have HD12 := hid (HD1.out.below hb)
  have hBY2 : Below Wa.heap.size Wa Y2 := hBY1.trans (hb.mono hBY1.size)
  clear hHeld hb ho
  have hHeld := HK.out Y2 hBY2
  refine hK.out _ _ (fun _ => hHeld) ?_
  clear hK K
  refine' wpAnyT_one (i := 4) (o := ?oir4) (by kernel_rfl) ?hir4 (fun K hK => ?str4)
  case hir4 => (simp only [List.getElem?_toArray, List.getElem?_cons_zero, List.getElem?_cons_succ]; rfl)
  go_simp
  go_at_call 18
  refine (same_eq ts tc _ _ Y2 HD12.out HD2.out HTC.out).mono ?_
  rintro e Y3 ⟨rfl, hb⟩
  have hBY3 : Below Wa.heap.size Wa Y3 := hBY2.trans (hb.mono hBY2.size)
  clear hHeld hb
  have hHeld := HK.out Y3 hBY3
  refine hK.out _ _ (fun _ => hHeld) ?_
  clear hK K
  (try simp only [Act.put, List.setIfInBounds_toArray, List.set_cons_zero, List.set_cons_succ])
  refine' wpAnyT_take (i := 5) (oi := ?oir5) (v := ?vr5) ?hir5 (by kernel_rfl) (by kernel_rfl) ?hqr5 ?hyr5 hHeld ?restr5
  case hir5 => (simp only [List.getElem?_toArray, List.getElem?_cons_zero, List.getElem?_cons_succ]; rfl)
  case hqr5 => exact fun _ _ _ h => h
  case hyr5 => (refine Or.inl ⟨by rfl, ?_⟩; intro w' hSw; (try dsimp only at hSw); go_simp; try with_reducible rfl)
  (try simp only [Act.put, List.setIfInBounds_toArray, List.set_cons_zero, List.set_cons_succ])
  refine' wpAnyT_take (i := 6) (oi := ?oir6) (v := ?vr6) ?hir6 (by kernel_rfl) (by kernel_rfl) ?hqr6 ?hyr6 hHeld ?restr6
  case hir6 => (simp only [List.getElem?_toArray, List.getElem?_cons_zero, List.getElem?_cons_succ]; rfl)
  case hqr6 => exact fun _ _ _ h => h
  case hyr6 => (refine Or.inl ⟨by rfl, ?_⟩; intro w' hSw; (try dsimp only at hSw); go_simp; try with_reducible rfl)
  (try simp only [Act.put, List.setIfInBounds_toArray, List.set_cons_zero, List.set_cons_succ])
  refine' wpAnyT_take (i := 8) (oi := ?oir8) (v := ?vr8) ?hir8 (by kernel_rfl) (by kernel_rfl) ?hqr8 ?hyr8 hHeld ?restr8
  case hir8 => (simp only [List.getElem?_toArray, List.getElem?_cons_zero, List.getElem?_cons_succ]; rfl)
  case hqr8 => exact fun _ _ _ h => h
  case hyr8 => (refine Or.inl ⟨by rfl, ?_⟩; intro w' hSw; (try dsimp only at hSw); go_simp; try with_reducible rfl)
  (try simp only [Act.put, List.setIfInBounds_toArray, List.set_cons_zero, List.set_cons_succ])
  refine' wpAnyT_one (i := 7) (o := ?oir7) (by kernel_rfl) ?hir7 (fun K hK => ?str7)
  case hir7 => (simp only [List.getElem?_toArray, List.getElem?_cons_zero, List.getElem?_cons_succ]; rfl)
  go_simp
  go_at_call 27
  refine (HUN.out Y3 hBY3).mono ?_
  rintro e Y4 ⟨v4, l4, rfl, hc4, hm4, he4, hb⟩
  obtain ⟨A4, c4, rfl⟩ := Xt.ext_form he4
  have HU4 := hid (show Xt.Canon 0 l4 ∧ (∀ x, Xt.mem l4 x = setU n ca x) ∧ Xt.Ext Y4 (.slice A4 l4.length c4) l4 from ⟨hc4, hm4, he4⟩)
  have hBY4 : Below Wa.heap.size Wa Y4 := hBY3.trans (hb.mono hBY3.size)
  clear hHeld hb hc4 hm4 he4
  have hHeld := HK.out Y4 hBY4
  refine hK.out _ _ (fun _ => hHeld) ?_
  clear hK K
  (try simp only [Act.put, List.setIfInBounds_toArray, List.set_cons_zero, List.set_cons_succ])
  refine' wpAnyT_one (i := 9) (o := ?oir9) (by kernel_rfl) ?hir9 (fun K hK => ?str9)
  case hir9 => (simp only [List.getElem?_toArray, List.getElem?_cons_zero, List.getElem?_cons_succ]; rfl)
  go_simp
  go_at_call 28
  refine (HUR.out Y4 hBY4).mono ?_
  rintro e Y5 ⟨v5, l5, rfl, hc5, hm5, he5, hb⟩
  obtain rfl : l4 = l5 := Xt.canon_ext (Int.le_refl 0) HU4.out.1 hc5 (fun x => (HU4.out.2.1 x).trans (hm5 x).symm)
  obtain ⟨A5, c5, rfl⟩ := Xt.ext_form he5
  have HU5 := hid (show Xt.Ext Y5 (.slice A4 l4.length c4) l4 ∧ Xt.Ext Y5 (.slice A5 l4.length c5) l4 from ⟨HU4.out.2.2.below hb, he5⟩)
  have hBY5 : Below Wa.heap.size Wa Y5 := hBY4.trans (hb.mono hBY4.size)
  clear hHeld hb hc5 hm5 he5
  have hHeld := HK.out Y5 hBY5
  refine hK.out _ _ (fun _ => hHeld) ?_
  clear hK K
  (try simp only [Act.put, List.setIfInBounds_toArray, List.set_cons_zero, List.set_cons_succ])
  refine' wpAnyT_one (i := 10) (o := ?oir10) (by kernel_rfl) ?hir10 (fun K hK => ?str10)
  case hir10 => (simp only [List.getElem?_toArray, List.getElem?_cons_zero, List.getElem?_cons_succ]; rfl)
  go_simp
  go_at_call 26
  refine (Xt.same_true l4 _ _ Y5 HU5.out.1 HU5.out.2 (by have := Xt.len_of_canon HU4.out.1; omega)).mono ?_
  rintro e Y6 ⟨rfl, hb⟩
  have hBY6 : Below Wa.heap.size Wa Y6 := hBY5.trans (hb.mono hBY5.size)
  clear hHeld hb
  have hHeld := HK.out Y6 hBY6
  refine hK.out _ _ (fun _ => hHeld) ?_
  clear hK K
  (try simp only [Act.put, List.setIfInBounds_toArray, List.set_cons_zero, List.set_cons_succ])
  refine' wpAnyT_take (i := 11) (oi := ?oir11) (v := ?vr11) ?hir11 (by kernel_rfl) (by kernel_rfl) ?hqr11 ?hyr11 hHeld ?restr11
  case hir11 => (simp only [List.getElem?_toArray, List.getElem?_cons_zero, List.getElem?_cons_succ]; rfl)
  case hqr11 => exact fun _ _ _ h => h
  case hyr11 => (refine Or.inl ⟨by rfl, ?_⟩; intro w' hSw; (try dsimp only at hSw); go_simp; try with_reducible rfl)
  (try simp only [Act.put, List.setIfInBounds_toArray, List.set_cons_zero, List.set_cons_succ])
  refine' wpAnyT_take (i := 12) (oi := ?oir12) (v := ?vr12) ?hir12 (by kernel_rfl) (by kernel_rfl) ?hqr12 ?hyr12 hHeld ?restr12
  case hir12 => (simp only [List.getElem?_toArray, List.getElem?_cons_zero, List.getElem?_cons_succ]; rfl)
  case hqr12 => exact fun _ _ _ h => h
  case hyr12 => (refine Or.inl ⟨by rfl, ?_⟩; intro w' hSw; (try dsimp only at hSw); go_simp; try with_reducible rfl)
  (try simp only [Act.put, List.setIfInBounds_toArray, List.set_cons_zero, List.set_cons_succ])
  refine' wpAnyT_one (i := 13) (o := ?oir13) (by kernel_rfl) ?hir13 (fun K hK => ?str13)
  case hir13 => (simp only [List.getElem?_toArray, List.getElem?_cons_zero, List.getElem?_cons_succ]; rfl)
  go_simp
  go_at_call 13
  refine (HAW.out Y6).mono ?_
  rintro e Y7 ⟨rfl, hb⟩
  have hBY7 : Below Wa.heap.size Wa Y7 := hBY6.trans (hb.mono hBY6.size)
  clear hHeld hb
  have hHeld := HK.out Y7 hBY7
  refine hK.out _ _ (fun _ => hHeld) ?_
  clear hK K
  (try simp only [Act.put, List.setIfInBounds_toArray, List.set_cons_zero, List.set_cons_succ])
  refine' wpAnyT_take (i := 14) (oi := ?oir14) (v := ?vr14) ?hir14 (by kernel_rfl) (by kernel_rfl) ?hqr14 ?hyr14 hHeld ?restr14
  case hir14 => (simp only [List.getElem?_toArray, List.getElem?_cons_zero, List.getElem?_cons_succ]; rfl)
  case hqr14 => exact fun _ _ _ h => h
  case hyr14 => (refine Or.inl ⟨by rfl, ?_⟩; intro w' hSw; (try dsimp only at hSw); go_simp; try with_reducible rfl)
  (try simp only [Act.put, List.setIfInBounds_toArray, List.set_cons_zero, List.set_cons_succ])
  refine' wpAnyT_one (i := 15) (o := ?oir15) (by kernel_rfl) ?hir15 (fun K hK => ?str15)
  case hir15 => (simp only [List.getElem?_toArray, List.getElem?_cons_zero, List.getElem?_cons_succ]; rfl)
  go_simp
  refine hK.out _ _ (fun h => absurd h (by decide)) ?_
  clear hK K
  (try simp only [Act.put, List.setIfInBounds_toArray, List.set_cons_zero, List.set_cons_succ])
  refine wpAnyT_done (by kernel_rfl) ?_ _
  go_wp2_with fail
  go_ret
  exact ⟨rfl, below_both HB3.out (below_both HBB.out hBY7)⟩
end Go.Proofs.Ytoefbgkeinhibaa
