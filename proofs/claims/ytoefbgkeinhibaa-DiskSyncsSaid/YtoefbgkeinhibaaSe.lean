/- The reference's Run. -/
import Derived.Test.YtoefbgkeinhibaaSd
namespace Go.Proofs.Ytoefbgkeinhibaa
open Go.RowKit Go.Lib

theorem wrQ_own {w w' : World} {r : Int × Int × List Sect × List Ca} {e : Ending} (h : WrQ w r e w') : ∃ A c B d, e = .returned (.tuple #[.agg #[.slice A r.2.2.1.length c, .slice B r.2.2.2.length d], .int .i64 r.2.1]) ∧ OwnG w' w.heap.size r.2.2.1 r.2.2.2 (.agg #[.slice A r.2.2.1.length c, .slice B r.2.2.2.length d]) ∧ Below w.heap.size w w' := by
  obtain ⟨v, rfl, ⟨⟨sv, cv, rfl, h1, h2⟩, h3⟩, hb⟩ := h
  obtain ⟨A, c, rfl⟩ := ownAny_form h1
  obtain ⟨B, d, rfl⟩ := ownAny_form h2
  exact ⟨A, c, B, d, rfl, ⟨⟨_, _, rfl, h1, h2⟩, h3⟩, hb⟩
set_option maxHeartbeats 8000000 in
set_option maxRecDepth 100000 in
theorem refRun_any (st : List Sect) (ca : List Ca) (sv cv ov : Value) (ops : List OpT) (w : World) (hs : Sec w sv st) (hsn : NilOk sv) (hc : Cas w cv ca) (hops : OpsA w ov ops) (hca : ca.length + tot ops ≤ 500000) :
    Calls Try.prog 30 #[.agg #[sv, cv], ov] w (RunQ w (runS st ca ops)) := by
  obtain ⟨A, c, rfl⟩ := sec_form hs
  obtain ⟨B, d, rfl⟩ := cas_form hc
  obtain ⟨O, oc, rfl⟩ := ops_form hops
  have HSC : Hid (Secs st ∧ CasL ca) := hid ⟨hs.1, hc.1⟩
  obtain ⟨n, hn⟩ : ∃ n, st.length = n := ⟨_, rfl⟩
  obtain ⟨m, hm⟩ : ∃ n, ca.length = n := ⟨_, rfl⟩
  obtain ⟨N, hN⟩ : ∃ n, ops.length = n := ⟨_, rfl⟩
  have hNM : N ≤ 9223372036854775807 := by
    obtain ⟨_, h5, h6⟩ := arr_cap hops.2
    rw [hN] at h5
    omega
  rw [hn] at hs hsn ⊢
  rw [hm] at hc hca ⊢
  rw [hN] at hops ⊢
  obtain ⟨g, hg⟩ : ∃ g, w.heap.size = g := ⟨_, rfl⟩
  obtain ⟨W1, hW1⟩ : ∃ X, (w.alloc (.cells #[.slice A n c, .slice B m d] 25)).alloc (.cells #[.slice none 0 0, .slice none 0 0] 25) = X := ⟨_, rfl⟩
  have hb1 : Below w.heap.size w W1 := by rw [← hW1]; exact ((Below.refl _ w).alloc (Nat.le_refl _) _).alloc (by simp) _
  have hx1 : W1.heap[g]? = some (.cells #[.slice A n c, .slice B m d] 25) := by rw [← hW1, ← hg]; exact (Below.heap_alloc _ _ _ (by simp)).trans (heap_alloc_new w _)
  have hy1 : W1.heap[g + 1]? = some (.cells #[.slice none 0 0, .slice none 0 0] 25) := by rw [← hW1, ← hg]; simpa using heap_alloc_new (w.alloc (.cells #[.slice A n c, .slice B m d] 25)) (.cells #[.slice none 0 0, .slice none 0 0] 25)
  have hge : w.heap.size ≤ g := Nat.le_of_eq hg
  have hge1 : w.heap.size ≤ g + 1 := by omega
  have hgne : g + 1 ≠ g := by omega
  obtain ⟨k0, hk0⟩ : ∃ k, chkD n ca = k := ⟨_, rfl⟩
  have HCK : Hid (∀ X, Below W1.heap.size W1 X → Calls Try.prog 23 #[.agg #[.slice A n c, .slice B m d]] X fun e w' => e = .returned (.int .i64 k0) ∧ Below X.heap.size X w') := hid (fun X hX => by
    have h := refCheck_any st ca (.slice A n c) (.slice B m d) X (hs.below (hb1.trans (hX.mono hb1.size))) (hc.below (hb1.trans (hX.mono hb1.size)))
    rwa [hn, hk0] at h)
  have HCP : Hid (∀ X, Below W1.heap.size W1 X → n ≤ 1000000 → Calls Try.prog 42 #[.agg #[.slice A n c, .slice B m d]] X (DiskQ X st ca)) := hid (fun X hX hl => refCopy_any st ca (.slice A n c) (.slice B m d) X (hs.below (hb1.trans (hX.mono hb1.size))) hsn (hc.below (hb1.trans (hX.mono hb1.size))) (by rw [hn]; exact hl) (by rw [hm]; omega))
  have HX1 := hid hx1
  have HY1 := hid hy1
  have HB1 := hid hb1
  have HW1 := hid hW1
  have HG := hid hg
  have HOP := hid hops
  have HN := hid hn
  have HM := hid hm
  have HNN := hid hN
  have HK0 := hid hk0
  have HCA := hid hca
  have x0 := cell_of_row _ _ 0 _ _ _ hx1
  have x1 := cell_of_row _ _ 1 _ _ _ hx1
  clear hs hc hops hsn hn hm hN hb1 hx1 hy1 hW1 hg hk0 hca
  by_cases h0 : k0 = 0
  rotate_left
  · obtain rfl : k0 = 2 := by rw [← HK0.out] at h0 ⊢; exact chkD_two h0
    have HR : Hid (runS st ca ops = (0, 2, [], [])) := hid (by unfold runS; rw [HN.out, if_neg (by rw [HK0.out]; exact h0)])
    go_enter Try.func30, Try.ntmps30
    go_upto_region 1 with fail
    rw [HW1.out, HG.out]
    go_upto_region 2 with (go_at_call 23; refine (HCK.out W1 (Below.refl _ _)).mono ?_; rintro e X1 ⟨rfl, hb2⟩)
    have HY2 := hid ((hb2.block _ (box_lt HY1.out)).trans HY1.out)
    have HB2 := hid (HB1.out.trans (hb2.mono HB1.out.size))
    have y0 := cell_of_row _ _ 0 _ _ _ HY2.out
    have y1 := cell_of_row _ _ 1 _ _ _ HY2.out
    have f0 := box_fr HY2.out 0
    have f1 := box_fr HY2.out 1
    clear hb2 x0 x1
    go_wp2_with fail
    refine bodyPost_ret (results_v2 rfl _ _ (g + 1) _ rfl (disk_load (disk_set HY2.out _ _)) _ rfl _ rfl) rfl ?_
    rw [HR.out]
    exact ⟨_, rfl, own_nil _ _, (HB2.out.setCell hge1 _).setCell hge1 _⟩
  subst h0
  obtain ⟨hn4, hkC⟩ := chkD_C HK0.out
  obtain ⟨r, hr⟩ : ∃ r, exec st ca ops 0 = r := ⟨_, rfl⟩
  have HR : Hid (runS st ca ops = r) := hid (by unfold runS; rw [HN.out, if_pos HK0.out, hr])
  have HR0 := hid hr
  have HKC := hid hkC
  clear hr hkC
  go_enter Try.func30, Try.ntmps30
  go_upto_region 1 with fail
  rw [HW1.out, HG.out]
  go_upto_region 4 with (go_at_call 23; refine (HCK.out W1 (Below.refl _ _)).mono ?_; rintro e X1 ⟨rfl, hb2⟩; have HB2 := hid hb2; clear hb2)
  have hx2 := (HB2.out.block _ (box_lt HX1.out)).trans HX1.out
  have z0 := cell_of_row _ _ 0 _ _ _ hx2
  have z1 := cell_of_row _ _ 1 _ _ _ hx2
  clear x0 x1 hx2
  go_upto_region 5 with (go_at_call 42; refine (HCP.out X1 HB2.out (by omega)).mono ?_; rintro e X2 ⟨v2, rfl, ⟨sv2, cv2, rfl, ho1, ho2⟩, hb3⟩; obtain ⟨A2, c2, rfl⟩ := ownAny_form ho1; obtain ⟨C2, d2, rfl⟩ := ownAny_form ho2; have HO1 : Hid (OwnG X2 _ st ca (.agg #[.slice A2 st.length c2, .slice C2 ca.length d2])) := hid ⟨⟨_, _, rfl, ho1, ho2⟩, HSC.out⟩; have HB3 := hid (below_both HB2.out hb3); have HX2 := hid ((HB3.out.block _ (box_lt HX1.out)).trans HX1.out); have HY2 := hid ((HB3.out.block _ (box_lt HY1.out)).trans HY1.out); have y0 := cell_of_row _ _ 0 _ _ _ HX2.out; have y1 := cell_of_row _ _ 1 _ _ _ HX2.out; have f0 := box_fr HX2.out 0; have f1 := box_fr HX2.out 1; clear ho1 ho2 hb3)
  clear z0 z1
  obtain ⟨W4, hW4⟩ : ∃ X, (X2.setCell ⟨g, 0, none⟩ (.slice A2 st.length c2)).setCell ⟨g, 1, none⟩ (.slice C2 ca.length d2) = X := ⟨_, rfl⟩
  rw [hW4]
  have HX4 : Hid (W4.heap[g]? = some (.cells #[.slice A2 st.length c2, .slice C2 ca.length d2] 25)) := hid (by rw [← hW4]; exact disk_set HX2.out _ _)
  have HY4 : Hid (W4.heap[g + 1]? = some (.cells #[.slice none 0 0, .slice none 0 0] 25)) := hid (by rw [← hW4, Below.heap_setCell _ _ _ _ hgne, Below.heap_setCell _ _ _ _ hgne]; exact HY2.out)
  have HO4 : Hid (OwnG W4 w.heap.size st ca (.agg #[.slice A2 st.length c2, .slice C2 ca.length d2])) := hid (by rw [← hW4]; exact (HO1.out.keep (fun _ _ h => h) (fun _ _ h => h) (Nat.le_trans HB1.out.size HB2.out.size)).keep (keep_two HX2.out (by decide)) (keep_two HX2.out (by decide)) (Nat.le_refl _))
  have HB4 : Hid (Below w.heap.size w W4) := hid (by rw [← hW4]; exact ((HB1.out.trans (HB3.out.mono HB1.out.size)).setCell hge _).setCell hge _)
  clear hW4 y0 y1 f0 f1
  go_upto_region 6 with fail
  go_loopw [8] (fun iv wr => ∃ q : Nat, q ≤ N ∧ iv = .int .i64 (q : Int) ∧ Hid (∃ sv cv st' ca', wr.heap[g]? = some (.cells #[sv, cv] 25) ∧ OwnG wr w.heap.size st' ca' (.agg #[sv, cv]) ∧ exec st' ca' (ops.drop q) q = r ∧ st'.length = n ∧ chkC n ca' = 0 ∧ ca'.length + tot (ops.drop q) ≤ 500000) ∧ Hid (Below w.heap.size w wr) ∧ Hid (wr.heap[g + 1]? = some (.cells #[.slice none 0 0, .slice none 0 0] 25))) (fun i _ => N - (Go.RowKit.intOf i).toNat)
  case atStart => exact ⟨0, Nat.zero_le _, rfl, hid ⟨_, _, st, ca, HX4.out, HO4.out, HR0.out, HN.out, HKC.out, by have := HCA.out; rw [HM.out]; exact this⟩, HB4, HY4⟩
  case round =>
    obtain ⟨q, hq, rfl, HXX, HB, HY⟩ := hrel
    obtain ⟨sv, cv, st', ca', hbx, hog, hex, hln, hkk, hcap⟩ := HXX.out
    obtain ⟨sv', cv', e9, q1, q2, q3⟩ := hog.dk
    injection e9 with e9
    injection e9 with e9
    injection e9 with e91 e9
    injection e9 with e92 _
    subst e91 e92
    obtain ⟨A', n', c', rfl⟩ : ∃ A n c, sv = .slice A n c := by obtain ⟨A, c, e⟩ := sec_form q1; exact ⟨A, _, c, e⟩
    obtain ⟨B', m', d', rfl⟩ : ∃ A n c, cv = .slice A n c := by obtain ⟨A, c, e⟩ := cas_form q3; exact ⟨A, _, c, e⟩
    by_cases hqn : q < N
    · have hqn' : decide ((q : Int) < (N : Int)) = true := decide_eq_true (by omega)
      have hqi : (q : Int) < (N : Int) := by omega
      obtain ⟨b, off, rfl, hbl, hcc⟩ := ops_at HOP.out (by rw [HNN.out]; omega)
      obtain ⟨x, hx⟩ : ∃ x, ops[q]? = some x := ⟨ops[q]'(by rw [HNN.out]; exact hqn), List.getElem?_eq_getElem _⟩
      have hxok := HOP.out.1 x (List.mem_of_getElem? hx)
      have hdr := drop_cons hx
      rw [hdr] at hex hcap
      obtain ⟨k, a, dv, dl⟩ := x
      dsimp only at hxok
      obtain ⟨dA, dc, rfl⟩ := sec_form hxok.1
      have hbw : wr.heap[b]? = w.heap[b]? := HB.out.block b hbl
      have hcell : ∀ (j : Nat) (u : Value), (cOp ⟨k, a, .slice dA dl.length dc, dl⟩)[j]? = some u → wr.cell? ⟨b, off + q * 3 + j, none⟩ = some u := fun j u hj => by
        have h := hcc q _ hx j u hj
        unfold World.cell? at h ⊢
        rw [hbw]
        exact h
      have c0 := hcell 0 (.int .i64 k) rfl
      rw [Nat.add_zero] at c0
      have c1 := hcell 1 (.int .i64 a) rfl
      have c2' := hcell 2 (.slice dA dl.length dc) rfl
      obtain ⟨m2, hm2⟩ : ∃ m, dl.length = m := ⟨_, rfl⟩
      have HEX := hid hex
      have HCP' := hid hcap
      have HLN := hid hln
      have HKK := hid hkk
      have HBX := hid hbx
      have HOG := hid hog
      have HDL := hid (hxok.1.below HB.out)
      have hra := hxok.2.2.2
      have y0 := cell_of_row _ _ 0 _ _ _ HY.out
      have y1 := cell_of_row _ _ 1 _ _ _ HY.out
      have f0 := box_fr HY.out 0
      have f1 := box_fr HY.out 1
      have hw1 : IntKind.i64.wrap ((q : Int) + 1) = (q : Int) + 1 := by rw [IntKind.wrap_i64]; omega
      have hbW : b < w.heap.size := hbl
      by_cases hk0 : k = 0
      · subst hk0
        have HWF0 := hid (fun (X : World) (hX : Below wr.heap.size wr X) => refWrite_any st' ca' (.slice A' n' c') (.slice B' m' d') a (.slice dA dl.length dc) dl X (q1.below hX) q2 (q3.below hX) (HDL.out.below hX) hra (by have := HCP'.out; omega))
        obtain ⟨r2, hr2⟩ : ∃ r2, wrS st' ca' a dl = r2 := ⟨_, rfl⟩
        rw [hr2] at HWF0
        have HWS : Hid (r2.2.1 = 0 ∧ insB n a dl.length = true ∧ r2.2.2 = (st', ca' ++ putL a dl) ∨ r2.2.1 = 2 ∧ insB n a dl.length = false ∧ r2.2.2 = ([], [])) := hid (by
          rw [← hr2]
          unfold wrS
          have hchk : chkD st'.length ca' = 0 := by unfold chkD; rw [HLN.out, if_neg (by omega)]; exact HKK.out
          rw [if_pos hchk, HLN.out]
          by_cases hi : insB n a dl.length = true
          · rw [if_pos hi]; exact .inl ⟨rfl, hi, rfl⟩
          · rw [if_neg hi]; exact .inr ⟨rfl, by simpa using hi, rfl⟩)
        obtain ⟨rn, re, rs, rc⟩ := r2
        dsimp only at HWS
        obtain ⟨l7, hl7⟩ : ∃ l, rs.length = l := ⟨_, rfl⟩
        obtain ⟨l8, hl8⟩ : ∃ l, rc.length = l := ⟨_, rfl⟩
        have HWO := hid (fun (w1 w2 : World) (e : Ending) (h : WrQ w1 (rn, re, rs, rc) e w2) => (by
          have h := wrQ_own h
          dsimp only at h
          rw [hl7, hl8] at h
          exact h : ∃ A c B d, e = .returned (.tuple #[.agg #[.slice A l7 c, .slice B l8 d], .int .i64 re]) ∧ OwnG w2 w1.heap.size rs rc (.agg #[.slice A l7 c, .slice B l8 d]) ∧ Below w1.heap.size w1 w2))
        have HWO2 : Hid (∀ (X w2 : World) (e : Ending), Below wr.heap.size wr X → WrQ X (rn, re, rs, rc) e w2 → ∃ A c B d, e = .returned (.tuple #[.agg #[.slice A l7 c, .slice B l8 d], .int .i64 re]) ∧ OwnG w2 w.heap.size rs rc (.agg #[.slice A l7 c, .slice B l8 d]) ∧ Below X.heap.size X w2) := hid (fun X w2 e hX h => by
          obtain ⟨A, c, B, d, h1, h2, h3⟩ := HWO.out _ _ _ h
          exact ⟨A, c, B, d, h1, h2.keep (fun _ _ h => h) (fun _ _ h => h) (Nat.le_trans HB.out.size hX.size), h3⟩)
        rw [hm2] at c2' HWF0
        have HM2 := hid hm2
        have HWF := HWF0
        have hxg := hbx
        have HK := hid (fun (X : World) (hX : Below wr.heap.size wr X) => (show X.cell? ⟨g, 0, none⟩ = some (.slice A' n' c') ∧ X.cell? ⟨g, 1, none⟩ = some (.slice B' m' d') ∧ X.cell? ⟨b, off + q * 3 + 1, none⟩ = some (.int .i64 a) ∧ X.cell? ⟨b, off + q * 3 + 2, none⟩ = some (.slice dA m2 dc) from (by
          have g1 := (hX.block _ (box_lt hxg)).trans hxg
          have hblr : b < wr.heap.size := Nat.lt_of_lt_of_le hbW HB.out.size
          exact ⟨cell_of_row _ _ 0 _ _ _ g1, cell_of_row _ _ 1 _ _ _ g1, (hX.cell (p := ⟨b, _, none⟩) hblr).trans c1, (hX.cell (p := ⟨b, _, none⟩) hblr).trans c2'⟩)))
        clear hcell hcc hx hxok hdr hex hcap hln hkk hbx hog hr2 hl7 hl8 q1 q2 q3 hm2 hxg
        go_upto_region 11 with fail
        clear c0 c1 c2' y0 y1 f0 f1
        apply cutW (fun X p A m B d => Below wr.heap.size wr X ∧ X.heap[p]? = some (.cells #[.slice A l7 m, .slice B l8 d] 25) ∧ OwnG X w.heap.size rs rc (.agg #[.slice A l7 m, .slice B l8 d]))
        · intro HC
          have HC := hid HC
          refine region_tail 17 (fun X => X.cell? ⟨g, 0, none⟩ = some (.slice A' n' c') ∧ X.cell? ⟨g, 1, none⟩ = some (.slice B' m' d') ∧ X.cell? ⟨b, off + q * 3 + 1, none⟩ = some (.int .i64 a) ∧ X.cell? ⟨b, off + q * 3 + 2, none⟩ = some (.slice dA m2 dc)) (by kernel_rfl) ?_
          obtain ⟨X0, hX0⟩ : ∃ X, wr.drew = X := ⟨_, rfl⟩
          have hB0 : Below wr.heap.size wr X0 := by rw [← hX0]; exact (Below.refl wr.heap.size wr).drew
          have hHeld := HK.out X0 hB0
          rw [hX0]
          clear hX0
          refine' wpAnyT_take (i := 0) (oi := ?oiq1) (v := ?vq1) ?hiq1 (by kernel_rfl) (by kernel_rfl) ?hqq1 ?hyq1 hHeld ?restq1
          case hiq1 => (simp only [List.getElem?_toArray, List.getElem?_cons_zero]; rfl)
          case hqq1 => exact fun _ _ _ h => h
          case hyq1 => (refine Or.inl ⟨by rfl, ?_⟩; intro w' hSw; (try dsimp only at hSw); go_simp; try with_reducible rfl)
          (try simp only [Act.put, List.setIfInBounds_toArray, List.set_cons_zero, List.set_cons_succ])
          refine' wpAnyT_take (i := 1) (oi := ?oiq2) (v := ?vq2) ?hiq2 (by kernel_rfl) (by kernel_rfl) ?hqq2 ?hyq2 hHeld ?restq2
          case hiq2 => (simp only [List.getElem?_toArray, List.getElem?_cons_zero, List.getElem?_cons_succ]; rfl)
          case hqq2 => exact fun _ _ _ h => h
          case hyq2 => (refine Or.inl ⟨by rfl, ?_⟩; intro w' hSw; (try dsimp only at hSw); go_simp; try with_reducible rfl)
          (try simp only [Act.put, List.setIfInBounds_toArray, List.set_cons_zero, List.set_cons_succ])
          refine' wpAnyT_take (i := 2) (oi := ?oiq3) (v := ?vq3) ?hiq3 (by kernel_rfl) (by kernel_rfl) ?hqq3 ?hyq3 hHeld ?restq3
          case hiq3 => (simp only [List.getElem?_toArray, List.getElem?_cons_zero, List.getElem?_cons_succ]; rfl)
          case hqq3 => exact fun _ _ _ h => h
          case hyq3 => (refine Or.inl ⟨by rfl, ?_⟩; intro w' hSw; (try dsimp only at hSw); go_simp; try with_reducible rfl)
          (try simp only [Act.put, List.setIfInBounds_toArray, List.set_cons_zero, List.set_cons_succ])
          refine' wpAnyT_take (i := 3) (oi := ?oiq4) (v := ?vq4) ?hiq4 (by kernel_rfl) (by kernel_rfl) ?hqq4 ?hyq4 hHeld ?restq4
          case hiq4 => (simp only [List.getElem?_toArray, List.getElem?_cons_zero, List.getElem?_cons_succ]; rfl)
          case hqq4 => exact fun _ _ _ h => h
          case hyq4 => (refine Or.inl ⟨by rfl, ?_⟩; intro w' hSw; (try dsimp only at hSw); go_simp; try with_reducible rfl)
          (try simp only [Act.put, List.setIfInBounds_toArray, List.set_cons_zero, List.set_cons_succ])
          refine' wpAnyT_take (i := 4) (oi := ?oiq5) (v := ?vq5) ?hiq5 (by kernel_rfl) (by kernel_rfl) ?hqq5 ?hyq5 hHeld ?restq5
          case hiq5 => (simp only [List.getElem?_toArray, List.getElem?_cons_zero, List.getElem?_cons_succ]; rfl)
          case hqq5 => exact fun _ _ _ h => h
          case hyq5 => (refine Or.inl ⟨by rfl, ?_⟩; intro w' hSw; (try dsimp only at hSw); go_simp; try with_reducible rfl)
          (try simp only [Act.put, List.setIfInBounds_toArray, List.set_cons_zero, List.set_cons_succ])
          refine' wpAnyT_take (i := 5) (oi := ?oiq6) (v := ?vq6) ?hiq6 (by kernel_rfl) (by kernel_rfl) ?hqq6 ?hyq6 hHeld ?restq6
          case hiq6 => (simp only [List.getElem?_toArray, List.getElem?_cons_zero, List.getElem?_cons_succ]; rfl)
          case hqq6 => exact fun _ _ _ h => h
          case hyq6 => (refine Or.inl ⟨by rfl, ?_⟩; intro w' hSw; (try dsimp only at hSw); go_simp; try with_reducible rfl)
          (try simp only [Act.put, List.setIfInBounds_toArray, List.set_cons_zero, List.set_cons_succ])
          refine' wpAnyT_take (i := 6) (oi := ?oiq7) (v := ?vq7) ?hiq7 (by kernel_rfl) (by kernel_rfl) ?hqq7 ?hyq7 hHeld ?restq7
          case hiq7 => (simp only [List.getElem?_toArray, List.getElem?_cons_zero, List.getElem?_cons_succ]; rfl)
          case hqq7 => exact fun _ _ _ h => h
          case hyq7 => (refine Or.inl ⟨by rfl, ?_⟩; intro w' hSw; (try dsimp only at hSw); go_simp; try with_reducible rfl)
          (try simp only [Act.put, List.setIfInBounds_toArray, List.set_cons_zero, List.set_cons_succ])
          refine' wpAnyT_take (i := 7) (oi := ?oiq8) (v := ?vq8) ?hiq8 (by kernel_rfl) (by kernel_rfl) ?hqq8 ?hyq8 hHeld ?restq8
          case hiq8 => (simp only [List.getElem?_toArray, List.getElem?_cons_zero, List.getElem?_cons_succ]; rfl)
          case hqq8 => exact fun _ _ _ h => h
          case hyq8 => (refine Or.inl ⟨by rfl, ?_⟩; intro w' hSw; (try dsimp only at hSw); go_simp; try with_reducible rfl)
          (try simp only [Act.put, List.setIfInBounds_toArray, List.set_cons_zero, List.set_cons_succ])
          refine' wpAnyT_take (i := 8) (oi := ?oiq9) (v := ?vq9) ?hiq9 (by kernel_rfl) (by kernel_rfl) ?hqq9 ?hyq9 hHeld ?restq9
          case hiq9 => (simp only [List.getElem?_toArray, List.getElem?_cons_zero, List.getElem?_cons_succ]; rfl)
          case hqq9 => exact fun _ _ _ h => h
          case hyq9 => (refine Or.inl ⟨by rfl, ?_⟩; intro w' hSw; (try dsimp only at hSw); go_simp; try with_reducible rfl)
          (try simp only [Act.put, List.setIfInBounds_toArray, List.set_cons_zero, List.set_cons_succ])
          refine' wpAnyT_take (i := 9) (oi := ?oiq10) (v := ?vq10) ?hiq10 (by kernel_rfl) (by kernel_rfl) ?hqq10 ?hyq10 hHeld ?restq10
          case hiq10 => (simp only [List.getElem?_toArray, List.getElem?_cons_zero, List.getElem?_cons_succ]; rfl)
          case hqq10 => exact fun _ _ _ h => h
          case hyq10 => (refine Or.inl ⟨by rfl, ?_⟩; intro w' hSw; (try dsimp only at hSw); go_simp; try with_reducible rfl)
          (try simp only [Act.put, List.setIfInBounds_toArray, List.set_cons_zero, List.set_cons_succ])
          refine' wpAnyT_take (i := 10) (oi := ?oiq11) (v := ?vq11) ?hiq11 (by kernel_rfl) (by kernel_rfl) ?hqq11 ?hyq11 hHeld ?restq11
          case hiq11 => (simp only [List.getElem?_toArray, List.getElem?_cons_zero, List.getElem?_cons_succ]; rfl)
          case hqq11 => exact fun _ _ _ h => h
          case hyq11 => (refine Or.inl ⟨by rfl, ?_⟩; intro w' hSw; (try dsimp only at hSw); go_simp; try with_reducible rfl)
          (try simp only [Act.put, List.setIfInBounds_toArray, List.set_cons_zero, List.set_cons_succ])
          refine wpAnyT_all (l := [11, 15]) (by kernel_rfl) (by decide) ?_
          intro i hi
          simp only [List.mem_cons, List.not_mem_nil, or_false] at hi
          rcases hi with rfl | rfl
          · refine ⟨_, by (simp only [List.getElem?_toArray, List.getElem?_cons_zero, List.getElem?_cons_succ]; rfl), fun K hK => ?_⟩
            go_simp
            go_at_call 15
            refine (HWF.out X0 hB0).mono ?_
            rintro e Yq46 hQ46
            obtain ⟨A9, c9, B9, d9, rfl, hg9, hbb46⟩ := HWO2.out _ _ _ hB0 hQ46
            have HG9 := hid hg9
            clear hQ46 hg9
            clear hHeld
            have hHeld := HK.out Yq46 (below_both hB0 hbb46)
            refine hK.out _ _ (fun _ => hHeld) ?_
            clear hK K
            (try simp only [Act.put, List.setIfInBounds_toArray, List.set_cons_zero, List.set_cons_succ])
            refine' wpAnyT_take (i := 12) (oi := ?oiq12) (v := ?vq12) ?hiq12 (by kernel_rfl) (by kernel_rfl) ?hqq12 ?hyq12 hHeld ?restq12
            case hiq12 => (simp only [List.getElem?_toArray, List.getElem?_cons_zero, List.getElem?_cons_succ]; rfl)
            case hqq12 => exact fun _ _ _ h => h
            case hyq12 => (refine Or.inl ⟨by rfl, ?_⟩; intro w' hSw; (try dsimp only at hSw); go_simp; try with_reducible rfl)
            (try simp only [Act.put, List.setIfInBounds_toArray, List.set_cons_zero, List.set_cons_succ])
            refine' wpAnyT_take (i := 13) (oi := ?oiq13) (v := ?vq13) ?hiq13 (by kernel_rfl) (by kernel_rfl) ?hqq13 ?hyq13 hHeld ?restq13
            case hiq13 => (simp only [List.getElem?_toArray, List.getElem?_cons_zero, List.getElem?_cons_succ]; rfl)
            case hqq13 => exact fun _ _ _ h => h
            case hyq13 => (refine Or.inl ⟨by rfl, ?_⟩; intro w' hSw; (try dsimp only at hSw); go_simp; try with_reducible rfl)
            (try simp only [Act.put, List.setIfInBounds_toArray, List.set_cons_zero, List.set_cons_succ])
            refine' wpAnyT_take (i := 14) (oi := ?oiq14) (v := ?vq14) ?hiq14 (by kernel_rfl) (by kernel_rfl) ?hqq14 ?hyq14 hHeld ?restq14
            case hiq14 => (simp only [List.getElem?_toArray, List.getElem?_cons_zero, List.getElem?_cons_succ]; rfl)
            case hqq14 => exact fun _ _ _ h => h
            case hyq14 => (refine Or.inl ⟨by rfl, ?_⟩; intro w' hSw; (try dsimp only at hSw); go_simp; try with_reducible rfl)
            (try simp only [Act.put, List.setIfInBounds_toArray, List.set_cons_zero, List.set_cons_succ])
            refine' wpAnyT_one (i := 15) (o := ?oiq15) (by kernel_rfl) ?hiq15 (fun K hK => ?stq15)
            case hiq15 => (simp only [List.getElem?_toArray, List.getElem?_cons_zero, List.getElem?_cons_succ]; rfl)
            go_simp
            obtain ⟨Yq9, hY⟩ : ∃ X, Yq46.alloc (.cells #[.slice none 0 0, .slice none 0 0] 25) = X := ⟨_, rfl⟩
            obtain ⟨px, hh⟩ : ∃ h, Yq46.heap.size = h := ⟨_, rfl⟩
            have hbb9 : Below Yq46.heap.size Yq46 Yq9 := by rw [← hY]; exact al1 _ _
            have HZpx : Hid (Yq9.heap[px]? = some (.cells #[.slice none 0 0, .slice none 0 0] 25)) := hid (by rw [← hY, ← hh]; exact heap_alloc_new _ _)
            have HPW : Hid (wr.heap.size ≤ px) := hid (by rw [← hh]; exact (below_both hB0 hbb46).size)
            rw [hY, hh]
            clear hY hh
            clear hHeld
            have hHeld := HK.out Yq9 (below_both hB0 (below_both hbb46 hbb9))
            refine hK.out _ _ (fun _ => hHeld) ?_
            clear hK K
            (try simp only [Act.put, List.setIfInBounds_toArray, List.set_cons_zero, List.set_cons_succ])
            refine' wpAnyT_one (i := 16) (o := ?oiq16) (by kernel_rfl) ?hiq16 (fun K hK => ?stq16)
            case hiq16 => (simp only [List.getElem?_toArray, List.getElem?_cons_zero, List.getElem?_cons_succ]; rfl)
            have hp15 := (((Below.refl _ _).block _ (box_lt HZpx.out)).trans HZpx.out)
            have p0 := cell_of_row _ _ 0 _ _ _ hp15
            have p1 := cell_of_row _ _ 1 _ _ _ hp15
            have fp0 := box_fr hp15 0
            have fp1 := box_fr hp15 1
            go_simp
            obtain ⟨YqN16, hY⟩ : ∃ X, (Yq9.setCell ⟨px, 0, none⟩ (.slice A9 l7 c9)).setCell ⟨px, 1, none⟩ (.slice B9 l8 d9) = X := ⟨_, rfl⟩
            rw [hY]
            have HP15 : Hid (YqN16.heap[px]? = some (.cells #[.slice A9 l7 c9, .slice B9 l8 d9] 25)) := hid (by rw [← hY]; exact disk_set hp15 _ _)
            have HO15 : Hid (OwnG YqN16 w.heap.size rs rc (.agg #[.slice A9 l7 c9, .slice B9 l8 d9])) := hid (by rw [← hY]; exact (HG9.out.keep (keep_below hbb9) (keep_below hbb9) (Nat.le_refl _)).keep (keep_two hp15 (by decide)) (keep_two hp15 (by decide)) (Nat.le_refl _))
            have hbbnone16 : Below wr.heap.size wr YqN16 := by rw [← hY]; exact ((below_both hB0 (below_both hbb46 hbb9)).setCell HPW.out _).setCell HPW.out _
            clear hY hp15 p0 p1 fp0 fp1
            clear hHeld
            have hHeld := HK.out YqN16 hbbnone16
            refine hK.out _ _ (fun _ => hHeld) ?_
            clear hK K
            refine' wpAnyT_one (i := 17) (o := ?oiq17) (by kernel_rfl) ?hiq17 (fun K hK => ?stq17)
            case hiq17 => (simp only [List.getElem?_toArray, List.getElem?_cons_zero, List.getElem?_cons_succ]; rfl)
            go_simp
            refine hK.out _ _ (fun h => absurd h (by decide)) ?_
            clear hK K
            (try simp only [Act.put, List.setIfInBounds_toArray, List.set_cons_zero, List.set_cons_succ])
            refine wpAnyT_done (by kernel_rfl) ?_ _
            exact HC.out YqN16 px A9 c9 B9 d9 ⟨hbbnone16, HP15.out, HO15.out⟩
          · refine ⟨_, by (simp only [List.getElem?_toArray, List.getElem?_cons_zero, List.getElem?_cons_succ]; rfl), fun K hK => ?_⟩
            go_simp
            obtain ⟨Yq9, hY⟩ : ∃ X, X0.alloc (.cells #[.slice none 0 0, .slice none 0 0] 25) = X := ⟨_, rfl⟩
            obtain ⟨px, hh⟩ : ∃ h, X0.heap.size = h := ⟨_, rfl⟩
            have hbb9 : Below X0.heap.size X0 Yq9 := by rw [← hY]; exact al1 _ _
            have HZpx : Hid (Yq9.heap[px]? = some (.cells #[.slice none 0 0, .slice none 0 0] 25)) := hid (by rw [← hY, ← hh]; exact heap_alloc_new _ _)
            have HPW : Hid (wr.heap.size ≤ px) := hid (by rw [← hh]; exact hB0.size)
            rw [hY, hh]
            clear hY hh
            clear hHeld
            have hHeld := HK.out Yq9 (below_both hB0 hbb9)
            refine hK.out _ _ (fun _ => hHeld) ?_
            clear hK K
            (try simp only [Act.put, List.setIfInBounds_toArray, List.set_cons_zero, List.set_cons_succ])
            refine' wpAnyT_one (i := 11) (o := ?oiq18) (by kernel_rfl) ?hiq18 (fun K hK => ?stq18)
            case hiq18 => (simp only [List.getElem?_toArray, List.getElem?_cons_zero, List.getElem?_cons_succ]; rfl)
            go_simp
            go_at_call 15
            refine (HWF.out Yq9 (below_both hB0 hbb9)).mono ?_
            rintro e Yq46 hQ46
            obtain ⟨A9, c9, B9, d9, rfl, hg9, hbb46⟩ := HWO2.out _ _ _ (below_both hB0 hbb9) hQ46
            have HG9 := hid hg9
            clear hQ46 hg9
            clear hHeld
            have hHeld := HK.out Yq46 (below_both hB0 (below_both hbb9 hbb46))
            refine hK.out _ _ (fun _ => hHeld) ?_
            clear hK K
            (try simp only [Act.put, List.setIfInBounds_toArray, List.set_cons_zero, List.set_cons_succ])
            refine' wpAnyT_take (i := 12) (oi := ?oiq19) (v := ?vq19) ?hiq19 (by kernel_rfl) (by kernel_rfl) ?hqq19 ?hyq19 hHeld ?restq19
            case hiq19 => (simp only [List.getElem?_toArray, List.getElem?_cons_zero, List.getElem?_cons_succ]; rfl)
            case hqq19 => exact fun _ _ _ h => h
            case hyq19 => (refine Or.inl ⟨by rfl, ?_⟩; intro w' hSw; (try dsimp only at hSw); go_simp; try with_reducible rfl)
            (try simp only [Act.put, List.setIfInBounds_toArray, List.set_cons_zero, List.set_cons_succ])
            refine' wpAnyT_take (i := 13) (oi := ?oiq20) (v := ?vq20) ?hiq20 (by kernel_rfl) (by kernel_rfl) ?hqq20 ?hyq20 hHeld ?restq20
            case hiq20 => (simp only [List.getElem?_toArray, List.getElem?_cons_zero, List.getElem?_cons_succ]; rfl)
            case hqq20 => exact fun _ _ _ h => h
            case hyq20 => (refine Or.inl ⟨by rfl, ?_⟩; intro w' hSw; (try dsimp only at hSw); go_simp; try with_reducible rfl)
            (try simp only [Act.put, List.setIfInBounds_toArray, List.set_cons_zero, List.set_cons_succ])
            refine' wpAnyT_take (i := 14) (oi := ?oiq21) (v := ?vq21) ?hiq21 (by kernel_rfl) (by kernel_rfl) ?hqq21 ?hyq21 hHeld ?restq21
            case hiq21 => (simp only [List.getElem?_toArray, List.getElem?_cons_zero, List.getElem?_cons_succ]; rfl)
            case hqq21 => exact fun _ _ _ h => h
            case hyq21 => (refine Or.inl ⟨by rfl, ?_⟩; intro w' hSw; (try dsimp only at hSw); go_simp; try with_reducible rfl)
            (try simp only [Act.put, List.setIfInBounds_toArray, List.set_cons_zero, List.set_cons_succ])
            refine' wpAnyT_one (i := 16) (o := ?oiq22) (by kernel_rfl) ?hiq22 (fun K hK => ?stq22)
            case hiq22 => (simp only [List.getElem?_toArray, List.getElem?_cons_zero, List.getElem?_cons_succ]; rfl)
            have hp15 := ((hbb46.block _ (box_lt HZpx.out)).trans HZpx.out)
            have p0 := cell_of_row _ _ 0 _ _ _ hp15
            have p1 := cell_of_row _ _ 1 _ _ _ hp15
            have fp0 := box_fr hp15 0
            have fp1 := box_fr hp15 1
            go_simp
            obtain ⟨YqN16, hY⟩ : ∃ X, (Yq46.setCell ⟨px, 0, none⟩ (.slice A9 l7 c9)).setCell ⟨px, 1, none⟩ (.slice B9 l8 d9) = X := ⟨_, rfl⟩
            rw [hY]
            have HP15 : Hid (YqN16.heap[px]? = some (.cells #[.slice A9 l7 c9, .slice B9 l8 d9] 25)) := hid (by rw [← hY]; exact disk_set hp15 _ _)
            have HO15 : Hid (OwnG YqN16 w.heap.size rs rc (.agg #[.slice A9 l7 c9, .slice B9 l8 d9])) := hid (by rw [← hY]; exact (HG9.out.keep (keep_below (Below.refl _ _)) (keep_below (Below.refl _ _)) (Nat.le_refl _)).keep (keep_two hp15 (by decide)) (keep_two hp15 (by decide)) (Nat.le_refl _))
            have hbbnone16 : Below wr.heap.size wr YqN16 := by rw [← hY]; exact ((below_both hB0 (below_both hbb9 hbb46)).setCell HPW.out _).setCell HPW.out _
            clear hY hp15 p0 p1 fp0 fp1
            clear hHeld
            have hHeld := HK.out YqN16 hbbnone16
            refine hK.out _ _ (fun _ => hHeld) ?_
            clear hK K
            refine' wpAnyT_one (i := 17) (o := ?oiq23) (by kernel_rfl) ?hiq23 (fun K hK => ?stq23)
            case hiq23 => (simp only [List.getElem?_toArray, List.getElem?_cons_zero, List.getElem?_cons_succ]; rfl)
            go_simp
            refine hK.out _ _ (fun h => absurd h (by decide)) ?_
            clear hK K
            (try simp only [Act.put, List.setIfInBounds_toArray, List.set_cons_zero, List.set_cons_succ])
            refine wpAnyT_done (by kernel_rfl) ?_ _
            exact HC.out YqN16 px A9 c9 B9 d9 ⟨hbbnone16, HP15.out, HO15.out⟩
        intro X5 px A9 c9 B9 d9 hF
        obtain ⟨hb5, hx5, ho5⟩ := hF
        have HB5 := hid hb5
        have HO5 := hid ho5
        have hg5 := (hb5.block _ (box_lt HBX.out)).trans HBX.out
        have hy5 := (hb5.block _ (box_lt HY.out)).trans HY.out
        have HG5 := hid hg5
        have HY5 := hid hy5
        have hBw5 : Hid (Below w.heap.size w X5) := hid (HB.out.trans (hb5.mono HB.out.size))
        by_cases he : re = 0
        · subst he
          obtain ⟨hins, hrr⟩ : insB n a dl.length = true ∧ (rs, rc) = (st', ca' ++ putL a dl) := by
            rcases HWS.out with ⟨_, h1, h2⟩ | ⟨h1, _⟩
            · exact ⟨h1, h2⟩
            · cases h1
          injection hrr with hrs hrc
          have q0 := cell_of_row _ _ 0 _ _ _ hx5
          have q1 := cell_of_row _ _ 1 _ _ _ hx5
          have y0 := cell_of_row _ _ 0 _ _ _ hg5
          have y1 := cell_of_row _ _ 1 _ _ _ hg5
          have f0 := box_fr hg5 0
          have f1 := box_fr hg5 1
          have HRS := hid hrs
          have HRC := hid hrc
          have HINS := hid hins
          clear hb5 hx5 ho5 hg5 hy5 hrs hrc hins
          go_wp2_with fail
          go_roundw
          case rel =>
            exact ⟨q + 1, by omega, by go_num, hid ⟨_, _, rs, rc, disk_set HG5.out _ _, HO5.out.keep (keep_two HG5.out (by decide)) (keep_two HG5.out (by decide)) (Nat.le_refl _), by rw [HRS.out, HRC.out, ← HEX.out, exec_put rfl (by dsimp only; rw [HLN.out]; exact HINS.out)], by rw [HRS.out]; exact HLN.out, by rw [HRC.out]; exact chkC_app HKK.out (chkC_put HINS.out), by rw [HRC.out, List.length_append, putL_len]; have := HCP'.out; unfold tot at this; dsimp only at this; omega⟩, hid ((hBw5.out.setCell hge _).setCell hge _), hid (by rw [Below.heap_setCell _ _ _ _ hgne, Below.heap_setCell _ _ _ _ hgne]; exact HY5.out)⟩
          case measure => simp [Go.RowKit.intOf]; omega
        · obtain ⟨rfl, hins⟩ : re = 2 ∧ insB n a dl.length = false := by
            rcases HWS.out with ⟨h1, _⟩ | ⟨h1, h2, _⟩
            · exact absurd h1 he
            · exact ⟨h1, h2⟩
          have y0 := cell_of_row _ _ 0 _ _ _ hy5
          have y1 := cell_of_row _ _ 1 _ _ _ hy5
          have f0 := box_fr hy5 0
          have f1 := box_fr hy5 1
          have HINS := hid hins
          clear hb5 hx5 ho5 hg5 hy5 hins
          go_wp2_with fail
          refine bodyPost_ret (results_v2 rfl _ _ (g + 1) _ rfl (disk_load (disk_set HY5.out _ _)) _ rfl _ rfl) rfl ?_
          rw [HR.out, ← HEX.out, exec_out rfl (by dsimp only; rw [HLN.out]; exact HINS.out)]
          exact ⟨_, rfl, own_nil _ _, (hBw5.out.setCell hge1 _).setCell hge1 _⟩
      have dk0 : (k == 0) = false := by simpa using hk0
      by_cases hk1 : k = 1
      · subst hk1
        have hchk : chkD st'.length ca' = 0 := by unfold chkD; rw [hln, if_neg (by omega)]; exact hkk
        have HSY := hid (refSync_any st' ca' _ _ wr q1 q2 q3 hchk)
        have z0 := cell_of_row _ _ 0 _ _ _ hbx
        have z1 := cell_of_row _ _ 1 _ _ _ hbx
        clear hcell hcc hx hxok hdr hex hcap hln hkk hbx hog q1 q2 q3 hm2 c1 c2' y0 y1 f0 f1
        obtain ⟨l7, hl7⟩ : ∃ l, (newL st' ca').length = l := ⟨_, rfl⟩
        have HL7 := hid hl7
        clear hl7
        go_upto_region 7 with (go_at_call 25; refine HSY.out.mono ?_; rintro e X5 ⟨v5, rfl, ⟨⟨sv5, cv5, rfl, h1, h2⟩, h3⟩, hb5⟩; obtain ⟨A9, c9, rfl⟩ := ownAny_form h1; obtain ⟨B9, d9, rfl⟩ := ownAny_form h2; have HO5 : Hid (OwnG X5 _ (newL st' ca') [] _) := hid ⟨⟨_, _, rfl, h1, h2⟩, h3⟩; have HB5 := hid hb5; have HG5 := hid ((hb5.block _ (box_lt HBX.out)).trans HBX.out); have HY5 := hid ((hb5.block _ (box_lt HY.out)).trans HY.out); have y0 := cell_of_row _ _ 0 _ _ _ HG5.out; have y1 := cell_of_row _ _ 1 _ _ _ HG5.out; have f0 := box_fr HG5.out 0; have f1 := box_fr HG5.out 1; clear h1 h2 h3 hb5)
        have hBw5 : Hid (Below w.heap.size w X5) := hid (HB.out.trans (HB5.out.mono HB.out.size))
        go_wp2_with fail
        go_roundw
        case rel =>
          exact ⟨q + 1, by omega, by go_num, hid ⟨_, _, newL st' ca', [], disk_set HG5.out _ _, (HO5.out.keep (fun _ _ h => h) (fun _ _ h => h) HB.out.size).keep (keep_two HG5.out (by decide)) (keep_two HG5.out (by decide)) (Nat.le_refl _), by rw [← HEX.out, exec_sync rfl], by rw [newL_len]; exact HLN.out, rfl, by rw [List.length_nil]; have := HCP'.out; unfold tot at this; omega⟩, hid ((hBw5.out.setCell hge _).setCell hge _), hid (by rw [Below.heap_setCell _ _ _ _ hgne, Below.heap_setCell _ _ _ _ hgne]; exact HY5.out)⟩
        case measure => simp [Go.RowKit.intOf]; omega
      · have dk1 : (k == 1) = false := by simpa using hk1
        clear hcell hcc hx hxok hdr hex hcap hln hkk hbx hog q1 q2 q3 hm2 c1 c2'
        go_wp2_with fail
        refine bodyPost_ret (results_v2 rfl _ _ (g + 1) _ rfl (disk_load (disk_set HY.out _ _)) _ rfl _ rfl) rfl ?_
        rw [HR.out, ← HEX.out, exec_bad hk0 hk1]
        exact ⟨_, rfl, own_nil _ _, (HB.out.setCell hge1 _).setCell hge1 _⟩
    · obtain rfl : N = q := by omega
      have hqn' : decide ((N : Int) < (N : Int)) = false := decide_eq_false (by omega)
      rw [List.drop_of_length_le (by rw [HNN.out]; exact Nat.le_refl _)] at hex
      have HEX := hid (show ((N : Int), (0 : Int), st', ca') = r from hex)
      have HOG := hid hog
      have z0 := cell_of_row _ _ 0 _ _ _ hbx
      have z1 := cell_of_row _ _ 1 _ _ _ hbx
      have y0 := cell_of_row _ _ 0 _ _ _ HY.out
      have y1 := cell_of_row _ _ 1 _ _ _ HY.out
      have f0 := box_fr HY.out 0
      have f1 := box_fr HY.out 1
      clear hex hcap hln hkk hbx hog q1 q2 q3
      go_wp2_with fail
      refine bodyPost_ret (results_v2 rfl _ _ (g + 1) _ rfl (disk_load (disk_set HY.out _ _)) _ rfl _ rfl) rfl ?_
      rw [HR.out, ← HEX.out]
      exact ⟨_, rfl, HOG.out.keep (keep_two HY.out (by decide)) (keep_two HY.out (by decide)) (Nat.le_refl _), (HB.out.setCell hge1 _).setCell hge1 _⟩
end Go.Proofs.Ytoefbgkeinhibaa
