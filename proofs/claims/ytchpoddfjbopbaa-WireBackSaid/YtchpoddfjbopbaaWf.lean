/- The walk of the law WireBack. -/
import Derived.Test.YtchpoddfjbopbaaVf
import Derived.Deep.DeepCutAuto
namespace Go.Proofs.Ytchpoddfjbopbaa
open Go.RowKit Go.Lib


set_option maxHeartbeats 8000000 in
set_option maxRecDepth 100000 in
theorem back_walk (x : Vals) (r : List Nat) (v : Value) (w : World) (hx : Val w x) (hv : Byt w v r) (hn : NilOk v) :
    Calls Try.prog 6 #[valV x, v] w (GoodB w) := by
  have HA := hid awake_any
  have HF := hid (fun (W : World) (h : Val W x) => few_any x W h)
  obtain ⟨A0, k0, A1, k1, A2, k2, A3, k3, e0, e1, e2, e3⟩ := val_form hx
  obtain ⟨vi, vs, ve, vw, li, ls, le, lw⟩ := x
  dsimp only at e0 e1 e2 e3
  subst e0 e1 e2 e3
  obtain ⟨A, c, rfl⟩ := byt_form hv
  have HX0 := hid hx
  have HV0 := hid hv
  have HN := hid hn
  have hrl := byt_len hv
  show Calls Try.prog 6 #[.agg #[.slice A0 li.length k0, .slice A1 ls.length k1, .slice A2 le.length k2, .slice A3 lw.length k3], .slice A r.length c] w _
  have HB0 : Hid (Below w.heap.size w (w.alloc (.cells #[.slice A0 li.length k0, .slice A1 ls.length k1, .slice A2 le.length k2, .slice A3 lw.length k3] 34))) := hid (al1 _ _)
  have HBX := hid (heap_alloc_new w (.cells #[.slice A0 li.length k0, .slice A1 ls.length k1, .slice A2 le.length k2, .slice A3 lw.length k3] 34))
  have HX := hid (HX0.out.below HB0.out)
  have HV := hid (HV0.out.below HB0.out)
  have HFx := hid (HF.out _ HX.out)
  obtain ⟨W, hW⟩ : ∃ W, w.alloc (.cells #[.slice A0 li.length k0, .slice A1 ls.length k1, .slice A2 le.length k2, .slice A3 lw.length k3] 34) = W := ⟨_, rfl⟩
  rw [hW] at HB0 HBX HX HV HFx
  clear hv hn hx HF HX0 HV0
  have y0 : W.cell? ⟨w.heap.size, 0, none⟩ = some (.slice A0 li.length k0) := cell_of_row _ _ 0 _ _ _ HBX.out
  have y1 : W.cell? ⟨w.heap.size, 1, none⟩ = some (.slice A1 ls.length k1) := cell_of_row _ _ 1 _ _ _ HBX.out
  have y2 : W.cell? ⟨w.heap.size, 2, none⟩ = some (.slice A2 le.length k2) := cell_of_row _ _ 2 _ _ _ HBX.out
  have y3 : W.cell? ⟨w.heap.size, 3, none⟩ = some (.slice A3 lw.length k3) := cell_of_row _ _ 3 _ _ _ HBX.out
  have HLT := hid (box_lt HBX.out)
  have HY := hid (fun (X : World) (h : Below W.heap.size W X) => show X.cell? ⟨w.heap.size, 0, none⟩ = some (.slice A0 li.length k0) ∧ X.cell? ⟨w.heap.size, 1, none⟩ = some (.slice A1 ls.length k1) ∧ X.cell? ⟨w.heap.size, 2, none⟩ = some (.slice A2 le.length k2) ∧ X.cell? ⟨w.heap.size, 3, none⟩ = some (.slice A3 lw.length k3) from ⟨(h.cell (p := ⟨w.heap.size, 0, none⟩) HLT.out).trans (cell_of_row _ _ 0 _ _ _ HBX.out), (h.cell (p := ⟨w.heap.size, 1, none⟩) HLT.out).trans (cell_of_row _ _ 1 _ _ _ HBX.out), (h.cell (p := ⟨w.heap.size, 2, none⟩) HLT.out).trans (cell_of_row _ _ 2 _ _ _ HBX.out), (h.cell (p := ⟨w.heap.size, 3, none⟩) HLT.out).trans (cell_of_row _ _ 3 _ _ _ HBX.out)⟩)
  rcases hf : fewB ⟨.slice A0 li.length k0, .slice A1 ls.length k1, .slice A2 le.length k2, .slice A3 lw.length k3, li, ls, le, lw⟩ with _ | _
  · rw [hf] at HFx
    clear hf
    go_enter Try.func6, Try.ntmps6
    go_wp2_with fail
    refine HFx.out.mono ?_
    rintro e w1 ⟨rfl, hb1⟩
    have HB1 := hid (below_both HB0.out hb1)
    clear hb1 y0 y1 y2 y3
    go_wp2_with fail
    refine (HA.out _).mono ?_
    rintro e w2 ⟨rfl, hb2⟩
    have HB2 := hid (below_both HB1.out hb2)
    clear hb2
    go_wp2
    go_ret
    exact ⟨rfl, HB2.out⟩
  · by_cases hbig : 200 < r.length
    · have d1 : decide ((200 : Int) < (r.length : Int)) = true := by simp; omega
      rw [hf] at HFx
      clear hf
      go_enter Try.func6, Try.ntmps6
      go_wp2_with fail
      refine HFx.out.mono ?_
      rintro e w1 ⟨rfl, hb1⟩
      have HB1 := hid (below_both HB0.out hb1)
      clear hb1 y0 y1 y2 y3
      go_wp2_with fail
      refine (HA.out _).mono ?_
      rintro e w2 ⟨rfl, hb2⟩
      have HB2 := hid (below_both HB1.out hb2)
      clear hb2
      go_wp2
      go_ret
      exact ⟨rfl, HB2.out⟩
    · have d1 : decide ((200 : Int) < (r.length : Int)) = false := by simp; omega
      rw [hf] at HFx
      have HFF := hid hf
      have hft := few_true hf
      dsimp only at hft
      have HLEN := hid (lens HX.out hf)
      dsimp only at HLEN
      have HT := hid hft
      clear hf hft
      go_enter Try.func6, Try.ntmps6
      go_wp2_with fail
      refine HFx.out.mono ?_
      rintro e w1 ⟨rfl, hb1⟩
      have HB1 := hid hb1
      clear hb1 y0 y1 y2 y3 HFx
      have HP := hid (putBytes_any r [] (.slice none 0 0) _ w1 (byt_nil _) nilOk_nil (HV.out.below HB1.out) HN.out (by simp) (by omega))
      obtain ⟨bb, hbeb⟩ : ∃ b, eBytes r = b := ⟨_, rfl⟩
      rw [List.nil_append, hbeb] at HP
      have HEb := hid hbeb
      have hblb : bb.length ≤ 4000 := by rw [← hbeb]; unfold eBytes; rw [List.length_append]; have := enc_len (n := r.length) (by omega); omega
      clear hbeb
      go_wp2_with fail
      refine HP.out.mono ?_
      rintro e pb ⟨v1, rfl, ho1, hb1⟩
      obtain ⟨a1, c1, rfl⟩ := own_form ho1
      have HO1 := hid ho1
      have HBp := hid (HB1.out.trans (hb1.mono HB1.out.size))
      have HB1p := hid hb1
      clear ho1 hb1 HP
      go_wp2_with (at_builtin; refine append_byt rfl (.tmp 31) (.tmp 32) rfl w1.heap.size (.slice a1 bb.length c1) bb.length _ rfl HO1.out r _ rfl (HV.out.below HBp.out) HN.out (by omega) HB1p.out.size ?_; intro v2 qb hown2 hg2; obtain ⟨a2, c2, rfl⟩ := own_form hown2; have HBq1 := hid (below_own HB1p.out HO1.out hg2 HB1p.out.size (Nat.le_refl _)); have HOq := hid hown2; clear hown2 hg2)
      have hq : Byt qb (.slice a2 (bb.length + r.length) c2) (bb ++ r) := byt_of_own (by have h := HOq.out; rw [own_snoc] at h; exact h) (by rw [← HEb.out]; exact (((enc_b8 _).append HV.out.1).append HV.out.1))
      have HBq := hid (HB1.out.trans (HBq1.out.mono HB1.out.size))
      refine (bytes_any (bb ++ r) _ qb hq (own_nilOk HOq.out) (by rw [List.length_append]; omega)).mono ?_
      intro e ub hb
      obtain ⟨vvb, rrb, rfl, hbb, hVb, hRb⟩ := red_ok hb (by rw [← HEb.out]; exact back_bytes r (by omega) HV.out.1 r)
      have HBub := hid (HBq.out.trans (hbb.mono HBq.out.size))
      have HVvb := hid hVb
      have HVrb := hid hRb
      clear hq hb hbb hVb hRb HBq HBq1 HOq HB1p HO1 HBp
      obtain ⟨y0, y1, y2, y3⟩ := HY.out _ HBub.out
      have HP := hid (putSecs_any ls [] (.slice none 0 0) _ ub (byt_nil _) nilOk_nil (HX.out.below HBub.out).2.1 (by have := HT.out; omega) (by have := HLEN.out; show 0 + _ ≤ 60000; omega))
      obtain ⟨bs, hbes⟩ : ∃ b, eList eSec ls = b := ⟨_, rfl⟩
      rw [List.nil_append, hbes] at HP
      have HEs := hid hbes
      have hbls : bs.length ≤ 4000 := by rw [← hbes]; have := HLEN.out; omega
      clear hbes
      go_wp2_with fail
      refine HP.out.mono ?_
      rintro e ps ⟨v1, rfl, ho1, hb1⟩
      obtain ⟨a1, c1, rfl⟩ := own_form ho1
      have HO1 := hid ho1
      have HBp := hid (HBub.out.trans (hb1.mono HBub.out.size))
      have HB1p := hid hb1
      clear ho1 hb1 HP
      go_wp2_with (at_builtin; refine append_byt rfl (.tmp 41) (.tmp 42) rfl ub.heap.size (.slice a1 bs.length c1) bs.length _ rfl HO1.out r _ rfl (HV.out.below HBp.out) HN.out (by omega) HB1p.out.size ?_; intro v2 qs hown2 hg2; obtain ⟨a2, c2, rfl⟩ := own_form hown2; have HBq1 := hid (below_own HB1p.out HO1.out hg2 HB1p.out.size (Nat.le_refl _)); have HOq := hid hown2; clear hown2 hg2)
      have hq : Byt qs (.slice a2 (bs.length + r.length) c2) (bs ++ r) := byt_of_own (by have h := HOq.out; rw [own_snoc] at h; exact h) (by rw [← HEs.out]; exact ((b8_list (fun y hy => (HX.out.2.1.1 y hy).2)).append HV.out.1))
      have HBq := hid (HBub.out.trans (HBq1.out.mono HBub.out.size))
      refine (sectors_any (bs ++ r) _ qs hq (own_nilOk HOq.out) (by rw [List.length_append]; omega)).mono ?_
      intro e us hs
      obtain ⟨vvs, rrs, rfl, hbs, hVs, hRs⟩ := red_ok hs (by rw [← HEs.out]; exact back_secs ls (by have := HT.out; omega) HX.out.2.1.1 r)
      have HBus := hid (HBq.out.trans (hbs.mono HBq.out.size))
      have HBbs := hid (HBq1.out.trans (hbs.mono HBq1.out.size))
      have HVvs := hid hVs
      have HVrs := hid hRs
      clear hq hs hbs hVs hRs HBq HBq1 HOq HB1p HO1 HBp
      clear y0 y1 y2 y3
      have HRLb := hid (Below.refl ub.heap.size ub)
      have HVvb' := hid (vbyt_byt (vbyt_below HBbs.out HVvb.out))
      have HVrb' := hid (vbyt_byt (vbyt_below HBbs.out HVrb.out))
      have HVr5 := hid (HV.out.below HBus.out)
      obtain ⟨y0, y1, y2, y3⟩ := HY.out _ HBus.out
      go_wp2_with fail
      refine (equal_eq r _ _ us HVvb'.out HVr5.out).mono ?_
      rintro e w' ⟨rfl, rfl⟩
      go_wp2_with fail
      refine (equal_eq r _ _ us HVrb'.out HVr5.out).mono ?_
      rintro e w' ⟨rfl, rfl⟩
      have HQ := hid (eqSecs_any ls ls _ _ us (sec_of_lv HVvs.out).2 (HX.out.below HBus.out).2.1.2 (sec_of_lv HVvs.out).1 HX.out.2.1.1)
      rw [decide_eq_true rfl] at HQ
      go_wp2_with fail
      refine HQ.out.mono ?_
      rintro e w' ⟨rfl, m5, rfl⟩
      have HBm := hid (show Below us.heap.size us (us.drewN m5) from ⟨rfl, rfl, rfl, Nat.le_refl _, fun _ _ => rfl⟩)
      have HVrs' := hid (vbyt_byt (vbyt_below HBm.out HVrs.out))
      have HVr6 := hid (HVr5.out.below HBm.out)
      have HBx := hid (HBus.out.trans (HBm.out.mono HBus.out.size))
      obtain ⟨x5, hx5⟩ : ∃ x5, us.drewN m5 = x5 := ⟨_, rfl⟩
      rw [hx5] at HBm HVrs' HVr6 HBx ⊢
      clear y0 y1 y2 y3 HQ hx5
      go_wp2_with fail
      refine (equal_eq r _ _ x5 HVrs'.out HVr6.out).mono ?_
      rintro e w' ⟨rfl, rfl⟩
      clear HVrs' HVr6 HVvb' HVrb' HVr5 HVvs HVrs HVvb HVrb HBm
      obtain ⟨y0, y1, y2, y3⟩ := HY.out _ HBx.out
      go_wp2_with fail
      refine (conInt_any li (fun n => !inR n) _ x5 (HX.out.below HBx.out).1 (fun n _ X => out43 n X)).mono ?_
      rintro e ci ⟨rfl, hb⟩
      have HBci := hid (HBx.out.trans (hb.mono HBx.out.size))
      clear hb y0 y1 y2 y3 HBx
      go_upto_if 82 with fail
      go_cut [] (fun wx => Hid (Below W.heap.size W wx))
      case first =>
        rcases hany : li.any (fun n => !inR n) with _ | _
        · obtain ⟨y0, y1, y2, y3⟩ := HY.out _ HBci.out
          have HP := hid (putInts_any li [] (.slice none 0 0) _ ci (byt_nil _) nilOk_nil (HX.out.below HBci.out).1 (by have := HT.out; omega) (by have := HLEN.out; simp; omega))
          obtain ⟨bi, hbei⟩ : ∃ b, eList eNum li = b := ⟨_, rfl⟩
          rw [List.nil_append, hbei] at HP
          have HEi := hid hbei
          have hbli : bi.length ≤ 4000 := by rw [← hbei]; have := HLEN.out; omega
          clear hbei
          go_wp2_with fail
          refine HP.out.mono ?_
          rintro e pi ⟨v1, rfl, ho1, hb1⟩
          obtain ⟨a1, c1, rfl⟩ := own_form ho1
          have HO1 := hid ho1
          have HBp := hid (HBci.out.trans (hb1.mono HBci.out.size))
          have HB1p := hid hb1
          clear ho1 hb1 HP
          go_wp2_with (at_builtin; refine append_byt rfl (.tmp 86) (.tmp 87) rfl ci.heap.size (.slice a1 bi.length c1) bi.length _ rfl HO1.out r _ rfl (HV.out.below HBp.out) HN.out (by omega) HB1p.out.size ?_; intro v2 qi hown2 hg2; obtain ⟨a2, c2, rfl⟩ := own_form hown2; have HBq1 := hid (below_own HB1p.out HO1.out hg2 HB1p.out.size (Nat.le_refl _)); have HOq := hid hown2; clear hown2 hg2)
          have hq : Byt qi (.slice a2 (bi.length + r.length) c2) (bi ++ r) := byt_of_own (by have h := HOq.out; rw [own_snoc] at h; exact h) (by rw [← HEi.out]; exact ((b8_list (E := eNum) (fun y _ => enc_b8 _)).append HV.out.1))
          have HBq := hid (HBci.out.trans (HBq1.out.mono HBci.out.size))
          refine (ints_any (bi ++ r) _ qi hq (own_nilOk HOq.out) (by rw [List.length_append]; omega)).mono ?_
          intro e ui hi
          obtain ⟨vvi, rri, rfl, hbi, hVi, hRi⟩ := red_ok hi (by rw [← HEi.out]; exact back_ints li (by have := HT.out; omega) hany r)
          have HBui := hid (HBq.out.trans (hbi.mono HBq.out.size))
          have HVvi := hid hVi
          have HVri := hid hRi
          clear hq hi hbi hVi hRi HBq HBq1 HOq HB1p HO1 HBp
          clear y0 y1 y2 y3
          obtain ⟨y0, y1, y2, y3⟩ := HY.out _ HBui.out
          have HQ := hid (eqInts_any li li _ _ ui (by have h := nums_of_lv HVvi.out; rw [back_ints_cast li hany] at h; exact h) (HX.out.below HBui.out).1)
          rw [decide_eq_true rfl] at HQ
          go_wp2_with fail
          refine HQ.out.mono ?_
          rintro e w' ⟨rfl, m5, rfl⟩
          have HBm := hid (show Below ui.heap.size ui (ui.drewN m5) from ⟨rfl, rfl, rfl, Nat.le_refl _, fun _ _ => rfl⟩)
          have HVrz := hid (vbyt_byt (vbyt_below HBm.out HVri.out))
          have HVr6 := hid ((HV.out.below HBui.out).below HBm.out)
          have HBz : Hid (Below W.heap.size W (ui.drewN m5)) := hid (HBui.out.trans (HBm.out.mono HBui.out.size))
          obtain ⟨x9, hx9⟩ : ∃ x9, ui.drewN m5 = x9 := ⟨_, rfl⟩
          rw [hx9] at HBm HVrz HVr6 HBz ⊢
          clear y0 y1 y2 y3 HQ hx9
          go_wp2_with fail
          refine (equal_eq r _ _ x9 HVrz.out HVr6.out).mono ?_
          rintro e w' ⟨rfl, rfl⟩
          go_wp2_with fail
          go_meet
          exact HBz
        · go_wp2_with fail
          go_meet
          exact HBci
      case rest =>
        have HBxi := hcut
        clear HBci
        obtain ⟨y0, y1, y2, y3⟩ := HY.out _ HBxi.out
        go_wp2_with fail
        refine (conExt_any le outE _ wc (HX.out.below HBxi.out).2.2.1 (fun y _ X => out46 y.1 y.2 X)).mono ?_
        rintro e ce ⟨rfl, hb⟩
        have HBce := hid (HBxi.out.trans (hb.mono HBxi.out.size))
        clear hb y0 y1 y2 y3 HBxi
        go_upto_if 111 with fail
        go_cut [] (fun wx => Hid (Below W.heap.size W wx))
        case first =>
          rcases hany : le.any outE with _ | _
          · obtain ⟨y0, y1, y2, y3⟩ := HY.out _ HBce.out
            have HP := hid (putExts_any le [] (.slice none 0 0) _ ce (byt_nil _) nilOk_nil (HX.out.below HBce.out).2.2.1 (by have := HT.out; omega) (by have := HLEN.out; simp; omega))
            obtain ⟨be, hbee⟩ : ∃ b, eList eExtI le = b := ⟨_, rfl⟩
            rw [List.nil_append, hbee] at HP
            have HEe := hid hbee
            have hble : be.length ≤ 4000 := by rw [← hbee]; have := HLEN.out; omega
            clear hbee
            go_wp2_with fail
            refine HP.out.mono ?_
            rintro e pe ⟨v1, rfl, ho1, hb1⟩
            obtain ⟨a1, c1, rfl⟩ := own_form ho1
            have HO1 := hid ho1
            have HBp := hid (HBce.out.trans (hb1.mono HBce.out.size))
            have HB1p := hid hb1
            clear ho1 hb1 HP
            go_wp2_with (at_builtin; refine append_byt rfl (.tmp 115) (.tmp 116) rfl ce.heap.size (.slice a1 be.length c1) be.length _ rfl HO1.out r _ rfl (HV.out.below HBp.out) HN.out (by omega) HB1p.out.size ?_; intro v2 qe hown2 hg2; obtain ⟨a2, c2, rfl⟩ := own_form hown2; have HBq1 := hid (below_own HB1p.out HO1.out hg2 HB1p.out.size (Nat.le_refl _)); have HOq := hid hown2; clear hown2 hg2)
            have hq : Byt qe (.slice a2 (be.length + r.length) c2) (be ++ r) := byt_of_own (by have h := HOq.out; rw [own_snoc] at h; exact h) (by rw [← HEe.out]; exact ((b8_list (E := eExtI) (fun y _ => (enc_b8 _).append (enc_b8 _))).append HV.out.1))
            have HBq := hid (HBce.out.trans (HBq1.out.mono HBce.out.size))
            refine (extents_any (be ++ r) _ qe hq (own_nilOk HOq.out) (by rw [List.length_append]; omega)).mono ?_
            intro e ue he
            obtain ⟨vve, rre, rfl, hbe, hVe, hRe⟩ := red_ok he (by rw [← HEe.out]; exact back_exts le (by have := HT.out; omega) hany r)
            have HBue := hid (HBq.out.trans (hbe.mono HBq.out.size))
            have HVve := hid hVe
            have HVre := hid hRe
            clear hq he hbe hVe hRe HBq HBq1 HOq HB1p HO1 HBp
            clear y0 y1 y2 y3
            obtain ⟨y0, y1, y2, y3⟩ := HY.out _ HBue.out
            have HQ := hid (eqExts_any le le _ _ ue (by have h := ext_of_lv HVve.out; rw [back_exts_cast le hany] at h; exact h) (HX.out.below HBue.out).2.2.1)
            rw [decide_eq_true rfl] at HQ
            go_wp2_with fail
            refine HQ.out.mono ?_
            rintro e w' ⟨rfl, m5, rfl⟩
            have HBm := hid (show Below ue.heap.size ue (ue.drewN m5) from ⟨rfl, rfl, rfl, Nat.le_refl _, fun _ _ => rfl⟩)
            have HVrz := hid (vbyt_byt (vbyt_below HBm.out HVre.out))
            have HVr6 := hid ((HV.out.below HBue.out).below HBm.out)
            have HBz : Hid (Below W.heap.size W (ue.drewN m5)) := hid (HBue.out.trans (HBm.out.mono HBue.out.size))
            obtain ⟨x9, hx9⟩ : ∃ x9, ue.drewN m5 = x9 := ⟨_, rfl⟩
            rw [hx9] at HBm HVrz HVr6 HBz ⊢
            clear y0 y1 y2 y3 HQ hx9
            go_wp2_with fail
            refine (equal_eq r _ _ x9 HVrz.out HVr6.out).mono ?_
            rintro e w' ⟨rfl, rfl⟩
            go_wp2_with fail
            go_meet
            exact HBz
          · go_wp2_with fail
            go_meet
            exact HBce
        case rest =>
          have HBxe := hcut
          clear HBce
          obtain ⟨y0, y1, y2, y3⟩ := HY.out _ HBxe.out
          go_wp2_with fail
          refine (conWriR_any lw outW _ wc (HX.out.below HBxe.out).2.2.2.2 (fun y hy => by obtain ⟨A, c, e⟩ := wrsA_form HX.out.2.2.2 y hy; exact ⟨A, _, c, e⟩) (fun y hy X => by obtain ⟨A, c, e⟩ := wrsA_form HX.out.2.2.2 y hy; obtain ⟨ya, yb, yd, yl⟩ := y; dsimp only at e; subst e; exact out48 ya yb A _ c X)).mono ?_
          rintro e cw ⟨rfl, hb⟩
          have HBcw := hid (HBxe.out.trans (hb.mono HBxe.out.size))
          clear hb y0 y1 y2 y3 HBxe
          go_upto_if 140 with fail
          go_cut [] (fun wx => Hid (Below W.heap.size W wx))
          case first =>
            rcases hany : lw.any outW with _ | _
            · obtain ⟨y0, y1, y2, y3⟩ := HY.out _ HBcw.out
              have HP := hid (putWris_any lw [] (.slice none 0 0) _ cw (byt_nil _) nilOk_nil ⟨fun y hy => ⟨(HX.out.below HBcw.out).2.2.2.1 y hy, by have := HT.out.2.2.2.2 y hy; omega⟩, (HX.out.below HBcw.out).2.2.2.2⟩ (by have := HT.out; omega) (by have := HLEN.out; simp; omega))
              obtain ⟨bw, hbew⟩ : ∃ b, eList eWri lw = b := ⟨_, rfl⟩
              rw [List.nil_append, hbew] at HP
              have HEw := hid hbew
              have hblw : bw.length ≤ 4000 := by rw [← hbew]; have := HLEN.out; omega
              clear hbew
              go_wp2_with fail
              refine HP.out.mono ?_
              rintro e pw ⟨v1, rfl, ho1, hb1⟩
              obtain ⟨a1, c1, rfl⟩ := own_form ho1
              have HO1 := hid ho1
              have HBp := hid (HBcw.out.trans (hb1.mono HBcw.out.size))
              have HB1p := hid hb1
              clear ho1 hb1 HP
              go_wp2_with (at_builtin; refine append_byt rfl (.tmp 144) (.tmp 145) rfl cw.heap.size (.slice a1 bw.length c1) bw.length _ rfl HO1.out r _ rfl (HV.out.below HBp.out) HN.out (by omega) HB1p.out.size ?_; intro v2 qw hown2 hg2; obtain ⟨a2, c2, rfl⟩ := own_form hown2; have HBq1 := hid (below_own HB1p.out HO1.out hg2 HB1p.out.size (Nat.le_refl _)); have HOq := hid hown2; clear hown2 hg2)
              have hq : Byt qw (.slice a2 (bw.length + r.length) c2) (bw ++ r) := byt_of_own (by have h := HOq.out; rw [own_snoc] at h; exact h) (by rw [← HEw.out]; exact ((b8_list (fun y hy => b8_wri (HX.out.2.2.2.1 y hy).1)).append HV.out.1))
              have HBq := hid (HBcw.out.trans (HBq1.out.mono HBcw.out.size))
              refine (writes_any (bw ++ r) _ qw hq (own_nilOk HOq.out) (by rw [List.length_append]; omega)).mono ?_
              intro e uw hw
              obtain ⟨vvw, rrw, rfl, hbw, hVw, hRw⟩ := red_ok hw (by rw [← HEw.out]; exact back_wris lw (by have := HT.out; omega) hany (fun y hy => ⟨by have := HT.out.2.2.2.2 y hy; omega, (HX.out.2.2.2.1 y hy).1⟩) r)
              have HBuw := hid (HBq.out.trans (hbw.mono HBq.out.size))
              have HVvw := hid hVw
              have HVrw := hid hRw
              clear hq hw hbw hVw hRw HBq HBq1 HOq HB1p HO1 HBp
              clear y0 y1 y2 y3
              obtain ⟨y0, y1, y2, y3⟩ := HY.out _ HBuw.out
              obtain ⟨ds, hds, hws⟩ := wrs_of_lv HVvw.out (fun y hy => by obtain ⟨z, hz, rfl⟩ := List.mem_map.1 hy; have := HT.out.2.2.2.2 z hz; show z.l.length ≤ 60000; omega)
              have HQ := hid (sameWris_true _ lw _ _ uw ⟨fun y hy => (hws.1 y hy).1, hws.2⟩ (HX.out.below HBuw.out).2.2.2 (back_wris_same lw ds hany hds))
              clear hws hds
              go_wp2_with fail
              refine HQ.out.mono ?_
              rintro e w' ⟨rfl, m5, rfl⟩
              have HBm := hid (show Below uw.heap.size uw (uw.drewN m5) from ⟨rfl, rfl, rfl, Nat.le_refl _, fun _ _ => rfl⟩)
              have HVrz := hid (vbyt_byt (vbyt_below HBm.out HVrw.out))
              have HVr6 := hid ((HV.out.below HBuw.out).below HBm.out)
              have HBz : Hid (Below W.heap.size W (uw.drewN m5)) := hid (HBuw.out.trans (HBm.out.mono HBuw.out.size))
              obtain ⟨x9, hx9⟩ : ∃ x9, uw.drewN m5 = x9 := ⟨_, rfl⟩
              rw [hx9] at HBm HVrz HVr6 HBz ⊢
              clear y0 y1 y2 y3 HQ hx9
              go_wp2_with fail
              refine (equal_eq r _ _ x9 HVrz.out HVr6.out).mono ?_
              rintro e w' ⟨rfl, rfl⟩
              go_wp2_with fail
              go_meet
              exact HBz
            · go_wp2_with fail
              go_meet
              exact HBcw
          case rest =>
            have HBxw := hcut
            clear HBcw
            obtain ⟨y0, y1, y2, y3⟩ := HY.out _ HBxw.out
            go_wp2_with fail
            refine (HA.out _).mono ?_
            rintro e w9 ⟨rfl, hb9⟩
            have HB9 := hid (below_both HB0.out (HBxw.out.trans (hb9.mono HBxw.out.size)))
            clear hb9
            go_wp2
            go_ret
            exact ⟨rfl, HB9.out⟩
end Go.Proofs.Ytchpoddfjbopbaa
