/- again; what was read as what is put; the walk of the law WireOnce. -/
import Derived.Test.YtchpoddfjbopbaaVa
import Derived.Deep.DeepCutAuto
namespace Go.Proofs.Ytchpoddfjbopbaa
open Go.RowKit Go.Lib

def SaysB (b : Bool) (w : World) (e : Ending) (w' : World) : Prop := e = .returned (.bool b) ∧ Below w.heap.size w w'
set_option maxHeartbeats 2000000 in
set_option maxRecDepth 100000 in
theorem again_any (a b c : List Nat) (va vb vc : Value) (w : World) (ha : Byt w va a) (hb : Byt w vb b) (hnb : NilOk vb) (hc : Byt w vc c) (hnc : NilOk vc) (hl : b.length + c.length ≤ 60000) :
    Calls Try.prog 49 #[va, vb, vc] w (SaysB (decide (a = b ++ c)) w) := by
  have HC := hid (clone_any b vb w hb hnb (by omega))
  have HA := hid ha
  have HCc := hid hc
  have HN := hid hnc
  have H8 := hid (hb.1.append hc.1)
  obtain ⟨A1, k1, rfl⟩ := byt_form ha
  obtain ⟨A2, k2, rfl⟩ := byt_form hb
  obtain ⟨A3, k3, rfl⟩ := byt_form hc
  clear ha hb hc hnb hnc
  go_enter Try.func49, Try.ntmps49
  go_wp2_with (first | (go_at_call 50; refine HC.out.mono ?_; rintro e w1 ⟨v1, rfl, ho1, hb1⟩; obtain ⟨a1, c1, rfl⟩ := own_form ho1; have HO1 := hid ho1; have HB1 := hid hb1; clear ho1 hb1) | (at_builtin; refine append_byt rfl (.tmp 9) (.tmp 10) rfl w.heap.size (.slice a1 b.length c1) b.length _ rfl HO1.out c _ rfl (HCc.out.below HB1.out) HN.out (by omega) HB1.out.size ?_; intro v2 w2 hown2 hg2; obtain ⟨a2, c2, rfl⟩ := own_form hown2; have HB2 := hid (below_own HB1.out HO1.out hg2 HB1.out.size (Nat.le_refl _)); have HO2 := hid hown2; clear hown2 hg2))
  have hb2 : Byt w2 (.slice a2 (b.length + c.length) c2) (b ++ c) := byt_of_own (by have h := HO2.out; rw [own_snoc] at h; exact h) H8.out
  refine (equal_any a (b ++ c) _ _ w2 (HA.out.below HB2.out) hb2).mono ?_
  rintro e w3 ⟨rfl, rfl⟩
  clear hb2
  obtain ⟨q, hq⟩ : ∃ q, decide (a = b ++ c) = q := ⟨_, rfl⟩
  have HQ := hid hq
  rw [hq]
  clear hq
  go_wp2
  go_ret
  rw [HQ.out]
  exact ⟨rfl, HB2.out⟩

theorem red_two {α : Type} {D : Reads α} {V : World → Value → α → Prop} {n : Value} {w w' : World} {s : List Nat} {e : Ending} (h : Red D V n w s e w') :
    (∃ x t v r, D s = .ok (x, t) ∧ e = .returned (.tuple #[v, r, .int .i64 0]) ∧ Below w.heap.size w w' ∧ V w' v x ∧ VByt w' r t) ∨ (∃ er, D s = .error er ∧ er ≠ 0 ∧ e = .returned (.tuple #[n, .slice none 0 0, .int .i64 er]) ∧ Below w.heap.size w w') := by
  obtain ⟨v, r, er, rfl, hb, h⟩ := h
  rcases h with ⟨x', t', hd', rfl, hv, hr⟩ | ⟨hd', hne, rfl, rfl⟩
  · exact .inl ⟨x', t', v, r, hd', rfl, hb, hv, hr⟩
  · exact .inr ⟨er, hd', hne, rfl, hb⟩


set_option maxHeartbeats 4000000 in
set_option maxRecDepth 100000 in
theorem once_walk (s : List Nat) (v : Value) (w : World) (hv : Byt w v s) (hn : NilOk v) :
    Calls Try.prog 7 #[v] w (GoodB w) := by
  have HA := hid awake_any
  have HV := hid hv
  have HN := hid hn
  have hsl := byt_len hv
  obtain ⟨A, c, rfl⟩ := byt_form hv
  clear hv hn
  by_cases hbig : 1000 < s.length
  · have d1 : decide ((1000 : Int) < (s.length : Int)) = true := by simp; omega
    go_enter Try.func7, Try.ntmps7
    go_wp2_with fail
    refine (HA.out _).mono ?_
    rintro e w1 ⟨rfl, hb1⟩
    have HB1 := hid hb1
    clear hb1
    go_wp2
    go_ret
    exact ⟨rfl, HB1.out⟩
  · have d1 : decide ((1000 : Int) < (s.length : Int)) = false := by simp; omega
    go_enter Try.func7, Try.ntmps7
    go_wp2_with fail
    have HB := hid (Below.refl w.heap.size w)
    refine (int_any s _ w (HV.out.below HB.out) HN.out (by omega)).mono ?_
    rintro e w10 ⟨u10, r10, er10, rfl, hb10, h10⟩
    have HB10 := hid (below_both HB.out hb10)
    have H10 := hid h10
    clear hb10 h10 HB
    go_upto_region 4 with fail
    go_cut [40] (fun t wx => t = .bool false ∧ Hid (Below w.heap.size w wx))
    case first =>
      rcases H10.out with ⟨x, t, hd, rfl, hx, hr⟩ | ⟨hd, hne, rfl, rfl⟩
      · obtain ⟨b, hsb, hput⟩ := pb_int HV.out.1 hd hx
        have HSB := hid hsb
        have hbt : b.length + t.length ≤ 1000 := by have h := congrArg List.length hsb; rw [List.length_append] at h; omega
        have HP := hid hput
        have HR := hid hr
        clear hsb hput hd hx hr
        go_wp2_with fail
        refine HP.out.mono ?_
        rintro e w1 ⟨v1, rfl, hv1, hn1, hb1⟩
        have HAG := hid (again_any s b t _ v1 r10 w1 (HV.out.below (below_both HB10.out hb1)) hv1 hn1 (vbyt_byt (vbyt_below hb1 HR.out)) (vbyt_nil HR.out) (by omega))
        rw [decide_eq_true HSB.out] at HAG
        have HB1 := hid (below_both HB10.out hb1)
        clear hv1 hn1 hb1
        go_wp2_with fail
        refine HAG.out.mono ?_
        rintro e w2 ⟨rfl, hb2⟩
        have HB2 := hid (below_both HB1.out hb2)
        clear hb2
        go_wp2_with fail
        go_meet
        exact ⟨rfl, HB2⟩
      · have d2 : (er10 == 0) = false := by simpa using hne
        clear hne hd
        go_wp2_with fail
        go_meet
        exact ⟨rfl, HB10⟩
    case rest =>
      obtain ⟨rfl, HB⟩ := hcut
      clear H10 HB10
      go_wp2_with fail
      refine (bytes_any s _ wc (HV.out.below HB.out) HN.out (by omega)).mono ?_
      rintro e w20 ⟨u20, r20, er20, rfl, hb20, h20⟩
      have HB20 := hid (below_both HB.out hb20)
      have H20 := hid h20
      clear hb20 h20 HB
      go_upto_region 7 with fail
      go_cut [56] (fun t wx => t = .bool false ∧ Hid (Below w.heap.size w wx))
      case first =>
        rcases H20.out with ⟨x, t, hd, rfl, hx, hr⟩ | ⟨hd, hne, rfl, rfl⟩
        · obtain ⟨b, hsb, hput⟩ := pb_bytes (by omega) HV.out.1 hd hx
          have HSB := hid hsb
          have hbt : b.length + t.length ≤ 1000 := by have h := congrArg List.length hsb; rw [List.length_append] at h; omega
          have HP := hid hput
          have HR := hid hr
          clear hsb hput hd hx hr
          go_wp2_with fail
          refine HP.out.mono ?_
          rintro e w1 ⟨v1, rfl, hv1, hn1, hb1⟩
          have HAG := hid (again_any s b t _ v1 r20 w1 (HV.out.below (below_both HB20.out hb1)) hv1 hn1 (vbyt_byt (vbyt_below hb1 HR.out)) (vbyt_nil HR.out) (by omega))
          rw [decide_eq_true HSB.out] at HAG
          have HB1 := hid (below_both HB20.out hb1)
          clear hv1 hn1 hb1
          go_wp2_with fail
          refine HAG.out.mono ?_
          rintro e w2 ⟨rfl, hb2⟩
          have HB2 := hid (below_both HB1.out hb2)
          clear hb2
          go_wp2_with fail
          go_meet
          exact ⟨rfl, HB2⟩
        · have d2 : (er20 == 0) = false := by simpa using hne
          clear hne hd
          go_wp2_with fail
          go_meet
          exact ⟨rfl, HB20⟩
      case rest =>
        obtain ⟨rfl, HB⟩ := hcut
        clear H20 HB20
        go_wp2_with fail
        refine (ints_any s _ wc (HV.out.below HB.out) HN.out (by omega)).mono ?_
        rintro e w30 ⟨u30, r30, er30, rfl, hb30, h30⟩
        have HB30 := hid (below_both HB.out hb30)
        have H30 := hid h30
        clear hb30 h30 HB
        go_upto_region 10 with fail
        go_cut [72] (fun t wx => t = .bool false ∧ Hid (Below w.heap.size w wx))
        case first =>
          rcases H30.out with ⟨x, t, hd, rfl, hx, hr⟩ | ⟨hd, hne, rfl, rfl⟩
          · obtain ⟨b, hsb, hput⟩ := pb_ints (by omega) HV.out.1 hd hx
            have HSB := hid hsb
            have hbt : b.length + t.length ≤ 1000 := by have h := congrArg List.length hsb; rw [List.length_append] at h; omega
            have HP := hid hput
            have HR := hid hr
            clear hsb hput hd hx hr
            go_wp2_with fail
            refine HP.out.mono ?_
            rintro e w1 ⟨v1, rfl, hv1, hn1, hb1⟩
            have HAG := hid (again_any s b t _ v1 r30 w1 (HV.out.below (below_both HB30.out hb1)) hv1 hn1 (vbyt_byt (vbyt_below hb1 HR.out)) (vbyt_nil HR.out) (by omega))
            rw [decide_eq_true HSB.out] at HAG
            have HB1 := hid (below_both HB30.out hb1)
            clear hv1 hn1 hb1
            go_wp2_with fail
            refine HAG.out.mono ?_
            rintro e w2 ⟨rfl, hb2⟩
            have HB2 := hid (below_both HB1.out hb2)
            clear hb2
            go_wp2_with fail
            go_meet
            exact ⟨rfl, HB2⟩
          · have d2 : (er30 == 0) = false := by simpa using hne
            clear hne hd
            go_wp2_with fail
            go_meet
            exact ⟨rfl, HB30⟩
        case rest =>
          obtain ⟨rfl, HB⟩ := hcut
          clear H30 HB30
          go_wp2_with fail
          refine (sectors_any s _ wc (HV.out.below HB.out) HN.out (by omega)).mono ?_
          rintro e w40 ⟨u40, r40, er40, rfl, hb40, h40⟩
          have HB40 := hid (below_both HB.out hb40)
          have H40 := hid h40
          clear hb40 h40 HB
          go_upto_region 13 with fail
          go_cut [88] (fun t wx => t = .bool false ∧ Hid (Below w.heap.size w wx))
          case first =>
            rcases H40.out with ⟨x, t, hd, rfl, hx, hr⟩ | ⟨hd, hne, rfl, rfl⟩
            · obtain ⟨b, hsb, hput⟩ := pb_secs (by omega) HV.out.1 hd hx
              have HSB := hid hsb
              have hbt : b.length + t.length ≤ 1000 := by have h := congrArg List.length hsb; rw [List.length_append] at h; omega
              have HP := hid hput
              have HR := hid hr
              clear hsb hput hd hx hr
              go_wp2_with fail
              refine HP.out.mono ?_
              rintro e w1 ⟨v1, rfl, hv1, hn1, hb1⟩
              have HAG := hid (again_any s b t _ v1 r40 w1 (HV.out.below (below_both HB40.out hb1)) hv1 hn1 (vbyt_byt (vbyt_below hb1 HR.out)) (vbyt_nil HR.out) (by omega))
              rw [decide_eq_true HSB.out] at HAG
              have HB1 := hid (below_both HB40.out hb1)
              clear hv1 hn1 hb1
              go_wp2_with fail
              refine HAG.out.mono ?_
              rintro e w2 ⟨rfl, hb2⟩
              have HB2 := hid (below_both HB1.out hb2)
              clear hb2
              go_wp2_with fail
              go_meet
              exact ⟨rfl, HB2⟩
            · have d2 : (er40 == 0) = false := by simpa using hne
              clear hne hd
              go_wp2_with fail
              go_meet
              exact ⟨rfl, HB40⟩
          case rest =>
            obtain ⟨rfl, HB⟩ := hcut
            clear H40 HB40
            go_wp2_with fail
            refine (extents_any s _ wc (HV.out.below HB.out) HN.out (by omega)).mono ?_
            rintro e w50 ⟨u50, r50, er50, rfl, hb50, h50⟩
            have HB50 := hid (below_both HB.out hb50)
            have H50 := hid h50
            clear hb50 h50 HB
            go_upto_region 16 with fail
            go_cut [104] (fun t wx => t = .bool false ∧ Hid (Below w.heap.size w wx))
            case first =>
              rcases H50.out with ⟨x, t, hd, rfl, hx, hr⟩ | ⟨hd, hne, rfl, rfl⟩
              · obtain ⟨b, hsb, hput⟩ := pb_exts (by omega) HV.out.1 hd hx
                have HSB := hid hsb
                have hbt : b.length + t.length ≤ 1000 := by have h := congrArg List.length hsb; rw [List.length_append] at h; omega
                have HP := hid hput
                have HR := hid hr
                clear hsb hput hd hx hr
                go_wp2_with fail
                refine HP.out.mono ?_
                rintro e w1 ⟨v1, rfl, hv1, hn1, hb1⟩
                have HAG := hid (again_any s b t _ v1 r50 w1 (HV.out.below (below_both HB50.out hb1)) hv1 hn1 (vbyt_byt (vbyt_below hb1 HR.out)) (vbyt_nil HR.out) (by omega))
                rw [decide_eq_true HSB.out] at HAG
                have HB1 := hid (below_both HB50.out hb1)
                clear hv1 hn1 hb1
                go_wp2_with fail
                refine HAG.out.mono ?_
                rintro e w2 ⟨rfl, hb2⟩
                have HB2 := hid (below_both HB1.out hb2)
                clear hb2
                go_wp2_with fail
                go_meet
                exact ⟨rfl, HB2⟩
              · have d2 : (er50 == 0) = false := by simpa using hne
                clear hne hd
                go_wp2_with fail
                go_meet
                exact ⟨rfl, HB50⟩
            case rest =>
              obtain ⟨rfl, HB⟩ := hcut
              clear H50 HB50
              go_wp2_with fail
              refine (writes_any s _ wc (HV.out.below HB.out) HN.out (by omega)).mono ?_
              rintro e w60 ⟨u60, r60, er60, rfl, hb60, h60⟩
              have HB60 := hid (below_both HB.out hb60)
              have H60 := hid h60
              clear hb60 h60 HB
              go_upto_region 19 with fail
              go_cut [120] (fun t wx => t = .bool false ∧ Hid (Below w.heap.size w wx))
              case first =>
                rcases H60.out with ⟨x, t, hd, rfl, hx, hr⟩ | ⟨hd, hne, rfl, rfl⟩
                · obtain ⟨b, hsb, hput⟩ := pb_wris (by omega) HV.out.1 hd hx
                  have HSB := hid hsb
                  have hbt : b.length + t.length ≤ 1000 := by have h := congrArg List.length hsb; rw [List.length_append] at h; omega
                  have HP := hid hput
                  have HR := hid hr
                  clear hsb hput hd hx hr
                  go_wp2_with fail
                  refine HP.out.mono ?_
                  rintro e w1 ⟨v1, rfl, hv1, hn1, hb1⟩
                  have HAG := hid (again_any s b t _ v1 r60 w1 (HV.out.below (below_both HB60.out hb1)) hv1 hn1 (vbyt_byt (vbyt_below hb1 HR.out)) (vbyt_nil HR.out) (by omega))
                  rw [decide_eq_true HSB.out] at HAG
                  have HB1 := hid (below_both HB60.out hb1)
                  clear hv1 hn1 hb1
                  go_wp2_with fail
                  refine HAG.out.mono ?_
                  rintro e w2 ⟨rfl, hb2⟩
                  have HB2 := hid (below_both HB1.out hb2)
                  clear hb2
                  go_wp2_with fail
                  go_meet
                  exact ⟨rfl, HB2⟩
                · have d2 : (er60 == 0) = false := by simpa using hne
                  clear hne hd
                  go_wp2_with fail
                  go_meet
                  exact ⟨rfl, HB60⟩
              case rest =>
                obtain ⟨rfl, HB⟩ := hcut
                clear H60 HB60
                go_wp2_with fail
                refine (HA.out _).mono ?_
                rintro e w1 ⟨rfl, hb1⟩
                have HB1 := hid (below_both HB.out hb1)
                clear hb1
                go_wp2
                go_ret
                exact ⟨rfl, HB1.out⟩
end Go.Proofs.Ytchpoddfjbopbaa
